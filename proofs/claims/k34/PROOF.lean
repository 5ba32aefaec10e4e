import PyProof.Rows.All
import Wide.All
import OpenK.AllK
import Wide.FinOn
import Lean
import PyProof.EqAt
import PyProof.EqKinds
import PyProof.TupleCall
import PySem.Challenge.RW_apart_k34_ends_amid_stretches
local macro_rules|`(tactic|exists $e,*)=>`(tactic|refine#[$e,*, ?_])
set_option maxHeartbeats 16000000
set_option Elab.async false
set_option linter.all false
set_option bootstrap.genMatcherCode false
set_option compiler.extract_closed false
set_option maxRecDepth 100000
set_option autoImplicit true
noncomputable section
open Lean in
def toPt:Nat->Syntax->MacroM (TSyntax `rcasesPat)
|0,_=>Macro.throwUnsupported
|n+1,x=>match x with
 |`(_)=>`(rcasesPat|_)
 |`($i:ident)=>`(rcasesPat|$i:ident)
 |`(($a,$b,*))=>do
  let l<-([a].toArray++b.getElems).mapM (toPt n)
  let m:TSyntaxArray `Lean.Parser.Tactic.rcasesPatLo<-l.mapM fun p=>`(Lean.Parser.Tactic.rcasesPatLo|$p:rcasesPat)
  `(rcasesPat|⟨$m,*⟩)
 |_=>Macro.throwUnsupported
open Lean in
local macro_rules|`(tactic|let $c:letConfig $d:letDecl)=>do
  let s:=d.raw[0]
  if s.isOfKind `Lean.Parser.Term.letPatDecl then
   let p<-toPt 9 s[0]
   let q<-`(Lean.Parser.Tactic.rcasesPatMed|$p:rcasesPat)
   let e:Term:=⟨s[4]⟩
   `(tactic|obtain $q:rcasesPatMed:=$e) else `(tactic|have $c:letConfig $d:letDecl)
local macro_rules|`(#[$a,*])=>`(⟨$a,*⟩)
local macro_rules|`(tactic|nofun)=>`(tactic|extract_lets)
open Option renaming some->eH,none->eI
open Bool renaming true->eJ,false->eK
open _root_ renaming List->eL,Option->eM,Int->eN,Nat->eO,if_neg->eP,if_pos->eQ,absurd->eR,decide_eq_false->fA,decide_eq_true->fB,of_decide_eq_true->fC,of_decide_eq_false->fD,congrArg->fE,Array->fF,decide_eq_true_eq->fG,or_false->fH,Bool->fJ
open PySem renaming Str->eZ
abbrev eS:=eL (eL PySem.Str)
abbrev eT:=eL (PySem.Str×PySem.Str)
abbrev eU:=eL PySem.Str
theorem eY{α:Sort u}{a:α}:a=a:=rfl
open PySem.W renaming Frag->Aa,mg_none_of->AO,findIn->AR,nsIn->AY,emptyDict->BM,keepIn->BV,instObj->Cj,fnOf->Cw,hideAll->Cz,plainGet->CK,hasDictIn->Dh,excIn->Dy,mg_of->D3,hideAll_get->DA,plainOver->Ec,makesIn->E1,plainGet_of->EH,lookIn->EK,callWith_K->EX,methodObj->Fi,isFn->Fy,takerIn->FP,OpenLaw->FR,cellsFrom_some->FV,methodCall_KW->Gi,codeIn->Gj,hideAll_none->Gx,of_hideAll->Hq,handedIn->HS,WalkO->II
open List renaming mem_append->Ab,length_map->Ad,mem_singleton->Ae,mem_cons_self->Af,getElem?_eq_getElem->Ag,mem_cons_of_mem->Ah,length_append->Ai,mem_cons->Ak,getElem?_eq_some_iff->An,mem_of_getElem?->Aq,getElem?_map->Ar,not_mem_nil->As,mem_map->Au,map_append->Av,length_cons->Aw,getD_eq_getElem?_getD->Ay,append_nil->A0,length_singleton->A2,size_toArray->A3,append_assoc->A5,map_cons->A8,nodup_append->AE,nodup_cons->AI,take_add_one->AJ,length_take->AL,getElem_mem->AM,take_length->AN,flatten_cons->AQ,any_eq_true->AS,range->AU,nodup_nil->AV,find?_cons->AZ,mem_range->Ba,mem_filter->Bc,mem_of_find?_eq_some->Bg,flatten_append->Bh,all_eq_true->Bm,length_drop->Bq,mem_flatten->Bt,length_range->Bu,reverse_cons->Bv,mem_of_mem_take->Bw,mem_append_right->B0,length_filter_le->B2,map_map->B3,getElem?_of_mem->BB,take_of_length_le->BC,map_nil->BG,filterMap_cons->BN,getElem?_eq_none->BO,take_zero->BX,mem_filterMap->Cg,find?_eq_none->Ci,eq_nil_of_length_eq_zero->Cp,filter_cons->Cs,flatten_nil->Ct,singleton_append->CB,find?_some->CC,getElem?_append_right->CD,getElem?_append_left->CI,length_reverse->CP,map_inj_right->Da,nil_append->De,length_pos_of_mem->Df,getElem?_toArray->Dk,filterMap_append->Dl,take_append_drop->Ds,mem_of_mem_drop->Dv,any_cons->Dx,lookup->D8,map_congr_left->DC,filter_sublist->DD,reverse_append->DE,getElem?_eq_none_iff->DG,length_nil->DI,drop_eq_getElem_cons->DJ,filterMap_map->DN,filter_append->DQ,any_map->DT,length_erase_of_mem->DU,drop_zero->DX,getElem?_cons_succ->DZ,reverse_singleton->Eh,nodup_range->Ej,dropLast_eq_take->Eu,eraseIdxIfInBounds_toArray->Ey,filter_nil->E8,filter_map->EC,mem_erase_of_ne->ED,all_map->EE,filterMap->ES,length_eraseIdx_of_lt->Ff,sum_cons->Fg,take_sublist->Fk,filter_congr->Fq,foldl_append->Ft,cons_append->FE,cons_ne_nil->FK,of_mem_zip->FQ,getElem?_set_self->FU,length->FW,length_eq_one_iff->FY,map_id->Gc,flatten_singleton->Gg,mem_append_left->Gz,getElem?_set_ne->G7,length_dropLast->GD,mem_iff_getElem->GV,getElem?_range->Hi,getElem_of_mem->Hj,filterMap_some->Hl,ext_getElem?->HG,find?_isSome->HI,find?_append->HJ,pairwise_map->HK,getElem_inj->HQ,lookup_cons->HY,zipIdx_cons->Ib,drop_length->Ie,countP_cons->Ig,zipIdx_nil->Iu,forIn_cons->Iv,forIn_nil->IB,all_cons->IH,map_drop->IK,map_take->IM,filter->IX
open PySem renaming wpAny_bind->Ac,wpAny_pure->Al,Spec->A9,wpAny_newObj_type->AX,wpAny_setField_rec->Bf,wpAny_call_entry->Bl,wpAny_field->Bo,wpAny_callSpecial?_slot->Bp,boot_len->Bs,wpAny_mono->B8,mem_of_lookup->BE,wpAny_holding->BI,wpAny_truthy_bool->BL,wpAny_seqItems->BY,codeAny_builtin->Cm,wpAny_passesOwn->C0,builtinLookup_eq_fast->CA,plainId_quiet->CT,wpAny_attempt->CU,wpAny_rule->CV,tupleKind_room_in1->CY,wpAny_typeNameOfWhole_keyiter->Dg,wpAny_setState_of->Di,codeAny_mono->Dj,wpAny_isInstance->Dt,sizeLine_eq->D6,typeLookup_type->DH,wpAny_pyIter_tuple->DL,wpAny_Call_Name_kw->DM,wpAny_typeNameOf_keyiter->DS,wpAny_pyIter_list->Eb,wpAny_Call_method->Ed,wpAny_isOneOf_keyiter->El,wpAny_execs_nil->Ez,wpAny_typeOf->E2,wpAny_specialOf->E5,call_meetsIn->EA,wpAny_setEntries_of->EI,isSubtype_type->EL,wpAny_fieldsOf->EO,isSubtype_stop->ER,wpAny_setField->EU,wpAny_assign_Name->Fj,fits_of_scanBound->Fm,wpAny_pyIter_slot->Fn,wpAny_setEpoch_of->Fo,wpAny_askSetting->FA,wpAny_of_eq->FX,wpAny_isTrue_Compare1->Gh,entryFor_alias->Gn,wpAny_notOrdered_dict->Gu,typeIs_str->G8,call_meets->G9,lookup_relabel_local->GQ,codeAny_call_builtin->GX,wpAny_pyIter_keyiter->GY,wpAny_updateSeq_pair->Ha,wpAny_standAt->Hb,wpAny_onRaise->Hd,wpAny_raiseNew_none->Hk,Within->Ho,seqIndex_neg->Hw,putSet_of->Hy,slot_list_getitem->HC,wpAny_storeSet_of->HE,wpAny_dictEntries->HH,seqIndex_of->HP,wpAny_execs_cons->HR,wpAny_Dict_empty->HX,wpAny_pyIter_zip->Ic,wpAny_Name->Ih,wpAny_load->Ii,wpAny_call->Ij,call->Im,strKind_is->Ip,KeyKind->IF,Builtin->IJ
open PySem.Heap renaming get?_push_of_some->Aj,get?_push_size->Ax,lt_size->A1,size_push->B1,SameBut->BF,get?_update_self->BH,get?_update_other->Cb,ExtBut->Ga,get?_none_of_le->Gy,IsTuple->IT
open Option.some renaming inj->Am
open Nat renaming le_refl->Ao,ne_of_lt->AA,le_trans->AB,zero_le->AC,lt_of_lt_of_le->AD,lt_of_le_of_lt->AH,lt_irrefl->Bb,le_of_lt->B6,lt_succ_self->B7,ne_of_gt->BP,le_add_right->Cf,lt_succ_of_lt->Co,mul_le_mul_right->Du,add_le_add_left->DB,lt_trans->DR,le_succ->Ef,sub_zero->E7,sub_self->EB,lt_or_gt_of_ne->Fb,le_of_not_lt->Fz,min_eq_right->FF,zero_add->FH,min_eq_left->FS,not_lt_zero->FT,max_le->GZ,le_of_eq->Ht,min_le_right->HU,min_le_left->Iq,succ_mul->IR
open Bool renaming false_ne_true->Az,eq_iff_iff->Bd,and_eq_true->Br,false_eq_true->B4,false_or->Dz,or_eq_true->Iw,false_and->Iy,and_false->Iz,or_false->IG,true_and->IL,true_or->IQ
open PySem.Paired renaming length->A4,snoc->IW
open PySem.PassesOwn renaming never->A7
open Ne renaming symm->AF
open Array renaming length_toList->AG,getElem?_toList->B9,eq_empty_of_size_eq_zero->E4,toList_append->EJ,getElem?_eq_getElem->Fw,append_assoc->Hr,find?_toList->Hs,toList_push->HD,toList->IP
open PySem.F renaming plainAttrs_list->AK,slot_list_append->By,type_list_append->Bz,slot_tuple_iterator_next->CF,slot_list_extend->CN,type_list_extend->CO,slot_list_pop->CQ,plainAttrs_dict->CS,slot_enumerate_next->Dq,slot_NoneType_hash->Dw,slot_dict_keyiterator_next->Ee,slot_dict_get->Ek,type_list_pop->Es,slot_zip_next->EF,slot_dict_setdefault->ET,args_tuple_iterator_next_1->EV,entry_tuple_iterator_next->EZ,plain_extend_loop->Fu,slot_dict_update->FI,plain_list_iadd->FL,args_dict_get_3->FM,args_enumerate_next_1->FN,entry_dict_get->FZ,slot_dict_iter->Gb,entry_enumerate_next->Ge,plain_set_new->Gk,slot_set_iter->Gq,slot_dict_pop->Gr,args_zip_next_1->HM,entry_list_pop->HW,entry_zip_next->HZ
open Int renaming toNat_natCast->AW,emod_nonneg->BA,emod_lt_of_pos->BR,zero_add->Cd,toNat->CW,le_refl->EW,fdiv_eq_ediv_of_nonneg->Fd,mul_one->HN
open PySem.PyData renaming canLayAll0->Be,depthAll->Bn,canLay0->BK,depth->Ce,eqv->E6,strOk->IS
open Prod.mk renaming injEq->Bi
open PySem.Builtin.SmallTypes renaming ownedTupleIsFree->Bj,nextOf->BD,ownedTupleHandOut->DV
open Option renaming isSome_iff_exists->Bk,isSome_map->CH,getD_some->CM,map_eq_some_iff->Eg,map_some->E9,getD_none->HV
open PyProof.Rows renaming boot_list->Bx,boot_isinstance->B5,callWith_type1->BZ,boot_tuple->Ea,boot_dict->Ei,boot_set->Eo,boot_any->Ep,boot_int->Er,boot_all->Et,slot_tuple_getitem->Ew,boot_sorted->FG,boot_sum->Gw
open PySem.Str renaming ofString->BJ,length->Cu,cps_append->DY,empty->ID
open PySem.Calls renaming spliced_cons->BQ,callWith_builtin->Cc,evalArgs_plain->Ck,spliced_nil->CG,Name_function_global->Fc
open Sum.inl renaming inj->BS
open False renaming elim->BU
open PySem.Around renaming under_plainId->BW,under->Hu
open Sum.inr renaming inj->Ca
open PySem.Heap.SameBut renaming update->Cq
open PySem.SetTable renaming grown->Cr,below->EN
open PyProof.Rows.F renaming plain_set_update_loop->Cy,entry_set_update_loop->DP
open PySem.Builtin.Slice renaming slicePlaces->CJ,sliceAdjust->DF,sliceApplied->Fe
open PySem.Builtin.Tuple renaming tupleExact->CL
open PySem.Obj renaming data_mapFields->CZ,mapSeq->DW,isFreed_of_fields->Em,putSet->E3,mapFields->Fh,cls_mapFields->Fp
open List.Sublist renaming nodup->Dc
open Decidable renaming byContradiction->DK
open PySem.Builtin.List renaming listTooLong->DO,listExtendWith->EY,listSameRef->FD
open PySem.Value renaming isStrOf_shape->EG,isInt_shape->HB,isStrOf->IE,isInt->IU
open List.Perm renaming refl->EM,append_left->Gp
open PySem.Builtin.Frozenset renaming sizeOf->FC
open Prod renaming fst->FJ
open PySem.Builtin.Dict renaming updateFrom->FO,showsAll->Gv
open PySem.Shared renaming TypeIs->Hc,heap->IY
open PySem.SeqAt.EqAt renaming none_int->He,none_str->Hf,int_none->Hg,str_none->Hh,int_str->Hm,str_int->Hn,same->Ik
open PySem.Code renaming isFrame->Hv,frames->IV
open PySem.pickOrder renaming go->Hz
open List.Nodup renaming sublist->HA
open PySem.SetTable.below renaming go->HF
open List.Pairwise renaming imp->HL
open PySem.SeqAt renaming in_listAt->Il,EqAt->IZ
open PySem.Walks renaming list->Io
open List.cons renaming injEq->Ir
open Eq renaming symm->IA
open PySem.Manifest renaming find?->IC
open PySem renaming Addr->JA,sizeLine->JB,Value->JC,wpAny->JD,model->JE,starEach->JF,Shared->JG,mainGlobals->JH,Paired->JI,Stmt->JJ,assignEach->JK,foldedSetIterable->JL,compareOp->JM,behindInMarks->JN,backTo->JO,Heap->JP,Program->JQ,sysModules->JS,attributeBase->JT,relabel->JU,World->JV,pyNext->JW,swapsWith->JX,FuncData->JY,keywordEach->JZ,codeAny->Ja,strKind->Jb,rawInt->Jc,sliceBounds->Jd,binaryOp->Je,Around->Jf,IsPair->Jg,backToKw->Jh
noncomputable section
local macro_rules | `(tactic| decide) => `(tactic| decide +kernel)
open PySem PySem.Spec
namespace L2
open PyProof.Rows
theorem ta0_(h:True:=by first|exact .inl rfl|exact .inr rfl|assumption):True:=#[]
def a0_:=ta0_._auto_1
theorem ta1_(h:True:=by decide):True:=#[]
def a1_:=ta1_._auto_1
theorem ta2_(h:True:=by first|exact nobehind _ (by decide) (by decide)|rfl):True:=#[]
def a2_:=ta2_._auto_1
theorem ta3_(h:True:=by intro _;rfl):True:=#[]
def a3_:=ta3_._auto_1
theorem ta4_(h:True:=by rfl):True:=#[]
def a4_:=ta4_._auto_1
theorem ta5_(h:True:=by first|exact Or.inl rfl|exact Or.inr (Or.inl rfl)|exact Or.inr (Or.inr rfl)):True:=#[]
def a5_:=ta5_._auto_1
theorem ta6_(h:True:=by exact .inl rfl):True:=#[]
def a6_:=ta6_._auto_1
theorem ta7_(h:True:=by exact λ_ _=>rfl):True:=#[]
def a7_:=ta7_._auto_1
theorem ta8_(h:True:=by with_unfolding_all rfl):True:=#[]
def a8_:=ta8_._auto_1
theorem ta9_(h:True:=by exact#[eY,eY,eY,eY]):True:=#[]
def a9_:=ta9_._auto_1
theorem ta10_(h:True:=by repeat' first|with_unfolding_all rfl|constructor):True:=#[]
def a10_:=ta10_._auto_1
theorem ta11_(h:True:=by intro _ _ _ _ _ _ us hl;rcases us with _|⟨_,_|⟨_,_|⟨_,_|⟨_,_|⟨_,_|⟨_,_|⟨_,_⟩⟩⟩⟩⟩⟩⟩<;>first|rfl|cases hl):True:=#[]
def a11_:=ta11_._auto_1
abbrev Key:=Sum eN eZ
def r6:Key->JC->fJ
 |.inl k,v=>IU k v
 |.inr x,v=>IE x v
def keyH(w:JV):Key->eN
 |.inl k=>hashInt k
 |.inr x=>hashStr w x
theorem je:∀{k:Key}{v:JC},r6 k v=eJ->(∃i t,k=Sum.inl i/\v=Value.int i t)\/(∃x t,k=Sum.inr x/\v=Value.str x t)
 |.inl i,v,h=>by
  let(t,e):=HB (k:=i) (v:=v) h;exact .inl #[i,t,eY,e]
 |.inr x,v,h=>by
  let(t,e):=EG (x:=x) (v:=v) h;exact .inr #[x,t,eY,e]
theorem a5w(i:eN)(t:Tok):r6 (.inl i) (.int i t)=eJ:=by simp[r6,IU]
theorem a76(x:eZ)(t:Tok):r6 (.inr x) (.str x t)=eJ:=by simp[r6,IE]
theorem aex(a b:eN):decide ((Sum.inl a:Key)=Sum.inl b)=(a==b):=by
 by_cases e:a=b;subst e;simp;let h:¬ (Sum.inl a:Key)=Sum.inl b:=λq=>e (BS q);rw[fA h];exact(beq_eq_false_iff_ne.mpr e).symm
theorem aem(a b:eZ):decide ((Sum.inr a:Key)=Sum.inr b)=decide (a=b):=by
 by_cases e:a=b;subst e;simp;let h:¬ (Sum.inr a:Key)=Sum.inr b:=λq=>e (Ca q);rw[fA h,fA e]
theorem afb(a:eN)(b:eZ):decide ((Sum.inl a:Key)=Sum.inr b)=eK:=fA (λq=>nomatch q)
theorem afa(a:eZ)(b:eN):decide ((Sum.inr a:Key)=Sum.inl b)=eK:=fA (λq=>nomatch q)
def gu(prog:JQ)(w:JV):IF prog w Key where
 is:=r6
 hash:=keyH w
 inj:=λv a b ha hb=>by
  rcases je ha with⟨i,t,rfl,rfl⟩|⟨x,t,rfl,rfl⟩
  . rcases je hb with⟨j,u,rfl,e⟩|⟨y,u,rfl,e⟩
    . injection e with e1 _;rw[e1]
    exact nomatch e
  rcases je hb with⟨j,u,rfl,e⟩|⟨y,u,rfl,e⟩
  . exact nomatch e
  injection e with e1 _;rw[e1]
 byValue:=λk v h=>by
  rcases je h with⟨i,t,rfl,rfl⟩|⟨x,t,rfl,rfl⟩<;>rfl
 pyHash:=λhv h=>by
  rcases je hv with⟨i,t,rfl,rfl⟩|⟨x,t,rfl,rfl⟩
  . exact wpAny_pyHash_int h
  exact wpAny_pyHash_str h
 eqBool:=λhu hv h=>by
  rcases je hu with⟨i,t,rfl,rfl⟩|⟨x,t,rfl,rfl⟩
  . rcases je hv with⟨j,u,rfl,rfl⟩|⟨y,u,rfl,rfl⟩
    . rw[aex] at h;exact wpAny_eqBool_int h
    rw[afb] at h;exact Hm i t y u _ _ _ _ h
  rcases je hv with⟨j,u,rfl,rfl⟩|⟨y,u,rfl,rfl⟩
  . rw[afa] at h;exact Hn x t j u _ _ _ _ h
  rw[aem] at h;exact wpAny_eqBool_str h
 «strs» := λk x t v h=>by
  rcases je h with⟨i,u,rfl,e⟩|⟨y,u,rfl,e⟩
  . exact nomatch e
  injection e with e1 _;subst e1;cases v<;>rfl
theorem a47(prog:JQ)(w:JV)(k:Key)(v:JC):(gu prog w).is k v=r6 k v:=rfl
theorem a25(prog:JQ)(w:JV)(i:eN)(t:Tok):(gu prog w).is (.inl i) (.int i t)=eJ:=a5w i t
theorem a21(prog:JQ)(w:JV)(x:eZ)(t:Tok):(gu prog w).is (.inr x) (.str x t)=eJ:=a76 x t
inductive V where
 |non|bl (b:fJ)|int (i:eN)|str (x:eZ)|byt (b:fF UInt8)|flt (b:UInt64)|ref (a:JA)|ty (n:String)
 deriving DecidableEq
def RelV:V->JC->Prop
 |.non,u=>u=Value.none
 |.bl b,u=>u=Value.bool b
 |.int i,u=>∃t,u=Value.int i t
 |.str x,u=>∃t,u=Value.str x t
 |.byt b,u=>∃t,u=Value.bytes b t
 |.flt b,u=>∃t,u=Value.float b t
 |.ref a,u=>u=Value.ref a
 |.ty n,u=>u=Value.type n
abbrev Vals:eL V->eL JC->Prop:=JI RelV
theorem Vals.length(r:Vals xs us):xs.length=us.length:=A4 r
theorem Vals.get:∀{xs:eL V}{us:eL JC}{i:eO}{x:V},Vals xs us->xs[i]?=eH x->∃u,us[i]?=eH u/\RelV x u
 |_,_,_,_,.nil,e=>by simp at e
 |_,_,0,_,.cons r _,e=>by simp at e;subst e;exact#[_,eY,r]
 |_,_,i+1,x,.cons _ t,e=>by
  let(u,h1,h2):=Vals.get (i:=i) (x:=x) t (by simpa using e);exact#[u,by simpa using h1,h2]
theorem Vals.set(r:RelV x u):∀{xs:eL V}{us:eL JC}(i:eO),Vals xs us->Vals (xs.set i x) (us.set i u)
 |_,_,_,.nil=>.nil
 |_,_,0,.cons _ t=>.cons r t
 |_,_,i+1,.cons q t=>.cons q (Vals.set r i t)
theorem Vals.append:∀{xs ys:eL V}{us a:eL JC},Vals xs us->Vals ys a->Vals (xs++ys) (us++a)
 |_,_,_,_,.nil,s=>s
 |_,_,_,_,.cons r t,s=>.cons r (Vals.append t s)
theorem Vals.take:∀{xs:eL V}{us:eL JC}(n:eO),Vals xs us->Vals (xs.take n) (us.take n)
 |_,_,0,_=>.nil
 |_,_,_+1,.nil=>.nil
 |_,_,n+1,.cons r t=>.cons r (Vals.take n t)
theorem Vals.drop:∀{xs:eL V}{us:eL JC}(n:eO),Vals xs us->Vals (xs.drop n) (us.drop n)
 |_,_,0,r=>r
 |_,_,_+1,.nil=>.nil
 |_,_,n+1,.cons _ t=>Vals.drop n t
def RelO:eM V->eM JC->Prop
 |some v,eH u=>RelV v u
 |none,eI=>True
 |_,_=>False
def KV{κ:Type}:eL (κ×V)->eL (κ×JC)->Prop:=JI λ(p:κ×V) (q:κ×JC)=>p.1=q.1/\RelV p.2 q.2
def kV:Key->V
 |.inl i=>.int i
 |.inr x=>.str x
inductive HO where
 |lst (xs:eL V)
 |tup (xs:eL V)
 |dK (kvs:eL (Key×V))|dT (kvs:eL (eL Key×V))
 |set (S:eN->fJ)(n:eO)
 |ins (C dx:JA)(fs:eL (eZ×V))
 |own (x:JA)
 |xd (fs:eL (eZ×V))
 |met (f x:JA)
 |rng (lo hi:eN)
 |frz (o:Obj)(u:HO)
 |tbl (ps:fF JC)
 |ext (φ:JP->Prop)
abbrev Hp:=JA->eM HO
def upd(H:Hp)(a:JA)(o:HO):Hp:=λb=>if b=a then eH o else H b
theorem fb:upd H a o a=eH o:=by unfold upd;rw[eQ rfl]
theorem fg(h:b≠a):upd H a o b=H b:=by unfold upd;rw[eP h]
theorem j1{H:Hp}(h:H a=eH o)(h':H b=eH u)(d:o≠u):a≠b:=by
 intro e;subst e;rw[h] at h';exact d (Am h')
theorem gb{H:Hp}(h:H a=eH o)(h':H b=eI):a≠b:=by
 intro e;subst e;rw[h] at h';cases h'
section
variable(P:JQ)(w:JV) in
def ObjOk(H:Hp)(h:JP)(a:JA):HO->Prop
 |.lst xs=>xs.length<=JB/\∃(its:eL JC) (n:eO),Vals xs its/\h.get? a=eH {cls:=.type "list",data:=.seq its.toArray n}
 |.tup xs=>xs.length<=JB/\∃its:eL JC,Vals xs its/\IsTup h a its.toArray
 |.dK kvs=>kvs.length<=JB/\(a==JS)=eK/\∃vs,KV kvs vs/\h.DictOf (gu P w) a vs
 |.dT kvs=>kvs.length<=JB/\(a==JS)=eK/\∃xs:eL (eL Key×JA×JC),
  JI (λ(p:eL Key×V) (q:eL Key×JA×JC)=>p.1=q.1/\H q.2.1=eH (.tup (p.1.map kV))/\RelV p.2 q.2.2) kvs xs/\
  ∃o es ep,h.get? a=eH o/\o.ExactDict/\o.data=.dict es ep/\es.toList=xs.map (entryOfKey (tupleKind (gu P w)))/\(xs.map (·.1)).Nodup
 |.set S n=>h.SetOf (intKind P w) a S n
 |.ins C dx fs=>H dx=eH (.own a)/\fs.length<=1000/\dx≠a/\h.get? a=eH (Cj C dx)/\
  ∃mA,h.Ns1 dx mA/\(∀f,RelO (fs.lookup f) (mA f))/\Ho mA (fs.map (·.1))
 |.own _=>∃o,h.get? a=eH o
 |.xd fs=>∃mA,h.Ns1 a mA/\∀f,RelO (fs.lookup f) (mA f)
 |.rng lo hi=>∃t u v,h.get? a=eH {cls:=.type "range",data:=.fields [.int lo t,.int hi u,.int 1 v].toArray}
 |.frz o u=>h.get? a=eH o/\ObjOk H h a u
 |.tbl ps=>h.get? a=eH {cls:=.none,data:=.fields ps}
 |.met f x=>h.get? a=eH (Fi (.ref f) (.ref x))
 |.ext φ=>φ h/\(∃o,h.get? a=eH o)/\∀h1 h2:JP,φ h1->(∀o,h1.get? a=eH o->h2.get? a=eH o)->φ h2
def HOk(P:JQ)(w:JV)(H:Hp)(h:JP):Prop:=∀a o,H a=eH o->ObjOk P w H h a o
end
section
theorem ObjOk.lt(x:ObjOk P w H h a o):a<h.objs.size:=by
 cases o with|lst xs=>let(_,_,_,_,e):=x;exact A1 e|tup xs=>let(_,_,_,p):=x;exact p.lt|dK kvs=>let(_,_,_,_,o,_,_,e,_):=x;exact A1 e|dT kvs=>let(_,_,_,_,o,_,_,e,_):=x;exact A1 e|set S n=>let(o,_,_,_,e,_):=x;exact A1 e|ins C dx fs=>let(_,_,_,e,_):=x;exact A1 e|own y=>let(_,e):=x;exact A1 e|xd fs=>let(_,(_,_,_,e,_),_):=x;exact A1 e|rng lo hi=>let(_,_,_,e):=x;exact A1 e|frz ob u=>let(e,_):=x;exact A1 e|tbl ps=>exact A1 (show h.get? a=eH _ from x)|met f y=>exact A1 (show h.get? a=eH _ from x)|ext φ=>let(_,(_,e),_):=x;exact A1 e
variable{a:JA} in
theorem Paired.mapP{α β:Type}{F G:α->β->Prop}:∀{c:eL α}{l₂:eL β},JI F c l₂->(∀a b,F a b->G a b)->JI G c l₂
 |_,_,.nil,_=>.nil
 |_,_,.cons r t,f=>.cons (f _ _ r) (Paired.mapP t f)
theorem ObjOk.stay(x:ObjOk P w H h a o)(k:∀b u,(b=a\/H b=eH (.own a))->h.get? b=eH u->h'.get? b=eH u)(j:∀b,H b=eH (.own a)->H' b=eH (.own a))(i:∀b xs,H b=eH (.tup xs)->H' b=eH (.tup xs)):ObjOk P w H' h' a o:=by
 induction o with
 |lst xs=>let(z,its,n,r,e):=x;exact#[z,its,n,r,k _ _ (.inl rfl) e]
 |tup xs=>let(z,its,r,ob,e,c):=x;exact#[z,its,r,ob,k _ _ (.inl rfl) e,c]
 |dK kvs=>let(z,y,vs,r,ob,es,ep,e,c):=x;exact#[z,y,vs,r,ob,es,ep,k _ _ (.inl rfl) e,c]
 |dT kvs =>
  let(z,y,xs,r,ob,es,ep,e,c):=x;exact#[z,y,xs,Paired.mapP r λp q z=>#[z.1,i _ _ z.2.1,z.2.2],ob,es,ep,k _ _ (.inl rfl) e,c]
 |set S n=>let(ob,es,ep,t,e,c):=x;exact#[ob,es,ep,t,k _ _ (.inl rfl) e,c]
 |ins C dx fs =>
  let(d,z,ne,e,g,(od,es,ep,l,c),r):=x;exact#[j _ d,z,ne,k _ _ (.inl rfl) e,g,#[od,es,ep,k _ _ (.inr d) l,c],r]
 |own y=>let(ob,e):=x;exact#[ob,k _ _ (.inl rfl) e]
 |xd fs=>let(g,(od,es,ep,e,c),r):=x;exact#[g,#[od,es,ep,k _ _ (.inl rfl) e,c],r]
 |rng lo hi=>let(t,u,v,e):=x;exact#[t,u,v,k _ _ (.inl rfl) e]
 |frz ob u ih=>let(e,q):=x;exact#[k _ _ (.inl rfl) e,ih q]
 |tbl ps =>
  let e:h.get? a=eH {cls:=.none,data:=.fields ps}:=x;show h'.get? a=eH {cls:=.none,data:=.fields ps};exact k a _ (.inl rfl) e
 |met f y =>
  let e:h.get? a=eH (Fi (.ref f) (.ref y)):=x;show h'.get? a=eH (Fi (.ref f) (.ref y));exact k a _ (.inl rfl) e
 |ext φ=>let(p,(o,e),st):=x;exact#[st _ _ p λo q=>k _ _ (.inl rfl) q,#[o,k _ _ (.inl rfl) e],st]
theorem HOk.lt(x:HOk P w H h)(e:H a=eH o):a<h.objs.size:=(x a o e).lt
theorem HOk.fresh(x:HOk P w H h)(e:h.objs.size<=a):H a=eI:=by
 cases q:H a with|none=>rfl|some u=>exact eR (AD (x.lt q) e) (Bb _)
theorem HOk.kept(x:HOk P w H h)(k:∀b u,h.get? b=eH u->h'.get? b=eH u):HOk P w H h':=λa o e =>
 (x a o e).stay (λb u _ q=>k b u q) (λ_ q=>q) λ_ _ q=>q
theorem HOk.laid(x:HOk P w H h)(k:∀b u,h.get? b=eH u->h'.get? b=eH u)(hp:h.objs.size<=a)(new:ObjOk P w (upd H a o) h' a o):HOk P w (upd H a o) h':=λb u e=>by
 let hn:=x.fresh hp;by_cases d:b=a;subst d;rw[fb] at e;cases e;exact new;rw[fg d] at e;exact(x b u e).stay (λc v _ q=>k c v q) (λc q=>by rw[fg (gb q hn)];exact q) λc xs q=>by rw[fg (gb q hn)];exact q
end
def Rd(H:Hp)(a:JA)(u:HO):Prop:=H a=eH u\/∃o,H a=eH (.frz o u)
theorem Rd.ok(r:Rd H a u)(x:HOk P w H h):ObjOk P w H h a u:=by
 rcases r with r|⟨o,r⟩;exact x a u r;let(_,q):=x a _ r;exact q
def Mut:eM HO->Prop
 |some (.lst _)=>True
 |some (.dK _)=>True
 |some (.dT _)=>True
 |some (.set _ _)=>True
 |some (.ins _ _ _)=>True
 |some (.ext _)=>True
 |_=>False
theorem HOk.write(ok:HOk P w H h)(i:Mut (H x))(n:e=x\/H e=eH (.own x))(k:∀b u,b≠e->h.get? b=eH u->h'.get? b=eH u)(l:∃u,h'.get? e=eH u)(new:ObjOk P w (upd H x o) h' x o):HOk P w (upd H x o) h':=λb u q=>by
 let d:∀c y,H c=eH (.own y)->c≠x:=λc y r z=>by subst z;rw[r] at i;exact i
 let f:∀c xs,H c=eH (.tup xs)->c≠x:=λc xs r z=>by subst z;rw[r] at i;exact i
 by_cases g:b=x;subst g;rw[fb] at q;cases q;exact new
 rw[fg g] at q;by_cases a:b=e
 . let m:H b=eH (.own x):=by
    rcases n with z|z;exact eR (a.trans z) g;rw[a];exact z
   rw[q] at m;cases m;let(v,hv):=l;exact#[v,by rw[a];exact hv]
 refine(ok b u q).stay (λc v j r=>k c v ?_ r) (λc r=>by rw[fg (d c b r)];exact r) λc xs r=>by rw[fg (f c xs r)];exact r
 rcases j with rfl|j;exact a
 rintro rfl;rcases n with z|z;exact d c b j z;rw[j] at z;cases z;exact g rfl
structure Un(fs ex:eL JA)(H H':Hp)(h h':JP):Prop where
 keep:∀b o,h.get? b=eH o->H b=eI->b∉fs->b∉ex->h'.get? b=eH o
 slot:∀b o,h.get? b=eH o->H b=eI->b∈fs->b∉ex->∃sl,h'.get? b=eH {o with slots:=sl}
 free:∀b o,h.get? b=eH o->H b=eI->b∉ex->H' b=eI
 there:∀b o,h.get? b=eH o->b∉ex->∃o',h'.get? b=eH o'
 tups:∀b xs,H b=eH (.tup xs)->H' b=eH (.tup xs)
 frzs:∀b o u,H b=eH (.frz o u)->H' b=eH (.frz o u)
 tbls:∀b ps,H b=eH (.tbl ps)->∃more,H' b=eH (.tbl (ps++more))
theorem Un.any(u:Un fs ex H e h h1)(q:h.get? b=eH ob)(n:H b=eI)(c:b∉ex):∃d,h1.get? b=eH {ob with slots:=d}:=by
 by_cases a:b∈fs;exact u.slot b ob q n a c;exact#[ob.slots,u.keep b ob q n a c]
theorem Un.kept(k:∀b u,h.get? b=eH u->h'.get? b=eH u):Un fs ex H H h h' :=
 #[λb ob q _ _ _=>k b ob q,λb ob q _ _ _=>#[ob.slots,k b ob q],λ_ _ _ n _=>n,λb ob q _=>#[ob,k b ob q],λ_ _ q=>q,λ_ _ _ q=>q,λ_ ps q=>#[[].toArray,by rw[q];simp]]
theorem Un.refl:Un fs ex H H h h:=Un.kept λ_ _ q=>q
theorem Un.laid(k:∀b u,h.get? b=eH u->h'.get? b=eH u)(hp:h.objs.size<=a)(hn:H a=eI):Un fs ex H (upd H a o) h h' where
 keep:=λb u q _ _ _=>k b u q
 slot:=λb u q _ _ _=>#[u.slots,k b u q]
 free:=λb u q n _=>by rw[fg (AA (AD (A1 q) hp))];exact n
 there:=λb u q _=>#[u,k b u q]
 tups:=λb xs q=>by rw[fg (gb q hn)];exact q
 frzs:=λb u xs q=>by rw[fg (gb q hn)];exact q
 tbls:=λb ps q=>#[[].toArray,by rw[fg (gb q hn),q];simp]
theorem Un.write(c:Mut (H x))(i:e=x\/H e=eH (.own x))(k:∀b u,b≠e->h.get? b=eH u->h'.get? b=eH u)(d:∃u,h'.get? e=eH u):Un fs ex H (upd H x o) h h':=by
 let g:∀b,H b=eI->b≠x:=λb n z=>by subst z;rw[n] at c;exact c
 let f:∀b,H b=eI->b≠e:=λb n z=>by
  subst z;rcases i with r|r;exact g b n r;rw[n] at r;cases r
 let hm:∀b u,H b=eH u->¬ Mut (eH u)->b≠x:=λb u q nm z=>by subst z;rw[q] at c;exact nm c
 refine#[λb u q n _ _=>k b u (f b n) q,λb u q n _ _=>#[u.slots,k b u (f b n) q],λb u q n _=>by rw[fg (g b n)];exact n,λb u q _=>?_,
  λb xs q=>by rw[fg (hm b _ q λz=>z)];exact q,λb u xs q=>by rw[fg (hm b _ q λz=>z)];exact q,λb ps q=>#[[].toArray,by rw[fg (hm b _ q λz=>z),q];simp]]
 by_cases a:b=e;subst a;exact d;exact#[u,k b u a q]
def trk(h:JP)(H:Hp):eL JA:=(AU h.objs.size).filter λa=>(H a).isSome
def hidT(h:JP)(H:Hp):JP:=Cz h (trk h H)
theorem a72(h:JP)(H:Hp):(hidT h H).objs.size=h.objs.size:=PySem.W.hideAll_size _ _
theorem a8u(e:h.get? b=eH o)(n:H b=eI):(hidT h H).get? b=eH o :=
 DA _ e λhm=>by
  let q:(H b).isSome=eJ:=(Bc.mp hm).2;rw[n] at q;simp at q
theorem ad3(e:(hidT h H).get? b=eH o):h.get? b=eH o/\H b=eI:=by
 let a:h.get? b=eH o:=Hq (trk h H) e;exists a;cases q:H b with
 |none=>rfl
 |some x =>
  let hm:b∈trk h H:=Bc.mpr #[Ba.mpr (A1 a),by simp[q]];let z:(hidT h H).get? b=eI:=Gx (trk h H) hm;rw[z] at e;cases e
def ac7(g h:JP)(L:JA):eL (JA×Obj):=(AU h.objs.size).filterMap λa=>if a=L\/(g.get? a).isSome=eJ then eI else(h.get? a).map λo=>(a,o)
def rest(g h:JP)(L d:JA):eL (JA×Obj):=(ac7 g h L).filter λp=>decide (p.1≠d)
structure Mod(K:Aa)(mg:eZ->eM JC)(base:JP):Prop where
 kin:K.In base
 glob:base.Ns JH mg
 blt:∃mb,base.Ns builtinsNs mb/\∀x:eZ,x≠"__name__" -> mb x=bootBuiltins x
 nolimit:base.NoLimit
set_option genInjectivity false in
structure Cx where
 prog:JQ
 w:JV
 K:Aa
 mg:eZ->eM JC
 base:JP
 A:Jf
 N:eU
 s₀:JG
 H₀:Hp
 env:Env
 outer:eL Env
 stack:eL Env
 ex:eL JA
 fn:eZ->fJ
 calm:fJ
 pn:eL (JA×Obj)
 xe:JC->JG->Prop
def frs(l:eL Env):eL JA:=l.filterMap (·.frame)
abbrev Cx.fs(X:Cx):eL JA:=frs X.outer
def Vis(sc:Scope)(x:eZ):Prop:=sc.names.lookup x=eH .local\/sc.names.lookup x=eH .cell\/sc.names.lookup x=eH .free
def Loc(sc:Scope)(x:eZ):Prop:=sc.names.lookup x=eH .local\/sc.names.lookup x=eH .cell
def Look(env:Env)(h:JP)(m:eZ->eM JC)(x:eZ)(u:JC):Prop :=
 (env.kindOf x=eH .local/\m x=eH u)\/((env.kindOf x=eH .cell\/env.kindOf x=eH .free)/\∃c,env.cells.lookup x=eH c/\h.IsCell c (eH u))
structure Cx.Ok(X:Cx):Prop where
 mod:Mod X.K X.mg X.base
 kind:X.env.scope.kind=.function
 glob:X.env.globals=JH
 blt:X.env.builtins=builtinsNs
 above:X.s₀.heap.objs.size<=X.env.locals
 inj:∀x y c,X.env.cells.lookup x=eH c->X.env.cells.lookup y=eH c->x=y
 has:∀x,(X.env.kindOf x=eH .cell\/X.env.kindOf x=eH .free)->∃c,X.env.cells.lookup x=eH c
 cab:∀x c,X.fn x=eJ->X.env.cells.lookup x=eH c->X.s₀.heap.objs.size<=c
 hd:X.calm=eJ->X.A.handled=eI
 frames:X.A.frames=eH X.stack
 stk:X.stack=X.outer\/(X.stack=X.env::X.outer/\X.env.frame=eH X.env.locals)
 exf:∀b∈X.ex,b≠X.env.locals/\∀x c,X.env.cells.lookup x=eH c->c≠b
 bs:∀b o,X.base.get? b=eH o->X.s₀.heap.get? b=eH o/\X.H₀ b=eI
 bsz:X.base.objs.size<=X.s₀.heap.objs.size
 noex:∀b o,X.base.get? b=eH o->b∉X.ex
 exfs:∀b∈X.ex,b∉X.fs
 funs:X.s₀.heap.FunFrames X.base X.outer
 frf:∀b∈X.fs,X.H₀ b=eI
structure Inv(X:Cx)(pins:eL (JA×Obj))(σ:eL (eM V))(H:Hp)(s:JG):Prop where
 ok:X.Ok
 os:s.os=X.s₀.os
 bare:AllBare s.gens
 base:Un X.fs X.ex X.H₀ H X.s₀.heap s.heap
 loc:∃m,s.heap.Ns X.env.locals m/\∀(i:eO) (x:eZ) (v:V),X.N[i]?=eH x->σ[i]?=eH (eH v)->Vis X.env.scope x->∃u,RelV v u/\Look X.env s.heap m x u
 cell:∀x c,X.env.cells.lookup x=eH c->∃v,s.heap.IsCell c v
 free:H X.env.locals=eI
 freeC:∀x c,X.env.cells.lookup x=eH c->H c=eI
 pin:∀p∈X.pn++pins,s.heap.get? p.1=eH p.2/\H p.1=eI/\p.1≠X.env.locals/\p.1∉X.fs/\∀v,p.2.data≠.cell v
 hok:HOk X.prog X.w H s.heap
 len:σ.length=X.N.length
theorem Cx.Ok.nofr{X:Cx}(ok:X.Ok)(e:X.base.get? b=eH o):b∉X.fs:=λa=>by
 let:=(ok.funs.mem a).1;rw[e] at this;cases this
theorem Inv.bs(I:Inv X a σ H s):∀b o,X.base.get? b=eH o->s.heap.get? b=eH o/\H b=eI:=λb o e =>
 #[I.base.keep b o (I.ok.bs b o e).1 (I.ok.bs b o e).2 (I.ok.nofr e) (I.ok.noex b o e),I.base.free b o (I.ok.bs b o e).1 (I.ok.bs b o e).2 (I.ok.noex b o e)]
theorem Inv.bk(I:Inv X a σ H s):∀b o,X.base.get? b=eH o->s.heap.get? b=eH o:=λb o e=>(I.bs b o e).1
theorem Inv.mod(I:Inv X a σ H s):Mod X.K X.mg X.base:=I.ok.mod
theorem Inv.kIn(I:Inv X a σ H s):X.K.In s.heap:=I.ok.mod.kin.keeps I.bk
theorem Inv.lt(I:Inv X a σ H s):X.env.locals<s.heap.objs.size:=let ⟨_,hn,_⟩:=I.loc;hn.lt
theorem Inv.sz(I:Inv X a σ H s):X.s₀.heap.objs.size<=s.heap.objs.size:=AB I.ok.above (B6 I.lt)
theorem Inv.nofs(I:Inv X b σ H s)(h:s.heap.objs.size<=a):a∉X.fs:=λc=>by
 let(_,o,d,_):=I.ok.funs.mem c;exact eR (AD (A1 d) (AB I.sz h)) (Bb _)
theorem Inv.cne(I:Inv X d σ H s):∀x c,X.env.cells.lookup x=eH c->c≠X.env.locals:=λx c e z=>by
 let(v,o,f,hd):=I.cell x c e;let(m,(g,es,ep,a,b,_),_):=I.loc;rw[z,a] at f;cases f;rw[b] at hd;cases hd
theorem Inv.funs(I:Inv X f σ H s):s.heap.FunFrames X.base X.outer:=by
 let all:∀(l:eL Env),(∀b∈frs l,b∈X.fs)->X.s₀.heap.FunFrames X.base l->s.heap.FunFrames X.base l:=by
  intro l;induction l with
  |nil=>intro _ _;trivial
  |cons env r ih =>
   intro g hl;let(h,(L,o,d,hn,i,hd),j):=hl;let a:L∈X.fs:=g L (by unfold frs;rw[BN,d];exact Af);let(k,e):=I.base.slot L o i (I.ok.frf L a) a λz=>I.ok.exfs L z a;exact#[h,#[L,_,d,hn,e,hd],ih (λb c=>g b (by unfold frs;rw[BN,d];exact Ah _ c)) j]
 exact all X.outer (λ_ c=>c) I.ok.funs
theorem Inv.stack(I:Inv X a σ H s):s.heap.FunFrames X.base X.stack:=by
 rcases I.ok.stk with e|⟨e,b⟩;rw[e];exact I.funs;rw[e];let(m,hn,_):=I.loc;refine .cons (by rw[I.ok.kind];decide) b hn ?_ I.funs;exact Gy (AB I.ok.bsz I.ok.above)
theorem Inv.stkSub(I:Inv X c σ H s):∀b∈frs X.stack,b∈X.env.locals::X.fs:=λb a=>by
 rcases I.ok.stk with e|⟨e,d⟩;rw[e] at a;exact Ah _ a;rw[e] at a;unfold frs at a;rw[BN,d] at a;exact a
theorem Inv.stkFree(I:Inv X c σ H s):∀b∈frs X.stack,H b=eI:=λb a=>by
 rcases Ak.mp (I.stkSub b a) with e|a;rw[e];exact I.free;let(_,o,d,_):=I.ok.funs.mem a;exact I.base.free b o d (I.ok.frf b a) λz=>I.ok.exfs b z a
theorem Inv.step{ch:eL JA}(I:Inv X y σ H s)(f:∀b∈ch,(b∈X.ex\/X.s₀.heap.objs.size<=b)/\b≠X.env.locals/\(∀x c,X.env.cells.lookup x=eH c->c≠b)/\∀p∈X.pn++y,p.1≠b)(keep:∀b o,b≠X.env.locals->b∉X.fs->b∉ch->s.heap.get? b=eH o->H b=eI->h'.get? b=eH o)(slot:∀b o,b≠X.env.locals->b∈X.fs->b∉ch->s.heap.get? b=eH o->H b=eI->∃G,h'.get? b=eH {o with slots:=G})(free:∀b o,b∉ch->s.heap.get? b=eH o->H b=eI->H' b=eI)(there:∀b o,b∉ch->s.heap.get? b=eH o->∃C,h'.get? b=eH C)(tups:∀b xs,H b=eH (.tup xs)->H' b=eH (.tup xs))(frzs:∀b o u,H b=eH (.frz o u)->H' b=eH (.frz o u))(tbls:∀b ps,H b=eH (.tbl ps)->∃more,H' b=eH (.tbl (ps++more)))(ns:∀m,s.heap.Ns X.env.locals m->h'.Ns X.env.locals m)(hok:HOk X.prog X.w H' h')(O:AllBare g'):
 Inv X y σ H' {s with heap:=h',gens:=g',drawn:=d',toks:=t'}:=by
 let D:∀b o,X.s₀.heap.get? b=eH o->b≠X.env.locals:=λb o e=>AA (AD (A1 e) I.ok.above);let j:∀b o,X.s₀.heap.get? b=eH o->b∉X.ex->b∉ch:=λb o e a A=>by
  rcases(f b A).1 with z|z;exact a z;exact eR (AD (A1 e) z) (Bb _)
 let h:∀x c,X.env.cells.lookup x=eH c->∀v,s.heap.IsCell c v->h'.IsCell c v:=λx c e v #[o,B,hd]=>by
  let g:c∉ch:=λz=>(f c z).2.2.1 x c e rfl;by_cases J:c∈X.fs;let(G,q):=slot c o (I.cne x c e) J g B (I.freeC x c e);exact#[_,q,hd];exact#[o,keep c o (I.cne x c e) J g B (I.freeC x c e),hd]
 refine#[I.ok,I.os,O,#[λb o e n A a=>?_,λb o e n A a=>?_,λb o e n a=>?_,λb o e a=>?_,λb xs e=>tups b xs (I.base.tups b xs e),λb o xs e=>frzs b o xs (I.base.frzs b o xs e),λb ps e=>?_],?_,λx c e=>?_,?_,λx c e=>?_,λp hp=>?_,hok,I.len];exact keep b o (D b o e) A (j b o e a) (I.base.keep b o e n A a) (I.base.free b o e n a);let(G,t):=I.base.slot b o e n A a;let(F,E):=slot b _ (D b o e) A (j b o e a) t (I.base.free b o e n a);exact#[F,E];let(C,t):=I.base.there b o e a;exact free b C (j b o e a) t (I.base.free b o e n a);let(C,t):=I.base.there b o e a;exact there b C (j b o e a) t;let(M,t):=I.base.tbls b ps e;let(N,E):=tbls b _ t;exact#[M++N,by rw[E,Hr]];let(m,hn,hl):=I.loc;refine#[m,ns m hn,λi x v t E L=>?_];let(u,r,l):=hl i x v t E L;exists u,r;rcases l with l|⟨k,c,e,z⟩;exact .inl l;exact .inr #[k,c,e,h x c e _ z];let(v,z):=I.cell x c e;exact#[v,h x c e v z];let(m,(o,_,_,B,_),_):=I.loc;exact free _ o (λz=>(f _ z).2.1 rfl) B I.free;let(v,o,B,hd):=I.cell x c e;exact free c o (λz=>(f c z).2.2.1 x c e rfl) B (I.freeC x c e)
 let(e,n,ne,nf,d):=I.pin p hp;let g:p.1∉ch:=λz=>(f p.1 z).2.2.2 p hp rfl;exact#[keep p.1 p.2 ne nf g e n,free p.1 p.2 g e n,ne,nf,d]
theorem Inv.un(I:Inv X a σ H s)(u:Un X.fs [] H H' s.heap h')(hok:HOk X.prog X.w H' h'):Inv X a σ H' {s with heap:=h',toks:=t'}:=by
 let(m,(o,es,ep,h,r),_):=id I.loc;let(j,i):=u.any h I.free (by simp);exact I.step (g':=s.gens) (d':=s.drawn) (ch:=[]) (λ_ z=>nomatch z) (λb o _ d _ e n=>u.keep b o e n d (by simp)) (λb o _ d _ e n=>u.slot b o e n d (by simp)) (λb o _ e n=>u.free b o e n (by simp)) (λb o _ e=>u.there b o e (by simp)) u.tups u.frzs u.tbls (λk hm=>by
  let(l,f,g,c,r'):=hm;rw[h] at c;cases c;exact#[_,f,g,i,r']) hok I.bare
theorem Inv.call(I:Inv X a σ H s)(u:Un (frs X.stack) ch H H' s.heap h')(hok:HOk X.prog X.w H' h')(q:AllBare g')(g:∀b∈ch,(b∈X.ex\/X.s₀.heap.objs.size<=b)/\b≠X.env.locals/\(∀x c,X.env.cells.lookup x=eH c->c≠b)/\∀p∈X.pn++a,p.1≠b):
 Inv X a σ H' {s with heap:=h',gens:=g',drawn:=d',toks:=t'}:=by
 let(m,(o,es,ep,k,r),_):=id I.loc;let(y,i):=u.any k I.free λz=>(g _ z).2.1 rfl;exact I.step (ch:=ch) g (λb o i l d e n=>u.keep b o e n (λz=>(Ak.mp (I.stkSub b z)).elim i l) d) (λb o _ _ d e n=>u.any e n d) (λb o d e n=>u.free b o e n d) (λb o d e=>u.there b o e d) u.tups u.frzs u.tbls (λt hm=>by
  let(v,j,h,f,r'):=hm;rw[k] at f;cases f;exact#[_,j,h,i,r']) hok q
theorem Inv.turned(I:Inv X a σ H s)(k:∀b o,b≠it->s.heap.get? b=eH o->h'.get? b=eH o)(hn:H it=eI)(g:it≠X.env.locals)(h1:it∈X.ex\/X.s₀.heap.objs.size<=it)(h2:∀x c,X.env.cells.lookup x=eH c->c≠it)(h3:∀p∈X.pn++a,p.1≠it):Inv X a σ H {s with heap:=h',toks:=t'}:=by
 let f:∀b u,H b=eH u->b≠it:=λb u e z=>by rw[z,hn] at e;cases e
 refine I.step (g':=s.gens) (d':=s.drawn) (ch:=[it]) (λb h=>?_) (λb o _ _ d e _=>k b o (λz=>d (by simp[z])) e) (λb o _ _ d e _=>#[o.slots,k b o (λz=>d (by simp[z])) e]) (λ_ _ _ _ n=>n)
  (λb o d e=>#[o,k b o (λz=>d (by simp[z])) e]) (λ_ _ e=>e) (λ_ _ _ e=>e) (λb ps e=>#[[].toArray,by rw[e];simp]) (λm hm=>?_) (λb u e=>?_) I.bare
 . let e:b=it:=by simpa using h
   subst e;exact#[h1,g,h2,h3]
 . let(o,es,ep,i,r):=hm;exact#[o,es,ep,k _ o (AF g) i,r]
 refine(I.hok b u e).stay (λc v d q=>k c v ?_ q) (λ_ q=>q) λ_ _ q=>q;rcases d with z|z;rw[z];exact f b u e;exact f c _ z
theorem Inv.tok(I:Inv X a σ H s)(t:eO):Inv X a σ H {s with toks:=t}:=I.un (h':=s.heap) (t':=t) Un.refl I.hok
theorem Inv.kept(I:Inv X a σ H s)(k:∀b u,s.heap.get? b=eH u->h'.get? b=eH u):Inv X a σ H {s with heap:=h',toks:=t'}:=I.un (Un.kept k) (I.hok.kept k)
theorem Inv.laid(I:Inv X c σ H s)(k:∀b u,s.heap.get? b=eH u->h'.get? b=eH u)(hp:s.heap.objs.size<=a)(new:ObjOk X.prog X.w (upd H a o) h' a o):
 Inv X c σ (upd H a o) {s with heap:=h',toks:=t'}:=I.un (Un.laid k hp (I.hok.fresh hp)) (I.hok.laid k hp new)
theorem Inv.write(I:Inv X a σ H s)(d:Mut (H x))(f:e=x\/H e=eH (.own x))(k:∀b u,b≠e->s.heap.get? b=eH u->h'.get? b=eH u)(c:∃u,h'.get? e=eH u)(new:ObjOk X.prog X.w (upd H x o) h' x o):Inv X a σ (upd H x o) {s with heap:=h',toks:=t'}:=I.un (Un.write d f k c) (I.hok.write d f k c new)
theorem Inv.pins_of(I:Inv X b σ H s)(h:∀p∈a,s.heap.get? p.1=eH p.2/\H p.1=eI/\p.1≠X.env.locals/\p.1∉X.fs/\∀v,p.2.data≠.cell v):Inv X a σ H s :=
 #[I.ok,I.os,I.bare,I.base,I.loc,I.cell,I.free,I.freeC,λp hp=>(Ab.mp hp).elim (λz=>I.pin p (Gz _ z)) (h p),I.hok,I.len]
theorem a14{N:eU}(e:N.Nodup){i:eO}(a:N[i]?=eH x)(b:N[j]?=eH x):i=j:=by
 let(h1,d):=An.mp a;let(h2,c):=An.mp b;exact(HQ e).mp (d.trans c.symm)
theorem yn(I:Inv X U σ H s)(hN:X.N.Nodup)(hi:X.N[i]?=eH x)(B:Loc X.env.scope x)(r:RelV v u)(h:∀s',Inv X U (σ.set i (eH v)) H s'->(∃a,BF a s.heap s'.heap/\(a=X.env.locals\/X.env.cells.lookup x=eH a))->Q () s')(hf:autoParam (X.fn x=eJ\/X.env.scope.names.lookup x=eH .local) a0_):JD M A (storeName X.env x u) Q E s:=by
 let(m,hn,hl):=id I.loc;let R:(X.env.scope.kind==.class || (X.env.scope.kind==.module && X.env.locals != X.env.globals))=eK:=by rw[I.ok.kind];rfl
 let W:i<σ.length:=by rw[I.len];exact(An.mp hi).1
 let cne:=I.cne;let g:∀{a:JA} {h':JP},(∃o,s.heap.get? a=eH o/\H a=eI)->BF a s.heap h'->HOk X.prog X.w H h':=λ{a h'} ha f b ob e=>by
  let(_,_,C):=ha;refine(I.hok b ob e).stay (λc Z t q=>(f.2 c ?_).trans q) (λ_ q=>q) λ_ _ q=>q;rintro rfl;rcases t with rfl|t;rw[C] at e;cases e;rw[C] at t;cases t
 rcases B with F|F
 . refine wpAny_storeName_local F hn (λh' aa f=>?_) R;let(oL,_,_,ab,_):=id hn;refine h _ #[I.ok,I.os,I.bare,#[λb o e n L B=>?_,λb o e n L B=>?_,I.base.free,λb o e B=>?_,I.base.tups,I.base.frzs,I.base.tbls],#[_,aa,λj y v' l D e3=>?_],λy c e=>?_,I.free,I.freeC,λp hp=>?_,g #[oL,ab,I.free] f,by simpa using I.len] #[_,f,.inl rfl];exact(f.2 b (AA (AD (A1 e) I.ok.above))).trans (I.base.keep b o e n L B);let(sl,l):=I.base.slot b o e n L B;exact#[sl,(f.2 b (AA (AD (A1 e) I.ok.above))).trans l];let(o',l):=I.base.there b o e B;exact#[o',(f.2 b (AA (AD (A1 e) I.ok.above))).trans l]
   . by_cases G:j=i;subst G;rw[hi] at l;cases l;rw[FU W] at D;cases D;exact#[u,r,.inl #[F,by simp]]
     . rw[G7 (AF G)] at D;let(u',r',q):=hl j y v' l D e3;exists u',r';rcases q with⟨k,e⟩|⟨k,c,e,z⟩
       . refine .inl #[k,?_];let:y≠x:=λe=>G (a14 hN l (e ▸ hi));simp[this,e]
       exact .inr #[k,c,e,z.sameBut f (cne y c e)]
   . let(Z,z):=I.cell y c e;exact#[Z,z.sameBut f (cne y c e)]
   let(e,n,ne,nf,d):=I.pin p hp;exact#[(f.2 p.1 ne).trans e,n,ne,nf,d]
 let J:X.fn x=eJ:=by
  rcases hf with z|z;exact z;rw[z] at F;cases F
 let(c,t):=I.ok.has x (.inl F);let(Z,z):=I.cell x c t;refine wpAny_storeName_cell I.ok.kind F t z (λh' O f=>?_);let(oc,P,S):=id z;refine h {s with heap:=h'} #[I.ok,I.os,I.bare,#[λb o e n L B=>?_,λb o e n L B=>?_,I.base.free,λb o e B=>?_,I.base.tups,I.base.frzs,I.base.tbls],#[m,hn.sameBut f (AF (cne x c t)),λj y v' l D e3=>?_],λy Y e=>?_,I.free,I.freeC,λp hp=>?_,g #[oc,P,I.freeC x c t] f,by simpa using I.len] #[c,f,.inr t];exact(f.2 b (AA (AD (A1 e) (I.ok.cab x c J t)))).trans (I.base.keep b o e n L B);let(sl,l):=I.base.slot b o e n L B;exact#[sl,(f.2 b (AA (AD (A1 e) (I.ok.cab x c J t)))).trans l];let(o',l):=I.base.there b o e B;exact#[o',(f.2 b (AA (AD (A1 e) (I.ok.cab x c J t)))).trans l];by_cases G:j=i;subst G;rw[hi] at l;cases l;rw[FU W] at D;cases D;exact#[u,r,.inr #[.inl F,c,t,O]];rw[G7 (AF G)] at D;let(u',r',q):=hl j y v' l D e3;exists u',r';rcases q with q|⟨k,Y,e,z'⟩;exact .inl q;refine .inr #[k,Y,e,z'.sameBut f ?_];rintro rfl;exact G (a14 hN l (I.ok.inj _ _ _ e t ▸ hi));by_cases T:Y=c;subst T;exact#[_,O];let(w2,z2):=I.cell y Y e;exact#[w2,z2.sameBut f T]
 let(e,n,ne,nf,d):=I.pin p hp;refine#[(f.2 p.1 ?_).trans e,n,ne,nf,d];intro q;rw[q,P] at e;let q':oc=p.2:=Am e;exact d Z (by rw[<- q'];exact S)
theorem vf(I:Inv X a σ H s)(c:X.N.Nodup)(hi:X.N[i]?=eH x)(d:Loc X.env.scope x)(r:RelV v u)(h:∀s',Inv X a (σ.set i (eH v)) H s'->Q () s')(e:autoParam (X.fn x=eJ\/X.env.scope.names.lookup x=eH .local) a0_):JD M A (storeName X.env x u) Q E s :=
 yn I c hi d r (λs' b _=>h s' b) e
theorem Inv.call'(I:Inv X a σ H s)(g:s'.os=s.os)(u:Un (frs X.stack) ch H H' s.heap s'.heap)(hok:HOk X.prog X.w H' s'.heap)(f:AllBare s'.gens)(d:∀b∈ch,(b∈X.ex\/X.s₀.heap.objs.size<=b)/\b≠X.env.locals/\(∀x c,X.env.cells.lookup x=eH c->c≠b)/\∀p∈X.pn++a,p.1≠b):Inv X a σ H' s':=by
 let(h',g',d',t',h):=s';let e:h=s.os:=g;subst e;exact I.call (g':=g') (t':=t') (d':=d') u hok f d
abbrev XK:=JC->eM JA->Hp->Prop
abbrev St:=eL (eM V)
abbrev VK:=V->Hp->Prop
abbrev TE:=St->Hp->VK->Prop
abbrev TT:=St->Hp->(fJ->Hp->Prop)->Prop
abbrev TA:=St->Hp->(eL V->Hp->Prop)->Prop
structure Ends where
 nx:St->Hp->Prop
 rt:VK
 bk:St->Hp->Prop:=λ_ _=>False
 ct:St->Hp->Prop:=λ_ _=>False
abbrev TS:=Ends->St->Hp->Prop
inductive EPS(X:Cx)(pins:eL (JA×Obj))(σ:St)(Q:VK)(u:JC)(s':JG):Prop
 |mk (v:V)(H':Hp)(h0:Inv X pins σ H' s')(h1:RelV v u)(h2:Q v H'):EPS X pins σ Q u s'
def EP(X:Cx)(pins:eL (JA×Obj))(σ:St)(Q:VK)(u:JC)(s':JG):Prop:=EPS X pins σ Q u s'
def TP(X:Cx)(pins:eL (JA×Obj))(σ:St)(Q:fJ->Hp->Prop)(b:fJ)(s':JG):Prop:=∃H',Inv X pins σ H' s'/\Q b H'
inductive APS(X:Cx)(pins:eL (JA×Obj))(σ:St)(Q:eL V->Hp->Prop)(us:eL JC)(s':JG):Prop
 |mk (vs:eL V)(H':Hp)(h0:Inv X pins σ H' s')(h1:Vals vs us)(h2:Q vs H'):APS X pins σ Q us s'
def AP(X:Cx)(pins:eL (JA×Obj))(σ:St)(Q:eL V->Hp->Prop)(us:eL JC)(s':JG):Prop:=APS X pins σ Q us s'
def SP(X:Cx)(pins:eL (JA×Obj))(D:Ends)(f:Flow)(s':JG):Prop :=
 match f with
 |.next=>∃σ' H',Inv X pins σ' H' s'/\D.nx σ' H'
 |.brk=>∃σ' H',Inv X pins σ' H' s'/\D.bk σ' H'
 |.cont=>∃σ' H',Inv X pins σ' H' s'/\D.ct σ' H'
 |.ret u=>∃v σ' H',Inv X pins σ' H' s'/\RelV v u/\D.rt v H'
def PE(X:Cx)(e:Expr)(t:TE):Prop :=
 ∀(pins:eL (JA×Obj)) (s:JG) (σ:St) (H:Hp) (Q:VK),Inv X pins σ H s->t σ H Q->JD (JE X.prog X.w) X.A (eval e X.env) (EP X pins σ Q) X.xe s
def PT(X:Cx)(e:Expr)(t:TT):Prop :=
 ∀(pins:eL (JA×Obj)) (s:JG) (σ:St) (H:Hp) (Q:fJ->Hp->Prop),Inv X pins σ H s->t σ H Q->JD (JE X.prog X.w) X.A (isTrue e X.env (eval e X.env)) (TP X pins σ Q) X.xe s
def PW(X:Cx)(e:Expr)(t:TT):Prop :=
 ∀(whole:Sem JC) (pins:eL (JA×Obj)) (s:JG) (σ:St) (H:Hp) (Q:fJ->Hp->Prop),Inv X pins σ H s->t σ H Q->JD (JE X.prog X.w) X.A (isTrue e X.env whole) (TP X pins σ Q) X.xe s
theorem PW.pt(h:PW X e t):PT X e t:=h _
def PA(X:Cx)(es:eL Expr)(t:TA):Prop :=
 ∀(pos:Pos) (pins:eL (JA×Obj)) (s:JG) (σ:St) (H:Hp) (Q:eL V->Hp->Prop),Inv X pins σ H s->t σ H Q->JD (JE X.prog X.w) X.A (spliced (JO pos (JF es X.env))) (AP X pins σ Q) X.xe s
def PS(X:Cx)(st:JJ)(t:TS):Prop :=
 ∀(pins:eL (JA×Obj)) (s:JG) (σ:St) (H:Hp) (D:Ends),Inv X pins σ H s->t D σ H->JD (JE X.prog X.w) X.A (exec st X.env) (SP X pins D) X.xe s
def PSs(X:Cx)(st:eL JJ)(t:TS):Prop :=
 ∀(pins:eL (JA×Obj)) (s:JG) (σ:St) (H:Hp) (D:Ends),Inv X pins σ H s->t D σ H->JD (JE X.prog X.w) X.A (execs st X.env) (SP X pins D) X.xe s
theorem thn(h:JD M A t Q E s)(c:∀a s,Q a s->b a s):JD M A t b E s:=B8 h c λ_ _ x=>x
inductive tVarS(i:eO)(σ:St)(H:Hp)(Q:VK):Prop
 |mk (v:V)(h0:σ[i]?=eH (eH v))(h1:Q v H):tVarS i σ H Q
def tVar(i:eO):TE:=fun σ H Q=>tVarS i σ H Q
def tC(v:V):TE:=λ_ H Q=>Q v H
theorem aed(k:X.N[i]?=eH x)(hv:Vis X.env.scope x)(hd:autoParam ((x==("__debug__":eZ))=eK) a1_)(g:autoParam ((x==("__classdict__":eZ))=eK) a1_):PE X (.Name x pos) (tVar i):=by
 intro f s σ H Q I h;let(v,e,h):=h;let(m,hn,hl):=I.loc;let(u,r,l):=hl i x v k e hv;let b:EP X f σ Q u s:=#[v,H,I,r,h]
 rcases l with⟨d,hm⟩|⟨d,c,j,a⟩
 . exact Ih (wpAny_loadName_local I.ok.kind d hn hm b) hd
 rcases d with d|d;exact Ih (wpAny_loadName_cell I.ok.kind d j a b) hd;exact Ih (wpAny_loadName_free I.ok.kind d j a b g) hd
theorem sw{i j pos}:PE X (.Constant (.int i) j pos) (tC (.int i)):=λ_ _ _ H _ I h=>wpAny_Constant_int #[.int i,H,I.tok _,#[_,eY],h]
theorem abh{b j pos}:PE X (.Constant (.bool b) j pos) (tC (.bl b)):=λ_ _ _ H _ I h=>Constant_bool #[.bl b,H,I,eY,h]
theorem ael{j pos}:PE X (.Constant .none j pos) (tC .non):=λ_ _ _ H _ I h=>Constant_none #[.non,H,I,eY,h]
theorem a7j{x j pos}:PE X (.Constant (.str x) j pos) (tC (.str x)):=λ_ _ _ H _ I h=>Calls.Constant_str #[.str x,H,I.tok _,#[_,eY],h]
def Gl(X:Cx)(x:eZ):Prop:=X.env.kindOf x=eH .globalImplicit
theorem ue(I:Inv X a σ H s)(b:Gl X x)(hm:X.mg x=eH u)(h:Q u s)(hd:autoParam ((x==("__debug__":eZ))=eK) a1_):JD (JE X.prog X.w) X.A (eval (.Name x pos) X.env) Q E s :=
 Fc I.ok.kind b (Calls.loadGlobal_global (by rw[I.ok.glob];exact I.mod.glob.keeps I.bk) hm h) hd
theorem oh(I:Inv X a σ H s)(b:Gl X x)(hm:X.mg x=eI)(hv:bootBuiltins x=eH u)(h:Q u s)(hn:autoParam (x≠"__name__") a1_)(hd:autoParam ((x==("__debug__":eZ))=eK) a1_):JD (JE X.prog X.w) X.A (eval (.Name x pos) X.env) Q E s:=by
 let(c,h1,h2):=I.mod.blt;exact Fc I.ok.kind b (Calls.loadGlobal_builtin (by rw[I.ok.glob];exact I.mod.glob.keeps I.bk) hm (by rw[I.ok.blt];exact h1.keeps I.bk) ((h2 x hn).trans hv) h) hd
theorem adh(a:Gl X x)(hm:X.mg x=eH u)(r:RelV v u)(hd:autoParam ((x==("__debug__":eZ))=eK) a1_):PE X (.Name x pos) (tC v) :=
 λ_ _ _ H _ I h=>ue I a hm #[v,H,I,r,h] hd
theorem ace(a:Gl X x)(hm:X.mg x=eI)(hv:bootBuiltins x=eH u)(r:RelV v u)(hn:autoParam (x≠"__name__") a1_)(hd:autoParam ((x==("__debug__":eZ))=eK) a1_):PE X (.Name x pos) (tC v) :=
 λ_ _ _ H _ I h=>oh I a hm hv #[v,H,I,r,h] hn hd
def PC(X:Cx)(op:CmpOp)(a b:Expr)(t:TE):Prop :=
 ∀(pins:eL (JA×Obj)) (s:JG) (σ:St) (H:Hp) (Q:VK),Inv X pins σ H s->t σ H Q->
   JD (JE X.prog X.w) X.A (eval a X.env) (λv s₁=>JD (JE X.prog X.w) X.A (eval b X.env) (λu s₂=>JD (JE X.prog X.w) X.A (JM op v u) (EP X pins σ Q) X.xe s₂) X.xe s₁) X.xe s
inductive tBS(x:V)(H1:Hp)(Q:fJ->Hp->Prop):Prop
 |mk (c:fJ)(h0:x=.bl c)(h1:Q c H1):tBS x H1 Q
def tB(t:TE):TT:=fun σ H Q=>t σ H λx H1=>tBS x H1 Q
theorem a7s(h:PC X op a b t)(h1:autoParam (JN op b=eK) a2_):PE X (.Compare a [op] [b] pos) t:=λc s σ H Q I d=>wpAny_Compare1 (h c s σ H Q I d) h1
theorem a7v(h:PC X op a b t)(h1:autoParam (JN op b=eK) a2_):PT X (.Compare a [op] [b] pos) (tB t):=by
 intro e s σ H Q I j;refine Gh (thn (h e s σ H _ I j) λv s1 h1=>thn h1 λu l h2=>thn h2 λc k #[x,i,f,r1,g]=>?_) h1;let(d,rfl,q):=g;cases r1;exact BL #[i,f,q]
theorem aeq(h:PE X e t)(b:autoParam (∀whole,isTrue e X.env whole=(do let v<-whole;standAt e.pos;holding [v] (truthy v))) a3_):PT X e (tB t):=by
 intro a s σ H Q I i;refine isTrue_plain (thn (h a s σ H _ I i) λv s1 #[x,f,c,r1,g]=>?_) (b _);let(d,rfl,q):=g;cases r1;exact BL #[f,c,q]
def tAnd(t u:TT):TT:=fun σ H Q=>t σ H λc H1=>if c=eJ then u σ H1 Q else Q eK H1
def tOr(t u:TT):TT:=fun σ H Q=>t σ H λc H1=>if c=eJ then Q eJ H1 else u σ H1 Q
def tNot(t:TT):TT:=fun σ H Q=>t σ H λc H1=>Q (!c) H1
theorem acs(d:PT X a f):PW X (.BoolOp .And [a] pos) f:=by
 intro g b s σ H Q I h;refine isTrue_and (thn (d b s σ H Q I h) λc s1 e=>?_);cases c with|true=>exact isTrue_and_nil e|false=>exact e
theorem adz(d:PT X a f):PW X (.BoolOp .Or [a] pos) f:=by
 intro g b s σ H Q I h;refine isTrue_or (thn (d b s σ H Q I h) λc s1 e=>?_);cases c with|false=>exact isTrue_or_nil e|true=>exact e
theorem aej{rest:eL Expr}(l:PT X a k)(j:PW X (.BoolOp .And (b::rest) pos) e):PW X (.BoolOp .And (a::b::rest) pos) (tAnd k e):=by
 intro m d s σ H Q I h;refine isTrue_and (thn (l d s σ H _ I h) λc s1 n=>?_);let(g,f,i):=n;cases c with|true=>exact j m d s1 σ g Q f i|false=>exact#[g,f,i]
theorem afm{rest:eL Expr}(l:PT X a k)(j:PW X (.BoolOp .Or (b::rest) pos) e):PW X (.BoolOp .Or (a::b::rest) pos) (tOr k e):=by
 intro m d s σ H Q I h;refine isTrue_or (thn (l d s σ H _ I h) λc s1 n=>?_);let(g,f,i):=n;cases c with|true=>exact#[g,f,i]|false=>exact j m d s1 σ g Q f i
theorem aeo(d:PT X a f):PT X (.UnaryOp .Not a pos) (tNot f):=by
 intro b s σ H Q I h;exact isTrue_not (d b s σ H (λc e=>Q (!c) e) I h)
inductive tAndVS(tb:TE)(σ:St)(x:V)(H1:Hp)(Q:VK):Prop
 |mk (c:fJ)(h0:x=.bl c)(h1:if c=eJ then tb σ H1 Q else Q (.bl eK) H1):tAndVS tb σ x H1 Q
def abn(ta tb:TE):TE:=fun σ H Q=>ta σ H λx H1=>tAndVS tb σ x H1 Q
inductive tOrVS(tb:TE)(σ:St)(x:V)(H1:Hp)(Q:VK):Prop
 |mk (c:fJ)(h0:x=.bl c)(h1:if c=eJ then Q (.bl eJ) H1 else tb σ H1 Q):tOrVS tb σ x H1 Q
def tOrV(ta tb:TE):TE:=fun σ H Q=>ta σ H λx H1=>tOrVS tb σ x H1 Q
inductive tNotVS(x:V)(H1:Hp)(Q:VK):Prop
 |mk (c:fJ)(h0:x=.bl c)(h1:Q (.bl (!c)) H1):tNotVS x H1 Q
def abk(ta:TE):TE:=fun σ H Q=>ta σ H λx H1=>tNotVS x H1 Q
theorem aeg{op}(h:PE X a t):PE X (.BoolOp op [a] pos) t:=λb s σ H Q I c=>BoolOp_one (h b s σ H Q I c)
theorem aee{rest:eL Expr}(l:PE X a k)(i:PE X (.BoolOp .And (b::rest) pos) j):PE X (.BoolOp .And (a::b::rest) pos) (abn k j):=by
 intro d s σ H Q I h;refine BoolOp_and (thn (l d s σ H _ I h) λv s1 m=>?_);let(x,g,f,r1,e):=m;let(c,rfl,e):=e;cases r1;refine BL ?_;cases c with|true=>exact i d s1 σ g Q f e|false=>exact#[.bl eK,g,f,eY,e]
theorem ag3{rest:eL Expr}(l:PE X a k)(i:PE X (.BoolOp .Or (b::rest) pos) j):PE X (.BoolOp .Or (a::b::rest) pos) (tOrV k j):=by
 intro d s σ H Q I h;refine BoolOp_or (thn (l d s σ H _ I h) λv s1 m=>?_);let(x,g,f,r1,e):=m;let(c,rfl,e):=e;cases r1;refine BL ?_;cases c with|false=>exact i d s1 σ g Q f e|true=>exact#[.bl eJ,g,f,eY,e]
theorem af7(g:PE X a e):PE X (.UnaryOp .Not a pos) (abk e):=by
 intro b s σ H Q I h;refine UnaryOp_ (thn (g b s σ H _ I h) λv s1 j=>?_);let(x,i,f,r1,d):=j;let(c,rfl,d):=d;cases r1;exact not_of (BL #[.bl (!c),i,f,eY,d])
def tIf(t:TT)(ta tb:TE):TE:=fun σ H Q=>t σ H λc H1=>if c=eJ then ta σ H1 Q else tb σ H1 Q
theorem a94(n:PT X c l)(o:PE X a m)(j:PE X b k):PE X (.IfExp c a b pos) (tIf l m k):=by
 intro e s σ H Q I h;refine wpAny_IfExp (thn (n e s σ H _ I h) λd s1 p=>?_);let(g,f,i):=p;cases d with|true=>exact o e s1 σ g Q f i|false=>exact j e s1 σ g Q f i
def SqL(K:Aa)(H:Hp)(a:JA)(xs:eL V):Prop :=
 Rd H a (.lst xs)\/
  ∃(o:Obj) (its:fF JC) (n:eO),K.lookup a=eH o/\o.cls=.type "list" /\ o.dict=eI/\o.data=.seq its n/\its.size<=JB/\Vals xs its.toList
def SqT(K:Aa)(H:Hp)(a:JA)(xs:eL V):Prop :=
 Rd H a (.tup xs)\/
  ∃(o:Obj) (its:fF JC) (n:eO),K.lookup a=eH o/\o.cls=.type "tuple" /\ o.data=.seq its n/\its.size<=JB/\Vals xs its.toList
def absV:JC->eM V
 |.none=>eH .non
 |.bool b=>eH (.bl b)
 |.int i _=>eH (.int i)
 |.str x _=>eH (.str x)
 |.bytes b _=>eH (.byt b)
 |.float b _=>eH (.flt b)
 |.ref a=>eH (.ref a)
 |.type n=>eH (.ty n)
 |_=>eI
theorem RelV.abs(r:RelV x u):absV u=eH x:=by
 cases x with|non=>cases r;rfl|bl _=>cases r;rfl|int _=>let(t,rfl):=r;rfl|str _=>let(t,rfl):=r;rfl|byt _=>let(t,rfl):=r;rfl|flt _=>let(t,rfl):=r;rfl|ref _=>cases r;rfl|ty _=>cases r;rfl
theorem RelV.inj(r:RelV x u)(q:RelV y u):x=y:=Am (r.abs.symm.trans q.abs)
theorem Vals.inj:∀{xs ys:eL V}{us:eL JC},Vals xs us->Vals ys us->xs=ys
 |_,_,_,.nil,.nil=>rfl
 |_,_,_,.cons r t,.cons r' t'=>by rw[r.inj r',Vals.inj t t']
theorem SqL.of{K:Aa}(h:H a=eH (.lst xs)):SqL K H a xs:=.inl (.inl h)
theorem SqT.of{K:Aa}(h:H a=eH (.tup xs)):SqT K H a xs:=.inl (.inl h)
theorem Inv.list(I:Inv X b σ H s)(h:SqL X.K H a xs):∃its:eL JC,Vals xs its/\PlainL s.heap a its.toArray/\xs.length<=JB:=by
 rcases h with h|⟨o,its,n,d,f,hd,c,hz,r⟩;let(z,its,n,r,e):=h.ok I.hok;exact#[its,r,#[_,n,e,eY,eY,eY],z]
 exists its.toList,r,#[o,n,I.kIn a o d,f,hd,by simpa using c];let e:=r.length;simp only[AG] at e
 lia
theorem Inv.tuple(I:Inv X b σ H s)(h:SqT X.K H a xs):∃its:eL JC,Vals xs its/\IsTup s.heap a its.toArray/\xs.length<=JB:=by
 rcases h with h|⟨o,its,n,d,f,c,hz,r⟩;let(z,its,r,p):=h.ok I.hok;exact#[its,r,p,z]
 exists its.toList,r,#[o,I.kIn a o d,f,n,by simpa using c];let e:=r.length;simp only[AG] at e
 lia
theorem Inv.list_inj(I:Inv X b σ H s)(h:SqL X.K H a xs)(h':SqL X.K H a ys):xs=ys:=by
 let(its,r,(o,n,e,_,_,d),_):=I.list h;let(its',r',(g,f,c,_,_,d'),_):=I.list h';rw[e] at c;cases c;rw[d] at d';injection d' with d1 _;let:its=its':=by simpa using fE IP d1
 subst this;exact r.inj r'
theorem Inv.tuple_inj(I:Inv X b σ H s)(h:SqT X.K H a xs)(h':SqT X.K H a ys):xs=ys:=by
 let(its,r,(o,e,_,n,d),_):=I.tuple h;let(its',r',(g,c,_,f,d'),_):=I.tuple h';rw[e] at c;cases c;rw[d] at d';injection d' with d1 _;let:its=its':=by simpa using fE IP d1
 subst this;exact r.inj r'
abbrev Cx.wish(X:Cx)(E:JC->JG->Prop):Cx:={X with xe:=E}
abbrev Cx.nox(X:Cx):Cx:=X.wish λ_ _=>False
theorem Cx.Ok.wish{X:Cx}(ok:X.Ok)(E:JC->JG->Prop):(X.wish E).Ok :=
 #[ok.mod,ok.kind,ok.glob,ok.blt,ok.above,ok.inj,ok.has,ok.cab,ok.hd,ok.frames,ok.stk,ok.exf,ok.bs,ok.bsz,ok.noex,ok.exfs,ok.funs,ok.frf]
theorem Cx.Ok.unwish{X:Cx}(ok:(X.wish E).Ok):X.Ok :=
 #[ok.mod,ok.kind,ok.glob,ok.blt,ok.above,ok.inj,ok.has,ok.cab,ok.hd,ok.frames,ok.stk,ok.exf,ok.bs,ok.bsz,ok.noex,ok.exfs,ok.funs,ok.frf]
theorem Inv.wish(I:Inv X a σ H s)(E:JC->JG->Prop):Inv (X.wish E) a σ H s:=#[I.ok.wish E,I.os,I.bare,I.base,I.loc,I.cell,I.free,I.freeC,I.pin,I.hok,I.len]
theorem Inv.unwish(I:Inv (X.wish E) a σ H s):Inv X a σ H s:=#[I.ok.unwish,I.os,I.bare,I.base,I.loc,I.cell,I.free,I.freeC,I.pin,I.hok,I.len]
theorem SP.unwish(h:SP (X.wish E) b D f s'):SP X b D f s':=by
 cases f with|next=>let(a,H',I,q):=h;exact#[a,H',I.unwish,q]|brk=>let(a,H',I,q):=h;exact#[a,H',I.unwish,q]|cont=>let(a,H',I,q):=h;exact#[a,H',I.unwish,q]|ret u=>let(v,a,H',I,r,q):=h;exact#[v,a,H',I.unwish,r,q]
theorem PSs.nox{st:eL JJ}(h:PSs X.nox st t):PSs X st t:=λa s σ H D I b =>
 B8 (h a s σ H D (I.wish _) b) (λ_ _ q=>q.unwish) λ_ _ z=>BU z
def abd:TS:=λD σ H=>D.nx σ H
def tSeq(t u:TS):TS:=λD σ H=>t {D with nx:=u D} σ H
theorem act:PSs X [] abd:=λ_ _ σ H _ I h=>Ez #[σ,H,I,h]
theorem v7{st:JJ}{rest:eL JJ}(h1:PS X st t)(h2:PSs X rest u):PSs X (st::rest) (tSeq t u):=by
 intro a s σ H D I h;refine HR (thn (h1 a s σ H {D with nx:=u D} I h) λf s1 q=>?_);cases f with
 |next =>
  let(b,H',c,q):=q;exact h2 a s1 b H' D c q
 |ret v=>exact q
 |brk=>exact q
 |cont=>exact q
theorem xg{st:JJ}(h1:PS X st t):PSs X [st] t:=by
 intro a s σ H D I h;refine HR (thn (h1 a s σ H D I h) λf s1 q=>?_);cases f with|next=>exact Ez q|ret v=>exact q|brk=>exact q|cont=>exact q
def a6g:TS:=λD σ H=>D.bk σ H
def abz:TS:=λD σ H=>D.ct σ H
theorem a8k:PS X (.Break pos) a6g:=λ_ _ σ H _ I h=>wpAny_Break #[σ,H,I,h]
theorem a22:PS X (.Continue pos) abz:=λ_ _ σ H _ I h=>wpAny_Continue #[σ,H,I,h]
theorem Inv.quiet(I:Inv X a σ H s):interactive X.env=eK:=by simp[interactive,I.ok.kind]
def ac3(te:TE):TS:=λD σ H=>te σ H λ_ H1=>D.nx σ H1
theorem a3z(c:PE X e i)(b:autoParam (JX e eI pos.line X.env=pure eK) a4_):PS X (.Expr e pos) (ac3 i):=by
 intro a s σ H D I h;exact wpAny_Expr_any (thn (c a s σ H _ I h) λv s1 #[x,f,d,r1,g]=>#[σ,f,d,g]) I.quiet b
def tRet(te:TE):TS:=λD σ H=>te σ H D.rt
theorem a87(b:PE X e g):PS X (.Return (eH e) pos) (tRet g):=by
 intro a s σ H D I h;exact wpAny_Return_some (thn (b a s σ H _ I h) λv s1 #[x,d,c,r1,f]=>#[x,σ,d,c,r1,f])
def tIfS(c:TT)(t u:TS):TS:=λD σ H=>c σ H λb H1=>if b=eJ then t D σ H1 else u D σ H1
theorem ag0(k:PT X c m)(l:PSs X a t)(j:PSs X b u):PS X (.If c a b pos) (tIfS m t u):=by
 intro e s σ H D I h;refine wpAny_If (thn (k e s σ H _ I h) λd s1 n=>?_);let(g,f,i):=n;cases d with|true=>exact l e s1 σ g D f i|false=>exact j e s1 σ g D f i
abbrev TG:=V->St->Hp->(St->Hp->Prop)->Prop
abbrev TGs:=eL V->St->Hp->(St->Hp->Prop)->Prop
def PG(X:Cx)(target:Expr)(t:TG):Prop :=
 ∀(pins:eL (JA×Obj)) (s:JG) (σ:St) (H:Hp) (v:V) (u:JC) (Q:St->Hp->Prop),Inv X pins σ H s->RelV v u->t v σ H Q->
   JD (JE X.prog X.w) X.A (assign target X.env u) (λ_ s'=>∃σ' H',Inv X pins σ' H' s'/\Q σ' H') X.xe s
def PGs(X:Cx)(ts:eL Expr)(t:TGs):Prop :=
 ∀(pins:eL (JA×Obj)) (s:JG) (σ:St) (H:Hp) (vs:eL V) (us:eL JC) (Q:St->Hp->Prop),Inv X pins σ H s->Vals vs us->t vs σ H Q->
   JD (JE X.prog X.w) X.A (assignInOrder ((JK ts X.env).map (·.2)) us) (λ_ s'=>∃σ' H',Inv X pins σ' H' s'/\Q σ' H') X.xe s
abbrev TSet:=V->V->V->Hp->(Hp->Prop)->Prop
def PSet(X:Cx)(t:TSet):Prop :=
 ∀(pins:eL (JA×Obj)) (s:JG) (σ:St) (H:Hp) (o i v:V) (ov iv u:JC) (Q:Hp->Prop),Inv X pins σ H s->RelV o ov->RelV i iv->RelV v u->t o i v H Q->
   JD (JE X.prog X.w) X.A (setItem ov iv u) (λ_ s'=>∃H',Inv X pins σ H' s'/\Q H') X.xe s
def iq(i:eO):TG:=λv σ H Q=>Q (σ.set i (eH v)) H
theorem a3y(c:X.N.Nodup)(hi:X.N[i]?=eH x)(d:Loc X.env.scope x)(e:autoParam (X.fn x=eJ\/X.env.scope.names.lookup x=eH .local) a0_):PG X (.Name x pos) (iq i):=by
 intro a s σ H v u Q I r h;exact Fj (vf I c hi d r (λs' b=>#[_,H,b,h]) e)
def gNil:TGs:=λvs σ H Q=>vs=[]/\Q σ H
inductive gConsS(t:TG)(u:TGs)(vs:eL V)(σ:St)(H:Hp)(Q:St->Hp->Prop):Prop
 |mk (v:V)(r:eL V)(h0:vs=v::r)(h1:t v σ H fun σ' H'=>u r σ' H' Q):gConsS t u vs σ H Q
def uf(t:TG)(u:TGs):TGs:=λvs σ H Q=>gConsS t u vs σ H Q
theorem a3c:PGs X [] gNil:=by
 intro a s σ H vs us Q I r h;let(e,h):=h;subst e;cases r;exact assignInOrder_nil #[σ,H,I,h]
theorem oi(h1:PG X e t)(h2:PGs X es u)(b:autoParam ((JK (e::es) X.env).map (·.2)=assign e X.env::(JK es X.env).map (·.2)) a4_):PGs X (e::es) (uf t u):=by
 intro a s σ H vs us Q I r h;let(v,k,c,h):=h;subst c;cases r with
 |cons r rr =>
  rw[b];refine assignInOrder_cons (thn (h1 a s σ H _ _ _ I r h) λ_ s1 j=>?_);let(d,g,f,i):=j;exact h2 a s1 d g _ _ Q f rr i
inductive gTupS(K:Aa)(n:eO)(t:TGs)(v:V)(σ:St)(H:Hp)(Q:St->Hp->Prop):Prop
 |mk (a:JA)(xs:eL V)(h0:v=.ref a)(h1:SqT K H a xs)(h2:xs.length=n)(h3:t xs σ H Q):gTupS K n t v σ H Q
def gTup(K:Aa)(n:eO)(t:TGs):TG:=λv σ H Q=>gTupS K n t v σ H Q
theorem a6y(q:X.calm=eJ)(h:PGs X es t)(hn:autoParam ((JK es X.env).length=n) a4_)(d:autoParam ((JK es X.env).findIdx? (·.1)=eI) a4_):PG X (.Tuple es k pos) (gTup X.K n t):=by
 intro c s σ H v u Q I r f;let(a,xs,j,l,hl,f):=f;subst j;cases r;let(its,g,i,hz):=I.tuple l;refine assign_Tuple_tuple (I.ok.hd q) i (by simp[hn,<- hl,g.length]) d λh' m=>?_;let p:Inv X c σ H {s with heap:=h'}:=I.kept (t':=s.toks) λb o e=>m b o (AA (A1 e)) e;exact h c _ σ H xs _ Q p (by simpa using g) f
def gSub(to ti:TE)(t:TSet):TG:=λv σ H Q=>to σ H λo H1=>ti σ H1 λi H2=>t o i v H2 λH3=>Q σ H3
theorem aev(f:PE X o to)(hi:PE X i m)(l:PSet X t)(z:autoParam (∀v,assign (.Subscript o i pos) X.env v=(do
 let b<-holding [v] (eval o X.env);let c<-holding [v,b] (eval i X.env)
 standAt pos
 holding [v,b,c] (setItem b c v)
 release [v,b,c] [])) a3_):PG X (.Subscript o i pos) (gSub to m t):=by
 intro a s σ H v u Q I r h;rw[z];refine Ac (BI (thn (f a s σ H _ I h) λb s1 d=>?_));let(x,A,w,r1,j):=d;refine Ac (BI (thn (hi a s1 σ A _ w j) λc p d=>?_));let(y,g,e,r2,B):=d;refine Ac (Hb (Ac (BI (thn (l a p σ g x y v b c u _ e r1 r2 r B) λ_ C d=>?_))));let(n,k,q):=d;exact wpAny_release #[σ,n,k,q]
def tAsg(te:TE)(g:TG):TS:=λD σ H=>te σ H λx H1=>g x σ H1 D.nx
theorem ae4(f:PE X e m)(c:PG X b g)(d:autoParam (swapsWithSole [b] e pos.line X.env=pure eK) a4_)(l:autoParam (swappedStores [b] e X.env=pure eI) a4_)(h1:autoParam ((JK [b] X.env).map (·.2)=[assign b X.env]) a4_):PS X (.Assign [b] e pos) (tAsg m g):=by
 intro a s σ H D I h;refine wpAny_Assign_stores (thn (f a s σ H _ I h) λv s1 #[x,j,i,r1,k]=>?_) d l;rw[h1];exact thn (c a s1 σ j x v _ i r1 k) λ_ n q=>q
theorem a79(f:X.N.Nodup)(hi:X.N[i]?=eH x)(g:Loc X.env.scope x)(j:PE X e o)(d:autoParam (JX e (eH (.Name x b)) pos.line X.env=pure eK) a4_)(n:autoParam (X.fn x=eJ\/X.env.scope.names.lookup x=eH .local) a0_):
 PS X (.Assign [.Name x b] e pos) (tAsg o (iq i)):=by
 intro a s σ H D I h;refine wpAny_Assign_Name (thn (j a s σ H _ I h) λv s1 #[y,l,k,r1,m]=>?_) d;exact vf k f hi g r1 (λp c=>#[_,l,c,m]) n
def vw(c:TT)(tb:TS):TS:=λD σ H=>∃W:eO->St->Hp->Prop,(∃m,W m σ H)/\∀m σ H,W m σ H->
 c σ H λb H1=>if b=eJ then ∃N:St->Hp->Prop,(∀σ' H',N σ' H'->∃m',m'<m/\W m' σ' H')/\tb {D with nx:=N,ct:=N,bk:=D.nx} σ H1 else D.nx σ H1
theorem a97(hp:PassesOwn (JE X.prog X.w) X.A X.env X.xe)(z:PT X c B)(C:PSs X body y):PS X (.While c body [] pos) (vw B y):=by
 intro a s σ H D I h;let(W,(m0,E),d):=h;refine wpAny_While (codeAny_whileLoop (λn s'=>∃t H',Inv X a t H' s'/\W n t H') ?_ m0 #[σ,H,I,E]);rintro n s1 ⟨j,x,J,F⟩;refine C0 hp (thn (z a s1 j x _ J (d n j x F)) λb G L=>?_);let(r,q,i):=L;cases b with
 |true =>
  let(N,u,i):=i;rw[eQ rfl];refine C0 hp (thn (C a G j r _ q i) λf M k=>?_);cases f with
  |next =>
   let(e,g,m,p):=k;let(l,hm,o):=u e g p;exact#[l,hm,e,g,m,o]
  |cont =>
   let(e,g,m,p):=k;let(l,hm,o):=u e g p;exact#[l,hm,e,g,m,o]
  |brk=>exact k
  |ret v=>exact k
 |false =>
  rw[eP Az];exact Ez #[j,r,q,i]
structure It where
 go:eO->Hp->Prop
 yld:eO->Hp->V->Hp->Prop
 stop:eO->Hp->Prop
def FpOk(X:Cx)(pins:eL (JA×Obj))(H:Hp)(b:JA):Prop :=
 H b=eI/\b≠X.env.locals/\b∉X.fs/\(b∈X.ex\/X.s₀.heap.objs.size<=b)/\(∀x c,X.env.cells.lookup x=eH c->c≠b)/\∀p∈X.pn++pins,p.1≠b
theorem Inv.fpOk(I:Inv X d σ H s)(a:s.heap.objs.size<=b)(hn:H' b=eI):FpOk X d H' b:=by
 refine#[hn,BP (AD I.lt a),I.nofs a,.inr (AB I.sz a),λx c e z=>?_,λp hp z=>?_];let(v,q):=I.cell x c e;exact eR (AD q.lt (by rw[z];exact a)) (Bb _);exact eR (AD (A1 (I.pin p hp).1) (by rw[z];exact a)) (Bb _)
structure Turn(P:JQ)(w:JV)(K:Aa)(tg:Expr)(J:It)(fp:eL JA)(it:JA)(tn:eO->JP->Prop):Prop where
 mem:it∈fp
 obj:∀i h,tn i h->∀b∈fp,∃o,h.get? b=eH o/\∀v,o.data≠.cell v
 keep:∀i h h',tn i h->(∀b∈fp,∀o,h.get? b=eH o->h'.get? b=eH o)->tn i h'
 item:∀(X:Cx),X.prog=P->X.w=w->X.K=K->X.calm=eJ->∀(i:eO) (pins:eL (JA×Obj)) (s:JG) (σ:St) (H:Hp) (E:JC->JG->Prop),Inv X pins σ H s->(∀b∈fp,FpOk X pins H b)->tn i s.heap->J.go i H->
  JD (JE P w) X.A (JW (.ref it)) (λr s1=>∃u,r=eH u/\
   JD (JE P w) X.A (letOwnedTupleGo tg (.ref it) u) (λ_ s2=>∃x H',Inv X pins σ H' s2/\RelV x u/\J.yld i H x H'/\tn (i+1) s2.heap/\∀b∈fp,H' b=eI) E s1) E s
 done:∀(X:Cx),X.prog=P->X.w=w->X.K=K->X.calm=eJ->∀(i:eO) (pins:eL (JA×Obj)) (s:JG) (σ:St) (H:Hp) (E:JC->JG->Prop),Inv X pins σ H s->(∀b∈fp,FpOk X pins H b)->tn i s.heap->J.stop i H->
  JD (JE P w) X.A (JW (.ref it)) (λr s1=>r=eI/\Inv X pins σ H s1) E s
 self:∀(A:Jf) (i:eO) (s:JG) (Q:JC->JG->Prop) (E:JC->JG->Prop),tn i s.heap->Q (.ref it) s->JD (JE P w) A (pyIter (.ref it)) Q E s
abbrev TI:=St->Hp->(It->Hp->Prop)->Prop
def PIE(X:Cx)(pins:eL (JA×Obj))(σ:St)(tg:Expr)(R:It->Hp->Prop)(itv:JC)(s2:JG):Prop :=
 ∃(it:JA) (fp:eL JA) (tn:eO->JP->Prop) (J:It) (H':Hp),itv=.ref it/\Inv X pins σ H' s2/\Turn X.prog X.w X.K tg J fp it tn/\tn 0 s2.heap/\(∀b∈fp,FpOk X pins H' b)/\R J H'
def PI(X:Cx)(tg iter:Expr)(wi:TI):Prop :=
 ∀(pins:eL (JA×Obj)) (s:JG) (σ:St) (H:Hp) (R:It->Hp->Prop),Inv X pins σ H s->wi σ H R->
   JD (JE X.prog X.w) X.A (eval iter X.env) (λv s1=>JD (JE X.prog X.w) X.A (pyIter v) (PIE X pins σ tg R) X.xe s1) X.xe s
theorem a01(c:s.heap.get? it=eH o)(d:o.cls=.type n)(hd:o.data=.fields vs)(hn:["enumerate","zip","dict_itemiterator","dict_reverseitemiterator","odict_iterator","itertools.zip_longest","itertools.pairwise"].contains n=eK)(a:Q () s):JD M A (letOwnedTupleGo b (.ref it) u) Q E s:=by
 unfold letOwnedTupleGo;cases b<;>first
  |exact Al a
  | (cases u<;>first
   |exact Al a
   | (refine Ac (Ii c ?_)
      rw[d,hd];show JD M A (if(["enumerate","zip","dict_itemiterator","dict_reverseitemiterator","odict_iterator","itertools.zip_longest","itertools.pairwise"].contains n && vs[0]?==eH (Jc _))=eJ then _ else _) Q E s;rw[eP (by intro h;rw[hn,Iy] at h;cases h)];exact Al a))
def Itl(K:Aa)(a:JA):It :=
 #[λi H=>∃xs x,SqL K H a xs/\xs[i]?=eH x,λi H x H'=>H'=H/\∀xs,SqL K H a xs->xs[i]?=eH x,λi H=>∃xs,SqL K H a xs/\xs.length<=i]
def Itt(K:Aa)(a:JA):It :=
 #[λi H=>∃xs x,SqT K H a xs/\xs[i]?=eH x,λi H x H'=>H'=H/\∀xs,SqT K H a xs->xs[i]?=eH x,λi H=>∃xs,SqT K H a xs/\xs.length<=i]
def Itr(lo:eN)(n:eO):It:=#[λi _=>i<n,λi H x H'=>H'=H/\x=.int (lo+i),λi _=>n<=i]
theorem a5k{K:Aa}(a it:JA):Turn P w K T (Itl K a) [it] it (λi h=>h.IsListIter it a i) where
 mem:=by simp
 obj:=λi h st b g=>by
  let e:b=it:=by simpa using g
  subst e;let(o,e,c,d):=st;exact#[o,e,λv z=>by rw[d] at z;cases z]
 keep:=λi h h' st k=>st.at λo e=>k it (by simp) o e
 item:=by
  intro X F r A J i f s σ H E I l st y;subst F r A;let(xs,x,m,q):=y;let(its,C,p,hz):=I.list m;let(u,N,M):=C.get q;let(n,t,O,D,G,B):=l it (by simp);refine wpAny_pyNext_list_item st p.isList (x:=u) (by simpa using N) λh' j R=>?_;let S:Inv X f σ H {s with heap:=h'}:=I.turned (t':=s.toks) (λb o g e=>(R.2 b g).trans e) n t D G B;let(o,e,c,d):=id j;exact#[u,eY,a01 (s:={s with heap:=h'}) e c d (by decide) #[x,H,S,M,#[rfl,λys L=>by rw[I.list_inj L m];exact q],j,λb g=>(l b g).1]]
 done:=by
  intro X F r A J i f s σ H E I l st y;subst F r A;let(xs,m,q):=y;let(its,C,p,hz):=I.list m;let(n,t,O,D,G,B):=l it (by simp);let hl:=C.length;exact wpAny_pyNext_list_end (I.ok.hd J) st p.isList (by simp;lia) λh' Q=>#[eY,I.turned (t':=s.toks) (λb o g e=>Q b o g e) n t D G B]
 self:=λ_ _ _ _ _ st h=>wpAny_pyIter_listiter st h
theorem a4p{K:Aa}(a it:JA):Turn P w K T (Itt K a) [it] it (λi h=>h.IsTupleIter it a i) where
 mem:=by simp
 obj:=λi h st b g=>by
  let e:b=it:=by simpa using g
  subst e;let(o,e,c,d):=st;exact#[o,e,λv z=>by rw[d] at z;cases z]
 keep:=λi h h' st k=>st.at λo e=>k it (by simp) o e
 item:=by
  intro X F r A J i f s σ H E I l st y;subst F r A;let(xs,x,m,q):=y;let(its,C,p,hz):=I.tuple m;let(u,N,M):=C.get q;let(n,t,O,D,G,B):=l it (by simp);refine wpAny_pyNext_tuple_item st (show s.heap.IsTuple a its.toArray from p) (x:=u) (by simpa using N) λh' j R=>?_;let S:Inv X f σ H {s with heap:=h'}:=I.turned (t':=s.toks) (λb o g e=>(R.2 b g).trans e) n t D G B;let(o,e,c,d):=id j;exact#[u,eY,a01 (s:={s with heap:=h'}) e c d (by decide) #[x,H,S,M,#[rfl,λys L=>by rw[I.tuple_inj L m];exact q],j,λb g=>(l b g).1]]
 done:=by
  intro X F r A J i f s σ H E I l st y;subst F r A;let(xs,m,q):=y;let(its,C,p,hz):=I.tuple m;let(n,t,O,D,G,B):=l it (by simp);let hl:=C.length;exact wpAny_pyNext_tuple_end (I.ok.hd J) st (show s.heap.IsTuple a its.toArray from p) (by simp;lia) λh' Q=>#[eY,I.turned (t':=s.toks) (λb o g e=>Q b o g e) n t D G B]
 self:=λ_ _ _ _ _ st h=>wpAny_pyIter_tupleiter st h
theorem a4k{K:Aa}(it:JA)(lo:eN)(n:eO):Turn P w K F (Itr lo n) [it] it (λi h=>IsRangeIter h it (lo+(i:eO)*1) ((n:eN)-(i:eO)) 1) where
 mem:=by simp
 obj:=λi h st b c=>by
  let e:b=it:=by simpa using c
  subst e;exact#[_,st,λv z=>by
   let A:Data.fields _=Data.cell v:=z;cases A]
 keep:=λi h h' st k=>k it (by simp) _ st
 item:=by
  intro X x l q j i a s σ H E I f st p;subst x l q;let(g,m,B,u,y,r):=f it (by simp);let W:=Walks.range (prog:=X.prog) (w:=X.w) (I.ok.hd j) it lo 1 n;refine W.item i s _ _ p st λv h' tk hv d kk=>?_;let(t,rfl):=hv;let D:Inv X a σ H {s with heap:=h',toks:=tk}:=I.turned (λb o c e=>kk b o (by simpa using c) e) g m u y r;refine#[_,eY,a01 (s:={s with heap:=h',toks:=tk}) (n := "range_iterator") d rfl rfl (by decide) #[.int (lo+i),H,D,#[t,?_],#[rfl,rfl],d,λb c=>(f b c).1]];rw[HN]
 done:=by
  intro X x l q j i a s σ H E I f st p;subst x l q;let(g,m,B,u,y,r):=f it (by simp);exact wpAny_pyNext_range_end (I.ok.hd j) st (by let:n<=i:=p;lia) λh' C=>#[eY,I.turned (t':=s.toks) (λb o c e=>C b o c e) g m u y r]
 self:=λ_ _ _ _ _ st h=>wpAny_pyIter_rangeiter st h
inductive iListS(K:Aa)(x:V)(H1:Hp)(R:It->Hp->Prop):Prop
 |mk (a:JA)(h0:x=.ref a)(h1:(∃xs,SqL K H1 a xs))(h2:R (Itl K a) H1):iListS K x H1 R
def ab8(K:Aa)(tl:TE):TI:=fun σ H R=>tl σ H λx H1=>iListS K x H1 R
inductive iTupS(K:Aa)(x:V)(H1:Hp)(R:It->Hp->Prop):Prop
 |mk (a:JA)(h0:x=.ref a)(h1:(∃xs,SqT K H1 a xs))(h2:R (Itt K a) H1):iTupS K x H1 R
def iTup(K:Aa)(tl:TE):TI:=fun σ H R=>tl σ H λx H1=>iTupS K x H1 R
theorem a2q(hl:PE X l g):PI X n l (ab8 X.K g):=by
 intro c s σ H R I h;refine thn (hl c s σ H _ I h) λv s1 m=>?_;let(x,j,d,r1,k):=m;let(a,e,(xs,i),q):=k;subst e;cases r1;let(its,r,p,hz):=d.list i;refine Eb p.isList ?_;refine#[s1.heap.objs.size,[s1.heap.objs.size],_,_,j,eY,d.kept (t':=s1.toks) λb o e=>Aj _ e,a5k a _,#[_,Ax _ rfl,eY,eY],λb f=>?_,q];let e:b=s1.heap.objs.size:=by simpa using f
 subst e;exact d.fpOk (Ao _) (d.hok.fresh (Ao _))
theorem a5j(hl:PE X l g):PI X n l (iTup X.K g):=by
 intro c s σ H R I h;refine thn (hl c s σ H _ I h) λv s1 m=>?_;let(x,j,d,r1,k):=m;let(a,e,(xs,i),q):=k;subst e;cases r1;let(its,r,p,hz):=d.tuple i;refine DL (show s1.heap.IsTuple a its.toArray from p) ?_;refine#[s1.heap.objs.size,[s1.heap.objs.size],_,_,j,eY,d.kept (t':=s1.toks) λb o e=>Aj _ e,a4p a _,#[_,Ax _ rfl,eY,eY],λb f=>?_,q];let e:b=s1.heap.objs.size:=by simpa using f
 subst e;exact d.fpOk (Ao _) (d.hok.fresh (Ao _))
theorem a9h{lo:eN}(I:Inv X a σ H s)(h1 : -(2 ^ 62)<=lo)(h2:lo<2 ^ 62)(h3 : -(2 ^ 62)<=hi)(f:hi<2 ^ 62)(q:R (Itr lo (hi-lo).toNat) H):JD (JE X.prog X.w) X.A (pyIter (.ref s.heap.objs.size)) (PIE X a σ i R) E {s with heap:=s.heap.push {cls:=.type "range",data:=.fields [.int lo t,.int hi u,.int 1 v].toArray},toks:=tk}:=by
 refine wpAny_pyIter_range (IsRange.new ..) (small_one h1 h2 h3 f) ?_;let c:Inv X a σ H {s with heap:=s.heap.push {cls:=.type "range",data:=.fields [.int lo t,.int hi u,.int 1 v].toArray},toks:=tk}:=I.kept λb o e=>Aj _ e;refine#[(s.heap.push {cls:=.type "range",data:=.fields [.int lo t,.int hi u,.int 1 v].toArray}).objs.size,[(s.heap.push {cls:=.type "range",data:=.fields [.int lo t,.int hi u,.int 1 v].toArray}).objs.size],_,_,H,eY,
  c.kept (t':=tk) λb o e=>Aj _ e,a4k _ lo (hi-lo).toNat,?_,λb d=>?_,q]
 . let g:lo+((0:eO):eN)*1=lo:=by simp
   let h:(((hi-lo).toNat:eO):eN)-((0:eO):eN)=Builtin.Range.rangeSize lo hi 1:=by rw[rangeSize_one];split<;>lia
   show IsRangeIter _ _ (lo+((0:eO):eN)*1) ((((hi-lo).toNat:eO):eN)-((0:eO):eN)) 1;rw[g,h];exact Ax _ rfl
 let e:b=(s.heap.push {cls:=.type "range",data:=.fields [.int lo t,.int hi u,.int 1 v].toArray}).objs.size:=by simpa using d
 subst e;exact c.fpOk (Ao _) (c.hok.fresh (Ao _))
inductive iRng1S(vs:eL V)(H1:Hp)(R:It->Hp->Prop):Prop
 |mk (j:eN)(h0:vs=[.int j])(h1 : -(2 ^ 62)<=j)(h2:j<2 ^ 62)(h3:R (Itr 0 j.toNat) H1):iRng1S vs H1 R
def abu(ta:TA):TI:=fun σ H R=>ta σ H λvs H1=>iRng1S vs H1 R
theorem a77(d:Gl X "range")(hm:X.mg "range"=eI)(k:PA X [a] g)(f:autoParam (JF [a] X.env=[(eK,eval a X.env)]) a4_):PI X m (.Call (.Name "range" p) [a] [] pos) (abu g):=by
 intro b s σ H R I h;refine Call_ (oh I d hm boot_range (BZ (thn (k pos b s σ H _ I h) λus s1 #[vs,n,i,r1,c]=>?_) f rfl));let(j,e,c,l,q):=c;subst e;cases r1 with
 |cons r rr =>
  cases rr;let(t,rfl):=r;exact call_range_1 (a9h i (by lia) (by lia) c l (by simpa using q))
def tFor(wi:TI)(g:TG)(tb:TS):TS:=λD σ H=>wi σ H λJ H1=>∃W:eO->eO->St->Hp->Prop,(∃m,W 0 m σ H1)/\∀i m σ H,W i m σ H->
 (J.stop i H/\D.nx σ H)\/(J.go i H/\∃N:St->Hp->Prop,(∀σ' H',N σ' H'->∃m',m'<m/\W (i+1) m' σ' H')/\∀x H',J.yld i H x H'->g x σ H' fun σ2 H2=>tb {D with nx:=N,ct:=N,bk:=D.nx} σ2 H2)
def qr(fp:eL JA)(h:JP):eL (JA×Obj):=fp.filterMap λb=>(h.get? b).map λo=>(b,o)
theorem o8(a:b∈c)(e:h.get? b=eH o):(b,o)∈qr c h:=Cg.mpr #[b,a,by rw[e];rfl]
theorem a6x(hp:p∈qr d h):p.1∈d/\h.get? p.1=eH p.2:=by
 let(b,a,e):=Cg.mp hp;cases q:h.get? b with
 |none=>rw[q] at e;cases e
 |some o =>
  rw[q] at e;let c:(b,o)=p:=Am e;subst c;exact#[a,q]
theorem Inv.pinned(I:Inv X a σ H s)(k:∀b∈g,FpOk X a H b)(j:∀b∈g,∃o,s.heap.get? b=eH o/\∀v,o.data≠.cell v):Inv X (a++qr g s.heap) σ H s :=
 I.pins_of λp hp=>(Ab.mp hp).elim (λz=>I.pin p (B0 _ z)) λz=>by
  let(c,e):=a6x z;let(i,l,h,_):=k p.1 c;let(o,f,d):=j p.1 c;rw[e] at f;cases f;exact#[e,i,l,h,d]
theorem Inv.unpinned(I:Inv X (a++pl) σ H s):Inv X a σ H s:=I.pins_of λp hp=>I.pin p (B0 _ (Gz _ hp))
theorem a7r(hp:PassesOwn (JE X.prog X.w) X.A X.env X.xe)(hc:X.calm=eJ)(hi:PI X tg t wi)(hg:PG X tg g)(l:PSs X body tb)(hs:autoParam (∀x,JL t X.env x=pure x) a3_):PS X (.For tg t body [] pos) (tFor wi g tb):=by
 intro a s σ H D I h;refine wpAny_For (thn (hi a s σ H _ I h) λv s1 h1=>thn h1 λaa s2 h2=>?_) hs;let(it,L,tn,J,H2,e,I2,T,U,f2,W,(m0,w0),C):=h2;subst e;let c:∀{H':Hp},(∀b∈L,H' b=eI)->∀b∈L,FpOk X a H' b:=λhn b l=>#[hn b l,(f2 b l).2]
 refine codeAny_forLoop_any (λn s'=>∃i F H',Inv X a F H' s'/\tn i s'.heap/\(∀b∈L,H' b=eI)/\W i n F H') ?_ m0 #[0,σ,H2,I2,U,λb l=>(f2 b l).1,w0];rintro n s3 ⟨i,E,P,I3,G,O,w3⟩;rcases C i n E P w3 with⟨stop,qn⟩|⟨go,N,hN,step⟩
 . refine C0 hp (thn (T.done X rfl rfl rfl hc i a s3 E P X.xe I3 (c O) G stop) λr s4 B=>?_);let(Y,I4):=B;subst Y;exact Ez #[E,P,I4,qn]
 refine C0 hp (thn (T.item X rfl rfl rfl hc i a s3 E P X.xe I3 (c O) G go) λr s4 B=>?_);let(u,Y,h4):=B;subst Y;refine C0 hp (thn h4 λ_ Z B=>?_);let(x,H5,I5,r5,y5,z,S):=B;let Q:=I5.pinned (c S) (T.obj _ _ z);refine C0 hp (thn (hg _ Z E H5 x u _ Q r5 (step x H5 y5)) λ_ s6 B=>?_);let(σ6,H6,I6,q6):=B;refine C0 hp (thn (l _ s6 σ6 H6 _ I6 q6) λf R y=>?_);let j:∀{p:St} {k:Hp},Inv X (a++qr L Z.heap) p k R->N p k->∃m,m<n/\∃i F H',Inv X a F H' R/\tn i R.heap/\(∀b∈L,H' b=eI)/\W i m F H':=λ{p k} q M=>by
  let(m',hm,w7):=hN p k M;refine#[m',hm,i+1,p,k,q.unpinned,T.keep _ _ _ z λb l o e=>(q.pin (b,o) (B0 _ (B0 _ (o8 l e)))).1,λb l=>?_,w7];let(o,e,d):=T.obj _ _ z b l;exact(q.pin (b,o) (B0 _ (B0 _ (o8 l e)))).2.1
 cases f with|next=>let(p,k,q,M):=y;exact j q M|cont=>let(p,k,q,M):=y;exact j q M|brk=>let(p,k,q,y):=y;exact#[p,k,q.unpinned,y]|ret v=>let(x7,p,k,q,r7,y):=y;exact#[x7,p,k,q.unpinned,r7,y]
theorem j5{K:Aa}{g:TG}{h:TS}{D:Ends}(Pv:eO->St->Hp->Prop)(k:Pv 0 σ H)(hl:∀i σ H,i<=xs.length->Pv i σ H->SqL K H a xs)(l:∀i x σ H,xs[i]?=eH x->Pv i σ H->let N:=Pv (i+1);g x σ H λd f=>h {D with nx:=N,ct:=N,bk:=D.nx} d f)(hd:∀σ H,Pv xs.length σ H->D.nx σ H):
 ∃W:eO->eO->St->Hp->Prop,(∃m,W 0 m σ H)/\∀i m σ H,W i m σ H->
  ((Itl K a).stop i H/\D.nx σ H)\/((Itl K a).go i H/\∃N:St->Hp->Prop,(∀c H',N c H'->∃j,j<m/\W (i+1) j c H')/\∀x H',(Itl K a).yld i H x H'->g x σ H' λd f=>h {D with nx:=N,ct:=N,bk:=D.nx} d f):=by
 exists λi m σ H=>m=xs.length-i/\i<=xs.length/\Pv i σ H,#[xs.length,by simp,AC _,k];rintro i m σ H ⟨rfl,hi,p⟩;let q:=hl i σ H hi p;by_cases b:i<xs.length;refine .inr #[#[xs,xs[i],q,by simp[b]],Pv (i+1),λc H' n=>#[xs.length-(i+1),by lia,eY,b,n],λx H' y=>?_];let(e,y):=y;subst e;exact l i x σ _ (y xs q) p
 let e:i=xs.length:=by lia
 subst e;exact .inl #[#[xs,q,Ao _],hd σ H p]
theorem a3k{K:Aa}{g:TG}{h:TS}{D:Ends}(Pv:eO->St->Hp->Prop)(k:Pv 0 σ H)(hl:∀i σ H,i<=xs.length->Pv i σ H->SqT K H a xs)(l:∀i x σ H,xs[i]?=eH x->Pv i σ H->let N:=Pv (i+1);g x σ H λd f=>h {D with nx:=N,ct:=N,bk:=D.nx} d f)(hd:∀σ H,Pv xs.length σ H->D.nx σ H):
 ∃W:eO->eO->St->Hp->Prop,(∃m,W 0 m σ H)/\∀i m σ H,W i m σ H->
  ((Itt K a).stop i H/\D.nx σ H)\/((Itt K a).go i H/\∃N:St->Hp->Prop,(∀c H',N c H'->∃j,j<m/\W (i+1) j c H')/\∀x H',(Itt K a).yld i H x H'->g x σ H' λd f=>h {D with nx:=N,ct:=N,bk:=D.nx} d f):=by
 exists λi m σ H=>m=xs.length-i/\i<=xs.length/\Pv i σ H,#[xs.length,by simp,AC _,k];rintro i m σ H ⟨rfl,hi,p⟩;let q:=hl i σ H hi p;by_cases b:i<xs.length;refine .inr #[#[xs,xs[i],q,by simp[b]],Pv (i+1),λc H' n=>#[xs.length-(i+1),by lia,eY,b,n],λx H' y=>?_];let(e,y):=y;subst e;exact l i x σ _ (y xs q) p
 let e:i=xs.length:=by lia
 subst e;exact .inl #[#[xs,q,Ao _],hd σ H p]
theorem mq{lo:eN}{g:TG}{f:TS}{D:Ends}(Pv:eO->St->Hp->Prop)(j:Pv 0 σ H)(k:∀i σ H,i<n->Pv i σ H->let N:=Pv (i+1);g (.int (lo+i)) σ H λc d=>f {D with nx:=N,ct:=N,bk:=D.nx} c d)(hd:∀σ H,Pv n σ H->D.nx σ H):
 ∃W:eO->eO->St->Hp->Prop,(∃m,W 0 m σ H)/\∀i m σ H,W i m σ H->
  ((Itr lo n).stop i H/\D.nx σ H)\/((Itr lo n).go i H/\∃N:St->Hp->Prop,(∀b H',N b H'->∃h,h<m/\W (i+1) h b H')/\∀x H',(Itr lo n).yld i H x H'->g x σ H' λc d=>f {D with nx:=N,ct:=N,bk:=D.nx} c d):=by
 exists λi m σ H=>m=n-i/\i<=n/\Pv i σ H,#[n,by simp,AC _,j];rintro i m σ H ⟨rfl,hi,p⟩;by_cases a:i<n;refine .inr #[a,Pv (i+1),λb H' l=>#[n-(i+1),by lia,eY,a,l],λx H' y=>?_];let(e,y):=y;subst e y;exact k i σ _ a p
 let e:i=n:=by lia
 subst e;exact .inl #[Ao _,hd σ H p]
theorem a0u(Pv:St->Hp->Prop)(μ:St->Hp->eO)(f:Pv σ H)(g:∀σ H,Pv σ H->let N:St->Hp->Prop:=λd H'=>Pv d H'/\μ d H'<μ σ H;c σ H λb a=>if b=eJ then h {D with nx:=N,ct:=N,bk:=D.nx} σ a else D.nx σ a)(mono:∀σ H Q e,(∀b a,Q b a->e b a)->c σ H Q->c σ H e):vw c h D σ H:=by
 exists λm σ H=>m=μ σ H/\Pv σ H,#[_,eY,f];rintro m σ H ⟨rfl,p⟩;refine mono σ H _ _ (λb a q=>?_) (g σ H p);cases b with|true=>exact#[_,λd H' #[i,l]=>#[_,l,eY,i],q]|false=>exact q
abbrev R2:=V->V->Hp->VK->Prop
def OpR(X:Cx)(f:JC->JC->Sem JC)(r:R2):Prop :=
 ∀(pins:eL (JA×Obj)) (s:JG) (σ:St) (H:Hp) (x y:V) (v u:JC) (Q:VK),Inv X pins σ H s->RelV x v->RelV y u->r x y H Q->
   JD (JE X.prog X.w) X.A (f v u) (EP X pins σ Q) X.xe s
def UnR(X:Cx)(f:JC->Sem JC)(r:V->Hp->VK->Prop):Prop :=
 ∀(pins:eL (JA×Obj)) (s:JG) (σ:St) (H:Hp) (x:V) (v:JC) (Q:VK),Inv X pins σ H s->RelV x v->r x H Q->
   JD (JE X.prog X.w) X.A (f v) (EP X pins σ Q) X.xe s
def ja(X:Cx)(f:JC)(r:eL V->Hp->VK->Prop):Prop :=
 ∀(pins:eL (JA×Obj)) (s:JG) (σ:St) (H:Hp) (xs:eL V) (us:eL JC) (Q:VK),Inv X pins σ H s->Vals xs us->r xs H Q->
   JD (JE X.prog X.w) X.A (call f us) (EP X pins σ Q) X.xe s
def TruR(X:Cx)(r:V->Hp->(fJ->Hp->Prop)->Prop):Prop :=
 ∀(pins:eL (JA×Obj)) (s:JG) (σ:St) (H:Hp) (x:V) (v:JC) (Q:fJ->Hp->Prop),Inv X pins σ H s->RelV x v->r x H Q->
   JD (JE X.prog X.w) X.A (truthy v) (TP X pins σ Q) X.xe s
def tOp(r:R2)(ta tb:TE):TE:=fun σ H Q=>ta σ H λx H1=>tb σ H1 λy H2=>r x y H2 Q
def tUn(r:V->Hp->VK->Prop)(ta:TE):TE:=fun σ H Q=>ta σ H λx H1=>r x H1 Q
inductive rIS(C:eN->eN->Prop)(g:eN->eN->V)(x y:V)(H:Hp)(Q:VK):Prop
 |mk (i j:eN)(h0:x=.int i)(h1:y=.int j)(h2:C i j)(h3:Q (g i j) H):rIS C g x y H Q
def rI(C:eN->eN->Prop)(g:eN->eN->V):R2:=λx y H Q=>rIS C g x y H Q
inductive rI0S(g:eN->eN->V)(x y:V)(H:Hp)(Q:VK):Prop
 |mk (i j:eN)(h0:x=.int i)(h1:y=.int j)(h2:Q (g i j) H):rI0S g x y H Q
def rI0(g:eN->eN->V):R2:=λx y H Q=>rI0S g x y H Q
inductive rUS(g:eN->V)(x:V)(H:Hp)(Q:VK):Prop
 |mk (i:eN)(h0:x=.int i)(h1:Q (g i) H):rUS g x H Q
def rU(g:eN->V):V->Hp->VK->Prop:=λx H Q=>rUS g x H Q
theorem binT(q:PE X a o)(k:PE X b l){R:V->V->Hp->Prop}(I:Inv X c σ H s)(h:o σ H λx g=>l σ g λy d=>R x y d){f:JC->JC->Sem JC}(t:∀v u e x y d,Inv X c σ d e->RelV x v->RelV y u->R x y d->JD (JE X.prog X.w) X.A (f v u) Q X.xe e):
 JD (JE X.prog X.w) X.A (eval a X.env) (λv n=>JD (JE X.prog X.w) X.A (eval b X.env) (λu m=>JD (JE X.prog X.w) X.A (f v u) Q X.xe m) X.xe n) X.xe s:=by
 refine thn (q c s σ H _ I h) λv s1 i=>?_;let(x,g,p,r1,r):=i;refine thn (k c s1 σ g _ p r) λu e i=>?_;let(y,d,j,r2,z):=i;exact t v u e x y d j r1 r2 z
theorem abj(i:OpR X (Je op) r)(m:PE X a k)(e:PE X b f):PE X (.BinOp a op b pos) (tOp r k f):=by
 intro c s σ H Q I h;exact wpAny_BinOp (binT m e I h λv u l x y j d g n q=>i c l σ j x y v u Q d g n q)
theorem afx(c:UnR X (unaryOp op) r)(f:PE X a d):PE X (.UnaryOp op a pos) (tUn r d):=by
 intro b s σ H Q I h;exact UnaryOp_ (thn (f b s σ H _ I h) λv s1 #[x,g,e,r1,i]=>c b s1 σ g x v Q e r1 i)
theorem opI{g:eN->eN->eN}(a:∀(i j:eN) (t u:Tok) (s:JG) (Q:JC->JG->Prop) (E:JC->JG->Prop),C i j->Q (.int (g i j) s.toks) {s with toks:=s.toks+1}->JD (JE X.prog X.w) X.A (f (.int i t) (.int j u)) Q E s):
 OpR X f (rI C λi j=>.int (g i j)):=by
 intro b s σ H x y v u Q I c e h;let(i,j,rfl,rfl,d,q):=h;let(t,rfl):=c;let(t',rfl):=e;exact a i j t t' s _ _ d #[.int (g i j),H,I.tok _,#[_,eY],q]
theorem opI0{g:eN->eN->eN}(a:∀(i j:eN) (t u:Tok) (s:JG) (Q:JC->JG->Prop) (E:JC->JG->Prop),Q (.int (g i j) s.toks) {s with toks:=s.toks+1}->JD (JE X.prog X.w) X.A (f (.int i t) (.int j u)) Q E s):
 OpR X f (rI0 λi j=>.int (g i j)):=by
 intro b s σ H x y v u Q I c d h;let(i,j,rfl,rfl,q):=h;let(t,rfl):=c;let(t',rfl):=d;exact a i j t t' s _ _ #[.int (g i j),H,I.tok _,#[_,eY],q]
theorem opB0{g:eN->eN->fJ}(a:∀(i j:eN) (t u:Tok) (s:JG) (Q:JC->JG->Prop) (E:JC->JG->Prop),Q (.bool (g i j)) s->JD (JE X.prog X.w) X.A (f (.int i t) (.int j u)) Q E s):
 OpR X f (rI0 λi j=>.bl (g i j)):=by
 intro b s σ H x y v u Q I c d h;let(i,j,rfl,rfl,q):=h;let(t,rfl):=c;let(t',rfl):=d;exact a i j t t' s _ _ #[.bl (g i j),H,I,eY,q]
def CDiv(i j:eN):Prop:=0<j/\j<1073741824
def CPow(i j:eN):Prop:=0<=j/\j<=1000000/\i.natAbs<2 ^ 64
def CMul(i j:eN):Prop:=(-(2 ^ 64)<i/\i<2 ^ 64)\/(-(2 ^ 64)<j/\j<2 ^ 64)
theorem CMul.ok(h:CMul i j):IntMulOk i j:=by
 rcases h with⟨h1,h2⟩|⟨h1,h2⟩
 . exact .of_left (intBits_le_64 h1 h2)
 exact .of_right (intBits_le_64 h1 h2)
theorem jb:OpR X (Je .Add) (rI0 λi j=>.int (i+j)):=opI0 λ_ _ _ _ _ _ _ q=>add_int q
theorem me:OpR X (Je .Mult) (rI CMul λi j=>.int (i*j)):=opI λ_ _ _ _ _ _ _ a q=>mul_int q a.ok
theorem ji:OpR X (Je .FloorDiv) (rI CDiv λi j=>.int (i / j)):=opI λi j _ _ _ _ _ a q=>by
 let h1:(0:eN)<j:=a.1;let h2:j<1073741824:=a.2;exact floordiv_int (by lia) (by rw[Fd i (by lia)];exact q) (.inl (PyProof.noPylong_small (by lia)))
theorem j3:OpR X (Je .Mod) (rI (λ_ j=>0<j) λi j=>.int (i % j)):=opI λi j _ _ _ _ _ a q=>by
 let h1:(0:eN)<j:=a;exact mod_int' (by lia) (by rw[Int.fmod_eq_emod_of_nonneg i (by lia)];exact q)
theorem a64:OpR X (Je .Pow) (rI CPow λi j=>.int (i ^ j.toNat)):=opI λ_ _ _ _ _ _ _ a q=>pow_int_small a.1 a.2.1 a.2.2 q
theorem unI{g:eN->eN}(a:∀(i:eN) (t:Tok) (s:JG) (Q:JC->JG->Prop) (E:JC->JG->Prop),Q (.int (g i) s.toks) {s with toks:=s.toks+1}->JD (JE X.prog X.w) X.A (f (.int i t)) Q E s):
 UnR X f (rU λi=>.int (g i)):=by
 intro b s σ H x v Q I c h;let(i,rfl,q):=h;let(t,rfl):=c;exact a i t s _ _ #[.int (g i),H,I.tok _,#[_,eY],q]
theorem wh:UnR X (unaryOp .USub) (rU λi=>.int (-i)):=unI λ_ _ _ _ _ q=>neg_int q
def scal:V->V->fJ
 |.non,.non=>eJ|.non,.int _=>eJ|.int _,.non=>eJ|.non,.bl _=>eJ|.bl _,.non=>eJ|.non,.str _=>eJ|.str _,.non=>eJ
 |.int _,.int _=>eJ|.bl _,.bl _=>eJ|.str _,.str _=>eJ|.byt _,.byt _=>eJ
 |.int _,.str _=>eJ|.str _,.int _=>eJ|.bl _,.str _=>eJ|.str _,.bl _=>eJ
 |_,_=>eK
def rEq:R2:=λx y H Q=>scal x y=eJ/\Q (.bl (decide (x=y))) H
def rNe:R2:=λx y H Q=>scal x y=eJ/\Q (.bl (!decide (x=y))) H
theorem a3b:decide (V.int i=V.int j)=(i==j):=by
 rw[Bd];simp
theorem a7y:decide (V.bl i=V.bl j)=(i==j):=by
 rw[Bd];simp
theorem a2w:decide (V.str i=V.str j)=(i==j):=by
 rw[Bd];simp
theorem a2d:decide (V.byt i=V.byt j)=(i.toList==j.toList):=by
 rw[Bd];cases i;cases j;simp
theorem i8(I:Inv X a σ H s)(q:Q (.bl k) H)(e:k=b):EP X a σ Q (.bool b) s:=by
 subst e;exact#[.bl k,H,I,eY,q]
theorem gq:OpR X (JM .Eq) rEq:=by
 intro d s σ H x y v u Q I c a h;let(b,q):=h;cases x with
 |non =>
  cases c;cases y with|non=>cases a;exact PySem.EqNone.eq_none_none (i8 I q (by simp))|bl j=>cases a;exact PySem.EqNone.eq_none_bool (i8 I q (by simp))|int j=>let(t',rfl):=a;exact PySem.EqNone.eq_none_int (i8 I q (by simp))|str j=>let(t',rfl):=a;exact PySem.EqNone.eq_none_str (i8 I q (by simp))|_=>exact eR (show eK=eJ from b) Az
 |bl i =>
  cases c;cases y with|non=>cases a;exact PySem.EqNone.eq_bool_none (i8 I q (by simp))|bl j=>cases a;exact eq_bool (i8 I q a7y)|str j=>let(t',rfl):=a;exact PySem.EqMixed.eq_bool_str (i8 I q (by simp))|_=>exact eR (show eK=eJ from b) Az
 |int i =>
  let(t,rfl):=c;cases y with|non=>cases a;exact PySem.EqNone.eq_int_none (i8 I q (by simp))|int j=>let(t',rfl):=a;exact eq_int (i8 I q a3b)|str j=>let(t',rfl):=a;exact PySem.EqMixed.eq_int_str (i8 I q (by simp))|_=>exact eR (show eK=eJ from b) Az
 |str i =>
  let(t,rfl):=c;cases y with|non=>cases a;exact PySem.EqNone.eq_str_none (i8 I q (by simp))|bl j=>cases a;exact PySem.EqMixed.eq_str_bool (i8 I q (by simp))|int j=>let(t',rfl):=a;exact PySem.EqMixed.eq_str_int (i8 I q (by simp))|str j=>let(t',rfl):=a;exact eq_str (i8 I q a2w)|_=>exact eR (show eK=eJ from b) Az
 |byt i =>
  let(t,rfl):=c;cases y with|byt j=>let(t',rfl):=a;exact PySem.W.eq_bytes (i8 I q a2d)|_=>exact eR (show eK=eJ from b) Az
 |_=>cases y<;>exact eR (show eK=eJ from b) Az
theorem km:OpR X (JM .NotEq) rNe:=by
 intro d s σ H x y v u Q I c a h;let(b,q):=h;cases x with
 |non =>
  cases c;cases y with|non=>cases a;exact PySem.EqNone.ne_none_none (i8 I q (by simp))|bl j=>cases a;exact PySem.EqNone.ne_none_bool (i8 I q (by simp))|int j=>let(t',rfl):=a;exact PySem.EqNone.ne_none_int (i8 I q (by simp))|str j=>let(t',rfl):=a;exact PySem.EqNone.ne_none_str (i8 I q (by simp))|_=>exact eR (show eK=eJ from b) Az
 |bl i =>
  cases c;cases y with|non=>cases a;exact PySem.EqNone.ne_bool_none (i8 I q (by simp))|bl j=>cases a;exact ne_bool (i8 I q (fE not a7y))|str j=>let(t',rfl):=a;exact PySem.EqMixed.ne_bool_str (i8 I q (by simp))|_=>exact eR (show eK=eJ from b) Az
 |int i =>
  let(t,rfl):=c;cases y with|non=>cases a;exact PySem.EqNone.ne_int_none (i8 I q (by simp))|int j=>let(t',rfl):=a;exact ne_int (i8 I q (fE not a3b))|str j=>let(t',rfl):=a;exact PySem.EqMixed.ne_int_str (i8 I q (by simp))|_=>exact eR (show eK=eJ from b) Az
 |str i =>
  let(t,rfl):=c;cases y with|non=>cases a;exact PySem.EqNone.ne_str_none (i8 I q (by simp))|bl j=>cases a;exact PySem.EqMixed.ne_str_bool (i8 I q (by simp))|int j=>let(t',rfl):=a;exact PySem.EqMixed.ne_str_int (i8 I q (by simp))|str j=>let(t',rfl):=a;exact ne_str (i8 I q (fE not a2w))|_=>exact eR (show eK=eJ from b) Az
 |byt i =>
  let(t,rfl):=c;cases y with|byt j=>let(t',rfl):=a;exact PySem.W.ne_bytes (i8 I q (fE not a2d))|_=>exact eR (show eK=eJ from b) Az
 |_=>cases y<;>exact eR (show eK=eJ from b) Az
theorem a00:OpR X (JM .Lt) (rI0 λi j=>.bl (decide (i<j))):=opB0 λ_ _ _ _ _ _ _ q=>lt_int q
theorem afi:OpR X (JM .Gt) (rI0 λi j=>.bl (decide (j<i))):=opB0 λ_ _ _ _ _ _ _ q=>gt_int q
theorem afn:OpR X (JM .GtE) (rI0 λi j=>.bl (decide (j<=i))):=opB0 λ_ _ _ _ _ _ _ q=>ge_int q
theorem kx:OpR X (JM .Is) (λx y H Q=>y=.non/\Q (.bl (decide (x=.non))) H):=by
 intro a s σ H x y v u Q I b c h;let(rfl,q):=h;cases c;refine is_none_gen (i8 I q ?_);cases x<;>first
  | (cases b;rfl)
  | (let(t,rfl):=b;rfl)
theorem xt:OpR X (JM .IsNot) (λx y H Q=>y=.non/\Q (.bl (!decide (x=.non))) H):=by
 intro a s σ H x y v u Q I b c h;let(rfl,q):=h;cases c;refine isnot_none_gen (i8 I q ?_);cases x<;>first
  | (cases b;rfl)
  | (let(t,rfl):=b;rfl)
theorem fy(b:Expr)(h:autoParam (op≠.In) a1_)(h2:autoParam (op≠.NotIn) a1_):JN op b=eK:=by
 let a:(op==CmpOp.In)=eK:=by cases op<;>first|rfl|exact eR rfl h
 let c:(op==CmpOp.NotIn)=eK:=by cases op<;>first|rfl|exact eR rfl h2
 cases b<;>simp[JN,a,c]
theorem adb(i:OpR X (JM op) r)(m:PE X a k)(e:PE X b f)(hm:JN op b=eK):PE X (.Compare a [op] [b] pos) (tOp r k f):=by
 intro c s σ H Q I h;exact wpAny_Compare1 (binT m e I h λv u l x y j d g n q=>i c l σ j x y v u Q d g n q) hm
inductive tTestS(x:V)(H':Hp)(Q:fJ->Hp->Prop):Prop
 |mk (k:fJ)(h0:x=.bl k)(h1:Q k H'):tTestS x H' Q
def aba(t:TE):TT:=fun σ H Q=>t σ H λx H'=>tTestS x H' Q
theorem a2z(i:OpR X (JM op) r)(B:PE X a l)(n:PE X b g)(hm:JN op b=eK):PT X (.Compare a [op] [b] pos) (aba (tOp r l g)):=by
 intro d s σ H Q I h;refine Gh (thn (B d s σ H _ I h) λv s1 #[x,C,A,r1,m]=>thn (n d s1 σ C _ A m) λu t #[y,j,f,r2,D] =>
  thn (i d t σ j x y v u _ f r1 r2 D) λc E #[z,q,o,p,k,e,w]=>?_) hm
 subst e;cases p;exact BL #[q,o,w]
def TruV(K:Aa)(x:V)(H:Hp)(k:fJ):Prop :=
 match x with
 |.non=>k=eK
 |.bl b=>k=b
 |.int i=>k=(i != 0)
 |.str y=>y.length<=JB/\k=((y.length:eN) != 0)
 |.byt y=>y.size<=JB/\k=((y.size:eN) != 0)
 |.ref p=>(∃xs,SqL K H p xs/\k = !xs.isEmpty)\/(∃xs,SqT K H p xs/\k = !xs.isEmpty)\/∃kvs,H p=eH (.dK kvs)/\k = !kvs.isEmpty
 |_=>False
theorem a49(r:KV kvs vs):(!vs.isEmpty) = !kvs.isEmpty:=by
 cases r<;>rfl
theorem wg(r:Vals xs its):(!its.toArray.isEmpty) = !xs.isEmpty:=by
 cases r<;>simp
theorem qq:(JB:eO)<2 ^ 63:=by rw[D6];decide
theorem aew:TruR X (λx H Q=>∃k,TruV X.K x H k/\Q k H):=by
 intro g s σ H x v Q I d h;let(k,e,q):=h;let hl:=qq;let n:JB=16777216:=D6;cases x with
 |non =>
  cases d;let a:k=eK:=e;subst a;exact truthy_none #[H,I,q]
 |bl b =>
  cases d;let a:k=b:=e;subst a;exact BL #[H,I,q]
 |int i =>
  let(t,rfl):=d;let a:k=(i != 0):=e;subst a;exact PySem.P.truthy_int #[H,I,q]
 |str y =>
  let(t,rfl):=d;obtain⟨j,a⟩:y.length<=JB/\k=((y.length:eN) != 0):=e;subst a;exact PySem.P.truthy_str (by lia) #[H,I.tok _,q]
 |byt y =>
  let(t,rfl):=d;obtain⟨j,a⟩:y.size<=JB/\k=((y.size:eN) != 0):=e;subst a;exact PySem.W.truthy_bytes (by lia) #[H,I.tok _,q]
 |ref p =>
  cases d;let a:(∃xs,SqL X.K H p xs/\k = !xs.isEmpty)\/(∃xs,SqT X.K H p xs/\k = !xs.isEmpty)\/∃kvs,H p=eH (.dK kvs)/\k = !kvs.isEmpty:=e;rcases a with⟨xs,f,a⟩|⟨xs,f,a⟩|⟨kvs,f,a⟩
  . subst a;let(its,r,pl,hz):=I.list f;let c:=r.length;exact wpAny_truthy_list pl.isList (by simp only[A3];lia) #[H,I.tok _,by rw[wg r];exact q]
  . subst a;let(its,r,pl,hz):=I.tuple f;let c:=r.length;exact truthy_tuple pl (by simp only[A3];lia) #[H,I.tok _,by rw[wg r];exact q]
  subst a;obtain⟨hz,l,vs,r,m⟩:kvs.length<=JB/\(p==JS)=eK/\∃vs,KV kvs vs/\s.heap.DictOf (gu X.prog X.w) p vs:=I.hok p _ f;let c:kvs.length=vs.length:=A4 r;exact wpAny_truthy_dict l m (by lia) #[H,I.tok _,by rw[a49 r];exact q]
 |_=>exact(show False from e).elim
theorem a8m(f:PE X a c)(d:∀whole,isTrue a X.env whole=(do let v<-whole;standAt a.pos;holding [v] (truthy v))):
 PT X a (fun σ H Q=>c σ H λx H'=>∃k,TruV X.K x H' k/\Q k H'):=by
 intro b s σ H Q I h;exact isTrue_plain (thn (f b s σ H _ I h) λv s1 #[x,g,e,r1,i]=>aew b s1 σ g x v Q e r1 i) (d _)
theorem o3:OpR X (Je .Add) (λx y H Q=>∃i j,x=.str i/\y=.str j/\i.length+j.length<=JB/\Q (.str (i++j)) H):=by
 intro a s σ H x y v u Q I b c h;let(i,j,rfl,rfl,hz,q):=h;let(t,rfl):=b;let(t',rfl):=c;exact add_str (λt' tk=>#[.str (i++j),H,I.tok _,#[_,eY],q]) hz
theorem vx(r:Vals [x] us):∃u,us=[u]/\RelV x u:=by
 cases r with|cons r1 r2=>cases r2;exact#[_,eY,r1]
structure ObjM(h:JP)(x dx C:JA)(mA:eZ->eM JC):Prop where
 obj:h.get? x=eH (Cj C dx)
 ns:h.Ns1 dx mA
 ne:dx≠x
theorem a6q{h:JP}(n:h.Ns1 j f):∃od,h.get? j=eH od/\∀name,EK name od=eH (f name):=by
 let(o,es,ep,i,hd,g,_,hm):=n;refine#[o,i,λname=>?_];let e:=hm name;unfold nsFind findBy at e;rw[<- Hs] at e;unfold EK;rw[hd];dsimp only;split;rename_i y q;rw[q] at e;exact fE eH e
 rename_i q;rw[q] at e;let a:es.toList.any (·.refKey)=eK:=by
  rw[List.any_eq_false];intro y d;let(z,t,b):=g y (Array.mem_toList_iff.mp d);simp[DictEntry.refKey,b]
 let c:¬ es.toList.any (·.refKey)=eJ:=by rw[a];exact Az
 rw[eP c];exact fE eH e
theorem ObjM.look(I:ObjM h x b C a):∃od,PySem.W.InstAt h x (Cj C b) C (eH od)/\∀name,EK name od=eH (a name) :=
 let ⟨od,ho,hl⟩:=a6q I.ns
 #[od,#[I.obj,eY,eY,ho],hl]
theorem acv{K:Aa}(X:K.In s.heap)(I:ObjM s.heap x g C d)(c:CK K C name=eJ)(e:Dh K C=eJ)(f:AR K (.ref C) name=eH eI)(hv:d name=eH v)(a:HS v=eJ)(h:Q v {s with toks:=s.toks+1}):
 JD (JE prog w) A (getAttr (.ref x) name b) Q E s:=by
 let(od,J,hl):=I.look;exact PySem.W.get_value X J (EH c).1 (PySem.W.findObj_own e f rfl (by rw[hl,hv])) a h
theorem aau{K:Aa}(X:K.In s.heap)(I:ObjM s.heap x e C b)(a:CK K C name=eJ)(d:AR K (.ref C) name=eH (eH (.ref f)))(c:Fy K (.ref f)=eJ)(hv:b name=eI)(h:Q (.ref f,[.ref x]) s):
 JD (JE prog w) A (getMethod (.ref x) name pl) Q E s:=by
 let(od,J,hl):=I.look;exact PySem.W.method_fn X J (EH a).1 (EH a).2 d (beq_iff_eq.mp c) (by show(EK name od).map (·.isSome)=eH eK;rw[hl,hv];rfl) h
theorem ad8{K:Aa}(X:K.In s.heap)(I:ObjM s.heap x e C k)(q:AR K (.ref C) "__setattr__"=eH (eH (.builtin "object.__setattr__")))(hp:Ec K C=eJ)(l:FP K C name=eH eI)(t:Dh K C=eJ)(o:Ho k ns)(hsz:ns.length<=JB)(h:∀h',ObjM h' x e C (λy=>if y=name then eH v else k y)->BF e s.heap h'->Q () {s with heap:=h',toks:=s.toks+2}):
 JD (JE prog w) A (setAttr (.ref x) name v) Q E s:=by
 let(od,J,hl):=I.look;refine PySem.W.set_plain X J q (PySem.W.osa_open (s:={s with toks:=s.toks+1}) (r:=eI) X J hp l λb=>?_);let(z,n,g):=PySem.W.any_some t;let m:s.heap.get? x=eH #[.ref C,eH e,.plain,[].toArray]:=I.obj;refine Ac (Al (Ac (Ac (wpAny_loadPart m (Ac (PySem.W.Looks.here (s:={s with toks:=s.toks+1}) (PySem.W.looks_clsIn X n) ?_))))));rw[g];refine Al (a:=eH e) (Ac (Al (Ac ?_)));refine wpAny_nsSet1 (s:={s with toks:=s.toks+1}) I.ns λh' d c=>?_;let(B,p,u,j,f,i):=d.count (PySem.Within.cons name v o);refine Ac (wpAny_lookBehind j (by rw[f];exact pastItsLine_dict (AB i (by rw[Aw];lia))) ?_);exact Al (h _ #[(c.2 _ (AF I.ne)).trans I.obj,d,I.ne] c)
theorem a8z{K:Aa}(X:K.In s.heap)(hm:E1 K C=eJ)(hi:AR K (.ref C) "__init__"=eH (eH (.ref f)))(a:PySem.W.typeIn K (.ref f)=eH (.type "function"))(h:Ja (JE prog w) (A.under (.builtin "type.__call__" #[.ref C::vs,kw])) (.call (.ref f) #[.ref (s.heap.objs.size+1)::vs,kw]) (PySem.W.InitBack (s.heap.objs.size+1) R)
 {s with heap:=(s.heap.push BM).push (Cj C s.heap.objs.size)}):
 Ja (JE prog w) A (.call (.ref C) #[vs,kw]) R s:=by
 let(b,g,d,t,os):=s;exact PySem.W.make_core (PySem.W.makes_of X hm) (PySem.W.looks_findIn X hi) (λself=>PySem.W.bind_fn X self a) (.inl rfl) h
def putF(f:eZ)(v:V):eL (eZ×V)->eL (eZ×V)
 |[]=>[(f,v)]
 | (g,x)::r=>if g=f then(g,v)::r else(g,x)::putF f v r
theorem ft(f g:eZ)(v:V):∀fs:eL (eZ×V),(putF f v fs).lookup g=if g=f then eH v else fs.lookup g
 |[]=>by
  show D8 g [(f,v)]=_;by_cases h:g=f;let a:(g==f)=eJ:=beq_iff_eq.mpr h;simp only[D8,a,eQ h];let a:(g==f)=eK:=beq_eq_false_iff_ne.mpr h;simp only[D8,a,eP h]
 | (k,x)::r=>by
  let c:=ft f g v r;rw[show putF f v ((k,x)::r)=(if k=f then(k,v)::r else(k,x)::putF f v r) from rfl];by_cases b:k=f;rw[eQ b];by_cases h:g=k;let a:(g==k)=eJ:=beq_iff_eq.mpr h;simp only[D8,a,eQ (h.trans b)];let a:(g==k)=eK:=beq_eq_false_iff_ne.mpr h;simp only[D8,a,eP (λe:g=f=>h (e.trans b.symm))]
  rw[eP b];by_cases h:g=k;let a:(g==k)=eJ:=beq_iff_eq.mpr h;simp only[D8,a,eP (λe:g=f=>b (h.symm.trans e))];let a:(g==k)=eK:=beq_eq_false_iff_ne.mpr h;simp only[D8,a];exact c
theorem si(f:eZ)(v:V):∀fs:eL (eZ×V),f∈(putF f v fs).map (·.1)/\∀g,g∈fs.map (·.1)->g∈(putF f v fs).map (·.1)
 |[]=>#[by simp[putF],λg h=>by simp at h]
 | (k,x)::r=>by
  let(i1,i2):=si f v r;rw[show putF f v ((k,x)::r)=(if k=f then(k,v)::r else(k,x)::putF f v r) from rfl];by_cases a:k=f;rw[eQ a];subst a;exact#[by simp,λg h=>by simpa using h]
  rw[eP a];refine#[?_,λg h=>?_];rw[A8];exact Ah _ i1
  rw[A8] at h |-;rcases Ak.mp h with e|e;exact Ak.mpr (.inl e);exact Ah _ (i2 g e)
theorem gz(f:eZ)(v:V):∀fs:eL (eZ×V),(putF f v fs).length<=fs.length+1
 |[]=>by simp[putF]
 | (k,x)::r=>by
  let b:=gz f v r;rw[show putF f v ((k,x)::r)=(if k=f then(k,v)::r else(k,x)::putF f v r) from rfl];by_cases a:k=f;rw[eQ a,Aw,Aw];lia;rw[eP a,Aw,Aw];lia
theorem RelO.some_of(r:RelO (eH v) o):∃u,o=eH u/\RelV v u:=by
 cases o with|none=>exact(show False from r).elim|some u=>exact#[u,eY,r]
theorem RelO.none_of(r:RelO eI o):o=eI:=by
 cases o with|none=>rfl|some u=>exact(show False from r).elim
theorem a7z(r:RelV v u):HS u=eJ:=by
 cases v with|non=>cases(show u=Value.none from r);rfl|bl b=>cases(show u=Value.bool b from r);rfl|int i=>let(t,e):=(show ∃t,u=Value.int i t from r);cases e;rfl|str x=>let(t,e):=(show ∃t,u=Value.str x t from r);cases e;rfl|byt b=>let(t,e):=(show ∃t,u=Value.bytes b t from r);cases e;rfl|flt b=>let(t,e):=(show ∃t,u=Value.float b t from r);cases e;rfl|ref a=>cases(show u=Value.ref a from r);rfl|ty n=>cases(show u=Value.type n from r);rfl
theorem xm(hok:HOk P w H h)(e:H a=eH (.ins C c fs)):∃b,ObjM h a c C b/\(∀f,RelO (fs.lookup f) (b f))/\Ho b (fs.map (·.1))/\fs.length<=1000/\H c=eH (.own a):=by
 let(d,z,ne,ob,b,n,r,q):=(show ObjOk P w H h a (.ins C c fs) from hok a _ e)
 exact#[b,#[ob,n,ne],r,q,z,d]
structure Cls(K:Aa)(C:JA):Prop where
 pg:CK K C ID=eJ
 hd:Dh K C=eJ
 po:Ec K C=eJ
 sa:AR K (.ref C) "__setattr__"=eH (eH (.builtin "object.__setattr__"))
theorem Cls.get{K:Aa}(c:Cls K C)(f:eZ):CK K C f=eJ:=c.pg
def NoAttr(K:Aa)(C:JA)(f:eZ):Prop:=AR K (.ref C) f=eH eI
theorem NoAttr.taker{K:Aa}(n:NoAttr K C f):FP K C f=eH eI:=by
 unfold FP;rw[show AR K (.ref C) f=eH eI from n];rfl
structure Con(K:Aa)(C:JA)(f:eZ)(v:V)(u:JC):Prop where
 at_:AR K (.ref C) f=eH (eH u)
 rel:RelV v u
 get:PySem.W.specialIn K u "__get__"=eH eI
 cp:PySem.W.copiedNames.contains f=eK
structure Meth(K:Aa)(C:JA)(m:eZ)(f:JA):Prop where
 at_:AR K (.ref C) m=eH (eH (.ref f))
 fn:Fy K (.ref f)=eJ
 kp:BV K (.ref f)=eJ
theorem a4b(I:Inv X d σ H s)(e:H a=eH (.ins C k fs))(c:Cls X.K C)(n:NoAttr X.K C f)(l:fs.lookup f=eH v)(h:∀u s',Inv X d σ H s'->RelV v u->Q u s'):JD (JE X.prog X.w) A (getAttr (.ref a) f b) Q E s:=by
 let(i,O,r,_,_,_):=xm I.hok e;let(u,j,g):=RelO.some_of (v:=v) (o:=i f) (by rw[<- l];exact r f);exact acv I.kIn O (c.get f) c.hd n j (a7z g) (h u _ (I.tok _) g)
theorem wr(I:Inv X b σ H s)(e:H a=eH (.ins C f fs))(c:Cls X.K C)(k:Meth X.K C m g)(l:fs.lookup m=eI)(h:Q (.ref g,[.ref a]) s):JD (JE X.prog X.w) A (getMethod (.ref a) m pl) Q E s:=by
 let(d,O,r,_,_,_):=xm I.hok e;let hn:d m=eI:=RelO.none_of (by rw[<- l];exact r m);exact aau I.kIn O (c.get m) k.at_ k.fn hn h
theorem a52(I:Inv X d σ H s)(e:H a=eH (.ins C j fs))(c:Cls X.K C)(n:NoAttr X.K C f)(hl:fs.length<1000)(p:RelV y u)(h:∀s',Inv X d σ (upd H a (.ins C j (putF f y fs))) s'->Q () s'):JD (JE X.prog X.w) A (setAttr (.ref a) f u) Q E s:=by
 let(l,O,r,m,_,k):=xm I.hok e;let hz:(fs.map (·.1)).length<=JB:=by rw[Ad,D6];lia
 refine ad8 I.kIn O c.sa c.po n.taker c.hd m hz λh' i B=>h _ ?_;let hd:∃o,h'.get? j=eH o:=let ⟨o,_,_,e',_⟩:=i.ns;#[o,e'];refine I.write (x:=a) (e:=j) (by rw[e];exact True.intro) (.inr k) (λb q v z=>(B.2 b v).trans z) hd ?_;refine#[by rw[fg O.ne];exact k,?_,O.ne,i.obj,_,i.ns,λg=>?_,λg t=>?_];let:=gz f y fs;lia;show RelO ((putF f y fs).lookup g) (if g=f then eH u else l g);rw[ft];by_cases q:g=f;rw[eQ q,eQ q];exact p;rw[eP q,eP q];exact r g
 by_cases q:g=f;rw[q];exact(si f y fs).1;refine(si f y fs).2 g (m g λz=>t ?_);show(if g=f then eH u else l g)=eI;rw[eP q];exact z
theorem Inv.made(I:Inv X c σ H s):Inv X c σ (upd (upd H s.heap.objs.size (.own (s.heap.objs.size+1))) (s.heap.objs.size+1) (.ins C s.heap.objs.size []))
 {s with heap:=(s.heap.push BM).push (Cj C s.heap.objs.size)}:=by
 let d:(s.heap.push BM).get? s.heap.objs.size=eH BM:=Ax s.heap rfl;let g:((s.heap.push BM).push (Cj C s.heap.objs.size)).get? (s.heap.objs.size+1)=eH (Cj C s.heap.objs.size):=by
  let:=Ax (s.heap.push BM) (o:=Cj C s.heap.objs.size) rfl
  rwa [B1] at this
 let j:(s.heap.push BM).Ns s.heap.objs.size (λ_=>eI):=#[BM,[].toArray,_,d,eY,(λe h=>eR h (by simp)),λ_=>rfl]
 let i:=I.laid (a:=s.heap.objs.size) (o:=.own (s.heap.objs.size+1)) (h':=s.heap.push BM) (t':=s.toks) (λb u q=>Aj _ q) (Ao _) #[_,d];refine i.laid (a:=s.heap.objs.size+1) (o:=.ins C s.heap.objs.size []) (t':=s.toks) (λb u q=>Aj _ q) (Ht (B1 _ _)) ?_;let ne:s.heap.objs.size≠s.heap.objs.size+1:=AA (B7 _);refine#[by rw[fg ne,fb],AC _,ne,g,λ_=>eI,(Heap.Ns1.of_empty j).at λo q=>Aj _ q,λ_=>True.intro,λy f=>eR rfl f]
theorem ad7(a:JT e f env (eval e env)=eval e env)(h:JD (JE prog w) A (eval e env) (λo b=>JD (JE prog w) A (getAttr o f eJ) Q E b) E s):JD (JE prog w) A (eval (.Attribute e f pos) env) Q E s :=
 Attribute_any_ h (by rw[arm_eval_Attribute,a])
def tFld(K:Aa)(ta:TE)(f:eZ):TE:=fun σ H Q=>ta σ H λx H1=>∃a C dx fs v,x=.ref a/\H1 a=eH (.ins C dx fs)/\Cls K C/\NoAttr K C f/\fs.lookup f=eH v/\Q v H1
def sFld(K:Aa)(ta tv:TE)(f:eZ):TS:=λD σ H=>tv σ H λy H1=>ta σ H1 λx H2=>∃a C dx fs,x=.ref a/\H2 a=eH (.ins C dx fs)/\Cls K C/\NoAttr K C f/\fs.length<1000/\
 D.nx σ (upd H2 a (.ins C dx (putF f y fs)))
theorem aei(m:PE X e i)(k:JT e f X.env (eval e X.env)=eval e X.env):PE X (.Attribute e f pos) (tFld X.K i f):=by
 intro b s σ H Q I h;refine ad7 k (thn (m b s σ H _ I h) λu s1 t=>?_);let(x,p,o,g,a,C,z,fs,v,ex,r,c,n,l,q):=t;subst ex;obtain rfl:u=Value.ref a:=g;exact a4b o r c n l λw y d j=>#[v,p,d,j,q]
theorem aeu(v:PE X o j)(hv:PE X value g)(p:JX value (eH (.Attribute o f d)) pos.line X.env=pure eK):PS X (.Assign [.Attribute o f d] value pos) (sFld X.K j g f):=by
 intro b s σ H D I h;refine plainObj_wpAny_Assign_Attribute (thn (hv b s σ H _ I h) λu s1 #[y,w,t,k,q]=>thn (v b s1 σ w _ t q) λr F #[x,E,e,i,a,C,G,fs,ex,z,c,n,l,A]=>?_) p;subst ex;obtain rfl:r=Value.ref a:=i;exact a52 e z c n l k λB m=>#[σ,_,m,A]
structure Room(k:eO)(A:Jf):Prop where
 hd:A.handled=eI
 dp:A.depth+3*k+5<recursionLimit
 un:A.units+16*k+200<cLine
theorem Room.mono(r:Room k A)(h:j<=k):Room j A:=#[r.hd,by let:=r.dp;lia,by let:=r.un;lia]
theorem Room.deeper(r:Room (k+1) A)(env:Env):Room k (A.deeper env) :=
 #[r.hd,by let:=r.dp;show A.depth+1+3*k+5<_;lia,by let:=r.un;show A.units+3+16*k+200<_;lia]
theorem a4t{A:Jf}:(A.under (.builtin "type.__call__" #[.ref C::us,kw])).depth=A.depth+1:=by
 first|rfl|simp[Hu,Code.weight,Code.isCreation,Code.isGuard,Code.isCaller,IV,Hv,guardIds]
theorem a40{A:Jf}:(A.under (.builtin "type.__call__" #[.ref C::us,kw])).units=A.units+1:=by
 first|rfl|simp[Hu,Code.cUnits,IV,Hv]
theorem Room.make(r:Room (k+1) A)(C:JA)(us:eL JC)(kw:eL (eZ×JC)):Room k (A.under (.builtin "type.__call__" #[.ref C::us,kw])) :=
 #[r.hd,by let:=r.dp;rw[a4t];lia,by let:=r.un;rw[a40];lia]
theorem Room.depth(r:Room k A):A.depth<recursionLimit:=by let:=r.dp;lia
theorem Room.units(r:Room k A):A.units+64<cLine:=by let:=r.un;lia
def tNil:TA:=λ_ H Q=>Q [] H
def ju(ta:TE)(tr:TA):TA:=fun σ H Q=>ta σ H λx H1=>tr σ H1 λxs H2=>Q (x::xs) H2
theorem sx:PA X [] tNil:=λ_ _ _ _ H Q I h=>CG #[[],H,I,.nil,h]
theorem jz(i:PE X e f)(l:PA X es t)(c:autoParam (JF (e::es) X.env=(eK,eval e X.env)::JF es X.env) a4_):PA X (e::es) (ju f t):=by
 intro pos a s σ H Q I h;rw[c];show JD _ _ (spliced ((eK,eval e X.env)::JO pos (JF es X.env))) _ _ s;refine BQ (thn (i a s σ H _ I h) λu s1 m=>?_);let(x,j,g,r1,k):=m;exact thn (l pos a s1 σ j _ g k) λus o #[xs,d,b,r2,n]=>#[x::xs,d,b,.cons r1 r2,n]
def tTup(t:TA):TE:=fun σ H Q=>t σ H λxs H1=>xs.length<=JB/\∀p,H1 p=eI->Q (.ref p) (upd H1 p (.tup xs))
def tLst(t:TA):TE:=fun σ H Q=>t σ H λxs H1=>xs.length<=JB/\∀p,H1 p=eI->Q (.ref p) (upd H1 p (.lst xs))
theorem a70{x1}(h:PA X es t):PE X (.Tuple es x1 pos) (tTup t):=by
 intro a s σ H Q I g;refine wpAny_Tuple_spliced (thn (h pos a s σ H _ I g) λus s1 #[xs,d,c,r,z,q]=>#[by rw[<- r.length];exact z,?_]);let f:d s1.heap.objs.size=eI:=c.hok.fresh (Ao _);refine#[.ref s1.heap.objs.size,upd d s1.heap.objs.size (.tup xs),c.laid (t':=s1.toks) (λb u e=>Aj _ e) (Ao _) ?_,eY,q _ f];exact#[z,us,r,#[_,Ax _ rfl,eY,_,eY]]
theorem a16(h:PA X es t):PE X (.List es pos) (tLst t):=by
 intro a s σ H Q I g;refine wpAny_List_spliced (thn (h pos a s σ H _ I g) λus s1 #[xs,d,c,r,z,q]=>#[by rw[<- r.length];exact z,?_]);let f:d s1.heap.objs.size=eI:=c.hok.fresh (Ao _);refine#[.ref s1.heap.objs.size,upd d s1.heap.objs.size (.lst xs),c.laid (t':=s1.toks) (λb u e=>Aj _ e) (Ao _) ?_,eY,q _ f];exact#[z,us,0,r,Ax _ rfl]
abbrev Sp:=eL V->Hp->VK->XK->Prop
abbrev CXT:=eL Env->Hp->JG->XK->JC->JG->Prop
structure Env0(P:JQ)(w:JV)(K:Aa)(mg:eZ->eM JC)(base:JP)(A:Jf)(outer:eL Env)(s:JG)(H:Hp):Prop where
 frames:A.frames=eH outer
 mod:Mod K mg base
 bs:∀b o,base.get? b=eH o->s.heap.get? b=eH o/\H b=eI
 bsz:base.objs.size<=s.heap.objs.size
 funs:s.heap.FunFrames base outer
 frf:∀b∈frs outer,H b=eI
 hok:HOk P w H s.heap
 bare:AllBare s.gens
def CE(outer:eL Env)(P:JQ)(w:JV)(H:Hp)(s:JG)(Q:VK)(u:JC)(s':JG):Prop :=
 ∃v H',s'.os=s.os/\AllBare s'.gens/\Un (frs outer) [] H H' s.heap s'.heap/\HOk P w H' s'.heap/\RelV v u/\Q v H'
def CR(CX:CXT)(outer:eL Env)(P:JQ)(w:JV)(H:Hp)(s:JG)(Q:VK)(E:XK)(r:Result)(s':JG):Prop :=
 match r with
 |.ok (.ret u)=>CE outer P w H s Q u s'
 |.ok _=>False
 |.error e=>CX outer H s E e s'
structure FnOk(P:JQ)(w:JV)(K:Aa)(mg:eZ->eM JC)(base:JP)(CX:CXT)(k:eO)(f:JA)(fd:JY)(ps:eU)(sp:Sp):Prop where
 len:∀vs H Q E,sp vs H Q E->vs.length=ps.length
 run:∀(A:Jf) (outer:eL Env) (s:JG) (H:Hp) (args:Args) (us:eL JC) (vs:eL V) (Q:VK) (E:XK),Room k A->Env0 P w K mg base A outer s H->BindsTo s fd args (ps.zip us)->Vals vs us->sp vs H Q E->
  Ja (JE P w) A (.call (.ref f) args) (CR CX outer P w H s Q E) s
theorem Env0.make{K:Aa}(e:Env0 P w K mg base A outer s H)(C:JA)(us:eL JC)(kw:eL (eZ×JC)):
 Env0 P w K mg base (A.under (.builtin "type.__call__" #[.ref C::us,kw])) outer s H:=#[by first|exact e.frames|(simpa [Hu,Code.envs,Hv,pushEnvs] using e.frames),e.mod,e.bs,e.bsz,e.funs,e.frf,e.hok,e.bare]
theorem Inv.env0(I:Inv X a σ H s):Env0 X.prog X.w X.K X.mg X.base X.A X.stack s H :=
 #[I.ok.frames,I.ok.mod,I.bs,AB I.ok.bsz I.sz,I.stack,I.stkFree,I.hok,I.bare]
theorem Inv.after(I:Inv X a σ H s)(h:CE X.stack X.prog X.w H s Q u s'):EP X a σ Q u s':=by
 let(v,H',os,bare,un,hok,r,q):=h;let(e,g,d,t,c):=s';obtain rfl:c=s.os:=os;exact#[v,H',I.call (h':=e) (g':=g) (d':=d) (t':=t) (ch:=[]) un hok bare (λb z=>eR z (by simp)),r,q]
def zw(sp:Sp)(dvs:eL V)(E:XK)(t:TA):TE:=fun σ H Q=>t σ H λvs H1=>sp (vs++dvs) H1 Q E
def a02(C:JA)(m:eZ)(sp:Sp)(dvs:eL V)(E:XK)(ta:TE)(t:TA):TE:=fun σ H Q=>ta σ H λx H1=>∃a dx fs,x=.ref a/\H1 a=eH (.ins C dx fs)/\fs.lookup m=eI/\
 t σ H1 λvs H2=>sp (x::(vs++dvs)) H2 Q E
def abv(C:JA)(sp:Sp)(dvs:eL V)(E:XK)(t:TA):TE:=fun σ H Q=>t σ H λvs H1=>∀x dx,H1 x=eI->H1 dx=eI->dx≠x->
 sp (.ref x::(vs++dvs)) (upd (upd H1 dx (.own x)) x (.ins C dx [])) (λv H2=>v=.non/\Q (.ref x) H2) E
def Binds(K:Aa)(fd:JY)(ps:eU)(ds:eL JC):Prop :=
 ∀(s:JG) (us:eL JC),K.In s.heap->(us++ds).length=ps.length->BindsTo s fd #[us,[]] (ps.zip (us++ds))
theorem Binds.all{K:Aa}(h:∀us:eL JC,us.length=ps.length->bindArgs fd #[us,[]]=pure (ps.zip us)):Binds K fd ps []:=λs us _ hl=>by
 rw[A0] at hl |-;exact .of_eq (h us hl)
def ku(CX:CXT)(X:Cx)(E:XK):Prop:=∀(pins:eL (JA×Obj)) (σ:St) (H:Hp) (s:JG) (e:JC) (s':JG),Inv X pins σ H s->CX X.stack H s E e s'->X.xe e s'
theorem a0c(F:FnOk X.prog X.w X.K X.mg X.base CX k f fd ps sp)(j:Room k X.A)(g:Binds X.K fd ps d)(hd:Vals b d)(i:ku CX X E)(I:Inv X a σ H s)(r:Vals vs us)(h:sp (vs++b) H Q E):JD (JE X.prog X.w) X.A (call (.ref f) us) (EP X a σ Q) X.xe s:=by
 let r2:Vals (vs++b) (us++d):=r.append hd;let hl:(us++d).length=ps.length:=by rw[<- r2.length];exact F.len _ _ _ _ h
 refine Ij (Dj (F.run X.A X.stack s H #[us,[]] (us++d) (vs++b) Q E j I.env0 (g s us I.kIn hl) r2 h) λr s' c=>?_);cases r with
 |error e=>exact i a σ H s e s' I c
 |ok fl =>
  cases fl with|ret u=>exact I.after c|next=>exact BU c|brk=>exact BU c|cont=>exact BU c
theorem acu(F:FnOk X.prog X.w X.K X.mg X.base CX k f fd ps sp)(j:Room k X.A)(l:Gl X x)(hm:X.mg x=eH (.ref f))(n:BV X.K (.ref f)=eJ)(m:Binds X.K fd ps o)(hd:Vals b o)(i:ku CX X E)(v:PA X (e::es) t)(d:autoParam ((x==("__debug__":eZ))=eK) a1_)(u:autoParam (JF (e::es) X.env=(eK,eval e X.env)::JF es X.env) a4_)(c:autoParam ((JO pos (JF es X.env)).any (·.1)=eK) a4_):
 PE X (.Call (.Name x p) (e::es) [] pos) (zw sp b E t):=by
 intro a s σ H Q I h;refine DM (ue I l hm ?_ d);refine EX (h₀:=X.base) I.ok.mod.kin n (thn (v pos a s σ H _ I h) λus s1 #[vs,y,g,r,q]=>#[g.kIn,?_]) u c;exact a0c F j m hd i g r q
theorem adc(M:PE X o B)(c:Cls X.K C)(hm:Meth X.K C m f)(F:FnOk X.prog X.w X.K X.mg X.base CX k f fd ps sp)(G:Room k X.A)(J:Binds X.K fd ps L)(hd:Vals i L)(D:ku CX X E)(N:PA X (e::es) t)(g:autoParam (JF (e::es) X.env=(eK,eval e X.env)::JF es X.env) a4_)(j:autoParam ((JO pos (JF es X.env)).any (·.1)=eK) a4_)(y:autoParam (eval (.Call (.Attribute o m d) (e::es) [] pos) X.env=(do
 let p<-eval o X.env
 standAt d.atName
 let (f,first)<-holding [p] (getMethod p m pl)
 callWith pos f first (JO pos (JF (e::es) X.env)) (Jh pos (JZ [] X.env)))) a4_):
 PE X (.Call (.Attribute o m d) (e::es) [] pos) (a02 C m sp i E B t):=by
 intro b s σ H Q I h;refine Gi (pl:=pl) (thn (M b s σ H _ I h) λu s1 #[x,O,v,z,a,U,fs,ex,P,l,q]=>?_) y;subst ex;obtain rfl:u=Value.ref a:=z;refine wr v P c hm l ?_;refine EX (first:=[.ref a]) (h₀:=X.base) I.ok.mod.kin hm.kp (thn (N pos b s1 σ O _ v q) λus T #[vs,S,n,r,R]=>#[n.kIn,?_]) g j;exact a0c (us:=.ref a::us) (vs:=.ref a::vs) F G J hd D n (.cons rfl r) R
theorem a9j(z:PE X o p)(c:Cls X.K C)(hm:Meth X.K C m f)(F:FnOk X.prog X.w X.K X.mg X.base CX k f fd ps sp)(t:Room k X.A)(v:Binds X.K fd ps y)(hd:Vals e y)(r:ku CX X E)(j:autoParam (eval (.Call (.Attribute o m b) [] [] pos) X.env=(do
 let i<-eval o X.env
 standAt b.atName
 let (f,first)<-holding [i] (getMethod i m pl)
 callWith pos f first (JO pos (JF [] X.env)) (Jh pos (JZ [] X.env)))) a4_):
 PE X (.Call (.Attribute o m b) [] [] pos) (a02 C m sp e E p tNil):=by
 intro d s σ H Q I h;refine Gi (pl:=pl) (thn (z d s σ H _ I h) λu s1 #[x,G,g,n,a,D,fs,ex,B,l,q]=>?_) j;subst ex;obtain rfl:u=Value.ref a:=n;refine wr g B c hm l ?_;exact PySem.W.callWith_K0 (first:=[.ref a]) g.kIn hm.kp (a0c (us:=[.ref a]) (vs:=[.ref a]) F t v hd r g (.cons rfl .nil) q)
structure Mk(K:Aa)(C f:JA):Prop where
 makes:E1 K C=eJ
 init:AR K (.ref C) "__init__"=eH (eH (.ref f))
 fn:Fy K (.ref f)=eJ
 kp:BV K (.ref C)=eJ
theorem a8j(M:Mk X.K C f)(F:FnOk X.prog X.w X.K X.mg X.base CX k f fd ps sp)(o:Room (k+1) X.A)(p:Binds X.K fd ps g)(hd:Vals c g)(n:ku CX X E)(I:Inv X b σ H s)(r:Vals vs us)(h:∀x i,H x=eI->H i=eI->i≠x->sp (.ref x::(vs++c)) (upd (upd H i (.own x)) x (.ins C i [])) (λv m=>v=.non/\Q (.ref x) m) E):
 JD (JE X.prog X.w) X.A (call (.ref C) us) (EP X b σ Q) X.xe s:=by
 let j:=h (s.heap.objs.size+1) s.heap.objs.size (I.hok.fresh (Ef _)) (I.hok.fresh (Ao _)) (AA (B7 _));let d:=Inv.made (C:=C) I;let r2:Vals (V.ref (s.heap.objs.size+1)::(vs++c)) (Value.ref (s.heap.objs.size+1)::(us++g)):=.cons rfl (r.append hd);let hl:(Value.ref (s.heap.objs.size+1)::us++g).length=ps.length:=by
  let e:=r2.length;rw[F.len _ _ _ _ j] at e;exact e.symm
 refine Ij (a8z (f:=f) I.kIn M.makes M.init (beq_iff_eq.mp M.fn) (Dj (F.run _ X.stack _ _ #[Value.ref (s.heap.objs.size+1)::us,[]] (Value.ref (s.heap.objs.size+1)::(us++g)) _ _ E (o.make C us [])
  (d.env0.make C us []) (p _ (Value.ref (s.heap.objs.size+1)::us) d.kIn hl) r2 j) λr s' a=>?_))
 cases r with
 |error e=>exact n b σ _ _ e s' d a
 |ok fl =>
  cases fl with
  |ret u =>
   let(v,H',q,t,l,y):=d.after a;subst l;exact#[t,#[V.ref (s.heap.objs.size+1),H',q,eY,y]]
  |next=>exact BU a
  |brk=>exact BU a
  |cont=>exact BU a
theorem ach(M:Mk X.K C f)(F:FnOk X.prog X.w X.K X.mg X.base CX k f fd ps sp)(j:Room (k+1) X.A)(l:Gl X x)(hm:X.mg x=eH (.ref C))(m:Binds X.K fd ps n)(hd:Vals b n)(i:ku CX X E)(u:PA X (e::es) t)(d:autoParam ((x==("__debug__":eZ))=eK) a1_)(o:autoParam (JF (e::es) X.env=(eK,eval e X.env)::JF es X.env) a4_)(c:autoParam ((JO pos (JF es X.env)).any (·.1)=eK) a4_):
 PE X (.Call (.Name x p) (e::es) [] pos) (abv C sp b E t):=by
 intro a s σ H Q I h;refine DM (ue I l hm ?_ d);refine EX (h₀:=X.base) I.ok.mod.kin M.kp (thn (u pos a s σ H _ I h) λus s1 #[vs,v,g,r,q]=>#[g.kIn,?_]) o c;exact a8j M F j m hd i g r q
structure FnScope(N P:eU)(sc:Scope):Prop where
 kind:sc.kind=.function
 co:sc.isCoroutine=eK
 gen:sc.isGenerator=eK
 nd:N.Nodup
 pre:N.take P.length=P
 par:∀x∈P,sc.names.lookup x=eH .local\/sc.names.lookup x=eH .cell
 nofree:∀y∈sc.names,y.2≠.free
theorem yz{kindOf:eZ->eM NameKind}:∀{binds:eL (eZ×JC)}{m:eZ->eM JC},(∀v,(x,v)∉binds)->bindL kindOf binds m x=m x
 |[],_,_=>rfl
 | (n,v)::r,m,h=>by
  unfold bindL;rw[yz λw a=>h w (Ah _ a)];split
  . let:x≠n:=by rintro rfl;exact h v Af
    simp[this]
  rfl
theorem yh{kindOf:eZ->eM NameKind}:∀{binds:eL (eZ×JC)}{m:eZ->eM JC},(∀v,(x,v)∉binds)->bindC kindOf binds m x=m x
 |[],_,_=>rfl
 | (n,v)::r,m,h=>by
  unfold bindC;rw[yh λw a=>h w (Ah _ a)];split;rfl
  let:x≠n:=by rintro rfl;exact h v Af
  simp[this]
theorem yj{kindOf:eZ->eM NameKind}:∀{P:eU}{vs:eL JC}{i:eO}{m:eZ->eM JC},P.Nodup->P[i]?=eH x->vs[i]?=eH v->kindOf x=eH .local->
 bindL kindOf (P.zip vs) m x=eH v
 |[],_,_,_,_,h,_,_=>by simp at h
 |_::_,[],_,_,_,_,h,_=>by simp at h
 |p::P,w::vs,0,m,nd,h1,h2,hk=>by
  simp at h1 h2;subst h1;subst h2;show bindL kindOf ((p,w)::P.zip vs) m p=_;unfold bindL;rw[yz λv hv=>(AI.mp nd).1 (FQ hv).1,eQ hk];simp
 |p::P,w::vs,i+1,m,nd,h1,h2,hk=>by
  show bindL kindOf ((p,w)::P.zip vs) m x=_;unfold bindL;exact yj (i:=i) (AI.mp nd).2 (by simpa using h1) (by simpa using h2) hk
theorem yx{kindOf:eZ->eM NameKind}:∀{P:eU}{vs:eL JC}{i:eO}{m:eZ->eM JC},P.Nodup->P[i]?=eH x->vs[i]?=eH v->kindOf x≠eH .local->
 bindC kindOf (P.zip vs) m x=eH v
 |[],_,_,_,_,h,_,_=>by simp at h
 |_::_,[],_,_,_,_,h,_=>by simp at h
 |p::P,w::vs,0,m,nd,h1,h2,hk=>by
  simp at h1 h2;subst h1;subst h2;show bindC kindOf ((p,w)::P.zip vs) m p=_;unfold bindC;rw[yh λv hv=>(AI.mp nd).1 (FQ hv).1,eP hk];simp
 |p::P,w::vs,i+1,m,nd,h1,h2,hk=>by
  show bindC kindOf ((p,w)::P.zip vs) m x=_;unfold bindC;exact yx (i:=i) (AI.mp nd).2 (by simpa using h1) (by simpa using h2) hk
def start(N:eU)(vs:eL V):St:=vs.map eH++List.replicate (N.length-vs.length) eI
def cxOf(CX:CXT)(P:JQ)(w:JV)(K:Aa)(mg:eZ->eM JC)(base:JP)(N:eU)(qual:eZ)(scope:Scope)(f:JA)(cd:JC)(A:Jf)(outer:eL Env)(s:JG)(H:Hp)(E:XK):Cx where
 prog:=P
 w:=w
 K:=K
 mg:=mg
 base:=base
 A:=A.deeper (envOfC qual scope s.heap.objs.size f cd)
 N:=N
 s₀:=s
 H₀:=H
 env:=envOfC qual scope s.heap.objs.size f cd
 outer:=outer
 stack:=envOfC qual scope s.heap.objs.size f cd::outer
 ex:=[]
 calm:=eJ
 fn:=λ_=>eJ
 pn:=[]
 xe:=λe s'=>JD (JE P w) (A.deeper (envOfC qual scope s.heap.objs.size f cd)) (leaving (envOfC qual scope s.heap.objs.size f cd) e) (λ_ s''=>CX outer H s E e s'') (λe' s''=>CX outer H s E e' s'') s'
theorem a1q{a:Scope}(h:a.names.lookup x=eH .cell):∃c,(cellsFrom n a.names []).lookup x=eH c:=by
 let q:=FV a.names n [] (.inl h);exact Bk.mp q
theorem a6u{K:Aa}(S:FnScope N ps scope)(hd:A.handled=eI)(g:Env0 P w K mg base A outer s H)(hl:vs.length=ps.length)(r:Vals vs us)(x:InCallC s s.heap.objs.size (bindL (envOfC d scope s.heap.objs.size f o).kindOf (ps.zip us) λ_=>eI) (cellsFrom (s.heap.objs.size+1) scope.names []) (bindC (envOfC d scope s.heap.objs.size f o).kindOf (ps.zip us) λ_=>eI) s1):
 Inv (cxOf CX P w K mg base N d scope f o A outer s H E) [] (start N vs) H s1:=by
 let C:ps.length<=N.length:=by let:=fE FW S.pre;rw[AL] at this;lia
 let(h1,tk,rfl,B):=x.done;let l:∀b:JA,b∉(cxOf CX P w K mg base N d scope f o A outer s H E).ex:=λb z=>eR (show b∈([]:eL JA) from z) (by simp);exists #[g.mod,S.kind,eY,eY,Ao _,λy z c h1 h2=>?_,λy j=>?_,λy c _ h=>?_,λ_=>hd,Around.frames_deeper g.frames,.inr #[eY,eY],λb z=>eR z (l b),g.bs,g.bsz,λb _ _=>l b,λb z=>eR z (l b),g.funs,g.frf],
  rfl,g.bare,Un.kept B,#[_,x.toInCall.ns,λi y v h1 h2 h3=>?_],λy c h=>#[_,x.cell y c h],g.hok.fresh (Ao _),λy c h=>?_,λp hp=>eR (show p∈([]:eL (JA×Obj)) from hp) (by simp),g.hok.kept B
 . exact name_of_addr x.apart (BE h1) (BE h2)
 . let j:scope.names.lookup y=eH .cell\/scope.names.lookup y=eH .free:=j;rcases j with j|j;exact a1q j;exact eR rfl (S.nofree _ (BE j))
 . exact B6 (x.above y c (BE h))
 . let hi:i<vs.length:=by
    unfold start at h2;by_cases hi:i<vs.length;exact hi;rw[CD (by simpa using hi)] at h2;rw[List.getElem?_replicate] at h2;split at h2<;>cases h2
   let F:vs[i]?=eH v:=by
    unfold start at h2;rw[CI (by simpa using hi),Ar] at h2;cases e:vs[i]? with|none=>rw[e] at h2;cases h2|some a=>rw[e] at h2;cases h2;rfl
   let(u,t,D):=r.get F;let hp:ps[i]?=eH y:=by
    rw[<- S.pre,List.getElem?_take_of_lt (by lia)];exact h1
   let m:ps.Nodup:=by rw[<- S.pre];exact S.nd.sublist (Fk _ _)
   exists u,D;rcases S.par y (Aq hp) with k|k;exact .inl #[k,yj m hp t k];let(c,e):=a1q (n:=s.heap.objs.size+1) k;refine .inr #[.inl k,c,e,?_];let q:=x.cell y c e;rw[yx m hp t (by show scope.names.lookup y≠_;rw[k];decide)] at q;exact q
 . exact g.hok.fresh (B6 (x.above y c (BE h)))
 unfold start;show _=N.length;rw[Ai,Ad,List.length_replicate]
 lia
theorem ac4{K:Aa}{kV:JC}(R:K.lookup f=eH #[Z,od,.func (Cw name a params body scope T kV B pm U c ct),G])(C:Gj K c a=eJ)(S:FnScope N ps scope)(len:∀vs H Q E,sp vs H Q E->vs.length=ps.length)(g:∀(A:Jf) (outer:eL Env) (s:JG) (H:Hp) (vs:eL V) (Q:VK) (E:XK),Room k (A.deeper (envOfC a scope s.heap.objs.size f c))->sp vs H Q E->
 ∃t,PSs (cxOf CX P w K mg base N a scope f c A outer s H E) body t/\t {nx:=λ_ H'=>Q .non H',rt:=Q} (start N vs) H):
 FnOk P w K mg base CX (k+1) f (Cw name a params body scope T kV B pm U c ct) ps sp:=by
 refine#[len,λA outer s H args us vs Q E p l X r j=>?_];let hl:=len _ _ _ _ j;let F:K.In s.heap:=l.mod.kin.keeps λb o e=>(l.bs b o e).1;let z:s.heap.NoLimit:=l.mod.nolimit.keeps λb o e=>(l.bs b o e).1;let d:∀y∈ps.zip us,scope.names.lookup y.1=eH .local\/(scope.names.lookup y.1=eH .cell/\((cellsFrom (s.heap.objs.size+1) scope.names []).lookup y.1).isSome=eJ):=λ⟨n,v⟩ L=>by
  rcases S.par n (FQ L).1 with q|q;exact .inl q;exact .inr #[q,FV _ _ _ (.inl q)]
 refine codeAny_call_function p.depth (F _ _ R) rfl S.co S.gen rfl (PySem.W.codeRec_of F C) (X _ _ _ _ ?_);refine wpAny_newFunctionEnv_cells S.kind d λenv Y s1 x=>?_;subst Y;refine#[z.keeps x.toInCall.keep,codeAny_func ?_];let(t,M,O):=g A outer s H vs Q E (p.deeper _) j;let I:Inv (cxOf CX P w K mg base N a scope f c A outer s H E) [] (start N vs) H s1:=a6u S p.hd l hl r x;refine B8 (M [] s1 (start N vs) H _ I O) (λfl s' h=>?_) λe s' h=>h;let i:∀{m:St} {H':Hp} {v:V} {u:JC},Inv (cxOf CX P w K mg base N a scope f c A outer s H E) [] m H' s'->RelV v u->Q v H'->CE outer P w H s Q u s' :=
  λ{m H' v u} J D q=>#[v,H',J.os,J.bare,J.base,J.hok,D,q]
 cases fl with
 |ret u =>
  let(v,m,H',J,D,q):=h;exact i J D q
 |next =>
  let(m,H',J,q):=h;exact i (v:=V.non) (u:=Value.none) J rfl q
 |brk =>
  let(_,_,_,q):=h;exact BU q
 |cont =>
  let(_,_,_,q):=h;exact BU q
def tCB(r:eL V->Hp->VK->Prop)(t:TA):TE:=fun σ H Q=>t σ H λvs H1=>r vs H1 Q
theorem a1c{id:String}(i:ja X (.builtin id) r)(d:Gl X x)(hm:X.mg x=eI)(hv:bootBuiltins x=eH (.builtin id))(j:PA X (e::es) t)(hn:autoParam (x≠"__name__") a1_)(c:autoParam ((x==("__debug__":eZ))=eK) a1_)(f:autoParam (JF (e::es) X.env=(eK,eval e X.env)::JF es X.env) a4_)(b:autoParam ((JO pos (JF es X.env)).any (·.1)=eK) a4_):PE X (.Call (.Name x p) (e::es) [] pos) (tCB r t):=by
 intro a s σ H Q I h;refine DM (oh I d hm hv ?_ hn c);exact PyProof.Rows.callWith_builtin1 (thn (j pos a s σ H _ I h) λus s1 #[vs,k,g,r1,l]=>i a s1 σ k vs us Q g r1 l) f b
theorem yq(i:ja X (.type T) r)(d:Gl X x)(hm:X.mg x=eI)(hv:bootBuiltins x=eH (.type T))(j:PA X (e::es) t)(hn:autoParam (x≠"__name__") a1_)(c:autoParam ((x==("__debug__":eZ))=eK) a1_)(f:autoParam (JF (e::es) X.env=(eK,eval e X.env)::JF es X.env) a4_)(b:autoParam ((JO pos (JF es X.env)).any (·.1)=eK) a4_):PE X (.Call (.Name x p) (e::es) [] pos) (tCB r t):=by
 intro a s σ H Q I h;refine DM (oh I d hm hv ?_ hn c);exact BZ (thn (j pos a s σ H _ I h) λus s1 #[vs,k,g,r1,l]=>i a s1 σ k vs us Q g r1 l) f b
end L2
namespace HT
open PySem PyProof.Rows
section
open PySem.SeqAt
open PySem.AutoSeq1 (wpAny_loadPart')
open PySem.MeetsSeq PySem.MeetsSeq2 PySem.MeetsSeq3
end
def sIx(n d:eO):eM eN->eO
 |none=>d
 |some v=>if v<0 then(v+(n:eN)).toNat else min v.toNat n
theorem sIx_none(n d:eO):sIx n d eI=d:=rfl
theorem sIx_nat(n d k:eO):sIx n d (eH (k:eN))=min k n:=by
 show(if(k:eN)<0 then((k:eN)+(n:eN)).toNat else min (k:eN).toNat n)=min k n;rw[eP (by lia),AW]
theorem wt(n d:eO)(hd:d<=n)(o:eM eN):sIx n d o<=n:=by
 cases o with
 |none=>exact hd
 |some v =>
  show(if v<0 then(v+(n:eN)).toNat else min v.toNat n)<=n;by_cases hv:v<0;rw[eQ hv];lia;rw[eP hv];exact HU _ _
theorem a30(v:eN)(n d:eO):(if v<0 then max (v+(n:eN)) 0 else min v (n:eN))=((sIx n d (eH v):eO):eN):=by
 show(if v<0 then max (v+(n:eN)) 0 else min v (n:eN))=(((if v<0 then(v+(n:eN)).toNat else min v.toNat n):eO):eN)
 by_cases hv:v<0;simp only[eQ hv];lia;simp only[eP hv];lia
theorem a4s(lo hi:eM eN)(n:eO):DF lo hi 1 (n:eN)=(((sIx n 0 lo:eO):eN),((sIx n n hi:eO):eN)):=by
 let h1:¬ ((1:eN)<0):=by lia
 unfold DF;simp only[h1,if_false];refine Prod.ext ?_ ?_
 . cases lo with|none=>rfl|some v=>exact a30 v n 0
 cases hi with|none=>rfl|some v=>exact a30 v n n
theorem a4y(i j:eO):CJ (i:eN) (j:eN) 1=j-i:=by
 unfold CJ;let h1:(1:eN)>0:=by lia
 simp only[h1,if_true,Int.ediv_one];split<;>lia
theorem wp(p:IsPart v o)(h:Q o s):JD (JE prog w) A (Builtin.Slice.slicePartIndex v) Q E s:=by
 cases p with|none=>exact slicePart_none h|int i t=>exact slicePart_int h
theorem va{lo:eM eN}{Q:eN×eN×eO->JG->Prop}(e:s.heap.IsSliceOf g b c .none)(pl:IsPart b lo)(d:IsPart c hi)(h:Q (((sIx n 0 lo:eO):eN),1,sIx n n hi-sIx n 0 lo) s):JD (JE prog w) A (Fe (.ref g) (pure (n:eN))) Q E s:=by
 let(os,a,f,hds):=id e;unfold Fe Builtin.Slice.sliceFields;refine Ac (Ac (Bo a hds (x:=b) rfl (Ac (Bo a hds (x:=c) rfl (Ac (Bo a hds (x:=.none) rfl (Al ?_)))))));refine Ac (slicePart_none ?_);show JD _ _ (if((1:eN)==0)=eJ then _ else _) _ _ s;rw[eP (by decide)];refine Ac (wp pl (Ac (wp d (Ac (Al ?_)))));show JD _ _ (match DF lo hi 1 (n:eN) with|(lo,hi)=>pure (lo,(1:eN),CJ lo hi 1)) _ _ s;rw[a4s lo hi n];show JD _ _ (pure (((sIx n 0 lo:eO):eN),(1:eN),CJ ((sIx n 0 lo:eO):eN) ((sIx n n hi:eO):eN) 1)) _ _ s;rw[a4y];exact Al h
theorem a9i(xs:fF JC)(i k:eO):((AU k).filterMap λ(m:eO)=>xs[((i:eN)+(m:eN)*1).toNat]?).toArray=((xs.toList.drop i).take k).toArray:=by
 let e:(λ(m:eO)=>xs[((i:eN)+(m:eN)*1).toNat]?)=λm=>xs[i+m]?:=by
  funext m
  let:((i:eN)+(m:eN)*1).toNat=i+m:=by lia
  rw[this]
 rw[e];let:=pick_run xs i k;rw[DN] at this;let a:((λx=>xs[x]?)∘λx=>i+x)=λm=>xs[i+m]?:=rfl;rw[a] at this;rw[this]
theorem getItem_tuple_cut{lo:eM eN}(b:IsTup s.heap t items)(g:s.heap.IsSliceOf i k l .none)(pl:IsPart k lo)(j:IsPart l hi)(n:¬ (sIx items.size 0 lo=0/\sIx items.size items.size hi=items.size))(h:Q (.ref s.heap.objs.size) {s with heap:=s.heap.push {cls:=.type "tuple",data:=.seq ((items.toList.drop (sIx items.size 0 lo)).take (sIx items.size items.size hi-sIx items.size 0 lo)).toArray}})(hsz:items.size<=JB):JD (JE prog w) A (getItem (.ref t) (.ref i)) Q E s:=by
 let a:sizeOk (.seq ((items.toList.drop (sIx items.size 0 lo)).take (sIx items.size items.size hi-sIx items.size 0 lo)).toArray):=by
  show((items.toList.drop (sIx items.size 0 lo)).take (sIx items.size items.size hi-sIx items.size 0 lo)).toArray.size<=JB;rw[A3,AL,Bq,AG];omega
 let o:sIx items.size items.size hi<=items.size:=wt _ _ (Ao _) hi;let(os,f,e,hds):=id g;let c:s.TypeIs (.ref i) "slice" := #[os,f,e]
 unfold getItem
 try with_reducible refine BI ?_
 first|refine Ac (Al ?_)|skip
 refine Ac (wpAny_sequenceKey b.typeIs (by decide) ?_);refine Ac (Bp (name:=BJ "__getitem__") b.typeIs Ew
  (Bl Ew b.typeIs entry_tuple_getitem ?_ (args_tuple_getitem _ _)))
 show JD _ _ (Builtin.Tuple.tupleItemsOf (.ref t)>>=_) _ _ s;refine Ac (tupleItemsOf_ b ?_);refine Ac (E2 c ?_);rw[eQ (by decide)];refine Ac (va g pl j ?_);let d:¬ ((((sIx items.size 0 lo:eO):eN)==0 && (1:eN)==1 && (sIx items.size items.size hi-sIx items.size 0 lo)==items.size)=eJ):=by
  intro q;rw[Br,Br] at q;let p:((sIx items.size 0 lo:eO):eN)=0:=eq_of_beq q.1.1;let r:sIx items.size items.size hi-sIx items.size 0 lo=items.size:=eq_of_beq q.2;exact n #[by omega,by omega]
 show JD _ _ (if(((sIx items.size 0 lo:eO):eN)==0 && (1:eN)==1 && (sIx items.size items.size hi-sIx items.size 0 lo)==items.size)=eJ then _ else _) _ _ s;rw[eP d,a9i]
 first
  |exact Ac (m:=CL _) (AX (Al #[_,eY,Al h]) a)
  |exact Ac (m:=CL _) (AX (Ac (Al (Al #[_,eY,Al h]))) a)
  |exact Ac (Ac (m:=CL _) (AX (Al (Al #[_,eY,Al h])) a))
  |exact Ac (Ac (m:=CL _) (AX (Al #[_,eY,Al h]) a))
end HT
namespace L2
open PyProof.Rows
abbrev TO:=St->Hp->(eM eN->Hp->Prop)->Prop
def PO(X:Cx)(e:eM Expr)(t:TO):Prop :=
 ∀(pins:eL (JA×Obj)) (s:JG) (σ:St) (H:Hp) (Q:eM eN->Hp->Prop),Inv X pins σ H s->t σ H Q->
   JD (JE X.prog X.w) X.A (evalPart e X.env) (λu s'=>∃o H',Inv X pins σ H' s'/\IsPart u o/\Q o H') X.xe s
def a31:TO:=λ_ H Q=>Q eI H
inductive tPartS(x:V)(H1:Hp)(Q:eM eN->Hp->Prop):Prop
 |mk (i:eN)(h0:x=.int i)(h1:Q (eH i) H1):tPartS x H1 Q
def aby(t:TE):TO:=fun σ H Q=>t σ H λx H1=>tPartS x H1 Q
theorem vm:∀{us:eL JC},Vals (ns.map V.int) us->IntsAre us ns:=by
 induction ns with
 |nil=>intro us r;rw[BG] at r;cases r;exact .nil
 |cons n ns ih =>
  intro us r;rw[A8] at r;cases r with
  |cons r1 r2 =>
   let(t,e):=r1;subst e;exact .cons n t (ih r2)
section
theorem a35:PO X eI a31:=by
 intro a s σ H Q I h;rw[evalPart_none];exact Al #[eI,H,I,.none,h]
theorem a2b(h:PE X e b):PO X (eH e) (aby b):=by
 intro a s σ H Q I g;rw[evalPart_some];refine thn (h a s σ H _ I g) λu s1 j=>?_;let(x,d,c,r1,f):=j;let(i,rfl,q):=f;let(t,rfl):=r1;exact#[eH i,d,c,.int i t,q]
variable{lo hi:eM Expr} in
def SlR(X:Cx)(r:V->eM eN->eM eN->Hp->VK->Prop):Prop :=
 ∀(pins:eL (JA×Obj)) (s:JG) (σ:St) (H:Hp) (x:V) (v vl vu:JC) (lo hi:eM eN) (sl:JA) (Q:VK),Inv X pins σ H s->RelV x v->s.heap.IsSliceOf sl vl vu .none->IsPart vl lo->IsPart vu hi->r x lo hi H Q->
   ∃T id,typeLookup (.type T) "__getitem__"=pure (eH (.builtin id))/\s.TypeIs v T/\JD (JE X.prog X.w) X.A (getItem v (.ref sl)) (EP X pins σ Q) X.xe s
def tSl(r:V->eM eN->eM eN->Hp->VK->Prop)(te:TE)(tl th:TO):TE:=fun σ H Q=>te σ H λx H1=>tl σ H1 λl H2=>th σ H2 λu H3=>r x l u H3 Q
theorem a12{lo:eM Expr}(B:SlR X r)(M:PE X e t)(hl:PO X lo F)(C:PO X hi m):PE X (.Subscript e (.Slice lo hi eI n) pos) (tSl r t F m):=by
 intro a s σ H Q I h;refine Subscript_ (thn (M a s σ H _ I h) λv s1 g=>?_);let(x,N,L,r1,y):=g;refine wpAny_Slice (thn (hl a s1 σ N _ L y) λd G #[l,p,j,pl,P]=>thn (C a G σ p _ j P) λf c g=>?_);let(u,i,E,k,J):=g;rw[evalPart_none];refine Al ?_;let O:Inv X a σ i {c with heap:=c.heap.push {cls:=.type "slice",data:=.fields [d,f,.none].toArray}}:=E.kept (t':=c.toks) λb ob q=>Aj _ q;let(T,id,z,o,D):=B a {c with heap:=c.heap.push {cls:=.type "slice",data:=.fields [d,f,.none].toArray}} σ i x v d f l u c.heap.objs.size Q O r1 (Heap.IsSliceOf.new ..) pl k J;show JD (JE X.prog X.w) X.A (subscriptTail e (.Slice lo hi eI n) v (.ref c.heap.objs.size)) (EP X a σ Q) X.xe {c with heap:=c.heap.push {cls:=.type "slice",data:=.fields [d,f,.none].toArray}};exact tail_any (ops:=[.ref c.heap.objs.size,v]) o z D (by with_unfolding_all rfl)
def cutV(xs:eL V)(lo hi:eM eN):eL V:=(xs.drop (HT.sIx xs.length 0 lo)).take (HT.sIx xs.length xs.length hi-HT.sIx xs.length 0 lo)
theorem ul(xs:eL V)(lo hi:eM eN):(cutV xs lo hi).length<=xs.length:=by
 unfold cutV;rw[AL,Bq]
 lia
inductive rSlTS(K:Aa)(x:V)(lo hi:eM eN)(H:Hp)(Q:VK):Prop
 |mk (a:JA)(xs:eL V)(h0:x=.ref a)(h1:SqT K H a xs)(h2:¬ (HT.sIx xs.length 0 lo=0/\HT.sIx xs.length xs.length hi=xs.length))(h3:∀p,H p=eI->Q (.ref p) (upd H p (.tup (cutV xs lo hi)))):rSlTS K x lo hi H Q
variable{lo hi:eM Expr} in
def rSlT(K:Aa):V->eM eN->eM eN->Hp->VK->Prop:=λx lo hi H Q=>rSlTS K x lo hi H Q
theorem a0z:SlR X (rSlT X.K):=by
 intro d s σ H x v l n lo hi m Q I i g pl f h;let(a,xs,rfl,j,k,q):=h;cases i;let(its,r,e,hz):=I.tuple j;let c:its.toArray.size=xs.length:=by rw[A3];exact r.length.symm
 exists "tuple",_,PyProof.Rows.slot_tuple_getitem.lookup,e.typeIs;refine HT.getItem_tuple_cut e g pl f (by rw[c];exact k) ?_ (by rw[c];exact hz);rw[c];refine#[.ref s.heap.objs.size,_,I.laid (t':=s.toks) (o:=.tup (cutV xs lo hi)) (λb ob q=>Aj _ q) (Ao _) ?_,eY,q _ (I.hok.fresh (Ao _))];exact#[AB (ul xs lo hi) hz,_,(r.drop (HT.sIx xs.length 0 lo)).take (HT.sIx xs.length xs.length hi-HT.sIx xs.length 0 lo),IsTup.new _ _]
end
def ixN(n:eO)(i:eN):eM eO:=if 0<=i then(if i<n then eH i.toNat else eI) else if -(n:eN)<=i then eH (i+n).toNat else eI
def atI{α:Type}(xs:eL α)(i:eN):eM α:=(ixN xs.length i).bind λj=>xs[j]?
theorem a36(h:ixN n i=eH j):seqIndex? i n=eH j/\j<n /\ -(n:eN)<=i/\i<n:=by
 unfold ixN at h;by_cases a:0<=i;rw[eQ a] at h;by_cases h1:i<n;rw[eQ h1] at h;let e:i.toNat=j:=Am h;exact#[by rw[HP a h1,e],by lia,by lia,h1];rw[eP h1] at h;cases h
 rw[eP a] at h;by_cases h1 : -(n:eN)<=i;rw[eQ h1] at h;let e:(i+n).toNat=j:=Am h;exact#[by rw[Hw (by lia) h1,e],by lia,h1,by lia];rw[eP h1] at h;cases h
theorem xw(h:atI xs i=eH v):∃j,seqIndex? i xs.length=eH j/\xs[j]?=eH v/\j<xs.length /\ -(xs.length:eN)<=i/\i<xs.length:=by
 unfold atI at h;cases e:ixN xs.length i with
 |none=>rw[e] at h;cases h
 |some j =>
  rw[e] at h;let(h1,h2,h3,a):=a36 e;exact#[j,h1,h,h2,h3,a]
theorem lc{xs:eL α}{j:eO}{v:α}(h:xs[j]?=eH v):atI xs (j:eN)=eH v:=by
 let a:j<xs.length:=(An.mp h).1;let e:ixN xs.length (j:eN)=eH j:=by
  unfold ixN;rw[eQ (by lia),eQ (by lia)];simp
 unfold atI;rw[e];exact h
def ua(b:Expr):Prop:=∀o i,subscripted b eK o i=operate [o,i] (getItem o i)
def IxR(X:Cx)(r:R2):Prop :=
 ∀(value slice:Expr) (pins:eL (JA×Obj)) (s:JG) (σ:St) (H:Hp) (x y:V) (v u:JC) (Q:VK),Inv X pins σ H s->RelV x v->RelV y u->r x y H Q->
   subscripted slice eK v u=operate [v,u] (getItem v u)->JD (JE X.prog X.w) X.A (subscriptTail value slice v u) (EP X pins σ Q) X.xe s
def MtR(X:Cx)(id:String)(r:V->eL V->Hp->VK->Prop):Prop :=
 ∀(pins:eL (JA×Obj)) (s:JG) (σ:St) (H:Hp) (x:V) (xs:eL V) (v:JC) (us:eL JC) (Q:VK),Inv X pins σ H s->RelV x v->Vals xs us->r x xs H Q->
   JD (JE X.prog X.w) X.A (call (.builtin id) (v::us)) (EP X pins σ Q) X.xe s
section
theorem a4a(n:IxR X r)(m:PE X a k)(e:PE X b g)(f:ua b):PE X (.Subscript a b pos) (tOp r k g):=by
 intro c s σ H Q I h;exact Subscript_ (binT m e I h λv u l x y j d i o q=>n a b c l σ j x y v u Q d i o q (f _ _))
inductive rIxLS(K:Aa)(x y:V)(H:Hp)(Q:VK):Prop
 |mk (p:JA)(xs:eL V)(i:eN)(v:V)(h0:x=.ref p)(h1:y=.int i)(h2:SqL K H p xs)(h3:atI xs i=eH v)(h4:Q v H):rIxLS K x y H Q
def rIxL(K:Aa):R2:=λx y H Q=>rIxLS K x y H Q
inductive rIxTS(K:Aa)(x y:V)(H:Hp)(Q:VK):Prop
 |mk (p:JA)(xs:eL V)(i:eN)(v:V)(h0:x=.ref p)(h1:y=.int i)(h2:SqT K H p xs)(h3:atI xs i=eH v)(h4:Q v H):rIxTS K x y H Q
def rIxT(K:Aa):R2:=λx y H Q=>rIxTS K x y H Q
inductive rIxSS(x y:V)(H:Hp)(Q:VK):Prop
 |mk (z:eZ)(i:eN)(c:eO)(h0:x=.str z)(h1:y=.int i)(h2:z.length<=JB)(h3:atI z.cps.toList i=eH c)(h4:Q (.str #[[c].toArray]) H):rIxSS x y H Q
def rIxS:R2:=λx y H Q=>rIxSS x y H Q
theorem xj:IxR X (rIxL X.K):=by
 intro value d a s σ H x y v u Q I l n h g;let(p,xs,i,z,rfl,rfl,B,A,q):=h;cases l;let(t,rfl):=n;let(its,r,pl,hz):=I.list B;let(j,h1,h2,h3,o,m):=xw A;let(w,k,e):=r.get h2;let hl:=r.length;let hn:=qq;let b:EP X a σ Q w s:=#[z,H,I,e,q]
 by_cases f:0<=i
 . let c:i.toNat=j:=by
    rw[HP f m] at h1;exact Am h1
   exact item_listR pl.isList f (by lia) (by rw[c];simpa using k) b g
 let c:(i+(its.toArray.size:eN)).toNat=j:=by
  rw[Hw (by lia) o] at h1;rw[A3,<- hl];exact Am h1
 exact subscriptTail_builtinR (x:=w) pl.isList.typeIs HC.lookup
  (wpAny_getItem_list_neg (Q:=λr s'=>r=w/\EP X a σ Q r s') pl.isList (by lia) (by rw[A3]<;>lia) (by lia) (by rw[c];simpa using k) #[eY,b]) g
theorem mt:IxR X (rIxT X.K):=by
 intro value c a s σ H x y v u Q I e f h g;let(p,xs,i,z,rfl,rfl,m,l,q):=h;cases e;let(t,rfl):=f;let(its,r,pl,hz):=I.tuple m;let(j,h1,h2,h3,o,n):=xw l;let(w,k,d):=r.get h2;let hl:=r.length;let hn:=qq;let b:EP X a σ Q w s:=#[z,H,I,d,q]
 exact subscriptTail_builtinR (x:=w) pl.typeIs slot_tuple_getitem.lookup
  (getItem_tuple (j:=j) (Q:=λr s'=>r=w/\EP X a σ Q r s') pl (by lia) (by lia) (by rw[A3,<- hl];exact h1) (by simpa using k) #[eY,b]) g
theorem vt:IxR X rIxS:=by
 intro value a b s σ H x y v u Q I d f h g;let(z,i,c,rfl,rfl,hz,n,q):=h;let(t,rfl):=d;let(t',rfl):=f;let(j,h1,h2,h3,k,e):=xw n;let hl:z.cps.toList.length=z.length:=by simp[Cu]
 rw[hl] at h1 k e;let hn:=qq;exact tail_any (G8 s z t) slot_str_getitem.lookup (getItem_str (c:=c) (by
  let l:decide (i < -(2 ^ 63:eN))=eK:=fA (by lia);let m:decide (i >= 2 ^ 63)=eK:=fA (by lia);rw[l,m,IG]) (by rw[h1];simpa using h2) #[.str #[[c].toArray],H,I.tok _,#[_,eY],q]) g
theorem a4d(its:eL JC)(n j:eO)(u:JC):DW (·.setIfInBounds j u) {cls:=.type "list",data:=.seq its.toArray n}={cls:=.type "list",data:=.seq (its.set j u).toArray n}:=by
 simp[DW]
theorem Inv.lst{X:Cx}{a:eL (JA×Obj)}{σ:St}{H:Hp}{s:JG}{p:JA}{xs:eL V}(I:Inv X a σ H s)(h:H p=eH (.lst xs)):
 ∃(its:eL JC) (n:eO),Vals xs its/\s.heap.get? p=eH {cls:=.type "list",data:=.seq its.toArray n}/\xs.length<=JB:=by
 let(z,its,n,r,e):=I.hok p _ h;exact#[its,n,r,e,z]
theorem Inv.lstUpd{its:eL JC}(I:Inv X a σ H s)(h:H p=eH (.lst xs))(i:s.heap.get? p=eH {cls:=.type "list",data:=.seq its.toArray n})(d:f {cls:=.type "list",data:=.seq its.toArray n}={cls:=.type "list",data:=.seq its'.toArray c})(r:Vals ys its')(hz:ys.length<=JB)(t:eO):
 Inv X a σ (upd H p (.lst ys)) {s with heap:=s.heap.update p f,toks:=t}:=by
 let e:(s.heap.update p f).get? p=eH {cls:=.type "list",data:=.seq its'.toArray c}:=by
  rw[BH f i (by rw[d]<;>rfl),d]
 refine I.write (x:=p) (e:=p) (by rw[h];trivial) (.inl rfl) (λb u g q=>(Cb _ _ (AF g)).trans q) #[_,e] ?_;exact#[hz,its',c,r,e]
inductive rSetLS(o i v:V)(H:Hp)(Q:Hp->Prop):Prop
 |mk (p:JA)(xs:eL V)(k:eN)(j:eO)(h0:o=.ref p)(h1:i=.int k)(h2:H p=eH (.lst xs))(h3:ixN xs.length k=eH j)(h4:Q (upd H p (.lst (xs.set j v)))):rSetLS o i v H Q
def ag2:V->V->V->Hp->(Hp->Prop)->Prop:=λo i v H Q=>rSetLS o i v H Q
theorem a8p:PSet X ag2:=by
 intro a s σ H o i v x y u Q I m l w h;let(p,xs,k,j,rfl,rfl,hp,g,q):=h;cases m;let(t,rfl):=l;let(its,n,r,b,hz):=I.lst hp;let(h1,h2,h3,f):=a36 g;let hl:=r.length;let hn:=qq;let e:Inv X a σ (upd H p (.lst (xs.set j v))) {s with heap:=s.heap.update p (DW (·.setIfInBounds j u))} :=
  I.lstUpd hp b (a4d its n j u) (r.set w j) (by rw[List.length_set];exact hz) s.toks
 by_cases d:0<=k
 . let c:k.toNat=j:=by
    rw[HP d f] at h1;exact Am h1
   exact PySem.W.ki_setAt b d (by lia) (by rw[A3,<- hl];exact f) (by rw[c];exact#[_,e,q])
 let c:(k+(its.toArray.size:eN)).toNat=j:=by
  rw[Hw (by lia) h3] at h1;rw[A3,<- hl];exact Am h1
 exact PySem.W.ki_setBack b (by lia) (by rw[A3,<- hl];exact h3) (by lia) (by rw[c];exact#[_,e,q])
theorem a0f(lo hi:eM eN)(n:eO):(Jd lo hi eI n).1=((HT.sIx n 0 lo:eO):eN)/\(Jd lo hi eI n).2.1=((HT.sIx n n hi:eO):eN)/\(Jd lo hi eI n).2.2=1:=by
 refine#[?_,?_,eY]
 . cases lo with
   |none=>simp[Jd,HT.sIx]
   |some i =>
    simp only[Jd,HT.sIx,HV,show(1:eN)>0 by decide,if_true];by_cases h:i<0;simp only[h,if_true]<;>lia;simp only[h,if_false]<;>lia
 cases hi with
 |none=>simp[Jd,HT.sIx]
 |some i =>
  simp only[Jd,HT.sIx,HV,show(1:eN)>0 by decide,if_true];by_cases h:i<0;simp only[h,if_true]<;>lia;simp only[h,if_false]<;>lia
theorem zi(its:eL JC)(lo hi:eM eN):slicePick its.toArray lo hi eI=((its.drop (HT.sIx its.length 0 lo)).take (HT.sIx its.length its.length hi-HT.sIx its.length 0 lo)).toArray:=by
 let(h1,h2,h3):=a0f lo hi its.toArray.size;unfold slicePick;rw[h1,h2,h3];simp only[sliceRange_one,pick_run,A3]<;>rfl
variable{a:Expr} in
inductive rSlLS(K:Aa)(x:V)(lo hi:eM eN)(H:Hp)(Q:VK):Prop
 |mk (a:JA)(xs:eL V)(h0:x=.ref a)(h1:SqL K H a xs)(h2:∀p,H p=eI->Q (.ref p) (upd H p (.lst (cutV xs lo hi)))):rSlLS K x lo hi H Q
def rSlL(K:Aa):V->eM eN->eM eN->Hp->VK->Prop:=λx lo hi H Q=>rSlLS K x lo hi H Q
theorem qg:SlR X (rSlL X.K):=by
 intro d s σ H x v k m lo hi l Q I i g pl f h;let(a,xs,rfl,j,q):=h;cases i;let(its,r,e,hz):=I.list j;let c:=r.length;exists "list",_,HC.lookup,e.isList.typeIs;refine wpAny_getItem_list_slice e.isList g pl f .none (by simp) ?_ (by rw[A3]<;>lia);rw[zi,<- c];refine#[.ref s.heap.objs.size,_,I.laid (t':=s.toks) (o:=.lst (cutV xs lo hi)) (λb ob q=>Aj _ q) (Ao _) ?_,eY,q _ (I.hok.fresh (Ao _))];exact#[AB (ul xs lo hi) hz,_,0,(r.drop (HT.sIx xs.length 0 lo)).take (HT.sIx xs.length xs.length hi-HT.sIx xs.length 0 lo),Ax _ rfl]
def nr:V->fJ
 |.non=>eJ
 |.bl _=>eJ
 |.int _=>eJ
 |.str _=>eJ
 |_=>eK
def eqV:V->V->fJ
 |.non,.non=>eJ
 |.bl a,.bl b=>a==b
 |.bl a,.int b=>(if a then 1 else 0)==b
 |.int a,.bl b=>a==(if b then 1 else 0)
 |.int a,.int b=>a==b
 |.str a,.str b=>a==b
 |_,_=>eK
theorem af4(d:RelV y u)(c:RelV x v)(f:nr y=eJ)(e:nr x=eJ):IZ A s u v (eqV y x):=by
 cases y with
 |non =>
  cases d;cases x with|non=>cases c;exact Ik _|bl b=>cases c;exact SeqAt.EqAt.none_bool b|int b=>let(t,rfl):=c;exact He b t|str b=>let(t,rfl):=c;exact Hf b t|_=>exact eR (show eK=eJ from e) Az
 |bl a =>
  cases d;cases x with|non=>cases c;exact SeqAt.EqAt.bool_none a|bl b=>cases c;exact SeqAt.EqAt.bool_bool a b|int b=>let(t,rfl):=c;exact SeqAt.EqAt.bool_int a b t|str b=>let(t,rfl):=c;exact SeqAt.EqAt.bool_str a b t|_=>exact eR (show eK=eJ from e) Az
 |int a =>
  let(t',rfl):=d;cases x with|non=>cases c;exact Hg a t'|bl b=>cases c;exact SeqAt.EqAt.int_bool a t' b|int b=>let(t,rfl):=c;exact SeqAt.EqAt.int_int a t' b t|str b=>let(t,rfl):=c;exact Hm a t' b t|_=>exact eR (show eK=eJ from e) Az
 |str a =>
  let(t',rfl):=d;cases x with|non=>cases c;exact Hh a t'|bl b=>cases c;exact SeqAt.EqAt.str_bool a t' b|int b=>let(t,rfl):=c;exact Hn a t' b t|str b=>let(t,rfl):=c;exact SeqAt.EqAt.str_str a t' b t|_=>exact eR (show eK=eJ from e) Az
 |_=>exact eR (show eK=eJ from f) Az
def eqU(x:V)(u:JC):fJ:=match u with
 |.none=>eqV .non x
 |.bool b=>eqV (.bl b) x
 |.int i _=>eqV (.int i) x
 |.str z _=>eqV (.str z) x
 |_=>eK
theorem a8c(r:RelV y u)(f:nr y=eJ):eqU x u=eqV y x:=by
 cases y with|non=>cases r;rfl|bl b=>cases r;rfl|int i=>let(t,rfl):=r;rfl|str z=>let(t,rfl):=r;rfl|_=>exact eR (show eK=eJ from f) Az
theorem qd:∀{xs:eL V}{us:eL JC},Vals xs us->xs.all nr=eJ->us.any (eqU x)=xs.any λy=>eqV y x
 |_,_,.nil,_=>rfl
 |y::xs,u::us,.cons r t,f=>by
  rw[IH,Br] at f;rw[Dx,Dx,a8c r f.1,qd t f.2]
theorem oz(b:RelV x v)(c:nr x=eJ):∀{xs:eL V}{us:eL JC},Vals xs us->xs.all nr=eJ->∀u∈us,IZ A s u v (eqU x u)
 |_,_,.nil,_=>λu a=>by cases a
 |y::xs,u::us,.cons r t,f=>λd a=>by
  rw[IH,Br] at f;rcases Ak.mp a with rfl|a;rw[a8c r f.1];exact af4 r b f.1 c;exact oz b c t f.2 d a
def inV(x:V)(xs:eL V):fJ:=xs.any λy=>eqV y x
inductive rInS(K:Aa)(neg:fJ)(x y:V)(H:Hp)(Q:VK):Prop
 |mk (p:JA)(xs:eL V)(h0:y=.ref p)(h1:(SqL K H p xs\/SqT K H p xs))(h2:nr x=eJ)(h3:xs.all nr=eJ)(h4:Q (.bl (if neg then !inV x xs else inV x xs)) H):rInS K neg x y H Q
def rIn(K:Aa)(neg:fJ):R2:=λx y H Q=>rInS K neg x y H Q
theorem u0:OpR X (JM .In) (rIn X.K eK):=by
 intro c s σ H x y v u Q I d f h;let(p,xs,rfl,a,e,fs,q):=h;cases f;rcases a with a|a;let(its,r,pl,hz):=I.list a;refine Il (eqU x) pl.isList (λw b=>oz d e r fs w (by simpa using b)) #[.bl _,H,I,eY,?_];rw[show its.toArray.any (eqU x)=its.any (eqU x) by simp,qd r fs];exact q;let(its,r,pl,hz):=I.tuple a;refine SeqAt.in_tupleAt (eqU x) pl (λw b=>oz d e r fs w (by simpa using b)) #[.bl _,H,I,eY,?_];rw[show its.toArray.any (eqU x)=its.any (eqU x) by simp,qd r fs];exact q
theorem tm:OpR X (JM .NotIn) (rIn X.K eJ):=by
 intro c s σ H x y v u Q I d f h;let(p,xs,rfl,a,e,fs,q):=h;cases f;rcases a with a|a;let(its,r,pl,hz):=I.list a;refine SeqAt.notIn_listAt (eqU x) pl.isList (λw b=>oz d e r fs w (by simpa using b)) #[.bl _,H,I,eY,?_];rw[show its.toArray.any (eqU x)=its.any (eqU x) by simp,qd r fs];exact q;let(its,r,pl,hz):=I.tuple a;refine SeqAt.notIn_tupleAt (eqU x) pl (λw b=>oz d e r fs w (by simpa using b)) #[.bl _,H,I,eY,?_];rw[show its.toArray.any (eqU x)=its.any (eqU x) by simp,qd r fs];exact q
theorem j0:ja X (.builtin "len") (λxs H Q=>∃p ys,xs=[.ref p]/\(SqL X.K H p ys\/SqT X.K H p ys)/\Q (.int ys.length) H):=by
 intro c s σ H xs us Q I r h;let(p,ys,rfl,b,q):=h;let(u,rfl,d):=vx r;cases d;let hn:=qq;rcases b with b|b;let(its,r',pl,hz):=I.list b;let a:=r'.length;exact Calls.call_len_list pl.isList (by simp only[A3]<;>lia) #[.int ys.length,H,I.tok _,#[s.toks+1,by rw[A3,a]],q];let(its,r',pl,hz):=I.tuple b;let a:=r'.length;exact len_tuple pl (by simp only[A3]<;>lia) #[.int ys.length,H,I.tok _,#[s.toks+1,by rw[A3,a]],q]
theorem kt:ja X (.type "list") (λxs H Q=>∃p ys,xs=[.ref p]/\(SqL X.K H p ys\/SqT X.K H p ys)/\∀l,H l=eI->Q (.ref l) (upd H l (.lst ys))):=by
 intro c s σ H xs us Q I r h;let(p,ys,rfl,g,q):=h;let(u,rfl,m):=vx r;cases m;let d:∀(its:eL JC),Vals ys its->ys.length<=JB->∀(h':JP) (a:eO),(∀b k,s.heap.get? b=eH k->h'.get? b=eH k)->
  h'.get? s.heap.objs.size=eH {cls:=.type "list",dict:=eI,data:=.seq its.toArray a,slots := [].toArray}->EP X c σ Q (.ref s.heap.objs.size) {s with heap:=h'}:=λits r' hz h' a kp e =>
  #[.ref s.heap.objs.size,_,I.laid (t':=s.toks) kp (Ao _) (show ObjOk X.prog X.w _ h' _ (.lst ys) from#[hz,its,a,r',e]),eY,q _ (I.hok.fresh (Ao _))]
 rcases g with g|g;let(its,r',pl,hz):=I.list g;let f:=r'.length;let(o,i,j,n,hd):=pl.isList;exact call_list_seq p (.inl rfl) i j hd (λh' a kp e=>d its r' hz h' a kp e) (by simp only[A3]<;>lia);let(its,r',pl,hz):=I.tuple g;let f:=r'.length;let(o,i,j,n,hd):=pl;exact call_list_seq p (.inr rfl) i j hd (λh' a kp e=>d its r' hz h' a kp e) (by simp only[A3]<;>lia)
def tyV(K:Aa)(T:String)(x:V)(H:Hp):Prop:=match x with
 |.str _=>T="str"
 |.int _=>T="int"
 |.ref p=>(T="list" /\ ∃xs,SqL K H p xs)\/(T="tuple" /\ ∃o,K.lookup p=eH o/\o.cls=.type "tuple" /\ o.dict=eI)\/
  (T="dict" /\ ((∃kvs,H p=eH (.dK kvs))\/∃kvs,H p=eH (.dT kvs)))\/(T="set" /\ ∃S n,H p=eH (.set S n))
 |_=>False
theorem a68(I:Inv X f σ H s)(r:RelV x v)(ty:tyV X.K T x H):
 s.TypeIs v T/\∀a,v=.ref a->∃ob,s.heap.get? a=eH ob/\ob.dict=eI:=by
 cases x with
 |str z =>
  let(t,rfl):=r;cases(show T="str" from ty);exact#[G8 s z t,λ_ e=>nomatch e]
 |int i =>
  let(t,rfl):=r;cases(show T="int" from ty);exact#[typeIs_int s i t,λ_ e=>nomatch e]
 |ref p =>
  cases r;rcases ty with⟨rfl,xs,h⟩|⟨rfl,o,b,g,hd⟩|⟨rfl,b⟩|⟨rfl,S,n,b⟩
  . let(its,_,pl,_):=I.list h;refine#[pl.isList.typeIs,λa e=>?_];cases e;let(o,n,e,c,hd,_):=pl;exact#[o,e,hd]
  . refine#[#[o,I.kIn p o b,g],λa e=>?_];cases e;exact#[o,I.kIn _ o b,hd]
  . let z:∃o,s.heap.get? p=eH o/\o.ExactDict:=by
     rcases b with⟨kvs,b⟩|⟨kvs,b⟩
     . let(_,_,_,_,o,_,_,e,ex,_):=I.hok p _ b;exact#[o,e,ex]
     let(_,_,_,_,o,_,_,e,ex,_):=I.hok p _ b;exact#[o,e,ex]
    let(o,e,ex):=z;refine#[#[o,e,ex.1],λa d=>?_];cases d;exact#[o,e,ex.2.1]
  let(o,_,_,_,e,ex,_):=I.hok p _ b;refine#[#[o,e,ex.1],λa d=>?_];cases d;exact#[o,e,ex.2.1]
 |_=>exact BU ty
def tBM0(K:Aa)(T:String)(r:V->eL V->Hp->VK->Prop)(to:TE):TE:=fun σ H Q=>to σ H λx H1=>tyV K T x H1/\r x [] H1 Q
def tBM(K:Aa)(T:String)(r:V->eL V->Hp->VK->Prop)(to:TE)(t:TA):TE:=fun σ H Q=>to σ H λx H1=>tyV K T x H1/\t σ H1 λxs H2=>r x xs H2 Q
theorem aef{id:String}(i:PlainAttrs T)(slot:Slot T name id)(f:typeOf (.builtin id)=pure (.type "method_descriptor"))(hm:MtR X id r)(j:PE X o to)(b:autoParam (JT o name X.env (eval o X.env)=eval o X.env) a4_)(c:autoParam ((e.endLine==d.line)=eJ) a4_):PE X (.Call (.Attribute o name e) [] [] d) (tBM0 X.K T r to):=by
 intro a s σ H Q I h;refine wpAny_Call_method0_late b c (thn (j a s σ H _ I h) λv s1 m=>?_);let(x,k,g,r1,ty,l):=m;let(h1,h2):=a68 g r1 ty;exact#[T,id,i,slot,f,h1,h2,Cc rfl (PySem.evalArgs_none (hm a s1 σ k x [] v [] Q g r1 .nil l))]
theorem abg{id:String}(p:PlainAttrs T)(slot:Slot T name id)(k:typeOf (.builtin id)=pure (.type "method_descriptor"))(hm:MtR X id r)(q:PE X o to)(A:PA X (e::es) t)(f:autoParam (JT o name X.env (eval o X.env)=eval o X.env) a4_)(j:autoParam (((JO b (JF (e::es) X.env)).all (λx => !x.1) && (Jh b (JZ [] X.env)).all (λx=>x.1.isSome)
 && decide ((e::es).length+([]:eL Keyword).length+(if([]:eL Keyword).isEmpty then 0 else 1)<30))=eJ) a4_)(g:autoParam ((i.endLine==b.line)=eJ) a4_)(y:autoParam (JF (e::es) X.env=(eK,eval e X.env)::JF es X.env) a4_)(d:autoParam ((JO b (JF es X.env)).any (·.1)=eK) a4_):
 PE X (.Call (.Attribute o name i) (e::es) [] b) (tBM X.K T r to t):=by
 intro c s σ H Q I h;refine wpAny_Call_method_late f j g rfl (thn (q c s σ H _ I h) λv s1 C=>?_);let(x,B,l,r1,ty,w):=C;let(h1,h2):=a68 l r1 ty;exists T,id,p,slot,k,h1,h2;let hA:=A b c s1 σ B _ l w;rw[y] at hA |-;refine Cc (by show(eK || (JO b (JF es X.env)).any (·.1))=eK;rw[d]<;>rfl) (Ck ?_);exact thn hA λus z #[vs,u,n,r2,D]=>hm c z σ u x vs v us Q n r1 r2 D
/- xs.append(e),list.index on a module's tuple .. are MtR facts of 06m -/
end
def MtM(X:Cx)(id:String)(r:V->eL V->Hp->VK->Prop):Prop :=
 ∀(pins:eL (JA×Obj)) (s:JG) (σ:St) (H:Hp) (x:V) (xs:eL V) (v:JC) (us:eL JC) (Q:VK),Inv X pins σ H s->RelV x v->Vals xs us->r x xs H Q->
   JD (JE X.prog X.w) X.A (call (.builtin id) (v::us)) (EP X pins σ Q) X.xe s
theorem Vals.one:∀{x:V}{us:eL JC},Vals [x] us->∃u,us=[u]/\RelV x u
 |_,_,.cons r .nil=>#[_,eY,r]
theorem Vals.zero:∀{us:eL JC},Vals [] us->us=[]
 |_,.nil=>rfl
theorem Vals.dropLast(h:Vals xs us):Vals xs.dropLast us.dropLast:=by
 induction h with
 |nil=>exact .nil
 |cons r t ih =>
  cases t with|nil=>exact .nil|cons q t'=>exact .cons r ih
theorem Vals.eraseIdx:∀{xs:eL V}{us:eL JC}(i:eO),Vals xs us->Vals (xs.eraseIdx i) (us.eraseIdx i)
 |_,_,_,.nil=>.nil
 |_,_,0,.cons _ t=>t
 |_,_,i+1,.cons r t=>.cons r (Vals.eraseIdx i t)
theorem a57(l:eL α):l.eraseIdx (l.length-1)=l.dropLast:=by
 induction l with
 |nil=>rfl
 |cons a r ih =>
  cases r with
  |nil=>rfl
  |cons b r =>
   let e:(a::b::r).length-1=((b::r).length-1)+1:=by
    let h1:(a::b::r).length=r.length+2:=rfl;let h2:(b::r).length=r.length+1:=rfl
    lia
   rw[e,List.eraseIdx_cons_succ,ih]
   all_goals rfl
theorem yy:∀(l:eL α) (i:eO),(l.eraseIdx i).length<=l.length
 |[],_=>Ao _
 |_::_,0=>Ef _
 |_::r,i+1=>Nat.succ_le_succ (yy r i)
theorem Inv.lset{its:eL JC}(I:Inv X a σ H s)(c:H l=eH (.lst xs))(e:s.heap.get? l=eH {cls:=.type "list",data:=.seq its.toArray n})(d:f its.toArray=its'.toArray)(hv:Vals ys its')(hz:ys.length<=JB):
 Inv X a σ (upd H l (.lst ys)) {s with heap:=s.heap.update l (DW f),toks:=t'}:=by
 let q:=PySem.IsL.update e f;rw[d] at q;refine I.write (x:=l) (e:=l) (by rw[c];exact trivial) (.inl rfl) (λh u b g=>(Cb s.heap (DW f) (AF b)).trans g) #[_,q] ?_;exact#[hz,its',_,hv,q]
theorem Inv.lnew(I:Inv X a σ H s)(hv:Vals ys its)(hz:ys.length<=JB):
 Inv X a σ (upd H s.heap.objs.size (.lst ys)) {s with heap:=s.heap.push {cls:=.type "list",data:=.seq its.toArray},toks:=t'} :=
 I.laid (λ_ _ q=>Aj _ q) (Ao _) #[hz,its,0,hv,Ax _ rfl]
theorem Inv.fresh(I:Inv X a σ H s):H s.heap.objs.size=eI:=I.hok.fresh (Ao _)
theorem Inv.lstM(I:Inv X a σ H s)(b:H l=eH (.lst xs)):xs.length<=JB/\∃(its:eL JC) (n:eO),Vals xs its/\xs.length=its.length/\s.heap.get? l=eH {cls:=.type "list",data:=.seq its.toArray n}:=by
 let(z,its,n,r,e):=I.hok l _ b;exact#[z,its,n,r,r.length,e]
theorem aah(h:n<=JB):DO n=eK:=by
 unfold DO;exact fA (by lia)
inductive rAppendS(x:V)(vs:eL V)(H:Hp)(Q:VK):Prop
 |mk (l:JA)(xs:eL V)(y:V)(h0:x=.ref l)(h1:vs=[y])(h2:H l=eH (.lst xs))(h3:xs.length<JB)(h4:Q .non (upd H l (.lst (xs++[y])))):rAppendS x vs H Q
def ac6:V->eL V->Hp->VK->Prop:=λx vs H Q=>rAppendS x vs H Q
theorem jw:MtM X "list.append" ac6:=by
 intro a s σ H x vs v us Q I c d h;let(l,xs,y,rfl,rfl,b,hz,q):=h;cases c;let(u,rfl,f):=d.one;let(z,its,n,r,hl,e):=I.lstM b;refine G9 F.slot_list_append #[_,e,eY] F.entry_list_append (F.args_list_append_2 _ _) (PySem.list_append l its.toArray n u (by rw[A3];lia)) #[e,?_];refine#[.non,_,I.lset (its':=its++[u]) b e (by simp) (r.append (.cons f .nil)) ?_,eY,q];rw[Ai,A2]
 lia
inductive rExtendS(x:V)(vs:eL V)(H:Hp)(Q:VK):Prop
 |mk (l b:JA)(xs zs:eL V)(h0:x=.ref l)(h1:vs=[.ref b])(h2:H l=eH (.lst xs))(h3:H b=eH (.lst zs))(h4:xs.length+zs.length<=JB)(h5:Q .non (upd H l (.lst (xs++zs)))):rExtendS x vs H Q
def acx:V->eL V->Hp->VK->Prop:=λx vs H Q=>rExtendS x vs H Q
theorem pf:MtM X "list.extend" acx:=by
 intro d s σ H x vs v us Q I g o h;let(l,b,xs,zs,rfl,rfl,f,i,hz,q):=h;cases g;let(u,rfl,j):=o.one;cases j;let(z,its,n,r,hl,e):=I.lstM f;let(p,a,n2,r2,k,m):=I.lstM i;let hsz:its.toArray.size+a.toArray.size<=JB:=by rw[A3,A3];lia
 let c:¬ (!its.toArray.isEmpty && DO (its.toArray.size+a.toArray.size))=eJ:=by
  rw[aah hsz,Iz];exact Az
 refine G9 F.slot_list_extend #[_,e,eY] F.entry_list_extend (F.args_list_extend_2 _ _)
  (AutoSeq1.list_extend_list_list_0 l its.toArray n b a.toArray n2 c (by rw[A3];lia) (by lia)) #[e,m,?_]
 refine#[.non,_,I.lset (its':=its++a) f e (by simp) (r.append r2) ?_,eY,q];rw[Ai]
 lia
inductive rPopS(x:V)(vs:eL V)(H:Hp)(Q:VK):Prop
 |mk (l:JA)(xs:eL V)(y:V)(h0:x=.ref l)(h1:vs=[])(h2:H l=eH (.lst xs))(h3:xs[xs.length-1]?=eH y)(h4:Q y (upd H l (.lst xs.dropLast))):rPopS x vs H Q
def rPop:V->eL V->Hp->VK->Prop:=λx vs H Q=>rPopS x vs H Q
theorem a7t:MtM X "list.pop" rPop:=by
 intro c s σ H x vs v us Q I g i h;let(l,xs,y,rfl,rfl,d,f,q):=h;cases g;let b:=i.zero;subst b;let(z,its,n,r,hl,e):=I.lstM d;let(u,k,j):=r.get f;let a:its.toArray[its.toArray.size-1]?=eH u:=by
  show its.toArray[its.length-1]?=eH u;rw[<- B9,<- hl];exact k
 refine G9 CQ #[_,e,eY] HW (F.args_list_pop_1 _) (MeetsSeq.list_pop_last l its.toArray n u a (by rw[A3];lia)) #[e,?_];refine#[y,_,I.lset (its':=its.dropLast) d e ?_ r.dropLast ?_,j,q];show its.toArray.eraseIdxIfInBounds (its.toArray.size-1)=its.dropLast.toArray;rw[A3,Ey,a57]
 rw[GD]
 lia
inductive rPopAtS(x:V)(vs:eL V)(H:Hp)(Q:VK):Prop
 |mk (l:JA)(xs:eL V)(i:eN)(k:eO)(y:V)(h0:x=.ref l)(h1:vs=[.int i])(h2:H l=eH (.lst xs))(h3 : -(2 ^ 63)<=i)(h4:i<2 ^ 63)(h5:seqIndex? i xs.length=eH k)(h6:xs[k]?=eH y)(h7:Q y (upd H l (.lst (xs.eraseIdx k)))):rPopAtS x vs H Q
def ae7:V->eL V->Hp->VK->Prop:=λx vs H Q=>rPopAtS x vs H Q
theorem a9q:MtM X "list.pop" ae7:=by
 intro b s σ H x vs v us Q I f o h;let(l,xs,i,k,y,rfl,rfl,c,h1,h2,m,d,q):=h;cases f;let(u,rfl,g):=o.one;let(t,rfl):=g;let(z,its,n,r,hl,e):=I.lstM c;let(w,j,a):=r.get d;refine G9 CQ #[_,e,eY] HW (F.args_list_pop_2 _ _)
  (MeetsSeq.list_pop_at l its.toArray n i t k w (fitsIndex_both h1 h2) (by rw[A3,<- hl];exact m) (by rw[<- B9];exact j) (by rw[A3];lia)) #[e,?_]
 refine#[y,_,I.lset (its':=its.eraseIdx k) c e ?_ (r.eraseIdx k) ?_,a,q];show its.toArray.eraseIdxIfInBounds k=(its.eraseIdx k).toArray;rw[Ey]
 let:=yy xs k
 lia
inductive rCatS(x y:V)(H:Hp)(Q:VK):Prop
 |mk (l b:JA)(xs zs:eL V)(h0:x=.ref l)(h1:y=.ref b)(h2:H l=eH (.lst xs))(h3:H b=eH (.lst zs))(h4:xs.length+zs.length<=JB)(h5:∀p,H p=eI->Q (.ref p) (upd H p (.lst (xs++zs)))):rCatS x y H Q
def rCat:R2:=λx y H Q=>rCatS x y H Q
theorem ke:OpR X (Je .Add) rCat:=by
 intro c s σ H x y v u Q I d i h;let(l,b,xs,zs,rfl,rfl,j,f,hz,q):=h;cases d;cases i;let(z,its,n,r,hl,e):=I.lstM j;let(o,a,n2,r2,g,k):=I.lstM f;refine PySem.P.add_list e k ?_ (by rw[A3,A3];lia);let m:its.toArray++a.toArray=(its++a).toArray:=by simp
 rw[m];exact#[.ref _,_,I.lnew (t':=s.toks) (r.append r2) (by rw[Ai];lia),eY,q _ I.fresh]
end L2
namespace Att
open PySem PySem.W PySem.Calls PyProof.Rows
theorem w6:∀(ns:eL eN) (vs:eL JC),WellAll P h vs (ns.map WData.int)->IntsAre vs ns:=by
 intro ns;induction ns with
 |nil =>
  intro vs w;rw[BG] at w;cases w;exact .nil
 |cons n ns ih =>
  intro vs w;rw[A8] at w;cases w with
  |cons a b =>
   cases a;exact .cons _ _ (ih _ b)
theorem a6c{l:OpenLaw}(hn:l.most=eH n)(b:l.row.toRowW.claim.pre args=eJ)(g:WellAll P h vals args):
 ∃a vs ns,vals=[Value.ref a]/\args=[WData.list (ns.map WData.int)]/\h.get? a=eH {cls:=.type "list",data:=.seq vs.toArray}/\IntsAre vs ns/\ns.length<=n:=by
 let i:WShape.hasAll [] args [.list .int]=eJ:=(pre_splitW b).1;let j:l.pre.holds [] {args:=args}=eJ:=(pre_splitW b).2;let(d,r,rfl,h1,h2):=hasAllW_cons i;obtain rfl:=hasAllW_nil h2;let(xs,rfl,h3):=hasW_list h1;let(ns,rfl):=items_int h3;let c:ns.length<=n:=by
  unfold OpenLaw.pre at j;let e:(WTm.not (.lt (.lit (.int (n:eN))) (.len (.arg 0)))).holds [] {args:=[.list (ns.map .int)]}=eJ:=by
   let e:=(holds_andW j).1;rw[hn] at e;exact e
  let f:=condW_of e (w_not (w_lt w_lit (w_len_list (w_arg rfl))));rw[Ad] at f;refine Fz λq=>?_;let k:(n:eN)<((ns.length:eO):eN):=by omega
  first
   | (rw[fB k] at f;exact eR f (by decide))
   | (simp at f;omega)
 cases g with
 |cons w1 w2 =>
  cases w2;cases w1 with|list ho hall=>exact#[_,_,ns,eY,eY,ho,w6 ns _ hall,c]
theorem a62(l:OpenLaw)(args:eL WData):l.row.toRowW.claim.post args (.bool eJ) args=eJ :=
 postW_of (r:=l.row.toRowW) (X:=(eJ==eJ))
  (show WShape.has [] (.bool eJ) .bool=eJ by first|rfl|decide|simp[WShape.has,WShape.arms,WShape.armsAll])
  (show(WTm.eq .res (.lit (.bool eJ))).value [] {args:=args,res:=eH (.bool eJ),after:=args}=eH (.bool (eJ==eJ)) from w_eq_bool (w_res rfl) w_lit) rfl
theorem attach_call{l:OpenLaw}(hn:l.most=eH n)(v:d.params.defaults=[])(call:∀(w:JV) (s₀ b:JG) (mg u:eZ->eM JC) (h:JA) (o:Obj) (pm m g:JC) (a:JA) (vs:eL JC) (ns:eL eN),
 Ground q c [] z w s₀ mg u b.heap->E w b.heap->
 b.heap.get? h=eH o->o.data=.func (docDef d.name d.params d.body d.scope pm m g)->b.heap.CodeRec m d.name->mg d.name=eH (.ref h)->
 b.heap.get? a=eH {cls:=.type "list",data:=.seq vs.toArray}->IntsAre vs ns->ns.length<=n->b.gens = [].toArray->
 Ja (JE l.prog w) callerA (.call (.ref h) #[[.ref a],[]]) (λr s'=>r=.ok (.ret (.bool eJ))/\OldK b.heap s'.heap/\s'.os=b.os/\AllBare s'.gens) b):
 WalkO q c z E l.row.toRowW d [] (λf vs=>Im f vs):=by
 intro w s₀ b mg u G Y h o pm m g C kV B hd s y t D args vals as k x F p A;obtain rfl:C=.none:=Dflts.none y v;obtain rfl:kV=.none:=Dflts.noKw y;let(a,vs,ns,rfl,rfl,j,e,i):=a6c hn k p;refine enter_call (Dj (call w s₀ b mg u h o pm m g a vs ns G Y B (fd_plain hd) s t j e i D) λr s' I=>?_);let(rfl,h2,h3,H):=I;exact#[.inl #[.bool eJ,.bool eJ,[],eY,λ_=>rfl,.bool eJ,a62 l _,λ_=>#[List.Pairwise.nil,λ_ hm=>(nomatch hm)]],h2,h3,H]
end Att
namespace L2
open PyProof.Rows
theorem yw:∀{vs:eL JC}{ns:eL eN},IntsAre vs ns->Vals (ns.map V.int) vs
 |_,_,.nil=>.nil
 |_,_,.cons n t h=>.cons #[t,eY] (yw h)
def Only(H:Hp):Prop:=∀b,H b=eI\/∃o xs,H b=eH (.frz o (.lst xs))
theorem a9w{K:Aa}(R:K.In c.heap)(B:c.heap.Ns JH mg)(g:c.heap.Ns builtinsNs S)(J:∀x:eZ,x≠"__name__" -> S x=bootBuiltins x)(t:c.heap.NoLimit)(hg:c.gens = [].toArray)(D:c.heap.get? a=eH {cls:=.type "list",data:=.seq vs.toArray})(hi:IntsAre vs ns)(hl:ns.length<=JB)(hr:Room k callerA)(F:∀base:JP,K.In base->base.Ns JH mg->FnOk P w K mg base CX k M fd [x] sp)(l:∀(s:JG) (u:JC),BindsTo s fd #[[u],[]] [(x,u)])(G:∀H:Hp,Only H->SqL K H a (ns.map V.int)->sp [.ref a] H (λv _=>v=.bl eJ) λ_ _ _=>False)(L:∀H e s',CX [] H c (λ_ _ _=>False) e s'->False):
 Ja (JE P w) callerA (.call (.ref M) #[[.ref a],[]]) (λr s'=>r=.ok (.ret (.bool eJ))/\OldK c.heap s'.heap/\s'.os=c.os/\AllBare s'.gens) c:=by
 let N:=yw hi;let C:=hi.length;let j:∀H:Hp,Only H->SqL K H a (ns.map V.int)->HOk P w H c.heap->(∀b,H b≠eI->b=a)->(H a≠eI->K.lookup a=eI)->
  Ja (JE P w) callerA (.call (.ref M) #[[.ref a],[]]) (λr s'=>r=.ok (.ret (.bool eJ))/\OldK c.heap s'.heap/\s'.os=c.os/\AllBare s'.gens) c:=by
  intro H O U hok hA hK;let f:∀{b:JA} {o:Obj},c.heap.get? b=eH o->H b=eI->(hidT c.heap H).get? b=eH o:=λe n=>a8u e n;let I:∀{b:JA} {o:Obj} {es:fF DictEntry} {ep:eO},c.heap.get? b=eH o->o.data=.dict es ep->H b=eI:=λ{b o es ep} e d=>by
   cases q:H b with
   |none=>rfl
   |some u =>
    let E:b=a:=hA b (by rw[q];simp);subst E;rw[D] at e;cases e;let d':Data.seq vs.toArray _=Data.dict es ep:=d;cases d'
  let i:∀{b:JA} {m:eZ->eM JC},c.heap.Ns b m->(hidT c.heap H).Ns b m:=λ{b m} ⟨o,es,ep,e,d,r⟩=>#[o,es,ep,f e (I e d),d,r]
  let p:K.In (hidT c.heap H):=λb o e=>f (R b o e) (by
   cases q:H b with
   |none=>rfl
   |some u =>
    let E:b=a:=hA b (by rw[q];simp);subst E;rw[hK (by rw[q];simp)] at e;cases e)
  let Z:Mod K mg (hidT c.heap H):=#[p,i B,#[S,i g,J],let ⟨mc,h1,h2⟩:=t;#[mc,i h1,h2]]
  let Y:Env0 P w K mg (hidT c.heap H) callerA [] c H:=#[eY,Z,λb o e=>ad3 e,Ht (a72 _ _),trivial,λb g=>eR (show b∈([]:eL JA) from g) (by simp),hok,.of_eq hg]
  refine Dj ((F _ p (i B)).run callerA [] c H #[[.ref a],[]] [.ref a] [.ref a] _ _ hr Y (l c (.ref a)) (.cons rfl .nil) (G H O U)) λr s' h=>?_;cases r with
  |error e=>exact(L H e s' h).elim
  |ok fl =>
   cases fl with
   |next=>exact BU h
   |brk=>exact BU h
   |cont=>exact BU h
   |ret u =>
    let(v,H',os,bare,un,A,r',q):=h;let T:v=.bl eJ:=q;subst T;obtain rfl:u=Value.bool eJ:=r';refine#[eY,OldK.of_keep λb o e=>?_,os,bare];cases q:H b with
    |none=>exact un.keep b o e q (by intro z;exact eR (show b∈([]:eL JA) from z) (by simp)) (by simp)
    |some u =>
     rcases O b with z|⟨ob,xs,z⟩;rw[q] at z;cases z;let z2:=un.frzs b ob _ z;let(Q,_):=hok b _ z;let(X,_):=A b _ z2;rw[e] at Q;cases Q;exact X
 cases hk:K.lookup a with
 |some o =>
  let e:=R a o hk;rw[D] at e;cases e;refine j (λ_=>eI) (λ_=>.inl rfl) (.inr #[_,vs.toArray,_,hk,eY,eY,eY,by rw[A3,C];exact hl,by simpa using N]) (λb u z=>by let y:(eI:eM HO)=eH u:=z;cases y) (λb z=>eR rfl z) λz=>eR rfl z
 |none =>
  refine j (λb=>if b=a then eH (.frz {cls:=.type "list",data:=.seq vs.toArray} (.lst (ns.map V.int))) else eI) (λb=>?_) (.inl (.inr #[{cls:=.type "list",data:=.seq vs.toArray},eQ rfl])) (λb u z=>?_) (λb z=>?_) λ_=>hk;by_cases g:b=a;exact .inr #[_,_,eQ g];exact .inl (eP g);by_cases g:b=a;let y:=(eQ g).symm.trans z;cases y;subst g;exact#[D,by rw[Ad];exact hl,vs,_,N,D];let y:=(eP g).symm.trans z;cases y
  by_cases g:b=a;exact g;exact eR (eP g) z
theorem walk_of{l:FR}{K:Params->Aa}{CX:JV->CXT}{sp:JV->Sp}(hn:l.most=eH n)(t:n<=JB)(A:d.params.defaults=[])(D:Room k callerA)(O:∀(w:JV) (h:JP),J w h->(K w.params).In h)(F:∀(w:JV) (mg:eZ->eM JC) (m:JA) (h:JP),(K w.params).In h->h.Ns JH mg->mg d.name=eH (.ref m)->
 ∃fd:JY,(∀(s:JG) (u:JC),BindsTo s fd #[[u],[]] [(x,u)])/\
  ∀base:JP,(K w.params).In base->base.Ns JH mg->FnOk l.prog w (K w.params) mg base (CX w) k m fd [x] (sp w))(p:∀(w:JV) (H:Hp) (a:JA) (ns:eL eN),ns.length<=n->Only H->SqL (K w.params) H a (ns.map V.int)->sp w [.ref a] H (λv _=>v=.bl eJ) λ_ _ _=>False)(z:∀(w:JV) (H:Hp) (s:JG) (e:JC) (s':JG),CX w [] H s (λ_ _ _=>False) e s'->False):
 II q r Q J l.row.toRowW d [] (λf vs=>Im f vs):=by
 refine Att.attach_call hn A λw s₀ N mg U m o pm S P a vs ns G Y R hd L y j i c E=>?_;let B:=O w _ Y;let(fd,I,hF):=F w mg m _ B G.T.g y;exact a9w B G.T.g G.T.b G.T.builtins G.T.nolimit E j i (AB c t) D hF I (λH C M=>p w H a ns c C M) λH e s'=>z w H N e s'
end L2
/- THE LAST THEOREM (shape;LID,My.* are yours):
 My.Adr: a structure of the addresses that your layer names (classes,functions);My.Txt K t: a structure (Prop) of the equations over K;
 My.txt_mk:{K} {implicit addresses ..} (e1:nsIn K JH "law"=eH (eH (.ref f))) (e2:K.lookup f=eH #[oc,od,.func (fnOf "law" "law" params body scope dV kV doc pm an cdv ct),sl]) (e3:codeIn K cdv "law"=eJ) .. : ∃t,My.Txt K t
(the c k_is has no namespace: write k_is) -/
namespace L2
open PyProof.Rows
def ie(s:JJ)(j:eO):JJ:=match s with
 |.ClassDef _ _ _ body _ _ _ _ _ _ _=>body.getD j (.Pass #[0,0,0,0])
 |_=>.Pass #[0,0,0,0]
def n8(s:JJ):Arguments:=match s with
 |.FunctionDef _ a _ _ _ _ _ _ _ _=>a
 |_=>{posonlyargs:=[],args:=[],vararg:=eI,kwonlyargs:=[],kw_defaults:=[],kwarg:=eI,defaults:=[]}
def ks(s:JJ):eL JJ:=match s with
 |.FunctionDef _ _ b _ _ _ _ _ _ _=>b
 |_=>[]
def gy(s:JJ):Scope:=match s with
 |.FunctionDef _ _ _ _ _ _ sc _ _ _=>sc
 |_=>{kind:=.function,names:=[],isGenerator:=eK,isCoroutine:=eK}
abbrev CX0:CXT:=λ_ _ _ _ _ _=>False
abbrev E0:XK:=λ_ _ _=>False
theorem gn:ku CX0 X E0:=λ_ _ _ _ _ _ _ h=>h.elim
structure Fun(K:Aa)(x qual:eZ)(st:JJ)(f:JA)(fd:JY):Prop where
 ex:∃(oc:JC) (od:eM JA) (kV doc pm:JC) (an:eM JA) (cdv ct:JC) (osl:fF (eM JC)),
  fd=Cw x qual (n8 st) (ks st) (gy st) .none kV doc pm an cdv ct/\K.lookup f=eH #[oc,od,.func fd,osl]/\Gj K cdv qual=eJ
 kp:BV K (.ref f)=eJ
theorem Fun.ok{K:Aa}{st:JJ}(F:Fun K x b st f fd)(S:FnScope N ps (gy st))(len:∀vs H Q E,sp vs H Q E->vs.length=ps.length)(c:∀(a:JC) (A:Jf) (outer:eL Env) (s:JG) (H:Hp) (vs:eL V) (Q:VK) (E:XK),Room k (A.deeper (envOfC b (gy st) s.heap.objs.size f a))->sp vs H Q E->
 ∃t,PSs (cxOf CX0 P w K mg base N b (gy st) f a A outer s H E).nox (ks st) t/\t {nx:=λ_ H'=>Q .non H',rt:=Q} (start N vs) H):FnOk P w K mg base CX0 (k+1) f fd ps sp:=by
 let(n,od,kV,l,pm,m,a,ct,g,rfl,i,e):=F.ex;refine ac4 i e S len λA outer s H vs Q E j d=>?_;let(t,h,q):=c a A outer s H vs Q E j d;exact#[t,h.nox,q]
theorem Fun.binds{K:Aa}{st:JJ}(F:Fun K x c st f fd)(h:∀(kV a pm:JC) (d:eM JA) (b ct:JC) (us:eL JC),us.length=ps.length->bindArgs (Cw x c (n8 st) (ks st) (gy st) .none kV a pm d b ct) #[us,[]]=pure (ps.zip us)):Binds K fd ps []:=by
 let(j,od,kV,a,pm,d,b,ct,e,rfl,i,g):=F.ex;exact .all (h kV a pm d b ct)
theorem fun_mk{K:Aa}{st:JJ}{kV:JC}(l:K.lookup f=eH #[h,od,.func (Cw x a (n8 st) (ks st) (gy st) .none kV d pm g b ct),e])(c:Gj K b a=eJ)(k:BV K (.ref f)=eJ):Fun K x a st f (Cw x a (n8 st) (ks st) (gy st) .none kV d pm g b ct):=#[#[h,od,kV,d,pm,g,b,ct,e,eY,l,c],k]
theorem ir(a:Room k A):A.units+1<cLine:=AH (DB (by decide:1<=64) _) a.units
theorem kj(h:n<=1000):n<JB:=AH h (by decide)
theorem pv(i:eO)(b:autoParam (X.N[i]?=eH x) a4_)(hv:autoParam (Vis X.env.scope x) a5_)(hd:autoParam ((x==("__debug__":eZ))=eK) a1_)(a:autoParam ((x==("__classdict__":eZ))=eK) a1_):PE X (.Name x pos) (tVar i):=aed b hv hd a
theorem iteF{A B:Prop}(h:B):if eK=eJ then A else B:=by
 rw[eP Az];exact h
theorem iteT{A B:Prop}(h:A):if eJ=eJ then A else B:=by
 rw[eQ rfl];exact h
def Same(H H':Hp):Prop:=∀b o,H b=eH o->H' b=eH o
theorem Same.refl(H:Hp):Same H H:=λ_ _ h=>h
theorem Same.trans(a:Same H d)(b:Same d e):Same H e:=λc o h=>b c o (a c o h)
theorem Same.free(e:Same H H')(h:H' l=Option.none):H l=Option.none:=by
 cases q:H l with
 |none=>rfl
 |some o =>
  rw[e l o q] at h;cases h
theorem Same.seq{K:Aa}(e:Same H H')(h:SqL K H a xs):SqL K H' a xs:=by
 rcases h with (h|⟨o,h⟩)|h
 . exact .inl (.inl (e _ _ h))
 . exact .inl (.inr #[o,e _ _ h])
 exact .inr h
inductive And3(P0 P1 P2:Prop):Prop
 |mk (h0:P0)(h1:P1)(h2:P2):And3 P0 P1 P2
inductive And4(P0 P1 P2 P3:Prop):Prop
 |mk (h0:P0)(h1:P1)(h2:P2)(h3:P3):And4 P0 P1 P2 P3
inductive And5(P0 P1 P2 P3 P4:Prop):Prop
 |mk (h0:P0)(h1:P1)(h2:P2)(h3:P3)(h4:P4):And5 P0 P1 P2 P3 P4
inductive And6(P0 P1 P2 P3 P4 P5:Prop):Prop
 |mk (h0:P0)(h1:P1)(h2:P2)(h3:P3)(h4:P4)(h5:P5):And6 P0 P1 P2 P3 P4 P5
inductive And7(P0 P1 P2 P3 P4 P5 P6:Prop):Prop
 |mk (h0:P0)(h1:P1)(h2:P2)(h3:P3)(h4:P4)(h5:P5)(h6:P6):And7 P0 P1 P2 P3 P4 P5 P6
inductive And8(P0 P1 P2 P3 P4 P5 P6 P7:Prop):Prop
 |mk (h0:P0)(h1:P1)(h2:P2)(h3:P3)(h4:P4)(h5:P5)(h6:P6)(h7:P7):And8 P0 P1 P2 P3 P4 P5 P6 P7
inductive And11(P0 P1 P2 P3 P4 P5 P6 P7 P8 P9 P10:Prop):Prop
 |mk (h0:P0)(h1:P1)(h2:P2)(h3:P3)(h4:P4)(h5:P5)(h6:P6)(h7:P7)(h8:P8)(h9:P9)(h10:P10):And11 P0 P1 P2 P3 P4 P5 P6 P7 P8 P9 P10
inductive Ex2{α0 α1:Type}(P:α0->α1->Prop):Prop
 |mk (a0:α0)(a1:α1)(h:P a0 a1):Ex2 P
inductive Ex3{α0 α1 α2:Type}(P:α0->α1->α2->Prop):Prop
 |mk (a0:α0)(a1:α1)(a2:α2)(h:P a0 a1 a2):Ex3 P
inductive Ex5{α0 α1 α2 α3 α4:Type}(P:α0->α1->α2->α3->α4->Prop):Prop
 |mk (a0:α0)(a1:α1)(a2:α2)(a3:α3)(a4:α4)(h:P a0 a1 a2 a3 a4):Ex5 P
inductive Ex6{α0 α1 α2 α3 α4 α5:Type}(P:α0->α1->α2->α3->α4->α5->Prop):Prop
 |mk (a0:α0)(a1:α1)(a2:α2)(a3:α3)(a4:α4)(a5:α5)(h:P a0 a1 a2 a3 a4 a5):Ex6 P
inductive Ex7{α0 α1 α2 α3 α4 α5 α6:Type}(P:α0->α1->α2->α3->α4->α5->α6->Prop):Prop
 |mk (a0:α0)(a1:α1)(a2:α2)(a3:α3)(a4:α4)(a5:α5)(a6:α6)(h:P a0 a1 a2 a3 a4 a5 a6):Ex7 P
set_option maxHeartbeats 16000000
def blk(X:Cx)(N:eU)(s:JG)(H:Hp)(sc:Scope)(cl:eL (eZ×JA))(C:JA)(ex:eL JA):Cx where
 prog:=X.prog
 w:=X.w
 K:=X.K
 mg:=X.mg
 base:=X.base
 A:=X.A
 N:=N
 s₀:=s
 H₀:=H
 env:=compEnvC sc cl C X.env
 outer:=X.stack
 stack:=X.stack
 ex:=ex
 fn:=λ_=>eK
 calm:=X.calm
 pn:=[]
 xe:=λ_ _=>False
theorem a26{acc:JC}(I:eO->JG->Prop)(b:∀n s,I n s->JD (JE prog w) A (JW it) (λr j=>match r with
 |none=>R (.ok .next) j
 |some v=>JD (JE prog w) A (letOwnedTupleGo a it v) (λ_ d=>JD (JE prog w) A (assign a env v) (λ_ p =>
  JD (JE prog w) A (forIn g eJ λc r=>if r=eJ then do let ok<-isTrue c env (eval c env);pure (ForInStep.yield ok) else pure (ForInStep.yield r)) (λok i =>
   if ok=eJ then JD (JE prog w) A (eval e env) (λx l =>
    JD (JE prog w) A (call (.builtin "list.append") [acc,x]) (λ_ t=>∃m,m<n/\I m t) (λ_ _=>False) l) (λ_ _=>False) i
   else ∃m,m<n/\I m i) (λ_ _=>False) p) (λ_ _=>False) d) (λ_ _=>False) j) (λ_ _=>False) s)(n:eO)(h:I n s):
 Ja (JE prog w) A (.compLoop (.ListComp e [#[a,f,g,0]] scope pos) 0 it acc env) R s:=by
 refine codeAny_loop rfl I (λn s u=>?_) n h;show JD _ A ((compTurn (.ListComp e [#[a,f,g,0]] scope pos) 0 it acc env).onRaise (λx=>do noteFrame x env;theTreesLotGoes x)) _ _ s;refine wpAny_noted ?_;rw[compTurn_list];refine Ac (Hb (Ac (B8 (b n s u) (λr j o=>?_) λ_ _ h'=>h'.elim)));cases r with
 |none=>exact Al o
 |some v =>
  refine Ac (B8 o (λ_ d k=>?_) λ_ _ h'=>h'.elim);refine Ac (B8 k (λ_ p z=>Ac (B8 z (λok i q=>?_) λ_ _ h'=>h'.elim)) λ_ _ h'=>h'.elim);cases ok with
  |false=>exact Al #[eY,q]
  |true =>
   exact Ac (Ac (B8 q (λx l B=>Ac (B8 B (λ_ t y=>Al (Al #[eY,y])) λ_ _ h'=>h'.elim)) λ_ _ h'=>h'.elim))
def PTs(X:Cx)(ifs:eL Expr)(t:TT):Prop :=
 ∀(pins:eL (JA×Obj)) (s:JG) (σ:St) (H:Hp) (Q:fJ->Hp->Prop),Inv X pins σ H s->t σ H Q->
   JD (JE X.prog X.w) X.A (forIn ifs eJ λc r=>if r=eJ then do let ok<-isTrue c X.env (eval c X.env);pure (ForInStep.yield ok) else pure (ForInStep.yield r)) (TP X pins σ Q) X.xe s
def tYes:TT:=λ_ H Q=>Q eJ H
theorem acj:PTs X [] tYes:=λ_ _ _ H _ I h=>wpAny_tests_nil #[H,I,h]
theorem a2m(h:PT X c t):PTs X [c] t:=λa s σ H Q I q=>wpAny_tests_one (h a s σ H Q I q)
def j8(σ:St)(ix:eL eO):St:=ix.map λj=>(σ[j]?).getD eI
def lr(J:It)(H1:Hp)(σ:St)(ix:eL eO)(tc:TT)(te:TE)(Q:VK):Prop:=∀D,H1 D=eI->
 ∃W:eO->eO->Hp->Prop,(∃m,W 0 m (upd H1 D (.lst [])))/\∀i m H,W i m H->
  (J.stop i H/\Q (.ref D) H)\/(J.go i H/\∀x H',J.yld i H x H'->tc (eH x::j8 σ ix) H' λb H2 =>
   if b=eJ then te (eH x::j8 σ ix) H2 λy H3=>∃ys,H3 D=eH (.lst ys)/\ys.length<JB/\∃m',m'<m/\W (i+1) m' (upd H3 D (.lst (ys++[y])))
   else ∃m',m'<m/\W (i+1) m' H2)
def pi(ix:eL eO)(wi:TI)(tc:TT)(te:TE):TE:=fun σ H Q=>wi σ H λJ H1=>lr J H1 σ ix tc te Q
theorem acz(I:Inv X A σ H s)(n:J.kind=.function)(U:N=x::C.map λj=>(X.N[j]?).getD "")(a:∀y c,cl.lookup y=eH c->X.env.cells.lookup y=eH c)(h:∀y,((JU J X.env).names.lookup y=eH .cell\/(JU J X.env).names.lookup y=eH .free)->∃c,cl.lookup y=eH c)(O:∀j∈C,∃y,X.N[j]?=eH y/\X.env.kindOf y=eH .cell/\(JU J X.env).names.lookup y=eH .cell)(g:∀b∈R,FpOk X A H b)(M:∀b∈R,b<s.heap.objs.size)(P:h1.Ns s.heap.objs.size m)(G:∀b o,s.heap.get? b=eH o->h1.get? b=eH o):
 Inv (blk X N s H J cl s.heap.objs.size R) [] (eI::j8 σ C) H {s with heap:=h1,toks:=tk}:=by
 let fresh:H s.heap.objs.size=eI:=I.hok.fresh (Ao _);exists #[I.ok.mod,n,I.ok.glob,I.ok.blt,Ao _,λy z c h1 h2=>I.ok.inj y z c (a y c h1) (a z c h2),λy E=>h y E,λy c z _=>eR (show eK=eJ from z) (by decide),I.ok.hd,I.ok.frames,.inl rfl,
  λb t=>#[AA (M b t),λy c e=>(g b t).2.2.2.2.1 y c (a y c e)],I.bs,AB I.ok.bsz I.sz,λb o e t=>?_,λb t z=>?_,I.stack,I.stkFree],
  rfl,I.bare,Un.kept G,#[m,P,λi y v e1 W e3=>?_],λy c e=>?_,fresh,λy c e=>I.freeC y c (a y c e),λp hp=>eR (show p∈([]:eL (JA×Obj)) from hp) (by simp),I.hok.kept G
 . rcases(g b t).2.2.2.1 with z|z;exact I.ok.noex b o e z;exact eR (AD (A1 e) (AB I.ok.bsz z)) (Bb _)
 . rcases Ak.mp (I.stkSub b z) with q|q;exact(g b t).2.1 q;exact(g b t).2.2.1 q
 . cases i with
   |zero =>
    let d:(eH eI:eM (eM V))=eH (eH v):=W;cases d
   |succ i =>
    let d:(j8 σ C)[i]?=eH (eH v):=by simpa using W
    unfold j8 at d;rw[Ar] at d;cases q:C[i]? with
    |none=>rw[q] at d;cases d
    |some j =>
     rw[q] at d;let f:(σ[j]?).getD eI=eH v:=by simpa using d
     let Z:σ[j]?=eH (eH v):=by
      cases q2:σ[j]? with|none=>rw[q2] at f;cases f|some w=>rw[q2] at f;simpa using f
     let(F,E,S,T):=O j (Aq q);let ey:F=y:=by
      let D:N[i+1]?=eH y:=e1;rw[U,DZ,Ar,q] at D;let:=Am D;simpa [E] using this
     subst ey;let(m0,aa,Q):=I.loc;let(u,r,l):=Q j F v E Z (.inr (.inl S));refine#[u,r,.inr #[.inl T,?_]];rcases l with⟨k,_⟩|⟨_,c,ec,ic⟩
     . rw[S] at k;cases k
     let(Y,B):=h F (.inl T);let:=a F Y B;rw[ec] at this;cases this;let(o,L,hd):=ic;exact#[c,B,o,G c o L,hd]
 . let(v,o,L,hd):=I.cell y c (a y c e);exact#[v,o,G c o L,hd]
 show(eI::j8 σ C).length=N.length;rw[U];simp[j8]
theorem yg(N:eU)(hc:X.calm=eJ)(hi:PI X (.Name x px) E wi)(aD:∀s H C ex,PTs (blk X N s H k cl C ex) aq tc)(he:∀s H C ex,PE (blk X N s H k cl C ex) ap te)(B:k.kind=.function)(hN:N=x::ix.map λj=>(X.N[j]?).getD "")(aw:N.Nodup)(M:k.names.lookup x=eH .local)(aH:closureFor k X.env=pure cl)(Y:∀y∈k.names,y.2≠.cell)(R:∀y∈k.names,y.2=.local->k.names.lookup y.1=eH .local)(ai:∀y c,cl.lookup y=eH c->X.env.cells.lookup y=eH c)(ak:∀y,((JU k X.env).names.lookup y=eH .cell\/(JU k X.env).names.lookup y=eH .free)->∃c,cl.lookup y=eH c)(aC:∀j∈ix,∃y,X.N[j]?=eH y/\X.env.kindOf y=eH .cell/\(JU k X.env).names.lookup y=eH .cell)(hs:∀x,JL E X.env x=pure x)(I:Inv X l σ H s)(h:pi ix wi tc te σ H Q)(af:∀(D C:JA) (L:JG) (G:Hp) (mm:eZ->eM JC),Inv X l σ G L->L.heap.Ns C mm->G C=eI->C≠X.env.locals->(∀z c,X.env.cells.lookup z=eH c->c≠C)->X.s₀.heap.objs.size<=C->(∀p∈X.pn++l,p.1≠C)->Q (.ref D) G->compPost (JE X.prog X.w) X.A X.xe use RP (.ref D) C (.ok .next) L):
 JD (JE X.prog X.w) X.A (comprehension (.ListComp ap [#[.Name x px,E,aq,0]] k pos) k X.env p0 (newList []) eK (eval E X.env) use) RP X.xe s:=by
 refine wpAny_comprehension_free (use:=use) rfl hs aH B R (thn (hi l s σ H _ I h) λv s1 h1=>thn h1 λaO g h2=>?_);let(it,t,tn,J,O,e,I2,T,ah,f2,q2):=h2;subst e;let aL:O g.heap.objs.size=eI:=I2.hok.fresh (Ao _);let(W,(m0,w0),ab):=q2 g.heap.objs.size aL;refine AX ?_;let I3:Inv X l σ (upd O g.heap.objs.size (.lst [])) {g with heap:=g.heap.push {cls:=.type "list",dict:=eI,data:=.seq ([]:eL JC).toArray}}:=by
  exact I2.lnew (its:=[]) (ys:=[]) (t':=g.toks) .nil (AC _)
 let ac:∀b∈t,b<g.heap.objs.size:=λb f=>by
  let(o,ho,_):=T.obj _ _ ah b f;exact A1 ho
 let f3:∀b∈t,FpOk X l (upd O g.heap.objs.size (.lst [])) b:=λb f=>#[by rw[fg (AA (ac b f))];exact(f2 b f).1,(f2 b f).2]
 generalize hs3:({g with heap:=g.heap.push {cls:=.type "list",dict:=eI,data:=.seq ([]:eL JC).toArray}}:JG)=a at I3;let ag:g.heap.objs.size<=a.heap.objs.size:=by rw[<- hs3];show _<=(g.heap.push _).objs.size;rw[B1];exact Ef _
 let az:tn 0 a.heap:=T.keep _ _ _ ah λb _ o e=>by rw[<- hs3];exact Aj _ e
 let ar:∀b∈t,b<a.heap.objs.size:=λb f=>AD (ac b f) ag;refine wpAny_newFunctionEnv Y (by intro y hy;simp at hy) (λh4 ao al=>?_) B;let old:∀b o,a.heap.get? b=eH o->h4.get? b=eH o:=λb o e=>al.extBut b o (AA (A1 e)) (Aj _ e);let I4:=acz (m:=_) (tk:=a.toks+([]:eL (eZ×JC)).length) (N:=N) I3 B hN ai ak aC f3 ar ao old;let ae:tn 0 h4:=T.keep _ _ _ az λb _ o e=>old b o e;let U:∀{H':Hp},(∀b∈t,H' b=eI)->∀b∈t,FpOk (blk X N a (upd O g.heap.objs.size (.lst [])) k cl a.heap.objs.size t) [] H' b:=λ{H'} hn b f =>
  #[hn b f,AA (ar b f),I4.ok.exfs b f,.inl f,λy c e=>(I4.ok.exf b f).2 y c e,λp hp=>eR (show p∈([]:eL (JA×Obj)) from hp) (by simp)]
 let loop:Ja (JE X.prog X.w) X.A (.compLoop (.ListComp ap [#[.Name x px,E,aq,0]] k pos) 0 (.ref it) (.ref g.heap.objs.size) (compEnvC k cl a.heap.objs.size X.env))
  (compPost (JE X.prog X.w) X.A X.xe use RP (.ref g.heap.objs.size) a.heap.objs.size) {a with heap:=h4,toks:=a.toks+([]:eL (eZ×JC)).length}:=by
  refine a26 (λn s'=>∃i v0 H',Inv (blk X N a (upd O g.heap.objs.size (.lst [])) k cl a.heap.objs.size t) [] (v0::j8 σ ix) H' s'/\tn i s'.heap/\(∀b∈t,H' b=eI)/\W i n H') ?_ m0
   #[0,eI,_,I4,ae,λb f=>(f3 b f).1,w0]
  rintro n s5 ⟨i,v0,G,I5,am,an,w5⟩;rcases ab i n G w5 with⟨stop,qn⟩|⟨go,step⟩
  . refine thn (T.done (blk X N a (upd O g.heap.objs.size (.lst [])) k cl a.heap.objs.size t) rfl rfl rfl hc i [] s5 _ G _ I5 (U an) am stop) λr L P=>?_;let(hr,S):=P;subst hr;let(mm,hm,_):=S.loc;let I7:Inv X l σ G L:=by
     let hC:G a.heap.objs.size=eI:=S.free;let aP:a.heap.get? a.heap.objs.size=eI:=Gy (Ao _);let up:∀b o,b≠a.heap.objs.size->L.heap.get? b=eH o->L.heap.get? b=eH o:=λb o f e=>e;let aa:∀b o,a.heap.get? b=eH o->b≠a.heap.objs.size:=λb o e=>AA (A1 e);let u:=S.base;refine I3.call' (s':=L) (ch:=t) S.os #[λb o e n f M=>?_,λb o e n f M=>?_,λb o e n M=>u.free b o e n M,λb o e M=>?_,u.tups,u.frzs,u.tbls] (λb o e=>?_) S.bare λb f=>#[(f3 b f).2.2.2.1,(f3 b f).2.1,(f3 b f).2.2.2.2.1,(f3 b f).2.2.2.2.2]
     . exact up b o (aa b o e) (u.keep b o e n f M)
     . let(sl,e1):=u.slot b o e n f M;exact#[sl,up b _ (aa b o e) e1]
     . let(o',e1):=u.there b o e M;exact#[o',up b _ (aa b o e) e1]
     refine(S.hok b o e).stay (λc v au q=>up c v ?_ q) (λ_ q=>q) λ_ _ q=>q;rintro rfl;rcases au with z|z;rw[<- z,hC] at e;cases e;rw[hC] at z;cases z
    let ay:G a.heap.objs.size=eI:=S.free;let aA:a.heap.objs.size≠X.env.locals:=BP I3.lt;let aK:∀z c,X.env.cells.lookup z=eH c->c≠a.heap.objs.size:=λz c e e2=>by
     let(v',q):=I3.cell z c e;exact eR (e2 ▸ q.lt) (Bb _)
    exact af _ _ L G mm I7 hm ay aA aK I3.sz (λp hp e2=>eR (e2 ▸ A1 (I3.pin p hp).1) (Bb _)) qn
  refine thn (T.item (blk X N a (upd O g.heap.objs.size (.lst [])) k cl a.heap.objs.size t) rfl rfl rfl hc i [] s5 _ G _ I5 (U an) am go) λr L P=>?_;let(u,hr,h6):=P;subst hr;refine thn h6 λ_ s7 P=>?_;let(y,H7,I7,r7,y7,Z,aB):=P;let aF:=I7.pinned (U aB) (T.obj _ _ Z);refine Fj (vf (i:=0) aF aw (by show N[0]?=eH x;rw[hN];rfl) (.inl (GQ M)) r7 (λs8 I8=>?_) (.inr (GQ M)));let aI:Inv (blk X N a (upd O g.heap.objs.size (.lst [])) k cl a.heap.objs.size t) ([]++qr t s7.heap) (eH y::j8 σ ix) H7 s8:=I8;refine thn (aD _ _ _ _ _ s8 _ H7 _ aI (step y H7 y7)) λok s9 P=>?_;let(H9,I9,q9):=P;let F:∀{H':Hp} {s':JG} {m':eO},Inv (blk X N a (upd O g.heap.objs.size (.lst [])) k cl a.heap.objs.size t) ([]++qr t s7.heap) (eH y::j8 σ ix) H' s'->m'<n->W (i+1) m' H'->
   ∃m,m<n/\∃i v0 H',Inv (blk X N a (upd O g.heap.objs.size (.lst [])) k cl a.heap.objs.size t) [] (v0::j8 σ ix) H' s'/\tn i s'.heap/\(∀b∈t,H' b=eI)/\W i m H':=λ{H' s' m'} Ia hm wa=>by
   refine#[m',hm,i+1,eH y,H',Ia.unpinned,T.keep _ _ _ Z λb f o e=>(Ia.pin (b,o) (B0 _ (B0 _ (o8 f e)))).1,λb f=>?_,wa];let(o,e,d):=T.obj _ _ Z b f;exact(Ia.pin (b,o) (B0 _ (B0 _ (o8 f e)))).2.1
  cases ok with
  |false =>
   rw[eP Az] at q9 |-;let(m',hm,wa):=q9;exact F I9 hm wa
  |true =>
   rw[eQ rfl] at q9 |-;refine thn (he _ _ _ _ _ s9 _ H9 _ I9 q9) λax aM P=>?_;let(z,aj,aE,aJ,ys,hD,hl,m',hm,wa):=P;exact thn (jw _ aM _ aj (.ref g.heap.objs.size) [z] (.ref g.heap.objs.size) [ax] (λ_ H'=>H'=upd aj g.heap.objs.size (.lst (ys++[z]))) aE rfl (.cons aJ .nil) #[_,ys,z,eY,eY,hD,hl,eY])
    λ_ aN #[_,H11,aG,_,av]=>F aG hm (by rw[av];exact wa)
 subst hs3;exact codeAny_compStart_list loop (T.self _ 0 _ _ _ ae loop)
theorem xl(N:eU)(J:X.calm=eJ)(hi:PI X (.Name x Z) f Y)(r:∀s H C ex,PTs (blk X N s H a cl C ex) A L)(W:∀s H C ex,PE (blk X N s H a cl C ex) v te)(g:a.kind=.function)(U:N=x::E.map λj=>(X.N[j]?).getD "")(p:N.Nodup)(G:a.names.lookup x=eH .local)(q:closureFor a X.env=pure cl)(i:∀y∈a.names,y.2≠.cell)(d:∀y∈a.names,y.2=.local->a.names.lookup y.1=eH .local)(k:∀y c,cl.lookup y=eH c->X.env.cells.lookup y=eH c)(m:∀y,((JU a X.env).names.lookup y=eH .cell\/(JU a X.env).names.lookup y=eH .free)->∃c,cl.lookup y=eH c)(w:∀j∈E,∃y,X.N[j]?=eH y/\X.env.kindOf y=eH .cell/\(JU a X.env).names.lookup y=eH .cell)(R:autoParam (∀x,JL f X.env x=pure x) a3_):
 PE X (.ListComp v [#[.Name x Z,f,A,0]] a pos) (pi E Y L te):=by
 intro B s σ H Q I h;rw[eval_ListComp];exact yg N J hi r W g U p G q i d k m w R I h λD C S O M T hm t n u hsz l F =>
  #[M,hm,λh7 z=>#[.ref D,O,T.turned (t':=S.toks) (it:=C) (λb o P e=>z.extBut b o P e) t n (.inr hsz) u l,eY,F]]
def Its(x:eZ):It:=#[λi _=>i<x.cps.size,λi H v H'=>H'=H/\∃c,x.cps[i]?=eH c/\v=.str #[[c].toArray],λi _=>x.cps.size<=i]
theorem aaf{K:Aa}(it:JA)(T:String)(p:T="str_ascii_iterator" \/ T="str_iterator"):Turn P w K R (Its x) [it] it (λi h=>h.IsStrIter it T x t i/\i<=x.cps.size) where
 mem:=by simp
 obj:=λi h st b a=>by
  let e:b=it:=by simpa using a
  subst e;let((o,e,c,d),_):=st;exact#[o,e,λv z=>by rw[d] at z;cases z]
 keep:=λi h h' st k=>#[let ⟨o,ho,r⟩:=st.1;#[o,k it (by simp) o ho,r],st.2]
 item:=by
  intro X O G M F i f s σ H E I C st J;subst O G M;let(n,q,S,B,D,y):=C it (by simp);let hi:i<x.cps.size:=J;let l:∀h',h'.IsStrIter it T x t (i+1)->(∀b o,b≠it->s.heap.get? b=eH o->h'.get? b=eH o)->∀u:Tok,∃L,eH (Value.str #[[x.cps[i]].toArray] u)=eH L/\
   JD (JE X.prog X.w) X.A (letOwnedTupleGo R (.ref it) L) (λ_ Q=>∃v H',Inv X f σ H' Q/\RelV v L/\(Its x).yld i H v H'/\(Q.heap.IsStrIter it T x t (i+1)/\i+1<=x.cps.size)/\∀b∈[it],H' b=eI) E {s with heap:=h',toks:=s.toks+1}:=λh' m kk u=>by
   let U:Inv X f σ H {s with heap:=h',toks:=s.toks+1}:=I.turned (λb o a e=>kk b o a e) n q B D y;let(o,e,c,d):=id m;refine#[_,eY,a01 (s:={s with heap:=h',toks:=s.toks+1}) e c d (by rcases p with rfl|rfl<;>decide) #[.str #[[x.cps[i]].toArray],H,U,#[u,rfl],#[rfl,_,by simp[hi],rfl],#[m,hi],λb a=>?_]];exact(C b a).1
  rcases p with rfl|rfl;exact wpAny_pyNext_ascii_item st.1 (c:=x.cps[i]) (by simp[hi]) λh' g j=>l h' g (λb o a e=>j.extBut b o a e) _
  exact wpAny_pyNext_wide_item st.1 (c:=x.cps[i]) (by simp[hi]) λh' g j=>l h' g (λb o a e=>j.extBut b o a e) _
 done:=by
  intro X O G M F i f s σ H E I C st J;subst O G M;let(n,q,S,B,D,y):=C it (by simp);let hi:x.cps.size<=i:=J;rcases p with rfl|rfl;exact wpAny_pyNext_ascii_end (I.ok.hd F) st.1 (by simp;omega) λh' N=>#[eY,I.turned (t':=s.toks) (λb o a e=>N b o a e) n q B D y]
  exact wpAny_pyNext_wide_end (I.ok.hd F) st.1 (by simp;omega) λh' N=>#[eY,I.turned (t':=s.toks) (λb o a e=>N b o a e) n q B D y]
 self:=λ_ _ _ _ _ st h=>by
  rcases p with rfl|rfl;exact wpAny_pyIter_striter_ascii st.1 h;exact wpAny_pyIter_striter_wide st.1 h
def iStr(tl:TE):TI:=fun σ H R=>tl σ H λx H1=>∃z,x=.str z/\R (Its z) H1
theorem ae0(hl:PE X l j):PI X g l (iStr j):=by
 intro a s σ H R I h;refine thn (hl a s σ H _ I h) λv s1 p=>?_;let(x,k,d,r1,n):=p;let(z,e,q):=n;subst e;let(t,rfl):=r1;let c:∀(o:Obj) (T:String),(T="str_ascii_iterator" \/ T="str_iterator")->(s1.heap.push o).IsStrIter s1.heap.objs.size T z t 0->PIE X a σ g R (.ref s1.heap.objs.size) {s1 with heap:=s1.heap.push o}:=λo T m i=>by
  refine#[s1.heap.objs.size,[s1.heap.objs.size],_,_,k,eY,d.kept (t':=s1.toks) λb o e=>Aj _ e,aaf (x:=z) (t:=t) _ T m,#[i,AC _],λb f=>?_,q];let e:b=s1.heap.objs.size:=by simpa using f
  subst e;exact d.fpOk (Ao _) (d.hok.fresh (Ao _))
 cases ha:z.cps.all (· < 128);exact wpAny_pyIter_wide ha (c _ _ (.inr rfl) #[_,Ax _ rfl,eY,eY]);exact wpAny_pyIter_ascii ha (c _ _ (.inl rfl) #[_,Ax _ rfl,eY,eY])
theorem vh(t:X.calm=eJ):ja X (.builtin "all") (λxs H Q=>∃(a:JA) (bs:eL fJ),xs=[.ref a]/\SqL X.K H a (bs.map V.bl)/\Q (.bl (bs.all id)) H):=by
 intro c s σ H xs us Q I r h;let(a,bs,rfl,B,q):=h;let(u,rfl,j):=r.one;cases j;let(its,l,p,hz):=I.list B;let g:a<s.heap.objs.size:=by let(o,n,e,_):=p;exact A1 e
 refine call_all_walk (Eb p.isList ?_);let len:bs.length=its.length:=by let:=l.length;simpa using this
 exists s.heap.objs.size,_,_,_,_,_,λi=>(bs[i]?).getD eK,eY,Io (A:=X.A.in1) (show X.A.in1.handled=eI from I.ok.hd t) s.heap.objs.size a (AA g) its.toArray,#[#[_,Ax _ rfl,eY,eY],p.isList.at λo e=>Aj _ e],?_
 . intro i v s' D C hv m;let d:its[i]?=eH v:=by simpa using hv
   cases f:bs[i]? with
   |none =>
    let h1:=DG.mp f;let h2:=(An.mp d).1
    lia
   |some b =>
    let(u,k,j):=l.get (i:=i) (x:=V.bl b) (by rw[Ar,f]<;>rfl);rw[d] at k;cases k;cases j;simp only[f,CM] at m;exact BL m
 intro h' tk w;let e:(AU its.toArray.size).all (λi=>(bs[i]?).getD eK)=bs.all id:=by
  rw[A3,<- len];rw[Bd];simp only[Bm,Ba,_root_.id];constructor;intro h b f;let(i,hi,e):=GV.mp f;let:=h i hi;rw[Ag hi,CM,e] at this;exact this;intro h i hi;rw[Ag hi,CM];exact h _ (AM hi)
 let fr:FpOk X c H s.heap.objs.size:=I.fpOk (Ao _) (I.hok.fresh (Ao _));refine#[.bl (bs.all id),H,?_,by rw[e];rfl,q];let y:Inv X c σ H {s with heap:=h',toks:=tk}:=I.kept (h':=h') (t':=tk) λb o e=>w b o (λz=>by
  let:b=s.heap.objs.size:=by simpa using z
  exact eR (A1 e) (by rw[this];exact Bb _)) (Aj _ e)
 exact y
theorem n9:ja X (.builtin "isinstance") (λxs H Q=>∃a ys,xs=[.ref a,.ty "tuple"]/\SqT X.K H a ys/\Q (.bl eJ) H):=by
 intro b s σ H xs us Q I r h;let(a,ys,rfl,d,q):=h;cases r with
 |cons r1 r =>
  cases r with
  |cons r2 r =>
   cases r;cases r1;cases r2;let(its,f,p,hz):=I.tuple d;let(o,e,c,_):=p;exact IsiPair.tuple_tuple e c #[.bl eJ,H,I,eY,q]
theorem a42(t:SetTable)(es:fF (eN×JC))(h:eN)(x:JC):(layNew t es h x).2.1.led=t.led:=by
 unfold layNew;split;dsimp only;unfold SetTable.orStandIn;split<;>rfl;rfl
theorem tz{t:SetTable}(h:t.relaid a n=eH (t',o)):t'.led=t.led/\t'.plain=t.plain:=by
 unfold SetTable.relaid SetTable.laid at h;cases e:SetTable.layClean (SetTable.sizeAbove n-1) a with
 |none=>rw[e] at h;cases h
 |some ow =>
  rw[e] at h;let h':=Am h;cases h';exact#[eY,eY]
theorem a19(t:SetTable)(es:fF (eN×JC))(n:eO):(relayAll t es n).2.1.led=t.led:=by
 unfold relayAll;split;rename_i t' o e;dsimp only;split;exact(tz e).1;rfl
 rfl
theorem xy(t:SetTable)(es:fF (eN×JC))(n:eO)(hp:(relayAll t es n).2.1.plain=eJ):t.plain=eJ:=by
 unfold relayAll at hp;split at hp;rename_i t' o e;dsimp only at hp;split at hp;rw[<- (tz e).2];exact hp;cases hp
 cases hp
def ml:JC->eZ
 |.str x _=>x
 |_=>#[[].toArray]
def SSet(P:JQ)(w:JV)(h:JP)(a:JA)(ss:eU):Prop :=
 ∃o es ep t,h.get? a=eH o/\o.ExactSet/\o.data=.set es ep t/\ElemsOf (Jb P w) es.toList/\es.toList.map (λe=>ml e.2)=ss/\ss.Nodup/\es.size<scanBound/\t.fits es.size=eJ/\
  t.led = !w.params.followText "set-order" /\ (1<=es.size->t.plain=eK)
theorem a60(h:(Jb P w).is x v=eJ):∃u,v=.str x u:=EG h
theorem yi(h:ElemsOf (Jb P w) l)(a:e∈l):∃u,e.2=.str (ml e.2) u:=by
 let((k,c,_),_):=h e a;let(u,b):=a60 c;exact#[u,by rw[b];rfl]
theorem aav(h:ElemsOf (Jb P w) l)(x:eZ):(l.findIdx? (λe=>(Jb P w).is x e.2)).isSome=decide (x∈l.map λe=>ml e.2):=by
 rw[Bd,List.findIdx?_isSome,AS,fG,Au];constructor;rintro⟨e,a,c⟩;let(u,b):=a60 c;exact#[e,a,by rw[b];rfl];rintro⟨e,a,rfl⟩;let(u,b):=yi h a;exists e,a;rw[b];exact Ip _ _ _ _
theorem a8n(hS:SSet P w s.heap a p)(S:p.length+1<scanBound)(h:∀h' f b,BF a s.heap h'->SSet P w h' a f->(if x∈p then f=p else f.Perm (p++[x]))->Q b {s with heap:=h'}):
 JD (JE P w) A (setAddHashed a (.str x u) (hashStr w x)) Q E s:=by
 let(o,es,ep,t,ho,R,hd,C,D,ac,hb,hf,q,al):=hS;let N:(Jb P w).is x (.str x u)=eJ:=Ip _ _ _ _;let hn:es.size=p.length:=by rw[<- D,Ad,AG]
 unfold setAddHashed setAddHashedIn;refine BI (Ac (Di ho hd hf ?_));dsimp only;rw[byScan_of (knd:=Jb P w) rfl hb C];simp only[↓reduceIte];unfold setAddByScan;refine Ac ?_;refine Ac (CV ?_);refine Ac (wpAny_setScan_of (knd:=Jb P w) N ho hd hf C ?_);let v:=aav C x;rw[D] at v;cases hr:List.findIdx? (λe=>(Jb P w).is x e.2) es.toList with
 |some j =>
  dsimp only;rw[hr] at v;let hx:x∈p:=fC (IA v);refine Al (Al ?_);let:=h s.heap p eK (Heap.SameBut.refl a s.heap) #[o,es,ep,t,ho,R,hd,C,D,ac,hb,hf,q,al] (by rw[eQ hx]);exact this
 |none =>
  dsimp only;rw[hr] at v;let hx:x∉p:=fD (IA v);let ag:∀(b:fJ) {M:JG} {H:Unit->JG->Prop},H () M->JD (JE P w) A (match b with|true=>rule "set.scan.the-table-gave-way" | false=>pure ()) H E M :=
   λb M H n=>by cases b<;>first|exact Al n|exact CV n
  let d:=layNew_perm t es (hashStr w x) (.str x u);let k:=layNew_fits t es (hashStr w x) (.str x u);let m:=a42 t es (hashStr w x) (.str x u);show JD (JE P w) A _ _ E s;let hash:(Jb P w).hash x=hashStr w x:=rfl
  try rw[hash]
  generalize hL:layNew t es (hashStr w x) (.str x u)=L at d k m |-;let(c,t1,wasDummy,ap):=L;dsimp only at d k m |-;rw[HD] at d;let G:ElemsOf (Jb P w) c.toList:=(ElemsOf.push (knd:=Jb P w) C N rfl).perm d;let B:(c.toList.map λe=>ml e.2).Perm (p++[x]):=by
   let:=d.map (λe:eN×JC=>ml e.2);rw[Av,D] at this;exact this
  let ab:c.size=p.length+1:=by rw[<- AG,d.length_eq,Ai,AG,hn];rfl
  let U:c.size<scanBound:=by rw[ab];exact S
  let J:(c.toList.map λe=>ml e.2).Nodup:=by
   refine B.nodup_iff.mpr ?_;rw[AE];exact#[ac,by simp,λy hy z hz e=>by rw[Ae.mp hz] at e;exact hx (e ▸ hy)]
  refine Ac (ag _ ?_);let tail:∀i:SetTable,i.fits c.size=eJ->i.led=t.led->i.plain=eK->∀(g:fJ->Sem Unit),(∀(b:fJ) (M:JG) (H:Unit->JG->Prop),H () M->JD (JE P w) A (g b) H E M)->
   JD (JE P w) A (do
    storeSet a c i
    if(!wasDummy && i.tooFull)=eJ then do
        g (relayAll i c (Cr c.size)).2.2
        storeSet a (relayAll i c (Cr c.size)).1 (relayAll i c (Cr c.size)).2.1
        pure (eH eJ)
     else pure (eH eJ)) (λr s'=>r=eH eJ/\∃h' f,s'={s with heap:=h'}/\BF a s.heap h'/\SSet P w h' a f/\f.Perm (p++[x])) E s:=by
   intro i aj ae Y g hg;refine Ac (HE ho hd ?_ (Fm U));let X:(s.heap.update a (E3 c i)).get? a=eH {o with data:=.set c (ep+1) i}:=by
    let:=BH (E3 c i) ho (by rw[Hy c i hd];rfl);rw[Hy c i hd] at this;exact this
   let F:=Cq s.heap a (E3 c i);split
   . let hp:=relayAll_perm i c (Cr c.size);let T:=relayAll_fits i c (Cr c.size);let W:=a19 i c (Cr c.size);let Z:=xy i c (Cr c.size);generalize hRl:relayAll i c (Cr c.size)=Rl at hp T W Z |-;let(l,O,ai):=Rl;dsimp only at hp T W Z |-;let hsz:l.size=c.size:=by rw[<- AG,hp.length_eq,AG]
     let af:l.size<scanBound:=by rw[hsz];exact U
     refine Ac (hg _ _ _ ?_);refine Ac (HE X rfl ?_ (Fm af));let ao:((s.heap.update a (E3 c i)).update a (E3 l O)).get? a=eH {o with data:=.set l (ep+1+1) O}:=by
      let:=BH (E3 l O) X (by rw[Hy l O rfl];rfl);rw[Hy (o:={o with data:=.set c (ep+1) i}) l O rfl] at this;exact this
     let I:=hp.map (λe:eN×JC=>ml e.2);refine Al #[eY,_,l.toList.map (λe=>ml e.2),eY,F.trans (Cq _ a _),#[_,l,ep+1+1,O,ao,R,eY,G.perm hp,eY,I.nodup_iff.mpr J,af,T,W.trans (ae.trans q),λ_=>?_],I.trans B];cases n:O.plain with|false=>rfl|true=>rw[Z n] at Y;cases Y
   exact Al #[eY,_,c.toList.map (λe=>ml e.2),eY,F,#[_,c,ep+1,i,X,R,eY,G,eY,J,U,aj,ae.trans q,λ_=>Y],B]
  let aa:∀s':JG,(∃h' f,s'={s with heap:=h'}/\BF a s.heap h'/\SSet P w h' a f/\f.Perm (p++[x]))->Q eJ s':=by
   rintro s' ⟨h',f,rfl,ak,ah,am⟩;exact h h' f eJ ak ah (by rw[eP hx];exact am)
  split
  . refine Ac ?_;rw[hashByValue_scannable 8 (x:=.str x u) rfl];refine Al ?_;dsimp only[plainKind];simp only[B4,if_false];refine B8 (tail {t1 with plain:=eK} (SetTable.fits_plain_off k) m rfl _ ?_) (λr s' n=>?_) λ_ _ e=>e
    . intro b M H n;cases b<;>first|exact Al n|exact CV n
    . let(rfl,n):=n;exact Al (aa s' n)
  rename_i an;refine Ac (Al ?_);simp only[↓reduceIte];refine B8 (tail t1 k m (by simpa using an) _ ?_) (λr s' n=>?_) λ_ _ e=>e
  . intro b M H n;cases b<;>first|exact Al n|exact CV n
  . let(rfl,n):=n;exact Al (aa s' n)
inductive Dd:eU->eU->Prop
 |nil:Dd [] []
 |old{xs ss:eU}{x:eZ}:Dd xs ss->x∈ss->Dd (xs++[x]) ss
 |new{xs ss ss':eU}{x:eZ}:Dd xs ss->x∉ss->ss'.Perm (ss++[x])->Dd (xs++[x]) ss'
theorem Dd.mem(h:Dd xs a):∀y,y∈a↔y∈xs:=by
 induction h with
 |nil=>intro y;exact Iff.rfl
 |old d hx ih =>
  rename_i zs a x;intro y;rw[ih y,Ab,Ae];constructor;exact .inl
  rintro (q|rfl);exact q;exact(ih y).mp hx
 |new d hx hp ih =>
  rename_i zs a b x;intro y;rw[hp.mem_iff,Ab,Ab,ih y]
theorem Dd.nodup(h:Dd xs a):a.Nodup:=by
 induction h with
 |nil=>exact AV
 |old d hx ih=>exact ih
 |new d hx hp ih =>
  rename_i zs a c x;refine hp.nodup_iff.mpr (AE.mpr #[ih,by simp,λy b z hz e=>?_]);rw[Ae.mp hz] at e;exact hx (e ▸ b)
theorem Dd.len(h:Dd xs a):a.length<=xs.length:=by
 induction h with|nil=>exact Ao _|old d hx ih=>rw[Ai];exact AB ih (Cf _ _)|new d hx hp ih=>rw[hp.length_eq,Ai,Ai];exact Nat.add_le_add_right ih _
theorem a3f:∀{vs:eL JC}{xs:eU},StrsAre vs xs->∀(i:eO) (v:JC),vs[i]?=eH v->∃x t,xs[i]?=eH x/\v=.str x t
 |_,_,.nil,i,v,h=>by simp at h
 |_,_,.cons x t r,0,v,h=>by simp at h;exact#[x,t,eY,h.symm]
 |_,_,.cons x t r,i+1,v,h=>by
  let(y,u,b,a):=a3f r i v (by simpa using h);exact#[y,u,by simpa using b,a]
theorem SSet.at(d:SSet P w h a b)(k:∀o,h.get? a=eH o->h'.get? a=eH o):SSet P w h' a b:=by
 let(o,es,ep,c,e,rest):=d;exact#[o,es,ep,c,k o e,rest]
theorem uq{St:eO->JG->Prop}(W:WalksS P w A.in1 I Q D G n Pv St)(S:JA)(p:S∉Q)(xs:eU)(hn:xs.length=n)(z:∀i v,Pv i v->∃x t,xs[i]?=eH x/\v=.str x t)(j:n+1<scanBound):
 ∀(k i:eO) (s:JG) (d:eU),n-i=k->i<=n->St i s->SSet P w s.heap S d->Dd (xs.take i) d->
   (∀s' a,Moved (S::D) G s s'->SSet P w s'.heap S a->Dd xs a->R (.ok (.ret .none)) s')->
   Ja (JE P w) A (.builtin "set.update.loop" #[[.ref S,.ref I],[]]) R s:=by
 let l:S∉D:=λh=>p (W.sub _ h);let f:∀b∈D,b∈S::D:=λb j=>Ah _ j;intro k;induction k with
 |zero =>
  intro i s d U hi g N hd M;let E:i=n:=by lia
  subst E;refine Cm DP ?_;rw[BW Cy _];show JD _ A.in1 (JW (.ref I)>>=_) _ _ s;refine Ac (W.done s _ _ g λs' hm=>?_);show JD _ A.in1 (ret Value.none) _ _ s';refine Al (M s' d (hm.mono f) (N.at λo e=>hm.heap S _ l e) ?_);rw[BC (Ht hn)] at hd;exact hd
 |succ k ih =>
  intro i s d U hi g N hd M;let q:i<n:=by lia
  refine Cm DP ?_;rw[BW Cy _];show JD _ A.in1 (JW (.ref I)>>=_) _ _ s;refine Ac (W.item i s _ _ q g λv s' X r hm=>?_);let(x,t,T,rfl):=z i v X;let H:SSet P w s'.heap S d:=N.at λo e=>hm.heap S _ l e;show JD _ A.in1 (holding [Value.str x t] (setAdd S (.str x t))>>=_) _ _ s';refine Ac (BI ?_);unfold setAdd;refine BI ?_;refine Ac ((Jb P w).pyHash (k:=x) (Ip _ _ _ _) ?_);let hl:d.length<=i:=by let:=hd.len;rw[AL] at this;lia
  refine a8n (s:={s' with toks:=s'.toks+1}) H (by lia) λh' a b y J c=>?_;let L:Dd (xs.take (i+1)) a:=by
   let e:xs.take (i+1)=xs.take i++[x]:=by rw[AJ,T];rfl
   rw[e];by_cases hm:x∈d;rw[eQ hm] at c;rw[c];exact .old hd hm;rw[eP hm] at c;exact .new hd hm c
  refine Al #[CT Cy _,ih (i+1) _ a (by lia) q (W.frame _ s' _ _ r (Ef _) λb j o e=>?_) J L λO u C m B=>?_];rw[y.2 b (λh:b=S=>p (by rw[<- h];exact j))];exact e;refine M O u (Moved.trans W.gtrans ((hm.mono f).then_heap (Ef _) λb o j e=>?_) C) m B;rw[y.2 b (λh:b=S=>j (by rw[h];exact Af))];exact e
theorem vg(a:JC)(h:Q₁ (.ref s.heap.objs.size) {s with heap:=s.heap.push {cls:=.type "set",dict:=eI,data:=.set [].toArray 0 (.fresh 0 0 (!w.params.followText "set-order"))}}):
 Ja (JE P w) A (.call (.builtin "set.__new__") #[[.type "set",a],[]]) (wants Q₁ E) s:=by
 refine codeAny_of_tree ?_;show JD _ A.in1 (do checkBuiltinCall "set.__new__" #[[.type "set",a],[]];again (.builtin "set.__new__" #[[.type "set",a],[]])) _ _ s;refine Ac (FX (PySem.F.newCall_set_1 a) (Al #[CT Gk _,Cm PySem.F.entry_set_new ?_]));rw[BW Gk _];unfold Builtin.«set.__new__» Builtin.Frozenset.newClass;let b:=sub_set_self;let(hp,g,d,tk,os):=s;dsimp only
 wp_walk
 refine FA (Al ?_);dsimp only;simp only[newObj];refine Ac (wpAny_alloc (Al ?_));exact Al h
set_option maxHeartbeats 16000000 in
theorem zn(hh:A.handled=eI)(hl:s.heap.IsList l items)(hi:StrsAre items.toList xs)(H:items.size+1<scanBound)(h:∀(h':JP) (tk:eO) (g:eU),SSet P w h' s.heap.objs.size g->Dd xs g->(∀b o,b<s.heap.objs.size->s.heap.get? b=eH o->h'.get? b=eH o)->Q (.ref s.heap.objs.size) {s with heap:=h',toks:=tk}):
 JD (JE P w) A (call (.type "set") [.ref l]) Q E s:=by
 let(c,tl,X):=PySem.F.called_set.mro;let N:=PySem.F.called_set.made;let aa:=PySem.F.called_set.sub;refine Ij (codeAny_of_tree ?_);show JD _ _ (callAny (.type "set") _) _ _ _;refine Al #[Code.quiet_builtin _ (by decide),Cm PySem.F.entry_type_call ?_];rw[Around.under_plain (weight_type_call_type "set" [.ref l] []) rfl];let h1:=PySem.F.called_set.notType;let h2:=PySem.F.called_set.canCreate;let ah:=PySem.F.typeCall_set_1 (.ref l)
 repeat (any_goals (first|assumption|wp_step))
 refine Dj (vg (.ref l) (E:=E) (Q₁:=λobj s₁=>obj=.ref s.heap.objs.size/\s₁={s with heap:=s.heap.push {cls:=.type "set",dict:=eI,data:=.set [].toArray 0 (.fresh 0 0 (!w.params.followText "set-order"))}}) #[rfl,rfl]) λr s₁ S=>?_;cases r with
 |error e=>exact S
 |ok fl =>
  cases fl with
  |ret obj =>
   let(rfl,rfl):=S;generalize hled:(!w.params.followText "set-order")=led;let Y:(s.heap.push {cls:=.type "set",dict:=eI,data:=.set [].toArray 0 (.fresh 0 0 led)}).get? s.heap.objs.size=eH {cls:=.type "set",dict:=eI,data:=.set [].toArray 0 (.fresh 0 0 led)}:=Ax _ rfl;let hT:Hc {s with heap:=s.heap.push {cls:=.type "set",dict:=eI,data:=.set [].toArray 0 (.fresh 0 0 led)}} (.ref s.heap.objs.size) "set" := #[_,Y,rfl]
   let ag:=PySem.F.called_set.init.lookup;let ae:=PySem.F.called_set.init.bind (.ref s.heap.objs.size)
   repeat (any_goals (first|assumption|wp_step))
   refine Dj (GX (R:=wants (λr s₂=>r=.none/\∃h' tk g,s₂={s with heap:=h',toks:=tk}/\SSet P w h' s.heap.objs.size g/\Dd xs g/\
    (∀b o,b<s.heap.objs.size->s.heap.get? b=eH o->h'.get? b=eH o)) E) PySem.F.called_set.init.plain PySem.F.entry_set_init (check_set_init_1 hT ?_)) λr₂ s₂ f=>?_
   . let(ol,C,n,nl,B):=hl;let(ab,j,I,a):=ol;simp only at n B;subst n;subst B;let y:(s.heap.push {cls:=.type "set",dict:=eI,data:=.set [].toArray 0 (.fresh 0 0 led)}).get? l=eH {cls:=.type "list",dict:=j,data:=.seq items nl,slots:=a}:=Aj _ C;let ac:=PySem.F.sub_list_set;let Z:=PySem.F.sub_list_frozenset;let af:(Value.type "list"==Value.type "dict")=eK:=by decide
     let D:(s.heap.push {cls:=.type "set",dict:=eI,data:=.set [].toArray 0 (.fresh 0 0 led)}).IsList l items:=#[_,y,eY,nl,eY]
     unfold Builtin.«set.__init__» noKeywords Builtin.Frozenset.updateFrom;generalize hPI:pyIter=PI
     wp_walk
     subst hPI;refine Eb D ?_;refine Ac (wpAny_runValue ?_);let m:l<s.heap.objs.size:=A1 C;let J:A.in1.in1.in1.handled=eI:=by simp[hh]
     let p:l≠(s.heap.push {cls:=.type "set",dict:=eI,data:=.set [].toArray 0 (.fresh 0 0 led)}).objs.size:=by
      rw[B1];exact AA (Co m)
     let O:s.heap.objs.size∉[(s.heap.push {cls:=.type "set",dict:=eI,data:=.set [].toArray 0 (.fresh 0 0 led)}).objs.size,l]:=by
      rw[B1];simp only[Ak,Ae,As,fH,not_or];exact#[AA (B7 _),BP m]
     let G:xs.length=items.size:=by let:=hi.length;simpa using this.symm
     let u:∀(i:eO) (v:JC),items[i]?=eH v->∃x t,xs[i]?=eH x/\v=.str x t:=λi v hv=>a3f hi i v (by rw[B9];exact hv);refine uq ((Io J _ l p items).toS) s.heap.objs.size O xs G u H (items.size-0) 0 _ [] (by lia) (AC _)
      #[#[_,Ax _ rfl,eY,eY],(D.push _)] ?hS0 (by rw[BX];exact .nil) ?hR
     case hS0 =>
      let z:((s.heap.push {cls:=.type "set",dict:=eI,data:=.set [].toArray 0 (.fresh 0 0 led)}).push {cls:=.type "list_iterator",data:=.fields [.ref l,.int 0 0].toArray}).get? s.heap.objs.size
       =eH {cls:=.type "set",dict:=eI,data:=.set [].toArray 0 (.fresh 0 0 led)}:=Aj _ Y
      exact#[_,[].toArray,0,_,z,#[eY,eY,eY],eY,λe he=>by simp at he,eY,AV,by decide,by rfl,hled.symm,λq=>eR q (by simp)]
     case hR =>
      intro s' L hm d k;let(h',g',d',tk',U):=s';let eg:g'=s.gens:=hm.gens;let ed:d'=s.drawn:=hm.drawn;let eo:U=s.os:=hm.os;subst eg;subst ed;subst eo;show JD _ _ _ _ _ _;refine Al ?_;show JD _ _ (ret Value.none) _ _ _;refine Al #[eY,h',tk',L,eY,d,k,λb o H e=>?_];let M:b≠s.heap.objs.size:=AA H;let W:b≠(s.heap.push {cls:=.type "set",dict:=eI,data:=.set [].toArray 0 (.fresh 0 0 led)}).objs.size:=by
       rw[B1];exact AA (Co H)
      exact hm.heap b o (by simp only[Ak,Ae,As,fH,not_or];exact#[M,W]) (Aj _ (Aj _ e))
   cases r₂ with
   |error e=>exact f
   |ok fl₂ =>
    cases fl₂ with
    |ret r =>
     let(rfl,h',tk,g,rfl,d,k,T):=f
     repeat (any_goals (first|assumption|wp_step))
     exact h _ _ g d k T
    |_=>exact f.elim
  |_=>exact S.elim
namespace SF
theorem entry_set_iter:entryFor table "set.__iter__"=eH Builtin.«frozenset.__iter__» := Gn (id' := "frozenset.__iter__") (by kernel_rfl) rfl (by decide) (by kernel_rfl)
theorem slot_next:Slot "set_iterator" "__next__" "set_iterator.__next__" :=
 .of (owner := "set_iterator") (n := "__next__") (by rw[DH,CA];kernel_rfl) (by decide) (by decide) (by decide)
  (by first|exact .inl (by decide)|exact .inr (by decide)) (by rw[EL];kernel_rfl)
theorem entry_next:entryFor table "set_iterator.__next__"=eH Builtin.«set_iterator.__next__» := entryFor_of_tree (by kernel_rfl)
theorem args_next(a:JC):argsOk "set_iterator.__next__" #[[a],[]]:=by unfold argsOk;kernel_rfl
theorem slot_self:Slot "set_iterator" "__iter__" "set_iterator.__iter__" :=
 .of (owner := "set_iterator") (n := "__iter__") (by rw[DH,CA];kernel_rfl) (by decide) (by decide) (by decide)
  (by first|exact .inl (by decide)|exact .inr (by decide)) (by rw[EL];kernel_rfl)
theorem entry_self:entryFor table "set_iterator.__iter__"=eH Builtin.«dict_keyiterator.__iter__» :=
 Gn (id' := "dict_keyiterator.__iter__") (by kernel_rfl) rfl (by decide) (by kernel_rfl)
theorem args_self(a:JC):argsOk "set_iterator.__iter__" #[[a],[]]:=by unfold argsOk;kernel_rfl
theorem set_len:typeLookup (.type "set") "__len__"=pure (eH (.builtin "set.__len__")):=by rw[DH,CA];kernel_rfl
theorem sub_set:isSubtype (.type "set") (.type "set")=pure eJ:=by rw[EL];kernel_rfl
end SF
open PyProof.Rows
theorem r4:∀(l:eL α) (i:eO) (h:i<l.length),(l[i]::l.eraseIdx i).Perm l
 |x::r,0,_=>EM _
 |x::r,i+1,h=>by
  let h':i<r.length:=by simpa using h
  exact(List.Perm.swap x r[i] (r.eraseIdx i)).trans ((r4 r i h').cons x)
theorem uj(next:eO->eO):∀(a k:eO) (left:eL α) (out:fF α),left.length=a->(Hz next a k left out).toList.Perm (out.toList++left)
 |0,k,left,out,h=>by
  let e:left=[]:=Cp h;subst e;simp[Hz]
 |a+1,k,left,out,h=>by
  let b:next k % left.length<left.length:=Nat.mod_lt _ (by lia)
  unfold Hz;rw[Ag b];dsimp only;refine(uj next a (k+1) _ _ (by rw[Ff b];lia)).trans ?_;rw[HD,A5];refine Gp _ ?_;rw[CB];exact r4 _ _ b
theorem ze(next:eO->eO)(xs:fF α):(pickOrder next xs).toList.Perm xs.toList:=by
 let:=uj next xs.size 0 xs.toList [].toArray (by simp)
 simpa [pickOrder] using this
section
theorem a4o(hn:n≠0)(h:∀i d,i<n->Q i {s with drawn:=d}):JD (JE P w) A (choose a n) Q E s:=by
 intro Γ p b;unfold choose;rw[Sem.wp_choose];exact#[hn,h _ _ (Nat.mod_lt _ (Nat.pos_of_ne_zero hn))]
variable{P:JQ}{w:JV}{A:Jf}{E:JC->JG->Prop} in
theorem qi{α:Type}:∀(n:eO) (xs:eL α) (s:JG) (Q:eL α->JG->Prop),xs.length=n->(∀ys d,ys.Perm xs->Q ys {s with drawn:=d})->JD (JE P w) A (drawOrder n xs) Q E s
 |0,xs,s,Q,hl,h=>by
  let e:xs=[]:=Cp hl;subst e;exact Al (h [] s.drawn (EM _))
 |n+1,[],s,Q,hl,h=>by simp at hl
 |n+1,x::r,s,Q,hl,h=>by
  unfold drawOrder;refine Ac (a4o (by rw[hl];exact Nat.succ_ne_zero n) λi d hi=>?_);rw[Ag hi];dsimp only;refine Ac (qi n _ _ _ (by rw[Ff hi];lia) λys d' hp=>?_);refine Al (h _ d' ?_);exact(hp.cons _).trans (r4 _ _ hi)
end
theorem za:∀l:eL α,(AU l.length).filterMap (λi=>l[i]?)=l
 |[]=>rfl
 |x::r=>by
  rw[Aw,List.range_succ_eq_map,BN];simp only[List.getElem?_cons_zero];rw[DN];exact fE (x :: ·) (za r)
def zt(first:JC)(i:eO)(S:JA)(n ep:eO):Obj:={cls:=.type "set_iterator",dict:=eI,data:=.fields [first,.int i 0,.ref S,.int n 0,.int ep 0].toArray,slots := [].toArray}
inductive Ord(w:JV)(S:JA)(es:fF (eN×JC))(ep:eO)(t:SetTable)(h:JP):JC->eO->eL JC->Prop
 |text (i:eO):w.params.followText "set-order"=eJ->Ord w S es ep t h (.int 0 0) i ((pickOrder (w.params.setOrder S ep) es).toList.map (·.2))
 |drawn (i:eO)(T:JA)(ps:eL eO):w.params.followText "set-order"=eK->IsTup h T (ps.map λ(p:eO)=>Value.int p 0).toArray->(∀p∈ps,p<es.size)->Ord w S es ep t h (.ref T) i (ps.filterMap λp=>(es[p]?).map (·.2))
 |none (k i:eO):w.params.followText "set-order"=eK->es.size=0->Ord w S es ep t h (.int k 0) i []
 |one0 (e:eN×JC):w.params.followText "set-order"=eK->es = [e].toArray->Ord w S es ep t h (.int 0 0) 0 [e.2]
 |one1 (e:eN×JC)(j:eO):w.params.followText "set-order"=eK->es = [e].toArray->t.place = [j].toArray->Ord w S es ep t h (.int (j+1:eO) 0) 1 [e.2]
def ab3(P:JQ)(w:JV)(S I T0:JA)(es:fF (eN×JC))(ep:eO)(t:SetTable)(ord:eL JC)(i:eO)(h:JP):Prop :=
 ∃first o,h.get? I=eH (zt first i S es.size ep)/\h.get? S=eH o/\o.data=.set es ep t/\Ord w S es ep t h first i ord/\∀T,first=.ref T->T=T0
theorem afd(j:eO):EN [j].toArray (j+1)=1:=by
 simp[EN,HF]
theorem ae3(j:eO):EN [j].toArray 0=0:=by
 simp[EN,HF]
theorem u5(h:Q (w.params.followText "set-order") s):JD (JE P w) A setsByText Q E s:=by
 unfold setsByText;exact Ac (FA (Al h))
theorem vz{k:eO}(p:s.heap.get? S=eH o)(hd:o.data=.set es ep t)(g:t.fits es.size=eJ)(b:t.led = !w.params.followText "set-order")(od:Ord w S es ep t s.heap (.int (k:eN) 0) i d)(h:∀m:eO,(∀v,d[i]?=eH v->Ord w S es ep t s.heap (.int (m:eN) 0) (i+1) d)->Q ((d[i]?).map λv=>(v,m)) s):JD (JE P w) A (setNext S k i ep) Q E s:=by
 unfold setNext;refine Ac (Di p hd g ?_);dsimp only;refine Ac (u5 ?_);generalize hk:(k:eN)=q at od;generalize hfst:Value.int q 0=first at od
 cases od with
 |text i ht =>
  cases hfst;obtain rfl:k=0:=by lia
  rw[ht];simp only[if_true,bne_self_eq_false,B4,if_false];unfold setWalk;refine Ac ?_;refine Ac (Di p hd g ?_);dsimp only;refine Ac (u5 ?_);rw[ht];simp only[if_true];refine Ac (FA (Al ?_));refine Al ?_;let:=h 0 λv _=>Ord.text (i+1) ht;rw[Ar,B9] at this;rw[Option.map_map] at this;exact this
 |drawn=>cases hfst
 |none m i ht h0 =>
  cases hfst;rw[ht];let r:es = [].toArray:=E4 h0;subst r;let hl:t.led=eJ:=by rw[b,ht];rfl
  rw[eP Az];split;rename_i c;let a:(!t.plain && decide (([].toArray:fF (eN×JC)).size>1))=eJ:=c;simp at a
  refine Ac (show JD (JE P w) A (if(!t.led && !([].toArray:fF (eN×JC)).isEmpty)=eJ then unsupported "set:maker-not-led" else pure ()) _ _ _ from ?_);rw[hl];refine Al (Al ?_);let:=h k λv e=>by simp at e
  simpa using this
 |one0 e ht he =>
  cases hfst;obtain rfl:k=0:=by lia
  rw[ht];subst he;let hl:t.led=eJ:=by rw[b,ht];rfl
  let f:t.place.size=1:=by
   simp only[SetTable.fits,Br,beq_iff_eq] at g;exact g.1
  obtain⟨j,n⟩:∃j,t.place = [j].toArray:=by
   generalize t.place=pl at f;obtain⟨l⟩:=pl;let(j,rfl):=FY.mp f;exact#[j,eY]
  rw[eP Az];split;rename_i c;let a:(!t.plain && decide (([e].toArray:fF (eN×JC)).size>1))=eJ:=c;simp at a;refine Ac (show JD (JE P w) A (if(!t.led && !([e].toArray:fF (eN×JC)).isEmpty)=eJ then unsupported "set:maker-not-led" else pure ()) _ _ _ from ?_);rw[hl];refine Al (Al ?_);rw[n,ae3];exact h (j+1) λv _=>Ord.one1 e j ht rfl n
 |one1 e j ht he hp =>
  cases hfst;obtain rfl:k=j+1:=by lia
  rw[ht];subst he;let hl:t.led=eJ:=by rw[b,ht];rfl
  rw[eP Az];split;rename_i c;let a:(!t.plain && decide (([e].toArray:fF (eN×JC)).size>1))=eJ:=c;simp at a;refine Ac (show JD (JE P w) A (if(!t.led && !([e].toArray:fF (eN×JC)).isEmpty)=eJ then unsupported "set:maker-not-led" else pure ()) _ _ _ from ?_);rw[hl];refine Al (Al ?_);rw[hp,afd];exact h 0 λv e=>by simp at e
theorem Ord.keep(od:Ord w S es ep t h first i a)(k:∀T o,first=.ref T->h.get? T=eH o->h'.get? T=eH o):Ord w S es ep t h' first i a:=by
 cases od with
 |text i ht=>exact .text i ht
 |drawn i T ps ht hT hp =>
  let(o,e,c):=hT;exact .drawn i T ps ht #[o,k T o rfl e,c] hp
 |none kk i ht h0=>exact .none kk i ht h0
 |one0 e ht he=>exact .one0 e ht he
 |one1 e j ht he hp=>exact .one1 e j ht he hp
theorem Ord.kind(od:Ord w S es ep t h first i a):
 (∃k:eO,first=.int (k:eN) 0)\/∃(T:JA) (ps:eL eO),first=.ref T/\w.params.followText "set-order"=eK/\IsTup h T (ps.map λ(p:eO)=>Value.int p 0).toArray/\(∀p∈ps,p<es.size)/\a=ps.filterMap λp=>(es[p]?).map (·.2):=by
 cases od with|text i ht=>exact .inl #[0,eY]|drawn i T ps ht hT hp=>exact .inr #[T,ps,eY,ht,hT,hp,eY]|none k i ht h0=>exact .inl #[k,eY]|one0 e ht he=>exact .inl #[0,eY]|one1 e j ht he hp=>exact .inl #[j+1,eY]
theorem Ord.step(od:Ord w S es ep t h (.ref T) i a):Ord w S es ep t h (.ref T) (i+1) a:=by
 cases od with|drawn i T ps ht hT hp=>exact .drawn (i+1) T ps ht hT hp
theorem a0n{es:fF (eN×JC)}:∀{ps:eL eO},(∀p∈ps,p<es.size)->∀(i:eO),(ps.filterMap λp=>(es[p]?).map (·.2))[i]?=(ps[i]?).bind λp=>(es[p]?).map (·.2)
 |[],_,i=>by simp
 |p::r,hp,i=>by
  let h1:p<es.size:=hp p (by simp);let e:es[p]?=eH es[p]:=by simp[h1]
  rw[BN,e];cases i with|zero=>simp[e]|succ i=>simpa using a0n (λq a=>hp q (Ah _ a)) i
theorem a75(hh:A.handled=eI)(Y:eL JA)(hI:I∈Y)(hS:S∈Y)(H:S≠I)(R:t.fits es.size=eJ)(G:t.led = !w.params.followText "set-order")(hT:T0∈Y)(aa:T0≠I):
 Walks P w A I Y [I] c.length (λi v=>c[i]?=eH v) (ab3 P w S I T0 es ep t c) where
 sub:=λb n=>by rw[Ae.mp n];exact hI
 frame:=λi h h' st X=>by
  let(first,o,h1,h2,h3,F,M):=st;exact#[first,o,X I hI _ h1,X S hS _ h2,h3,F.keep (λT o e q=>X T (by rw[M T e];exact hT) o q),M]
 item:=λi s Q E hi st N=>by
  let(first,o,h1,h2,h3,F,M):=st;let ty:s.TypeIs (.ref I) "set_iterator" := #[_,h1,eY]
  unfold JW;refine Ac (CU (Bp (name:=BJ "__next__") ty SF.slot_next (Bl SF.slot_next ty SF.entry_next ?_ (SF.args_next _))));show JD _ _ (fieldsOf (.ref I)>>=_) _ _ s;refine Ac (EO h1 rfl ?_);show JD _ _ (setEntries S>>=_) _ _ s;refine Ac (EI h2 h3 R ?_);simp only[bne_self_eq_false,B4,if_false];let hv:c[i]?=eH c[i]:=Ag hi;rcases F.kind with⟨k,rfl⟩|⟨T,ps,rfl,ht,J,u,l⟩
  . show JD _ _ (setNext S (CW (k:eN)) (CW (i:eN)) (CW (ep:eN))>>=_) _ _ s;simp only[AW];refine Ac (vz h2 h3 R G F λk' W=>?_);rw[hv];show JD _ _ (setField (.ref I) 0 (Jc k')>>=_) _ _ s;refine Ac (Bf h1 (by simp) λha y g=>?_);refine Ac (Bf y (by simp) λn B f=>?_);refine Al #[_,eY,Al (N _ n s.toks hv #[.int (k':eN) 0,o,B,?_,h3,(W _ hv).keep (λT o e=>by cases e),(λT e=>by cases e)] λb o j e=>?_)];rw[f.2 S H,g.2 S H];exact h2;let:b≠I:=λz=>j (by simp[z]);rw[f.2 b this,g.2 b this];exact e
  let U:T≠I:=by rw[M T rfl];exact aa
  let D:=a0n u i;rw[<- l,hv] at D;cases d:ps[i]? with
  |none=>rw[d] at D;cases D
  |some p =>
   rw[d] at D;let hp:p<es.size:=u p (Aq d);let C:es[p]?=eH es[p]:=by simp[hp]
   let r:eH c[i]=(es[p]?).map (·.2):=D;rw[C] at r;let O:c[i]=es[p].2:=Am r;show JD _ _ (seqItems? (.ref T)>>=_) _ _ s;let(oT,Z,cT,nT,dT):=J;refine Ac (BY Z dT ?_);dsimp only;let L:((ps.map λ(p:eO)=>Value.int p 0).toArray)[CW (i:eN)]?=eH (.int (p:eN) 0):=by
    rw[AW,Dk,Ar,d];rfl
   rw[L];show JD _ _ (setNextDrawn S (CW (p:eN)) (CW (ep:eN))>>=_) _ _ s;simp only[AW];unfold setNextDrawn;refine Ac (Ac (Di h2 h3 R ?_));simp only[bne_self_eq_false,B4,if_false];rw[C];refine Al ?_;refine Ac (Bf h1 (by simp) λn B f=>?_);refine Al #[_,eY,Al (N _ n s.toks (by rw[hv,O];rfl) #[.ref T,o,B,?_,h3,F.step.keep (λT' o e q=>?_),M] λb o j e=>?_)];rw[f.2 S H];exact h2;cases e;rw[f.2 T U];exact q;let:b≠I:=λz=>j (by simp[z]);rw[f.2 b this];exact e
 done:=λs Q E st N=>by
  let(first,o,h1,h2,h3,F,M):=st;let ty:s.TypeIs (.ref I) "set_iterator" := #[_,h1,eY]
  let hv:c[c.length]?=eI:=BO (Ao _);let stop:∀h':JP,(∀b o,b≠I->s.heap.get? b=eH o->h'.get? b=eH o)->JD (JE P w) A.in1 (do raiseNew (<- newExc (.type "StopIteration") []):Sem Fin) (λ_ _=>False)
   (λx s'=>JD (JE P w) A (do let b<-isInstance x (.type "StopIteration");if b=eJ then pure Option.none else throw x) Q E s') {s with heap:=h'}:=by
   intro h' X;refine Ac ?_;simp only[newExc,newTuple];refine Ac (AX ?_ (by size_fits));refine Ac (m:=firstArgMember _ _) (FX (a:=Value.none) (by first|rfl|(simp only[firstArgMember];rfl)) ?_);refine AX ?_ (by size_fits);simp only[raiseNew];refine Ac (wpAny_handled ?_);rw[show A.in1.handled=eI from hh];refine Ac (Al (wpAny_throw ?_));refine Ac (Dt (T := "StopIteration") (b:=eJ) #[_,Ax _ rfl,eY] ER ?_);exact Al (N _ _ λb o n e=>Aj _ (Aj _ (X b o (λz=>n (by simp[z])) e)))
  unfold JW;refine Ac (CU (Bp (name:=BJ "__next__") ty SF.slot_next (Bl SF.slot_next ty SF.entry_next ?_ (SF.args_next _))));show JD _ _ (fieldsOf (.ref I)>>=_) _ _ s;refine Ac (EO h1 rfl ?_);show JD _ _ (setEntries S>>=_) _ _ s;refine Ac (EI h2 h3 R ?_);simp only[bne_self_eq_false,B4,if_false];rcases F.kind with⟨k,rfl⟩|⟨T,ps,rfl,ht,J,u,l⟩
  . show JD _ _ (setNext S (CW (k:eN)) (CW (c.length:eN)) (CW (ep:eN))>>=_) _ _ s;simp only[AW];refine Ac (vz h2 h3 R G F λk' W=>?_);rw[hv];show JD _ _ (setField (.ref I) 2 .none>>=_) _ _ s;refine Ac (Bf h1 (by simp) λha y g=>?_);refine B8 (stop ha λb o n e=>by rw[g.2 b n];exact e) (λ_ _ z=>z.elim) λx s' z=>?_;exact z
  let d:ps[c.length]?=eI:=by
   let D:=a0n u c.length;rw[<- l,hv] at D;cases d:ps[c.length]? with
   |none=>rfl
   |some p =>
    rw[d] at D;let hp:p<es.size:=u p (Aq d);let C:es[p]?=eH es[p]:=by simp[hp]
    let r:(eI:eM JC)=(es[p]?).map (·.2):=D;rw[C] at r;cases r
  show JD _ _ (seqItems? (.ref T)>>=_) _ _ s;let(oT,Z,cT,nT,dT):=J;refine Ac (BY Z dT ?_);dsimp only;let L:((ps.map λ(p:eO)=>Value.int p 0).toArray)[CW (c.length:eN)]?=eI:=by
   rw[AW,Dk,Ar,d];rfl
  rw[L];show JD _ _ (setField (.ref I) 0 (Jc 0)>>=_) _ _ s;refine Ac (Bf h1 (by simp) λha y g=>?_);refine Ac (Bf y (by simp) λn B f=>?_);refine B8 (stop n λb o j e=>by rw[f.2 b j,g.2 b j];exact e) (λ_ _ z=>z.elim) λx s' z=>?_;exact z
 self:=λi s Q E st N=>by
  let(first,o,h1,h2,h3,F,M):=st;let ty:s.TypeIs (.ref I) "set_iterator" := #[_,h1,eY]
  refine Fn ty SF.slot_self (Bl SF.slot_self ty SF.entry_self ?_ (SF.args_self _));show JD _ _ (ret (.ref I)) _ _ s;exact Al #[_,eY,"set_iterator",_,ty,SF.slot_next.lookup,N]
theorem a1v(hS:SSet P w s.heap S R)(h:∀(h':JP) (d':Drawn) (I:JA) (U:eL JA) (a:eL JC) (St:eO->JP->Prop),(∀b o,s.heap.get? b=eH o->h'.get? b=eH o)->s.heap.objs.size<=I->I∈U->(∀b∈U,b<h'.objs.size/\(b=S\/s.heap.objs.size<=b))->
 (∀J:Jf,J.handled=eI->Walks P w J I U [I] a.length (λi v=>a[i]?=eH v) St)->St 0 h'->(∃ys,StrsAre a ys/\ys.Perm R)->Q (.ref I) {s with heap:=h',drawn:=d'}):
 JD (JE P w) A (pyIter (.ref S)) Q E s:=by
 let(o,es,ep,t,k,L,hd,ac,j,ae,Z,z,C,O):=hS;let ty:s.TypeIs (.ref S) "set" := #[o,k,L.1]
 let n:S<s.heap.objs.size:=A1 k;let f:∀l:eL (eN×JC),(∀e∈l,e∈es.toList)->StrsAre (l.map (·.2)) (l.map λe=>ml e.2):=by
  intro l;induction l with
  |nil=>intro _;exact .nil
  |cons e r ih =>
   intro hm;let(u,hu):=yi ac (hm e (by simp));let:=StrsAre.cons (ml e.2) u (ih λx W=>hm x (Ah _ W));rw[<- hu] at this;exact this
 refine Fn ty Gq (Bl Gq ty SF.entry_set_iter ?_ (PySem.F.args_set_iter_1 _));show JD _ _ (FC S>>=_) _ _ s;unfold FC;refine Ac (Ac (EI k hd z (Al ?_)));unfold setDrawn;refine Ac (Ac (Di k hd z ?_));dsimp only;refine Ac (u5 (Al ?_));let make:∀(first:JC) (m:JA) (a:eL JC) (h1:JP) (H:Drawn),(∀b ob,s.heap.get? b=eH ob->h1.get? b=eH ob)->s.heap.objs.size<=h1.objs.size->(∀T,first=.ref T->T=m)->m<h1.objs.size->(m=S\/s.heap.objs.size<=m)->Ord w S es ep t h1 first 0 a->(∃ys,StrsAre a ys/\ys.Perm R)->
  Q (.ref h1.objs.size) {s with heap:=h1.push (zt first 0 S es.size ep),drawn:=H}:=by
  intro first m a h1 H hk hsz hT D aa od g
  let M:S≠h1.objs.size:=AA (AD n hsz);let ab:(h1.push (zt first 0 S es.size ep)).objs.size=h1.objs.size+1:=B1 ..;refine h _ H h1.objs.size [h1.objs.size,S,m] a (ab3 P w S h1.objs.size m es ep t a) (λb ob e=>Aj _ (hk b ob e)) hsz (by simp) (λb Z=>?_) (λJ hA=>?_) #[first,o,Ax _ rfl,Aj _ (hk S o k),hd,od.keep (λT ob _ e=>Aj _ e),hT] g
  . rw[ab];let X:b=h1.objs.size\/b=S\/b=m:=by simpa using Z
    rcases X with rfl|rfl|rfl;exact#[B7 _,.inr hsz];exact#[Co (AD n hsz),.inl rfl];exact#[Co D,aa]
  exact a75 hA _ (by simp) (by simp) M z C (by simp) (AA D)
 let c:∀(a:eL JC),Ord w S es ep t s.heap (.int 0 0) 0 a->(∃ys,StrsAre a ys/\ys.Perm R)->Q (.ref s.heap.objs.size) {s with heap:=s.heap.push (zt (.int 0 0) 0 S es.size ep)}:=λa od g =>
  make (.int 0 0) S a s.heap s.drawn (λ_ _ e=>e) (Ao _) (λT e=>by cases e) n (.inl rfl) od g
 cases hbt:w.params.followText "set-order" with
 |true =>
  simp only[Bool.not_true,Iy,B4,if_false];refine Ac (Al (Ac (Fo k hd z ?_)));refine Ac (AX (Al #[_,eY,"set_iterator",_,#[_,Ax _ rfl,eY],SF.slot_next.lookup,?_]));refine c _ (.text 0 hbt) #[_,f _ (λe q=>(ze _ es).mem_iff.mp q),?_];rw[<- j];exact(ze _ es).map _
 |false =>
  show JD _ _ (if(!false && (!t.plain && decide (es.size>1)))=eJ then _ else _) _ _ s;by_cases h2:es.size>1
  . let Y:t.plain=eK:=O (by lia);rw[eQ (by simp[Y,h2])];refine Ac (qi es.size (AU es.size) s _ (by simp) λps d y=>?_);let G:ps.length=es.size:=by rw[y.length_eq,Bu]
    refine Ac (AX ?_ ?_)
    . refine(Ac (Fo (s:={s with heap:=s.heap.push _,drawn:=d}) (Aj _ k) hd z ?_));refine Ac (AX (Al #[_,eY,"set_iterator",_,#[_,Ax _ rfl,eY],SF.slot_next.lookup,?_]));let N:∀p∈ps,p<es.size:=λp hp=>Ba.mp (y.mem_iff.mp hp);refine make (.ref s.heap.objs.size) s.heap.objs.size (ps.filterMap λp=>(es[p]?).map (·.2)) (s.heap.push _) d (λb ob e=>Aj _ e) (by rw[B1];exact Ef _) (λT e=>by cases e;rfl) (by rw[B1];exact B7 _) (.inr (Ao _))
       (.drawn 0 _ ps hbt #[_,Ax _ rfl,eY,_,eY] N) ?_
      let e1:(ps.filterMap λp=>(es[p]?).map (·.2))=(ps.filterMap λp=>es[p]?).map (·.2):=by rw[List.map_filterMap]
      let B:(ps.filterMap λp=>es[p]?).Perm es.toList:=by
       let:=y.filterMap (λp=>es[p]?);let e2:=za es.toList;simp only[B9,AG] at e2;rw[e2] at this;exact this
      refine#[_,by rw[e1];exact f _ (λe q=>B.mem_iff.mp q),?_];rw[<- j];exact B.map _
    let hz:ps.length<=JB:=by rw[G];exact Fm Z
    show(ps.map _).toArray.size<=JB;rw[A3,Ad];exact hz
  rw[eP (by simp[h2])];refine Ac (Al (Ac (Fo k hd z ?_)));refine Ac (AX (Al #[_,eY,"set_iterator",_,#[_,Ax _ rfl,eY],SF.slot_next.lookup,?_]));by_cases h1:es.size=0;refine c [] (.none 0 0 hbt h1) #[[],.nil,?_];rw[<- j,E4 h1];exact EM _
  obtain⟨e,q⟩:∃e,es = [e].toArray:=by
   obtain⟨l⟩:=es;let hl:l.length=1:=by
    let a1:¬ l.length>1:=h2;let a2:¬ l.length=0:=h1
    lia
   let(e,rfl):=FY.mp hl;exact#[e,eY]
  refine c [e.2] (.one0 e hbt q) #[[ml e.2],f [e] (λx W=>by rw[q];exact W),?_];rw[<- j,q];exact EM _
theorem a1k(hh:A.handled=eI)(hS:SSet P w s.heap S O)(hl:O.length<=JB)(h:∀(h':JP) (d':Drawn) (tk:eO) (c:eL JC) (ys:eU),(∀b o,s.heap.get? b=eH o->h'.get? b=eH o)->s.heap.objs.size<=h'.objs.size->StrsAre c ys->ys.Perm O->Q c {s with heap:=h',drawn:=d',toks:=tk}):
 JD (JE P w) A (collect (.ref S)) Q E s:=by
 let(o,es,ep,t,U,B,hd,aa):=id hS;let L:S<s.heap.objs.size:=A1 U;unfold collect;refine Ac (wpAny_runValue (Cm entry_proto_collect' ?_));rw[BW PySem.F.plain_proto_collect _];show JD _ A.in1 (newList []>>=λl=>again (.builtin "list.__iadd__" #[[l,.ref S],[]])) _ _ s;refine Ac (AX ?_);refine Al #[CT FL _,Cm entry_list_iadd' ?_];rw[BW FL _];generalize hH:s.heap.push {cls:=.type "list",data:=.seq ([]:eL JC).toArray}=H;let m:H.objs.size=s.heap.objs.size+1:=by rw[<- hH,B1]
 let old:∀b ob,s.heap.get? b=eH ob->H.get? b=eH ob:=λb ob e=>by rw[<- hH];exact Aj _ e
 let X:SSet P w H S O:=hS.at λo e=>old S o e;let hD:H.get? s.heap.objs.size=eH {cls:=.type "list",data:=.seq [].toArray}:=by rw[<- hH];exact Ax _ rfl
 show JD _ A.in1 (EY (.ref s.heap.objs.size) (.ref S) (.ref s.heap.objs.size)) _ _ {s with heap:=H};unfold EY;refine Ac (E2 (T := "set") (v:=.ref S) (show Hc {s with heap:=H} (.ref S) "set" from#[o,old S o U,B.1]) ?_);let h1:FD (.ref s.heap.objs.size) (.ref S)=eK:=by simp[FD,BP L]
 let h2:(Value.type "set"==Value.type "list")=eK:=by decide
 let h3:(Value.type "set"==Value.type "tuple")=eK:=by decide
 simp only[h1,h2,h3,IG,B4,if_false];refine Ac (a1v (s:={s with heap:=H}) X λh' d' I fp c St hk hI ai ah W st zq=>?_);let(ys,M,hp):=zq;let j:Hc {s with heap:=h',drawn:=d'} (.ref S) "set" := #[o,hk S o (old S o U),B.1]
 refine Ac (BI ?_);unfold Builtin.List.listLengthHint;refine Ac (E5 (T := "set") (v:=.ref S) j SF.set_len ?_)
 wp_delta
 refine Ac (Dt (T := "set") (v:=.ref S) (b:=eJ) j SF.sub_set ?_);show JD _ A.in1 (typeOf (Value.ref S)>>=_) _ _ _;refine Ac (E2 (T := "set") (v:=.ref S) j ?_);refine Al ?_;let aj:s.heap.objs.size≠I:=λz=>by
  let:H.objs.size<=I:=hI;rw[m] at this
  lia
 let J:s.heap.objs.size∉fp:=λn=>by
  rcases(ah _ n).2 with z|z;exact eR z (BP L)
  let:H.objs.size<=s.heap.objs.size:=z;rw[m] at this
  lia
 let N:c.length=O.length:=by
  let a1:c.length=ys.length:=M.length;rw[a1,hp.length_eq]
 let key:∀(h1:JP) (k:eO),St 0 h1->(∀b ob,b≠s.heap.objs.size->h'.get? b=eH ob->h1.get? b=eH ob)->h1.get? s.heap.objs.size=eH {cls:=.type "list",data:=.seq [].toArray k}->
  Ja (JE P w) A (.builtin "list.extend.loop" #[[.ref s.heap.objs.size,.ref I,.ref s.heap.objs.size],[]])
   (λr s'=>r=.ok (.ret (.ref s.heap.objs.size))/\∃a d,s'.heap.get? s.heap.objs.size=eH {cls:=.type "list",data:=.seq a d}/\Q a.toList s') {s with heap:=h1,drawn:=d'}:=by
  intro h1 k ag ab Y;refine codeAny_extend_loopS (W A.in1 hh).toS (by rw[N];exact hl) _ J _ c.length 0 _ [].toArray k rfl (AC _) ag Y (ItemsOf.nil _) λs' a d hm y f=>?_;exists rfl,a,d,y;let q:a.toList=c:=by
   refine HG λi=>?_;rw[B9];by_cases hi:i<a.size
   . let e:a[i]?=eH a[i]:=by simp[hi]
     rw[e,f.2 i _ e]
   let ac:c.length<=i:=by let:=f.1;lia
   rw[BO ac];simp;lia
  let Z:s'={s with heap:=s'.heap,drawn:=d',toks:=s'.toks}:=Moved.eq_with hm;rw[q,Z];refine h s'.heap d' s'.toks c ys (λb ob e=>?_) (B6 (A1 y)) M hp;let G:b≠s.heap.objs.size:=AA (A1 e);let af:b≠I:=λz=>by
   let hz:H.objs.size<=b:=by rw[z];exact hI
   rw[m] at hz;exact Bb _ (AD (Co (A1 e)) hz)
  exact hm.heap b ob (by simp[G,af]) (ab b ob G (hk b ob (old b ob e)))
 let g:h'.get? s.heap.objs.size=eH {cls:=.type "list",data:=.seq [].toArray}:=hk _ _ hD;let p:∀(h1:JP) (k:eO),St 0 h1->(∀b ob,b≠s.heap.objs.size->h'.get? b=eH ob->h1.get? b=eH ob)->h1.get? s.heap.objs.size=eH {cls:=.type "list",data:=.seq [].toArray k}->∀(R:Result->JG->Prop),
  (∀s' a d,s'.heap.get? s.heap.objs.size=eH {cls:=.type "list",data:=.seq a d}->Q a.toList s'->R (.ok (.ret (.ref s.heap.objs.size))) s')->
  Ja (JE P w) A (.builtin "list.extend.loop" #[[.ref s.heap.objs.size,.ref I,.ref s.heap.objs.size],[]]) R {s with heap:=h1,drawn:=d'}:=by
  intro h1 k a1 a2 a3 R hR;refine Dj (key h1 k a1 a2 a3) λr s' zq=>?_;let(e,a,d,C,u):=zq;subst e;exact hR s' a d C u
 let last:∀(R:Result->JG->Prop),R=R->True:=λ_ _=>trivial;refine wpAny_ite_split (λ_=>?_) (λ_=>Al #[CT Fu _,p h' 0 st (λb ob _ e=>e) g _ λs' a d C u=>?_]);refine Ac (CV ?_);refine Ac ?_;show JD _ _ (updateSeq s.heap.objs.size (·.push .none)>>=λ_=>updateSeq s.heap.objs.size (·.pop)) _ _ _;refine Ac (wpAny_updateSeq g rfl ?_);let D:=BH (DW (·.push Value.none)) g rfl;refine wpAny_updateSeq (hz:=by seq_fits) D rfl ?_;let ae:=BH (DW (·.pop)) D rfl;refine Al #[CT Fu _,p _ _ ?_ (λb ob n e=>?_) ae _ λs' a d C u=>?_];refine(W A.in1 hh).frame 0 _ _ st λb n o e=>?_;let x:b≠s.heap.objs.size:=λz=>J (z ▸ n);exact(Cb _ _ (AF x)).trans ((Cb _ _ (AF x)).trans e);exact(Cb _ _ (AF n)).trans ((Cb _ _ (AF n)).trans e);show JD _ A (load s.heap.objs.size>>=_) _ _ _;exact Ac (Ii C (Al u))
 show JD _ A (load s.heap.objs.size>>=_) _ _ _;exact Ac (Ii C (Al u))
theorem a24(x:A.handled=eI)(y:SSet P w s.heap S p)(n:p.length<64)(h:∀(h':JP) (d':Drawn) (tk:eO) (l:JA) (vs:eL JC) (zs:eU) (e:eO),(∀b o,s.heap.get? b=eH o->h'.get? b=eH o)->s.heap.objs.size<=l->h'.get? l=eH {cls:=.type "list",data:=.seq vs.toArray e}->StrsAre vs zs->zs.Perm p->sortedS zs=eJ->
 Q (.ref l) {s with heap:=h',drawn:=d',toks:=tk}):
 JD (JE P w) A (call (.builtin "sorted") [.ref S]) Q E s:=by
 refine Calls.call_function_entry kind_sorted plain_sorted entry_sorted (args_sorted1 _) ?_;unfold Builtin.«sorted»;refine Ac (m:=checkCount "sorted" 1 1 _) (Al ?_);refine Ac (a1k (A:=A.in1) (show A.in1.handled=eI from x) y (by rw[D6];lia) λh1 r k a ys j i c f=>?_);let hn:a.length<64:=by
  let:a.length=ys.length:=c.length;rw[this,f.length_eq];exact n
 refine Ac (wpAny_newList ?_ (by rw[D6];lia));let d:(h1.push (seqObj "list" a.toArray 0)).get? h1.objs.size=eH (seqObj "list" a.toArray 0):=Ax _ rfl;show JD _ _ _ _ _ {s with heap:=h1.push (seqObj "list" a.toArray 0),drawn:=r,toks:=k};refine Ac (BI (Bl slot_list_sort #[_,d,eY] entry_list_sort (list_sort_treeK strKind_oneLt d c.keysOf (λG F rest e=>keyKind_strs (by rw[<- e];exact c)) hn λg v z=>#[_,eY,?_]) (args_list_sort _)));let(zs,u,D,B):=sorted_out_str c v z;refine Al #[_,eY,?_];let(e,C):=sortedHeap_at (out:=(arrOf g).map (·.2)) d;refine h _ r k h1.objs.size ((arrOf g).map (·.2)).toList zs e (λb o q=>?_) i C u (D.trans f) B;let t:=A1 (j b o q);rw[sortedHeap_old (AA t) (by rw[B1];exact Co t)];exact Aj _ (j b o q)
def SetO(P:JQ)(w:JV)(a:JA)(ss:eU):HO:=.ext λh=>SSet P w h a ss
theorem xz:∀{xs:eU}{us:eL JC},Vals (xs.map V.str) us->StrsAre us xs
 |[],_,h=>by cases h;exact .nil
 |x::r,_,h=>by
  cases h with|cons h1 h2=>let(t,rfl):=h1;exact .cons x t (xz h2)
theorem zc:∀{us:eL JC}{xs:eU},StrsAre us xs->Vals (xs.map V.str) us
 |_,_,.nil=>.nil
 |_,_,.cons x t r=>.cons #[t,eY] (zc r)
theorem a07(l:X.calm=eJ):ja X (.type "set") (λvs H Q=>∃(a:JA) (xs:eU),vs=[.ref a]/\SqL X.K H a (xs.map V.str)/\xs.length+1<scanBound/\
 ∀p c,H p=eI->Dd xs c->Q (.ref p) (upd H p (SetO X.prog X.w p c))):=by
 intro d s σ H vs us Q I r h;let(a,xs,rfl,j,hz,q):=h;let(u,rfl,m):=r.one;cases m;let(its,t,p,_):=I.list j;let f:=xz t;let hl:its.length=xs.length:=f.length;refine zn (I.ok.hd l) p.isList (by simpa using f) (by rw[A3,hl];exact hz) λh' tk c g hd n=>?_;let fr:H s.heap.objs.size=eI:=I.hok.fresh (Ao _);refine#[.ref s.heap.objs.size,upd H s.heap.objs.size (SetO X.prog X.w s.heap.objs.size c),I.laid (t':=tk) (λb o e=>n b o (A1 e) e) (Ao _) #[g,?_,λh1 h2 h3 k=>?_],eY,q _ c fr hd];let(o,_,_,_,i,_):=g;exact#[o,i];exact SSet.at h3 k
theorem pp(m:X.calm=eJ):ja X (.builtin "sorted") (λvs H Q=>∃(a:JA) (c:eU),vs=[.ref a]/\H a=eH (SetO X.prog X.w a c)/\c.length<64/\
 ∀p zs,H p=eI->zs.Perm c->sortedS zs=eJ->Q (.ref p) (upd H p (.lst (zs.map V.str)))):=by
 intro i s σ H vs us Q I r h;let(a,c,rfl,k,hz,q):=h;let(u,rfl,n):=r.one;cases n;let x:SSet X.prog X.w s.heap a c:=(I.hok a _ k).1;refine a24 (I.ok.hd m) x hz λh' d' tk l t zs e j hl d v hp f=>?_;let fr:H l=eI:=I.hok.fresh hl;let y:zs.length<64:=by rw[hp.length_eq];exact hz
 let g:HOk X.prog X.w (upd H l (.lst (zs.map V.str))) h':=I.hok.laid (a:=l) (o:=.lst (zs.map V.str)) j hl #[by rw[Ad];exact B6 (kj (by lia)),t,e,zc v,d];let un:Un (frs X.stack) [] H (upd H l (.lst (zs.map V.str))) s.heap h':=Un.laid j hl fr;exact#[.ref l,_,I.call (g':=s.gens) (d':=d') (t':=tk) (ch:=[]) un g I.bare (λb z=>eR z (by simp)),eY,q l zs fr hp f]
def CXE(P:JQ)(w:JV)(base:JP):CXT:=λouter H s E e s' =>
 ∃(a:JA) (cls a0:JC) (H':Hp) (B:JP),e=.ref a/\s'.os=s.os/\AllBare s'.gens/\Un (frs outer) [] H H' s.heap s'.heap/\HOk P w H' s'.heap/\H' a=eI/\s.heap.get? a=eI/\
   Heap.FlyingW B outer a cls a0 s'.heap/\(∀b o,s.heap.get? b=eH o->H b=eI->b∉frs outer->B.get? b=eH o)/\(∀b u,H' b=eH u->∀o,s'.heap.get? b=eH o->B.get? b=eH o)/\
   (∀b o,s.heap.get? b=eH o->b∉frs outer->∃o',B.get? b=eH o')/\E cls eI H'
theorem ObjOk.there(x:ObjOk P w H h a o):∃ob,h.get? a=eH ob:=by
 cases o with|lst xs=>let(_,_,_,_,e):=x;exact#[_,e]|tup xs=>let(_,_,_,o,e,_):=x;exact#[_,e]|dK kvs=>let(_,_,_,_,o,_,_,e,_):=x;exact#[_,e]|dT kvs=>let(_,_,_,_,o,_,_,e,_):=x;exact#[_,e]|set S n=>let(o,_,_,_,e,_):=x;exact#[_,e]|ins C dx fs=>let(_,_,_,e,_):=x;exact#[_,e]|own y=>let(_,e):=x;exact#[_,e]|xd fs=>let(_,(_,_,_,e,_),_):=x;exact#[_,e]|rng lo hi=>let(_,_,_,e):=x;exact#[_,e]|frz ob u=>let(e,_):=x;exact#[_,e]|tbl ps=>exact#[_,(show h.get? a=eH _ from x)]|met f y=>exact#[_,(show h.get? a=eH _ from x)]|ext φ=>let(_,e,_):=x;exact e
theorem HOk.stays{B:JP}(ok:HOk P w H h)(d:∀b u,H b=eH u->∀o,h.get? b=eH o->B.get? b=eH o)(st:B.StaysIn h'):HOk P w H h':=λa o e =>
 (ok a o e).stay (λb u c q=>by
  rcases c with rfl|c;exact st b u (d b o e u q)
  exact st b u (d b _ c u q)) (λ_ q=>q) λ_ _ q=>q
theorem a2v{K:Aa}(hk:scope.kind=.function):ku (CXE P w base) (cxOf (CXE P w base) P w K mg base N d scope f r A outer s₀ H₀ E) E:=by
 intro T σ H s e s' I c;let(a,cls,Y,H',B,rfl,M,l,un,hok,R,hsz,fl,old,trk,t,hE):=c;let ab:s₀.heap.objs.size<=s.heap.objs.size:=I.sz;show JD (JE P w) (A.deeper (envOfC d scope s₀.heap.objs.size f r)) (leaving (envOfC d scope s₀.heap.objs.size f r) (.ref a)) _ _ s';refine wpAny_leaves_onW (L:=s₀.heap.objs.size) (I.ok.frames) rfl fl λh' y sm=>?_;let st:B.StaysIn h':=y.1;let C:s₀.heap.get? a=eI:=by
  cases q:s₀.heap.get? a with
  |none=>rfl
  |some o =>
   let(X,U):=I.base.there a o q (λz=>eR (show a∈([]:eL JA) from z) (by simp));rw[hsz] at U;cases U
 let nofr:∀b o,s₀.heap.get? b=eH o->b∉frs outer->b∉frs (cxOf (CXE P w base) P w K mg base N d scope f r A outer s₀ H₀ E).stack:=λb o e g z=>by
  rcases Ak.mp (I.stkSub b z) with q|q;let:b=s₀.heap.objs.size:=q;exact eR (A1 e) (by rw[this];exact Bb _);exact g q
 let h:∀b,b∉(cxOf (CXE P w base) P w K mg base N d scope f r A outer s₀ H₀ E).ex:=λb z=>eR (show b∈([]:eL JA) from z) (by simp);let v:∀b o,s₀.heap.get? b=eH o->H₀ b=eI->b∉frs outer->B.get? b=eH o:=λb o e n g=>old b o (I.base.keep b o e n g (h b)) (I.base.free b o e n (h b)) (nofr b o e g);let slots:∀b o,s₀.heap.get? b=eH o->H₀ b=eI->b∈frs outer->∃F,h'.get? b=eH {o with slots:=F}:=λb o e n g=>by
  let(F,m):=I.base.slot b o e n g (h b);let D:b∈frs (cxOf (CXE P w base) P w K mg base N d scope f r A outer s₀ H₀ E).stack:=by
   show b∈ES (·.frame) (envOfC d scope s₀.heap.objs.size f r::outer);exact Cg.mpr (by
    let(x,hx,hf):=Cg.mp g;exact#[x,Ah _ hx,hf])
  let(aa,k):=un.slot b _ m (I.base.free b o e n (h b)) D (by simp);let Q:∀vs,o.data≠.fields vs:=by
   let(_,X,i,O):=I.ok.funs.mem g;let j:s₀.heap.get? b=eH X:=i;rw[e] at j;cases j;exact O
  let(J,e3):=sm b _ k (by intro vs z;exact Q vs z);exact#[J,e3]
 refine#[a,cls,Y,H',B,eY,M.trans I.os,l,#[λb o e n g _=>st b o (v b o e n g),λb o e n g _=>?_,λb o e n _=>un.free b _ (Classical.choose_spec (I.base.there b o e (h b))) (I.base.free b o e n (h b)) (by simp),λb o e _=>?_,λb xs e=>un.tups b xs (I.base.tups b xs e),λb o xs e=>un.frzs b o xs (I.base.frzs b o xs e),λb ps e=>?_],
  HOk.stays hok trk st,R,C,y,v,λb u e o Z=>?_,λb o e g=>?_,hE]
 . exact slots b o e n g
 . let(p,m):=I.base.there b o e (h b);by_cases g:b∈frs outer;let(F,k):=slots b o e (I.ok.frf b g) g;exact#[_,k];let(S,k):=t b p m (nofr b o e g);exact#[S,st b S k]
 . let(m1,m):=I.base.tbls b ps e;let(m2,k):=un.tbls b _ m;exact#[m1++m2,by rw[k,Hr]]
 . let h1:=(hok b u e).lt;let(p,G):=(hok b u e).there;let h3:=trk b u e p G;let h4:=st b p h3;let i:h'.get? b=eH o:=Z;rw[h4] at i;cases i;exact h3
 let(p,m):=I.base.there b o e (h b);exact t b p m (nofr b o e g)
def a0b(X:Cx)(E:XK):Prop:=∀(pins:eL (JA×Obj)) (σ:St) (H:Hp) (s:JG) (h':JP) (e:JA) (cls:JC) (vs:eL JC),Inv X pins σ H s->Heap.MadeExcOf s.heap h' e cls vs->E cls eI H->X.xe (.ref e) {s with heap:=h'}
theorem a9c(e:(Cz h as).get? b=eH o):h.get? b=eH o/\b∉as:=by
 refine#[Hq _ e,λhm=>?_];rw[Gx as hm] at e;cases e
theorem a7l{K:Aa}:a0b (cxOf (CXE P w base) P w K mg base N a scope f d A outer s₀ H₀ E) E:=by
 intro T σ H s h' e cls vs I mk Z;let j:s.heap.get? e=eI:=mk.new;let stack:(cxOf (CXE P w base) P w K mg base N a scope f d A outer s₀ H₀ E).stack=envOfC a scope s₀.heap.objs.size f d::outer:=rfl;let B:∀env∈(envOfC a scope s₀.heap.objs.size f d::outer),∀b,env.frame=eH b->b∈frs (envOfC a scope s₀.heap.objs.size f d::outer):=λenv he b c=>Cg.mpr #[env,he,c];let G:∀b∈frs (envOfC a scope s₀.heap.objs.size f d::outer),H b=eI:=λb c=>I.stkFree b c;let g:∀b,b∉(cxOf (CXE P w base) P w K mg base N a scope f d A outer s₀ H₀ E).ex:=λb z=>eR (show b∈([]:eL JA) from z) (by simp);let x:s₀.heap.get? e=eI:=by
  cases q:s₀.heap.get? e with
  |none=>rfl
  |some o =>
   let(v,r):=I.base.there e o q (g e);rw[j] at r;cases r
 let M:H e=eI:=by
  cases q:H e with
  |none=>rfl
  |some u =>
   let(v,r):=(I.hok e u q).there;rw[j] at r;cases r
 show JD (JE P w) (A.deeper (envOfC a scope s₀.heap.objs.size f d)) (leaving (envOfC a scope s₀.heap.objs.size f d) (.ref e)) _ _ {s with heap:=h'};refine wpAny_leaves_madeW (s:={s with heap:=h'}) (base:=Cz s.heap (frs (envOfC a scope s₀.heap.objs.size f d::outer))) (h:=s.heap) (L:=s₀.heap.objs.size) I.ok.frames rfl (λb o q=>(a9c q).1)
  (PySem.W.funFrames_hide I.stack B) mk λh2 t fl tup tn sm=>?_
 let st:(Cz s.heap (frs (envOfC a scope s₀.heap.objs.size f d::outer))).StaysIn h2:=fl.1;let nofr:∀b o,s₀.heap.get? b=eH o->b∉frs outer->b∉frs (envOfC a scope s₀.heap.objs.size f d::outer):=λb o q c z=>by
  rcases Ak.mp (I.stkSub b z) with p|p;let:b=s₀.heap.objs.size:=p;exact eR (A1 q) (by rw[this];exact Bb _);exact c p
 let trk:∀b u,H b=eH u->∀o,s.heap.get? b=eH o->(Cz s.heap (frs (envOfC a scope s₀.heap.objs.size f d::outer))).get? b=eH o:=λb u q o C=>DA _ C λz=>by
  rw[G b z] at q;cases q
 let m:∀b o,s₀.heap.get? b=eH o->H₀ b=eI->b∉frs outer->(Cz s.heap (frs (envOfC a scope s₀.heap.objs.size f d::outer))).get? b=eH o:=λb o q n c =>
  DA _ (I.base.keep b o q n c (g b)) (nofr b o q c)
 let slots:∀b o,s₀.heap.get? b=eH o->H₀ b=eI->b∈frs outer->∃Q,h2.get? b=eH {o with slots:=Q}:=λb o q n c=>by
  let(Q,J):=I.base.slot b o q n c (g b);let R:∀vs,o.data≠.fields vs:=by
   let(_,v,i,F):=I.ok.funs.mem c;let k:s₀.heap.get? b=eH v:=i;rw[q] at k;cases k;exact F
  let(D,X):=sm b _ (mk.keeps b _ J) (by intro vs z;exact R vs z);exact#[D,X]
 let l:∀b o,s₀.heap.get? b=eH o->b∉frs outer->∃v,(Cz s.heap (frs (envOfC a scope s₀.heap.objs.size f d::outer))).get? b=eH v:=λb o q c=>by
  let(y,J):=I.base.there b o q (g b);exact#[y,DA _ J (nofr b o q c)]
 refine#[e,cls,.ref t,H,_,eY,I.os,I.bare,#[λb o q n c _=>st b o (m b o q n c),λb o q n c _=>slots b o q n c,λb o q n _=>I.base.free b o q n (g b),λb o q _=>?_,I.base.tups,I.base.frzs,I.base.tbls],
  HOk.stays I.hok trk st,M,x,fl,m,λb u q o C=>?_,l,Z]
 . by_cases c:b∈frs outer;let(Q,O):=slots b o q (I.ok.frf b c) c;exact#[_,O];let(U,O):=l b o q c;exact#[U,st b U O]
 let(y,S):=(I.hok b u q).there;let h3:=trk b u q y S;let Y:=st b y h3;let i:h2.get? b=eH o:=C;rw[Y] at i;cases i;exact h3
theorem acq{K:Aa}(X:K.In h)(q:Dy K C e b=eJ):
 ∃bm N nm q bs hdct sn sub ab col dd k0 k1 k2 k3 k5 mN,h.get? C=eH (excClassObj nm q C N bs bm hdct sn sub ab col dd k0 k1 k2 k3 k5 b)/\h.Ns N mN/\mN "__init__"=eI/\OwnTail h e bm:=by
 unfold Dy at q;split at q
 . rename_i dd o g k;split at q
   . rename_i p bm k0 k1 k2 k3 n k5 hm f;simp only[Br,beq_iff_eq,Bool.not_eq_true'] at q;let(((((rfl,rfl),a),j),hok),c):=q;let(nm,bs,mro,ns,i,hd,sn,sub,ab,col,m):=o;dsimp only at hm a hok c;subst hm a;let d:g = [k0,k1,k2,k3,eH (.builtin n),k5].toArray:=by
      obtain⟨l⟩:=g;simp only at f;rw[f]
     subst d;exact#[bm,ns,nm,i,bs,hd,sn,sub,ab,col,dd,k0,k1,k2,k3,k5,_,X _ _ k,.of_isNs (PySem.W.isNs_of_in X hok),PySem.W.nsMap_none_of_in X hok c,PySem.W.tail_of_in X j]
   cases q
 cases q
def a5a(C:JA)(E:XK)(t:TA):TS:=λ_ σ H=>t σ H λvs H1=>vs.length<=JB/\E (.ref C) eI H1
theorem aay(u:a0b X E)(o:X.calm=eJ)(FB:ExcBaseFacts B c f g)(p:Gl X x)(hm:X.mg x=eH (.ref C))(n:Dy X.K C g c=eJ)(F:PA X (e::es) t)(l:autoParam ((x==("__debug__":eZ))=eK) a1_)(m:autoParam (JF (e::es) X.env=(eK,eval e X.env)::JF es X.env) a4_)(j:autoParam ((JO a (JF es X.env)).any (·.1)=eK) a4_):
 PS X (.Raise (eH (.Call (.Name x L) (e::es) [] a)) eI pos) (a5a C E t):=by
 intro b s σ H D I h;let(w,N,nm,q,bs,hdct,sn,sub,ab,col,dd,k0,k1,k2,k3,k5,mN,i,v,k,T):=acq I.ok.mod.kin n;refine wpAny_Raise_call_subT (C:=C) (nm:=nm) (q:=q) (N:=N) (bs:=bs) (bm:=w) (hdct:=hdct) (sn:=sn) (sub:=sub) (ab:=ab) (col:=col) (dd:=dd) (k0:=k0) (k1:=k1) (k2:=k2) (k3:=k3) (k5:=k5)
  FB (mN:=mN) (T.hasType FB.hasBase) (I.ok.hd o) (by rw[m];show(eK || (JO a (JF es X.env)).any (·.1))=eK;rw[j];rfl) k (ue I p hm #[eY,?_] l)
 let key:=F a b s σ H _ I h;rw[m] at key |-;refine Ck (B8 key (λus A h2=>?_) λ_ _ y=>y);let(vs,G,d,r,hz,z):=h2;exact#[eY,by rw[<- r.length];exact hz,d.bk _ _ i,v.keeps d.bk,T.keeps d.bk,λh' J mk=>u b σ G A h' J _ _ d mk z]
theorem Inv.track(I:Inv Y d σ H s)(hn:H a=eI)(g:Y.s₀.heap.get? a=eI)(h:a≠Y.env.locals)(t:∀x c,Y.env.cells.lookup x=eH c->c≠a)(hp:∀p∈Y.pn++d,p.1≠a)(k:ObjOk Y.prog Y.w (upd H a o) s.heap a o):Inv Y d σ (upd H a o) s:=by
 let keep:∀b u,H b=eH u->upd H a o b=eH u:=λb u e=>by rw[fg (gb e hn)];exact e
 refine#[I.ok,I.os,I.bare,#[I.base.keep,I.base.slot,λb ob e n l=>?_,I.base.there,λb xs e=>keep b _ (I.base.tups b xs e),λb ob xs e=>keep b _ (I.base.frzs b ob xs e),λb ps e=>?_],I.loc,I.cell,?_,λx c e=>?_,λp q=>?_,λb u e=>?_,I.len]
 . let:b≠a:=λz=>by rw[z,g] at e;cases e
   rw[fg this];exact I.base.free b ob e n l
 . let(m,j):=I.base.tbls b ps e;exact#[m,keep b _ j]
 . rw[fg (AF h)];exact I.free
 . rw[fg (t x c e)];exact I.freeC x c e
 . let(r,i,p3):=I.pin p q;exact#[r,by rw[fg (hp p q)];exact i,p3]
 by_cases f:b=a;subst f;rw[fb] at e;cases e;exact k;rw[fg f] at e;exact(I.hok b u e).stay (λ_ _ _ q=>q) (λc q=>keep c _ q) λc xs q=>keep c _ q
open PySem.Builtin PySem.Builtin.ObjectAttr PySem.Builtin.Getset_descriptor
mutual
inductive Dp(K:Aa)(H:Hp):V->PyData->Prop
 |non:Dp K H .non .none
 |bl (b:fJ):Dp K H (.bl b) (.bool b)
 |int (i:eN):Dp K H (.int i) (.int i)
 |str (x:eZ):Dp K H (.str x) (.str x)
 |lst{a:JA}{xs:eL V}{ds:eL PyData}:SqL K H a xs->DpAll K H xs ds->Dp K H (.ref a) (.list ds)
 |tup{a:JA}{xs:eL V}{ds:eL PyData}:SqT K H a xs->DpAll K H xs ds->Dp K H (.ref a) (.tuple ds)
inductive DpAll(K:Aa)(H:Hp):eL V->eL PyData->Prop
 |nil:DpAll K H [] []
 |cons{v:V}{vs:eL V}{d:PyData}{ds:eL PyData}:Dp K H v d->DpAll K H vs ds->DpAll K H (v::vs) (d::ds)
end
mutual
theorem Dp.reads(I:Inv X pins σ H s):∀{v:V}{d:PyData},Dp X.K H v d->∀{u:JC},RelV v u->∃as,Reads s.heap u d as
 |_,_,.non,_,r=>by cases r;exact#[_,.none]
 |_,_,.bl b,_,r=>by cases r;exact#[_,.bool b]
 |_,_,.int i,_,r=>by let(t,rfl):=r;exact#[_,.int i t]
 |_,_,.str x,_,r=>by let(t,rfl):=r;exact#[_,.str x t]
 |_,_,.lst hs ha,_,r=>by
  cases r;let(its,rv,(o,n,e,hc,_,hd),_):=I.list hs;let(as,ra):=DpAll.reads I ha rv;exact#[_,.list e hc hd (by simpa using ra)]
 |_,_,.tup hs ha,_,r=>by
  cases r;let(its,rv,(o,e,hc,n,hd),_):=I.tuple hs;let(as,ra):=DpAll.reads I ha rv;exact#[_,.tuple e hc hd (by simpa using ra)]
theorem DpAll.reads(I:Inv X pins σ H s):∀{vs:eL V}{ds:eL PyData},DpAll X.K H vs ds->∀{us:eL JC},Vals vs us->∃as,ReadsAll s.heap us ds as
 |_,_,.nil,_,r=>by cases r;exact#[_,.nil]
 |_,_,.cons h1 h2,_,r=>by
  cases r with
  |cons r1 r2 =>
   let(as,q1):=Dp.reads I h1 r1;let(bs,q2):=DpAll.reads I h2 r2;exact#[_,.cons q1 q2]
end
def EqOk(d:PyData):Prop:=d.canLay0=eJ/\d.depth<=16
inductive rEqDS(K:Aa)(x y:V)(H:Hp)(Q:VK):Prop
 |mk (dx dy:PyData)(h0:Dp K H x dx)(h1:Dp K H y dy)(h2:EqOk dx)(h3:EqOk dy)(h4:Q (.bl (E6 dx dy)) H):rEqDS K x y H Q
def rEqD(K:Aa):R2:=λx y H Q=>rEqDS K x y H Q
inductive rNeDS(K:Aa)(x y:V)(H:Hp)(Q:VK):Prop
 |mk (dx dy:PyData)(h0:Dp K H x dx)(h1:Dp K H y dy)(h2:EqOk dx)(h3:EqOk dy)(h4:Q (.bl (!PyData.eqv dx dy)) H):rNeDS K x y H Q
def rNeD(K:Aa):R2:=λx y H Q=>rNeDS K x y H Q
theorem aeh(k:X.A.units+32<cLine):OpR X (JM .Eq) (rEqD X.K):=by
 intro a s σ H x y v u Q I d i h;let(j,g,h1,h2,b,c,q):=h;let(as,f):=Dp.reads I h1 d;let(bs,e):=Dp.reads I h2 i;exact SeqAt.compareEq_reads f e b.1 c.1 (by let:=b.2;let:=Iq j.depth g.depth;lia) #[.bl _,H,I,eY,q]
theorem ae5(k:X.A.units+32<cLine):OpR X (JM .NotEq) (rNeD X.K):=by
 intro a s σ H x y v u Q I d i h;let(j,g,h1,h2,b,c,q):=h;let(as,f):=Dp.reads I h1 d;let(bs,e):=Dp.reads I h2 i;exact SeqAt.compareNe_reads f e b.1 c.1 (by let:=b.2;let:=Iq j.depth g.depth;lia) #[.bl _,H,I,eY,q]
def u9(r:eU):eL PyData:=r.map .str
def dRow(r:eU):PyData:=.tuple (u9 r)
def RowAt(K:Aa)(H:Hp)(a:JA)(r:eU):Prop:=SqT K H a (r.map V.str)
inductive RowsAtS(K:Aa)(H:Hp)(a:JA)(rs:eS):Prop
 |mk (as:eL JA)(h0:H a=eH (.lst (as.map V.ref)))(h1:JI (λb r=>RowAt K H b r) as rs):RowsAtS K H a rs
def RowsAt(K:Aa)(H:Hp)(a:JA)(rs:eS):Prop:=RowsAtS K H a rs
inductive TellAtS(K:Aa)(H:Hp)(a:JA)(rss:eL (eS)):Prop
 |mk (as:eL JA)(h0:SqT K H a (as.map V.ref))(h1:JI (λb rs=>RowsAt K H b rs) as rss):TellAtS K H a rss
def TellAt(K:Aa)(H:Hp)(a:JA)(rss:eL (eS)):Prop:=TellAtS K H a rss
theorem Same.seqT{K:Aa}(e:Same H H')(h:SqT K H a xs):SqT K H' a xs:=by
 rcases h with (h|⟨o,h⟩)|h
 . exact .inl (.inl (e _ _ h))
 . exact .inl (.inr #[o,e _ _ h])
 exact .inr h
theorem RowAt.same{K:Aa}(h:RowAt K H a r)(e:Same H H'):RowAt K H' a r:=e.seqT h
theorem RowsAt.same{K:Aa}(h:RowsAt K H a rs)(e:Same H H'):RowsAt K H' a rs:=by
 let(as,h1,h2):=h;exact#[as,e _ _ h1,Paired.mapP h2 λb r z=>z.same e]
theorem TellAt.same{K:Aa}(h:TellAt K H a c)(e:Same H H'):TellAt K H' a c:=by
 let(as,h1,h2):=h;exact#[as,e.seqT h1,Paired.mapP h2 λb r z=>z.same e]
theorem a2y{K:Aa}:∀r:eU,DpAll K H (r.map V.str) (u9 r)
 |[]=>.nil
 |x::r=>.cons (.str x) (a2y r)
theorem RowAt.dp{K:Aa}(h:RowAt K H a r):Dp K H (.ref a) (dRow r):=.tup h (a2y r)
theorem a3d{K:Aa}:∀{as:eL JA}{rs:eS},JI (λb r=>RowAt K H b r) as rs->DpAll K H (as.map V.ref) (rs.map dRow)
 |_,_,.nil=>.nil
 |_,_,.cons h1 h2=>.cons h1.dp (a3d h2)
theorem RowsAt.dp{K:Aa}(h:RowsAt K H a rs):Dp K H (.ref a) (.list (rs.map dRow)):=by
 let(as,h1,h2):=h;exact .lst (SqL.of h1) (a3d h2)
theorem fi(h:H p=eI)(o:HO):Same H (upd H p o):=λb u q=>by rw[fg (gb q h)];exact q
open PySem.Builtin.Str
def cutS(z:eZ)(lo hi:eM eN):eZ:=#[((z.cps.toList.drop (HT.sIx z.length 0 lo)).take (HT.sIx z.length z.length hi-HT.sIx z.length 0 lo)).toArray]
theorem wt(n d:eO)(hd:d<=n)(v:eM eN)(hv:∀i,v=eH i -> -(n:eN)<=i\/0<=i\/True):HT.sIx n d v<=n:=by
 cases v with
 |none=>exact hd
 |some i =>
  show(if i<0 then(i+(n:eN)).toNat else min i.toNat n)<=n;split<;>lia
theorem a1m(n d:eO)(hd:d<=n)(v:eM eN):(match v with|none=>(d:eN)|some i=>max 0 (min (if i<0 then i+(n:eN) else i) (n:eN)))=((HT.sIx n d v:eO):eN):=by
 cases v with
 |none=>rfl
 |some i =>
  show max 0 (min (if i<0 then i+(n:eN) else i) (n:eN))=((if i<0 then(i+(n:eN)).toNat else min i.toNat n:eO):eN)
  split<;>lia
theorem a3l(lo hi:eM eN)(n:eO):strSliceIndices lo hi 1 n=(AU (HT.sIx n n hi-HT.sIx n 0 lo)).map (λk=>HT.sIx n 0 lo+k):=by
 let e:=a1m n 0 (AC _) lo;let c:=a1m n n (Ao _) hi;let key:strSliceIndices lo hi 1 n=sliceRange ((HT.sIx n 0 lo:eO):eN) ((HT.sIx n n hi:eO):eN) 1:=by
  rw[<- e,<- c];cases lo<;>cases hi<;>rfl
 rw[key];generalize HT.sIx n 0 lo=a;generalize HT.sIx n n hi=b;unfold sliceRange;simp only[show((1:eN)>0)=True from by simp,if_true];by_cases h:(a:eN)<b
 . rw[eQ h];let f:(((b:eN)-a+1-1) / 1).toNat=b-a:=by lia
   rw[f];refine DC λk _=>?_
   lia
 rw[eP h];let d:b-a=0:=by lia
 rw[d];rfl
theorem a5m(z:eZ)(lo hi:eM eN):((strSliceIndices lo hi 1 z.length).filterMap (z.cps[·]?))=(z.cps.toList.drop (HT.sIx z.length 0 lo)).take (HT.sIx z.length z.length hi-HT.sIx z.length 0 lo):=by
 rw[a3l];let hz:z.length=z.cps.toList.length:=by simp[Cu]
 let c:HT.sIx z.length z.length hi<=z.length:=wt _ _ (Ao _) hi λ_ _=>.inr (.inr trivial);generalize HT.sIx z.length 0 lo=a at*;generalize HT.sIx z.length z.length hi=b at*;by_cases h:a<=b;let:=StrLaws.picks z.cps.toList (b-a) a (by lia);simpa using this
 let e:b-a=0:=by lia
 rw[e];simp
def rSlS:V->eM eN->eM eN->Hp->VK->Prop:=λx lo hi H Q=>∃z,x=.str z/\z.length<=JB/\Q (.str (cutS z lo hi)) H
theorem a74:SlR X rSlS:=by
 intro e s σ H x v j p lo hi f Q I m y pl g h;let(z,rfl,hz,q):=h;let(t,rfl):=m;exists "str",_,PySem.F.slot_str_getitem.lookup,G8 s z t;obtain⟨l,hl,G⟩:∃l:eM (eN×Tok),partValue l=j/\l.map (·.1)=lo:=by
  cases pl with|none=>exact#[eI,eY,eY]|int i t=>exact#[eH (i,t),eY,eY]
 obtain⟨u,r,E⟩:∃u:eM (eN×Tok),partValue u=p/\u.map (·.1)=hi:=by
  cases g with|none=>exact#[eI,eY,eY]|int i t=>exact#[eH (i,t),eY,eY]
 let B:s.heap.IsSlice f l u eI:=by
  let(o,k,n,hd):=y;exact#[o,k,n,by rw[hd,hl,r];rfl]
 refine getItem_meets (G8 s z t) (by decide) PySem.F.slot_str_getitem PySem.F.entry_str_getitem (PySem.F.args_str_getitem_2 _ _) (meets_str_getitem_slice z t f l u eI (by decide)) #[B,?_];let a:slicePicked z l u eI=strSliceIndices lo hi 1 z.length:=by
  unfold slicePicked;rw[G,E];rfl
 let b:((slicePicked z l u eI).filterMap (z.cps[·]?))=(z.cps.toList.drop (HT.sIx z.length 0 lo)).take (HT.sIx z.length z.length hi-HT.sIx z.length 0 lo):=by rw[a];exact a5m z lo hi
 unfold sliceMade;split
 . rename_i w;let c:(slicePicked z l u eI).length=z.length:=by simpa using w
   let eq:cutS z lo hi=z:=by
    let C:((z.cps.toList.drop (HT.sIx z.length 0 lo)).take (HT.sIx z.length z.length hi-HT.sIx z.length 0 lo))=z.cps.toList:=by
     rw[a,a3l,Ad,Bu] at c;let J:HT.sIx z.length z.length hi<=z.length:=wt _ _ (Ao _) hi λ_ _=>.inr (.inr trivial);rcases Nat.eq_zero_or_pos z.length with d|d
     . let:z.cps.toList=[]:=by
        let:z.cps.toList.length=0:=by simpa [Cu] using d
        exact Cp this
       rw[this];simp
     let D:HT.sIx z.length 0 lo=0:=by lia
     let A:HT.sIx z.length z.length hi=z.length:=by lia
     rw[D,A,DX,E7];exact BC (by simp[Cu])
    unfold cutS;rw[C]
   rw[eq] at q;exact#[.str z,H,I,#[t,eY],q]
 show(Made.str _).post _ s;rw[b];refine#[?_,.str (cutS z lo hi),H,I.tok _,#[_,eY],q];refine AB ?_ hz;show((z.cps.toList.drop (HT.sIx z.length 0 lo)).take (HT.sIx z.length z.length hi-HT.sIx z.length 0 lo)).toArray.size<=z.cps.size;rw[A3,AL,Bq,AG]
 lia
def Glob(mg:eZ->eM JC)(x:eZ)(v:V):Prop:=∃u,mg x=eH u/\RelV v u
theorem pe_g(h:Glob X.mg x v)(a:autoParam (Gl X x) a4_)(hd:autoParam ((x==("__debug__":eZ))=eK) a1_):PE X (.Name x pos) (tC v):=by
 let(u,hm,r):=h;exact adh a hm r hd
theorem a0j(a:∀y∈c.names,y.2≠.free)(b:∀y∈c.names,y.2≠.cell)(y:eZ)(h:(JU c env).names.lookup y=eH .cell\/(JU c env).names.lookup y=eH .free):False:=by
 let key:∀k,(JU c env).names.lookup y=eH k->∃z∈c.names,z.2=k\/z.2=.free:=λk e=>by
  let hm:=BE e;let(z,hz,d):=Au.mp hm;exists z,hz;let(n,kk):=z;dsimp only at d;split at d;rename_i f;simp only[Br,beq_iff_eq] at f;exact .inr f.1.1;exact .inl (fE Prod.snd d)
 rcases h with h|h;obtain⟨z,hz,q|q⟩:=key _ h;exact b z hz q;exact a z hz q
 obtain⟨z,hz,q|q⟩:=key _ h;exact a z hz q;exact a z hz q
theorem a0p(hi:PI X (.Name x u) f t)(m:∀s H C ex,PTs (blk X [x] s H g [] C ex) l v)(q:∀s H C ex,PE (blk X [x] s H g [] C ex) k w)(r:autoParam (X.calm=eJ) a4_)(i:autoParam (g.kind=.function) a4_)(p:autoParam (g.names.lookup x=eH .local) a1_)(a:autoParam (∀y∈g.names,y.2≠.free) a1_)(b:autoParam (∀y∈g.names,y.2≠.cell) a1_)(d:autoParam (∀y∈g.names,y.2=.local->g.names.lookup y.1=eH .local) a1_)(o:autoParam (∀x,JL f X.env x=pure x) a3_):
 PE X (.ListComp k [#[.Name x u,f,l,0]] g pos) (pi [] t v w) :=
 xl [x] r hi m q i rfl (by simp) p (PySem.closureFor_none a) b d (λy c e=>by simp at e) (λy h=>(a0j a b y h).elim) (λj n=>by simp at n) o
structure JSeq(J:It)(I0:Hp->Prop)(xs:eL V):Prop where
 go:∀i H,I0 H->i<xs.length->J.go i H
 stop:∀i H,I0 H->xs.length<=i->J.stop i H
 yld:∀i H x H',i<xs.length->I0 H->J.yld i H x H'->H'=H/\xs[i]?=eH x
 stay:∀H H',I0 H->Same H H'->I0 H'
theorem a06{K:Aa}:JSeq (Itt K a) (λH=>SqT K H a xs) xs where
 go:=λi H h hi=>#[xs,xs[i],h,by simp[hi]]
 stop:=λi H h hi=>#[xs,h,hi]
 yld:=λi H x H' _ h y=>#[y.1,y.2 xs h]
 stay:=λH H' h e=>e.seqT h
theorem jo{K:Aa}:JSeq (Itl K a) (λH=>SqL K H a xs) xs where
 go:=λi H h hi=>#[xs,xs[i],h,by simp[hi]]
 stop:=λi H h hi=>#[xs,h,hi]
 yld:=λi H x H' _ h y=>#[y.1,y.2 xs h]
 stay:=λH H' h e=>e.seq h
def nums(lo:eN)(n:eO):eL V:=(AU n).map λi=>V.int (lo+(i:eO))
theorem vk{lo:eN}:JSeq (Itr lo n) (λ_=>True) (nums lo n) where
 go:=λi H _ hi=>by simpa [nums,Itr] using hi
 stop:=λi H _ hi=>by simpa [nums,Itr] using hi
 yld:=λi H x H' hi _ y=>by
  exists y.1;let a:i<n:=by simpa [nums] using hi
  let e:x=.int (lo+i):=y.2;unfold nums;rw[Ar,Hi a,e];rfl
 stay:=λ_ _ _ _=>trivial
theorem Paired.snocP:∀{a:eL α}{l₂:eL β},JI F a l₂->F x y->JI F (a++[x]) (l₂++[y])
 |_,_,.nil,h=>.cons h .nil
 |_,_,.cons h₁ t,h=>.cons h₁ (Paired.snocP t h)
def vy(D:JA)(H H':Hp):Prop:=∀b u,H b=eH u->b≠D->H' b=eH u
theorem Same.x(e:Same H H')(D:JA):vy D H H':=λb u q _=>e b u q
theorem a9x(xs:eL V)(p:V->fJ)(R:JA->V->V->Hp->Prop)(k:JSeq J M xs)(F:M f)(hz:xs.length<=JB)(l:∀D x y H H',R D x y H->vy D H H'->R D x y H')(G:∀x∈xs,∀c,Same f c->∀h:fJ->Hp->Prop,(∀g,Same c g->h (p x) g)->L (eH x::j8 σ B) c h)(O:∀D,∀x∈xs,p x=eJ->∀c,Same f c->c D≠eI->∀h:VK,(∀y g,Same c g->R D x y g->h y g)->S (eH x::j8 σ B) c h)(P:∀D H' ys,f D=eI->Same f H'->H' D=eH (.lst ys)->JI (λx y=>R D x y H') (xs.filter p) ys->Q (.ref D) H'):
 lr J f σ B L S Q:=by
 intro D E;let put:∀H ys,Same f H->Same f (upd H D (.lst ys)):=λH ys e b u q=>by rw[fg (gb q E)];exact e b u q
 exists λi m H=>i<=xs.length/\m=xs.length-i/\Same f H/\∃ys,H D=eH (.lst ys)/\JI (λx y=>R D x y H) ((xs.take i).filter p) ys,#[xs.length,AC _,eY,put _ _ (Same.refl _),[],fb,by simpa using Paired.nil];rintro i m H ⟨hi,rfl,e,ys,j,hp⟩;let n:=k.stay _ _ F e;by_cases a:i<xs.length
 . refine .inr #[k.go i H n a,λx H' r=>?_];let(rfl,w):=k.yld i H x H' a n r;let hm:x∈xs:=Aq w;let v:xs.take (i+1)=xs.take i++[x]:=by rw[AJ,w];rfl
   let C:ys.length<=i:=by
    let h1:=A4 hp;let h2:=B2 p (xs.take i);rw[AL] at h2
    lia
   refine G x hm _ e _ λg d=>?_;cases hpx:p x with
   |false =>
    rw[eP Az];exists xs.length-(i+1),by lia,a,eY,e.trans d,ys,d _ _ j;rw[v,DQ];simp only[Cs,hpx,E8,A0,B4,if_false];exact Paired.mapP hp λx y z=>l _ _ _ _ _ z (d.x D)
   |true =>
    rw[eQ rfl];refine O D x hm hpx _ (e.trans d) (by rw[d _ _ j];simp) _ λy t o I=>?_;let A:vy D t (upd t D (.lst (ys++[y]))):=λb u q N=>by rw[fg N];exact q
    exists ys,o _ _ (d _ _ j),by lia,xs.length-(i+1),by lia,a,eY,put _ _ (e.trans (d.trans o)),ys++[y],fb;rw[v,DQ];simp only[Cs,hpx,E8,if_true];exact Paired.snocP (Paired.mapP hp λx y z=>l _ _ _ _ _ (l _ _ _ _ _ z ((d.trans o).x D)) A) (l _ _ _ _ _ I A)
 let s:i=xs.length:=by lia
 subst s;refine .inl #[k.stop _ H n (Ao _),?_];rw[AN] at hp;exact P D H ys E e j hp
theorem mr:∀{l:eL α}{a:eL β},JI (λx y=>y=f x) l a->a=l.map f
 |_,_,.nil=>rfl
 |_,_,.cons h t=>by rw[h,mr t];rfl
theorem qx(xs:eL V)(p:V->fJ)(f:V->V)(k:JSeq J u xs)(i:u d)(hz:xs.length<=JB)(n:∀x∈xs,∀a,Same d a->∀b:fJ->Hp->Prop,(∀c,Same a c->b (p x) c)->r (eH x::j8 σ g) a b)(m:∀x∈xs,p x=eJ->∀a,Same d a->∀b:VK,(∀c,Same a c->b (f x) c)->t (eH x::j8 σ g) a b)(s:∀D H',d D=eI->Same d H'->H' D=eH (.lst ((xs.filter p).map f))->Q (.ref D) H'):
 lr J d σ g r t Q :=
 a9x xs p (λ_ x y _=>y=f x) k i hz (λ_ _ _ _ _ h _=>h) n (λ_ x l hp a e _ b q=>m x l hp a e b λc v=>q _ c v rfl) λD H' ys o e j hp=>s D H' o e (by rw[j,mr hp])
theorem qh(xs:eL V)(a:eL V)(f:JSeq J w xs)(t:w d)(hz:xs.length<=JB)(hl:a.length=xs.length)(A:∀(i:eO) (x y:V),xs[i]?=eH x->a[i]?=eH y->∀h,Same d h->∀r:VK,(∀l,Same h l->r y l)->C (eH x::j8 σ z) h r)(B:∀D H',d D=eI->Same d H'->H' D=eH (.lst a)->Q (.ref D) H'):lr J d σ z tYes C Q:=by
 intro D s;let put:∀H ys,Same d H->Same d (upd H D (.lst ys)):=λH ys e b u q=>by rw[fg (gb q s)];exact e b u q
 exists λi m H=>i<=xs.length/\m=xs.length-i/\Same d H/\H D=eH (.lst (a.take i)),#[xs.length,AC _,eY,put _ _ (Same.refl _),by rw[fb,BX]];rintro i m H ⟨hi,rfl,e,n⟩;let g:=f.stay _ _ t e;by_cases c:i<xs.length;refine .inr #[f.go i H g c,λx H' j=>?_];let(rfl,v):=f.yld i H x H' c g j;let o:a[i]?=eH a[i]:=Ag (by lia);unfold tYes;dsimp only;rw[eQ rfl];refine A i x a[i] v o _ e _ λl p=>?_;exists a.take i,p _ _ n,by rw[AL];lia,xs.length-(i+1),by lia,c,eY,put _ _ (e.trans p);rw[fb,AJ,o];rfl
 let k:i=xs.length:=by lia
 subst k;refine .inl #[f.stop _ H g (Ao _),B D H s e ?_];rw[n,BC (by lia)]
theorem uw(xs:eL V)(rs:eL α)(p:α->fJ)(j:JSeq J o xs)(g:o d)(hz:xs.length<=1000)(hl:rs.length=xs.length)(l:∀(i:eO) (x:V) (r:α),xs[i]?=eH x->rs[i]?=eH r->∀b,Same d b->∀c:VK,(∀f,Same b f->c (.bl (p r)) f)->n (eH x::j8 σ h) b c)(m:∀D H',d D=eI->Same d H'->H' D=eH (.lst ((rs.map p).map V.bl))->Q (.ref D) H'):lr J d σ h tYes n Q :=
 qh xs ((rs.map p).map V.bl) j g (B6 (kj hz)) (by simp[hl]) (λi x y k a b e c q=>by
  rw[Ar,Ar] at a;cases hr:rs[i]? with
  |none=>rw[hr] at a;cases a
  |some r =>
   rw[hr] at a;let:y=.bl (p r):=(Am a).symm;subst this;exact l i x r k hr b e c q) m
theorem aek{j}(a:PA X es t):PA X (.Constant (.str x) j pos::es) (ju (tC (.str x)) t):=jz a7j a rfl
theorem afc{j}(a:PA X es t):PA X (.Constant (.int i) j pos::es) (ju (tC (.int i)) t):=jz sw a rfl
theorem afl{j}(a:PA X es t):PA X (.Constant (.bool b) j pos::es) (ju (tC (.bl b)) t):=jz abh a rfl
theorem afy(h:PE X (.Name x pos) b)(a:PA X es t):PA X (.Name x pos::es) (ju b t):=jz h a rfl
theorem afz{x1}(h:PA X a c)(b:PA X es t):PA X (.Tuple a x1 pos::es) (ju (tTup c) t):=jz (a70 h) b rfl
theorem afg(h:PA X a c)(b:PA X es t):PA X (.List a pos::es) (ju (tLst c) t):=jz (a16 h) b rfl
theorem aea(h:PE X (.Subscript a b pos) d)(c:PA X es t):PA X (.Subscript a b pos::es) (ju d t):=jz h c rfl
theorem ad1(h:PE X (.Call f as a pos) c)(b:PA X es t):PA X (.Call f as a pos::es) (ju c t):=jz h b rfl
theorem aey(h:PE X (.BinOp a op b pos) d)(c:PA X es t):PA X (.BinOp a op b pos::es) (ju d t):=jz h c rfl
structure QE(X:Cx)(e:Expr)(t:TE):Prop where
 run:PE X e t
structure QT(X:Cx)(e:Expr)(t:TT):Prop where
 run:PT X e t
structure QW(X:Cx)(e:Expr)(t:TT):Prop where
 run:PW X e t
structure QA(X:Cx)(es:eL Expr)(t:TA):Prop where
 run:PA X es t
structure QS(X:Cx)(st:JJ)(t:TS):Prop where
 run:PS X st t
structure QB(X:Cx)(st:eL JJ)(t:TS):Prop where
 run:PSs X st t
structure QI(X:Cx)(tg iter:Expr)(wi:TI):Prop where
 run:PI X tg iter wi
structure QG(X:Cx)(target:Expr)(t:TG):Prop where
 run:PG X target t
structure QO(X:Cx)(e:eM Expr)(t:TO):Prop where
 run:PO X e t
structure QTs(X:Cx)(ifs:eL Expr)(t:TT):Prop where
 run:PTs X ifs t
theorem QW.qt(h:QW X e t):QT X e t:=#[PW.pt h.run]
section
set_option relaxedAutoImplicit true
theorem ge:QB X [] abd:=#[act ]
theorem fe{st:JJ}{rest:eL JJ}(h1:QS X st t)(h2:QB X rest u):QB X (st::rest) (let a:=u;tSeq t a):=#[v7 h1.run h2.run]
theorem ff{st:JJ}(h1:QS X st t):QB X [st] t:=#[xg h1.run]
theorem gg(f:QT X c h)(g:QB X a t)(d:QB X b u):QS X (.If c a b pos) (let t':=t;let e:=u;tIfS h t' e):=#[ag0 f.run g.run d.run]
theorem ox(h:X.N.Nodup)(hi:X.N[i]?=eH x)(b:Loc X.env.scope x)(c:QE X e g)(d:autoParam (JX e (eH (.Name x a)) pos.line X.env=pure eK) a4_)(f:autoParam (X.fn x=eJ\/X.env.scope.names.lookup x=eH .local) a0_):     QS X (.Assign [.Name x a] e pos) (tAsg g (iq i)):=#[a79 h hi b c.run d f]
theorem fm(a:QE X e te):QS X (.Return (eH e) pos) (tRet te):=#[a87 a.run]
theorem il(a:QE X e te)(b:autoParam (JX e eI pos.line X.env=pure eK) a4_):QS X (.Expr e pos) (ac3 te):=#[a3z a.run b]
theorem ip(hp:PassesOwn (JE X.prog X.w) X.A X.env X.xe)(e:X.calm=eJ)(hi:QI X tg a f)(b:QG X tg g)(c:QB X body h)(d:autoParam (∀x,JL a X.env x=pure x) a3_):QS X (.For tg a body [] pos) (let t':=h;tFor f g t'):=#[a7r hp e hi.run b.run c.run d]
theorem a5q(d:QE X e h)(b:QG X a g)(c:autoParam (swapsWithSole [a] e pos.line X.env=pure eK) a4_)(f:autoParam (swappedStores [a] e X.env=pure eI) a4_)(h1:autoParam ((JK [a] X.env).map (·.2)=[assign a X.env]) a4_):QS X (.Assign [a] e pos) (tAsg h g):=#[ae4 d.run b.run c f h1]
theorem a9y(f:a0b X E)(g:X.calm=eJ)(FB:ExcBaseFacts B newId initId bmB)(c:Gl X x)(hm:X.mg x=eH (.ref C))(i:Dy X.K C bmB newId=eJ)(h:QA X (e::es) t)(b:autoParam ((x==("__debug__":eZ))=eK) a1_)(d:autoParam (JF (e::es) X.env=(eK,eval e X.env)::JF es X.env) a4_)(a:autoParam ((JO cpos (JF es X.env)).any (·.1)=eK) a4_):     QS X (.Raise (eH (.Call (.Name x np) (e::es) [] cpos)) eI pos) (a5a C E t):=#[aay f g FB c hm i h.run b d a]
theorem nh(hp:PassesOwn (JE X.prog X.w) X.A X.env X.xe)(b:QT X c e)(a:QB X body d):QS X (.While c body [] pos) (let t':=d;vw e t'):=#[a97 hp b.run a.run]
theorem a9l:QS X (.Break pos) a6g:=#[a8k ]
theorem a1x:QS X (.Continue pos) abz:=#[a22 ]
theorem fc{i j pos}:QE X (.Constant (.int i) j pos) (tC (.int i)):=#[sw ]
theorem mh{b j pos}:QE X (.Constant (.bool b) j pos) (tC (.bl b)):=#[abh ]
theorem gj{j pos}:QE X (.Constant .none j pos) (tC .non):=#[ael ]
theorem gt{x j pos}:QE X (.Constant (.str x) j pos) (tC (.str x)):=#[a7j ]
theorem qv(i:eO)(b:autoParam (X.N[i]?=eH x) a4_)(hv:autoParam (Vis X.env.scope x) a5_)(hd:autoParam ((x==("__debug__":eZ))=eK) a1_)(a:autoParam ((x==("__classdict__":eZ))=eK) a1_):QE X (.Name x pos) (tVar i):=#[pv i b hv hd a]
theorem gc(e:OpR X (Je op) r)(f:QE X a ta)(d:QE X b tb):QE X (.BinOp a op b pos) (let c:=tb;tOp r ta c):=#[abj e f.run d.run]
theorem io(e:OpR X (JM op) r)(f:QE X a ta)(d:QE X b tb)(hm:JN op b=eK):QE X (.Compare a [op] [b] pos) (let c:=tb;tOp r ta c):=#[adb e f.run d.run hm]
theorem fz(e:OpR X (JM op) r)(f:QE X a ta)(d:QE X b tb)(hm:JN op b=eK):QT X (.Compare a [op] [b] pos) (let c:=tb;aba (tOp r ta c)):=#[a2z e f.run d.run hm]
theorem i6(h:QE X e t)(a:autoParam (∀whole,isTrue e X.env whole=(do let v<-whole;standAt e.pos;holding [v] (truthy v))) a3_):QT X e (tB t):=#[aeq h.run a]
theorem jc(b:QT X a tA):QT X (.UnaryOp .Not a pos) (tNot tA):=#[aeo b.run]
theorem lb(b:QT X a tA):QW X (.BoolOp .And [a] pos) tA:=#[acs b.run]
theorem jp(b:QT X a tA):QW X (.BoolOp .Or [a] pos) tA:=#[adz b.run]
theorem ls{rest:eL Expr}(e:QT X a tA)(d:QW X (.BoolOp .And (b::rest) pos) tB'):QW X (.BoolOp .And (a::b::rest) pos) (let c:=tB';tAnd tA c):=#[aej e.run d.run]
theorem jg{rest:eL Expr}(e:QT X a tA)(d:QW X (.BoolOp .Or (b::rest) pos) tB'):QW X (.BoolOp .Or (a::b::rest) pos) (let c:=tB';tOr tA c):=#[afm e.run d.run]
theorem lm{op}(h:QE X a t):QE X (.BoolOp op [a] pos) t:=#[aeg h.run]
theorem om{rest:eL Expr}(e:QE X a ta)(d:QE X (.BoolOp .And (b::rest) pos) tb):QE X (.BoolOp .And (a::b::rest) pos) (let c:=tb;abn ta c):=#[aee e.run d.run]
theorem zr{rest:eL Expr}(e:QE X a ta)(d:QE X (.BoolOp .Or (b::rest) pos) tb):QE X (.BoolOp .Or (a::b::rest) pos) (let c:=tb;tOrV ta c):=#[ag3 e.run d.run]
theorem vr(b:QE X a ta):QE X (.UnaryOp .Not a pos) (abk ta):=#[af7 b.run]
theorem mz(f:QT X c tA)(d:QE X a ta)(e:QE X b tb):QE X (.IfExp c a b pos) (tIf tA ta tb):=#[a94 f.run d.run e.run]
theorem mj(e:IxR X r)(g:QE X a ta)(d:QE X b tb)(f:ua b):QE X (.Subscript a b pos) (let c:=tb;tOp r ta c):=#[a4a e g.run d.run f]
theorem l0{lo:eM Expr}(a:SlR X r)(c:QE X e te)(hl:QO X lo tl)(b:QO X hi th):QE X (.Subscript e (.Slice lo hi eI p2) pos) (tSl r te tl th):=#[a12 a c.run hl.run b.run]
theorem lu:QO X eI a31:=#[a35 ]
theorem ly(h:QE X e te):QO X (eH e) (aby te):=#[a2b h.run]
theorem i3{x1}(h:QA X es t):QE X (.Tuple es x1 pos) (tTup t):=#[a70 h.run]
theorem iu(h:QA X es t):QE X (.List es pos) (tLst t):=#[a16 h.run]
theorem oe(F:FnOk X.prog X.w X.K X.mg X.base CX k f fd ps sp)(j:Room k X.A)(c:Gl X x)(hm:X.mg x=eH (.ref f))(l:BV X.K (.ref f)=eJ)(d:Binds X.K fd ps ds)(hd:Vals dvs ds)(g:ku CX X E)(i:QA X (e::es) t)(b:autoParam ((x==("__debug__":eZ))=eK) a1_)(h:autoParam (JF (e::es) X.env=(eK,eval e X.env)::JF es X.env) a4_)(a:autoParam ((JO pos (JF es X.env)).any (·.1)=eK) a4_):     QE X (.Call (.Name x p) (e::es) [] pos) (zw sp dvs E t):=#[acu F j c hm l d hd g i.run b h a]
theorem gr{id:String}(f:ja X (.builtin id) r)(c:Gl X x)(hm:X.mg x=eI)(hv:bootBuiltins x=eH (.builtin id))(g:QA X (e::es) t)(hn:autoParam (x≠"__name__") a1_)(b:autoParam ((x==("__debug__":eZ))=eK) a1_)(d:autoParam (JF (e::es) X.env=(eK,eval e X.env)::JF es X.env) a4_)(a:autoParam ((JO pos (JF es X.env)).any (·.1)=eK) a4_):QE X (.Call (.Name x p) (e::es) [] pos) (tCB r t):=#[a1c f c hm hv g.run hn b d a]
theorem j6(g:ja X (.type T) r)(c:Gl X x)(hm:X.mg x=eI)(hv:bootBuiltins x=eH (.type T))(f:QA X (e::es) t)(hn:autoParam (x≠"__name__") a1_)(b:autoParam ((x==("__debug__":eZ))=eK) a1_)(d:autoParam (JF (e::es) X.env=(eK,eval e X.env)::JF es X.env) a4_)(a:autoParam ((JO pos (JF es X.env)).any (·.1)=eK) a4_):QE X (.Call (.Name x p) (e::es) [] pos) (tCB r t):=#[yq g c hm hv f.run hn b d a]
theorem a5s{id:String}(d:PlainAttrs T)(slot:Slot T name id)(c:typeOf (.builtin id)=pure (.type "method_descriptor"))(hm:MtR X id r)(e:QE X o to)(b:autoParam (JT o name X.env (eval o X.env)=eval o X.env) a4_)(a:autoParam ((apos.endLine==cpos.line)=eJ) a4_):QE X (.Call (.Attribute o name apos) [] [] cpos) (tBM0 X.K T r to):=#[aef d slot c hm e.run b a]
theorem p6(hi:QI X (.Name x r) b q)(l:∀s H C ex,QTs (blk X [x] s H c [] C ex) j t)(o:∀s H C ex,QE (blk X [x] s H c [] C ex) g u)(p:autoParam (X.calm=eJ) a4_)(d:autoParam (c.kind=.function) a4_)(n:autoParam (c.names.lookup x=eH .local) a1_)(e:autoParam (∀y∈c.names,y.2≠.free) a1_)(f:autoParam (∀y∈c.names,y.2≠.cell) a1_)(a:autoParam (∀y∈c.names,y.2=.local->c.names.lookup y.1=eH .local) a1_)(m:autoParam (∀x,JL b X.env x=pure x) a3_):     QE X (.ListComp g [#[.Name x r,b,j,0]] c pos) (pi [] q t u):=#[a0p hi.run (λz0 h i k=>(l z0 h i k).run) (λz0 h i k=>(o z0 h i k).run) p d n e f a m]
theorem i9(hl:QE X l a):QI X tg l (ab8 X.K a):=#[a2q hl.run]
theorem a0h(hl:QE X l a):QI X tg l (iTup X.K a):=#[a5j hl.run]
theorem af2(hl:QE X l a):QI X tg l (iStr a):=#[ae0 hl.run]
theorem jx(b:Gl X "range")(hm:X.mg "range"=eI)(e:QA X [a] c)(d:autoParam (JF [a] X.env=[(eK,eval a X.env)]) a4_):QI X tg (.Call (.Name "range" p) [a] [] pos) (abu c):=#[a77 b hm e.run d]
theorem xf(c:X.N.Nodup)(hi:X.N[i]?=eH x)(b:Loc X.env.scope x)(a:autoParam (X.fn x=eJ\/X.env.scope.names.lookup x=eH .local) a0_):QG X (.Name x pos) (iq i):=#[a3y c hi b a]
theorem ad:QA X [] tNil:=#[sx ]
theorem jh(c:QE X e te)(a:QA X es t)(b:autoParam (JF (e::es) X.env=(eK,eval e X.env)::JF es X.env) a4_):QA X (e::es) (let t':=t;ju te t'):=#[jz c.run a.run b]
theorem gm{j}(a:QA X es t):QA X (.Constant (.str x) j pos::es) (let t':=t;ju (tC (.str x)) t'):=#[aek a.run]
theorem lj{j}(a:QA X es t):QA X (.Constant (.int i) j pos::es) (let t':=t;ju (tC (.int i)) t'):=#[afc a.run]
theorem afu{j}(a:QA X es t):QA X (.Constant (.bool b) j pos::es) (let t':=t;ju (tC (.bl b)) t'):=#[afl a.run]
theorem fh(h:QE X (.Name x pos) te)(a:QA X es t):QA X (.Name x pos::es) (let t':=t;ju te t'):=#[afy h.run a.run]
theorem jt{x1}(h:QA X es1 t1)(a:QA X es t):QA X (.Tuple es1 x1 pos::es) (let t':=t;ju (tTup t1) t'):=#[afz h.run a.run]
theorem kf(h:QA X es1 t1)(a:QA X es t):QA X (.List es1 pos::es) (let t':=t;ju (tLst t1) t'):=#[afg h.run a.run]
theorem fx(h:QE X (.Subscript a b pos) te)(c:QA X es t):QA X (.Subscript a b pos::es) (let t':=t;ju te t'):=#[aea h.run c.run]
theorem ii(h:QE X (.Call f as b pos) te)(a:QA X es t):QA X (.Call f as b pos::es) (let t':=t;ju te t'):=#[ad1 h.run a.run]
theorem l8(h:QE X (.BinOp a op b pos) te)(c:QA X es t):QA X (.BinOp a op b pos::es) (let t':=t;ju te t'):=#[aey h.run c.run]
theorem le:QTs X [] tYes:=#[acj ]
theorem my(h:QT X c t):QTs X [c] t:=#[a2m h.run]
end
theorem afe(f:QE X o to)(hi:QE X i e)(c:PSet X t)(d:autoParam (∀v,assign (.Subscript o i pos) X.env v=(do
 let a<-holding [v] (eval o X.env);let b<-holding [v,a] (eval i X.env)
 standAt pos
 holding [v,a,b] (setItem a b v)
 release [v,a,b] [])) a3_):QG X (.Subscript o i pos) (gSub to e t):=#[aev f.run hi.run c d]
theorem Fun.okQ{K:Aa}{st:JJ}(F:Fun K x b st f fd)(S:FnScope N ps (gy st))(len:∀vs H Q E,sp vs H Q E->vs.length=ps.length)(c:∀(a:JC) (A:Jf) (outer:eL Env) (s:JG) (H:Hp) (vs:eL V) (Q:VK) (E:XK),Room k (A.deeper (envOfC b (gy st) s.heap.objs.size f a))->sp vs H Q E->
 ∃t,QB (cxOf CX0 P w K mg base N b (gy st) f a A outer s H E).nox (ks st) t/\let D:Ends:={nx:=λ_ H'=>Q .non H',rt:=Q};let σ:=start N vs;t D σ H):FnOk P w K mg base CX0 (k+1) f fd ps sp :=
 F.ok S len λa A outer s H vs Q E d h=>by
  let(t,h1,h2):=c a A outer s H vs Q E d h;exact#[t,h1.run,h2]
theorem gd(i:eO)(hN:X.N.Nodup)(he:QE X e te)(hi:autoParam (X.N[i]?=eH x) a4_)(hx:autoParam (Loc X.env.scope x) a6_)(hs:autoParam (JX e (eH (.Name x pos')) pos.line X.env=pure eK) a4_)(hf:autoParam (X.fn x=eJ\/X.env.scope.names.lookup x=eH .local) a0_):QS X (.Assign [.Name x pos'] e pos) (tAsg te (iq i)):=ox hN hi hx he hs hf
theorem j2(i:eO)(hN:X.N.Nodup)(hi:autoParam (X.N[i]?=eH x) a4_)(hx:autoParam (Loc X.env.scope x) a6_)(hf:autoParam (X.fn x=eJ\/X.env.scope.names.lookup x=eH .local) a0_):QG X (.Name x pos) (iq i):=xf hN hi hx hf
theorem fj(K:Aa)(ha:QE X a ta)(hb:QE X b tb)(hK:autoParam (X.K=K) a4_)(hs:autoParam (ua b) a7_):QE X (.Subscript a b pos) (tOp (rIxT K) ta tb):=by subst hK;exact mj mt ha hb hs
theorem i7(K:Aa)(ha:QE X a ta)(hb:QE X b tb)(hK:autoParam (X.K=K) a4_)(hs:autoParam (ua b) a7_):QE X (.Subscript a b pos) (tOp (rIxL K) ta tb):=by subst hK;exact mj xj ha hb hs
theorem qe_cl(F:FnOk X.prog X.w X.K X.mg X.base CX0 k f fd ps sp)(hr:Room k X.A)(hm:X.mg x=eH (.ref f))(hk:BV X.K (.ref f)=eJ)(hb:Binds X.K fd ps [])(ha:QA X (e::es) t)(hg:autoParam (Gl X x) a4_)(hdb:autoParam ((x==("__debug__":eZ))=eK) a1_)(he:autoParam (JF (e::es) X.env=(eK,eval e X.env)::JF es X.env) a4_)(hpl:autoParam ((JO pos (JF es X.env)).any (·.1)=eK) a4_):QE X (.Call (.Name x p) (e::es) [] pos) (zw sp [] E0 t):=oe F hr hg hm hk hb .nil gn ha hdb he hpl
theorem Fun.okA{P:JQ}{w:JV}{K:Aa}{mg:eZ->eM JC}{base:JP}{x qual:eZ}{st:JJ}{f:JA}{fd:JY}{ps:eU}{k:eO}{sp:Sp}(F:Fun K x qual st f fd)(N:eU)(hbody:∀(cdv:JC) (A:Jf) (outer:eL Env) (s:JG) (H:Hp) (vs:eL V) (Q:VK) (E:XK),Room k (A.deeper (envOfC qual (gy st) s.heap.objs.size f cdv))->sp vs H Q E->N.Nodup->
 ∃t,QB (cxOf CX0 P w K mg base N qual (gy st) f cdv A outer s H E).nox (ks st) t/\let D:Ends:={nx:=λ_ H'=>Q .non H',rt:=Q};let σ:=start N vs;t D σ H)(S:FnScope N ps (gy st):=by exact#[eY,eY,eY,by decide,eY,by decide,by decide])(len:∀vs H Q E,sp vs H Q E->vs.length=ps.length:=by
 intro _ _ _ _ h
 first
  | (cases h<;>subst_vars<;>rfl)
  | (repeat' let(_,h):=h
     subst_vars;rfl)):FnOk P w K mg base CX0 (k+1) f fd ps sp :=
 F.okQ S len λcdv A outer s H vs Q E hr h=>hbody cdv A outer s H vs Q E hr h S.nd
theorem kg{H:Hp}{a:JA}(h:H a=eI)(o:HO):∃H':Hp,upd H a o=H'/\Same H H'/\H' a=eH o:=#[_,eY,fi h o,fb]
section
def valV[DecidableEq κ](kvs:eL (κ×V))(k:κ):eM V:=(kvs.find? λkv=>decide (kv.1=k)).map (·.2)
def putK[DecidableEq κ](kvs:eL (κ×V))(k:κ)(v:V):eL (κ×V) :=
 if(kvs.any λkv=>decide (kv.1=k))=eJ then kvs.map (λkv=>if kv.1=k then(kv.1,v) else kv) else kvs++[(k,v)]
def li[DecidableEq κ](kvs:eL (κ×V))(k:κ):eL (κ×V):=kvs.filter λkv=>decide (kv.1≠k)
theorem ij{κ:Type}[DecidableEq κ]{p:κ×V}{r:eL (κ×V)}{k:κ}(e:p.1=k):valV (p::r) k=eH p.2:=by simp[valV,AZ,e]
theorem ik{κ:Type}[DecidableEq κ]{p:κ×V}{r:eL (κ×V)}{k:κ}(e:¬ p.1=k):valV (p::r) k=valV r k:=by simp[valV,AZ,e]
variable{κ:Type}[DecidableEq κ] in
theorem kd(k:κ):∀kvs:eL (κ×V),(kvs.any λkv=>decide (kv.1=k))=(valV kvs k).isSome
 |[]=>rfl
 |p::r=>by
  rw[Dx];by_cases e:p.1=k;simp only[ij e,fB e,IQ,Option.isSome_some];rw[ik e,fA e,Dz];exact kd k r
variable{κ:Type}[DecidableEq κ] in
theorem a1u(k j:κ)(y:V):∀kvs:eL (κ×V),valV (kvs.map λkv=>if kv.1=k then(kv.1,y) else kv) j=(valV kvs j).map λx=>if j=k then y else x
 |[]=>rfl
 |p::r=>by
  let a:=a1u k j y r;rw[A8];by_cases h:p.1=k;rw[eQ h];by_cases e:p.1=j;rw[ij (p:=(p.1,y)) e,ij e,E9,eQ (e.symm.trans h)];rw[ik (p:=(p.1,y)) e,ik e,a]
  rw[eP h];by_cases e:p.1=j;rw[ij (p:=p) e,ij e,E9,eP (λz=>h (e.trans z))];rw[ik (p:=p) e,ik e,a]
variable{κ:Type}[DecidableEq κ] in
theorem yd(k j:κ)(y:V):∀kvs:eL (κ×V),valV kvs k=eI->valV (kvs++[(k,y)]) j=if j=k then eH y else valV kvs j
 |[],_=>by
  by_cases e:k=j;rw[eQ e.symm];exact ij (p:=(k,y)) e;rw[eP (λz=>e z.symm)];exact ik (p:=(k,y)) e
 |p::r,hn=>by
  rw[FE];let a:¬ p.1=k:=λz=>by rw[ij z] at hn;cases hn
  rw[ik a] at hn;let b:=yd k j y r hn;by_cases e:p.1=j;rw[ij e,ij e,eP (λz=>a (e.trans z))];rw[ik e,ik e,b]
theorem l3{κ:Type}[DecidableEq κ](kvs:eL (κ×V))(k j:κ)(y:V):valV (putK kvs k y) j=if j=k then eH y else valV kvs j:=by
 unfold putK;by_cases a:(kvs.any λkv=>decide (kv.1=k))=eJ
 . rw[eQ a,a1u];rw[kd] at a;by_cases e:j=k;let(x,b):=Bk.mp a;rw[eQ e,e,b,E9,eQ rfl]
   . rw[eP e];cases valV kvs j with|none=>rfl|some x=>rw[E9,eP e]
 rw[eP a];refine yd k j y kvs ?_;rw[kd] at a;cases q:valV kvs k with|none=>rfl|some x=>rw[q] at a;exact(a rfl).elim
theorem jd{κ:Type}[DecidableEq κ](kvs:eL (κ×V))(k:κ)(v:V):(putK kvs k v).length<=kvs.length+1:=by
 unfold putK;split;rw[Ad];lia;rw[Ai,Aw,DI];lia
theorem l6{κ:Type}[DecidableEq κ]{kvs:eL (κ×V)}{k:κ}(v:V)(h:valV kvs k=eI):putK kvs k v=kvs++[(k,v)]:=by
 unfold putK;rw[kd,h];exact eP (by decide)
theorem RelO.isSome_eq(r:RelO o u):o.isSome=u.isSome:=by
 cases o with
 |none=>cases u with|none=>rfl|some _=>exact(show False from r).elim
 |some _=>cases u with|none=>exact(show False from r).elim|some _=>rfl
theorem RelO.getD(r:RelO o u)(a:RelV d d'):RelV (o.getD d) (u.getD d'):=by
 cases o with
 |none=>cases u with|none=>exact a|some _=>exact(show False from r).elim
 |some _=>cases u with|none=>exact(show False from r).elim|some _=>exact r
theorem KV.val{κ:Type}[DecidableEq κ]{kvs:eL (κ×V)}{vs:eL (κ×JC)}(r:KV kvs vs)(k:κ):RelO (valV kvs k) (valueAt vs k):=by
 unfold KV at r;induction r with
 |nil=>exact True.intro
 | @cons p q ps qs h t ih =>
  let(h1,h2):=h;by_cases e:p.1=k
  . let a:q.1=k:=h1.symm.trans e;let b:valueAt (q::qs) k=eH q.2:=by simp[valueAt,AZ,a]
    rw[ij e,b];exact h2
  let a:¬ q.1=k:=λz=>e (h1.trans z);let b:valueAt (q::qs) k=valueAt qs k:=by simp[valueAt,AZ,a]
  rw[ik e,b];exact ih
theorem KV.any{κ:Type}[DecidableEq κ]{kvs:eL (κ×V)}{vs:eL (κ×JC)}(r:KV kvs vs)(k:κ):(kvs.any λkv=>decide (kv.1=k))=vs.any λkv=>decide (kv.1=k):=by
 unfold KV at r;induction r with|nil=>rfl|cons h t ih=>rw[Dx,Dx,ih,h.1]
theorem KV.repl{κ:Type}[DecidableEq κ]{kvs:eL (κ×V)}{vs:eL (κ×JC)}(r:KV kvs vs)(k:κ){y:V}{u:JC}(a:RelV y u):
 KV (kvs.map λkv=>if kv.1=k then(kv.1,y) else kv) (vs.map λkv=>if kv.1=k then(kv.1,u) else kv):=by
 unfold KV at r |-;induction r with
 |nil=>exact .nil
 | @cons p q ps qs h t ih =>
  rw[A8,A8];refine .cons ?_ ih;let(h1,h2):=h;by_cases e:p.1=k;rw[eQ e,eQ (h1.symm.trans e)];exact#[h1,a];rw[eP e,eP (λz=>e (h1.trans z))];exact#[h1,h2]
theorem KV.put{κ:Type}[DecidableEq κ]{kvs:eL (κ×V)}{vs:eL (κ×JC)}(r:KV kvs vs)(k:κ){y:V}{u:JC}(a:RelV y u):KV (putK kvs k y) (stored vs k u):=by
 unfold putK stored;rw[r.any k];by_cases e:(vs.any λkv=>decide (kv.1=k))=eJ;rw[eQ e,eQ e];exact r.repl k a;rw[eP e,eP e];exact IW r #[eY,a]
theorem KV.drop{κ:Type}[DecidableEq κ]{kvs:eL (κ×V)}{vs:eL (κ×JC)}(r:KV kvs vs)(k:κ):KV (li kvs k) (without vs k):=by
 unfold KV at r |-;unfold li without;induction r with
 |nil=>exact .nil
 | @cons p q ps qs h t ih =>
  let(h1,h2):=h;rw[Cs,Cs];by_cases e:p.1=k
  . let a:¬ decide (p.1≠k)=eJ:=by simp[e]
    let b:¬ decide (q.1≠k)=eJ:=by simp[h1.symm.trans e]
    rw[eP a,eP b];exact ih
  let c:¬ q.1=k:=λz=>e (h1.trans z);let a:decide (p.1≠k)=eJ:=by simp[e]
  let b:decide (q.1≠k)=eJ:=by simp[c]
  rw[eQ a,eQ b];exact .cons #[h1,h2] ih
theorem KV.keys{κ:Type}[DecidableEq κ]{kvs:eL (κ×V)}{vs:eL (κ×JC)}(r:KV kvs vs):kvs.map (·.1)=vs.map (·.1):=by
 unfold KV at r;induction r with|nil=>rfl|cons h t ih=>rw[A8,A8,ih,h.1]
theorem KV.length{κ:Type}[DecidableEq κ]{kvs:eL (κ×V)}{vs:eL (κ×JC)}(r:KV kvs vs):kvs.length=vs.length:=A4 r
theorem ab0{κ:Type}[DecidableEq κ](kvs:eL (κ×V))(k:κ):(li kvs k).length<=kvs.length:=B2 _ _
end
theorem nq(r:RelV (kV k) u):(gu P w).is k u=eJ:=by
 cases k with|inl i=>let(t,e):=(show ∃t,u=Value.int i t from r);subst e;exact a25 P w i t|inr x=>let(t,e):=(show ∃t,u=Value.str x t from r);subst e;exact a21 P w x t
theorem yr:∀{a:eL Key}{us:eL JC},Vals (a.map kV) us->ItemsAre (gu P w) a us
 |[],_,r=>by rw[BG] at r;cases r;exact .nil
 |k::a,_,r=>by
  rw[A8] at r;cases r with|cons h t=>exact .cons (nq h) (yr t)
abbrev KT(H:Hp):eL (eL Key×V)->eL (eL Key×JA×JC)->Prop:=JI λp q=>p.1=q.1/\H q.2.1=eH (.tup (p.1.map kV))/\RelV p.2 q.2.2
theorem KT.val(r:KT H kvs xs)(k:eL Key):RelO (valV kvs k) ((atKey xs k).map (·.2)):=by
 induction r with
 |nil=>exact True.intro
 | @cons p q ps qs h t ih =>
  let(h1,_,h2):=h;by_cases e:p.1=k
  . let a:q.1=k:=h1.symm.trans e;let b:atKey (q::qs) k=eH q.2:=by simp[atKey,AZ,a]
    rw[ij e,b];exact h2
  let a:¬ q.1=k:=λz=>e (h1.trans z);let b:atKey (q::qs) k=atKey qs k:=by simp[atKey,AZ,a]
  rw[ik e,b];exact ih
theorem KT.repl(r:KT H kvs xs)(k:eL Key)(a:RelV y u):
 KT H (kvs.map λkv=>if kv.1=k then(kv.1,y) else kv) (xs.map (putAt k u)):=by
 induction r with
 |nil=>exact .nil
 | @cons p q ps qs h t ih =>
  rw[A8,A8];refine .cons ?_ ih;let(h1,h2,h3):=h;unfold putAt;by_cases e:p.1=k;rw[eQ e,eQ (h1.symm.trans e)];exact#[h1,h2,a];rw[eP e,eP (λz=>e (h1.trans z))];exact#[h1,h2,h3]
theorem KT.put(r:KT H kvs xs)(k:eL Key)(c:H b=eH (.tup (k.map kV)))(a:RelV y u):
 KT H (putK kvs k y) (storedH xs k b u):=by
 let e:(kvs.any λkv=>decide (kv.1=k))=(atKey xs k).isSome:=by
  rw[kd,(r.val k).isSome_eq,CH]
 unfold putK storedH;rw[e];by_cases q:(atKey xs k).isSome=eJ;rw[eQ q,eQ q];exact r.repl k a;rw[eP q,eP q];exact IW r #[eY,c,a]
theorem KT.keeps(r:KT H kvs xs)(a:∀b ys,H b=eH (.tup ys)->H' b=eH (.tup ys)):KT H' kvs xs :=
 Paired.mapP r λ_ _ z=>#[z.1,a _ _ z.2.1,z.2.2]
theorem abw(ok:HOk P w H h)(e:Rd H a u):ObjOk P w H h a u:=e.ok ok
theorem nj(ok:HOk P w H h)(e:Rd H a (.dK kvs)):kvs.length<=JB/\(a==JS)=eK/\∃vs,KV kvs vs/\h.DictOf (gu P w) a vs :=
 show ObjOk P w H h a (.dK kvs) from abw ok e
theorem nt(ok:HOk P w H h)(e:H a=eH (.dK kvs)):kvs.length<=JB/\(a==JS)=eK/\∃vs,KV kvs vs/\h.DictOf (gu P w) a vs:=nj ok (.inl e)
theorem qm(ok:HOk P w H h)(e:H a=eH (.tup (b.map kV))):(tupleKind (gu P w)).is h b a:=by
 let(_,its,r,o,h1,h2,n,h3):=(show ObjOk P w H h a (.tup (b.map kV)) from ok a _ e)
 exact#[o,its.toArray,n,h1,h2,h3,by simpa using yr r]
theorem rj(ok:HOk P w H h)(e:Rd H a (.dT kvs)):kvs.length<=JB/\(a==JS)=eK/\
 ∃xs,KT H kvs xs/\h.DictOfH (tupleKind (gu P w)) a xs:=by
 let(z,y,xs,r,o,es,ep,h1,h2,h3,c,d):=(show ObjOk P w H h a (.dT kvs) from abw ok e)
 refine#[z,y,xs,r,o,es,ep,h1,h2,h3,c,λx b=>?_,d];let all:∀{l:eL (eL Key×V)} {m:eL (eL Key×JA×JC)},KT H l m->∀x∈m,(tupleKind (gu P w)).is h x.1 x.2.1:=by
  intro l m q;induction q with
  |nil=>intro x b;exact nomatch b
  | @cons p q ps qs hq t ih =>
   intro x b;rcases Ak.mp b with e|b;subst e;exact qm ok (by rw[<- hq.1];exact hq.2.1);exact ih x b
 exact all r x b
theorem afr(ok:HOk P w H h)(e:H a=eH (.dT kvs)):kvs.length<=JB/\(a==JS)=eK/\
 ∃xs,KT H kvs xs/\h.DictOfH (tupleKind (gu P w)) a xs:=rj ok (.inl e)
def DGet(H:Hp)(a:JA)(y:V)(r:eM V):Prop :=
 (∃kvs k,Rd H a (.dK kvs)/\y=kV k/\r=valV kvs k)\/∃kvs k b,Rd H a (.dT kvs)/\y=.ref b/\H b=eH (.tup (k.map kV))/\r=valV kvs k
def DPut(H:Hp)(a:JA)(y v:V)(H':Hp):Prop :=
 (∃kvs k,H a=eH (.dK kvs)/\y=kV k/\kvs.length<JB/\H'=upd H a (.dK (putK kvs k v)))\/
 ∃kvs k b,H a=eH (.dT kvs)/\y=.ref b/\H b=eH (.tup (k.map kV))/\kvs.length<JB/\H'=upd H a (.dT (putK kvs k v))
theorem DGet.k{H:Hp}{a:JA}{kvs:eL (Key×V)}{k:Key}(e:H a=eH (.dK kvs)):DGet H a (kV k) (valV kvs k):=.inl #[kvs,k,.inl e,eY,eY]
theorem DGet.t{H:Hp}{a b:JA}{kvs:eL (eL Key×V)}{k:eL Key}(e:H a=eH (.dT kvs))(c:H b=eH (.tup (k.map kV))):DGet H a (.ref b) (valV kvs k):=.inr #[kvs,k,b,.inl e,eY,c,eY]
theorem DPut.k{H:Hp}{a:JA}{kvs:eL (Key×V)}{k:Key}{v:V}(e:H a=eH (.dK kvs))(hl:kvs.length<JB):DPut H a (kV k) v (upd H a (.dK (putK kvs k v))):=.inl #[kvs,k,e,eY,hl,eY]
theorem DPut.t{H:Hp}{a b:JA}{kvs:eL (eL Key×V)}{k:eL Key}{v:V}(e:H a=eH (.dT kvs))(c:H b=eH (.tup (k.map kV)))(hl:kvs.length<JB):
 DPut H a (.ref b) v (upd H a (.dT (putK kvs k v))):=.inr #[kvs,k,b,e,eY,c,hl,eY]
theorem Inv.big(I:Inv X a σ H s):JS<s.heap.objs.size:=by
 let h:JH<s.heap.objs.size:=(I.mod.glob.keeps I.bk).lt;exact DR (by decide) h
theorem a5e(r:A.units+1<cLine)(I:Inv X f σ H s)(g:DGet H a y (eH v))(n:RelV y u)(h:∀d s',Inv X f σ H s'->RelV v d->Q d s'):
 JD (JE X.prog X.w) A (getItem (.ref a) u) Q E s:=by
 rcases g with⟨kvs,k,e,i,l⟩|⟨kvs,k,b,e,i,q,l⟩
 . subst i;let(z,hd,vs,rel,dd):=nj I.hok e;let(d,m,c):=RelO.some_of (v:=v) (o:=valueAt vs k) (by rw[l];exact rel.val k);exact wpAny_getItem_of (nq n) dd.mapOf m (h d _ (I.tok _) c)
 subst i;cases(show u=Value.ref b from n);let(z,hd,xs,rel,dd):=rj I.hok e;let(d,m,c):=RelO.some_of (v:=v) (o:=(atKey xs k).map (·.2)) (by rw[l];exact rel.val k);let(p,hp,j):=Eg.mp m;refine wpAny_getItem_heap (CY r) (qm I.hok q) dd hp ?_;rw[j];exact h d _ (I.tok _) c
theorem d_in(j:A.units+1<cLine)(I:Inv X c σ H s)(g:DGet H a y o)(f:RelV y u)(h:∀s',Inv X c σ H s'->Q (.bool o.isSome) s'):
 JD (JE X.prog X.w) A (JM .In u (.ref a)) Q E s:=by
 rcases g with⟨kvs,k,e,d,l⟩|⟨kvs,k,b,e,d,i,l⟩
 . subst d;let(z,hd,vs,rel,dd):=nj I.hok e;refine wpAny_in_of (nq f) hd dd.mapOf ?_;rw[<- (rel.val k).isSome_eq,<- l];exact h _ (I.tok _)
 subst d;cases(show u=Value.ref b from f);let(z,hd,xs,rel,dd):=rj I.hok e;refine wpAny_in_heap (CY j) (qm I.hok i) hd dd ?_;let q:=(rel.val k).isSome_eq;rw[CH] at q;rw[<- q,<- l];exact h _ (I.tok _)
theorem a37(j:A.units+1<cLine)(I:Inv X c σ H s)(g:DGet H a y o)(f:RelV y u)(h:∀s',Inv X c σ H s'->Q (.bool (!o.isSome)) s'):
 JD (JE X.prog X.w) A (JM .NotIn u (.ref a)) Q E s:=by
 rcases g with⟨kvs,k,e,d,l⟩|⟨kvs,k,b,e,d,i,l⟩
 . subst d;let(z,hd,vs,rel,dd):=nj I.hok e;refine wpAny_notIn_of (nq f) hd dd.mapOf ?_;rw[<- (rel.val k).isSome_eq,<- l];exact h _ (I.tok _)
 subst d;cases(show u=Value.ref b from f);let(z,hd,xs,rel,dd):=rj I.hok e;refine wpAny_notIn_heap (CY j) (qm I.hok i) hd dd ?_;let q:=(rel.val k).isSome_eq;rw[CH] at q;rw[<- q,<- l];exact h _ (I.tok _)
theorem mw(I:Inv X c σ H s)(f:Mut (H a))(g:BF a s.heap h')(h:∃q,h'.get? a=eH q)(new:ObjOk X.prog X.w (upd H a ob) h' a ob):
 Inv X c σ (upd H a ob) {s with heap:=h',toks:=t'} :=
 I.write (x:=a) (e:=a) f (.inl rfl) (λb q d z=>(g.2 b d).trans z) h new
theorem ou(z:kvs.length<=JB)(hd:(a==JS)=eK)(rel:KV kvs vs)(dd:h'.DictOf (gu P w) a vs):
 ObjOk P w H' h' a (.dK kvs):=#[z,hd,vs,rel,dd]
theorem a86(C:A.units+1<cLine)(I:Inv X f σ H s)(g:DPut H a y v H')(p:RelV y u)(x:RelV v r)(h:∀s',Inv X f σ H' s'->Q () s'):
 JD (JE X.prog X.w) A (setItem (.ref a) u r) Q E s:=by
 rcases g with⟨kvs,k,e,n,l,j⟩|⟨kvs,k,b,e,n,t,l,j⟩
 . subst n j;let(z,hd,vs,rel,dd):=nt I.hok e;let hz:vs.length<=JB:=by rw[<- rel.length];exact z
   let hl:(putK kvs k v).length<=JB:=by let:=jd kvs k v;lia
   refine wpAny_setItem_pairs (hsz:=hz) (nq p) dd λh' d m=>h _ ?_;let F:∃q,h'.get? a=eH q:=let ⟨q,_,_,i,_⟩:=d;#[q,i];exact mw I (by rw[e];exact True.intro) m F (ou hl hd (rel.put k x) d)
 subst n j;cases(show u=Value.ref b from p);let(z,hd,xs,rel,dd):=afr I.hok e;let hz:xs.length<=JB:=by rw[<- A4 rel];exact z
 let hl:(putK kvs k v).length<=JB:=by let:=jd kvs k v;lia
 refine wpAny_setItem_heap (hsz:=hz) (CY C) (qm I.hok t) dd λh' d m=>h _ ?_;let(q,es,ep,i,h2,h3,D,_,B):=d;refine mw I (by rw[e];exact True.intro) m #[q,i] #[hl,hd,_,(rel.put k t x).keeps λc ys o=>?_,q,es,ep,i,h2,h3,D,B];rw[fg (j1 o e (λz=>nomatch z))];exact o
theorem afj(I:Inv X b σ H s)(e:H a=eH (.dK kvs))(g:RelV (kV k) u)(l:valV kvs k=eH v)(hm:more=[]\/∃x,more=[x])(h:∀d s',Inv X b σ (upd H a (.dK (li kvs k))) s'->RelV v d->Q d s'):JD (JE X.prog X.w) A (call (.builtin "dict.pop") (.ref a::u::more)) Q E s:=by
 let(z,hd,vs,rel,dd):=nt I.hok e;let(d,j,f):=RelO.some_of (v:=v) (o:=valueAt vs k) (by rw[<- l];exact rel.val k);let hp:(keyPart u).isSome=eJ:=by
  cases k with|inl i=>let(t,q):=(show ∃t,u=Value.int i t from g);subst q;rfl|inr x=>let(t,q):=(show ∃t,u=Value.str x t from g);subst q;rfl
 let p:argsOk "dict.pop" #[.ref a::u::more,[]]:=by
  rcases hm with q|⟨x,q⟩;subst q;exact PySem.F.args_dict_pop_2 _ _;subst q;exact PySem.F.args_dict_pop_3 _ _ _
 refine EA Gr dd.typeIs PySem.F.entry_dict_pop p (meets_dict_pop_there (gu X.prog X.w) a (nq g) more hm hp)
  #[vs,d,dd,by rw[<- rel.length];exact z,j,λh' c m=>h d _ ?_ f]
 let n:∃q,h'.get? a=eH q:=let ⟨q,_,_,hq,_⟩:=c;#[q,hq];exact mw I (by rw[e];exact True.intro) m n (ou (AB (ab0 kvs k) z) hd (rel.drop k) c)
theorem afv(I:Inv X b σ H s)(e:Rd H a (.dK kvs))(h:∀t s',Inv X b σ H s'->Q (.int kvs.length t) s'):JD (JE X.prog X.w) A (call (.builtin "len") [.ref a]) Q E s:=by
 let(z,hd,vs,rel,dd):=nj I.hok e;refine call_len_dict hd dd (by rw[<- rel.length];rw[D6] at z;lia) ?_;rw[<- rel.length];exact h _ _ (I.tok _)
def NoSl(i:Expr):Prop:=∀ov iv,subscripted i eK ov iv=operate [ov,iv] (getItem ov iv)
theorem ac8{id:String}(hl:typeLookup (.type T) "__getitem__"=pure (eH (.builtin id)))(k:NoSl a)(h:JD (JE prog w) A (eval value env) (λo f=>JD (JE prog w) A (eval a env) (λi c=>c.TypeIs o T/\JD (JE prog w) A (getItem o i) Q E c) E f) E s):
 JD (JE prog w) A (eval (.Subscript value a pos) env) Q E s:=by
 refine Subscript_ (B8 h (λo f j=>B8 j (λi c d=>?_) λ_ _ x=>x) λ_ _ x=>x);let(g,d):=d;unfold subscriptTail;refine Ac ?_;rw[getitemInPython_of_ne g.not_modules];refine Ac (E5 g hl ?_);let b:JD (JE prog w) A (subscripted a eK o i) (λr e=>JD (JE prog w) A (letTemporaryGo value o r>>=λ_=>pure r) Q E e) E c:=by
  rw[k o i];exact wpAny_operating (B8 d (λr e l=>Ac (wpAny_letTemporaryGo (Al l))) λ_ _ x=>x)
 first
  |exact Al (Ac b)
  |exact Ac (Al (Ac b))
  |exact Ac b
theorem a1w(I:Inv X c σ H s)(g:DGet H a y o):s.TypeIs (.ref a) "dict" := by
 rcases g with⟨kvs,k,e,_,_⟩|⟨kvs,k,b,e,_,_,_⟩
 . let(_,_,vs,_,dd):=nj I.hok e;exact dd.typeIs
 let(_,_,xs,_,dd):=rj I.hok e;exact dd.typeIs
inductive tDGetS(x y:V)(H2:Hp)(Q:VK):Prop
 |mk (a:JA)(v:V)(h0:x=.ref a)(h1:DGet H2 a y (eH v))(h2:Q v H2):tDGetS x y H2 Q
def abi(td ty:TE):TE:=fun σ H Q=>td σ H λx H1=>ty σ H1 λy H2=>tDGetS x y H2 Q
inductive tDInS(x y:V)(H2:Hp)(Q:VK):Prop
 |mk (a:JA)(o:eM V)(h0:x=.ref a)(h1:DGet H2 a y o)(h2:Q (.bl o.isSome) H2):tDInS x y H2 Q
def tDIn(ty td:TE):TE:=fun σ H Q=>ty σ H λy H1=>td σ H1 λx H2=>tDInS x y H2 Q
def u6(ty td:TE):TE:=fun σ H Q=>ty σ H λy H1=>td σ H1 λx H2=>∃a o,x=.ref a/\DGet H2 a y o/\Q (.bl (!o.isSome)) H2
inductive sDPutS(D:Ends)(σ:St)(v x y:V)(H3:Hp):Prop
 |mk (a:JA)(H4:Hp)(h0:x=.ref a)(h1:DPut H3 a y v H4)(h2:D.nx σ H4):sDPutS D σ v x y H3
def abl(td ty tv:TE):TS:=λD σ H=>tv σ H λv H1=>td σ H1 λx H2=>ty σ H2 λy H3=>sDPutS D σ v x y H3
theorem ad5(l:X.A.units+1<cLine)(f:PE X o td)(hi:PE X i ty)(p:NoSl i):PE X (.Subscript o i pos) (abi td ty):=by
 intro b s σ H Q I h;refine ac8 PySem.F.slot_dict_getitem.lookup p (thn (f b s σ H _ I h) λu s1 #[x,r,q,e,k]=>thn (hi b s1 σ r _ q k) λD C t=>?_);let(y,j,d,m,a,v,ex,g,w):=t;subst ex;obtain rfl:u=Value.ref a:=e;exact#[a1w d g,a5e l d g m λB z n c=>#[v,j,n,c,w]]
theorem a89(k:X.A.units+1<cLine)(hi:PE X i ty)(e:PE X o td):PC X .In i o (tDIn ty td):=by
 intro b s σ H Q I h;refine thn (hi b s σ H _ I h) λz s1 #[y,q,p,l,j]=>thn (e b s1 σ q _ p j) λu w r=>?_;let(x,f,c,d,a,n,ex,g,t):=r;subst ex;obtain rfl:u=Value.ref a:=d;exact d_in k c g l λv m=>#[.bl n.isSome,f,m,eY,t]
theorem ye(hu:X.A.units+1<cLine)(hi:PE X i ty)(ho:PE X o td):PC X .NotIn i o (u6 ty td):=by
 intro pins s σ H Q I h;refine thn (hi pins s σ H _ I h) λiv s1 #[y,H1,I1,ry,q1]=>thn (ho pins s1 σ H1 _ I1 q1) λu s2 zq=>?_;let(x,H2,I2,rx,a,ov,ex,g,q2):=zq;subst ex;obtain rfl:u=Value.ref a:=rx;exact a37 hu I2 g ry λs3 I3=>#[.bl (!ov.isSome),H2,I3,eY,q2]
theorem adu(n:X.A.units+1<cLine)(k:PE X o td)(hi:PE X i ty)(hv:PE X value f)(t:JX value (eH (.Subscript o i c)) pos.line X.env=pure eK):
 PS X (.Assign [.Subscript o i c] value pos) (abl td ty f):=by
 intro b s σ H D I h;refine wpAny_Assign_Subscript (thn (hv b s σ H _ I h) λr s1 #[v,E,C,w,m]=>thn (k b s1 σ E _ C m) λu z #[x,l,d,j,G]=>thn (hi b z σ l _ d G) λN J #[y,M,q,p,a,e,ex,g,B]=>?_) t;subst ex;obtain rfl:u=Value.ref a:=j;exact a86 n q g p w λL F=>#[σ,e,F,B]
theorem uy(h:JP)(a:JS<h.objs.size):ObjOk P w H (h.push {cls:=.type "dict",data:=.dict [].toArray}) h.objs.size (.dK []) :=
 #[AC _,beq_eq_false_iff_ne.mpr (AF (AA a)),[],.nil,Heap.DictOf.new h]
theorem aae(h:JP)(a:JS<h.objs.size):ObjOk P w H (h.push {cls:=.type "dict",data:=.dict [].toArray}) h.objs.size (.dT []) :=
 #[AC _,beq_eq_false_iff_ne.mpr (AF (AA a)),[],.nil,_,[].toArray,0,Ax _ rfl,#[eY,eY,eY],eY,eY,AV]
def a5o:TE:=λ_ H Q=>∀p,H p=eI->Q (.ref p) (upd H p (.dK []))
def a7p:TE:=λ_ H Q=>∀p,H p=eI->Q (.ref p) (upd H p (.dT []))
theorem aa6:PE X (.Dict [] [] pos) a5o:=λb s σ H Q I h =>
 HX #[.ref s.heap.objs.size,_,I.laid (a:=s.heap.objs.size) (o:=.dK []) (t':=s.toks) (λ_ _ q=>Aj _ q) (Ao _) (uy s.heap I.big),eY,h _ (I.hok.fresh (Ao _))]
theorem a9a:PE X (.Dict [] [] pos) a7p:=λb s σ H Q I h =>
 HX #[.ref s.heap.objs.size,_,I.laid (a:=s.heap.objs.size) (o:=.dT []) (t':=s.toks) (λ_ _ q=>Aj _ q) (Ao _) (aae s.heap I.big),eY,h _ (I.hok.fresh (Ao _))]
def a1j:eL (TE×TE)->St->Hp->(eL (V×V)->Hp->Prop)->Prop
 |[],_,H,Q=>Q [] H
 | (tk,tv)::r,σ,H,Q=>tk σ H λx H1=>tv σ H1 λy H2=>a1j r σ H2 λps H3=>Q ((x,y)::ps) H3
abbrev VV:eL (V×V)->eL (JC×JC)->Prop:=JI λp q=>RelV p.1 q.1/\RelV p.2 q.2
def PPs(X:Cx)(pos:Pos)(keys:eL (eM Expr))(values:eL Expr)(trs:eL (TE×TE)):Prop :=
 ∀(pins:eL (JA×Obj)) (s:JG) (σ:St) (H:Hp) (Q:eL (V×V)->Hp->Prop),Inv X pins σ H s->a1j trs σ H Q->
   JD (JE X.prog X.w) X.A (evalPairs (pairTrees keys values X.env pos)) (λvs s'=>∃ps H',Inv X pins σ H' s'/\VV ps vs/\Q ps H') X.xe s
theorem xb:PPs X pos [] [] []:=λa s σ H Q I h=>pairTrees_nil_walk #[[],H,I,.nil,h]
theorem nb(n:PE X k tk)(hv:PE X v d)(i:PPs X pos l vs b):
 PPs X pos (eH k::l) (v::vs) ((tk,d)::b):=λa s σ H Q I h =>
 pairTrees_cons_walk (thn (n a s σ H _ I h) λu s1 #[x,t,r,e,g]=>thn (hv a s1 σ t _ r g) λA p #[y,f,c,j,w] =>
  thn (i a p σ f _ c w) λB z #[ps,o,m,rel,q]=>#[(x,y)::ps,o,m,.cons #[e,j] rel,q])
def j9(kvs more:eL (Key×V)):eL (Key×V):=more.foldl (λacc kv=>putK acc kv.1 kv.2) kvs
theorem KV.merge:∀{more:eL (Key×V)}{rs:eL (Key×JC)}{kvs:eL (Key×V)}{vs:eL (Key×JC)},KV more rs->KV kvs vs->KV (j9 kvs more) (merged vs rs):=by
 intro more rs kvs vs r;unfold KV at r;induction r generalizing kvs vs with
 |nil=>intro q;exact q
 | @cons p q ps qs h t ih =>
  intro a;let e:KV (putK kvs p.1 p.2) (stored vs q.1 q.2):=by
   let:=a.put p.1 h.2;rw[<- h.1];exact this
  exact ih e
theorem o0:∀(more kvs:eL (Key×V)),(j9 kvs more).length<=kvs.length+more.length
 |[],kvs=>by show kvs.length<=kvs.length+0;lia
 |p::r,kvs=>by
  let h1:=o0 r (putK kvs p.1 p.2);let h2:=jd kvs p.1 p.2;show(j9 (putK kvs p.1 p.2) r).length<=_;rw[Aw];lia
theorem vo:∀{kvs:eL (Key×V)}{d:eL (JC×JC)},VV (kvs.map λkv=>(kV kv.1,kv.2)) d->∃rs,Carries (gu P w) d rs/\KV kvs rs
 |[],_,r=>by rw[BG] at r;cases r;exact#[[],True.intro,.nil]
 |p::kvs,_,r=>by
  rw[A8] at r;cases r with
  | @cons a b as bs h t =>
   let(rs,c,q):=vo (P:=P) (w:=w) t;let(f,e):=b;exact#[(p.1,e)::rs,#[nq h.1,eY,c],.cons #[eY,h.2] q]
def zu(trs:eL (TE×TE)):TE:=fun σ H Q=>∀p,H p=eI->a1j trs σ (upd H p (.dK [])) λps H2=>H2 p=eH (.dK [])/\∃kvs:eL (Key×V),ps=kvs.map (λkv=>(kV kv.1,kv.2))/\kvs.length<=15/\Q (.ref p) (upd H2 p (.dK (j9 [] kvs)))
theorem wv(h:PPs X pos keys b i)(g:keys.all (·.isSome)=eJ)(hl:keys.length=b.length)(l:keys≠[])(j:keys.length<=15):PE X (.Dict keys b pos) (zu i):=by
 intro d s σ H Q I q;let hn:=I.hok.fresh (Ao s.heap.objs.size);let u:=I.laid (a:=s.heap.objs.size) (o:=.dK []) (h':=s.heap.push {cls:=.type "dict",data:=.dict [].toArray}) (t':=s.toks) (λ_ _ q=>Aj _ q) (Ao _) (uy s.heap I.big);refine wpAny_Dict_walk (knd:=gu X.prog X.w) g hl l j (thn (h d _ σ _ _ u (q _ hn)) λB C v=>?_);let(ps,y,k,rel,e,kvs,ep,A,x):=v;subst ep;let(rs,c,p):=vo (P:=X.prog) (w:=X.w) rel;let(z,hd,r,m,dd):=nt k.hok e;cases m;refine#[rs,c,dd,λh' f n=>#[.ref s.heap.objs.size,_,?_,eY,x]];let hz:(j9 [] kvs).length<=JB:=by
  let h1:=o0 kvs [];rw[DI] at h1;rw[D6];lia
 let t:∃q,h'.get? s.heap.objs.size=eH q:=let ⟨q,_,_,hq,_⟩:=f;#[q,hq];exact mw k (by rw[e];exact True.intro) n t (ou hz hd (p.merge .nil) f)
structure M1(X:Cx)(o:Expr)(m:eZ)(apos:Pos)(e:Expr)(cpos:Pos):Prop where
 base:JT o m X.env (eval o X.env)=eval o X.env
 few:((JO cpos (JF [e] X.env)).all (λx => !x.1) && (Jh cpos (JZ [] X.env)).all (λx=>x.1.isSome)
  && decide (([e]:eL Expr).length+([]:eL Keyword).length+(if([]:eL Keyword).isEmpty then 0 else 1)<30))=eJ
 line:(apos.endLine==cpos.line)=eJ
 trees:JO cpos (JF [e] X.env)=[(eK,eval e X.env)]
structure M2(X:Cx)(o:Expr)(m:eZ)(apos:Pos)(e f:Expr)(cpos:Pos):Prop where
 base:JT o m X.env (eval o X.env)=eval o X.env
 few:((JO cpos (JF [e,f] X.env)).all (λx => !x.1) && (Jh cpos (JZ [] X.env)).all (λx=>x.1.isSome)
  && decide (([e,f]:eL Expr).length+([]:eL Keyword).length+(if([]:eL Keyword).isEmpty then 0 else 1)<30))=eJ
 line:(apos.endLine==cpos.line)=eJ
 trees:JO cpos (JF [e,f] X.env)=[(eK,eval e X.env),(eK,eval f X.env)]
def IsD(H:Hp)(a:JA):Prop:=(∃kvs,Rd H a (.dK kvs))\/∃kvs,Rd H a (.dT kvs)
theorem wq(I:Inv X c σ H s)(d:IsD H a):
 s.TypeIs (.ref a) "dict" /\ (∀b,Value.ref a=.ref b->∃ob,s.heap.get? b=eH ob/\ob.dict=eI)/\(a==JS)=eK:=by
 rcases d with⟨kvs,e⟩|⟨kvs,e⟩
 . let(_,hd,vs,_,dd):=nj I.hok e;refine#[dd.typeIs,λb q=>?_,hd];cases q;let(ob,_,_,h1,h2,_):=dd;exact#[ob,h1,h2.2.1]
 let(_,hd,xs,_,dd):=rj I.hok e;refine#[dd.typeIs,λb q=>?_,hd];cases q;let(ob,_,_,h1,h2,_):=dd;exact#[ob,h1,h2.2.1]
theorem aep(p:A.units+1<cLine)(I:Inv X c σ H s)(g:DGet H a y o)(i:RelV y u)(j:RelV d r)(h:∀m s',Inv X c σ H s'->RelV (o.getD d) m->Q m s'):
 JD (JE X.prog X.w) A (call (.builtin "dict.get") [.ref a,u,r]) Q E s:=by
 rcases g with⟨kvs,k,e,f,l⟩|⟨kvs,k,b,e,f,n,l⟩
 . subst f;let(z,hd,vs,rel,dd):=nj I.hok e;refine EA Ek dd.typeIs FZ (FM _ _ _) (meets_dict_get_default (gu X.prog X.w) a (nq i) hd r) #[_,dd.mapOf,h _ _ (I.tok _) ?_];rw[l];exact(rel.val k).getD j
 subst f;cases(show u=Value.ref b from i);let(z,hd,xs,rel,dd):=rj I.hok e;refine EA Ek dd.typeIs FZ (FM _ _ _) (meetsH_dict_get_default (tupleKind (gu X.prog X.w)) a b hd r) #[CY p,k,xs,qm I.hok n,dd,h _ _ (I.tok _) ?_];rw[l];exact(rel.val k).getD j
def a8b(td ty tx:TE):TE:=fun σ H Q=>td σ H λx H1=>∃a,x=.ref a/\IsD H1 a/\ty σ H1 λy H2=>tx σ H2 λz H3=>∃o,DGet H3 a y o/\Q (o.getD z) H3
def a6v(td ty:TE):TE:=fun σ H Q=>td σ H λx H1=>∃a,x=.ref a/\IsD H1 a/\ty σ H1 λy H2=>∃kvs k v,H2 a=eH (.dK kvs)/\y=kV k/\valV kvs k=eH v/\Q v (upd H2 a (.dK (li kvs k)))
theorem a90(t:X.A.units+1<cLine)(p:PE X o td)(L:PE X e ty)(O:PE X f D)(m:M2 X o "get" i e f c):PE X (.Call (.Attribute o "get" i) [e,f] [] c) (a8b td ty D):=by
 intro b s σ H Q I h;refine Ed m.base m.few m.line CS Ek PySem.F.type_dict_get (thn (p b s σ H _ I h) λu s1 R=>?_);let(x,M,k,n,a,ex,d,r):=R;subst ex;obtain rfl:u=Value.ref a:=n;let(P,v,_):=wq k d;exists P,v;rw[m.trees];refine Cc rfl (Ck (BQ (thn (L b s1 σ M _ k r) λiv G #[y,q,l,w,S] =>
  BQ (thn (O b G σ q _ l S) λW T #[z,E,C,B,Y,g,J]=>CG ?_))))
 exact aep t C g w B λU Z N j=>#[_,E,N,j,J]
theorem aac(p:PE X o td)(A:PE X e ty)(m:M1 X o "pop" f e c):PE X (.Call (.Attribute o "pop" f) [e] [] c) (a6v td ty):=by
 intro b s σ H Q I h;refine Ed m.base m.few m.line CS Gr PySem.F.type_dict_pop (thn (p b s σ H _ I h) λu s1 E=>?_);let(x,B,i,n,a,ex,d,q):=E;subst ex;obtain rfl:u=Value.ref a:=n;let(D,r,_):=wq i d;exists D,r;rw[m.trees];refine Cc rfl (Ck (BQ (thn (A b s1 σ B _ i q) λO N #[y,L,j,t,kvs,k,v,C,z,l,G]=>CG ?_)));subst z;exact afj j C t l (.inl rfl) λM J w g=>#[v,_,w,g,G]
theorem aaw(I:Inv X c σ H s)(e:Rd H a (.dK kvs))(h:∀p s',H p=eI->Inv X c σ (upd H p (.dK kvs)) s'->Q (.ref p) s'):JD (JE X.prog X.w) A (call (.type "dict") [.ref a]) Q E s:=by
 let(z,hd,vs,rel,dd):=nj I.hok e;refine kt_call_dict hd dd (by rw[<- rel.length];exact z) λh' d g=>?_;refine h _ _ (I.hok.fresh (Ao _)) (I.laid (a:=s.heap.objs.size) (o:=.dK kvs) (t':=s.toks) (λb q f=>?_) (Ao _) (ou z (beq_eq_false_iff_ne.mpr (AF (AA I.big))) rel d));exact(g.2 b (AA (A1 f))).trans (Aj _ f)
theorem se:ja X (.builtin "len") (λxs H Q=>∃a kvs,xs=[V.ref a]/\H a=eH (.dK kvs)/\Q (.int kvs.length) H):=by
 intro b s σ H xs us Q I r h;let(a,kvs,rfl,d,q):=h;let(u,rfl,e):=vx r;cases e;exact afv I (.inl d) λt s' c=>#[.int kvs.length,H,c,#[t,eY],q]
section
theorem aax{κ:Type}[DecidableEq κ]{kvs:eL (κ×V)}{k:κ}(h:valV kvs k=eI):¬ k∈kvs.map (·.1):=by
 intro m;let(p,hp,e):=Au.mp m;let q:(kvs.any λkv=>decide (kv.1=k))=eJ:=AS.mpr #[p,hp,fB e];rw[kd,h] at q;exact eR q (by simp)
theorem xc{κ:Type}[DecidableEq κ]{kvs:eL (κ×V)}{k:κ}{v:V}(h:valV kvs k=eH v):k∈kvs.map (·.1):=by
 let q:(kvs.any λkv=>decide (kv.1=k))=eJ:=by
  rw[kd,h]
  all_goals rfl
 let(p,hp,e):=AS.mp q;exact Au.mpr #[p,hp,fC e]
variable{κ:Type}[DecidableEq κ] in
theorem oa:∀{l:eL κ}{k:κ},l.Nodup->¬ k∈l->(l++[k]).Nodup
 |[],k,_,_=>by simp
 |a::r,k,h,hk=>by
  let(h1,h2):=AI.mp h;show(a::(r++[k])).Nodup;refine AI.mpr #[λm=>?_,oa h2 λm=>hk (Ak.mpr (Or.inr m))];rcases Ab.mp m with q|q;exact h1 q;exact hk (Ak.mpr (Or.inl (Ae.mp q).symm))
variable{κ:Type}[DecidableEq κ] in
variable{κ:Type}[DecidableEq κ] in
variable{κ:Type}[DecidableEq κ] in
end
theorem PS.nox{st:JJ}(h:PS X.nox st t):PS X st t:=λa s σ H D I b =>
 B8 (h a s σ H D (I.wish _) b) (λ_ _ q=>q.unwish) λ_ _ z=>BU z
theorem af6{st:JJ}(h:QS X.nox st t):QS X st t:=#[PS.nox h.run]
def af3(K:Aa)(ta:TE):TT:=fun σ H Q=>ta σ H λx H'=>∃k,TruV K x H' k/\Q k H'
theorem uu{K:Aa}(c:QE X e d)(b:autoParam (X.K=K) a4_)(a:autoParam (∀whole,isTrue e X.env whole=(do let v<-whole;standAt e.pos;holding [v] (truthy v))) a3_):QT X e (af3 K d):=by
 subst b;exact#[a8m c.run a]
theorem Fun.okEQ{K:Aa}{st:JJ}(F:Fun K x b st f fd)(S:FnScope N ps (gy st))(len:∀vs H Q E,sp vs H Q E->vs.length=ps.length)(c:∀(a:JC) (A:Jf) (outer:eL Env) (s:JG) (H:Hp) (vs:eL V) (Q:VK) (E:XK),Room k (A.deeper (envOfC b (gy st) s.heap.objs.size f a))->sp vs H Q E->
 ∃t,QB (cxOf (CXE P w base) P w K mg base N b (gy st) f a A outer s H E) (ks st) t/\let D:Ends:={nx:=λ_ H'=>Q .non H',rt:=Q};let σ:=start N vs;t D σ H):FnOk P w K mg base (CXE P w base) (k+1) f fd ps sp:=by
 let(m,od,kV,j,pm,l,a,ct,g,rfl,h,e):=F.ex;exact ac4 h e S len λA outer s H vs Q E i d=>by
  let(t,h1,h2):=c a A outer s H vs Q E i d;exact#[t,h1.run,h2]
section
set_option relaxedAutoImplicit true
theorem kz{id:String}{K:Aa}(h:X.K=K)(g:PlainAttrs T)(slot:Slot T name id)(f:typeOf (.builtin id)=pure (.type "method_descriptor"))(hm:MtR X id r)(j:QE X o to)(k:QA X (e::es) t)(b:autoParam (JT o name X.env (eval o X.env)=eval o X.env) a4_)(d:autoParam (((JO cpos (JF (e::es) X.env)).all (λx => !x.1) && (Jh cpos (JZ [] X.env)).all (λx=>x.1.isSome)       && decide ((e::es).length+([]:eL Keyword).length+(if([]:eL Keyword).isEmpty then 0 else 1)<30))=eJ) a4_)(c:autoParam ((apos.endLine==cpos.line)=eJ) a4_)(i:autoParam (JF (e::es) X.env=(eK,eval e X.env)::JF es X.env) a4_)(a:autoParam ((JO cpos (JF es X.env)).any (·.1)=eK) a4_):QE X (.Call (.Attribute o name apos) (e::es) [] cpos) (tBM K T r to t):=by
 subst h;exact#[abg g slot f hm j.run k.run b d c i a]
end
theorem Inv.turnedL{ch:eL JA}(I:Inv X a σ H s)(k:∀b o,b∉ch->s.heap.get? b=eH o->h'.get? b=eH o)(d:∀b∈ch,FpOk X a H b):Inv X a σ H {s with heap:=h',toks:=t'}:=by
 let f:∀b u,H b=eH u->b∉ch:=λb u e z=>by rw[(d b z).1] at e;cases e
 refine I.step (g':=s.gens) (d':=s.drawn) (ch:=ch) (λb g=>#[(d b g).2.2.2.1,(d b g).2.1,(d b g).2.2.2.2.1,(d b g).2.2.2.2.2]) (λb o _ _ hn e _=>k b o hn e) (λb o _ _ hn e _=>#[o.slots,k b o hn e]) (λ_ _ _ _ n=>n)
  (λb o hn e=>#[o,k b o hn e]) (λ_ _ e=>e) (λ_ _ _ e=>e) (λb ps e=>#[[].toArray,by rw[e];simp]) (λm hm=>?_) (λb u e=>?_) I.bare
 . let(o,es,ep,i,r):=hm;exact#[o,es,ep,k _ o (λz=>(d _ z).2.1 rfl) i,r]
 refine(I.hok b u e).stay (λc v h q=>k c v ?_ q) (λ_ q=>q) λ_ _ q=>q;rcases h with z|z;rw[z];exact f b u e;exact f c _ z
def jm(n:JA):eL JA:=[n+4,n+2,n+3,n,n+1]
theorem um{n d e:eO}(h1:d∉jm n)(h2:e∉jm n):ZipApart (n+4) (n+2) (n+3) n (n+1) d e:=by
 unfold jm at h1 h2;simp only[Ak,As,fH,not_or] at h1 h2;let nn:∀a b:eO,a≠b->n+a≠n+b:=λa b h=>by lia
 let c:∀a:eO,a≠0->n≠n+a:=λa h=>by lia
 exact#[nn 2 4 (by decide),nn 3 4 (by decide),c 4 (by decide),nn 1 4 (by decide),nn 2 3 (by decide),(c 2 (by decide)).symm,nn 2 1 (by decide),(c 3 (by decide)).symm,nn 3 1 (by decide),c 1 (by decide),h1.1,h1.2.2.1,h1.2.2.2.1,h1.2.2.2.2,h2.1,h2.2.2.1,h2.2.2.2.1,h2.2.2.2.2]
theorem a51(N:eU)(T:X.N.Nodup)(P:X.N[iy]?=eH k)(R:Loc X.env.scope k)(B:JX (.ListComp t [#[.Name x px,d,u,0]] a pos) (eH (.Name k py)) w.line X.env=pure eJ)(U:X.fn k=eJ\/X.env.scope.names.lookup k=eH .local)(hc:X.calm=eJ)(hi:PI X (.Name x px) d wi)(aa:∀s H C ex,PTs (blk X N s H a cl C ex) u tc)(he:∀s H C ex,PE (blk X N s H a cl C ex) t te)(g:a.kind=.function)(hN:N=x::ix.map λj=>(X.N[j]?).getD "")(G:N.Nodup)(hx:a.names.lookup x=eH .local)(J:closureFor a X.env=pure cl)(i:∀y∈a.names,y.2≠.cell)(f:∀y∈a.names,y.2=.local->a.names.lookup y.1=eH .local)(p:∀y c,cl.lookup y=eH c->X.env.cells.lookup y=eH c)(v:∀y,((JU a X.env).names.lookup y=eH .cell\/(JU a X.env).names.lookup y=eH .free)->∃c,cl.lookup y=eH c)(W:∀j∈ix,∃y,X.N[j]?=eH y/\X.env.kindOf y=eH .cell/\(JU a X.env).names.lookup y=eH .cell)(hs:autoParam (∀x,JL d X.env x=pure x) a3_):
 PS X (.Assign [.Name k py] (.ListComp t [#[.Name x px,d,u,0]] a pos) w) (tAsg (pi ix wi tc te) (iq iy)):=by
 intro n s σ H D0 I h;rw[exec_Assign_Name_used _ _ _ _ B];refine Ac (Hb (Ac ?_));show JD _ _ (comprehension _ _ _ _ _ _ _ _>>=_) _ _ _;refine Ac (B8 (Q:=λ_ s'=>SP X n D0 .next s') (yg N hc hi aa he g hN G hx J i f p v W hs (use:=eH (assign (.Name k py) X.env)) I h λD C s6 H5 mm I7 hm M r l hsz m qn=>?_) (λ_ s' q=>Al (Al q)) λ_ _ y=>y);refine Fj (yn I7 T P R (show RelV (V.ref D) (Value.ref D) from rfl) (λs8 I8 O=>?_) U);let(a8,S,E):=O;let Z:C≠a8:=by
  rcases E with z|z;rw[z];exact r;exact AF (l _ _ z)
 let(oC,A,Y,F,rC):=hm;refine#[mm,#[oC,A,Y,S.extBut _ _ Z F,rC],λh9 L=>?_];exact#[_,H5,I8.turned (t':=s8.toks) (it:=C) (λb o hb e=>L.extBut b o hb e) M r (.inr hsz) l m,qn]
theorem ma:QE X (.Dict [] [] pos) a5o:=#[aa6]
theorem qw(b:QE X k tk)(hv:QE X v a):QE X (.Dict [eH k] [v] pos) (zu [(tk,a)]):=#[wv (nb b.run hv.run xb) rfl rfl (by simp) (by simp)]
theorem a8o(f:QE X k tk)(hv:QE X v e)(c:QE X d tk')(b:QE X g a):QE X (.Dict [eH k,eH d] [v,g] pos) (zu [(tk,e),(tk',a)]):=#[wv (nb f.run hv.run (nb c.run b.run xb)) rfl rfl (by simp) (by simp)]
theorem im(b:X.A.units+1<cLine)(c:QE X o td)(hi:QE X i ty)(a:NoSl i):QE X (.Subscript o i pos) (abi td ty):=#[ad5 b c.run hi.run a]
theorem t0(a:X.A.units+1<cLine)(hi:QE X i ty)(b:QE X o td)(hm:autoParam (JN .In o=eK) a8_):QT X (.Compare i [.In] [o] pos) (tB (tDIn ty td)):=#[a7v (a89 a hi.run b.run) hm]
theorem ko(a:X.A.units+1<cLine)(hi:QE X i ty)(b:QE X o td)(hm:autoParam (JN .NotIn o=eK) a8_):QT X (.Compare i [.NotIn] [o] pos) (tB (u6 ty td)):=#[a7v (ye a hi.run b.run) hm]
theorem a1d(a:X.A.units+1<cLine)(hi:QE X i ty)(b:QE X o td)(hm:autoParam (JN .In o=eK) a8_):QE X (.Compare i [.In] [o] pos) (tDIn ty td):=#[a7s (a89 a hi.run b.run) hm]
theorem ld(d:X.A.units+1<cLine)(e:QE X o td)(hi:QE X i ty)(hv:QE X value c)(b:autoParam (JX value (eH (.Subscript o i a)) pos.line X.env=pure eK) a4_):
 QS X (.Assign [.Subscript o i a] value pos) (abl td ty c):=#[adu d e.run hi.run hv.run b]
theorem vd(h:X.A.units+1<cLine)(i:QE X o td)(c:QE X e ty)(d:QE X f g)(m:autoParam (M2 X o "get" b e f a) a9_):
 QE X (.Call (.Attribute o "get" b) [e,f] [] a) (a8b td ty g):=#[a90 h i.run c.run d.run m]
theorem a6b:ja X (.type "dict") (λxs H Q=>∃a kvs,xs=[V.ref a]/\H a=eH (.dK kvs)/\∀p,H p=eI->Q (.ref p) (upd H p (.dK kvs))):=by
 intro b s σ H xs us Q I r h;let(a,kvs,rfl,d,q):=h;let(u,rfl,e):=vx r;cases e;exact aaw I (.inl d) λp s' hp c=>#[.ref p,_,c,eY,q p hp]
theorem a2j(h:(gu P w).is k v=eJ):RelV (kV k) v:=by
 rcases je h with⟨i,t,rfl,rfl⟩|⟨x,t,rfl,rfl⟩
 . exact#[t,eY]
 exact#[t,eY]
theorem a0r:∀{a:eL V}{vs:eL JC},vs.length=a.length->(∀(j:eO) (v:JC),vs[j]?=eH v->∃y,a[j]?=eH y/\RelV y v)->Vals a vs
 |[],[],_,_=>.nil
 |k::a,v::vs,hl,h=>by
  let(y,e,r):=h 0 v rfl;cases e;exact .cons r (a0r (by simpa using hl) λj u b=>h (j+1) u (by simpa using b))
theorem lz(i:X.calm=eJ):ja X (.type "list") (λxs H Q=>∃a kvs,xs=[V.ref a]/\H a=eH (.dK kvs)/\∀p,H p=eI->Q (.ref p) (upd H p (.lst (kvs.map λkv=>kV kv.1)))):=by
 intro f s σ H xs us Q I r h;let(a,kvs,rfl,o,q):=h;let(u,rfl,l):=vx r;cases l;let(z,hd,vs,rel,dd):=nj I.hok (.inl o);let hl:=rel.length;let(ep,da):=dd.dictAt;refine PySem.W.kdl_call (PySem.W.kdl_dict hd) (I.ok.hd i) da (by rw[<- hl];exact z) λh' tk acc c n t b=>?_;refine#[.ref s.heap.objs.size,_,I.laid (t':=tk) n (Ao _) (show ObjOk X.prog X.w _ h' _ (.lst (kvs.map λkv=>kV kv.1)) from#[by rw[Ad];exact z,acc.toList,c,?_,by simpa using t]),eY,q _ (I.hok.fresh (Ao _))];refine a0r (by rw[AG,Ad,hl];exact b.1) λj v hv=>?_;let(k,x,e,m):=b.2 j v (by rw[<- B9];exact hv);let g:=rel.keys;let d:(vs.map (·.1))[j]?=eH k:=by rw[Ar,e];rfl
 rw[<- g,Ar] at d;refine#[kV k,?_,a2j m];rw[Ar];cases hj:kvs[j]? with|none=>rw[hj] at d;cases d|some p=>rw[hj] at d;rw[<- Am d];rfl
theorem a0l{L:eL (eZ×NameKind)}{cl:eL (eZ×JA)}(b:cl.map (·.1)=d)(a:(L.all λy=>(match y.2 with|.cell=>eK|.free=>eK|_=>eJ) || decide (y.1∈d))=eJ)(z:eZ)(h:L.lookup z=eH .cell\/L.lookup z=eH .free):∃c,cl.lookup z=eH c:=by
 let hm:z∈cl.map (·.1):=by
  rw[b];rcases h with h|h;let:=Bm.mp a _ (BE h);simpa using this;let:=Bm.mp a _ (BE h);simpa using this
 clear b a;induction cl with
 |nil=>simp at hm
 |cons p r ih =>
  rw[HY];cases hb:z==p.1 with
  |true=>exact#[_,eY]
  |false =>
   rw[A8,Ak] at hm;rcases hm with h1|h1;rw[h1] at hb;simp at hb;exact ih h1
theorem a9p(N:eU)(m:eL eO)(hi:QI X (.Name x E) c D)(l:∀s H C ex,QTs (blk X N s H a cl C ex) r v)(B:∀s H C ex,QE (blk X N s H a cl C ex) o F)(k:autoParam (closureFor a X.env=pure cl) a4_)(h:autoParam (X.env.cells=cl) a4_)(A:autoParam (N=x::m.map (λj=>(X.N[j]?).getD "")) a4_)(i:autoParam (N.Nodup) a1_)(q:autoParam (cl.map (·.1)=N.tail) a4_)(n:autoParam (((JU a X.env).names.all λy=>(match y.2 with|.cell=>eK|.free=>eK|_=>eJ) || decide (y.1∈N.tail))=eJ) a8_)(p:∀j∈m,∃y,X.N[j]?=eH y/\X.env.kindOf y=eH .cell/\(JU a X.env).names.lookup y=eH .cell:=by first|(intro j g;simp only[Ak,As,fH] at g;subst g;exact#[_,eY,eY,by with_unfolding_all rfl])|(intro j g;simp only[Ak,As,fH] at g;rcases g with rfl|rfl<;>exact#[_,eY,eY,by with_unfolding_all rfl]))(t:autoParam (a.names.lookup x=eH .local) a1_)(f:autoParam (∀z∈a.names,z.2≠.cell) a1_)(b:autoParam (∀z∈a.names,z.2=.local->a.names.lookup z.1=eH .local) a1_)(u:autoParam (X.calm=eJ) a4_)(d:autoParam (a.kind=.function) a4_)(w:autoParam (∀x,JL c X.env x=pure x) a3_):
 QE X (.ListComp o [#[.Name x E,c,r,0]] a pos) (pi m D v F) :=
 #[xl N u hi.run (λs H C ex=>(l s H C ex).run) (λs H C ex=>(B s H C ex).run) d A i t k f b (λz G e=>by rw[h];exact e) (a0l q n) p w]
theorem a65(xs:eL V)(rs:eL α)(R:Hp->JA->β->Prop)(f:α->β)(k:JSeq J M xs)(G:M g)(hz:xs.length<=1000)(hl:rs.length=xs.length)(s:∀H H' a r,R H a r->(∀b u,H b=eH u->(∀ys,u≠.lst ys)->H' b=eH u)->R H' a r)(O:∀(i:eO) (x:V) (r:α),xs[i]?=eH x->rs[i]?=eH r->∀o,Same g o->∀E:VK,(∀t w,Same o w->R w t (f r)->E (.ref t) w)->S (eH x::j8 σ N) o E)(P:∀D H' as,g D=eI->Same g H'->H' D=eH (.lst (as.map V.ref))->JI (λa r=>R H' a r) as (rs.map f)->Q (.ref D) H'):lr J g σ N tYes S Q:=by
 intro D F;let put:∀H ys,Same g H->Same g (upd H D (.lst ys)):=λH ys e b u q=>by rw[fg (gb q F)];exact e b u q
 exists λi m H=>i<=xs.length/\m=xs.length-i/\Same g H/\∃as:eL JA,H D=eH (.lst (as.map V.ref))/\JI (λa r=>R H a r) as ((rs.take i).map f),#[xs.length,AC _,eY,put _ _ (Same.refl _),[],fb,by simpa using Paired.nil];rintro i m H ⟨hi,rfl,e,as,n,hp⟩;let l:=k.stay _ _ G e;by_cases c:i<xs.length
 . refine .inr #[k.go i H l c,λx H' p=>?_];let(rfl,L):=k.yld i H x H' c l p;let A:i<rs.length:=by lia
   let C:rs[i]?=eH rs[i]:=Ag A;let I:rs.take (i+1)=rs.take i++[rs[i]]:=by rw[AJ,C];rfl
   let h:as.length=i:=by
    let h1:=A4 hp;rw[Ad,AL] at h1
    lia
   dsimp only[tYes];rw[eQ rfl];refine O i x rs[i] L C _ e _ λt B j y=>?_;let d:∀b u,B b=eH u->(∀ys,u≠.lst ys)->upd B D (.lst (as.map V.ref++[.ref t])) b=eH u:=λb u q hn=>by
    let:b≠D:=λz=>by rw[z,j _ _ n] at q;exact hn _ (Am q).symm
    rw[fg this];exact q
   refine#[as.map V.ref,j _ _ n,by rw[Ad,h];exact AD c (AB hz (by decide)),xs.length-(i+1),by lia,c,eY,put _ _ (e.trans j),as++[t],by rw[fb,Av];rfl,?_];rw[I,Av];exact Paired.snocP (Paired.mapP hp λa r z=>s _ _ _ _ (s _ _ _ _ z λb u q _=>j b u q) d) (s _ _ _ _ y d)
 let v:i=xs.length:=by lia
 subst v;refine .inl #[k.stop _ H l (Ao _),?_];rw[<- hl,AN] at hp;exact P D H as F e n hp
def metN(ns:eL eN):eO:=(firstMet (λi=>ns.getD i 0) ns.length).length
theorem zk(g:X.calm=eJ):ja X (.type "set") (λvs H Q=>∃(a:JA) (ns:eL eN),vs=[.ref a]/\SqL X.K H a (ns.map V.int)/\ns.length+1<scanBound/\
 ∀p S,H p=eI->Q (.ref p) (upd H p (.set S (metN ns)))):=by
 intro c s σ H vs us Q I r h;let(a,ns,rfl,l,hz,q):=h;let(u,rfl,i):=r.one;cases i;let(its,k,p,_):=I.list l;let d:=vm k;let hl:its.length=ns.length:=d.length;refine PySem.call_set_list (items:=its.toArray) (ns:=ns) (I.ok.hd g) p.isList (by simpa using d) (by rw[A3,hl];exact hz) λh' tk f j=>?_;let hsz:its.toArray.size=ns.length:=by rw[A3];exact hl
 rw[hsz] at f;let fr:H s.heap.objs.size=eI:=I.hok.fresh (Ao _);exact#[.ref s.heap.objs.size,_,I.laid (t':=tk) (λb o e=>j b o (A1 e) e) (Ao _) (show ObjOk X.prog X.w _ h' _ (.set _ (metN ns)) from f),eY,q _ _ fr]
theorem zg:ja X (.builtin "len") (λvs H Q=>∃a S n,vs=[.ref a]/\H a=eH (.set S n)/\n<100000/\Q (.int (n:eO)) H):=by
 intro b s σ H vs us Q I r h;let(a,S,n,rfl,e,hn,q):=h;let(u,rfl,j):=r.one;cases j;let c:s.heap.SetOf (intKind X.prog X.w) a S n:=I.hok a _ e;let(o,es,ep,t,d,f,hd,_,_,_,i,g):=c;subst g;exact PySem.call_len_set d f hd i (by lia) #[.int (es.size:eO),H,I.tok _,#[_,eY],q]
theorem rz(y:X.calm=eJ):ja X (.builtin "sum") (λvs H Q=>∃(a:JA) (ns:eL eN),vs=[.ref a]/\SqL X.K H a (ns.map V.int)/\(∀n∈ns,0<=n/\n<=10000)/\ns.length<=1000/\Q (.int ns.sum) H):=by
 intro o s σ H vs us Q I r h;let(a,ns,rfl,w,t,hn,q):=h;let(u,rfl,z):=r.one;cases z;let(its,C,p,_):=I.list w;let i:=vm C;let e:=i.allInts;let f:=i.numsOf;let(xs,c):=e.items;let k:s.heap.IsList a (intItems xs):=by rw[<- c];exact p.isList
 let b:numsOf (intItems xs).toList=ns:=by rw[<- c];simpa using f
 let v:xs.size=ns.length:=by
  let:=fE Array.size c;let h1:its.length=ns.length:=i.length;simp[intItems] at this
  lia
 rw[nums_intItems] at b;let m:∀(l:eL eN),(∀n∈l,0<=n/\n<=10000)->0<=l.sum/\l.sum<=10000*(l.length:eN):=by
  intro l;induction l with
  |nil=>intro _;simp
  |cons x l ih =>
   intro h;let h1:=ih λn hn=>h n (Ah _ hn);let h2:=h x (Af ..);rw[Fg,Aw];constructor;lia
   let:((l.length+1:eO):eN)=(l.length:eN)+1:=by lia
   rw[this];lia
 let d:PySem.SumFits ns:=λj g=>by
  let hm:ns[j]∈ns:=AM g;let h1:=t _ hm;let h2:=m (ns.take (j+1)) λn hn=>t n (Bw hn);let h3:((ns.take (j+1)).length:eN)<=1000:=by rw[AL];lia
  let A:ns.getD j 0=ns[j]:=by rw[Ay,Ag g];rfl
  unfold InLong;constructor;rw[A];lia;lia
 refine sum_intList (I.ok.hd y) k (λj g=>?_) λh' tk t' B=>?_;rw[numAt_eq,preSum_eq,b];exact d j (by lia);refine#[.int ns.sum,H,I.kept (t':=tk) B,#[t',?_],q];rw[preSum_eq,b,BC (by lia)]
theorem aer(m:X.A.units+32<cLine):OpR X (JM .In) (λx y H Q=>∃p ys a d,y=.ref p/\SqL X.K H p ys/\DpAll X.K H ys a/\Dp X.K H x d/\EqOk (.list a)/\EqOk d/\Q (.bl (a.any λe=>E6 e d)) H):=by
 intro b s σ H x y v u Q I g j h;let(p,ys,a,d,rfl,f,hds,hd,i,c,q):=h;let(as,l):=Dp.reads I (.lst f hds) j;let(bs,k):=Dp.reads I hd g;let h1:=i.1;simp only[BK] at h1;let h2:=c.2;exact PySem.SeqAt.in_list_reads l k h1 c.1 (by let:=HU (Bn a) d.depth;lia) #[.bl _,H,I,eY,q]
theorem a1r:ja X (.builtin "isinstance") (λxs H Q=>∃i,xs=[.int i,.ty "int"]/\Q (.bl eJ) H):=by
 intro a s σ H xs us Q I r h;let(z,rfl,q):=h;cases r with
 |cons r1 r =>
  cases r with
  |cons r2 r =>
   cases r;let(t,rfl):=r1;cases r2;exact IsiPair.int_int #[.bl eJ,H,I,eY,q]
theorem a1z:ja X (.builtin "isinstance") (λxs H Q=>∃i,xs=[.int i,.ty "bool"]/\Q (.bl eK) H):=by
 intro a s σ H xs us Q I r h;let(z,rfl,q):=h;cases r with
 |cons r1 r =>
  cases r with
  |cons r2 r =>
   cases r;let(t,rfl):=r1;cases r2;exact IsiPair.int_bool #[.bl eK,H,I.tok _,eY,q]
theorem a6h{cl cells:eL (eZ×JA)}(h:∀p∈cl,cells.lookup p.1=eH p.2)(y:eZ)(c:JA)(e:cl.lookup y=eH c):cells.lookup y=eH c:=h (y,c) (BE e)
inductive ClIn(cells:eL (eZ×JA)):eL (eZ×JA)->Prop
 |nil:ClIn cells []
 |cons{x:eZ}{a:JA}{r:eL (eZ×JA)}:cells.lookup x=eH a->ClIn cells r->ClIn cells ((x,a)::r)
theorem ClIn.all(h:ClIn cells cl):∀p∈cl,cells.lookup p.1=eH p.2:=by
 induction h with
 |nil=>intro p hp;cases hp
 |cons h _ ih =>
  intro p hp;rcases Ak.mp hp with rfl|z;exact h;exact ih p z
inductive IxIn(X:Cx)(sc:Scope):eL eO->Prop
 |nil:IxIn X sc []
 |cons{j:eO}{y:eZ}{r:eL eO}:X.N[j]?=eH y->X.env.kindOf y=eH .cell->(JU sc X.env).names.lookup y=eH .cell->IxIn X sc r->IxIn X sc (j::r)
theorem IxIn.all(h:IxIn X b a):∀j∈a,∃y,X.N[j]?=eH y/\X.env.kindOf y=eH .cell/\(JU b X.env).names.lookup y=eH .cell:=by
 induction h with
 |nil=>intro p hp;cases hp
 |cons h1 h2 h3 _ ih =>
  intro p hp;rcases Ak.mp hp with rfl|z;exact#[_,h1,h2,h3];exact ih p z
theorem ni(N:eU)(k:eL eO)(hi:QI X (.Name x B) c A)(i:∀s H C ex,QTs (blk X N s H a cl C ex) p t)(w:∀s H C ex,QE (blk X N s H a cl C ex) m D)(h:autoParam (closureFor a X.env=pure cl) a4_)(f:autoParam (ClIn X.env.cells cl) a10_)(v:autoParam (N=x::k.map (λj=>(X.N[j]?).getD "")) a4_)(g:autoParam (N.Nodup) a1_)(o:autoParam (cl.map (·.1)=N.tail) a4_)(l:autoParam (((JU a X.env).names.all λy=>(match y.2 with|.cell=>eK|.free=>eK|_=>eJ) || decide (y.1∈N.tail))=eJ) a8_)(n:autoParam (IxIn X a k) a10_)(q:autoParam (a.names.lookup x=eH .local) a1_)(e:autoParam (∀z∈a.names,z.2≠.cell) a1_)(b:autoParam (∀z∈a.names,z.2=.local->a.names.lookup z.1=eH .local) a1_)(r:autoParam (X.calm=eJ) a4_)(d:autoParam (a.kind=.function) a4_)(u:autoParam (∀x,JL c X.env x=pure x) a3_):
 QE X (.ListComp m [#[.Name x B,c,p,0]] a pos) (pi k A t D) :=
 #[xl N r hi.run (λs H C ex=>(i s H C ex).run) (λs H C ex=>(w s H C ex).run) d v g q h e b (a6h f.all) (a0l o l) n.all u]
theorem oq(N:eU)(p:eL eO)(r:X.N.Nodup)(w:X.N[i]?=eH h)(B:Loc X.env.scope h)(hi:QI X (.Name x D) a O)(A:∀s H C ex,QTs (blk X N s H b cl C ex) k G)(M:∀s H C ex,QE (blk X N s H b cl C ex) g P)(m:autoParam (JX (.ListComp g [#[.Name x D,a,k,0]] b pos) (eH (.Name h L)) f.line X.env=pure eJ) a4_)(t:autoParam (X.fn h=eJ\/X.env.scope.names.lookup h=eH .local) a0_)(o:autoParam (closureFor b X.env=pure cl) a4_)(l:autoParam (ClIn X.env.cells cl) a10_)(J:autoParam (N=x::p.map (λj=>(X.N[j]?).getD "")) a4_)(n:autoParam (N.Nodup) a1_)(v:autoParam (cl.map (·.1)=N.tail) a4_)(q:autoParam (((JU b X.env).names.all λy=>(match y.2 with|.cell=>eK|.free=>eK|_=>eJ) || decide (y.1∈N.tail))=eJ) a8_)(u:autoParam (IxIn X b p) a10_)(E:autoParam (b.names.lookup x=eH .local) a1_)(e:autoParam (∀z∈b.names,z.2≠.cell) a1_)(c:autoParam (∀z∈b.names,z.2=.local->b.names.lookup z.1=eH .local) a1_)(F:autoParam (X.calm=eJ) a4_)(d:autoParam (b.kind=.function) a4_)(I:autoParam (∀x,JL a X.env x=pure x) a3_):
 QS X (.Assign [.Name h L] (.ListComp g [#[.Name x D,a,k,0]] b pos) f) (tAsg (pi p O G P) (iq i)) :=
 #[a51 N r w B m t F hi.run (λs H C ex=>(A s H C ex).run) (λs H C ex=>(M s H C ex).run) d J n E o e c (a6h l.all) (a0l v q) u.all I]
theorem aaa(xs:eL V)(rs:eL α)(R:JA->Hp->V->β->Prop)(f:α->β)(j:JSeq J M xs)(G:M g)(hz:xs.length<=1000)(hl:rs.length=xs.length)(s:∀D H H' y r,R D H y r->vy D H H'->R D H' y r)(O:∀(D:JA) (i:eO) (x:V) (r:α),xs[i]?=eH x->rs[i]?=eH r->∀k,Same g k->k D≠eI->∀E:VK,(∀y v,Same k v->R D v y (f r)->E y v)->S (eH x::j8 σ N) k E)(P:∀D H' ys,g D=eI->Same g H'->H' D=eH (.lst ys)->JI (λy r=>R D H' y r) ys (rs.map f)->Q (.ref D) H'):lr J g σ N tYes S Q:=by
 intro D F;let put:∀H ys,Same g H->Same g (upd H D (.lst ys)):=λH ys e b u q=>by rw[fg (gb q F)];exact e b u q
 exists λi m H=>i<=xs.length/\m=xs.length-i/\Same g H/\∃ys:eL V,H D=eH (.lst ys)/\JI (λy r=>R D H y r) ys ((rs.take i).map f),#[xs.length,AC _,eY,put _ _ (Same.refl _),[],fb,by simpa using Paired.nil];rintro i m H ⟨hi,rfl,e,ys,n,hp⟩;let l:=j.stay _ _ G e;by_cases c:i<xs.length
 . refine .inr #[j.go i H l c,λx H' p=>?_];let(rfl,L):=j.yld i H x H' c l p;let A:i<rs.length:=by lia
   let C:rs[i]?=eH rs[i]:=Ag A;let I:rs.take (i+1)=rs.take i++[rs[i]]:=by rw[AJ,C];rfl
   let h:ys.length=i:=by
    let h1:=A4 hp;rw[Ad,AL] at h1
    lia
   dsimp only[tYes];rw[eQ rfl];refine O D i x rs[i] L C _ e (by rw[n];simp) _ λy B o w=>?_;let d:vy D B (upd B D (.lst (ys++[y]))):=λb u q hn=>by rw[fg hn];exact q
   exists ys,o _ _ n,by rw[h];exact AD c (AB hz (by decide)),xs.length-(i+1),by lia,c,eY,put _ _ (e.trans o),ys++[y],fb;rw[I,Av];exact Paired.snocP (Paired.mapP hp λa r z=>s _ _ _ _ _ (s _ _ _ _ _ z (o.x D)) d) (s _ _ _ _ _ w d)
 let t:i=xs.length:=by lia
 subst t;refine .inl #[j.stop _ H l (Ao _),?_];rw[<- hl,AN] at hp;exact P D H ys F e n hp
theorem a0y(ns:eL eN):metN ns=ns.length↔ns.Nodup:=by
 let key:∀(l acc:eL eN),(l.foldl step_dedup acc).length<=acc.length+l.length/\(acc.Nodup->((l.foldl step_dedup acc).length=acc.length+l.length↔(acc++l).Nodup)):=by
  intro l;induction l with
  |nil=>intro acc;simp
  |cons x l ih =>
   intro acc;rw[List.foldl_cons];let h1:=(ih (step_dedup acc x)).1;by_cases hm:acc.any (·==x)=eJ
   . let e:step_dedup acc x=acc:=by unfold step_dedup;rw[eQ hm]
     rw[e] at h1 |-;let c:x∈acc:=by
      rw[AS] at hm;let(y,f,b):=hm;let:y=x:=by simpa using b
      exact this ▸ f
     refine#[by rw[Aw];lia,λa=>#[λh=>?_,λh=>?_]];rw[Aw] at h;lia;exfalso;rw[AE] at h;exact h.2.2 x c x (Af ..) rfl
   let e:step_dedup acc x=acc++[x]:=by unfold step_dedup;rw[eP hm]
   let c:¬ x∈acc:=λz=>hm (AS.mpr #[x,z,by simp]);let h2:=(ih (acc++[x])).2;let h3:=(ih (acc++[x])).1;rw[e];rw[Ai,A2] at h2 h3;refine#[by rw[Aw];lia,λa=>?_];let d:=h2 (oa a c);rw[A5,CB] at d;rw[Aw,<- d]
   lia
 let h:=(key ns []).2 AV;let e:(AU ns.length).map (λi=>ns.getD i 0)=ns:=by
  apply List.ext_getElem;simp;intro i h1 h2;simp[Ag h2]
 unfold metN firstMet;rw[e];simpa using h
theorem adi(ns:eL eN):metN ns<=ns.length:=firstMet_length_le _ _
theorem ae8(c:QE X e b)(a:autoParam (JT e fl X.env (eval e X.env)=eval e X.env) a4_):QE X (.Attribute e fl pos) (tFld X.K b fl):=#[aei c.run a]
theorem af5(d:QE X o b)(hv:QE X value e)(c:autoParam (JX value (eH (.Attribute o fl a)) pos.line X.env=pure eK) a4_):QS X (.Assign [.Attribute o fl a] value pos) (sFld X.K b e fl):=#[aeu d.run hv.run c]
theorem gi(r:QE X o j)(c:Cls X.K C)(hm:Meth X.K C m f)(F:FnOk X.prog X.w X.K X.mg X.base CX k f fd ps sp)(n:Room k X.A)(p:Binds X.K fd ps q)(hd:Vals d q)(l:ku CX X E)(s:QA X (e::es) t)(b:autoParam (JF (e::es) X.env=(eK,eval e X.env)::JF es X.env) a4_)(g:autoParam ((JO pos (JF es X.env)).any (·.1)=eK) a4_)(i:autoParam (eval (.Call (.Attribute o m a) (e::es) [] pos) X.env=(do
 let h<-eval o X.env
 standAt a.atName
 let (f,first)<-holding [h] (getMethod h m pl)
 callWith pos f first (JO pos (JF (e::es) X.env)) (Jh pos (JZ [] X.env)))) a4_):
 QE X (.Call (.Attribute o m a) (e::es) [] pos) (let t':=t;a02 C m sp d E j t'):=#[adc r.run c hm F n p hd l s.run b g i]
theorem rk(l:QE X o i)(c:Cls X.K C)(hm:Meth X.K C m f)(F:FnOk X.prog X.w X.K X.mg X.base CX k f fd ps sp)(n:Room k X.A)(e:Binds X.K fd ps h)(hd:Vals b h)(j:ku CX X E)(g:autoParam (eval (.Call (.Attribute o m a) [] [] pos) X.env=(do
 let d<-eval o X.env
 standAt a.atName
 let (f,first)<-holding [d] (getMethod d m pl)
 callWith pos f first (JO pos (JF [] X.env)) (Jh pos (JZ [] X.env)))) a4_):
 QE X (.Call (.Attribute o m a) [] [] pos) (a02 C m sp b E i tNil):=#[a9j l.run c hm F n e hd j g]
theorem a2r(M:Mk X.K C f)(F:FnOk X.prog X.w X.K X.mg X.base CX k f fd ps sp)(m:Room (k+1) X.A)(d:Gl X x)(hm:X.mg x=eH (.ref C))(g:Binds X.K fd ps h)(hd:Vals c h)(i:ku CX X E)(l:QA X (e::es) t)(b:autoParam ((x==("__debug__":eZ))=eK) a1_)(j:autoParam (JF (e::es) X.env=(eK,eval e X.env)::JF es X.env) a4_)(a:autoParam ((JO pos (JF es X.env)).any (·.1)=eK) a4_):
 QE X (.Call (.Name x p) (e::es) [] pos) (abv C sp c E t):=#[ach M F m d hm g hd i l.run b j a]
theorem a9d:QE X (.Dict [] [] pos) a7p:=#[a9a]
theorem aas(I:Inv X c σ H s)(e:H a=eH (.dK kvs))(j:RelV (kV k) u)(m:RelV v r)(hl:kvs.length<JB)(h1:∀z f s',valV kvs k=eH z->Inv X c σ H s'->RelV z f->Q f s')(h2:valV kvs k=eI->∀s',Inv X c σ (upd H a (.dK (putK kvs k v))) s'->Q r s'):
 JD (JE X.prog X.w) A (call (.builtin "dict.setdefault") [.ref a,u,r]) Q E s:=by
 let(z,hd,vs,rel,dd):=nt I.hok e;refine EA ET dd.typeIs PySem.F.entry_dict_setdefault (PySem.F.args_dict_setdefault_3 _ _ _) (kt_meets_setdefault (gu X.prog X.w) a (nq j) hd r) #[vs,dd,by rw[<- rel.length];exact z,λf i=>?_,λhn h' d l=>?_]
 . let b:=rel.val k;rw[i] at b;cases hz:valV kvs k with|none=>rw[hz] at b;exact b.elim|some zz=>rw[hz] at b;exact h1 zz f _ hz (I.tok _) b
 let h:valV kvs k=eI:=by
  let b:=rel.val k;rw[hn] at b;cases hz:valV kvs k with|none=>rfl|some zz=>rw[hz] at b;exact b.elim
 refine h2 h _ ?_;let n:∃q,h'.get? a=eH q:=let ⟨q,_,_,hq,_⟩:=d;#[q,hq];let g:(putK kvs k v).length<=JB:=by let:=jd kvs k v;lia
 exact mw I (by rw[e];exact True.intro) l n (ou g hd (rel.put k m) d)
def a48(td ty tx:TE):TE:=fun σ H Q=>td σ H λx H1=>∃a,x=.ref a/\IsD H1 a/\ty σ H1 λy H2=>tx σ H2 λz H3=>∃kvs k,H3 a=eH (.dK kvs)/\y=kV k/\kvs.length<JB/\
 (∀v,valV kvs k=eH v->Q v H3)/\(valV kvs k=eI->Q z (upd H3 a (.dK (putK kvs k z))))
theorem ad4(w:PE X o td)(P:PE X e ty)(T:PE X f G)(m:M2 X o "setdefault" g e f c):PE X (.Call (.Attribute o "setdefault" g) [e,f] [] c) (a48 td ty G):=by
 intro b s σ H Q I h;refine Ed m.base m.few m.line CS ET PySem.F.type_dict_setdefault (thn (w b s σ H _ I h) λu s1 W=>?_);let(x,R,p,t,a,ex,d,B):=W;subst ex;obtain rfl:u=Value.ref a:=t;let(U,C,_):=wq p d;exists U,C;rw[m.trees];refine Cc rfl (Ck (BQ (thn (P b s1 σ R _ p B) λiv N #[y,A,q,D,Y] =>
  BQ (thn (T b N σ A _ q Y) λfv Z #[z,L,E,n,kvs,k,S,M,hl,O,r]=>CG ?_))))
 subst M;exact aas E S D n hl (λv w' J l j i=>#[v,L,j,i,O v l]) λl J j=>#[z,_,j,n,r l]
theorem wz(h:QE X o td)(c:QE X e ty)(d:QE X f g)(m:autoParam (M2 X o "setdefault" b e f a) a9_):QE X (.Call (.Attribute o "setdefault" b) [e,f] [] a) (a48 td ty g):=#[ad4 h.run c.run d.run m]
theorem rg(f:s.heap.IsKeyIter J d n es.size ep)(h1:s.heap.get? d=eH od)(h2:od.data=.dict es ep)(g:A.handled=eI)(h:∀(hn:n<es.size) h',h'.IsKeyIter J d (n+1) es.size ep->BF J s.heap h'->Q (eH es[n].key) {s with heap:=h'})(j:es.size<=n->∀h',Ga J s.heap h'->Q eI {s with heap:=h'}):
 JD (JE prog w) A (JW (.ref J)) Q E s:=by
 let(k,g1,i,c):=id f;let ty:=f.typeIs;let no:Builtin.Dict_items.ownsTuple "dict_keyiterator"=eK:=by decide
 let nn:¬ ((Value.ref d==Value.none)=eJ):=Az;let pos:¬ ((n:eN)<0):=by lia
 unfold JW;refine Ac (CU (Bp (name:=BJ "__next__") ty Ee (Bl Ee ty PySem.F.entry_dict_keyiterator_next ?_ (PySem.F.args_dict_keyiterator_next_1 _))));refine Ac (Al (Ac (Ac ?_)))
 first|refine Ac (Dg ty (Al (Ac (EO g1 c ?_))))|refine Ac (DS ty (Al (Ac (EO g1 c ?_))))
 simp only[no,B4,if_false];show JD _ _ (if(Value.ref d==Value.none)=eJ then _ else _) _ _ s;rw[eP nn];refine Ac (Al (Ac (HH h1 h2 ?_)));rw[eP (by simp)];refine Ac (Al (Ac (wpAny_dictEpoch h1 h2 ?_)));rw[eP (by simp)];refine Al ?_;by_cases hn:n<es.size
 . simp only[pos,if_false,AW,Fw hn];refine Ac ?_
   first|refine Ac (Dg ty (Al (Ac (El ty ?_))))|refine Ac (DS ty (Al (Ac (El ty ?_))))
   show JD _ _ (setField (.ref J) 1 (Jc ((n:eN)+1))>>=_) _ _ s;refine Ac (EU g1 c (by simp) ?_);let e:(s.heap.update J (Fh (·.setIfInBounds 1 (Jc ((n:eN)+1))))).IsKeyIter J d (n+1) es.size ep:=#[_,BH _ g1 (Em (CZ c _)),(Fp ..).trans i,(by rw[CZ c];simp[Jc])]
   refine Ac (BI (Ac (El (s:={s with heap:=s.heap.update J (Fh (·.setIfInBounds 1 (Jc ((n:eN)+1))))}) e.typeIs ?_)));exact Al (Al #[_,eY,Al (h hn _ e (Cq ..))])
 simp only[pos,if_false,AW,Array.getElem?_eq_none (Fz hn)];refine Ac ?_
 first|refine Ac (Dg ty (Al ?_))|refine Ac (DS ty (Al ?_))
 show JD _ _ (setField (.ref J) 0 .none>>=_) _ _ s;refine Ac (EU g1 c (by simp) (Ac ?_));simp only[newExc,newTuple];refine Ac (AX ?_ (by size_fits));refine Ac (m:=firstArgMember _ _) (FX (a:=Value.none) (by first|rfl|(simp only[firstArgMember];rfl)) (AX ?_ (by size_fits)));simp only[raiseNew];refine Ac (wpAny_handled ?_);rw[show A.in1.handled=eI from g];refine Ac (Al (wpAny_throw ?_));let sub:=ER;refine Ac (Dt (T := "StopIteration") (b:=eJ) #[_,Ax _ rfl,eY] sub ?_);exact Al (j (Fz hn) _ (((Cq ..).extBut.push _).push _))
theorem a0q(hd:(d==JS)=eK)(h1:s.heap.get? d=eH od)(a:od.ExactDict)(h2:od.data=.dict es ep)(q:Q (.ref s.heap.objs.size) {s with heap:=s.heap.push {cls:=.type "dict_keyiterator",data:=.fields [.ref d,.int 0 0,.int es.size 0,.int ep 0].toArray}}):JD (JE prog w) A (pyIter (.ref d)) Q E s:=by
 let ty:s.TypeIs (.ref d) "dict" := #[od,h1,a.1]
 refine Fn ty Gb (Bl Gb ty PySem.F.entry_dict_iter ?_ (PySem.F.args_dict_iter_1 _));unfold Builtin.«dict.__iter__»;refine Ac ?_;unfold Builtin.Dict.dictSlotNone;refine Ac (Gu ty (Al ?_));show JD _ _ (Gv d>>=_) _ _ s;unfold Gv;rw[eP (show ¬ (d==JS)=eJ by rw[hd];exact Az)];refine Ac (Al (Ac (HH h1 h2 (Ac (wpAny_dictEpoch h1 h2 ?_)))));exact Ac (AX (Al #[_,eY,"dict_keyiterator",_,#[_,Ax _ rfl,eY],PySem.F.slot_dict_keyiterator_next.lookup,q]))
theorem v8(t:X.calm=eJ):ja X (.builtin "any") (λxs H Q=>∃(a:JA) (bs:eL fJ),xs=[.ref a]/\SqL X.K H a (bs.map V.bl)/\Q (.bl (bs.any id)) H):=by
 intro c s σ H xs us Q I r h;let(a,bs,rfl,C,q):=h;let(u,rfl,j):=r.one;cases j;let(its,l,p,hz):=I.list C;let g:a<s.heap.objs.size:=by let(o,n,e,_):=p;exact A1 e
 refine call_any_walk (Eb p.isList ?_);let len:bs.length=its.length:=by let:=l.length;simpa using this
 exists s.heap.objs.size,_,_,_,_,_,λi=>(bs[i]?).getD eK,eY,Io (A:=X.A.in1) (show X.A.in1.handled=eI from I.ok.hd t) s.heap.objs.size a (AA g) its.toArray,#[#[_,Ax _ rfl,eY,eY],p.isList.at λo e=>Aj _ e],?_
 . intro i v s' E D hv m;let d:its[i]?=eH v:=by simpa using hv
   cases f:bs[i]? with
   |none =>
    let h1:=DG.mp f;let h2:=(An.mp d).1
    lia
   |some b =>
    let(u,k,j):=l.get (i:=i) (x:=V.bl b) (by rw[Ar,f]<;>rfl);rw[d] at k;cases k;cases j;simp only[f,CM] at m;exact BL m
 intro h' tk w;let e:(AU its.toArray.size).any (λi=>(bs[i]?).getD eK)=bs.any id:=by
  rw[A3,<- len];rw[Bd];simp only[AS,Ba,_root_.id];constructor;rintro⟨i,hi,e⟩;rw[Ag hi,CM] at e;exact#[_,AM hi,e];rintro⟨b,f,e⟩;let(i,hi,y):=GV.mp f;exact#[i,hi,by rw[Ag hi,CM,y];exact e]
 let fr:FpOk X c H s.heap.objs.size:=I.fpOk (Ao _) (I.hok.fresh (Ao _));refine#[.bl (bs.any id),H,?_,by rw[e];rfl,q];let B:Inv X c σ H {s with heap:=h',toks:=tk}:=I.kept (h':=h') (t':=tk) λb o e=>w b o (λz=>by
  let:b=s.heap.objs.size:=by simpa using z
  exact eR (A1 e) (by rw[this];exact Bb _)) (Aj _ e)
 exact B
def NF(X:Cx)(a:JA):Prop:=∀o u,X.H₀ a≠eH (.frz o u)
theorem Inv.nf(I:Inv X b σ H s)(e:H a=eH u)(c:∀o v,u≠.frz o v):NF X a:=λo v z=>by
 let:=I.base.frzs a o v z;rw[e] at this;exact c o v (Am this)
theorem Inv.thaw(I:Inv X d σ H s)(e:H a=eH (.frz o u))(nf:NF X a):Inv X d σ (upd H a u) s:=by
 let k:∀b v,H b=eH v->(∀g f,v≠.frz g f)->(upd H a u) b=eH v:=λb v q n=>by
  rw[fg λz=>by rw[z,e] at q;exact n o u (Am q).symm];exact q
 let k0:∀b,H b=eI->(upd H a u) b=eI:=λb q=>by
  rw[fg λz=>by rw[z,e] at q;cases q];exact q
 let hok:HOk X.prog X.w (upd H a u) s.heap:=λb v q=>by
  let st:∀{c:JA} {i:HO},ObjOk X.prog X.w H s.heap c i->ObjOk X.prog X.w (upd H a u) s.heap c i:=λx=>x.stay (λ_ _ _ z=>z) (λc z=>k c _ z λ_ _ y=>by cases y) λc xs z=>k c _ z λ_ _ y=>by cases y
  by_cases j:b=a;subst j;rw[fb] at q;cases q;exact st (I.hok b _ e).2;rw[fg j] at q;exact st (I.hok b v q)
 let bs:=I.base;refine#[I.ok,I.os,I.bare,#[bs.keep,bs.slot,λb ob q n r=>k0 b (bs.free b ob q n r),bs.there,λb xs q=>k b _ (bs.tups b xs q) (λ_ _ y=>nomatch y),λb g f q=>?_,λb ps q=>?_],I.loc,I.cell,k0 _ I.free,λx c z=>k0 _ (I.freeC x c z),λp hp=>?_,hok,I.len];let h:=bs.frzs b g f q;rw[fg λz=>by rw[z] at q;exact nf g f q];exact h;let(m,h):=bs.tbls b ps q;exact#[m,k b _ h λ_ _ y=>by cases y];let(t,l,p3):=I.pin p hp;exact#[t,k0 _ l,p3]
def ag5(X:Cx)(t:TE):TE:=fun σ H Q=>t σ H λv H2=>∃a o u,H2 a=eH (.frz o u)/\NF X a/\Q v (upd H2 a u)
theorem adt(h:QE X ex t):QE X ex (ag5 X t):=#[λb s σ H Q I q=>thn (h.run b s σ H _ I q) λg s1 #[v,f,c,r,a,o,u,e,nf,d]=>#[v,_,c.thaw e nf,r,d]]
def Itd(a:JA)(od:Obj)(kvs:eL (eL Key×V))(bs:eL JA):It where
 go:=λi H=>H a=eH (.frz od (.dT kvs))/\i<bs.length
 yld:=λi H x H'=>H'=H/\(bs.map V.ref)[i]?=eH x
 stop:=λi H=>H a=eH (.frz od (.dT kvs))/\bs.length<=i
def DEnt(od:Obj)(bs:eL JA)(es:fF DictEntry)(ep:eO):Prop:=od.ExactDict/\od.data=.dict es ep/\es.toList.map (·.key)=bs.map Value.ref
theorem adp{K:Aa}(hd:DEnt od bs es ep):
 Turn P w K tg (Itd a od kvs bs) [J] J (λi h=>h.IsKeyIter J a i es.size ep) where
 mem:=by simp
 obj:=λi h st b hb=>by
  let e:b=J:=by simpa using hb
  subst e;let(o,h1,h2,h3):=st;exact#[o,h1,λv z=>by rw[h3] at z;cases z]
 keep:=λi h h' st k=>by
  let(o,h1,h2):=st;exact#[o,k J (by simp) o h1,h2]
 item:=by
  intro X hP hw hK hc i pins s σ H E I hf st hg;subst hP hw hK;let(f0,f1,f2,f3,f4,f5):=hf J (by simp);let(g1,g2):=I.hok a _ hg.1;let hsz:es.size=bs.length:=by
   let:=fE FW hd.2.2;rw[Ad,Ad,AG] at this;exact this
  refine rg st g1 hd.2.1 (I.ok.hd hc) (λhn h' st' sb=>?_) (λhn=>eR hg.2 (by lia));let I1:Inv X pins σ H {s with heap:=h',toks:=s.toks}:=I.turned (λb o hb e=>(sb.2 b hb).trans e) f0 f1 f3 f4 f5;let hk:es[i].key=.ref (bs[i]'hg.2):=by
   let e1:=fE (·[i]?) hd.2.2;simp only[Ar] at e1;rw[Ag (by rw[AG];exact hn),Ag hg.2] at e1;let:=Am e1;simpa using this
  refine#[_,eY,letGo_keyiter st' #[.ref (bs[i]'hg.2),H,I1,hk,#[eY,by rw[Ar,Ag hg.2];rfl],st',λb hb=>(hf b hb).1]]
 done:=by
  intro X hP hw hK hc i pins s σ H E I hf st hg;subst hP hw hK;let(f0,f1,f2,f3,f4,f5):=hf J (by simp);let(g1,g2):=I.hok a _ hg.1;let hsz:es.size=bs.length:=by
   let:=fE FW hd.2.2;rw[Ad,Ad,AG] at this;exact this
  exact rg st g1 hd.2.1 (I.ok.hd hc) (λhn=>eR hg.2 (by lia)) (λ_ h' eb=>#[eY,I.turned (t':=s.toks) (λb o hb e=>eb b o hb e) f0 f1 f3 f4 f5])
 self:=λ_ _ _ _ _ st h=>GY st h
def a5y(X:Cx)(tl:TE):TI:=fun σ H R=>tl σ H λx H1=>∃a kvs,x=.ref a/\H1 a=eH (.dT kvs)/\∀od bs,NF X a->JI (λ(p:eL Key×V) b=>H1 b=eH (.tup (p.1.map kV))) kvs bs->R (Itd a od kvs bs) (upd H1 a (.frz od (.dT kvs)))
theorem a71{H:Hp}(h:JI (λ(p:eL Key×V) (q:eL Key×JA×JC)=>p.1=q.1/\H q.2.1=eH (.tup (p.1.map kV))/\RelV p.2 q.2.2) kvs xs):JI (λ(p:eL Key×V) b=>H b=eH (.tup (p.1.map kV))) kvs (xs.map (·.2.1)):=by
 induction h with|nil=>exact .nil|cons h t ih=>exact .cons h.2.1 ih
theorem a8l(hl:PE X l n):PI X t l (a5y X n):=by
 intro c s σ H R I h;refine thn (hl c s σ H _ I h) λv s1 r=>?_;let(x,j,i,r1,a,kvs,ex,e,q):=r;subst ex;cases r1;let(z,hd,xs,rel,od,es,ep,h1,g,h2,h3,m):=(show ObjOk X.prog X.w j s1.heap a (.dT kvs) from i.hok a _ e)
 let f:Inv X c σ (upd j a (.frz od (.dT kvs))) s1:=i.write (x:=a) (e:=a) (h':=s1.heap) (t':=s1.toks) (by rw[e];exact True.intro) (.inl rfl) (λ_ _ _ z=>z) #[od,h1] #[h1,z,hd,xs,Paired.mapP rel λp q d=>#[d.1,by rw[fg (j1 d.2.1 e (λz=>nomatch z))];exact d.2.1,d.2.2],od,es,ep,h1,g,h2,h3,m];let ent:DEnt od (xs.map (·.2.1)) es ep:=#[g,h2,by rw[h3,B3,B3];rfl]
 refine a0q hd h1 g h2 ?_;refine#[s1.heap.objs.size,[s1.heap.objs.size],_,_,upd j a (.frz od (.dT kvs)),eY,f.kept (t':=s1.toks) λb o e=>Aj _ e,adp ent,#[_,Ax _ rfl,eY,eY],λb k=>?_,q od _ (i.nf e λ_ _ z=>nomatch z) (a71 rel)];let e:b=s1.heap.objs.size:=by simpa using k
 subst e;exact f.fpOk (Ao _) (f.hok.fresh (Ao _))
theorem a9r(hl:QE X l a):QI X b l (a5y X a):=#[a8l hl.run]
theorem adv:JSeq (Itd a od kvs bs) (λH=>H a=eH (.frz od (.dT kvs))) (bs.map V.ref) where
 go:=λi H h hi=>#[h,by rw[Ad] at hi;exact hi]
 stop:=λi H h hi=>#[h,by rw[Ad] at hi;exact hi]
 yld:=λi H x H' _ h y=>y
 stay:=λH H' h e=>e _ _ h
end L2
namespace Mir
open PySem L2
def noNames:eU:=["nil","any","is","not","cell","stretch","tree","nothing","then","with"]
theorem a38(a b:eZ):eqV (.str a) (.str b)=decide (a=b):=by
 show(a==b)=decide (a=b);by_cases h:a=b;subst h;simp;rw[fA h];exact beq_eq_false_iff_ne.mpr h
theorem vb(x:eZ)(l:eU):inV (.str x) (l.map V.str)=decide (x∈l):=by
 unfold inV;rw[Bd,AS,fG];constructor;rintro⟨y,a,e⟩;let(z,hz,rfl):=Au.mp a;rw[a38,fG] at e;exact e ▸ hz;intro h;exact#[.str x,Au.mpr #[x,h,eY],by rw[a38];simp]
theorem pk(l:eU):(l.map V.str).all nr=eJ:=by
 rw[Bm];intro v hv;let(z,_,rfl):=Au.mp hv;rfl
end Mir
namespace L2
abbrev rQ(a:JA):eM V:=eH (.ref a)
abbrev iQ(a:eN):eM V:=eH (.int a)
abbrev nQ:eM V:=eI
end L2
namespace K34
open L2 Mir
def top(i:eO):JJ:=PySem.Challenge.pw_apart_k34_ends_amid_stretches.main.body.getD i (.Pass #[0,0,0,0])
structure Con(K:Aa)(mg:eZ->eM JC)(w:JV):Prop where
 noNames:∃a,Glob mg "NO_NAMES" (.ref a)/\∀H,SqT K H a (noNames.map V.str)
 min:mg "min"=eI
 len:mg "len"=eI
 all:mg "all"=eI
 any:mg "any"=eI
 isi:mg "isinstance"=eI
 list:mg "list"=eI
 int:mg "int"=eI
 bool:mg "bool"=eI
 str:mg "str"=eI
 dict:mg "dict"=eI
 sorted:mg "sorted"=eI
 set:mg "set"=eI
 sum:mg "sum"=eI
 range:mg "range"=eI
 tuple:mg "tuple"=eI
 max:mg "max"=eI
 zip:mg "zip"=eI
theorem iteB{b:fJ}{A B:Prop}(h1:b=eJ->A)(h2:b=eK->B):if b=eJ then A else B:=by
 cases b with|true=>rw[eQ rfl];exact h1 rfl|false=>rw[eP Az];exact h2 rfl
theorem Paired.nth:∀{c:eL α}{l₂:eL β}{i:eO}{a:α},JI F c l₂->c[i]?=eH a->∃b,l₂[i]?=eH b/\F a b
 |_,_,_,_,.nil,e=>by simp at e
 |_,_,0,_,.cons h _,e=>by simp at e;subst e;exact#[_,eY,h]
 |_,_,i+1,_,.cons _ t,e=>by
  let(b,f,d):=Paired.nth (i:=i) t (by simpa using e);exact#[b,by simpa using f,d]
theorem gty(hm:X.mg x=eI)(hv:bootBuiltins x=eH (.type n))(b:autoParam (Gl X x) a4_)(hn:autoParam (x≠"__name__") a1_)(a:autoParam ((x==("__debug__":eZ))=eK) a1_):PE X (.Name x pos) (tC (.ty n)):=ace b hm hv rfl hn a
structure Cal(K:Aa)(mg:eZ->eM JC)(x:eZ)(f:JA)(fd:JY)(ps:eU):Prop where
 name:mg x=eH (.ref f)
 keep:BV K (.ref f)=eJ
 bind:Binds K fd ps []
abbrev eB(_:FnOk P w K mg base X k f d p s)x:=Cal K mg x f d p
theorem kc{l:eL JA}{i:eO}(b:(l.map V.ref)[i]?=eH x):∃a,l[i]?=eH a/\x=.ref a:=by
 rw[Ar] at b;cases h:l[i]? with|none=>rw[h] at b;cases b|some a=>rw[h] at b;exact#[a,eY,(Am b).symm]
theorem Paired.at2{F:α->β->Prop}{d:eL α}{l₂:eL β}{i:eO}{a:α}{b:β}(h:JI F d l₂)(h1:d[i]?=eH a)(h2:l₂[i]?=eH b):F a b:=by
 let(f,c,e):=Paired.nth h h1;rw[h2] at c;cases c;exact e
theorem Paired.app:∀{c:eL α}{l₂:eL β}{b:eL α}{a:eL β},JI F c l₂->JI F b a->JI F (c++b) (l₂++a)
 |_,_,_,_,.nil,h=>h
 |_,_,_,_,.cons h t,h2=>.cons h (Paired.app t h2)
theorem ia(hl:H l=eI)(e:Same H H')(o:HO):Same H (upd H' l o):=λb u q=>by rw[fg (gb q hl)];exact e b u q
def sf(ns:eL eN)(k:eO):eN:=(ns[k]?).getD 0
inductive spCellS(K:Aa)(vs:eL V)(H:Hp)(Q:VK):Prop
 |mk (a:JA)(ns:eL eN)(k:eO)(h0:vs=[.ref a,.int (k:eN)])(h1:SqL K H a (ns.map V.int))(h2:Q (.int (sf ns k)) H):spCellS K vs H Q
def a6k(K:Aa):Sp:=λvs H Q _=>spCellS K vs H Q
theorem wo(hl:(xs.length:eN)=m)(hm:0<m):∃v,atI xs (i % m)=eH v/\v∈xs:=by
 let a:=BA i (Int.ne_of_gt hm);let h1:=BR i hm;generalize i % m=j at a h1;let(k,rfl):=Int.eq_ofNat_of_zero_le a;let b:k<xs.length:=by lia
 exact#[xs[k],lc (Ag b),AM b]
theorem a3p(h:QT X e t)(w:∀σ H Q,t' σ H Q->t σ H Q):QT X e t':=#[λa s σ H Q I q=>h.run a s σ H Q I (w σ H Q q)]
abbrev a56:JJ:=top 34
theorem aeb:FnScope ["_law_script","_law_k"] ["_law_script","_law_k"] (gy a56):=#[eY,eY,eY,by decide,eY,by decide,by decide]
theorem a6l(C:Con K mg w)(F:Fun K "_law_cell_at" "_law_cell_at" a56 f fd):FnOk P w K mg base CX0 1 f fd ["_law_script","_law_k"] (a6k K):=by
 refine F.okQ aeb (λvs H Q E h=>?_) (λi A outer s H vs Q E j h=>?_);let(a,ns,k,rfl,_):=h;rfl
 let(a,ns,k,rfl,g,q):=h;exists _,fe (gg (fz a00 (qv 1) (gr j0 rfl C.len Bs (fh (qv 0) ad)) (fy _)) (ff (fm (mj xj (qv 0) (qv 1) (λ_ _=>rfl)))) ge)
  (ff (fm fc))
 nofun
 let hl:(ns.map V.int).length=ns.length:=Ad _;refine#[_,eY,_,eY,a,_,eY,.inl g,_,_,eY,eY,_,eY,iteB (λc=>?_) (λc=>?_)]
 . let d:=fC c;rw[hl] at d;let b:k<ns.length:=by lia
   let e:sf ns k=ns[k]:=by unfold sf;rw[Ag b];rfl
   rw[e] at q;exact#[_,eY,_,eY,a,_,_,_,eY,eY,g,lc (by rw[Ar,Ag b];rfl),q]
 let d:=fD c;rw[hl] at d;let b:ns.length<=k:=by lia
 let e:sf ns k=0:=by unfold sf;rw[BO b];rfl
 rw[e] at q;exact q
inductive spLawS(K:Aa)(vs:eL V)(H:Hp)(Q:VK):Prop
 |mk (a:JA)(ns:eL eN)(h0:vs=[.ref a])(h1:SqL K H a (ns.map V.int))(h2:∀H',Q (.bl eJ) H'):spLawS K vs H Q
def zo(K:Aa):Sp:=λvs H Q _=>spLawS K vs H Q
theorem a69(hl:H l=eH (.lst xs))(h:SqT K H b zs):SqT K (upd H l (.lst ys)) b zs:=by
 rcases h with (h|⟨o,h⟩)|h
 . let a:b≠l:=λe=>by rw[e,hl] at h;cases h
   exact .inl (.inl (by show upd H l _ b=_;rw[fg a];exact h))
 . let a:b≠l:=λe=>by rw[e,hl] at h;cases h
   exact .inl (.inr #[o,by show upd H l _ b=_;rw[fg a];exact h])
 exact .inr h
theorem a2h(h1:QG X (.Name x b) (iq i))(h2:QG X (.Name y a) (iq j))(f:autoParam (X.calm=eJ) a4_)(d:autoParam ((JK [.Name x b,.Name y a] X.env).map (·.2)=assign (.Name x b) X.env::(JK [.Name y a] X.env).map (·.2)) a4_)(e:autoParam ((JK [.Name y a] X.env).map (·.2)=assign (.Name y a) X.env::(JK [] X.env).map (·.2)) a4_)(hn:autoParam ((JK [.Name x b,.Name y a] X.env).length=2) a4_)(c:autoParam ((JK [.Name x b,.Name y a] X.env).findIdx? (·.1)=eI) a4_):QG X (.Tuple [.Name x b,.Name y a] k pos) (gTup X.K 2 (uf (iq i) (uf (iq j) gNil))) :=
 #[a6y f (oi h1.run (oi h2.run a3c e) d) hn c]
theorem iteN{b:fJ}{A B:Prop}(h:b=eJ)(a:B):if(!b)=eJ then A else B:=by rw[h];exact a
theorem ng(h:QS X st t)(w:∀D σ H,t' D σ H->t D σ H):QS X st t':=#[λa s σ H D I q=>h.run a s σ H D I (w D σ H q)]
theorem afh(xs:eL V)(n:eO):cutV xs eI (eH (n:eN))=xs.take n:=by
 unfold cutV;rw[HT.sIx_nat,HT.sIx_none,DX,E7];by_cases h:n<=xs.length;rw[FS h];rw[FF (by lia),AN,BC (by lia)]
theorem zx(d:UnR X (unaryOp op) r)(c:QE X a b):QE X (.UnaryOp op a pos) (tUn r b):=#[afx d c.run]
theorem ack(h1:QG X (.Name x c) (iq i))(h2:QG X (.Name y b) (iq j))(h3:QG X (.Name z a) (iq l))(g:autoParam (X.calm=eJ) a4_)(e:autoParam ((JK [.Name x c,.Name y b,.Name z a] X.env).map (·.2)=assign (.Name x c) X.env::(JK [.Name y b,.Name z a] X.env).map (·.2)) a4_)(f:autoParam ((JK [.Name y b,.Name z a] X.env).map (·.2)=assign (.Name y b) X.env::(JK [.Name z a] X.env).map (·.2)) a4_)(h:autoParam ((JK [.Name z a] X.env).map (·.2)=assign (.Name z a) X.env::(JK [] X.env).map (·.2)) a4_)(hn:autoParam ((JK [.Name x c,.Name y b,.Name z a] X.env).length=3) a4_)(d:autoParam ((JK [.Name x c,.Name y b,.Name z a] X.env).findIdx? (·.1)=eI) a4_):QG X (.Tuple [.Name x c,.Name y b,.Name z a] k pos) (gTup X.K 3 (uf (iq i) (uf (iq j) (uf (iq l) gNil)))) :=
 #[a6y g (oi h1.run (oi h2.run (oi h3.run a3c h) f) e) hn d]
def Kp(S:JA->Prop)(H H':Hp):Prop:=∀b o,H b=eH o->¬ S b->H' b=eH o
abbrev ur:JJ:=top 5
def a44(x:eZ):Prop:=x.length<=1000
theorem a2o{r:eU}{k:eO}:cutV (r.map V.str) (eH (k:eN)) eI=(r.drop k).map V.str:=by
 unfold cutV;rw[HT.sIx_nat,HT.sIx_none,Ad];rw[List.map_drop.symm];by_cases h:k<=r.length;rw[FS h,BC (by simp)];rw[FF (by lia),EB,BX,List.drop_eq_nil_of_le (by lia)];rfl
def jj(rs:eS):Prop:=rs.length<=200/\∀r∈rs,r.length<=5/\∀x∈r,a44 x
def kq(r:eU):eU:=(r.drop 1).filter λx => !decide (x∈Mir.noNames)
def i5(rs:eS):eU:=(rs.map kq).flatten
theorem a5i(a b:eS):i5 (a++b)=i5 a++i5 b:=by unfold i5;rw[Av,Bh]
theorem a41(a:eS)(r:eU):i5 (a++[r])=i5 a++kq r:=by rw[a5i];unfold i5;simp
theorem q0:∀{rs:eS}{m:eO},(∀r∈rs,r.length<=m)->(i5 rs).length<=rs.length*m
 |[],m,_=>by simp[i5]
 |r::rs,m,h=>by
  let h1:=q0 (rs:=rs) (m:=m) (λx a=>h x (Ah _ a));let h2:(kq r).length<=m:=by
   unfold kq;let:=B2 (λx => !decide (x∈Mir.noNames)) (r.drop 1);let:=h r (Af ..);let e:=Bq (i:=1) (l:=r)
   lia
  let e:i5 (r::rs)=kq r++i5 rs:=by simp[i5]
  rw[e,Ai,Aw,IR]
  lia
inductive spNmOfS(K:Aa)(vs:eL V)(H:Hp)(Q:VK):Prop
 |mk (a fs ps)(h0:vs=[.ref a])(h1:TellAt K H a [fs,ps])(h2:jj fs)(h3:jj ps)(h4:(∀r∈fs++ps,r≠[]))(h5:(∀ss:eU,ss.Nodup->(∀y∈ss,y∈i5 (fs++ps))->ss.length<64))(h6:∀(p:JA) (zs:eU) (H':Hp),H p=eI->Same H H'->H' p=eH (.lst (zs.map V.str))->zs.Nodup->(∀y,y∈zs↔y∈i5 (fs++ps))->PyProof.Rows.sortedS zs=eJ->Q (.ref p) H'):spNmOfS K vs H Q
def a1h(K:Aa):Sp:=λvs H Q _=>spNmOfS K vs H Q
theorem scNamesOf:FnScope ["telling","names","row"] ["telling"] (gy ur):=#[eY,eY,eY,by decide,eY,by decide,by decide]
theorem a54(C:Con K mg w)(F:Fun K "names_of" "names_of" ur f fd):FnOk P w K mg base CX0 1 f fd ["telling"] (a1h K):=by
 refine F.ok scNamesOf (λvs H Q E h=>?_) (λag A outer s H vs Q E T h=>?_);let(a,fs,ps,rfl,_):=h;rfl
 let(a,fs,ps,rfl,ht,hf,hp,Z,ae,q):=h;let(aN,gN,tN):=C.noNames;let(as,t1,t2):=ht;cases t2 with
 | @cons fa _ _ _ t3 t4 =>
 cases t4 with
 | @cons pa _ _ _ t5 t6 =>
 cases t6;let(d,f1,f2):=t3;let(g,p1,p2):=t5;exists _,v7 (a79 scNamesOf.nd (i:=1) rfl (Or.inl rfl) (a16 sx))
  (v7 (a7r A7 rfl (a2q (abj ke (a4a mt (pv 0) sw (λ_ _=>rfl)) (a4a mt (pv 0) sw (λ_ _=>rfl)))) (a3y (i:=2) scNamesOf.nd rfl (Or.inl rfl))
   (xg (a3z (abg AK CN CO pf (pv 1)
    (jz (a0p (a5j (a12 a0z (pv 2) (a2b sw) a35)) (λ_ _ _ _=>a2m (a2z (show OpR _ _ (rIn K eJ) from tm) (pv 0) (pe_g gN) (by with_unfolding_all rfl))) (λ_ _ _ _=>pv 0)) sx)))))
   (xg (a87 (a1c (pp rfl) rfl C.sorted FG (jz (yq (a07 rfl) rfl C.set Eo (jz (pv 1) sx)) sx)))))
 refine#[AC _,λn hn=>?_];let s1:Same H (upd H n (.lst [])):=fi hn _;let fl:d.length=fs.length:=A4 f2;let pl:g.length=ps.length:=A4 p2;let b1:=hf.1;let b2:=hp.1;exists _,eY,a,_,0,.ref fa,eY,eY,s1.seqT t1,eY,_,eY,a,_,1,.ref pa,eY,eY,s1.seqT t1,rfl;refine#[fa,pa,_,_,eY,eY,s1 _ _ f1,s1 _ _ p1,?_,λc Y=>?_];rw[Ad,Ad];exact B6 (kj (by lia))
 let O:c≠n:=λe=>by rw[e,fb] at Y;cases Y
 rw[<- Av];let s2:=fi Y (.lst ((d++g).map V.ref));exists c,eY,#[_,SqL.of fb];let pr:JI (λb r=>RowAt K H b r) (d++g) (fs++ps):=Paired.app f2 p2;let ac:(d++g).length=(fs++ps).length:=A4 pr;let j:∀r∈fs++ps,r.length<=5:=λr T=>by
  rcases Ab.mp T with h|h;exact(hf.2 r h).1;exact(hp.2 r h).1
 refine j5 (xs:=(d++g).map V.ref) (λi σ H'=>Same H H'/\H' c=eH (.lst ((d++g).map V.ref))/\H' n=eH (.lst ((i5 ((fs++ps).take i)).map V.str))/\∃z,σ=[eH (.ref a),eH (.ref n),z]) #[s1.trans s2,fb,?_,_,eY] (λi σ H' _ p=>SqL.of p.2.1) ?_ ?_;rw[fg (AF O),fb];rfl
 . rintro i v σ H' hi ⟨e,G,o,z,rfl⟩
   nofun
   rw[Ar] at hi;cases hb:(d++g)[i]? with
   |none=>rw[hb] at hi;cases hi
   |some b =>
    rw[hb] at hi;let hv:v=.ref b:=(Am hi).symm;subst hv;let(r,R,aa):=Paired.nth pr hb;let I:r∈fs++ps:=Aq R;let J:RowAt K H' b r:=aa.same e;let ai:=j r I;let ah:r.length≠0:=λh=>Z r I (List.length_eq_zero_iff.mp h);refine#[_,eY,.inl #[eY,_,SqL.of o],_,eY,_,eY,b,_,eY,J,?_,λt hT=>?_];rw[Ad,show(eH (1:eN))=eH ((1:eO):eN) from rfl,HT.sIx_nat];lia
    let e1:cutV (r.map V.str) (eH 1) eI=(r.drop 1).map V.str:=a2o (k:=1);rw[e1];let X:Same H' (upd H' t (.tup ((r.drop 1).map V.str))):=fi hT _;exists t,eY,#[_,SqT.of fb];refine qx ((r.drop 1).map V.str) (λv => !inV v (Mir.noNames.map V.str)) id a06 (SqT.of fb) ?_ ?_ ?_ ?_;rw[Ad,Bq];exact B6 (kj (by lia));intro v hv N e2 Q' B;let(y,U,rfl):=Au.mp hv;exact#[_,eY,aN,_,eY,.inr (tN _),eY,pk _,_,eY,B N (Same.refl _)];intro v hv ak N e2 Q' B;let(y,U,rfl):=Au.mp hv;exact#[_,eY,B N (Same.refl _)]
    intro D N hD e' hd;let hw:(((r.drop 1).map V.str).filter (λv => !inV v (Mir.noNames.map V.str))).map id=(kq r).map V.str:=by
     rw[Gc,EC];unfold kq
     congr 1
     apply Fq;intro x _;show(!inV (.str x) (Mir.noNames.map V.str))=_;rw[vb]
    rw[hw] at hd;let s4:Same H N:=(e.trans X).trans e';let W:(fs++ps).take (i+1)=(fs++ps).take i++[r]:=by rw[AJ,R];rfl
    let wl:=q0 j;let aj:(i5 ((fs++ps).take i)).length<=200*5+200*5:=by
     let h1:=q0 (rs:=(fs++ps).take i) (m:=5) (λr T=>j r (Bw T));let h2:=List.length_take_le' i (fs++ps);rw[Ai] at h2
     lia
    let af:(kq r).length<=5:=by
     unfold kq;let h1:=B2 (λx => !decide (x∈Mir.noNames)) (r.drop 1);let h2:=Bq (i:=1) (l:=r)
     lia
    exists n,D,_,_,eY,eY,e' _ _ (X _ _ o),hd,?_;rw[Ad,Ad];exact AB (by lia) (show(2005:eO)<=JB by decide)
    refine#[λb' u B=>?_,?_,?_,_,eY];rw[fg (gb B hn)];exact s4 _ _ B;rw[fg O];exact e' _ _ (X _ _ G);rw[fb,W,a41,Av]
 rintro σ H' ⟨e,G,o,z,rfl⟩;rw[Ad,ac,AN] at o;refine#[_,eY,n,_,eY,SqL.of o,?_,λS ss hS hd=>?_]
 . let wl:=q0 j;rw[Ai] at wl;show _<4096
   lia
 let s5:=fi hS (SetO P w S ss);refine#[S,ss,eY,fb,ae ss hd.nodup (λy U=>(hd.mem y).mp U),λp zs M L ab=>?_];let s6:=fi M (.lst (zs.map V.str));refine q p zs _ ?_ (e.trans (s5.trans s6)) fb (L.nodup_iff.mpr hd.nodup) (λy=>(L.mem_iff).trans (hd.mem y)) ab;cases hH:H p with|none=>rfl|some u=>exact nomatch (s5 _ _ (e _ _ hH)).symm.trans M
theorem mem_words:y∈i5 rs↔∃r∈rs,y∈r.drop 1/\¬ y∈Mir.noNames:=by
 unfold i5 kq;simp only[Bt,Au];constructor;rintro⟨l,⟨r,b,rfl⟩,a⟩;rw[Bc] at a;exact#[r,b,a.1,by simpa using a.2];rintro⟨r,b,a,hn⟩;exact#[_,#[r,b,eY],Bc.mpr #[a,by simpa using hn]]
end K34
namespace L2
def dS(m:eT):eL (Key×V):=m.map λp=>(Sum.inr p.1,V.str p.2)
def lkS(m:eT)(x:eZ):eM eZ:=(m.find? λp=>decide (p.1=x)).map (·.2)
theorem qe:∀(m:eT) (x:eZ),valV (dS m) (Sum.inr x)=(lkS m x).map V.str
 |[],x=>rfl
 |p::m,x=>by
  let c:=qe m x;by_cases h:p.1=x
  . let b:valV (dS (p::m)) (Sum.inr x)=eH (.str p.2):=ij (p:=((Sum.inr p.1,V.str p.2):Key×V)) (show(Sum.inr p.1:Key)=Sum.inr x by rw[h]);let a:lkS (p::m) x=eH p.2:=by unfold lkS;simp[AZ,h]
    rw[b,a];rfl
  let b:valV (dS (p::m)) (Sum.inr x)=valV (dS m) (Sum.inr x):=ik (p:=((Sum.inr p.1,V.str p.2):Key×V)) (show ¬ (Sum.inr p.1:Key)=Sum.inr x from λz=>h (Ca z));let a:lkS (p::m) x=lkS m x:=by unfold lkS;simp[AZ,h]
  rw[b,a,c]
def putS(m:eT)(x:eZ)(z:eZ):eT:=if(m.any λp=>decide (p.1=x))=eJ then m.map (λp=>if p.1=x then(p.1,z) else p) else m++[(x,z)]
theorem a2p(m:eT)(x:eZ)(z:eZ):putK (dS m) (Sum.inr x) (.str z)=dS (putS m x z):=by
 unfold putK putS dS;let c:∀a b:eZ,decide ((Sum.inr a:Key)=Sum.inr b)=decide (a=b):=λa b=>by
  by_cases h:a=b;subst h;simp;rw[fA h,fA (λz=>h (Ca z))]
 let e:(m.map (λp=>((Sum.inr p.1,V.str p.2):Key×V))).any (λkv=>decide (kv.1=(Sum.inr x:Key)))=m.any λp=>decide (p.1=x):=by
  rw[DT]
  congr 1
  funext p
  exact c p.1 x
 rw[e];split
 . rw[B3,B3];apply DC;intro p _;show(if(Sum.inr p.1:Key)=Sum.inr x then _ else _)=_;by_cases h:p.1=x
   . rw[eQ (by rw[h])];show _=((Sum.inr (if p.1=x then(p.1,z) else p).1,V.str (if p.1=x then(p.1,z) else p).2):Key×V)
     rw[eQ h]
   rw[eP (λz=>h (Ca z))];show _=((Sum.inr (if p.1=x then(p.1,z) else p).1,V.str (if p.1=x then(p.1,z) else p).2):Key×V)
   rw[eP h]
 rw[Av];rfl
theorem a32:∀(m:eT) (y:eZ),lkS (m.map λp=>if p.1=x then(p.1,z) else p) y=if y=x then(lkS m x).map (λ_=>z) else lkS m y
 |[],y=>by unfold lkS;simp
 |p::m,y=>by
  let a:=a32 (x:=x) (z:=z) m y;let c:∀(q:eZ×eZ) (l:eT) (w:eZ),lkS (q::l) w=if q.1=w then eH q.2 else lkS l w:=λq l w=>by
   unfold lkS;rw[AZ];by_cases h:q.1=w;simp[h];simp[h]
  rw[A8,c,c,c,a];by_cases h1:p.1=x;by_cases h2:y=x;subst h2;simp[h1];let h3:¬ x=y:=λz=>h2 z.symm;simp[h1,h2,h3]
  by_cases h2:y=x;subst h2;simp[h1];simp[h1,h2]
theorem ui(m:eT)(x:eZ)(z:eZ)(y:eZ):lkS (putS m x z) y=if y=x then eH z else lkS m y:=by
 unfold putS;split
 . rename_i h;rw[a32];by_cases h2:y=x
   . rw[eQ h2,eQ h2];let:(lkS m x).isSome=eJ:=by
      unfold lkS;rw[CH];rw[HI];rw[AS] at h;exact h
     cases hl:lkS m x with|none=>rw[hl] at this;cases this|some v=>rfl
   rw[eP h2,eP h2]
 rename_i h;let hn:∀p∈m,¬ p.1=x:=λp hp z=>h (AS.mpr #[p,hp,by simp[z]]);unfold lkS;rw[HJ];by_cases h2:y=x;subst h2;rw[eQ rfl,Ci.mpr (λp hp=>by simp[hn p hp])];simp;let h3:¬ x=y:=λz=>h2 z.symm;rw[eP h2];simp[h3]
theorem a95(m:eT)(x:eZ)(z:eZ):(putS m x z).length<=m.length+1:=by
 unfold putS;split;rw[Ad];lia;rw[Ai,A2];lia
theorem uz(m:eT)(x z y:eZ):(lkS (putS m x z) y).isSome=eJ↔y=x\/(lkS m y).isSome=eJ:=by
 rw[ui];by_cases h:y=x;rw[eQ h];simp[h];rw[eP h];simp[h]
theorem lkS_mem:(lkS m x).isSome=eJ↔x∈m.map (·.1):=by
 unfold lkS;rw[CH,HI];constructor;rintro⟨p,hp,e⟩;exact Au.mpr #[p,hp,fC e];intro h;let(p,hp,rfl):=Au.mp h;exact#[p,hp,by simp]
end L2
namespace Kn
open L2
inductive Conn(F:eS):eZ->eZ->Prop
 |refl (x:eZ):Conn F x x
 |fact{u v:eZ}(h:[("is":eZ),u,v]∈F):Conn F u v
 |symm{x y:eZ}(h:Conn F x y):Conn F y x
 |trans{x y z:eZ}(h1:Conn F x y)(h2:Conn F y z):Conn F x z
theorem Conn.mono(h:∀r∈F,r∈G)(c:Conn F x y):Conn G x y:=by
 induction c with|refl x=>exact .refl x|fact h1=>exact .fact (h _ h1)|symm _ ih=>exact ih.symm|trans _ _ i1 i2=>exact i1.trans i2
def ri(h:eZ->eZ)(r:eU):eZ->eZ:=if r.getD 0 ""="is" then λx=>if h x=h (r.getD 2 "") then h (r.getD 1 "") else h x else h
def fq(F:eS):eZ->eZ:=F.foldl ri id
theorem qy(F:eS)(r:eU):fq (F++[r])=ri (fq F) r:=by unfold fq;rw[Ft];rfl
def gw(r:eU):Prop:=∃k u v:eZ,r=[k,u,v]/\(k="is" \/ k="not")
theorem a5z:∀(n:eO) (F:eS),F.length=n->(∀r∈F,gw r)->∀x y,fq F x=fq F y↔Conn F x y:=by
 intro n;induction n with
 |zero =>
  intro F hl hF x y;let:F=[]:=Cp hl;subst this;constructor;intro h;let h':x=y:=h;subst h';exact .refl x
  intro c;show x=y;induction c with|refl x=>rfl|fact h=>cases h|symm _ ih=>exact ih.symm|trans _ _ i1 i2=>exact i1.trans i2
 |succ n ih =>
  intro F hl hF;let f:F≠[]:=λz=>by rw[z] at hl;cases hl
  obtain⟨G,r,rfl⟩:∃G r,F=G++[r]:=#[F.dropLast,F.getLast f,(List.dropLast_concat_getLast f).symm]
  let j:G.length=n:=by rw[Ai] at hl;simpa using hl
  let hG:∀r'∈G,gw r':=λr' h=>hF r' (Ab.mpr (.inl h));let I:=ih G j hG;let mono:∀{x y},Conn G x y->Conn (G++[r]) x y:=λc=>c.mono λr' h=>Ab.mpr (.inl h);let(k,u,v,rfl,l):=hF r (Ab.mpr (.inr (Ae.mpr rfl)));intro x y;rw[qy];unfold ri;rcases l with rfl|rfl
  . rw[eQ (show([("is":eZ),u,v].getD 0 "")="is" from rfl)];show(if fq G x=fq G v then fq G u else fq G x)=(if fq G y=fq G v then fq G u else fq G y)↔_;let g:Conn (G++[[("is":eZ),u,v]]) u v:=.fact (Ab.mpr (.inr (Ae.mpr rfl)));constructor
    . intro h;by_cases d:fq G x=fq G v;by_cases e:fq G y=fq G v;exact mono ((I x y).mp (d.trans e.symm));rw[eQ d,eP e] at h;exact(mono ((I x v).mp d)).trans (g.symm.trans (mono ((I u y).mp h)))
      by_cases e:fq G y=fq G v;rw[eP d,eQ e] at h;exact(mono ((I x u).mp h)).trans (g.trans (mono ((I y v).mp e)).symm);rw[eP d,eP e] at h;exact mono ((I x y).mp h)
    intro c;induction c with
    |refl x=>rfl
    | @fact a b h =>
     rcases Ab.mp h with h|h;let:=(I a b).mpr (.fact h);rw[this]
     let h':=Ae.mp h;simp only[Ir,and_true,true_and] at h';let(rfl,rfl):=h';rw[eQ rfl];by_cases d:fq G a=fq G b;rw[eQ d];rw[eP d]
    |symm _ ih=>exact ih.symm
    |trans _ _ i1 i2=>exact i1.trans i2
  let i:¬ ("not":eZ)="is" := by decide
  rw[eP (show ¬ ([("not":eZ),u,v].getD 0 "")="is" from i)];rw[I x y];constructor;exact mono
  intro c;induction c with
  |refl x=>exact .refl x
  | @fact a b h =>
   rcases Ab.mp h with h|h;exact .fact h;let h':=Ae.mp h;simp only[Ir] at h';exact eR h'.1.symm i
  |symm _ ih=>exact ih.symm
  |trans _ _ i1 i2=>exact i1.trans i2
theorem iz(hF:∀r∈F,gw r)(x y:eZ):fq F x=fq F y↔Conn F x y:=a5z F.length F rfl hF x y
def hdS(m:eT)(x:eZ):eZ:=(lkS m x).getD x
structure HeadsOk(m:eT)(h:eZ->eZ):Prop where
 hd:∀x,hdS m x=h x
 key:∀x v,lkS m x=eH v->(lkS m v).isSome=eJ
theorem HeadsOk.start:HeadsOk [] id:=#[λ_=>rfl,λx v h=>by cases h]
theorem HeadsOk.dflt(H:HeadsOk m h)(b:lkS m u=eI):HeadsOk (putS m u u) h/\h u=u:=by
 let e:h u=u:=by rw[<- H.hd];unfold hdS;rw[b];rfl
 refine#[#[λx=>?_,λx v hv=>?_],e];unfold hdS;rw[ui];by_cases a:x=u;rw[eQ a,a,e];rfl;rw[eP a];exact H.hd x
 rw[uz];rw[ui] at hv;by_cases a:x=u;rw[eQ a] at hv;exact .inl (Am hv).symm;rw[eP a] at hv;exact .inr (H.key x v hv)
def mv(g k z:eZ):eZ:=if z=g then k else z
theorem afo(g k z:eZ):mv g k (mv g k z)=mv g k z:=by
 unfold mv;by_cases h:z=g;rw[eQ h];split<;>rfl;rw[eP h,eP h]
theorem HeadsOk.step(H:HeadsOk m h)(f:(lkS m u).isSome=eJ)(hv:(lkS m v).isSome=eJ)(hm:∀x,lkS d x=(lkS m x).map (mv (h v) (h u))):HeadsOk d (ri h [("is":eZ),u,v]):=by
 let val:∀{y:eZ},(lkS m y).isSome=eJ->lkS m y=eH (h y):=λ{y} c=>by
  let(z,hz):=Bk.mp c;rw[hz,<- H.hd];unfold hdS;rw[hz];rfl
 let e:∀x,ri h [("is":eZ),u,v] x=mv (h v) (h u) (h x):=λx=>by
  unfold ri;rw[eQ (show([("is":eZ),u,v].getD 0 "")="is" from rfl)];rfl
 refine#[λx=>?_,λx z hz=>?_]
 . rw[e];unfold hdS;rw[hm];cases hx:lkS m x with
   |some z =>
    let:=val (y:=x) (by rw[hx];rfl);rw[hx] at this;rw[Am this];rfl
   |none =>
    let a:h x=x:=by rw[<- H.hd];unfold hdS;rw[hx];rfl
    show x=mv (h v) (h u) (h x);unfold mv;rw[a,eP];intro z;let:=H.key v (h v) (val hv);rw[<- z,hx] at this;cases this
 rw[hm] at hz;cases hx:lkS m x with
 |none=>rw[hx] at hz;cases hz
 |some y =>
  rw[hx] at hz;let b:mv (h v) (h u) y=z:=Am hz;let k:(lkS m z).isSome=eJ:=by
   rw[<- b];unfold mv;split;exact H.key u (h u) (val f);exact H.key x y hx
  rw[hm,CH];exact k
end Kn
namespace K34
open L2 Mir Kn
abbrev uv:JJ:=top 18
theorem gh(h:X.K=K)(c:QE X e b)(a:autoParam (JT e fl X.env (eval e X.env)=eval e X.env) a4_):QE X (.Attribute e fl pos) (tFld K b fl):=by subst h;exact ae8 c a
theorem kh(h:X.K=K)(d:QE X o b)(hv:QE X value e)(c:autoParam (JX value (eH (.Attribute o fl a)) pos.line X.env=pure eK) a4_):QS X (.Assign [.Attribute o fl a] value pos) (sFld K b e fl):=by subst h;exact af5 d hv c
inductive spHeadsOfS(K:Aa)(vs:eL V)(H:Hp)(Q:VK):Prop
 |mk (fl:JA)(F:eS)(h0:vs=[.ref fl])(h1:RowsAt K H fl F)(h2:F.length<=100)(h3:(∀r∈F,gw r))(h4:∀hd hm H',Same H H'->H hd=eI->H' hd=eH (.dK (dS hm))->hm.length<=2*F.length->HeadsOk hm (fq F)->Q (.ref hd) H'):spHeadsOfS K vs H Q
def ya(K:Aa):Sp:=λvs H Q _=>spHeadsOfS K vs H Q
inductive tDefS(K:Aa)(i j:eO)(D:Ends)(σ:St)(H:Hp):Prop
 |mk (hd b:JA)(r:eU)(u:eZ)(hm:eT)(h:eZ->eZ)(h0:σ[1]?=eH (eH (.ref hd)))(h1:σ[2]?=eH (eH (.ref b)))(h2:RowAt K H b r)(h3:r[j]?=eH u)(h4:H hd=eH (.dK (dS hm)))(h5:hm.length<=1000)(h6:HeadsOk hm h)(h7:∀hm' H',Kp (· = hd) H H'->H' hd=eH (.dK (dS hm'))->hm'.length<=hm.length+1->HeadsOk hm' h->(lkS hm' u).isSome=eJ->(∀x,(lkS hm x).isSome=eJ->(lkS hm' x).isSome=eJ)->D.nx (σ.set i (eH (.str (h u)))) H'):tDefS K i j D σ H
def tDef(K:Aa)(i j:eO):TS:=λD σ H=>tDefS K i j D σ H
theorem a1f(i j:eO)(D:Ends)(σ:St)(H:Hp)(k:tDef K i j D σ H):
 tAsg (a48 (tVar 1) (tOp (rIxT K) (tVar 2) (tC (.int (j:eN)))) (tOp (rIxT K) (tVar 2) (tC (.int (j:eN))))) (iq i) D σ H:=by
 let(hd,b,r,u,hm,h,h1,h2,d,g,c,hl,hok,go):=k;let a:atI (r.map V.str) (j:eN)=eH (.str u):=lc (by rw[Ar,g];rfl);refine#[_,h1,hd,eY,.inl #[_,.inl c],_,h2,b,_,_,.str u,eY,eY,d,a,_,h2,b,_,_,.str u,eY,eY,d,a,dS hm,Sum.inr u,c,eY,?_,λv hv=>?_,λhn=>?_];unfold dS;rw[Ad];exact AH hl (by decide)
 . rw[qe] at hv;cases hz:lkS hm u with
   |none=>rw[hz] at hv;cases hv
   |some z =>
    rw[hz] at hv;let e:v=.str z:=(Am hv).symm;let l:h u=z:=by rw[<- hok.hd];unfold hdS;rw[hz];rfl
    let:=go hm H (λ_ _ z _=>z) c (by lia) hok (by rw[hz];rfl) (λ_ z=>z);rw[l] at this;rw[e];exact this
 rw[qe] at hn;let hz:lkS hm u=eI:=by
  cases hz:lkS hm u with|none=>rfl|some z=>rw[hz] at hn;cases hn
 let(h1,h2):=hok.dflt hz;rw[a2p];let:=go (putS hm u u) _ (λb o q n=>by rw[fg n];exact q) fb (a95 _ _ _) h1 (by rw[uz];exact .inl rfl) (λx f=>by rw[uz];exact .inr f);rw[h2] at this;exact this
theorem scHeadsOf:FnScope ["facts","heads","fact","kept","gone","name"] ["facts"] (gy uv):=#[eY,eY,eY,by decide,eY,by decide,by decide]
theorem a4h(C:Con K mg w)(F:Fun K "heads_of" "heads_of" uv f fd):FnOk P w K mg base CX0 1 f fd ["facts"] (ya K):=by
 refine F.okQ scHeadsOf (λvs H Q E h=>?_) (λaC A outer s0 H vs Q E hr h=>?_);let(fl,F,rfl,_):=h;rfl
 let(fl,S,rfl,hF,hl,ai,q):=h;let nd:=scHeadsOf.nd;let aa:=ir hr;exists _,fe (ox (i:=1) nd rfl (Or.inl rfl) ma)
  (fe (ip A7 rfl (i9 (qv 0)) (xf (i:=2) nd rfl (Or.inl rfl)) (ff (gg (fz gq (mj mt (qv 2) fc (λ_ _=>rfl)) gt (fy _)) (fe (ng (t':=tDef K 3 1) (ox (i:=3) nd rfl (Or.inl rfl) (wz (qv 1) (mj mt (qv 2) fc (λ_ _=>rfl)) (mj mt (qv 2) fc (λ_ _=>rfl)))) (a1f 3 1))
  (fe (ng (t':=tDef K 4 2) (ox (i:=4) nd rfl (Or.inl rfl) (wz (qv 1) (mj mt (qv 2) fc (λ_ _=>rfl)) (mj mt (qv 2) fc (λ_ _=>rfl)))) (a1f 4 2))
  (ff (ip A7 rfl (i9 (j6 (lz rfl) rfl C.list Bx (fh (qv 1) ad))) (xf (i:=5) nd rfl (Or.inl rfl)) (ff (gg (fz gq (im aa (qv 1) (qv 5) (λ_ _=>rfl)) (qv 4) (fy _)) (ff (ld aa (qv 1) (qv 5) (qv 3))) ge)))))) ge)))
  (ff (fm (qv 1))))
 nofun
 intro hd G;let s1:=fi G (.dK (dS []));let(az,al,am):=hF;let ag:=A4 am;exists _,eY,fl,eY,#[_,SqL.of (s1 _ _ al)];refine j5 (xs:=az.map V.ref) (λi σ H'=>Same H H'/\Ex5 λ(hm:eT) (z2 z3 z4 z5:eM V)=>And4 (H' hd=eH (.dK (dS hm))) (hm.length<=2*i) (HeadsOk hm (fq (S.take i))) (σ=[rQ fl,rQ hd,z2,z3,z4,z5]))
  #[s1,[],eI,eI,eI,eI,fb,AC _,HeadsOk.start,eY] (λi σ H' _ p=>SqL.of (p.1 _ _ al)) ?_ ?_
 . rintro i x σ H' hi ⟨e,hm,z2,z3,z4,z5,hD,U,hok,rfl⟩
   nofun
   let(b,hb,rfl):=kc hi;let(r,Z,aq):=Paired.nth am hb;let aI:i<S.length:=(An.mp Z).1;let(k,u,v,rfl,hk):=ai r (Aq Z);let hR:=aq.same e;let aj:S.take (i+1)=S.take i++[[k,u,v]]:=by rw[AJ,Z];rfl
   refine#[_,eY,b,_,0,.str k,eY,eY,hR,eY,eY,_,eY,iteB (λc=>?_) (λc=>?_)]
   . let aA:k="is" := by simpa using c
     subst aA;let kr:∀{Y:Hp},Kp (· = hd) H' Y->∀{t:JA} {r:eU},RowAt K H' t r->RowAt K Y t r:=λ{Y} kp {t r} ar=>by
      rcases ar with (z|⟨o,z⟩)|z
      . exact .inl (.inl (kp _ _ z λy=>by let y':t=hd:=y;rw[y',hD] at z;cases z))
      . exact .inl (.inr #[o,kp _ _ z λy=>by let y':t=hd:=y;rw[y',hD] at z;cases z])
      exact .inr z
     refine#[hd,b,_,u,hm,_,eY,eY,hR,eY,hD,by lia,hok,λan H1 k1 aw aH ap af ay=>?_];refine#[hd,b,_,v,an,_,eY,eY,kr k1 hR,eY,aw,by lia,ap,λa Y k2 N aF ak au W=>?_];let M:Kp (· = hd) H' Y:=λb o q n=>k2 b o (k1 b o q n) n;let aE:=kr M hR;refine#[_,eY,hd,_,eY,N,λL T=>?_];let ek:((dS a).map λkv=>kV kv.1)=(a.map (·.1)).map V.str:=by unfold dS;rw[B3,B3];rfl
     rw[ek];let s3:=fi T (.lst ((a.map (·.1)).map V.str));let B:L≠hd:=AF (gb N T);let aB:a.length<=2*(i+1):=by lia
     let aD:H L=eI:=by
      cases q:H L with
      |none=>rfl
      |some o =>
       let:=M L o (e _ _ q) (λz=>B z);rw[T] at this;cases this
     let val:∀{y:eZ},(lkS a y).isSome=eJ->lkS a y=eH (fq (S.take i) y):=λ{y} hy=>by
      let(z,hz):=Bk.mp hy;rw[hz,<- ak.hd];unfold hdS;rw[hz];rfl
     generalize hg:fq (S.take i) v=d at*;generalize hkp:fq (S.take i) u=kept at*;exists L,eY,#[_,SqL.of fb];let X:∀{Hx:Hp},Kp (· = hd) (upd Y L (.lst ((a.map (·.1)).map V.str))) Hx->Same H Hx:=λ{Hx} kp t o' q=>kp t o' (s3 _ _ (M _ _ (e _ _ q) λz=>by let z':t=hd:=z;rw[z',G] at q;cases q)) λz=>by let z':t=hd:=z;rw[z',G] at q;cases q
     refine j5 (xs:=(a.map (·.1)).map V.str) (λj σ H3=>Kp (· = hd) (upd Y L (.lst ((a.map (·.1)).map V.str))) H3/\Ex2 λ(l:eT) (z5:eM V)=>And4 (H3 hd=eH (.dK (dS l))) (l.length<=a.length) ((∀x,lkS l x=if x∈(a.map (·.1)).take j then(lkS a x).map (mv d kept) else lkS a x)) (σ=[rQ fl,rQ hd,rQ b,eH (.str kept),eH (.str d),z5]))
      #[λ_ _ q _=>q,a,z5,by rw[fg (AF B)];exact N,Ao _,λx=>by simp,eY] (λj σ H3 _ p=>SqL.of (p.1 _ _ fb λz=>B z)) ?_ ?_
     . rintro j x σ H3 hj ⟨k3,l,ao,D,ae,s,rfl⟩
       nofun
       obtain⟨nm,ah,rfl⟩:∃nm,(a.map (·.1))[j]?=eH nm/\x=.str nm:=by
        rw[Ar] at hj;cases hz:(a.map (·.1))[j]? with|none=>rw[hz] at hj;cases hj|some nm=>rw[hz] at hj;exact#[nm,eY,(Am hj).symm]
       let av:(lkS a nm).isSome=eJ:=lkS_mem.mpr (Aq ah);let(z0,O):=Bk.mp av;obtain⟨J,R,ab⟩:∃J,lkS l nm=eH J/\mv d kept J=mv d kept z0:=by
        let:=s nm;rw[O] at this;by_cases hm:nm∈(a.map (·.1)).take j;rw[eQ hm] at this;exact#[_,this,afo _ _ _];rw[eP hm] at this;exact#[_,this,eY]
       let m:∀x,x∈(a.map (·.1)).take (j+1)↔x∈(a.map (·.1)).take j\/x=nm:=λx=>by
        rw[AJ,ah,Ab];simp
       let gv:DGet H3 hd (.str nm) (eH (.str J)):=by
        let g:=DGet.k (k:=Sum.inr nm) D;rw[qe,R] at g;exact g
       refine#[_,eY,_,eY,hd,.str J,eY,gv,_,eY,eY,_,eY,iteB (λc=>?_) (λc=>?_)]
       . let hc:J=d:=by simpa using c
         exists _,eY,_,eY,_,eY,hd,_,eY,DPut.k (k:=Sum.inr nm) D ?_;unfold dS;rw[Ad];exact AH (show l.length<=1000 by lia) (by decide)
         rw[a2p];let aG:(putS l nm kept).length<=l.length:=by
          unfold putS;rw[eQ,Ad];exact Ao _;let:=lkS_mem.mp (show(lkS l nm).isSome=eJ by rw[R];rfl);let(p,hp,e):=Au.mp this;exact AS.mpr #[p,hp,by simpa using e]
         refine#[λt o' q n=>by rw[fg n];exact k3 t o' q n,putS l nm kept,_,fb,by lia,λx=>?_,eY];rw[ui];by_cases I:x=nm;rw[eQ I,eQ ((m x).mpr (.inr I)),I,O];show eH kept=eH (mv d kept z0);rw[<- ab,hc];unfold mv;rw[eQ rfl]
         rw[eP I,s x];by_cases hm:x∈(a.map (·.1)).take j;rw[eQ hm,eQ ((m x).mpr (.inl hm))];rw[eP hm,eP λz=>((m x).mp z).elim hm I]
       let hc:¬ J=d:=by simpa using c
       refine#[k3,l,_,D,ae,λx=>?_,eY];by_cases I:x=nm;rw[eQ ((m x).mpr (.inr I)),I,R,O];show eH J=eH (mv d kept z0);rw[<- ab];unfold mv;rw[eP hc]
       rw[s x];by_cases hm:x∈(a.map (·.1)).take j;rw[eQ hm,eQ ((m x).mpr (.inl hm))];rw[eP hm,eP λz=>((m x).mp z).elim hm I]
     rintro σ H3 ⟨k3,l,ao,D,ae,s,rfl⟩;rw[Ad,AN] at s;let ac:∀x,lkS l x=(lkS a x).map (mv d kept):=λx=>by
      rw[s x];by_cases hm:x∈a.map (·.1);rw[eQ hm]
      rw[eP hm];cases hz:lkS a x with|none=>rfl|some z=>exact eR (lkS_mem.mp (show(lkS a x).isSome=eJ by rw[hz];rfl)) hm
     refine#[X k3,l,_,_,_,_,D,by lia,?_,eY];rw[aj,qy];exact ak.step (W u af) au (by rw[hg,hkp];exact ac)
   let ax:¬ k="is" := by simpa using c
   refine#[e,hm,_,_,_,_,hD,by lia,?_,eY];rw[aj,qy];unfold ri;rw[eP (show ¬ ([k,u,v].getD 0 "")="is" from ax)];exact hok
 rintro σ H' ⟨e,hm,z2,z3,z4,z5,hD,U,hok,rfl⟩;rw[Ad,ag] at U hok;rw[AN] at hok;exact#[_,eY,q hd hm H' e G hD U hok]
theorem gx(F:FnOk X.prog X.w X.K X.mg X.base CX0 k f fd ps sp)(hr:Room k X.A)(c:Cal X.K X.mg x f fd ps)(ha:QA X (e::es) t)(hg:autoParam (Gl X x) a4_)(hdb:autoParam ((x==("__debug__":eZ))=eK) a1_)(he:autoParam (JF (e::es) X.env=(eK,eval e X.env)::JF es X.env) a4_)(hpl:autoParam ((JO pos (JF es X.env)).any (·.1)=eK) a4_):QE X (.Call (.Name x p) (e::es) [] pos) (zw sp [] E0 t):=oe F hr hg c.name c.keep c.bind .nil gn ha hdb he hpl
abbrev abo:JJ:=ie (top 20) 0
abbrev ab7:JJ:=ie (top 20) 1
abbrev a7n:JJ:=ie (top 20) 2
abbrev a2c:JJ:=ie (top 20) 3
abbrev a7d:JJ:=ie (top 20) 4
abbrev a09:JJ:=ie (top 20) 5
abbrev yk:JJ:=ie (top 20) 6
abbrev a5f:JJ:=ie (top 20) 7
abbrev a6j:JJ:=ie (top 20) 8
abbrev a59:JJ:=ie (top 20) 9
def yc:eU:=["__init__","head","alike","unlike","tell_unlike","is_empty","must_be_full","find_fulls","tell_full","clashing","shares_place","open_ends","number_at"]
structure Txt(K:Aa)(mg:eZ->eM JC)(C fI:JA):Prop where
 cl:Cls K C
 nP:NoAttr K C "parts"
 nH:NoAttr K C "heads"
 nU:NoAttr K C "unlikes"
 nF:NoAttr K C "fulls"
 nE:NoAttr K C "not_empty"
 mgC:mg "Knowledge"=eH (.ref C)
 mkC:Mk K C fI
structure MCal(K:Aa)(C:JA)(m:eZ)(f:JA)(fd:JY)(ps:eU):Prop where
 meth:Meth K C m f
 bind:Binds K fd ps []
abbrev eC(_:FnOk P w K mg base X k f d p s)C x:=MCal K C x f d p
structure KFs(fs:eL (eZ×V))(pl hd un fu:JA):Prop where
 parts:fs.lookup ("parts":eZ)=eH (.ref pl)
 heads:fs.lookup ("heads":eZ)=eH (.ref hd)
 unlikes:fs.lookup ("unlikes":eZ)=eH (.ref un)
 fulls:fs.lookup ("fulls":eZ)=eH (.ref fu)
 len:fs.length<100
 meth:∀m∈yc,fs.lookup m=eI
inductive KnAt_ob(C:JA)(H:Hp)(p:JA)(pl:JA)(hd:JA)(un:JA)(fu:JA):Prop
 |mk (dx fs)(h0:H p=eH (.ins C dx fs))(h1:KFs fs pl hd un fu):KnAt_ob C H p pl hd un fu
structure KnAt(C:JA)(H:Hp)(p pl hd un fu:JA)(hm:eT)(uk:eL (eL Key×V)):Prop where
 ob:KnAt_ob C H p pl hd un fu
 hds:H hd=eH (.dK (dS hm))
 uns:H un=eH (.dT uk)
theorem KnAt.same(h:KnAt C H p pl hd un a hm b)(e:Same H H'):KnAt C H' p pl hd un a hm b:=by
 let((d,fs,h1,h2),h3,c):=h;exact#[#[d,fs,e _ _ h1,h2],e _ _ h3,e _ _ c]
def put2(uk:eL (eL Key×V))(a b:eZ):eL (eL Key×V):=putK (putK uk [Sum.inr a,Sum.inr b] (.bl eJ)) [Sum.inr b,Sum.inr a] (.bl eJ)
theorem KnAt.tell(h:KnAt C H p pl hd un c hm g)(e:Kp (· = un) H H')(d:H' un=eH (.dT a)):KnAt C H' p pl hd un c hm a:=by
 let((f,fs,h1,h2),h3,b):=h;let n1:p≠un:=j1 h1 b (λz=>nomatch z);let n2:hd≠un:=j1 h3 b (λz=>nomatch z);exact#[#[f,fs,e _ _ h1 n1,h2],e _ _ h3 n2,d]
inductive spHeadS(C:JA)(vs:eL V)(H:Hp)(Q:VK):Prop
 |mk (p pl hd un fu:JA)(hm:eT)(uk:eL (eL Key×V))(x:eZ)(h0:vs=[.ref p,.str x])(h1:KnAt C H p pl hd un fu hm uk)(h2:Q (.str (hdS hm x)) H):spHeadS C vs H Q
def sq(C:JA):Sp:=λvs H Q _=>spHeadS C vs H Q
inductive spAlikeS(C:JA)(vs:eL V)(H:Hp)(Q:VK):Prop
 |mk (p pl hd un fu:JA)(hm:eT)(uk:eL (eL Key×V))(x y:eZ)(h0:vs=[.ref p,.str x,.str y])(h1:KnAt C H p pl hd un fu hm uk)(h2:Q (.bl (decide (hdS hm x=hdS hm y))) H):spAlikeS C vs H Q
def lh(C:JA):Sp:=λvs H Q _=>spAlikeS C vs H Q
inductive spUnlikeS(C:JA)(vs:eL V)(H:Hp)(Q:VK):Prop
 |mk (p pl hd un fu:JA)(hm:eT)(uk:eL (eL Key×V))(x y:eZ)(h0:vs=[.ref p,.str x,.str y])(h1:KnAt C H p pl hd un fu hm uk)(h2:∀H',Same H H'->Q (.bl (valV uk [Sum.inr (hdS hm x),Sum.inr (hdS hm y)]).isSome) H'):spUnlikeS C vs H Q
def v4(C:JA):Sp:=λvs H Q _=>spUnlikeS C vs H Q
inductive spTellUS(C:JA)(vs:eL V)(H:Hp)(Q:VK):Prop
 |mk (p pl hd un fu:JA)(hm:eT)(uk:eL (eL Key×V))(x y:eZ)(h0:vs=[.ref p,.str x,.str y])(h1:KnAt C H p pl hd un fu hm uk)(h2:uk.length<=900)(h3:∀H',Kp (· = un) H H'->H' un=eH (.dT (put2 uk (hdS hm x) (hdS hm y)))->Q .non H'):spTellUS C vs H Q
def xx(C:JA):Sp:=λvs H Q _=>spTellUS C vs H Q
def zy(p:eL Key×V):Prop:=∃a b:eZ,p.1=[Sum.inr a,Sum.inr b]
def pb(p:eL Key×V):fJ:=decide (p.1.getD 0 (Sum.inl 0)=p.1.getD 1 (Sum.inl 1))
inductive spClashS(C:JA)(vs:eL V)(H:Hp)(Q:VK):Prop
 |mk (p pl hd un fu:JA)(hm:eT)(uk:eL (eL Key×V))(h0:vs=[.ref p])(h1:KnAt C H p pl hd un fu hm uk)(h2:(∀q∈uk,zy q))(h3:uk.length<=900)(h4:∀H',Same H H'->Q (.bl (uk.any pb)) H'):spClashS C vs H Q
def xa(C:JA):Sp:=λvs H Q _=>spClashS C vs H Q
theorem ad6(T:Txt K mg C m)(F:Fun K "head" "Knowledge.head" ab7 f fd):FnOk P w K mg base CX0 1 f fd ["self","word"] (sq C):=by
 refine F.okA ["self","word"] λb A outer s0 H vs Q E i h _=>?_;let(p,pl,hd,un,c,hm,d,x,rfl,j,q):=h;let a:=ir i;let((l,fs,h1,h2),h3,n):=j;exists _,(ff (fm (vd a (gh (K:=K) rfl (qv 0)) (qv 1) (qv 1))));let g:=DGet.k (k:=Sum.inr x) h3;rw[qe] at g;exists _,eY,p,C,l,fs,.ref hd,eY,h1,T.cl,T.nH,h2.heads,hd,eY,.inl #[_,.inl h3],_,eY,_,eY,_,g;let e:(((lkS hm x).map V.str).getD (.str x))=.str (hdS hm x):=by
  unfold hdS;cases lkS hm x<;>rfl
 rw[e];exact q
theorem a9o(T:Txt K mg C o)(F:Fun K "alike" "Knowledge.alike" a7n f fd)(i:FnOk P w K mg base CX0 1 n m eD (sq C))(a:eC i C "head"):FnOk P w K mg base CX0 2 f fd ["self","one","other"] (lh C):=by
 refine F.okA ["self","one","other"] λl A outer s0 H vs Q E g h _=>?_;let(p,pl,hd,un,b,hm,c,x,y,rfl,d,q):=h;let(k,fs,h1,h2):=d.ob;let j:=h2.meth "head" (by decide);exists _,(ff (fm (io gq (gi (qv 0) T.cl a.meth i g a.bind .nil gn (fh (qv 1) ad)) (gi (qv 0) T.cl a.meth i g a.bind .nil gn (fh (qv 2) ad)) (fy _))));exists _,eY,p,k,fs,eY,h1,j,_,eY,p,pl,hd,un,b,hm,c,x,eY,d,_,eY,p,k,fs,eY,h1,j,_,eY,p,pl,hd,un,b,hm,c,y,eY,d,rfl;let e:decide (V.str (hdS hm x)=V.str (hdS hm y))=decide (hdS hm x=hdS hm y):=by simp
 rw[e];exact q
theorem eV:2<=JB:=by decide
theorem a7g(T:Txt K mg C s)(F:Fun K "unlike" "Knowledge.unlike" a2c f fd)(j:FnOk P w K mg base CX0 1 r o eD (sq C))(b:eC j C "head"):FnOk P w K mg base CX0 2 f fd ["self","one","other"] (v4 C):=by
 refine F.okA ["self","one","other"] λm A outer s0 H vs Q E e h _=>?_;let(p,pl,hd,un,c,hm,d,x,y,rfl,a,q):=h;let g:=ir e;let(i,fs,h1,h2):=a.ob;let l:=h2.meth "head" (by decide);exists _,(ff (fm (a1d g (i3 (ii (gi (qv 0) T.cl b.meth j e b.bind .nil gn (fh (qv 1) ad)) (ii (gi (qv 0) T.cl b.meth j e b.bind .nil gn (fh (qv 2) ad)) ad))) (gh (K:=K) rfl (qv 0)))));refine#[_,eY,p,i,fs,eY,h1,l,_,eY,p,pl,hd,un,c,hm,d,x,eY,a,_,eY,p,i,fs,eY,h1,l,_,eY,p,pl,hd,un,c,hm,d,y,eY,a,eV,λt n=>?_];let s1:=fi n (.tup [.str (hdS hm x),.str (hdS hm y)]);exists _,eY,p,C,i,fs,.ref un,eY,s1 _ _ h1,T.cl,T.nU,h2.unlikes,un,_,eY,DGet.t (k:=[Sum.inr (hdS hm x),Sum.inr (hdS hm y)]) (s1 _ _ a.uns) fb;exact q _ s1
theorem aan(T:Txt K mg C W)(F:Fun K "tell_unlike" "Knowledge.tell_unlike" a7d f fd)(B:FnOk P w K mg base CX0 1 U R eD (sq C))(d:eC B C "head"):FnOk P w K mg base CX0 2 f fd ["self","one","other"] (xx C):=by
 refine F.okA ["self","one","other"] λN A outer s0 H vs Q E r h _=>?_;let(p,pl,hd,un,m,hm,e,x,y,rfl,g,hl,q):=h;let u:=ir r;let(I,fs,h1,h2):=g.ob;let L:=h2.meth "head" (by decide);exists _,fe (ld u (gh (K:=K) rfl (qv 0)) (i3 (ii (gi (qv 0) T.cl d.meth B r d.bind .nil gn (fh (qv 1) ad)) (ii (gi (qv 0) T.cl d.meth B r d.bind .nil gn (fh (qv 2) ad)) ad))) mh)
  (ff (ld u (gh (K:=K) rfl (qv 0)) (i3 (ii (gi (qv 0) T.cl d.meth B r d.bind .nil gn (fh (qv 2) ad)) (ii (gi (qv 0) T.cl d.meth B r d.bind .nil gn (fh (qv 1) ad)) ad))) mh))
 nofun
 let c:∀{n:eO},n<=1000->n<JB:=λh=>AH h (by decide);let X:p≠un:=j1 h1 g.uns (λz=>nomatch z);refine#[_,eY,p,C,I,fs,.ref un,eY,h1,T.cl,T.nU,h2.unlikes,_,eY,p,I,fs,eY,h1,L,_,eY,p,pl,hd,un,m,hm,e,x,eY,g,_,eY,p,I,fs,eY,h1,L,_,eY,p,pl,hd,un,m,hm,e,y,eY,g,eV,λt J=>?_];let s1:=fi J (.tup [.str (hdS hm x),.str (hdS hm y)]);let S:t≠un:=AF (gb g.uns J);exists un,_,eY,DPut.t (k:=[Sum.inr (hdS hm x),Sum.inr (hdS hm y)]) (s1 _ _ g.uns) fb (c (by lia));let k1:Kp (· = un) H (upd (upd H t (.tup [.str (hdS hm x),.str (hdS hm y)])) un (.dT (putK e [Sum.inr (hdS hm x),Sum.inr (hdS hm y)] (.bl eJ)))):=λb o D n=>by rw[fg n];exact s1 _ _ D
 let a:=g.tell k1 fb;let O:(putK e [Sum.inr (hdS hm x),Sum.inr (hdS hm y)] (V.bl eJ)).length<=e.length+1:=jd _ _ _;generalize upd (upd H t (.tup [.str (hdS hm x),.str (hdS hm y)])) un (.dT (putK e [Sum.inr (hdS hm x),Sum.inr (hdS hm y)] (.bl eJ)))=Z at k1 a |-;let(j,l,i,s):=a.ob;let v:=s.meth "head" (by decide);refine#[_,eY,p,C,j,l,.ref un,eY,i,T.cl,T.nU,s.unlikes,_,eY,p,j,l,eY,i,v,_,eY,p,pl,hd,un,m,hm,_,y,eY,a,_,eY,p,j,l,eY,i,v,_,eY,p,pl,hd,un,m,hm,_,x,eY,a,eV,λY G=>?_];let M:=fi G (.tup [.str (hdS hm y),.str (hdS hm x)]);exists un,_,eY,DPut.t (k:=[Sum.inr (hdS hm y),Sum.inr (hdS hm x)]) (M _ _ a.uns) fb (c (by lia));exact q _ (λb o D n=>by rw[fg n];exact M _ _ (k1 b o D n)) fb
theorem ixTK(h:X.K=K):IxR X (rIxT K):=by subst h;exact mt
theorem a93(X:Con K mg w)(T:Txt K mg C Z)(F:Fun K "clashing" "Knowledge.clashing" a59 f fd):FnOk P w K mg base CX0 1 f fd ["self"] (xa C):=by
 refine F.okA ["self"] λN A outer s0 H vs Q E hr h _=>?_;let(p,pl,hd,un,R,hm,c,rfl,t,B,hl,q):=h;let(Y,fs,h1,h2):=t.ob;exists _,ff (fm (gr (v8 rfl) rfl X.any Ep (jh (adt (p6 (a9r (gh (K:=K) rfl (qv 0))) (λ_ _ _ _=>le) (λ_ _ _ _=>io gq (fj K (qv 0) fc) (fj K (qv 0) fc) (fy _)))) ad)))
 nofun
 refine#[_,eY,p,C,Y,fs,.ref un,eY,h1,T.cl,T.nU,h2.unlikes,un,c,eY,t.uns,λod bs nf g=>?_];let O:=A4 g;refine uw (bs.map V.ref) c pb adv fb (by rw[Ad];lia) (by rw[Ad];lia) (λi x r S d I W Q' U=>?_) λD L y J G=>?_
 . let(b,j,rfl):=kc S;let m:=Paired.at2 g d j;let(n,s,k):=B r (Aq d);let v:b≠un:=j1 m t.uns (λz=>nomatch z);let l:SqT K I b [.str n,.str s]:=SqT.of (by
    let:=W b _ (by rw[fg v];exact m);rw[this,k];rfl)
   exists _,eY,b,_,0,.str n,eY,eY,l,eY,_,eY,b,_,1,.str s,eY,eY,l,eY,rfl;let:=U I (Same.refl _);let e:pb r=decide (V.str n=V.str s):=by
    unfold pb;rw[k];show decide ((Sum.inr n:Key)=Sum.inr s)=_;simp
   rw[e] at this;exact this
 let u:L un=eH (.frz od (.dT c)):=J _ _ fb;exists un,od,.dT c,u,nf,D,c.map pb,eY,SqL.of ?_;rw[fg (λz=>by rw[z] at y;rw[fb] at y;cases y)];exact G
 let M:Same H (upd L un (.dT c)):=λb o j=>by
  by_cases a:b=un;rw[a,fb];rw[a,t.uns] at j;exact j;rw[fg a];exact J _ _ (by rw[fg a];exact j)
 let:=q _ M;rw[DT];exact this
end K34
namespace Kn
open L2
def place(p:eU):eZ:=p.getD 1 ""
def end2(p:eU):eZ:=if p.getD 0 ""="stretch" then p.getD 2 "" else "nil"
def FullR(R:eZ->eZ->Prop)(p:eU):Prop:=p.getD 0 ""="cell" \/ R (place p) (end2 p)
theorem FullR.mono(h:∀a b,R a b->S a b)(f:FullR R p):FullR S p:=f.imp id (h _ _)
structure Clo(F P:eS)(R:eZ->eZ->Prop):Prop where
 fact:∀u v,[("not":eZ),u,v]∈F->R u v
 symm:∀a b,R a b->R b a
 conn:∀a b c,Conn F a b->R b c->R a c
 nil:∀p∈P,FullR R p->R (place p) "nil"
 two:∀(i j:eO) p q,P[i]?=eH p->P[j]?=eH q->i≠j->FullR R p->FullR R q->R (place p) (place q)
def Un(F P:eS)(a b:eZ):Prop:=∀R,Clo F P R->R a b
theorem jq(F P:eS):Clo F P (Un F P) where
 fact:=λu v h R c=>c.fact u v h
 symm:=λa b h R c=>c.symm a b (h R c)
 conn:=λa b d h1 h2 R c=>c.conn a b d h1 (h2 R c)
 nil:=λp hp f R c=>c.nil p hp (f.mono λa b h=>h R c)
 two:=λi j p q h1 h2 hn g e R c=>c.two i j p q h1 h2 hn (g.mono λa b h=>h R c) (e.mono λa b h=>h R c)
theorem Un.conn2(h:Un F P b d)(h1:Conn F a b)(h2:Conn F c d):Un F P a c :=
 (jq F P).conn _ _ _ h1 ((jq F P).symm _ _ ((jq F P).conn _ _ _ h2 ((jq F P).symm _ _ h)))
def Told(h:eZ->eZ)(L:eT)(a b:eZ):Prop:=∃q∈L,(h a=h q.1/\h b=h q.2)\/(h a=h q.2/\h b=h q.1)
theorem a3u(hF:∀r∈F,gw r)(c:∀q∈L,Un F P q.1 q.2)(t:Told (fq F) L a b):Un F P a b:=by
 let(q,d,h):=t;rcases h with⟨h1,h2⟩|⟨h1,h2⟩
 . exact(c q d).conn2 ((iz hF _ _).mp h1) ((iz hF _ _).mp h2)
 exact((jq F P).symm _ _ (c q d)).conn2 ((iz hF _ _).mp h1) ((iz hF _ _).mp h2)
structure AllTold(F P:eS)(L:eT)(Fl:eL eO):Prop where
 fact:∀u v,[("not":eZ),u,v]∈F->(u,v)∈L
 full:∀(i:eO) p,P[i]?=eH p->FullR (Told (fq F) L) p->i∈Fl
 nil:∀i∈Fl,∀p,P[i]?=eH p->(place p,("nil":eZ))∈L
 two:∀i∈Fl,∀j∈Fl,i≠j->∀p q,P[i]?=eH p->P[j]?=eH q->(place p,place q)∈L\/(place q,place p)∈L
theorem xu(hF:∀r∈F,gw r)(A:AllTold F P L Fl)(u:Un F P a b):Told (fq F) L a b:=by
 refine u _ #[λu v h=>#[_,A.fact u v h,.inl #[eY,eY]],?_,?_,?_,?_];rintro a b ⟨q,d,h⟩;exact#[q,d,h.elim (λz=>.inr #[z.2,z.1]) (λz=>.inl #[z.2,z.1])];rintro a b c k ⟨q,d,h⟩;let e:=(iz hF a b).mpr k;exact#[q,d,by rw[e];exact h];intro p hp l;let(i,hi):=BB hp;exact#[_,A.nil i (A.full i p hi l) p hi,.inl #[eY,eY]]
 intro i j p q h1 h2 hn g f;rcases A.two i (A.full i p h1 g) j (A.full j q h2 f) hn p q h1 h2 with z|z;exact#[_,z,.inl #[eY,eY]];exact#[_,z,.inr #[eY,eY]]
theorem a7f(hF:∀r∈F,gw r)(A:AllTold F P L Fl)(c:∀q∈L,Un F P q.1 q.2):Told (fq F) L a b↔Un F P a b:=#[a3u hF c,xu hF A]
structure Going(F P:eS)(L:eT)(Fl:eL eO):Prop where
 fact:∀u v,[("not":eZ),u,v]∈F->(u,v)∈L
 sound:∀q∈L,Un F P q.1 q.2
 nd:Fl.Nodup
 isf:∀i∈Fl,∃p,P[i]?=eH p/\FullR (Un F P) p
 nil:∀i∈Fl,∀p,P[i]?=eH p->(place p,("nil":eZ))∈L
 two:∀i∈Fl,∀j∈Fl,i≠j->∀p q,P[i]?=eH p->P[j]?=eH q->(place p,place q)∈L\/(place q,place p)∈L
def ud(P:eS)(Fl:eL eO)(p:eU):eT:=(place p,("nil":eZ))::Fl.map λj=>(place p,place (P.getD j []))
theorem Going.step(G:Going F P L Fl)(hi:P[i]?=eH p)(l:FullR (Un F P) p)(hn:¬ i∈Fl):Going F P (L++ud P Fl p) (Fl++[i]):=by
 let pn:(place p,("nil":eZ))∈L++ud P Fl p:=Ab.mpr (.inr (Af ..));let o:∀j∈Fl,∀q,P[j]?=eH q->(place p,place q)∈L++ud P Fl p:=λj d q c=>by
  refine Ab.mpr (.inr (Ah _ (Au.mpr #[j,d,?_])));rw[Ay,c];rfl
 exists λu v h=>Ab.mpr (.inl (G.fact u v h)),?_,?_,?_,?_
 . intro q c;rcases Ab.mp c with z|z;exact G.sound q z
   . rcases Ak.mp z with rfl|z;exact(jq F P).nil p (Aq hi) l
     . let(j,d,rfl):=Au.mp z;let(q,c,m):=G.isf j d;let e:P.getD j []=q:=by rw[Ay,c];rfl
       show Un F P (place p) (place (P.getD j []));rw[e];exact(jq F P).two i j p q hi c (λz=>hn (z ▸ d)) l m
 . refine AE.mpr #[G.nd,AI.mpr #[As,.nil],λa t b s e=>?_];rw[Ae.mp s] at e;exact hn (e ▸ t)
 . intro j d;rcases Ab.mp d with z|z;exact G.isf j z;rw[Ae.mp z];exact#[p,hi,l]
 . intro j d q c;rcases Ab.mp d with z|z;exact Ab.mpr (.inl (G.nil j z q c));rw[Ae.mp z,hi] at c;cases c;exact pn
 intro j d k n f q r c g;rcases Ab.mp d with z|z;rcases Ab.mp n with y|y;exact(G.two j z k y f q r c g).imp (λw=>Ab.mpr (.inl w)) (λw=>Ab.mpr (.inl w));rw[Ae.mp y,hi] at g;cases g;exact .inr (o j z q c)
 rw[Ae.mp z,hi] at c;cases c;rcases Ab.mp n with y|y;exact .inl (o k y r g);exact eR ((Ae.mp z).trans (Ae.mp y).symm) f
theorem Going.done(G:Going F P L Fl)(h:∀(i:eO) p,P[i]?=eH p->FullR (Told (fq F) L) p->i∈Fl):AllTold F P L Fl:=#[G.fact,h,G.nil,G.two]
theorem uh:∀{l m:eL eO},l.Nodup->(∀x∈l,x∈m)->l.length<=m.length
 |[],_,_,_=>AC _
 |x::l,m,hn,hm=>by
  let d:=hm x (Af ..);let(h1,h2):=AI.mp hn;let:=uh (l:=l) (m:=m.erase x) h2 λy c=>(ED (a:=y) (b:=x) (λe=>h1 (by rw[<- e];exact c))).mpr (hm y (Ah _ c));rw[DU d] at this;let hp:0<m.length:=Df d;rw[Aw]
  lia
theorem Going.len(G:Going F P L Fl):Fl.length<=P.length:=by
 let:=uh (m:=AU P.length) G.nd λi hi=>by
  let(p,hp,_):=G.isf i hi;exact Ba.mpr (An.mp hp).1
 rw[Bu] at this;exact this
end Kn
namespace L2
open PyProof.Rows
def Itk(a:JA)(od:Obj)(kvs:eL (Key×V)):It where
 go:=λi H=>H a=eH (.frz od (.dK kvs))/\i<kvs.length
 yld:=λi H x H'=>H'=H/\(kvs.map λkv=>kV kv.1)[i]?=eH x
 stop:=λi H=>H a=eH (.frz od (.dK kvs))/\kvs.length<=i
def ab9(od:Obj)(kvs:eL (Key×V))(es:fF DictEntry)(ep:eO):Prop:=od.ExactDict/\od.data=.dict es ep/\JI (λ(p:Key×V) (e:DictEntry)=>RelV (kV p.1) e.key) kvs es.toList
theorem a7w{P:JQ}{w:JV}{od:Obj}{es:fF DictEntry}{ep:eO}:∀{kvs:eL (Key×V)}{vs:eL (Key×JC)}{l:eL DictEntry},KV kvs vs->PySem.Pairs (gu P w) l vs->JI (λ(p:Key×V) (e:DictEntry)=>RelV (kV p.1) e.key) kvs l
 |_,_,_,.nil,.nil=>.nil
 |_,_,_,.cons h t,.cons h1 h2 t2=>.cons (by rw[h.1];exact a2j h1) (a7w (od:=od) (es:=es) (ep:=ep) t t2)
theorem Paired.nthK:∀{c:eL α}{l₂:eL β}{i:eO}{a:α}{b:β},JI F c l₂->c[i]?=eH a->l₂[i]?=eH b->F a b
 |_,_,0,_,_,.cons h t,h1,h2=>by cases h1;cases h2;exact h
 |_,_,i+1,_,_,.cons h t,h1,h2=>Paired.nthK (i:=i) t (by simpa using h1) (by simpa using h2)
theorem acg{K:Aa}(hd:ab9 od kvs es ep):
 Turn P w K tg (Itk a od kvs) [J] J (λi h=>h.IsKeyIter J a i es.size ep) where
 mem:=by simp
 obj:=λi h st b hb=>by
  let e:b=J:=by simpa using hb
  subst e;let(o,h1,h2,h3):=st;exact#[o,h1,λv z=>by rw[h3] at z;cases z]
 keep:=λi h h' st k=>by
  let(o,h1,h2):=st;exact#[o,k J (by simp) o h1,h2]
 item:=by
  intro X hP hw hK hc i pins s σ H E I hf st hg;subst hP hw hK;let(f0,f1,f2,f3,f4,f5):=hf J (by simp);let(g1,g2):=I.hok a _ hg.1;let hsz:es.size=kvs.length:=by
   let:=hd.2.2.length;rw[AG] at this;exact this.symm
  refine rg st g1 hd.2.1 (I.ok.hd hc) (λhn h' st' sb=>?_) (λhn=>eR hg.2 (by lia));let I1:Inv X pins σ H {s with heap:=h',toks:=s.toks}:=I.turned (λb o hb e=>(sb.2 b hb).trans e) f0 f1 f3 f4 f5;let hk:RelV (kV (kvs[i]'hg.2).1) es[i].key:=Paired.nthK (F:=λ(p:Key×V) (e:DictEntry)=>RelV (kV p.1) e.key) hd.2.2 (i:=i) (a:=kvs[i]'hg.2) (b:=es[i]) (Ag hg.2) (by rw[B9];exact Fw hn);refine#[_,eY,letGo_keyiter st' #[kV (kvs[i]'hg.2).1,H,I1,hk,#[eY,by rw[Ar,Ag hg.2];rfl],st',λb hb=>(hf b hb).1]]
 done:=by
  intro X hP hw hK hc i pins s σ H E I hf st hg;subst hP hw hK;let(f0,f1,f2,f3,f4,f5):=hf J (by simp);let(g1,g2):=I.hok a _ hg.1;let hsz:es.size=kvs.length:=by
   let:=hd.2.2.length;rw[AG] at this;exact this.symm
  exact rg st g1 hd.2.1 (I.ok.hd hc) (λhn=>eR hg.2 (by lia)) (λ_ h' eb=>#[eY,I.turned (t':=s.toks) (λb o hb e=>eb b o hb e) f0 f1 f3 f4 f5])
 self:=λ_ _ _ _ _ st h=>GY st h
def a6p(X:Cx)(tl:TE):TI:=fun σ H R=>tl σ H λx H1=>∃a kvs,x=.ref a/\H1 a=eH (.dK kvs)/\∀od,NF X a->R (Itk a od kvs) (upd H1 a (.frz od (.dK kvs)))
theorem a9b{X:Cx}{m l:Expr}{k:TE}(hl:PE X l k):PI X m l (a6p X k):=by
 intro c s σ H R I h;refine thn (hl c s σ H _ I h) λv s1 r=>?_;let(x,i,g,r1,a,kvs,ex,e,q):=r;subst ex;cases r1;let(z,hd,vs,rel,od,es,ep,h1,f,h2,h3,j,n):=(show ObjOk X.prog X.w i s1.heap a (.dK kvs) from g.hok a _ e)
 let d:Inv X c σ (upd i a (.frz od (.dK kvs))) s1:=g.write (x:=a) (e:=a) (h':=s1.heap) (t':=s1.toks) (by rw[e];exact True.intro) (.inl rfl) (λ_ _ _ z=>z) #[od,h1] #[h1,z,hd,vs,rel,od,es,ep,h1,f,h2,h3,j,n];let ent:ab9 od kvs es ep:=#[f,h2,a7w (od:=od) (es:=es) (ep:=ep) rel j]
 refine a0q hd h1 f h2 ?_;refine#[s1.heap.objs.size,[s1.heap.objs.size],_,_,upd i a (.frz od (.dK kvs)),eY,d.kept (t':=s1.toks) λb o e=>Aj _ e,acg ent,#[_,Ax _ rfl,eY,eY],λb p=>?_,q od (g.nf e λ_ _ z=>nomatch z)];let e:b=s1.heap.objs.size:=by simpa using p
 subst e;exact d.fpOk (Ao _) (d.hok.fresh (Ao _))
theorem aad(hl:QE X l a):QI X b l (a6p X a):=#[a9b hl.run]
def af0(X:Cx)(t:TS):TS:=λD σ H=>t {D with nx:=fun σ' H'=>∃a o u,H' a=eH (.frz o u)/\NF X a/\D.nx σ' (upd H' a u)} σ H
theorem adl{st:JJ}(h:QS X st t):QS X st (af0 X t):=#[λb s σ H D I q=>thn (h.run b s σ H _ I q) λf s1 p=>by
 cases f with
 |next=>let(d,H',g,a,o,u,e,nf,c):=p;exact#[d,_,g.thaw e nf,c]
 |brk=>exact p
 |cont=>exact p
 |ret u=>exact p]
theorem a7a{g:TG}{h:TS}{D:Ends}(Pv:eO->St->Hp->Prop)(k:Pv 0 σ H)(hl:∀i σ H,i<=kvs.length->Pv i σ H->H a=eH (.frz od (.dK kvs)))(l:∀i x σ H,(kvs.map λkv=>kV kv.1)[i]?=eH x->Pv i σ H->let N:=Pv (i+1);g x σ H λd f=>h {D with nx:=N,ct:=N,bk:=D.nx} d f)(hd:∀σ H,Pv kvs.length σ H->D.nx σ H):
 ∃W:eO->eO->St->Hp->Prop,(∃m,W 0 m σ H)/\∀i m σ H,W i m σ H->
  ((Itk a od kvs).stop i H/\D.nx σ H)\/((Itk a od kvs).go i H/\∃N:St->Hp->Prop,(∀c H',N c H'->∃j,j<m/\W (i+1) j c H')/\∀x H',(Itk a od kvs).yld i H x H'->g x σ H' λd f=>h {D with nx:=N,ct:=N,bk:=D.nx} d f):=by
 exists λi m σ H=>m=kvs.length-i/\i<=kvs.length/\Pv i σ H,#[kvs.length,by simp,AC _,k];rintro i m σ H ⟨rfl,hi,p⟩;let q:=hl i σ H hi p;by_cases b:i<kvs.length;refine .inr #[#[q,b],Pv (i+1),λc H' n=>#[kvs.length-(i+1),by lia,eY,b,n],λx H' y=>?_];let(e,y):=y;subst e;exact l i x σ _ y p
 let e:i=kvs.length:=by lia
 subst e;exact .inl #[#[q,Ao _],hd σ H p]
open PySem.SeqAt
open AutoSeq1 (wpAny_loadPart')
open MeetsSeq MeetsSeq2 MeetsSeq3
section
def a4e(_ j:eN):Prop:=0<j/\j<=10 ^ 60
theorem a1p:OpR X (Je .FloorDiv) (rI a4e λi j=>.int (i / j)):=opI λi j _ _ _ _ _ a q=>by
 let h1:(0:eN)<j:=a.1;let h2:j<=10 ^ 60:=a.2;refine floordiv_int (by lia) (by rw[Fd i (by lia)];exact q) (.inl (PyProof.noPylong_of_log2 ?_));let h3:j.natAbs<2 ^ 200:=by
  let:(10:eN) ^ 60<2 ^ 200:=by decide
  lia
 let b:j.natAbs.log2<200:=(Nat.log2_lt (by lia)).mpr h3
 lia
set_option relaxedAutoImplicit true
theorem aa7(a:QE X o td)(b:QE X e ty)(m:autoParam (M1 X o "pop" apos e cpos) a9_):QE X (.Call (.Attribute o "pop" apos) [e] [] cpos) (a6v td ty):=#[aac a.run b.run m]
end
end L2
namespace K34
open L2 Mir Kn
abbrev ub:JJ:=top 19
def PartRow(r:eU):Prop:=(∃a f s,r=[("cell":eZ),a,f,s])\/(∃a b,r=[("stretch":eZ),a,b])\/∃a,r=[("tree":eZ),a]
structure UkT(uk:eL (eL Key×V))(h:eZ->eZ)(L:eT):Prop where
 pr:∀q∈uk,zy q
 len:uk.length<=2*L.length
 iff:∀a b,(valV uk [Sum.inr a,Sum.inr b]).isSome=eJ↔∃q∈L,(a=h q.1/\b=h q.2)\/(a=h q.2/\b=h q.1)
theorem UkT.told(U:UkT c h L)(a b:eZ):(valV c [Sum.inr (h a),Sum.inr (h b)]).isSome=eJ↔Told h L a b:=U.iff (h a) (h b)
theorem a7c(h:∀q∈d,zy q):∀q∈putK d [Sum.inr a,Sum.inr b] v,zy q:=λq c=>by
 unfold putK at c;split at c;let(p,hp,rfl):=Au.mp c;split;exact#[a,b,by assumption];exact h p hp
 rcases Ab.mp c with z|z;exact h q z;rw[Ae.mp z];exact#[a,b,eY]
theorem UkT.step(U:UkT g h L)(u v:eZ):UkT (put2 g (h u) (h v)) h (L++[(u,v)]):=by
 refine#[a7c (a7c U.pr),?_,λa b=>?_]
 . let h1:=jd g [Sum.inr (h u),Sum.inr (h v)] (V.bl eJ);let h2:=jd (putK g [Sum.inr (h u),Sum.inr (h v)] (V.bl eJ)) [Sum.inr (h v),Sum.inr (h u)] (V.bl eJ);let:=U.len;unfold put2;rw[Ai,A2]
   lia
 unfold put2;rw[l3,l3];let e:∀x y z i:eZ,([Sum.inr x,Sum.inr y]:eL Key)=[Sum.inr z,Sum.inr i]↔x=z/\y=i:=λx y z i=>by simp
 constructor;intro f;by_cases c:([Sum.inr a,Sum.inr b]:eL Key)=[Sum.inr (h v),Sum.inr (h u)];let:=(e _ _ _ _).mp c;exact#[(u,v),Ab.mpr (.inr (Ae.mpr rfl)),.inr this];rw[eP c] at f;by_cases d:([Sum.inr a,Sum.inr b]:eL Key)=[Sum.inr (h u),Sum.inr (h v)];let:=(e _ _ _ _).mp d;exact#[(u,v),Ab.mpr (.inr (Ae.mpr rfl)),.inl this];rw[eP d] at f;let(q,h1,h2):=(U.iff a b).mp f;exact#[q,Ab.mpr (.inl h1),h2]
 rintro⟨q,h1,h2⟩;by_cases c:([Sum.inr a,Sum.inr b]:eL Key)=[Sum.inr (h v),Sum.inr (h u)];rw[eQ c];rfl
 rw[eP c];by_cases d:([Sum.inr a,Sum.inr b]:eL Key)=[Sum.inr (h u),Sum.inr (h v)];rw[eQ d];rfl
 rw[eP d];rcases Ab.mp h1 with z|z;exact(U.iff a b).mpr #[q,z,h2]
 let j:=Ae.mp z;subst j;rcases h2 with h2|h2;exact eR ((e _ _ _ _).mpr h2) d;exact eR ((e _ _ _ _).mpr h2) c
def fk(Fl:eL eO):eL (Key×V):=Fl.map λ(n:eO)=>((Sum.inl ((n:eO):eN):Key),V.bl eJ)
inductive KnS_at_(C:JA)(H:Hp)(p:JA)(pl:JA)(hd:JA)(un:JA)(fu:JA)(F:eS)(L:eT):Prop
 |mk (hm uk)(h0:KnAt C H p pl hd un fu hm uk)(h1:HeadsOk hm (fq F))(h2:UkT uk (fq F) L):KnS_at_ C H p pl hd un fu F L
structure KnS(K:Aa)(C:JA)(H:Hp)(p pl hd un fu:JA)(F P:eS)(L:eT):Prop where
 at_:KnS_at_ C H p pl hd un fu F L
 parts:RowsAt K H pl P
 ne:hd≠fu
theorem KnS.same(h:KnS K C H p pl hd un c F P L)(e:Same H H'):KnS K C H' p pl hd un c F P L:=by
 let((hm,d,h1,h2,b),h3,a):=h;exact#[#[hm,d,h1.same e,h2,b],h3.same e,a]
inductive spEndsS(K:Aa)(vs:eL V)(H:Hp)(Q:VK):Prop
 |mk (b:JA)(r:eU)(h0:vs=[.ref b])(h1:RowAt K H b r)(h2:PartRow r)(h3:∀t H',Same H H'->SqT K H' t [.str (place r),.str (end2 r)]->Q (.ref t) H'):spEndsS K vs H Q
def vv(K:Aa):Sp:=λvs H Q _=>spEndsS K vs H Q
inductive spPartS(K:Aa)(C:JA)(R:eU->(eZ->eZ)->eT->Prop)(vs:eL V)(H:Hp)(Q:VK):Prop
 |mk (p pl hd un fu:JA)(F P:eS)(L:eT)(n:eO)(r:eU)(h0:vs=[.ref p,.int (n:eN)])(h1:KnS K C H p pl hd un fu F P L)(h2:P[n]?=eH r)(h3:PartRow r)(h4:∀(b:fJ) H',Same H H'->(b=eJ↔R r (fq F) L)->Q (.bl b) H'):spPartS K C R vs H Q
def u4(K:Aa)(C:JA)(R:eU->(eZ->eZ)->eT->Prop):Sp:=λvs H Q _=>spPartS K C R vs H Q
def ki(r:eU)(h:eZ->eZ)(_:eT):Prop:=r.getD 0 ""≠"cell" /\ h (place r)=h (end2 r)
def a4i(r:eU)(h:eZ->eZ)(L:eT):Prop:=FullR (Told h L) r
theorem l9(h:RowsAt K H pl P){n:eO}(hn:P[n]?=eH r):∃(as:eL JA) (b:JA),H pl=eH (.lst (as.map V.ref))/\atI (as.map V.ref) (n:eN)=eH (.ref b)/\RowAt K H b r:=by
 let(as,h1,h2):=h;let hl:=A4 h2;let a:n<as.length:=by rw[hl];exact(An.mp hn).1
 exact#[as,as[n],h1,lc (by rw[Ar,Ag a];rfl),Paired.at2 h2 (Ag a) hn]
theorem PartRow.at0(h:PartRow r):atI (r.map V.str) (0:eN)=eH (.str (r.getD 0 "")):=by
 rcases h with⟨a,f,s,rfl⟩|⟨a,b,rfl⟩|⟨a,rfl⟩<;>rfl
theorem PartRow.at1(h:PartRow r):atI (r.map V.str) (1:eN)=eH (.str (place r)):=by
 rcases h with⟨a,f,s,rfl⟩|⟨a,b,rfl⟩|⟨a,rfl⟩<;>rfl
theorem scEnds:FnScope ["part"] ["part"] (gy ub):=#[eY,eY,eY,by decide,eY,by decide,by decide]
theorem acp(F:Fun K "ends_of" "ends_of" ub f fd):FnOk P w K mg base CX0 1 f fd ["part"] (vv K):=by
 refine F.okA ["part"] λj A outer s0 H vs Q E k h _=>?_;let(b,r,rfl,d,hp,q):=h;exists _,(ff (fm (mz (fz gq (fj K (qv 0) fc) gt (fy _)) (i3 (fx (fj K (qv 0) fc) (fx (fj K (qv 0) fc) ad))) (i3 (fx (fj K (qv 0) fc) (gm ad))))));refine#[_,eY,b,_,0,_,eY,eY,d,hp.at0,eY,_,eY,iteB (λc=>?_) (λc=>?_)]
 . let g:r.getD 0 ""="stretch" := by simpa using c
   obtain⟨x,y,rfl⟩:∃x y,r=[("stretch":eZ),x,y]:=by
    rcases hp with⟨a,f,s,rfl⟩|z|⟨a,rfl⟩
    . exact eR g (by show ¬ ("cell":eZ)="stretch";decide)
    . exact z
    exact eR g (by show ¬ ("tree":eZ)="stretch";decide)
   refine#[_,eY,b,_,1,.str x,eY,eY,d,eY,_,eY,b,_,2,.str y,eY,eY,d,eY,eV,λt i=>?_];exact q t _ (fi i _) (SqT.of fb)
 let g:¬ r.getD 0 ""="stretch" := by simpa using c
 refine#[_,eY,b,_,1,_,eY,eY,d,hp.at1,eV,λt i=>?_];let e:end2 r="nil" := by unfold end2;rw[eP g]
 refine q t _ (fi i _) ?_;rw[e];exact SqT.of fb
theorem ab1(T:Txt K mg C Z)(F:Fun K "is_empty" "Knowledge.is_empty" a09 f fd)(O:FnOk P w K mg base CX0 1 X M eD (vv K))(l:eB O "ends_of")(I:FnOk P w K mg base CX0 2 R W eE (lh C))(y:eC I C "alike"):FnOk P w K mg base CX0 3 f fd ["self","number"] (u4 K C ki):=by
 refine F.okA ["self","number","ends"] λJ A outer s0 H vs Q E x h nd=>?_;let(p,pl,hd,un,u,Fs,Ps,L,n,r,rfl,U,hn,hp,q):=h;let o:=x.mono (j:=1) (by lia);exists _,fe (gd 2 nd (gx O o l (fx (i7 K (gh (K:=K) rfl (qv 0)) (qv 1)) ad)))
  (ff (fm (om (io km (fj K (i7 K (gh (K:=K) rfl (qv 0)) (qv 1)) fc) gt (fy _)) (lm (gi (qv 0) T.cl y.meth I x y.bind .nil gn (fx (fj K (qv 2) fc) (fx (fj K (qv 2) fc) ad)))))))
 nofun
 let((hm,N,D,hok,Y),a,S):=id U;let(s,fs,h1,h2):=D.ob;let(as,b,g,e,B):=l9 a hn;refine#[_,eY,p,C,s,fs,.ref pl,eY,h1,T.cl,T.nP,h2.parts,_,eY,pl,_,_,.ref b,eY,eY,SqL.of g,e,b,r,eY,B,hp,λt G d v=>?_];let m:=D.same d;refine#[_,eY,p,C,s,fs,.ref pl,eY,d _ _ h1,T.cl,T.nP,h2.parts,_,eY,pl,_,_,.ref b,eY,eY,SqL.of (d _ _ g),e,b,_,0,_,eY,eY,B.same d,hp.at0,eY,_,eY,iteB (λc=>?_) (λc=>?_)]
 . let k:¬ r.getD 0 ""="cell" := by simpa using c
   exists _,eY,p,s,fs,eY,d _ _ h1,h2.meth "alike" (by decide),_,eY,t,_,0,.str (place r),eY,eY,v,eY,_,eY,t,_,1,.str (end2 r),eY,eY,v,eY,p,pl,hd,un,u,hm,N,_,_,eY,m;refine q _ G d ?_;rw[hok.hd,hok.hd,fG];exact#[λz=>#[k,z],λz=>z.2]
 let k:r.getD 0 ""="cell" := by simpa using c
 exact q eK G d #[λz=>Bool.noConfusion z,λz=>eR k z.1]
theorem adj(T:Txt K mg C fI)(F:Fun K "must_be_full" "Knowledge.must_be_full" yk f fd)(R:FnOk P w K mg base CX0 1 gE N eD (vv K))(l:eB R "ends_of")(G:FnOk P w K mg base CX0 2 S Y eE (v4 C))(y:eC G C "unlike"):FnOk P w K mg base CX0 3 f fd ["self","number"] (u4 K C a4i):=by
 refine F.okA ["self","number","ends"] λI A outer s0 H vs Q E x h nd=>?_;let(p,pl,hd,un,u,Fs,Ps,L,n,r,rfl,W,hn,hp,q):=h;let o:=x.mono (j:=1) (by lia);exists _,fe (gd 2 nd (gx R o l (fx (i7 K (gh (K:=K) rfl (qv 0)) (qv 1)) ad)))
  (ff (fm (zr (io gq (fj K (i7 K (gh (K:=K) rfl (qv 0)) (qv 1)) fc) gt (fy _)) (lm (gi (qv 0) T.cl y.meth G x y.bind .nil gn (fx (fj K (qv 2) fc) (fx (fj K (qv 2) fc) ad)))))))
 nofun
 let((hm,O,D,hok,J),a,U):=id W;let(s,fs,h1,h2):=D.ob;let(as,b,g,e,B):=l9 a hn;refine#[_,eY,p,C,s,fs,.ref pl,eY,h1,T.cl,T.nP,h2.parts,_,eY,pl,_,_,.ref b,eY,eY,SqL.of g,e,b,r,eY,B,hp,λt Z d v=>?_];let m:=D.same d;refine#[_,eY,p,C,s,fs,.ref pl,eY,d _ _ h1,T.cl,T.nP,h2.parts,_,eY,pl,_,_,.ref b,eY,eY,SqL.of (d _ _ g),e,b,_,0,_,eY,eY,B.same d,hp.at0,eY,_,eY,iteB (λc=>?_) (λc=>?_)]
 . let k:r.getD 0 ""="cell" := by simpa using c
   exact q eJ Z d #[λ_=>.inl k,λ_=>rfl]
 let k:¬ r.getD 0 ""="cell" := by simpa using c
 refine#[_,eY,p,s,fs,eY,d _ _ h1,h2.meth "unlike" (by decide),_,eY,t,_,0,.str (place r),eY,eY,v,eY,_,eY,t,_,1,.str (end2 r),eY,eY,v,eY,p,pl,hd,un,u,hm,O,_,_,eY,m,λM X=>?_];refine q _ M (d.trans X) ?_;rw[hok.hd,hok.hd,J.told];exact#[λz=>.inr z,λz=>z.resolve_left k]
def NoRow(o:HO):Prop:=(∃kv,o=.dK kv)\/(∃kv,o=.dT kv)\/(∃od kv,o=.frz od (.dK kv))\/∃C dx fs,o=.ins C dx fs
theorem NoRow.tup{o:HO}(h:NoRow o){xs:eL V}:o≠.tup xs/\(∀ob,o≠.frz ob (.tup xs))/\o≠.lst xs:=by
 rcases h with⟨kv,rfl⟩|⟨kv,rfl⟩|⟨od,kv,rfl⟩|⟨C,a,fs,rfl⟩
 . exact#[(λz=>nomatch z),(λ_ z=>nomatch z),(λz=>nomatch z)]
 . exact#[(λz=>nomatch z),(λ_ z=>nomatch z),(λz=>nomatch z)]
 . exact#[(λz=>nomatch z),(λ_ z=>nomatch z),(λz=>nomatch z)]
 exact#[(λz=>nomatch z),(λ_ z=>nomatch z),(λz=>nomatch z)]
theorem su(h:RowsAt K H pl P)(k:Kp S H H')(a:∀b,S b->∃o,H b=eH o/\NoRow o):RowsAt K H' pl P:=by
 let(as,h1,h2):=h;refine#[as,k _ _ h1 λz=>?_,Paired.mapP h2 λb r c=>?_];let(o,e,n):=a _ z;rw[h1] at e;exact(n.tup (xs:=as.map V.ref)).2.2 (Am e).symm
 rcases c with (z|⟨ob,z⟩)|z
 . refine .inl (.inl (k _ _ z λy=>?_));let(o,e,n):=a _ y;rw[z] at e;exact(n.tup (xs:=r.map V.str)).1 (Am e).symm
 . refine .inl (.inr #[ob,k _ _ z λy=>?_]);let(o,e,n):=a _ y;rw[z] at e;exact(n.tup (xs:=r.map V.str)).2.1 ob (Am e).symm
 exact .inr z
theorem KnS.tell(d:KnAt C H p pl hd un f hm c)(hok:HeadsOk hm (fq F))(h:UkT c (fq F) L)(hp:RowsAt K H pl P)(a:hd≠f)(k:Kp (· = un) H H')(e:H' un=eH (.dT (put2 c (hdS hm u) (hdS hm v)))):KnS K C H' p pl hd un f F P (L++[(u,v)]):=by
 refine#[#[hm,_,d.tell k e,hok,?_],su hp k λb g=>#[.dT c,by rw[show b=un from g];exact d.uns,.inr (.inl #[_,eY])],a];rw[hok.hd,hok.hd];exact h.step u v
theorem KnS.fus(h:KnS K C H p pl hd un a F P L)(g:H a=eH o)(hn:(∃kv,o=.dK kv)\/∃od kv,o=.frz od (.dK kv))(l:HO):KnS K C (upd H a l) p pl hd un a F P L:=by
 let((hm,j,d,hok,i),k,c):=h;let(m,fs,h1,h2):=d.ob;let f:NoRow o:=hn.elim (λz=>.inl z) (λz=>.inr (.inr (.inl z)));let n1:p≠a:=λz=>by
  rw[z,g] at h1;rcases hn with⟨kv,rfl⟩|⟨od,kv,rfl⟩<;>cases h1
 let n2:un≠a:=λz=>by
  let:=d.uns;rw[z,g] at this;rcases hn with⟨kv,rfl⟩|⟨od,kv,rfl⟩<;>cases this
 refine#[#[hm,j,#[#[m,fs,by rw[fg n1];exact h1,h2],by rw[fg c];exact d.hds,by rw[fg n2];exact d.uns],hok,i],?_,c];exact su (S:=(· = a)) k (λb o e hn=>by rw[fg hn];exact e) λb e=>#[o,by rw[show b=a from e];exact g,f]
theorem aes{Fl:eL eO}(h:¬ n∈Fl):putK (fk Fl) (Sum.inl (n:eN)) (.bl eJ)=fk (Fl++[n]):=by
 let hv:valV (fk Fl) (Sum.inl (n:eN):Key)=eI:=by
  cases e:valV (fk Fl) (Sum.inl (n:eN):Key) with
  |none=>rfl
  |some v =>
   let:=xc e;unfold fk at this;rw[B3] at this;let(m,hm,a):=Au.mp this;let c:(Sum.inl (m:eN):Key)=Sum.inl (n:eN):=a;let d:(m:eN)=n:=BS c;let b:m=n:=by lia
   exact eR (b ▸ hm) h
 rw[l6 _ hv];unfold fk;rw[Av];rfl
inductive spTellFS(K:Aa)(C:JA)(vs:eL V)(H:Hp)(Q:VK):Prop
 |mk (p pl hd un fu:JA)(F P:eS)(L:eT)(Fl:eL eO)(n:eO)(r:eU)(h0:vs=[.ref p,.int (n:eN)])(h1:KnS K C H p pl hd un fu F P L)(h2:H fu=eH (.dK (fk Fl)))(h3:P[n]?=eH r)(h4:(∀r∈P,PartRow r))(h5:(∀j∈Fl,j<P.length))(h6:(¬ n∈Fl))(h7:L.length+Fl.length+1<=400)(h8:∀H',Kp (λb=>b=un\/b=fu) H H'->KnS K C H' p pl hd un fu F P (L++ud P Fl r)->H' fu=eH (.dK (fk (Fl++[n])))->Q .non H'):spTellFS K C vs H Q
def a2l(K:Aa)(C:JA):Sp:=λvs H Q _=>spTellFS K C vs H Q
theorem a9k(T:Txt K mg C fI)(F:Fun K "tell_full" "Knowledge.tell_full" a6j f fd)(GU:FnOk P w K mg base CX0 2 gU dU eD (xx C))(cU:eC GU C "tell_unlike"):FnOk P w K mg base CX0 3 f fd ["self","number"] (a2l K C):=by
 refine F.okA ["self","number","place","other"] λaD A outer s0 H vs Q E hr h nd=>?_;let(p,pl,hd,un,c,Fs,N,L,Fl,n,r,rfl,hK,W,hn,g,al,Z,aC,q):=h;let am:=ir hr;let hp:=g r (Aq hn);exists _,fe (gd 2 nd (fj K (i7 K (gh (K:=K) rfl (qv 0)) (qv 1)) fc))
  (fe (il (gi (qv 0) T.cl cU.meth GU hr cU.bind .nil gn (fh (qv 2) (gm ad))))
  (fe (adl (ip A7 rfl (aad (gh (K:=K) rfl (qv 0))) (j2 3 nd) (ff (il (gi (qv 0) T.cl cU.meth GU hr cU.bind .nil gn (fh (qv 2) (fx (fj K (i7 K (gh (K:=K) rfl (qv 0)) (qv 3)) fc) ad)))))))
  (ff (ld am (gh (K:=K) rfl (qv 0)) (qv 1) mh))))
 nofun
 let((hm,uk,hk,hok,hU),m,ah):=id hK;let(dx,fs,h1,h2):=hk.ob;let(as,b,av,az,hR):=l9 m hn;exists _,eY,p,C,dx,fs,.ref pl,eY,h1,T.cl,T.nP,h2.parts,_,eY,pl,_,_,.ref b,eY,eY,SqL.of av,az,b,_,1,_,eY,eY,hR,hp.at1;let aE:=hU.len;refine#[_,eY,p,dx,fs,eY,h1,h2.meth "tell_unlike" (by decide),_,eY,p,pl,hd,un,c,hm,uk,place r,"nil",eY,hk,by lia,λH1 k1 e1=>?_];let G:=KnS.tell hk hok hU m ah k1 e1;let ae:c≠un:=j1 W hk.uns (λz=>nomatch z);let u:=k1 _ _ W ae;let((aF,aJ,X,_,_),_,_):=id G;let(aq,ay,aa,O):=X.ob;refine#[_,eY,p,C,aq,ay,.ref c,eY,aa,T.cl,T.nF,O.fulls,c,_,eY,u,λod nf=>?_];let ai:=G.fus u (.inl #[_,eY]) (.frz od (.dK (fk Fl)));let B:(upd H1 c (.frz od (.dK (fk Fl)))) c=eH (.frz od (.dK (fk Fl))):=fb;let k2:Kp (λb=>b=un\/b=c) H (upd H1 c (.frz od (.dK (fk Fl)))):=λb o D a=>by
  rw[fg (λz=>a (.inr z))];exact k1 b o D (λz=>a (.inl z))
 generalize upd H1 c (.frz od (.dK (fk Fl)))=H2 at ai B k2 |-;clear G u X aa O k1 e1;refine a7a (λi σ v=>Kp (λb=>b=un\/b=c) H v/\KnS K C v p pl hd un c Fs N (L++((place r,("nil":eZ))::(Fl.take i).map λj=>(place r,place (N.getD j []))))/\v c=eH (.frz od (.dK (fk Fl)))/\∃z3:eM V,σ=[rQ p,iQ (n:eN),eH (.str (place r)),z3])
  #[k2,ai,B,eI,eY] (λi σ v _ pv=>pv.2.2.1) ?_ ?_
 . rintro i x σ v hx ⟨k3,y,d,z3,rfl⟩
   nofun
   let J:i<Fl.length:=by
    let:=(An.mp hx).1;unfold fk at this;simpa using this
   obtain rfl:x=.int ((Fl[i]:eO):eN):=by
    unfold fk at hx;rw[Ar,Ar,Ag J] at hx;exact(Am hx).symm
   let aA:=al _ (AM J);obtain⟨s,hs⟩:∃s,N[Fl[i]]?=eH s:=#[N[Fl[i]],Ag aA]
   let ao:=g s (Aq hs);let((aw,ax,I,aj,ab),e,_):=id y;let(R,U,Y,af):=I.ob;let(aH,b3,ag,ac,aB):=l9 e hs;let S:=ab.len;let aK:((Fl.take i).map λj=>(place r,place (N.getD j []))).length<=Fl.length:=by rw[Ad,AL];lia
   refine#[_,eY,p,R,U,eY,Y,af.meth "tell_unlike" (by decide),_,eY,_,eY,p,C,R,U,.ref pl,eY,Y,T.cl,T.nP,af.parts,_,eY,pl,_,_,.ref b3,eY,eY,SqL.of ag,ac,b3,_,1,_,eY,eY,aB,ao.at1,p,pl,hd,un,c,aw,ax,place r,place s,eY,I,?_,λH4 M e4=>?_]
   . rw[Ai,Aw] at S
     lia
   let l:=KnS.tell I aj ab e ah M e4;refine#[λb' o D a=>M b' o (k3 b' o D a) (λz=>a (.inl z)),?_,M _ _ d ae,_,eY];let et:Fl.take (i+1)=Fl.take i++[Fl[i]]:=by rw[AJ,Ag J];rfl
   let eg:N.getD Fl[i] []=s:=by rw[Ay,hs];rfl
   rw[A5] at l;rw[et,Av,List.map_singleton,eg];exact l
 rintro σ v ⟨k3,y,d,z3,rfl⟩;let e0:(fk Fl).length=Fl.length:=by unfold fk;rw[Ad]
 rw[e0,AN] at y;exists c,od,.dK (fk Fl),d,nf;let l:=y.fus d (.inr #[_,_,eY]) (.dK (fk Fl));let t:(upd v c (.dK (fk Fl))) c=eH (.dK (fk Fl)):=fb;let M:Kp (λb=>b=un\/b=c) H (upd v c (.dK (fk Fl))):=λb o D a=>by
  rw[fg (λz=>a (.inr z))];exact k3 b o D a
 generalize upd v c (.dK (fk Fl))=H4 at l t M |-;let((aG,aI,an,_,_),_,_):=id l;let(au,ak,ap,ar):=an.ob;exists _,eY,p,C,au,ak,.ref c,eY,ap,T.cl,T.nF,ar.fulls,_,eY,c,_,eY,DPut.k (k:=Sum.inl (n:eN)) t ?_;rw[e0];exact AH (show Fl.length<=1000 by lia) (by decide)
 rw[aes Z];refine q _ (λb o D a=>by rw[fg (λz=>a (.inr z))];exact M b o D a) (l.fus t (.inl #[_,eY]) _) fb
end K34
namespace L2
def natV(n:eO):V:=.int (n:eN)
theorem a0a(n:eO):nums 0 n=(AU n).map natV:=by
 unfold nums natV;refine DC λi _=>?_;rw[Cd]
theorem ph(ns:eL eO)(p:eO->fJ)(l:JSeq J u (ns.map natV))(k:u d)(hz:ns.length<=1000)(o:∀n∈ns,∀a,Same d a->∀b:fJ->Hp->Prop,(∀c,Same a c->b (p n) c)->r (eH (.int (n:eN))::j8 σ h) a b)(m:∀(n:eO) a (b:VK),b (.int (n:eN)) a->t (eH (.int (n:eN))::j8 σ h) a b)(s:∀D H',d D=eI->Same d H'->H' D=eH (.lst ((ns.filter p).map natV))->Q (.ref D) H'):lr J d σ h r t Q:=by
 let pv:∀n:eO,(λv:V=>match v with|.int i=>p i.toNat|_=>eK) (natV n)=p n:=λn=>by
  show p ((n:eN)).toNat=p n;rw[AW]
 refine qx (ns.map natV) (λv=>match v with|.int i=>p i.toNat|_=>eK) id l k (by rw[Ad];exact AB hz (by decide)) ?_ ?_ ?_;intro x g a j b f;let(n,hn,rfl):=Au.mp g;refine o n hn a j b λc w=>?_;let:=f c w;let e:(match natV n with|.int i=>p i.toNat|_=>eK)=p n:=pv n;rw[e] at this;exact this;intro x g _ a j b f;let(n,hn,rfl):=Au.mp g;exact m n a b (f a (Same.refl _));intro D H' q e hd;refine s D H' q e ?_;rw[hd,Gc,EC];rw[show(IX ((λv:V=>match v with|.int i=>p i.toNat|_=>eK)∘natV) ns)=ns.filter p from Fq λn _=>pv n]
end L2
namespace K34
open L2 Mir Kn
open Classical in
def rp(P:eS)(h:eZ->eZ)(L:eT)(n:eO):fJ:=decide (∃r,P[n]?=eH r/\FullR (Told h L) r)
open Classical in
theorem mustB_iff:rp P h L n=eJ↔∃r,P[n]?=eH r/\FullR (Told h L) r:=by
 unfold rp;exact#[λz=>fC z,λz=>fB z]
theorem aao(hn:P[n]?=eH r)(a:b=eJ↔FullR (Told h L) r):rp P h L n=b:=by
 rw[Bd,mustB_iff,a];constructor;rintro⟨r',h1,h2⟩;rw[hn] at h1;cases h1;exact h2;exact λz=>#[r,hn,z]
theorem qk{n:eO}:(valV (fk Fl) (Sum.inl (n:eN):Key)).isSome=decide (n∈Fl):=by
 rw[<- kd];unfold fk;rw[Bd,AS,fG];constructor
 . rintro⟨q,b,e⟩;let(m,hm,rfl):=Au.mp b;let a:(Sum.inl (m:eN):Key)=Sum.inl (n:eN):=by simpa using e
   let:(m:eN)=n:=BS a;let:m=n:=by lia
   exact this ▸ hm
 exact λh=>#[_,Au.mpr #[n,h,eY],by simp]
inductive spFindS(K:Aa)(C:JA)(vs:eL V)(H:Hp)(Q:VK):Prop
 |mk (p pl hd un fu:JA)(F P:eS)(L:eT)(h0:vs=[.ref p])(h1:KnS K C H p pl hd un fu F P L)(h2:H fu=eH (.dK (fk [])))(h3:(∀r∈F,gw r))(h4:(∀r∈P,PartRow r))(h5:P.length<=15)(h6:L.length<=100)(h7:Going F P L [])(h8:∀L' Fl H',Kp (λb=>b=un\/b=fu) H H'->KnS K C H' p pl hd un fu F P L'->H' fu=eH (.dK (fk Fl))->AllTold F P L' Fl->Going F P L' Fl->L'.length<=400->Q .non H'):spFindS K C vs H Q
def a8e(K:Aa)(C:JA):Sp:=λvs H Q _=>spFindS K C vs H Q
theorem xo(Pv:eO->St->Hp->Prop)(g:Pv m0 σ H)(h:∀m σ H,Pv m σ H->let N:St->Hp->Prop:=λe H'=>∃d,d<m/\Pv d e H';c σ H λb a=>if b=eJ then i {D with nx:=N,ct:=N,bk:=D.nx} σ a else D.nx σ a)(mono:∀σ H Q f,(∀b a,Q b a->f b a)->c σ H Q->c σ H f):vw c i D σ H:=by
 exists Pv,#[_,g];intro m σ H p;refine mono σ H _ _ (λb a q=>?_) (h m σ H p);cases b with|true=>exact#[_,λe H' #[d,l,j]=>#[d,l,j],q]|false=>exact q
theorem adx(Cn:Con K mg w)(T:Txt K mg C fI)(F:Fun K "find_fulls" "Knowledge.find_fulls" a5f f fd)(GM:FnOk P w K mg base CX0 3 gM dM eD (u4 K C a4i))(cM:eC GM C "must_be_full")(GT:FnOk P w K mg base CX0 3 gT dT eE (a2l K C))(cT:eC GT C "tell_full"):FnOk P w K mg base CX0 4 f fd ["self"] (a8e K C):=by
 refine F.okA ["self","found","number","waiting"] λa6 A outer s0 H vs Q E hr h nd=>?_;let(p,pl,hd,un,G,u,l,L0,rfl,hK,aC,a1,ao,a3,aJ,aR,q):=h;let aB:=ir hr;exists _,fe (oq ["number","self"] [0] (i:=1) nd rfl (Or.inl rfl) (jx rfl Cn.range (ii (gr j0 rfl Cn.len Bs (jh (gh (K:=K) rfl (qv 0)) ad)) ad)) (λ_ _ _ _=>(my (i6 (gi (qv 1) T.cl cM.meth GM hr cM.bind .nil gn (fh (qv 0) ad))))) (λ_ _ _ _=>(qv 0)))
  (ff (nh A7 (uu (K:=K) (qv 1)) (fe (ip A7 rfl (i9 (qv 1)) (j2 2 nd) (ff (il (gi (qv 0) T.cl cT.meth GT hr cT.bind .nil gn (fh (qv 2) ad)))))
  (fe (oq ["number","self"] [0] (i:=3) nd rfl (Or.inl rfl) (jx rfl Cn.range (ii (gr j0 rfl Cn.len Bs (jh (gh (K:=K) rfl (qv 0)) ad)) ad)) (λ_ _ _ _=>(my (ko aB (qv 0) (gh (K:=K) rfl (qv 1))))) (λ_ _ _ _=>(qv 0)))
  (ff (oq ["number","self"] [0] (i:=1) nd rfl (Or.inl rfl) (i9 (qv 3)) (λ_ _ _ _=>(my (i6 (gi (qv 1) T.cl cM.meth GM hr cM.bind .nil gn (fh (qv 0) ad))))) (λ_ _ _ _=>(qv 0))))))))
 nofun
 let ag:∀{M N:Hp} {L:eT} {n:eO} {X:fJ->Hp->Prop},KnS K C M p pl hd un G u l L->n<l.length->Same M N->(∀R,Same N R->X (rp l (fq u) L n) R)->u4 K C a4i [.ref p,.int (n:eN)] N (λv R=>tBS v R X) E0:=λ{M N L n X} hk hn e I=>by
  let hs:l[n]?=eH l[n]:=Ag hn;refine#[p,pl,hd,un,G,u,l,L,n,_,eY,hk.same e,hs,ao _ (AM hn),λb R e4 hb=>#[b,eY,?_]];let:=I R e4;rw[aao hs hb] at this;exact this
 let((hm,uk,hk,hok,hU),aj,be):=id hK;let(dx,fs,h1,h2):=hk.ob;let(as,aV,aO):=aj;let ar:=A4 aO;let ak:(as.map V.ref).length=l.length:=by rw[Ad];exact ar
 exists _,eY,p,C,dx,fs,.ref pl,eY,h1,T.cl,T.nP,h2.parts,pl,_,eY,.inl (SqL.of aV),_,eY,(by rw[ak];lia),(by rw[ak];lia);rw[ak,AW];let JR:∀n,JSeq (Itr 0 n) (λ_=>True) ((AU n).map natV):=λn=>by rw[<- a0a];exact vk
 refine ph (AU l.length) (rp l (fq u) L0) (JR _) trivial (by rw[Bu];lia) (λn hn M e2 X I=>?_) (λn M X I=>#[_,eY,I]) λD H1 hD e1 aF=>?_;exact#[_,eY,p,dx,fs,eY,e2 _ _ h1,h2.meth "must_be_full" (by decide),_,eY,ag hK (Ba.mp hn) e2 I]
 let au:∀i r,l[i]?=eH r->FullR (Told (fq u) L0) r->i∈([]:eL eO)\/i∈(AU l.length).filter (rp l (fq u) L0):=λi r hi hf=>.inr (Bc.mpr #[Ba.mpr (An.mp hi).1,mustB_iff.mpr #[r,hi,hf]]);refine xo (λm σ M=>Ex6 λ(L:eT) (Fl d:eL eO) (D:JA) (z2 z3:eM V)=>And11 (σ=[rQ p,rQ D,z2,z3]) (Kp (λb=>b=un\/b=G) H M) (KnS K C M p pl hd un G u l L) (M G=eH (.dK (fk Fl))) (Going u l L Fl) (L.length<=100+Fl.length*16) (M D=eH (.lst (d.map natV))) (d.Nodup) ((∀i∈d,(¬ i∈Fl)/\∃r,l[i]?=eH r/\FullR (Told (fq u) L) r)) ((∀i r,l[i]?=eH r->FullR (Told (fq u) L) r->i∈Fl\/i∈d)) (m=l.length-Fl.length))
  (m0:=l.length) #[L0,[],_,D,eI,eI,eY,λb o hb _=>e1 b o hb,hK.same e1,e1 _ _ aC,aR,by simpa using aJ,aF,HA DD Ej,λi hi=>#[As,mustB_iff.mp (Bc.mp hi).2],au,eY] ?_ ?_
 . rintro m σ M ⟨L,Fl,d,D,z2,z3,rfl,k2,af,B,hG,aN,O,aP,aQ,aZ,rfl⟩
   nofun
   exists _,eY,_,.inl #[_,SqL.of O,eY];let bb:G≠un:=by
    let((_,_,al,_),_):=af;exact j1 B al.uns (λz=>nomatch z)
   let bf:=hG.len;refine iteB (λc=>?_) (λc=>?_)
   . let aK:0<d.length:=by
      cases d with|nil=>cases c|cons _ _=>exact Nat.succ_pos _
     clear c;exists _,eY,D,eY,#[_,SqL.of O];let a2:D≠un:=by
      let((_,_,al,_),_):=af;exact j1 O al.uns (λz=>nomatch z)
     let aD:D≠G:=j1 O B (λz=>nomatch z);refine j5 (xs:=d.map natV) (λj σ N=>Ex2 λ(L3:eT) (z2:eM V)=>And7 (σ=[rQ p,rQ D,z2,z3]) (Kp (λb=>b=un\/b=G) H N) (KnS K C N p pl hd un G u l L3) (N G=eH (.dK (fk (Fl++d.take j)))) (Going u l L3 (Fl++d.take j)) (L3.length<=100+(Fl++d.take j).length*16) (N D=eH (.lst (d.map natV))))
      #[L,z2,eY,k2,af,by rw[BX,A0];exact B,by rw[BX,A0];exact hG,by rw[BX,A0];exact aN,O] (λj σ N _ pv=>by let(_,_,_,_,_,_,_,_,aH):=pv;exact SqL.of aH) ?_ ?_
     . rintro j x σ N hx ⟨L3,z2,rfl,k3,J,s,t,ah,aq⟩
       nofun
       let an:j<d.length:=by let:=(An.mp hx).1;rw[Ad] at this;exact this
       obtain rfl:x=.int ((d[j]:eO):eN):=by
        rw[Ar,Ag an] at hx;exact(Am hx).symm
       let(aM,r,hr,aU):=aQ _ (AM an);let aw:¬ d[j]∈Fl++d.take j:=λz=>by
        rcases Ab.mp z with y|y;exact aM y
        let(i,hi,e):=List.mem_take_iff_getElem.mp y;let:=(HQ aP).mp e
        lia
       let aL:FullR (Un u l) r:=aU.mono λa b z=>a3u a1 hG.sound z;let S:=t.len;let a4:(Fl++d.take j).length*16<=15*16:=Du _ (by lia);let((aW,aY,am,_,_),_,_):=id J;let(W,Y,aa,ab):=am.ob;refine#[_,eY,p,W,Y,eY,aa,ab.meth "tell_full" (by decide),_,eY,p,pl,hd,un,G,u,l,L3,Fl++d.take j,d[j],r,eY,J,s,hr,ao,λi hi=>?_,aw,by lia,λR k4 Z az=>?_];let(r',h',_):=t.isf i hi;exact(An.mp h').1
       let et:Fl++d.take (j+1)=Fl++d.take j++[d[j]]:=by rw[AJ,Ag an,A5];rfl
       refine#[_,_,eY,λb o hb ae=>k4 b o (k3 b o hb ae) ae,Z,by rw[et];exact az,by rw[et];exact t.step hr aL aw,?_,k4 _ _ aq (λz=>z.elim a2 aD)];let tl:(ud l (Fl++d.take j) r).length=(Fl++d.take j).length+1:=by unfold ud;rw[Aw,Ad]
       rw[et,Ai,tl,Ai (bs:=[d[j]]),A2,Nat.add_mul]
       lia
     rintro σ N ⟨L3,z2,rfl,k3,J,s,t,ah,aq⟩;let el:(d.map natV).length=d.length:=Ad ..;rw[el,AN] at s t ah;let S:=t.len;rw[Ai] at S;let((aW,aY,am,a5,a9),ac,_):=id J;let(W,Y,aa,ab):=am.ob;let(aG,ay,av):=ac;let U:(aG.map V.ref).length=l.length:=by rw[Ad];exact A4 av
     exists _,eY,p,C,W,Y,.ref pl,eY,aa,T.cl,T.nP,ab.parts,pl,_,eY,.inl (SqL.of ay),_,eY,(by rw[U];lia),(by rw[U];lia);rw[U,AW];refine ph (AU l.length) (λn => !decide (n∈Fl++d)) (JR _) trivial (by rw[Bu];lia) (λn hn R e4 X I=>?_) (λn R X I=>#[_,eY,I]) λD4 R bc e4 ap=>?_;let g:=DGet.k (k:=Sum.inl (n:eN)) (e4 _ _ s);let:=I R (Same.refl _);rw[<- qk] at this;exact#[_,eY,_,eY,p,C,W,Y,.ref G,eY,e4 _ _ aa,T.cl,T.nF,ab.fulls,G,_,eY,g,_,eY,this]
     let Z:=J.same e4;let((a8,bd,aE,_,_),_,_):=id Z;let(aT,aA,aI,aS):=aE.ob;exists _,eY,D4,eY,#[_,SqL.of ap];let a7:((AU l.length).filter λn => !decide (n∈Fl++d)).length<=l.length:=by
      let:=B2 (λn => !decide (n∈Fl++d)) (AU l.length);rw[Bu] at this;exact this
     refine ph ((AU l.length).filter λn => !decide (n∈Fl++d)) (rp l (fq u) L3) jo (SqL.of ap) (by lia) (λn hn H5 e5 X I=>?_) (λn H5 X I=>#[_,eY,I]) λD5 H5 ba e5 a0=>?_;exact#[_,eY,p,aT,aA,eY,e5 _ _ aI,aS.meth "must_be_full" (by decide),_,eY,ag Z (Ba.mp (Bc.mp hn).1) e5 I]
     let ai:=e4.trans e5;refine#[l.length-(Fl++d).length,by rw[Ai];lia,L3,Fl++d,_,D5,_,_,eY,λb o hb ae=>ai b o (k3 b o hb ae),J.same ai,ai _ _ s,t,ah,a0,HA (List.filter_sublist.trans DD) Ej,λi hi=>?_,λi r hi hf=>?_,eY];let(g1,g2):=Bc.mp hi;let(g3,g4):=Bc.mp g1;exact#[by simpa using g4,mustB_iff.mp g2]
     by_cases ax:i∈Fl++d;exact .inl ax;exact .inr (Bc.mpr #[Bc.mpr #[Ba.mpr (An.mp hi).1,by simpa using ax],mustB_iff.mpr #[r,hi,hf]])
   let aX:d=[]:=by
    cases d with|nil=>rfl|cons _ _=>cases c
   subst aX;let A:=hG.done λi r hi hf=>(aZ i r hi hf).resolve_right As;exact q L Fl M k2 af B A hG (by let:Fl.length*16<=15*16:=Du _ (by lia);lia)
 rintro σ M Q1 Q2 hq ⟨v,h1,k,h2,h3⟩;exact#[v,h1,k,h2,hq _ _ h3]
end K34
namespace L2
open PyProof.Rows PySem.Builtin
theorem a4j(c:eU)(p:eZ->fJ)(m:JSeq J w (c.map V.str))(l:w f)(hz:c.length<=1000)(q:∀n∈c,∀a,Same f a->∀b:fJ->Hp->Prop,(∀d,Same a d->b (p n) d)->s (eH (.str n)::j8 σ j) a b)(o:∀(n:eZ) a (b:VK),b (.str n) a->u (eH (.str n)::j8 σ j) a b)(t:∀D H',f D=eI->Same f H'->H' D=eH (.lst ((c.filter p).map V.str))->Q (.ref D) H'):lr J f σ j s u Q:=by
 let pv:∀n:eZ,(λv:V=>match v with|.str i=>p i|_=>eK) (V.str n)=p n:=λn=>rfl;refine qx (c.map V.str) (λv=>match v with|.str i=>p i|_=>eK) id m l (by rw[Ad];exact AB hz (by decide)) ?_ ?_ ?_;intro x h a k b g;let(n,hn,rfl):=Au.mp h;exact q n hn a k b λd y=>g d y;intro x h _ a k b g;let(n,hn,rfl):=Au.mp h;exact o n a b (g a (Same.refl _));intro D H' r e hd;refine t D H' r e ?_;rw[hd,Gc,EC];rfl
theorem jf(h:∀c:Ends,(∀σ H,b D σ H->c.nx σ H)->(∀v H,D.rt v H->c.rt v H)->(∀σ H,D.ct σ H->c.ct σ H)->a c σ H):tSeq a b D σ H:=h {D with nx:=b D} (λ_ _ z=>z) (λ_ _ z=>z) (λ_ _ z=>z)
theorem wj{K:Aa}(H H':Hp)(a:JA)(r:eU)(h:RowAt K H a r)(k:∀b u,H b=eH u->(∀ys,u≠.lst ys)->H' b=eH u):RowAt K H' a r:=by
 rcases h with (h|⟨o,h⟩)|h
 . exact .inl (.inl (k _ _ h λys z=>by cases z))
 . exact .inl (.inr #[o,k _ _ h λys z=>by cases z])
 exact .inr h
theorem a4x(xs:eL V)(rs:eL α)(p:α->fJ)(R:Hp->JA->β->Prop)(f:α->β)(s:JSeq J U xs)(O:U h)(hz:xs.length<=1000)(hl:rs.length=xs.length)(v:∀H H' a r,R H a r->(∀b u,H b=eH u->(∀ys,u≠.lst ys)->H' b=eH u)->R H' a r)(S:∀(i:eO) (x:V) (r:α),xs[i]?=eH x->rs[i]?=eH r->∀j,Same h j->∀n:fJ->Hp->Prop,(∀k,Same j k->n (p r) k)->T (eH x::j8 σ L) j n)(W:∀(i:eO) (x:V) (r:α),xs[i]?=eH x->rs[i]?=eH r->p r=eJ->∀j,Same h j->∀n:VK,(∀t k,Same j k->R k t (f r)->n (.ref t) k)->Y (eH x::j8 σ L) j n)(X:∀D H' as,h D=eI->Same h H'->H' D=eH (.lst (as.map V.ref))->JI (λa r=>R H' a r) as ((rs.filter p).map f)->Q (.ref D) H'):lr J h σ L T Y Q:=by
 intro D N;let put:∀H ys,Same h H->Same h (upd H D (.lst ys)):=λH ys e b u q=>by rw[fg (gb q N)];exact e b u q
 exists λi m H=>i<=xs.length/\m=xs.length-i/\Same h H/\∃as:eL JA,H D=eH (.lst (as.map V.ref))/\JI (λa r=>R H a r) as (((rs.take i).filter p).map f),#[xs.length,AC _,eY,put _ _ (Same.refl _),[],fb,by simpa using Paired.nil];rintro i m H ⟨hi,rfl,e,as,o,hp⟩;let w:=s.stay _ _ O e;by_cases d:i<xs.length
 . refine .inr #[s.go i H w d,λx H' A=>?_];let(rfl,I):=s.yld i H x H' d w A;let E:i<rs.length:=by lia
   let y:rs[i]?=eH rs[i]:=Ag E;let G:rs.take (i+1)=rs.take i++[rs[i]]:=by rw[AJ,y];rfl
   let M:as.length<=i:=by
    let h1:=A4 hp;let h2:=B2 p (rs.take i);rw[Ad] at h1;rw[AL] at h2
    lia
   refine S i x rs[i] I y _ e _ λk l=>?_;cases hpx:p rs[i] with
   |false =>
    rw[eP Az];exists xs.length-(i+1),by lia,d,eY,e.trans l,as,l _ _ o;rw[G,DQ];simp only[Cs,hpx,E8,A0,B4,if_false];exact Paired.mapP hp λa r z=>v _ _ _ _ z λb u q _=>l b u q
   |true =>
    rw[eQ rfl];refine W i x rs[i] I y hpx _ (e.trans l) _ λt F P C=>?_;let c:=l.trans P;let g:∀b u,F b=eH u->(∀ys,u≠.lst ys)->upd F D (.lst (as.map V.ref++[.ref t])) b=eH u:=λb u q hn=>by
     let:b≠D:=λz=>by rw[z,c _ _ o] at q;exact hn _ (Am q).symm
     rw[fg this];exact q
    refine#[as.map V.ref,c _ _ o,by rw[Ad];exact AH (show as.length<=1000 by lia) (by decide),xs.length-(i+1),by lia,d,eY,put _ _ (e.trans c),as++[t],by rw[fb,Av];rfl,?_];rw[G,DQ];simp only[Cs,hpx,E8,if_true];rw[Av];exact Paired.snocP (Paired.mapP hp λa r z=>v _ _ _ _ (v _ _ _ _ z λb u q _=>c b u q) g) (v _ _ _ _ C g)
 let B:i=xs.length:=by lia
 subst B;refine .inl #[s.stop _ H w (Ao _),?_];rw[<- hl,AN] at hp;exact X D H as N e o hp
end L2
namespace K34
open L2 Mir Kn
def nots(F:eS):eT:=F.filterMap λ(r:eU)=>if(r.getD 0 "":eZ)=("not":eZ) then eH ((r.getD 1 "",r.getD 2 ""):eZ×eZ) else eI
theorem a0m(F:eS):(nots F).length<=F.length:=List.length_filterMap_le _ _
theorem aa0(F:eS)(u v:eZ):nots (F++[[("not":eZ),u,v]])=nots F++[(u,v)]:=by
 unfold nots;rw[Dl];rfl
theorem adk(F:eS){k:eZ}(h:¬ k="not"):nots (F++[[k,u,v]])=nots F:=by
 unfold nots;rw[Dl,BN];let e:(if([k,u,v].getD 0 "":eZ)=("not":eZ) then eH (([k,u,v].getD 1 "",[k,u,v].getD 2 ""):eZ×eZ) else eI)=eI:=eP h;rw[e];simp
theorem a17(hF:∀r∈F,gw r):(u,v)∈nots F↔[("not":eZ),u,v]∈F:=by
 unfold nots;rw[List.mem_filterMap];constructor;rintro⟨r,d,e⟩;let(k,a,b,rfl,g):=hF r d;by_cases c:k="not";rw[eQ (show([k,a,b].getD 0 "")="not" from c)] at e;let f:(a,b)=(u,v):=Am e;injection f with e1 e2;rw[<- e1,<- e2,<- c];exact d;rw[eP (show ¬ ([k,a,b].getD 0 "")="not" from c)] at e;cases e
 intro h;exact#[_,h,by rw[eQ (show([("not":eZ),u,v].getD 0 "")="not" from rfl)];rfl]
theorem ae6(hF:∀r∈F,gw r):Going F P (nots F) []:=#[λu v h=>(a17 hF).mpr h,λq a=>(jq F P).fact _ _ ((a17 hF).mp a),.nil,λi hi=>by simp at hi,λi hi=>by simp at hi,λi hi=>by simp at hi]
open Classical in
def ny(P:eS)(h:eZ->eZ)(n:eO):fJ:=decide (∃r,P[n]?=eH r/\ki r h [])
open Classical in
theorem emptyB_iff:ny P h n=eJ↔∃r,P[n]?=eH r/\ki r h []:=by
 unfold ny;exact#[λz=>fC z,λz=>fB z]
theorem a82(hn:P[n]?=eH r)(a:b=eJ↔ki r h L):(!ny P h n) = !b:=by
 congr 1
 rw[Bd,emptyB_iff,a];constructor;rintro⟨r',h1,h2⟩;rw[hn] at h1;cases h1;exact h2;exact λz=>#[r,hn,z]
inductive spInitPS(K:Aa)(C:JA)(vs:eL V)(H:Hp)(Q:VK):Prop
 |mk (p dx fl pl0:JA)(F P:eS)(h0:vs=[.ref p,.ref fl,.ref pl0])(h1:H p=eH (.ins C dx []))(h2:RowsAt K H fl F)(h3:F.length<=100)(h4:(∀r∈F,gw r))(h5:RowsAt K H pl0 P)(h6:P.length<=15)(h7:(∀r∈P,PartRow r))(h8:∀pl hd un fu L Fl D dx' fs' H',Kp (· = p) H H'->KnS K C H' p pl hd un fu F P L->H' fu=eH (.dK (fk Fl))->AllTold F P L Fl->Going F P L Fl->H' p=eH (.ins C dx' fs')->fs'.lookup ("not_empty":eZ)=eH (.ref D)->KFs fs' pl hd un fu->H' D=eH (.lst (((AU P.length).filter λn => !ny P (fq F) n).map natV))->L.length<=400->Q .non H'):spInitPS K C vs H Q
def xp(K:Aa)(C:JA):Sp:=λvs H Q _=>spInitPS K C vs H Q
theorem a2e:∀m∈yc,m≠("parts":eZ)/\m≠("heads":eZ)/\m≠("unlikes":eZ)/\m≠("fulls":eZ)/\m≠("not_empty":eZ):=by decide
theorem a5r:("parts":eZ)≠"heads" /\ ("parts":eZ)≠"unlikes" /\ ("parts":eZ)≠"fulls" /\ ("parts":eZ)≠"not_empty" /\ ("heads":eZ)≠"unlikes" /\ ("heads":eZ)≠"fulls" /\ ("heads":eZ)≠"not_empty" /\ ("unlikes":eZ)≠"fulls" /\ ("unlikes":eZ)≠"not_empty" /\ ("fulls":eZ)≠"not_empty" := by decide
theorem kfs4(pl hd un a:JA):KFs (putF "fulls" (.ref a) (putF "unlikes" (.ref un) (putF "heads" (.ref hd) (putF "parts" (.ref pl) [])))) pl hd un a:=by
 let(n1,n2,i,n,d,e,o,f,j,g):=a5r;refine#[?_,?_,?_,?_,?_,λm hm=>?_];rw[ft,eP i,ft,eP n2,ft,eP n1,ft,eQ rfl];rw[ft,eP e,ft,eP d,ft,eQ rfl];rw[ft,eP f,ft,eQ rfl];rw[ft,eQ rfl]
 . let h1:=gz "parts" (.ref pl) [];let h2:=gz "heads" (.ref hd) (putF "parts" (.ref pl) []);let h3:=gz "unlikes" (.ref un) (putF "heads" (.ref hd) (putF "parts" (.ref pl) []));let l:=gz "fulls" (.ref a) (putF "unlikes" (.ref un) (putF "heads" (.ref hd) (putF "parts" (.ref pl) [])));simp only[DI] at h1
   lia
 let(b,c,h,m4,k):=a2e m hm;rw[ft,eP m4,ft,eP h,ft,eP c,ft,eP b];rfl
theorem KFs.more(h:KFs fs pl hd un c)(v:V)(hl:fs.length<50):KFs (putF "not_empty" v fs) pl hd un c:=by
 let(n1,n2,j,d,f,g,e,i,b,a):=a5r;refine#[?_,?_,?_,?_,?_,λm hm=>?_];rw[ft,eP d];exact h.parts;rw[ft,eP e];exact h.heads;rw[ft,eP b];exact h.unlikes;rw[ft,eP a];exact h.fulls;let:=gz "not_empty" v fs;lia;rw[ft,eP (a2e m hm).2.2.2.2];exact h.meth m hm
theorem aag(hp:H p=eH (.ins C e fs))(k:Kp (· = p) H H')(h:RowsAt K H fl F):RowsAt K H' fl F:=by
 let(as,h1,h2):=h;refine#[as,k _ _ h1 (λz=>by let d:fl=p:=z;rw[d,hp] at h1;cases h1),Paired.mapP h2 λb r c=>?_];rcases c with (z|⟨o,z⟩)|z
 . exact .inl (.inl (k _ _ z λy=>by let a:b=p:=y;rw[a,hp] at z;cases z))
 . exact .inl (.inr #[o,k _ _ z λy=>by let a:b=p:=y;rw[a,hp] at z;cases z])
 exact .inr z
theorem a9f(Cn:Con K mg w)(T:Txt K mg C fI)(F:Fun K "__init__" "Knowledge.__init__" abo f fd)(GH:FnOk P w K mg base CX0 1 gH dH eD (ya K))(cH:eB GH "heads_of")(GU:FnOk P w K mg base CX0 2 gU dU eE (xx C))(cU:eC GU C "tell_unlike")(GF:FnOk P w K mg base CX0 4 gF dF ["self"] (a8e K C))(cF:MCal K C "find_fulls" gF dF ["self"])(GE:FnOk P w K mg base CX0 3 gE dE ["self","number"] (u4 K C ki))(cE:MCal K C "is_empty" gE dE ["self","number"]):FnOk P w K mg base CX0 5 f fd ["self","facts","parts"] (xp K C):=by
 refine F.okA ["self","facts","parts","fact"] λbt A outer s0 H vs Q E hr h nd=>?_;let(p,d,fl,pl0,G,W,rfl,h1,hF,aC,J,bh,aQ,aB,q):=h;let(l,X,aT):=id bh;let az:=A4 aT;let bu:=ir hr;let be:=hr.mono (j:=3) (by lia);let a9:=hr.mono (j:=2) (by lia);let bl:=hr.mono (j:=1) (by lia);exists _,fe (kh (K:=K) rfl (qv 0) (j6 kt rfl Cn.list Bx (fh (qv 2) ad)))
  (fe (kh (K:=K) rfl (qv 0) (gx GH bl cH (fh (qv 1) ad)))
  (fe (kh (K:=K) rfl (qv 0) a9d)
  (fe (kh (K:=K) rfl (qv 0) ma)
  (fe (ip A7 rfl (i9 (qv 1)) (j2 3 nd) (ff (gg (fz gq (fj K (qv 3) fc) gt (fy _)) (ff (il (gi (qv 0) T.cl cU.meth GU a9 cU.bind .nil gn (fx (fj K (qv 3) fc) (fx (fj K (qv 3) fc) ad))))) ge)))
  (fe (il (rk (qv 0) T.cl cF.meth GF hr cF.bind .nil gn))
  (ff (kh (K:=K) rfl (qv 0) (ni ["number","self"] [0] (jx rfl Cn.range (ii (gr j0 rfl Cn.len Bs (fh (qv 2) ad)) ad)) (λ_ _ _ _=>(my (jc (i6 (gi (qv 1) T.cl cE.meth GE be cE.bind .nil gn (fh (qv 0) ad)))))) (λ_ _ _ _=>(qv 0))))))))))
 nofun
 let kr:∀{Hx:Hp},Kp (· = p) H Hx->RowsAt K Hx fl G:=λk=>aag h1 k hF;let t:∀{n:eO},n<=10->n<1000:=λh=>by lia
 refine#[_,eY,pl0,_,eY,.inl (SqL.of X),λpl aU=>?_];let U:p≠pl:=gb h1 aU;exists _,eY,p,C,d,_,eY,(by rw[fg U];exact h1),T.cl,T.nP,t (AC _);let k1:Kp (· = p) H (upd (upd H pl (.lst (l.map V.ref))) p (.ins C d (putF "parts" (.ref pl) []))):=λb o g n=>by rw[fg n];exact fi aU _ _ _ g
 let aj:(upd (upd H pl (.lst (l.map V.ref))) p (.ins C d (putF "parts" (.ref pl) []))) p=eH (.ins C d (putF "parts" (.ref pl) [])):=fb;let au:(upd (upd H pl (.lst (l.map V.ref))) p (.ins C d (putF "parts" (.ref pl) []))) pl=eH (.lst (l.map V.ref)):=by rw[fg (AF U),fb]
 generalize upd (upd H pl (.lst (l.map V.ref))) p (.ins C d (putF "parts" (.ref pl) []))=H1 at k1 aj au |-;refine#[_,rfl,fl,G,rfl,kr k1,aC,J,λhd hm H2 e2 ae a8 aa hok=>?_];let bn:=e2 _ _ aj;let bb:=e2 _ _ au;let M:p≠hd:=gb aj ae;let bf:pl≠hd:=gb au ae;let bs:(putF "parts" (.ref pl) []).length<=1:=gz _ _ _;exists _,eY,p,C,d,_,eY,bn,T.cl,T.nH,t (by lia);let k2:Kp (· = p) H (upd H2 p (.ins C d (putF "heads" (.ref hd) (putF "parts" (.ref pl) [])))):=λb o g n=>by rw[fg n];exact e2 _ _ (k1 b o g n)
 let S:(upd H2 p (.ins C d (putF "heads" (.ref hd) (putF "parts" (.ref pl) [])))) p=eH (.ins C d (putF "heads" (.ref hd) (putF "parts" (.ref pl) []))):=fb;let af:(upd H2 p (.ins C d (putF "heads" (.ref hd) (putF "parts" (.ref pl) [])))) pl=eH (.lst (l.map V.ref)):=by rw[fg (AF U)];exact bb
 let aS:(upd H2 p (.ins C d (putF "heads" (.ref hd) (putF "parts" (.ref pl) [])))) hd=eH (.dK (dS hm)):=by rw[fg (AF M)];exact a8
 let br:(putF "heads" (.ref hd) (putF "parts" (.ref pl) [])).length<=2:=by let:=gz "heads" (.ref hd) (putF "parts" (.ref pl) []);lia
 generalize upd H2 p (.ins C d (putF "heads" (.ref hd) (putF "parts" (.ref pl) [])))=H3 at k2 S af aS |-;intro un an;let N:p≠un:=gb S an;let s4:=fi an (.dT []);exists _,eY,p,C,d,_,eY,s4 _ _ S,T.cl,T.nU,t (by lia);let bp:(putF "unlikes" (.ref un) (putF "heads" (.ref hd) (putF "parts" (.ref pl) []))).length<=3:=by let:=gz "unlikes" (.ref un) (putF "heads" (.ref hd) (putF "parts" (.ref pl) []));lia
 let k3:Kp (· = p) H (upd (upd H3 un (.dT [])) p (.ins C d (putF "unlikes" (.ref un) (putF "heads" (.ref hd) (putF "parts" (.ref pl) []))))):=λb o g n=>by rw[fg n];exact s4 _ _ (k2 b o g n)
 let aq:(upd (upd H3 un (.dT [])) p (.ins C d (putF "unlikes" (.ref un) (putF "heads" (.ref hd) (putF "parts" (.ref pl) []))))) p=eH (.ins C d (putF "unlikes" (.ref un) (putF "heads" (.ref hd) (putF "parts" (.ref pl) [])))):=fb;let aH:(upd (upd H3 un (.dT [])) p (.ins C d (putF "unlikes" (.ref un) (putF "heads" (.ref hd) (putF "parts" (.ref pl) []))))) pl=eH (.lst (l.map V.ref)):=by rw[fg (AF U)];exact s4 _ _ af
 let ak:(upd (upd H3 un (.dT [])) p (.ins C d (putF "unlikes" (.ref un) (putF "heads" (.ref hd) (putF "parts" (.ref pl) []))))) hd=eH (.dK (dS hm)):=by rw[fg (AF M)];exact s4 _ _ aS
 let ar:(upd (upd H3 un (.dT [])) p (.ins C d (putF "unlikes" (.ref un) (putF "heads" (.ref hd) (putF "parts" (.ref pl) []))))) un=eH (.dT []):=by rw[fg (AF N),fb]
 let ax:H un=eI:=by
  cases qz:H un with|none=>rfl|some o=>let:=k2 un o qz (λz=>N z.symm);rw[an] at this;cases this
 generalize upd (upd H3 un (.dT [])) p (.ins C d (putF "unlikes" (.ref un) (putF "heads" (.ref hd) (putF "parts" (.ref pl) []))))=H4 at k3 aq aH ak ar |-;intro m s;let ab:p≠m:=gb aq s;let s5:=fi s (.dK []);exists _,eY,p,C,d,_,eY,s5 _ _ aq,T.cl,T.nF,t (by lia);let KF:=kfs4 pl hd un m;let aJ:(putF "fulls" (.ref m) (putF "unlikes" (.ref un) (putF "heads" (.ref hd) (putF "parts" (.ref pl) [])))).length<=4:=by let:=gz "fulls" (.ref m) (putF "unlikes" (.ref un) (putF "heads" (.ref hd) (putF "parts" (.ref pl) [])));lia
 generalize putF "fulls" (.ref m) (putF "unlikes" (.ref un) (putF "heads" (.ref hd) (putF "parts" (.ref pl) [])))=I at KF aJ |-;let k4:Kp (· = p) H (upd (upd H4 m (.dK [])) p (.ins C d I)):=λb o g n=>by rw[fg n];exact s5 _ _ (k3 b o g n)
 let Y:(upd (upd H4 m (.dK [])) p (.ins C d I)) pl=eH (.lst (l.map V.ref)):=by rw[fg (AF U)];exact s5 _ _ aH
 let K4:KnAt C (upd (upd H4 m (.dK [])) p (.ins C d I)) p pl hd un m hm []:=#[#[d,I,fb,KF],by rw[fg (AF M)];exact s5 _ _ ak,by rw[fg (AF N)];exact s5 _ _ ar]
 let aK:(upd (upd H4 m (.dK [])) p (.ins C d I)) p=eH (.ins C d I):=fb;let ag:(upd (upd H4 m (.dK [])) p (.ins C d I)) m=eH (.dK (fk [])):=by rw[fg (AF ab),fb];rfl
 generalize upd (upd H4 m (.dK [])) p (.ins C d I)=H5 at k4 Y K4 aK ag |-;let am:=kr k4;let(aZ,av,a4):=am;let aO:=A4 a4;let(aL,B,bo):=hF;let aR:fl≠p:=λz=>by rw[z,h1] at B;cases B
 let aM:fl≠un:=λz=>by rw[z,ax] at B;cases B
 let aD:aZ=aL:=by
  let:=k4 _ _ B aR;rw[av] at this;let e:=Am this;injection e with e;exact Da (λa b h=>by injection h) |>.mp e
 subst aD;dsimp only;refine jf (a:=tFor _ _ _) λD1 aE aA aF=>?_;exists _,eY,fl,eY,#[_,SqL.of av];refine j5 (xs:=aZ.map V.ref) (λi σ H'=>Kp (· = un) H5 H'/\Ex2 λ(uk:eL (eL Key×V)) (z3:eM V)=>And3 (H' un=eH (.dT uk)) (UkT uk (fq G) (nots (G.take i))) (σ=[rQ p,rQ fl,rQ pl0,z3]))
  #[λ_ _ q _=>q,[],eI,K4.uns,#[(λq hq=>nomatch hq),(AC _),(λa b=>#[(λh=>nomatch h),(λ⟨_,h,_⟩=>by rw[BX] at h;cases h)])],eY] (λi σ H' _ pv=>SqL.of (pv.1 _ _ av λz=>aM z)) ?_ ?_
 . rintro i x σ H' hi ⟨kk,uk,z3,hU,O,rfl⟩
   nofun
   let(b,g,rfl):=kc hi;let(r,R,aX):=Paired.nth a4 g;let bw:i<G.length:=(An.mp R).1;let(k,u,v,rfl,hk):=J r (Aq R);let hR:RowAt K H' b [k,u,v]:=by
    rcases aX with (z|⟨o,z⟩)|z
    . exact .inl (.inl (kk _ _ z λy=>by let y':b=un:=y;rw[y',K4.uns] at z;cases z))
    . exact .inl (.inr #[o,kk _ _ z λy=>by let y':b=un:=y;rw[y',K4.uns] at z;cases z])
    exact .inr z
   let aV:G.take (i+1)=G.take i++[[k,u,v]]:=by rw[AJ,R];rfl
   let KN:=K4.tell kk hU;let(ay,ai,g1,g2):=KN.ob;let bv:=O.len;let bq:(nots (G.take i)).length<=i:=AB (a0m _) (by rw[AL];lia);refine#[_,eY,b,_,0,.str k,eY,eY,hR,eY,eY,_,eY,iteB (λc=>?_) (λc=>?_)]
   . let aw:k="not" := by simpa using c
     subst aw;refine#[_,eY,p,ay,ai,eY,g1,g2.meth "tell_unlike" (by decide),_,eY,b,_,1,.str u,eY,eY,hR,eY,_,eY,b,_,2,.str v,eY,eY,hR,eY,p,pl,hd,un,m,hm,uk,u,v,eY,KN,by lia,λH6 k6 aG=>?_];rw[hok.hd,hok.hd] at aG;refine#[λb o q n=>k6 b o (kk b o q n) n,_,_,aG,?_,eY];rw[aV,aa0];exact O.step u v
   let aw:¬ k="not" := by simpa using c
   refine#[kk,uk,_,hU,?_,eY];rw[aV];rw[adk _ aw];exact O
 rintro σ H' ⟨kk,uk,z3,hU,O,rfl⟩;refine aE _ _ ?_;clear aE aA aF D1;rw[Ad,aO,AN] at O;let KN:=K4.tell kk hU;let(ay,ai,g1,g2):=KN.ob;let aI:pl≠un:=λz=>by rw[z,K4.uns] at Y;cases Y
 let ap:∀{b:JA} {o:HO},H b=eH o->b≠p->H' b=eH o:=λ{b o} g n=>kk _ _ (k4 b o g n) (λz=>by let z':b=un:=z;rw[z',ax] at g;cases g);let ac:JI (λb r=>RowAt K H' b r) l W:=Paired.mapP aT λb r g=>by
  rcases g with (z|⟨o,z⟩)|z
  . exact .inl (.inl (ap z λy=>by rw[y,h1] at z;cases z))
  . exact .inl (.inr #[o,ap z λy=>by rw[y,h1] at z;cases z])
  exact .inr z
 let aN:m≠un:=λz=>by rw[z] at s;rw[ar] at s;cases s
 let ah:hd≠m:=λz=>by rw[<- z] at s;rw[ak] at s;cases s
 let a2:H' m=eH (.dK (fk [])):=kk _ _ ag aN;let KS:KnS K C H' p pl hd un m G W (nots G):=#[#[hm,uk,KN,hok,O],#[l,kk _ _ Y aI,ac],ah]
 let G0:=ae6 (P:=W) J;refine#[_,eY,p,ay,ai,eY,g1,g2.meth "find_fulls" (by decide),p,pl,hd,un,m,G,W,nots G,eY,KS,a2,J,aB,aQ,AB (a0m G) aC,G0,λL Fl H6 k6 aW a0 A6 G6 bd=>?_];let a5:H' p=eH (.ins C d I):=kk _ _ aK (λz=>N z);let ao:H6 p=eH (.ins C d I):=k6 _ _ a5 (λz=>z.elim N ab);let bk:H m=eI:=by
  cases qz:H m with|none=>rfl|some o=>let:=k3 m o qz (λz=>ab z.symm);rw[s] at this;cases this
 let aY:∀{b:JA} {o:HO},H b=eH o->b≠p->H6 b=eH o:=λ{b o} g n=>k6 _ _ (ap g n) (λz=>z.elim (λy=>by rw[y,ax] at g;cases g) (λy=>by rw[y,bk] at g;cases g));let al:H6 pl0=eH (.lst (l.map V.ref)):=aY X (λz=>by rw[z,h1] at X;cases X);let aa:(l.map V.ref).length=W.length:=by rw[Ad];exact az
 exists _,eY,pl0,_,eY,.inl (SqL.of al),_,eY,(by rw[aa];lia),(by rw[aa];lia);rw[aa,AW];let((bj,bm,bc,a1,bg),Z,_):=id aW;refine ph (AU W.length) (λn => !ny W (fq G) n) (by rw[<- a0a];exact vk) trivial (by rw[Bu];lia) (λn hn H7 e7 Q' q'=>?_) (λn H7 Q' q'=>#[_,eY,q']) λD H7 hD e7 a7=>?_;let bi:n<W.length:=Ba.mp hn;let hs:W[n]?=eH W[n]:=Ag bi;refine#[_,eY,p,d,I,eY,e7 _ _ ao,KF.meth "is_empty" (by decide),_,eY,p,pl,hd,un,m,G,W,L,n,_,eY,aW.same e7,hs,aB _ (AM (Ba.mp hn)),λb H8 e8 g=>#[b,eY,?_]];let:=q' H8 e8;rw[a82 hs g] at this;exact this
 let a3:=bc.same e7;let aP:H7 p=eH (.ins C d I):=e7 _ _ ao;exists _,eY,p,C,d,I,eY,aP,T.cl,T.nE,(by lia);let a6:D≠p:=λz=>by rw[z,ao] at hD;cases hD
 let ba:Kp (· = p) H7 (upd H7 p (.ins C d (putF "not_empty" (.ref D) I))):=λb o g n=>by rw[fg n];exact g
 refine q pl hd un m L Fl D d _ _ (λb o g n=>by rw[fg n];exact e7 _ _ (aY g n)) #[#[bj,bm,#[#[d,_,fb,KF.more (.ref D) (by lia)],by rw[fg (AF M)];exact a3.hds,by rw[fg (AF N)];exact a3.uns],a1,bg],su (Z.same e7) ba (λb g=>#[.ins C d I,by rw[show b=p from g];exact aP,.inr (.inr (.inr #[_,_,_,eY]))]),ah] (by rw[fg (AF ab)];exact e7 _ _ a0) A6 G6 fb (by rw[ft,eQ rfl]) (KF.more (.ref D) (by lia)) (by rw[fg a6];exact a7) bd
abbrev a8a:JJ:=top 36
def Ok(x:eZ):Prop:=(PyData.str x).canLay0=eJ
theorem Ok.app(b:Ok x)(a:Ok y):Ok (x++y):=by
 unfold Ok at*;simp only[BK] at*;unfold IS at*;rw[DY,Array.all_append,b,a];rfl
theorem wc{rs:eS}(h:∀r∈rs,∀y∈r,Ok y):EqOk (.list (rs.map dRow)):=by
 let h1:∀r:eU,(∀y∈r,Ok y)->Be (u9 r)=eJ:=λr h=>by
  unfold u9;induction r with
  |nil=>simp only[BG,Be]
  |cons x l ih =>
   simp only[A8,Be,Br];exact#[h x (Af ..),ih λy b=>h y (Ah _ b)]
 let h2:∀r:eU,Bn (u9 r)<=0:=λr=>by
  unfold u9;induction r with|nil=>simp only[BG,Bn];exact Ao _|cons x l ih=>simp only[A8,Bn,Ce];exact GZ.mpr #[Ao _,ih]
 let h3:∀rs:eS,(∀r∈rs,∀y∈r,Ok y)->Be (rs.map dRow)=eJ:=λrs h=>by
  induction rs with
  |nil=>simp only[BG,Be]
  |cons r l ih =>
   simp only[A8,Be,Br,dRow,BK];exact#[h1 r (h r (Af ..)),ih λr' a=>h r' (Ah _ a)]
 let c:∀rs:eS,Bn (rs.map dRow)<=1:=λrs=>by
  induction rs with
  |nil=>simp only[BG,Bn];lia
  |cons r l ih =>
   let:=h2 r;simp only[A8,Bn,dRow,Ce]
   lia
 constructor;simp only[BK];exact h3 rs h
 let:=c rs;simp only[Ce]
 lia
inductive spMixedS(vs:eL V)(H:Hp)(Q:VK):Prop
 |mk (c:eN)(k:eO)(h0:vs=[.int c,.int (k:eN)])(h1:k<=500)(h2:∀n:eN,0<=n->Q (.int n) H):spMixedS vs H Q
def a3j:Sp:=λvs H Q _=>spMixedS vs H Q
inductive tLeftS(D:Ends)(σ:St)(H:Hp):Prop
 |mk (c:eN)(k:eO)(l:eN)(h0:σ=[iQ c,iQ (k:eN),iQ l,nQ,nQ])(h1:k<=500)(h2:∀l z3,D.nx [iQ c,iQ (k:eN),iQ l,z3,nQ] H):tLeftS D σ H
def afp:TS:=λD σ H=>tLeftS D σ H
inductive tOwnS(D:Ends)(σ:St)(H:Hp):Prop
 |mk (c l:eN)(z1 z3:eM V)(h0:σ=[iQ c,z1,iQ l,z3,nQ])(h1:(∀n:eN,0<=n->D.rt (.int n) H))(h2:D.nx σ H):tOwnS D σ H
def tOwn:TS:=λD σ H=>tOwnS D σ H
theorem a9t(C:Con K mg w)(F:Fun K "_law_mixed" "_law_mixed" a8a f fd):FnOk P w K mg base CX0 1 f fd ["_law_cell","_law_k"] a3j:=by
 refine F.okA ["_law_cell","_law_k","_law_left","_law_j","_law_number"] λg A outer s0 H vs Q E p h nd=>?_;let(c,k,rfl,e,q):=h;exists _,fe (gd 2 nd (gc ji (qv 0) fc))
  (fe (ng (t':=afp) (ip A7 rfl (jx rfl C.range (l8 (gc jb (gc ji (qv 1) fc) (gc j3 (qv 1) fc)) ad)) (j2 3 nd) (fe (gg (QW.qt (jg (fz gq (qv 2) fc (fy _)) (jp (fz gq (qv 2) (zx wh fc) (fy _))))) (ff a9l) ge)
  (ff (gd 2 nd (gc a1p (qv 2) fc))))) (λD σ H b=>by
   let(c,k,l,rfl,e,go):=b;refine#[_,eY,_,_,eY,eY,(show CDiv _ 70 from#[by decide,by decide]),_,eY,_,_,eY,eY,(show(0:eN)<70 by decide),_,_,eY,eY,_,eY,?_,?_,?_];lia;lia
   refine mq (lo:=0) (n:=((k:eN) / 70+(k:eN) % 70).toNat) (λ_ σ H'=>∃(l:eN) (a:eM V),H'=H/\σ=[iQ c,iQ (k:eN),iQ l,a,nQ]) #[_,eI,eY,eY] ?_ ?_
   . rintro i σ H' hi ⟨l,a,rfl,rfl⟩
     nofun
     refine#[_,eY,eY,_,eY,iteB (λ_=>go _ _) (λ_=>?_)];refine#[_,eY,_,eY,eY,_,eY,iteB (λ_=>go _ _) (λ_=>?_)];exact#[_,eY,_,_,eY,eY,(show a4e _ 2147483587 from#[by decide,by decide]),_,_,eY,eY]
   rintro σ H' ⟨l,a,rfl,rfl⟩;exact go _ _))
  (fe (ng (t':=tOwn) (gg (QW.qt (ls (fz gq (gc j3 (qv 0) fc) fc (fy _)) (ls (fz km (qv 2) fc (fy _)) (lb (fz km (qv 2) (zx wh fc) (fy _)))))) (ff (fm (gc j3 (qv 2) fc))) ge) (λD σ H b=>by
   let(c,l,s,a,rfl,go,nx):=b;refine#[_,eY,_,_,eY,eY,(show(0:eN)<2 by decide),eY,_,eY,iteB (λ_=>?_) (λ_=>nx)];refine#[_,eY,eY,_,eY,iteB (λ_=>?_) (λ_=>nx)];refine#[_,eY,_,eY,eY,_,eY,iteB (λ_=>?_) (λ_=>nx)];exact#[_,eY,_,_,eY,eY,(show(0:eN)<2147483587 by decide),go _ (BA _ (by decide))]))
  (fe (gd 4 nd (gc j3 (gc jb (gc jb (gc me (gc j3 (qv 0) fc) fc) (gc me (gc me (qv 1) (qv 1)) fc)) fc) fc))
  (fe (gd 4 nd (gc j3 (gc me (qv 4) (qv 4)) fc))
  (ff (fm (gc j3 (gc me (qv 4) (gc jb (qv 4) fc)) fc)))))))
 nofun
 exists _,eY,_,_,eY,eY,(show CDiv _ 2 from#[by decide,by decide]);refine#[c,k,_,eY,e,λl a=>?_];exists c,l,_,_,eY,q;let m:=BA c (show(2147483647:eN)≠0 by decide);let r:=BR c (show(0:eN)<2147483647 by decide);exists _,eY,_,_,eY,eY,(show(0:eN)<2147483647 by decide),_,_,eY,eY,.inl #[by lia,by lia],_,eY,_,eY,_,_,eY,eY,.inl #[by lia,by lia],_,_,eY,eY,.inr #[by decide,by decide],_,_,eY,eY,_,_,eY,eY,_,_,eY,eY,(show(0:eN)<2147483629 by decide);generalize (c % 2147483647*48271+(k:eN)*(k:eN)*69621+7919)=y;let o:=BA y (show(2147483629:eN)≠0 by decide);let j:=BR y (show(0:eN)<2147483629 by decide);exists _,eY,_,eY,_,_,eY,eY,.inl #[by lia,by lia],_,_,eY,eY,(show(0:eN)<2147483587 by decide);generalize (y % 2147483629)*(y % 2147483629)=d;let t:=BA d (show(2147483587:eN)≠0 by decide);let u:=BR d (show(0:eN)<2147483587 by decide);exists _,eY,_,eY,_,_,eY,eY,_,_,eY,eY,.inl #[by lia,by lia],_,_,eY,eY,(show(0:eN)<2147483563 by decide);exact q _ (BA _ (by decide))
end K34
namespace L2
theorem a9u{g:TG}{h:TS}{D:Ends}(Pv:eO->St->Hp->Prop)(k:Pv 0 σ H)(l:∀i c σ H,i<z.cps.size->z.cps.toList[i]?=eH c->Pv i σ H->let N:=Pv (i+1);g (.str #[[c].toArray]) σ H λd f=>h {D with nx:=N,ct:=N,bk:=D.nx} d f)(hd:∀σ H,Pv z.cps.size σ H->D.nx σ H):
 ∃W:eO->eO->St->Hp->Prop,(∃m,W 0 m σ H)/\∀i m σ H,W i m σ H->
  ((Its z).stop i H/\D.nx σ H)\/((Its z).go i H/\∃N:St->Hp->Prop,(∀b H',N b H'->∃j,j<m/\W (i+1) j b H')/\∀x H',(Its z).yld i H x H'->g x σ H' λd f=>h {D with nx:=N,ct:=N,bk:=D.nx} d f):=by
 exists λi m σ H=>m=z.cps.size-i/\i<=z.cps.size/\Pv i σ H,#[z.cps.size,by simp,AC _,k];rintro i m σ H ⟨rfl,hi,p⟩;by_cases a:i<z.cps.size;refine .inr #[a,Pv (i+1),λb H' o=>#[z.cps.size-(i+1),by lia,eY,a,o],λx H' y=>?_];let(e,c,n,y):=y;subst e y;exact l i c σ _ a (by rw[B9];exact n) p
 let e:i=z.cps.size:=by lia
 subst e;exact .inl #[Ao _,hd σ H p]
end L2
namespace K34
open L2 Mir Kn
abbrev abt:JJ:=top 37
abbrev a5d:JJ:=top 38
structure Nm(k:eO)(x:eZ):Prop where
 len:x.length<=k
 ok:Ok x
theorem Nm.mono(h:Nm k x)(b:k<=a):Nm a x:=#[AB h.len b,h.ok]
theorem ok_iff:Ok x↔∀c∈x.cps.toList,c<0x110000:=by
 unfold Ok;simp only[BK];unfold IS;rw[<- Array.all_toList,Bm];simp only[fG]
theorem t8(h:Ok z)(a:c∈z.cps.toList):Nm 1 #[[c].toArray]:=#[Ao _,ok_iff.mpr λd hd=>by
 simp only[Ak,As,fH] at hd;subst hd;exact ok_iff.mp h _ a]
theorem Nm.app(b:Nm j x)(a:Nm k y):Nm (j+k) (x++y):=#[by
 let h1:=b.len;let h2:=a.len;let:(x++y).length=x.length+y.length:=Str.length_append x y
 lia,b.ok.app a.ok]
theorem Nm.cut(b:Nm k x)(lo hi:eM eN):Nm k (cutS x lo hi):=by
 constructor
 . let:=b.len;let e:(cutS x lo hi).length<=x.length:=by
    show((x.cps.toList.drop (HT.sIx x.length 0 lo)).take _).toArray.size<=x.cps.size;rw[A3,AL,Bq,AG]
    lia
   lia
 refine ok_iff.mpr λc d=>ok_iff.mp b.ok c ?_;let a:c∈(x.cps.toList.drop (HT.sIx x.length 0 lo)).take (HT.sIx x.length x.length hi-HT.sIx x.length 0 lo):=d;exact Dv (Bw a)
theorem afw(b:0<=i)(h1:i<xs.length):∃v,atI xs i=eH v/\v∈xs:=by
 obtain⟨j,rfl⟩:∃j:eO,i=(j:eN):=#[i.toNat,by lia]
 let a:j<xs.length:=by lia
 exact#[xs[j],lc (by rw[Ag a]),AM a]
theorem j7(h:n<=1000):n<=JB:=AB h (by decide)
theorem jy(h:n<=1000):n<JB:=AH h (by decide)
inductive spNamesS(K:Aa)(vs:eL V)(H:Hp)(Q:VK):Prop
 |mk (c:eN)(n:eO)(h0:vs=[.int c,.int (n:eN)])(h1:n<=10)(h2:∀l xs H',Same H H'->H' l=eH (.lst ((xs:eU).map V.str))->xs.length=n->(∀x∈xs,Nm 40 x/\¬ x∈Mir.noNames)->xs.Nodup->Q (.ref l) H'):spNamesS K vs H Q
def u8(K:Aa):Sp:=λvs H Q _=>spNamesS K vs H Q
def signsT:eZ := "abcdefghijklmnopqrstuvwxyz0123456789"
def wordsT:eU:=["nil","any","is","not","cell","stretch","tree","nothing","then","with"]
theorem a8w:wordsT=Mir.noNames:=by decide
theorem a13(h:x.cps.toList=pre++[c])(d:eO):cutS x eI (eH (-1))++(#[[d].toArray]:eZ)=#[(pre++[d]).toArray]:=by
 let hl:x.length=pre.length+1:=by
  let:x.cps.toList.length=pre.length+1:=by rw[h,Ai];rfl
  rw[AG] at this;exact this
 let h1:(cutS x eI (eH (-1))).cps=pre.toArray:=by
  show(List.take (HT.sIx x.length x.length (eH (-1))-HT.sIx x.length 0 eI) (List.drop (HT.sIx x.length 0 eI) x.cps.toList)).toArray=_;let g:HT.sIx x.length x.length (eH (-1))=pre.length:=by
   unfold HT.sIx;simp only[hl];rw[eQ (by decide)]
   lia
  let f:HT.sIx x.length 0 eI=0:=rfl;rw[g,f,DX,E7,h,List.take_left'];rfl
 let h2:(cutS x eI (eH (-1))++(#[[d].toArray]:eZ)).cps=(cutS x eI (eH (-1))).cps ++ [d].toArray:=DY _ _;let h3:∀a b:eZ,a.cps=b.cps->a=b:=λa b e=>by cases a;cases b;cases e;rfl
 refine h3 _ _ ?_;rw[h2,h1];show pre.toArray ++ [d].toArray=(pre++[d]).toArray;simp
theorem mx{α:Type}[DecidableEq α]:∀{l m:eL α},l.Nodup->(∀x∈l,x∈m)->l.length<=m.length
 |[],_,_,_=>AC _
 |x::l,m,hn,hm=>by
  let b:=hm x (Af ..);let(h1,h2):=AI.mp hn;let h3:=mx (l:=l) (m:=m.erase x) h2 λy a=>(ED (λz=>h1 (by rw[<- z];exact a))).mpr (hm y (Ah _ a));rw[DU b] at h3;let:=Df b;rw[Aw]
  lia
theorem oa(h:l.Nodup)(d:¬ x∈l):(l++[x]).Nodup:=AE.mpr #[h,AI.mpr #[As,AV],λa f b c e=>d (by rw[<- Ae.mp c,<- e];exact f)]
theorem ae2{ns:eU}{z:eZ}(hz:z.cps.toList.Nodup)(hl:z.cps.size=26)(hn:ns.length<26):¬ ∀k c,k<26->z.cps.toList[k]?=eH c->(#[(pre++[c]).toArray]:eZ)∈ns:=by
 intro h;let h1:(z.cps.toList.map λc=>(#[(pre++[c]).toArray]:eZ)).Nodup:=HK.mpr (HL (λ{a b} d e=>d (by
  let i:=fE (λs:eZ=>s.cps.toList) e;simpa using i)) hz)
 let h2:=mx (m:=ns) h1 λx g=>by
  let(c,j,rfl):=Au.mp g;let(k,f,e):=Hj j;rw[AG,hl] at f;exact h k c f (List.getElem?_eq_some_iff.mpr #[by rw[AG];lia,e])
 rw[Ad,AG,hl] at h2
 lia
theorem v9:Ok signsT:=show(PyData.str signsT).canLay0=eJ by decide
theorem a99:∀x∈wordsT,Nm 40 x:=λx a=>by
 let h1:wordsT.all (λx=>decide (x.length<=40) && (PyData.str x).canLay0)=eJ:=by decide
 let h2:=Bm.mp h1 x a;rw[Br] at h2;exact#[fC h2.1,h2.2]
theorem aco(C:Con K mg w)(F:Fun K "_law_free_names" "_law_free_names" abt f fd):FnOk P w K mg base CX0 1 f fd ["_law_cell","_law_many"] (u8 K):=by
 refine F.okA ["_law_cell","_law_many","_law_signs","_law_names_here","_law_k","_law_name","_law_left","_law_j","_law_sign"] λan A outer s0 H vs Q E hr h nd=>?_;let(c,n,rfl,hn,q):=h;exists _,fe (gd 2 nd gt)
  (fe (gd 3 nd (iu (gm (gm (gm (gm (gm (gm (gm (gm (gm (gm ad))))))))))))
  (fe (ip A7 rfl (jx rfl C.range (fh (qv 1) ad)) (j2 4 nd) (fe (gd 5 nd (mj vt (qv 2) (gc j3 (gc ji (qv 0) fc) fc) (λ_ _=>rfl)))
  (fe (gd 6 nd (gc ji (qv 0) fc))
  (fe (ip A7 rfl (jx rfl C.range (l8 (gc j3 (qv 0) fc) ad)) (j2 7 nd) (fe (gd 5 nd (gc o3 (qv 5) (mj vt (qv 2) (gc j3 (qv 6) fc) (λ_ _=>rfl))))
  (ff (gd 6 nd (gc ji (qv 6) fc)))))
  (fe (ip A7 rfl (af2 (l0 a74 (qv 2) lu (ly fc))) (j2 8 nd) (ff (gg (fz u0 (qv 5) (qv 3) (by with_unfolding_all rfl)) (ff (gd 5 nd (gc o3 (l0 a74 (qv 5) lu (ly (zx wh fc))) (qv 8)))) ge)))
  (fe (il (kz (K:=K) rfl AK By Bz jw (qv 3) (fh (qv 5) ad)))
  (ff (gd 0 nd (gc a1p (qv 0) (gc me fc (gc a64 fc fc)))))))))))
  (ff (fm (l0 qg (qv 3) (ly fc) lu)))))
 nofun
 refine#[(by decide),λs S=>?_];let e0:=fi S (.lst (wordsT.map V.str));let X:(upd H s (.lst (wordsT.map V.str))) s=eH (.lst (wordsT.map V.str)):=fb
 replace e0:Same H (upd H s (.lst (wordsT.map V.str))):=e0
 show tSeq _ _ _ _ (upd H s (.lst (wordsT.map V.str)));generalize upd H s (.lst (wordsT.map V.str))=H1 at e0 X |-;exists _,eY,_,eY,by lia,(by lia);refine mq (lo:=0) (n:=(n:eN).toNat) (λi σ T=>Ex7 λ(c:eN) (ns:eU) (z4 z5 z6 v y:eM V)=>And8 (σ=[iQ c,iQ (n:eN),eH (.str signsT),rQ s,z4,z5,z6,v,y]) (Same H T) (T s=eH (.lst (ns.map V.str))) (ns.length=10+i) ((∀x∈ns,Nm 40 x)) (ns.take 10=wordsT) ((∀x∈ns.drop 10,¬ x∈wordsT)) (ns.Nodup)) #[c,wordsT,eI,eI,eI,eI,eI,eY,e0,X,eY,a99,eY,(λx g=>by cases g),by decide] ?_ ?_
 . rintro i σ T hi ⟨c,ns,z4,z5,z6,v,y,rfl,e2,t,ai,G,M,L,D⟩
   nofun
   let al:i<10:=by lia
   let J:signsT.length<=JB:=by decide
   let B:signsT.cps.toList.length=36:=by decide
   let ah:=BA (c / 8) (show(26:eN)≠0 by decide);let am:=BR (c / 8) (show(0:eN)<26 by decide);let(c1,ae,ac):=afw (xs:=signsT.cps.toList) (i:=c / 8 % 26) ah (by rw[B];lia);exists _,eY,_,eY,_,_,eY,eY,(show CDiv _ 8 from#[by decide,by decide]),_,_,eY,eY,(show(0:eN)<26 by decide),signsT,_,c1,eY,eY,J,ae;exists _,eY,_,_,eY,eY,(show CDiv _ 208 from#[by decide,by decide]);let m8:=BA c (show(8:eN)≠0 by decide);let ap:=BR c (show(0:eN)<8 by decide);refine#[_,eY,_,_,eY,eY,(show(0:eN)<8 by decide),_,eY,by lia,by lia,?_];refine mq (lo:=0) (n:=(c % 8).toNat) (λj σ H3=>H3=T/\Ex3 λ(nm:eZ) (l:eN) (v:eM V)=>And3 (σ=[iQ c,iQ (n:eN),eH (.str signsT),rQ s,iQ (0+(i:eN)),eH (.str nm),iQ l,v,y]) (Nm (1+j) nm) (∃pre c,nm.cps.toList=pre++[c])) #[eY,_,_,_,eY,t8 v9 ac,[],c1,eY] ?_ ?_
   . rintro j σ H3 hj ⟨rfl,nm,l,v,rfl,a,aq⟩
     nofun
     let(c2,ak,af):=wo (xs:=signsT.cps.toList) (m:=36) (i:=l) (by rw[B];rfl) (by decide);let W:=a.len;exists _,eY,_,eY,_,eY,_,_,eY,eY,(show(0:eN)<36 by decide),signsT,_,c2,eY,eY,J,ak,nm,_,eY,eY,j7 (by show nm.length+1<=1000;lia);exact#[_,eY,_,_,eY,eY,(show CDiv _ 36 from#[by decide,by decide]),eY,_,_,_,eY,a.app (t8 v9 af),nm.cps.toList,c2,by rw[DY,EJ]]
   rintro σ H3 ⟨rfl,nm,l,v,rfl,a,pre,c0,Z⟩;let Y:Nm 8 nm:=a.mono (by lia);clear a;let aj:∀d∈(cutS signsT eI (eH 26)).cps.toList,d∈signsT.cps.toList:=λd hd=>by
    let ag:d∈(signsT.cps.toList.drop (HT.sIx signsT.length 0 eI)).take (HT.sIx signsT.length signsT.length (eH 26)-HT.sIx signsT.length 0 eI):=hd;exact Dv (Bw ag)
   let I:(cutS signsT eI (eH 26)).cps.size=26:=by decide
   exists _,eY,_,eY,signsT,eY,J,_,rfl;refine a9u (λj σ H4=>H4=H3/\∃(nm:eZ) (y:eM V),σ=[iQ c,iQ (n:eN),eH (.str signsT),rQ s,iQ (0+(i:eN)),eH (.str nm),iQ l,v,y]/\Nm (8+j) nm/\(∃c,nm.cps.toList=pre++[c])/\(nm∈ns->∀k c,k<j->(cutS signsT eI (eH 26)).cps.toList[k]?=eH c->(#[(pre++[c]).toArray]:eZ)∈ns)) #[eY,_,_,eY,Y,#[c0,Z],λ_ k c hk=>eR hk (FT k)] ?_ ?_
   . rintro j d σ H4 hj U ⟨rfl,nm,y,rfl,a,⟨c9,O⟩,r⟩
     nofun
     let hd:=Aq U;let W:=a.len;rw[I] at hj;refine#[_,eY,_,eY,s,_,eY,.inl (SqL.of t),eY,(by rw[EE];exact Bm.mpr λ_ _=>rfl),_,eY,iteB (λN=>?_) (λN=>#[eY,_,_,eY,a.mono (by lia),#[c9,O],λz=>by
      let z':inV (.str nm) (ns.map V.str)=eJ:=(vb nm ns).trans (fB z);exact eR (z'.symm.trans N) (by decide)])]
     let ab:nm∈ns:=fC ((vb nm ns).symm.trans N);let hc:=a.cut eI (eH (-1));let ao:=hc.len;exact#[_,eY,_,eY,_,eY,nm,eY,j7 (by lia),_,eY,_,_,eY,eY,j7 (by show _+1<=1000;lia),eY,_,_,eY,hc.app (t8 v9 (aj d hd)),#[d,by rw[a13 O d]],λz k c hk R=>by
      by_cases e:k=j;subst e;rw[U] at R;cases R;rw[a13 O d] at z;exact z
      exact r ab k c (by lia) R]
   rintro σ H4 ⟨rfl,nm,y,rfl,a,_,r⟩;rw[I] at a r;let u:¬ nm∈ns:=λz=>ae2 (pre:=pre) (ns:=ns) (z:=cutS signsT eI (eH 26)) (by decide) I (by lia) (r z);exists _,eY,(.inl #[eY,_,SqL.of t]),_,eY,s,ns.map V.str,_,eY,eY,t,jy (by rw[Ad];lia);exists _,eY,_,_,eY,eY,(show CPow 36 7 from#[by decide,by decide,by decide]),_,_,eY,eY,.inl #[by decide,by decide],_,_,eY,eY,(show a4e _ _ from#[by decide,by decide]);refine#[_,ns++[nm],_,_,_,_,_,eY,?_,?_,?_,?_,?_,?_,oa D u];exact λb o hb=>by rw[fg (gb hb S)];exact e2 b o hb
   . rw[fb,Av];rfl
   . rw[Ai,A2];lia
   . intro x g;rcases Ab.mp g with g|g;exact G x g;rw[Ae.mp g];exact a.mono (by lia)
   . rw[List.take_append_of_le_length (by lia)];exact M
   intro x g;rw[List.drop_append_of_le_length (by lia)] at g;rcases Ab.mp g with g|g;exact L x g;rw[Ae.mp g,<- M];exact λz=>u (Bw z)
 rintro σ T ⟨c,ns,z4,z5,z6,v,y,rfl,e2,t,ai,G,M,L,D⟩;refine#[_,eY,_,eY,s,_,eY,SqL.of t,λp hp=>?_];let aa:cutV (ns.map V.str) (eH 10) eI=(ns.drop 10).map V.str:=by
  unfold cutV;rw[Ad,show HT.sIx ns.length 0 (eH 10)=10 by show min 10 ns.length=10;lia,show HT.sIx ns.length ns.length eI=ns.length from rfl,<- IK,BC (by rw[Ad,Bq];lia)]
 rw[aa];refine q p (ns.drop 10) _ (e2.trans (fi hp _)) fb (by rw[Bq];lia) (λx g=>#[G x (Dv g),a8w ▸ L x g]) (Dc (List.drop_sublist _ _) D)
theorem uo:ja X (.type "int") (λxs H Q=>∃b:fJ,xs=[.bl b]/\Q (.int (if b=eJ then 1 else 0)) H):=by
 intro a s σ H xs us Q I r h;let(b,rfl,q):=h;let(u,rfl,c):=r.one;cases c;exact PySem.call_int_bool #[.int _,H,I.tok _,#[_,eY],q]
def lettT:eZ := "abcdefghijkmnopqruvwxz"
def figT:eZ := "0123456789"
theorem ado:Ok lettT:=show(PyData.str lettT).canLay0=eJ by decide
def evenS(x:eZ):Prop:=∀c∈x.cps.toList,c∈lettT.cps.toList++figT.cps.toList
theorem adw(h:evenS x):¬ x∈Mir.noNames:=λa=>by
 let h1:Mir.noNames.all (λy=>y.cps.toList.any λc => !decide (c∈lettT.cps.toList++figT.cps.toList))=eJ:=by decide
 let(c,b,hn):=AS.mp (Bm.mp h1 x a);rw[fB (h c b)] at hn;cases hn
theorem evenS.app(h:evenS x)(a:c∈lettT.cps.toList++figT.cps.toList):evenS (x++#[[c].toArray]):=λd hd=>by
 rw[DY,EJ] at hd;rcases Ab.mp hd with z|z;exact h d z;rw[Ae.mp z];exact a
theorem aec:Ok figT:=show(PyData.str figT).canLay0=eJ by decide
def sg(c:eN)(a i:eO):eM eO:=if 0<a/\(c / 7040+(a:eN)) % 3=0 then atI figT.cps.toList ((c / 320+((a:eN)*(c / 64 % 5)+(i:eN))) % 10) else atI lettT.cps.toList ((c / 320+((a:eN)*(c / 64 % 5)+(i:eN))) % 22)
theorem aez(hi:i<10)(f:k<10)(h:sg c a i=sg c a k):i=k:=by
 let dl:∀p q:Fin 22,atI lettT.cps.toList (p.val:eN)=atI lettT.cps.toList (q.val:eN)->p.val=q.val:=by decide
 let d:∀p q:Fin 10,atI figT.cps.toList (p.val:eN)=atI figT.cps.toList (q.val:eN)->p.val=q.val:=by decide
 unfold sg at h;generalize c / 320=B at h;generalize (a:eN)*(c / 64 % 5)=D at h;split at h
 . obtain⟨p,hp⟩:∃p:eO,(B+(D+(i:eN))) % 10=(p:eN):=#[((B+(D+(i:eN))) % 10).toNat,by lia]
   obtain⟨q,b⟩:∃q:eO,(B+(D+(k:eN))) % 10=(q:eN):=#[((B+(D+(k:eN))) % 10).toNat,by lia]
   let:=d #[p,by lia] #[q,by lia] (by rw[hp,b] at h;exact h);let e:p=q:=this
   lia
 obtain⟨p,hp⟩:∃p:eO,(B+(D+(i:eN))) % 22=(p:eN):=#[((B+(D+(i:eN))) % 22).toNat,by lia]
 obtain⟨q,b⟩:∃q:eO,(B+(D+(k:eN))) % 22=(q:eN):=#[((B+(D+(k:eN))) % 22).toNat,by lia]
 let:=dl #[p,by lia] #[q,by lia] (by rw[hp,b] at h;exact h);let e:p=q:=this
 lia
theorem a8q(h:x.cps.toList.length=j):(x++#[[c].toArray]:eZ).cps.toList.length=j+1/\(x++#[[c].toArray]:eZ).cps.toList[j]?=eH c/\∀a,a<j->(x++#[[c].toArray]:eZ).cps.toList[a]?=x.cps.toList[a]?:=by
 rw[DY,EJ];refine#[by rw[Ai,h];rfl,by rw[CD (by lia),h,EB];rfl,λa b=>CI (by lia)]
def SgOk(c at0:eN)(i j:eO)(x:eZ):Prop:=x.cps.toList.length=j/\∀a:eO,(a:eN)=at0->a<j->x.cps.toList[a]?=sg c a i/\(sg c a i).isSome=eJ
theorem SgOk.app(h:SgOk c at0 i j x)(hd:(j:eN)=at0->sg c j i=eH d):SgOk c at0 i (j+1) (x++#[[d].toArray]):=by
 let(h1,h2,h3):=a8q (c:=d) h.1;refine#[h1,λa b f=>?_];by_cases e:a=j;subst e;rw[h2,hd b];exact#[eY,eY];rw[h3 a (by lia)];exact h.2 a b (by lia)
inductive EvI(H2:Hp)(c n at0:eN)(l1:JA)(i j:eO)(σ:St)(H3:Hp):Prop
 |mk (h0:H3=H2)(nm:eZ)(z8 z9:eM V)(h1:σ=[iQ c,iQ n,eH (.str lettT),iQ at0,rQ l1,iQ (0+(i:eN)),eH (.str nm),z8,z9])(h2:Nm j nm)(h3:evenS nm)(h4:SgOk c at0 i j nm):EvI H2 c n at0 l1 i j σ H3
theorem a8f(C:Con K mg w)(F:Fun K "_law_names" "_law_names" a5d f fd)(GF:FnOk P w K mg base CX0 1 gF dF eD (u8 K))(cF:eB GF "_law_free_names"):FnOk P w K mg base CX0 2 f fd ["_law_cell","_law_many"] (u8 K):=by
 refine F.okA ["_law_cell","_law_many","_law_letters","_law_at","_law_names_here","_law_k","_law_name","_law_j","_law_step"] λak A outer s0 H vs Q E hr h nd=>?_;let(c,n,rfl,hn,q):=h;exists _,fe (gg (fz gq (gc j3 (qv 0) fc) fc (fy _)) (ff (fm (gx GF hr cF (l8 (gc ji (qv 0) fc) (fh (qv 1) ad))))) ge)
  (fe (gd 0 nd (gc ji (qv 0) fc))
  (fe (gd 2 nd gt)
  (fe (gd 3 nd (gc j3 (gc ji (qv 0) fc) (gc jb fc (gc j3 (qv 0) fc))))
  (fe (gd 4 nd (iu ad))
  (fe (ip A7 rfl (jx rfl C.range (fh (qv 1) ad)) (j2 5 nd) (fe (gd 6 nd gt)
  (fe (ip A7 rfl (jx rfl C.range (l8 (gc jb fc (gc j3 (qv 0) fc)) ad)) (j2 7 nd) (fe (gd 8 nd (gc jb (gc me (qv 7) (gc j3 (gc ji (qv 0) fc) fc)) (gc me (qv 5) (j6 uo rfl C.int Er (jh (io gq (qv 7) (qv 3) (fy _)) ad)))))
  (ff (gg (QW.qt (ls (fz afi (qv 7) fc (fy _)) (lb (fz gq (gc j3 (gc jb (gc ji (qv 0) fc) (qv 7)) fc) fc (fy _))))) (ff (gd 6 nd (gc o3 (qv 6) (mj vt gt (gc j3 (gc jb (gc ji (qv 0) fc) (qv 8)) fc) (λ_ _=>rfl))))) (ff (gd 6 nd (gc o3 (qv 6) (mj vt (qv 2) (gc j3 (gc jb (gc ji (qv 0) fc) (qv 8)) fc) (λ_ _=>rfl)))))))))
  (ff (il (kz (K:=K) rfl AK By Bz jw (qv 4) (fh (qv 6) ad)))))))
  (ff (fm (qv 4))))))))
 nofun
 refine#[_,eY,_,_,eY,eY,(show(0:eN)<2 by decide),eY,_,eY,iteB (λ_=>?_) (λ_=>?_)];exact#[_,eY,_,_,eY,eY,(show CDiv _ 2 from#[by decide,by decide]),_,eY,c / 2,n,eY,hn,q]
 exists _,eY,_,_,eY,eY,(show CDiv _ 2 from#[by decide,by decide]);let m8:=BA (c / 2) (show(8:eN)≠0 by decide);exists _,eY,_,_,eY,eY,(show CDiv _ 8 from#[by decide,by decide]),_,eY,_,_,eY,eY,(show(0:eN)<8 by decide),_,_,eY,eY,_,_,eY,eY,(show(0:eN)<1+c / 2 % 8 by lia);refine#[(by decide),λr U=>?_];exists _,eY,_,eY,by lia,(by lia);refine mq (lo:=0) (n:=(n:eN).toNat) (λi σ W=>Ex7 λ(c at0:eN) (ns:eU) (z6 z7 N I:eM V)=>And8 (σ=[iQ c,iQ (n:eN),eH (.str lettT),iQ at0,rQ r,z6,z7,N,I]) (Same H W) (W r=eH (.lst (ns.map V.str))) (ns.length=i) ((∀x∈ns,Nm 40 x/\¬ x∈Mir.noNames)) ((0<=at0/\at0<1+c % 8)) (ns.Nodup) (∀(k:eO) x,ns[k]?=eH x->SgOk c at0 k (1+c % 8).toNat x)) #[_,_,[],eI,eI,eI,eI,eY,fi U _,fb,eY,(λx s=>by cases s),#[BA _ (by lia),BR _ (by lia)],AV,λk x s=>by cases s] ?_ ?_
 . rintro i σ W hi ⟨c,at0,ns,z6,z7,N,I,rfl,S,p,Z,B,ai,v,O⟩
   nofun
   let Y:i<10:=by lia
   let m8:=BA c (show(8:eN)≠0 by decide);let am:=BR c (show(0:eN)<8 by decide);let T:lettT.length<=JB:=by decide
   let L:lettT.cps.toList.length=22:=by decide
   let ah:figT.length<=JB:=by decide
   let X:figT.cps.toList.length=10:=by decide
   refine#[_,eY,_,_,eY,eY,(show(0:eN)<8 by decide),_,_,eY,eY,_,eY,by lia,by lia,?_];refine mq (lo:=0) (n:=(1+c % 8).toNat) (λj σ G=>EvI W c (n:eN) at0 r i j σ G) #[eY,_,_,_,eY,#[Ao _,show(PyData.str ("":eZ)).canLay0=eJ by decide],(λc M=>by cases M),#[eY,λa _ h=>by cases h]] ?_ ?_
   . rintro j σ G hj ⟨rfl,nm,N,I,rfl,g,t,l⟩
     nofun
     let aj:=g.len;let an:j<8:=by lia
     exists _,eY,_,eY,_,_,eY,eY,(show CDiv _ 64 from#[by decide,by decide]),_,_,eY,eY,(show(0:eN)<5 by decide),_,_,eY,eY,.inl #[by lia,by lia];exists _,eY,_,eY,_,eY,eY,_,eY,_,_,eY,eY,.inl #[by lia,by lia],_,_,eY,rfl;let D:(j:eN)=at0->(if decide (V.int (0+(j:eN))=V.int at0)=eJ then(1:eN) else 0)=1:=λz=>eQ (fB (by rw[Cd,z]));generalize (if decide (V.int (0+(j:eN))=V.int at0)=eJ then(1:eN) else 0)=d at D |-;let(c1,y,J):=wo (xs:=lettT.cps.toList) (m:=22) (i:=c / 320+((0+(j:eN))*(c / 64 % 5)+(0+(i:eN))*d)) (by rw[L];rfl) (by decide);let(c2,ab,R):=wo (xs:=figT.cps.toList) (m:=10) (i:=c / 320+((0+(j:eN))*(c / 64 % 5)+(0+(i:eN))*d)) (by rw[X];rfl) (by decide);let aa:¬ (0<j/\(c / 7040+(j:eN)) % 3=0)->EvI G c (n:eN) at0 r i (j+1) [eH (.int c),eH (.int (n:eN)),eH (.str lettT),eH (.int at0),eH (.ref r),eH (.int (0+(i:eN))),eH (.str (nm++#[[c1].toArray])),eH (.int (0+(j:eN))),eH (.int ((0+(j:eN))*(c / 64 % 5)+(0+(i:eN))*d))] G:=λM=>#[eY,_,_,_,eY,g.app (t8 ado J),t.app (Ab.mpr (.inl J)),l.app λz=>by unfold sg;rw[eP M,<- y,D z,Cd,Cd,HN]]
     let ag:0<j/\(c / 7040+(j:eN)) % 3=0->EvI G c (n:eN) at0 r i (j+1) [eH (.int c),eH (.int (n:eN)),eH (.str lettT),eH (.int at0),eH (.ref r),eH (.int (0+(i:eN))),eH (.str (nm++#[[c2].toArray])),eH (.int (0+(j:eN))),eH (.int ((0+(j:eN))*(c / 64 % 5)+(0+(i:eN))*d))] G:=λM=>#[eY,_,_,_,eY,g.app (t8 aec R),t.app (Ab.mpr (.inr R)),l.app λz=>by unfold sg;rw[eQ M,<- ab,D z,Cd,Cd,HN]]
     refine#[_,eY,_,_,eY,eY,_,eY,iteB (λb1=>?_) (λb1=>?_)];refine#[_,eY,_,_,eY,eY,(show CDiv _ 7040 from#[by decide,by decide]),_,eY,_,_,eY,eY,_,_,eY,eY,(show(0:eN)<3 by decide),eY,_,eY,iteB (λb2=>?_) (λb2=>?_)];exact#[_,eY,_,eY,_,_,eY,eY,(show CDiv _ 320 from#[by decide,by decide]),_,eY,_,_,eY,eY,_,_,eY,eY,(show(0:eN)<10 by decide),figT,_,c2,eY,eY,ah,ab,nm,_,eY,eY,j7 (by show nm.length+1<=1000;lia),ag #[by let:=fC b1;lia,by let:=V.int.inj (fC b2);lia]];exact#[_,eY,_,eY,_,eY,_,_,eY,eY,(show CDiv _ 320 from#[by decide,by decide]),_,eY,_,_,eY,eY,_,_,eY,eY,(show(0:eN)<22 by decide),lettT,_,c1,eY,eY,T,y,nm,_,eY,eY,j7 (by show nm.length+1<=1000;lia),aa λz=>fD b2 (fE V.int (by let:=z.2;lia))]
     exact#[_,eY,_,eY,_,eY,_,_,eY,eY,(show CDiv _ 320 from#[by decide,by decide]),_,eY,_,_,eY,eY,_,_,eY,eY,(show(0:eN)<22 by decide),lettT,_,c1,eY,eY,T,y,nm,_,eY,eY,j7 (by show nm.length+1<=1000;lia),aa λz=>fD b1 (by let:=z.1;lia)]
   rintro σ G ⟨rfl,nm,N,I,rfl,g,t,l⟩;exists _,eY,(.inl #[eY,_,SqL.of p]),_,eY,r,ns.map V.str,_,eY,eY,p,jy (by rw[Ad];lia);let ac:∀(k:eO) x,(ns++[nm])[k]?=eH x->SgOk c at0 k (1+c % 8).toNat x:=λk x u=>by
    by_cases e:k<ns.length;rw[CI e] at u;exact O k x u
    let ae:=(An.mp u).1;rw[Ai,A2] at ae;let S:k=i:=by lia
    subst S;rw[CD (by lia),Z,EB] at u;cases u;exact l
   let af:¬ nm∈ns:=λz=>by
    let(k,u):=BB z;let al:=(An.mp u).1;obtain⟨a,ha⟩:∃a:eO,(a:eN)=at0:=#[at0.toNat,by lia]
    let h1:=(O k nm u).2 a ha (by lia);let h2:=l.2 a ha (by lia);let:=aez (by lia) Y (h1.1.symm.trans h2.1)
    lia
   refine#[c,at0,ns++[nm],_,_,_,_,eY,?_,?_,?_,?_,ai,oa v af,ac];exact λb o hb=>by rw[fg (gb hb U)];exact S b o hb
   . rw[fb,Av];rfl
   . rw[Ai,A2];lia
   intro x s;rcases Ab.mp s with s|s;exact B x s;rw[Ae.mp s];exact#[g.mono (by lia),adw t]
 rintro σ W ⟨c,at0,ns,z6,z7,N,I,rfl,S,p,Z,B,_,v,_⟩;exact#[_,eY,q r ns _ S p (by lia) B v]
theorem a58{q:eL Key×V}(h:q∈a):(valV a q.1).isSome=eJ:=by
 rw[<- kd];exact AS.mpr #[q,h,by simp]
theorem a6n(U:UkT g h L):g.any pb=eJ↔∃a,Told h L a a:=by
 rw[AS];constructor
 . rintro⟨q,d,f⟩;let(a,b,c):=U.pr q d;let e:a=b:=by
    unfold pb at f;rw[c] at f;let:=fC f;exact Ca this
   subst e;let:=a58 d;rw[c] at this;let(l,h1,h2):=(U.iff a a).mp this;rcases h2 with⟨h2,h3⟩|⟨h2,h3⟩
   . exact#[l.1,l,h1,.inl #[eY,h2.symm.trans h3]]
   exact#[l.2,l,h1,.inr #[eY,h2.symm.trans h3]]
 rintro⟨a,i⟩;let:=(U.told a a).mpr i;let(z,hz):=Bk.mp this;let(q,d,e):=Au.mp (xc hz);exists q,d;unfold pb;rw[e];exact fB rfl
theorem ixK(h:X.K=K):IxR X (rIxL K):=by subst h;exact xj
abbrev a2a:JJ:=ie (top 20) 10
abbrev a5u:JJ:=ie (top 20) 11
inductive NeAt_at_(C:JA)(H:Hp)(p:JA)(pl:JA)(hd:JA)(un:JA)(fu:JA)(D:JA):Prop
 |mk (dx fs)(h0:H p=eH (.ins C dx fs))(h1:KFs fs pl hd un fu)(h2:fs.lookup ("not_empty":eZ)=eH (.ref D)):NeAt_at_ C H p pl hd un fu D
structure NeAt(C:JA)(H:Hp)(p pl hd un fu D:JA)(ns:eL eO):Prop where
 at_:NeAt_at_ C H p pl hd un fu D
 lst:H D=eH (.lst (ns.map natV))
theorem NeAt.same(h:NeAt C H p pl hd un a D ns)(e:Same H H'):NeAt C H' p pl hd un a D ns:=by
 let((c,fs,h1,h2,b),h3):=h;exact#[#[c,fs,e _ _ h1,h2,b],e _ _ h3]
def lg(F P:eS)(ns:eL eO)(n:eO)(r:eU):Prop:=(∃j∈ns,j≠n/\∃s,P[j]?=eH s/\fq F (place r)=fq F (place s))\/fq F (place r)=fq F "nil"
inductive spSharesS(K:Aa)(C:JA)(vs:eL V)(H:Hp)(Q:VK):Prop
 |mk (p pl hd un fu D:JA)(F P:eS)(L:eT)(ns:eL eO)(n:eO)(r:eU)(h0:vs=[.ref p,.int (n:eN)])(h1:KnS K C H p pl hd un fu F P L)(h2:NeAt C H p pl hd un fu D ns)(h3:ns.length<=15)(h4:(∀j∈ns,j<P.length))(h5:(∀r∈P,PartRow r))(h6:P[n]?=eH r)(h7:∀(b:fJ) H',Same H H'->(b=eJ↔lg F P ns n r)->Q (.bl b) H'):spSharesS K C vs H Q
def a1l(K:Aa)(C:JA):Sp:=λvs H Q _=>spSharesS K C vs H Q
theorem eW:1<=JB:=by decide
theorem a5x(Cn:Con K mg w)(T:Txt K mg C fI)(F:Fun K "shares_place" "Knowledge.shares_place" a2a f fd)(GA:FnOk P w K mg base CX0 2 gA dA eD (lh C))(cA:eC GA C "alike"):FnOk P w K mg base CX0 3 f fd ["self","number"] (a1l K C):=by
 refine F.okA ["self","number","place","others"] λak A outer s0 H vs Q E hr h nd=>?_;let(p,pl,hd,un,fu,D,Fs,k,L,ns,n,r,rfl,hK,hN,W,Y,Z,hn,q):=h;let ao:=ir hr;exists _,fe (ox (i:=2) nd rfl (Or.inr rfl) (fj K (i7 K (gh (K:=K) rfl (qv 0)) (qv 1)) fc))
  (fe (oq ["other","self","number"] [0,1] (i:=3) nd rfl (Or.inl rfl) (i9 (gh (K:=K) rfl (qv 0))) (λ_ _ _ _=>(my (fz km (qv 0) (qv 2) (fy _)))) (λ_ _ _ _=>(fj K (i7 K (gh (K:=K) rfl (qv 1)) (qv 0)) fc)))
  (ff (fm (gr (v8 rfl) rfl Cn.any Ep (jh (ni ["word","self","place"] [0,2] (i9 (gc ke (qv 3) (iu (gm ad)))) (λ_ _ _ _=>le) (λ_ _ _ _=>(gi (qv 1) T.cl cA.meth GA hr cA.bind .nil gn (fh (qv 2) (fh (qv 0) ad))))) ad)))))
 nofun
 let hp:=Z r (Aq hn);let((hm,uk,hk,hok,hU),c,an):=id hK;let((dx,fs,h1,h2,aj),t):=id hN;let(as,b,ac,ah,hR):=l9 c hn;exists _,eY,p,C,dx,fs,.ref pl,eY,h1,T.cl,T.nP,h2.parts,_,eY,pl,_,_,.ref b,eY,eY,SqL.of ac,ah,b,_,1,_,eY,eY,hR,hp.at1;exists _,eY,p,C,dx,fs,.ref D,eY,h1,T.cl,T.nE,aj,D,eY,#[_,SqL.of t];obtain⟨I,R⟩:∃I:V->fJ,I=λv=>match v with|.int i => !decide (V.int i=V.int (n:eN))|_=>eK:=#[_,rfl]
 obtain⟨X,aa⟩:∃X:V->V,X=λv=>match v with|.int i=>.str (place (k.getD i.toNat []))|_=>.non:=#[_,rfl]
 let pv:∀j:eO,I (natV j) = !decide (j=n):=λj=>by
  rw[R];show(!decide (V.int (j:eN)=V.int (n:eN)))=_
  congr 1
  refine decide_eq_decide.mpr #[λz=>?_,λz=>by rw[z]];let:=V.int.inj z
  lia
 let fv:∀j:eO,X (natV j)=.str (place (k.getD j [])):=λj=>by
  rw[aa];show V.str (place (k.getD ((j:eN)).toNat []))=_;rw[AW]
 refine qx (ns.map natV) I X jo (SqL.of t) (by rw[Ad];exact j7 (by lia)) (λx o H2 e2 Q' N=>?_) (λx o _ H2 e2 Q' N=>?_) λDo H1 aq e1 ae=>?_
 . let(j,hj,rfl):=Au.mp o;let:=N H2 (Same.refl _);let e:I (natV j) = !decide (V.int (j:eN)=V.int (n:eN)):=by rw[R];rfl
   rw[e] at this;exact#[_,eY,_,eY,eY,_,eY,this]
 . let(j,hj,rfl):=Au.mp o;let l:=Y j hj;let G:k[j]?=eH k[j]:=Ag l;let(ap,b2,O,S,af):=l9 (c.same e2) G;let:=N H2 (Same.refl _);let e:X (natV j)=.str (place k[j]):=by rw[fv,Ay,G];rfl
   rw[e] at this;exact#[_,eY,p,C,dx,fs,.ref pl,eY,e2 _ _ h1,T.cl,T.nP,h2.parts,_,eY,pl,_,_,.ref b2,eY,eY,SqL.of O,S,b2,_,1,_,eY,eY,af,(Z _ (AM l)).at1,this]
 obtain⟨a,d⟩:∃a:eU,a=(ns.filter λj => !decide (j=n)).map λj=>place (k.getD j []):=#[_,eY]
 let U:H1 Do=eH (.lst (a.map V.str)):=by
  rw[ae,d,EC,B3,B3];rw[show(IX (I∘natV) ns)=ns.filter λj => !decide (j=n) from Fq λj _=>pv j]
  congr 2
  exact DC λj _=>fv j
 let am:a.length<=15:=by
  rw[d,Ad];exact AB (B2 _ _) W
 refine#[_,eY,eW,λl1 ag=>?_];let s2:=fi ag (.lst [.str "nil"]);refine#[Do,l1,_,_,eY,eY,s2 _ _ U,fb,?_,λl2 ai=>#[l2,eY,#[_,SqL.of fb],?_]];rw[Ad];exact j7 (show a.length+1<=1000 by lia)
 let s3:=e1.trans (s2.trans (fi ai (.lst (a.map V.str++[.str "nil"]))));let m:(upd (upd H1 l1 (.lst [.str "nil"])) l2 (.lst (a.map V.str++[.str "nil"]))) l2=eH (.lst ((a++[("nil":eZ)]).map V.str)):=by rw[fb,Av];rfl
 generalize upd (upd H1 l1 (.lst [.str "nil"])) l2 (.lst (a.map V.str++[.str "nil"]))=H3 at s3 m |-;refine uw ((a++[("nil":eZ)]).map V.str) (a++[("nil":eZ)]) (λx=>decide (fq Fs (place r)=fq Fs x)) jo (SqL.of m) (by rw[Ad,Ai,A2];lia) (by rw[Ad]) (λi x y o hy H4 e4 Q' N=>?_) λD4 H4 al e4 ab=>?_
 . obtain rfl:x=.str y:=by
    rw[Ar,hy] at o;exact(Am o).symm
   let J:=s3.trans e4;exists _,eY,p,dx,fs,eY,J _ _ h1,h2.meth "alike" (by decide),_,eY,_,eY,p,pl,hd,un,fu,hm,uk,place r,y,eY,hk.same J;rw[hok.hd,hok.hd];exact N H4 (Same.refl _)
 exists D4,(a++[("nil":eZ)]).map (λx=>decide (fq Fs (place r)=fq Fs x)),eY,SqL.of ab;refine q _ H4 (s3.trans e4) ?_;rw[DT,AS];constructor;rintro⟨x,o,M⟩;let u:=fC M;rcases Ab.mp o with z|z;rw[d] at z;let(j,hj,rfl):=Au.mp z;let(g,B):=Bc.mp hj;let l:=Y j g;let G:k[j]?=eH k[j]:=Ag l;refine .inl #[j,g,by simpa using B,_,G,?_];rw[u,Ay,G];rfl;rw[Ae.mp z] at u;exact .inr u
 rintro (⟨j,g,B,s,G,M⟩|M);refine#[place s,Ab.mpr (.inl ?_),fB M];rw[d];exact Au.mpr #[j,Bc.mpr #[g,by simpa using B],by rw[Ay,G];rfl];exact#["nil",Ab.mpr (.inr (Ae.mpr rfl)),fB M]
inductive spEndsTS(K:Aa)(vs:eL V)(H:Hp)(Q:VK):Prop
 |mk (b:JA)(r:eU)(h0:vs=[.ref b])(h1:RowAt K H b r)(h2:PartRow r)(h3:∀t H',Same H H'->H' t=eH (.tup [.str (place r),.str (end2 r)])->Q (.ref t) H'):spEndsTS K vs H Q
def a3e(K:Aa):Sp:=λvs H Q _=>spEndsTS K vs H Q
inductive spOpenES(K:Aa)(C:JA)(vs:eL V)(H:Hp)(Q:VK):Prop
 |mk (p pl hd un fu D:JA)(F P:eS)(L:eT)(Fl ns:eL eO)(h0:vs=[.ref p])(h1:KnS K C H p pl hd un fu F P L)(h2:NeAt C H p pl hd un fu D ns)(h3:H fu=eH (.dK (fk Fl)))(h4:ns.length<=15)(h5:(∀j∈ns,j<P.length))(h6:(∀r∈P,PartRow r))(h7:(∀H',Same H H'->(∀j∈ns,∀r,P[j]?=eH r->¬ j∈Fl->¬ lg F P ns j r)->Q .non H'))(h8:∀j r t H',Same H H'->j∈ns->P[j]?=eH r->(¬ j∈Fl)->lg F P ns j r->H' t=eH (.tup [.str (place r),.str (end2 r)])->Q (.ref t) H'):spOpenES K C vs H Q
def xi(K:Aa)(C:JA):Sp:=λvs H Q _=>spOpenES K C vs H Q
theorem aa4(F:Fun K "ends_of" "ends_of" ub f fd):FnOk P w K mg base CX0 1 f fd ["part"] (a3e K):=by
 refine F.okA ["part"] λj A outer s0 H vs Q E k h _=>?_;let(b,r,rfl,d,hp,q):=h;exists _,(ff (fm (mz (fz gq (fj K (qv 0) fc) gt (fy _)) (i3 (fx (fj K (qv 0) fc) (fx (fj K (qv 0) fc) ad))) (i3 (fx (fj K (qv 0) fc) (gm ad))))));refine#[_,eY,b,_,0,_,eY,eY,d,hp.at0,eY,_,eY,iteB (λc=>?_) (λc=>?_)]
 . let g:r.getD 0 ""="stretch" := by simpa using c
   obtain⟨x,y,rfl⟩:∃x y,r=[("stretch":eZ),x,y]:=by
    rcases hp with⟨a,f,s,rfl⟩|z|⟨a,rfl⟩
    . exact eR g (by show ¬ ("cell":eZ)="stretch";decide)
    . exact z
    exact eR g (by show ¬ ("tree":eZ)="stretch";decide)
   refine#[_,eY,b,_,1,.str x,eY,eY,d,eY,_,eY,b,_,2,.str y,eY,eY,d,eY,eV,λt i=>?_];exact q t _ (fi i _) fb
 let g:¬ r.getD 0 ""="stretch" := by simpa using c
 refine#[_,eY,b,_,1,_,eY,eY,d,hp.at1,eV,λt i=>?_];let e:end2 r="nil" := by unfold end2;rw[eP g]
 refine q t _ (fi i _) ?_;rw[e];exact fb
theorem aab{dS:JY}(T:Txt K mg C fI)(F:Fun K "open_ends" "Knowledge.open_ends" a5u f fd)(GE:FnOk P w K mg base CX0 1 gE dE eD (a3e K))(cE:eB GE "ends_of")(GS:FnOk P w K mg base CX0 3 gS dS eE (a1l K C))(cS:eC GS C "shares_place"):FnOk P w K mg base CX0 4 f fd ["self"] (xi K C):=by
 refine F.okA ["self","number"] λae A outer s0 H vs Q E n h nd=>?_;let(p,pl,hd,un,S,D,U,e,L,Fl,ns,rfl,hK,hN,Y,u,y,M,qn,qt):=h;let X:=ir n;let aa:=n.mono (j:=1) (by lia);exists _,fe (ip A7 rfl (i9 (gh (K:=K) rfl (qv 0))) (j2 1 nd) (ff (gg (QW.qt (ls (ko X (qv 1) (gh (K:=K) rfl (qv 0))) (lb (i6 (gi (qv 0) T.cl cS.meth GS n cS.bind .nil gn (fh (qv 1) ad)))))) (ff (fm (gx GE aa cE (fx (i7 K (gh (K:=K) rfl (qv 0)) (qv 1)) ad)))) ge)))
  (ff (fm gj))
 nofun
 let((R,fs,h1,h2,ac),hD):=id hN;exists _,eY,p,C,R,fs,.ref D,eY,h1,T.cl,T.nE,ac,D,eY,#[_,SqL.of hD];refine j5 (xs:=ns.map natV) (λi σ o=>Same H o/\(∀j∈ns.take i,∀r,e[j]?=eH r->¬ j∈Fl->¬ lg U e ns j r)/\∃J:eM V,σ=[eH (.ref p),J])
  #[Same.refl _,(λj N=>by simp at N),eI,eY] (λi σ o _ pv=>SqL.of (pv.1 _ _ hD)) ?_ ?_
 . rintro i x σ o hx ⟨a,d,J,rfl⟩
   nofun
   let m:i<ns.length:=by let:=(An.mp hx).1;rw[Ad] at this;exact this
   obtain rfl:x=.int ((ns[i]:eO):eN):=by
    rw[Ar,Ag m] at hx;exact(Am hx).symm
   let s:=AM m;let v:=y _ s;let W:e[ns[i]]?=eH e[ns[i]]:=Ag v;let et:ns.take (i+1)=ns.take i++[ns[i]]:=by rw[AJ,Ag m];rfl
   let I:∀G,Same H G->(¬ ns[i]∈Fl->¬ lg U e ns ns[i] e[ns[i]])->(Same H G/\(∀j∈ns.take (i+1),∀r,e[j]?=eH r->¬ j∈Fl->¬ lg U e ns j r)/\∃J:eM V,[eH (V.ref p),eH (.int ((ns[i]:eO):eN))]=[eH (.ref p),J]):=λG O h=>by
    refine#[O,λj N r n hf=>?_,_,eY];rw[et] at N;rcases Ab.mp N with z|z;exact d j z r n hf;let ej:=Ae.mp z;subst ej;rw[W] at n;cases n;exact h hf
   let g:=DGet.k (k:=Sum.inl ((ns[i]:eO):eN)) (a _ _ Y);exists _,eY,_,eY,p,C,R,fs,.ref S,eY,a _ _ h1,T.cl,T.nF,h2.fulls,S,_,eY,g,_,rfl;rw[qk];refine iteB (λc=>?_) (λc=>?_)
   . let Z:¬ ns[i]∈Fl:=by simpa using c
     refine#[_,eY,p,R,fs,eY,a _ _ h1,h2.meth "shares_place" (by decide),_,eY,p,pl,hd,un,S,D,U,e,L,ns,ns[i],_,eY,hK.same a,hN.same a,u,y,M,W,λb G O hb=>#[b,eY,iteB (λcb=>?_) (λcb=>I G (a.trans O) λ_ z=>by let:=hb.mpr z;rw[cb] at this;cases this)]];let l:=a.trans O;let(af,b4,q,B,ab):=l9 (hK.parts.same l) W;exact#[_,eY,p,C,R,fs,.ref pl,eY,l _ _ h1,T.cl,T.nP,h2.parts,_,eY,pl,_,_,.ref b4,eY,eY,SqL.of q,B,b4,_,eY,ab,M _ (AM v),λt H4 e4 hT=>qt ns[i] _ t H4 (l.trans e4) s W Z (hb.mp cb) hT]
   let Z:ns[i]∈Fl:=by simpa using c
   exact I o a λz=>eR Z z
 rintro σ o ⟨a,d,J,rfl⟩;rw[Ad,AN] at d;exact qn o a d
def neOf(F P:eS):eL eO:=(AU P.length).filter λn => !ny P (fq F) n
theorem jk(h:P[j]?=eH r):j∈neOf F P↔¬ ki r (fq F) []:=by
 unfold neOf;rw[Bc];constructor;rintro⟨_,h2⟩ a;let:=emptyB_iff.mpr #[r,h,a];rw[this] at h2;cases h2
 intro hn;exists Ba.mpr (An.mp h).1;cases hz:ny P (fq F) j with
 |false=>rfl
 |true =>
  let(r',h1,h2):=emptyB_iff.mp hz;rw[h] at h1;cases h1;exact eR h2 hn
end K34
namespace Ka
open PySem PyProof.Rows
end Ka
namespace Ka
open PySem
theorem plain_loop:plainId "dict.update.loop"=eJ:=by decide
theorem entry_loop:entryFor table "dict.update.loop"=eH Builtin.«dict.update.loop» := entryFor_of_fast (by kernel_rfl)
end Ka
namespace L2
open PyProof.Rows
def kk(kv:eZ×V):Key×V:=(Sum.inr kv.1,kv.2)
section
variable{kvs:eL (eZ×V)} in
variable{a:JA} in
end
theorem ac1(c:u.heap.IsTupleIter j q k)(h:u.heap.IsTuple q vals)(n:vals[k]?=eH v)(d:∀g,g.IsTupleIter j q (k+1)->BF j u.heap g->R v {u with heap:=g}):JD (JE prog w) A (BD (.ref j)) R E u:=by
 let(o,b,e,a):=id c;let(p,i,r,m,l):=h;let ty:=c.typeIs;unfold BD;refine Ac (Bp ty CF (Bl CF ty EZ ?_ (EV _)));show JD (JE prog w) _ (field (.ref j) 0>>=_) _ _ u;refine Ac (Bo b a (x:=.ref q) rfl ?_);let nn:¬ (Value.ref q==Value.none)=eJ:=Az;show JD (JE prog w) _ (if(Value.ref q==Value.none)=eJ then _ else _) _ _ u;rw[eP nn];show JD (JE prog w) _ (field (.ref j) 1>>=_) _ _ u;refine Ac (Bo b a (x:=.int k 0) rfl ?_);show JD (JE prog w) _ (seqItems? (.ref q)>>=_) _ _ u;refine Ac (BY i l ?_);simp only[AW,n];let kept:∀f:fF JC->fF JC,(u.heap.update j (Fh f)).get? j=eH (Fh f o):=λf=>BH _ b (Em (CZ a _));refine Ac (EU b a (by simp) (Al #[v,eY,Al (d _ #[_,kept _,?_,?_] (Cq ..))]));rw[Fp];exact e;rw[CZ a];simp[Jc]
theorem a7i(f:A.handled=eI)(d:u.heap.IsTupleIter j q k)(i:u.heap.IsTuple q vals)(r:vals[k]?=eI)(h:∀g e,Ga j u.heap g->(∃o,g.get? e=eH o/\o.cls=.type "StopIteration")->E (.ref e) {u with heap:=g}):JD (JE prog w) A (BD (.ref j)) R E u:=by
 let(o,b,s,c):=id d;let(p,l,t,m,n):=i;let ty:=d.typeIs;unfold BD;refine Ac (Bp ty CF (Bl CF ty EZ ?_ (EV _)));show JD (JE prog w) _ (field (.ref j) 0>>=_) _ _ u;refine Ac (Bo b c (x:=.ref q) rfl ?_);let nn:¬ (Value.ref q==Value.none)=eJ:=Az;show JD (JE prog w) _ (if(Value.ref q==Value.none)=eJ then _ else _) _ _ u;rw[eP nn];show JD (JE prog w) _ (field (.ref j) 1>>=_) _ _ u;refine Ac (Bo b c (x:=.int k 0) rfl ?_);show JD (JE prog w) _ (seqItems? (.ref q)>>=_) _ _ u;refine Ac (BY l n ?_);simp only[AW,r];refine Ac (CV (Ac (EU b c (by simp) ?_)));show JD (JE prog w) _ (newExc (.type "StopIteration") []>>=_) _ _ _;refine Ac ?_;unfold newExc newTuple;refine Ac (AX ?_ (by size_fits));refine Ac (m:=firstArgMember _ _) (FX (a:=Value.none) (by simp only[firstArgMember];rfl) (AX ?_ (by size_fits)));refine Hk ?_ ?_;exact f;exact h _ _ (((Cq ..).extBut.push _).push _) #[_,Ax _ rfl,eY]
theorem a6w(D:ZipApart z h to j k q s)(g1:IsZip u.heap z h to .none)(Z:Jg u.heap h (.ref j) (.ref k))(g3:Jg u.heap to a b)(t1:u.heap.IsTupleIter j q k1)(t2:u.heap.IsTupleIter k s k2)(v1:u.heap.IsTuple q xs)(v2:u.heap.IsTuple s ys)(hx:xs[k1]?=eH x)(O:ys[k2]?=eH y)(hR:∀g,IsZip g z h to (Jc u.heap.objs.size)->Jg g to x y->g.IsTupleIter j q (k1+1)->g.IsTupleIter k s (k2+1)->Jg g u.heap.objs.size x y->
 (∀c o,c≠z->c≠to->c≠j->c≠k->u.heap.get? c=eH o->g.get? c=eH o)->R (eH (.ref u.heap.objs.size)) {u with heap:=g}):JD (JE prog w) A (JW (.ref z)) R E u:=by
 let ty:u.TypeIs (.ref z) "zip" := #[_,g1,eY]
 unfold JW;refine Ac (CU (Bp ty EF (Bl EF ty HZ ?_ (HM _))));show JD (JE prog w) _ (field (.ref z) 2>>=_) _ _ u;refine Ac (Bo g1 rfl (x:=.bool eK) rfl ?_);show JD (JE prog w) _ (field (.ref z) 3>>=_) _ _ u;refine Ac (Bo g1 rfl (x:=.ref h) rfl (Ac (BY Z rfl ?_)));show JD (JE prog w) _ (Bj (.ref z)>>=_) _ _ u;refine Ac ?_;unfold Bj;refine Ac (Bo g1 rfl (x:=.none) rfl (Al ?_));simp only[if_true];refine Ac (CV (Ac (Bo g1 rfl (x:=.ref to) rfl (Ac (Bf g1 (by simp) λm1 y1 i=>?_)))));let z1:IsZip m1 z h to .ellipsis:=y1;refine Ac ?_;simp only[Ib,Iu,Iv,IB];refine Ac (Ac (Hd ?_));show JD (JE prog w) _ (BD (.ref j)>>=_) _ _ _;refine Ac (ac1 (t1.extBut i.extBut D.i1z) (v1.extBut i.extBut D.l1z) hx λm2 y2 m=>Al ?_);let B:Jg m2 to a b:=m.extBut _ _ D.TOi1 (i.extBut _ _ D.TOz g3);refine Ac (BY B rfl (Ac (Ha B λm3 y3 l=>Ac (wpAny_letGo (Al ?_)))));let T:Jg m3 to x b:=y3;refine Ac (Ac (Hd ?_));show JD (JE prog w) _ (BD (.ref k)>>=_) _ _ _;let X:=((t2.extBut i.extBut D.i2z).extBut m.extBut D.i12.symm).extBut l.extBut D.TOi2.symm;let U:=((v2.extBut i.extBut D.l2z).extBut m.extBut D.l2i1).extBut l.extBut D.l2TO;refine Ac (ac1 X U O λm4 y4 p=>Al ?_);let I:Jg m4 to x b:=p.extBut _ _ D.TOi2 T;refine Ac (BY I rfl (Ac (Ha I λd W n=>Ac (wpAny_letGo (Al (Al ?_))))));let H:Jg d to x y:=W;refine Ac (BY H rfl (Ac (wpAny_newTuple ?_)));let sz:d.objs.size=u.heap.objs.size:=by rw[n.1,p.1,l.1,m.1,i.1]
 let G:IsZip d z h to .ellipsis:=n.extBut _ _ D.TOz.symm (p.extBut _ _ D.i2z.symm (l.extBut _ _ D.TOz.symm (m.extBut _ _ D.i1z.symm z1)));let kp:∀c o,c≠z->c≠to->c≠j->c≠k->u.heap.get? c=eH o->d.get? c=eH o:=λc o n1 n2 t v e=>n.extBut _ _ n2 (p.extBut _ _ v (l.extBut _ _ n2 (m.extBut _ _ t (i.extBut _ _ n1 e))));let p1:d.IsTupleIter j q (k1+1):=((y2.extBut l.extBut D.TOi1.symm).extBut p.extBut D.i12).extBut n.extBut D.TOi1.symm;let Q:d.IsTupleIter k s (k2+1):=y4.extBut n.extBut D.TOi2.symm;show JD (JE prog w) _ (DV (.ref z) (.ref d.objs.size)>>=_) _ _ _;refine Ac ?_;unfold DV;let S:IsZip (d.push {cls:=.type "tuple",data:=.seq [x,y].toArray}) z h to .ellipsis:=Aj _ G;refine Ac (Bf S (by simp) λm7 y7 J=>?_);let P:IsZip m7 z h to (Jc d.objs.size):=y7;refine Bf P (by simp) λr Y N=>?_;let L:IsZip r z h to (Jc d.objs.size):=Y;let f:∀c o,c≠z->d.get? c=eH o->r.get? c=eH o:=λc o n1 e=>N.extBut _ _ n1 (J.extBut _ _ n1 (Aj _ e));let M:d.objs.size≠z:=BP (A1 G);let C:Jg r d.objs.size x y:=N.extBut _ _ M (J.extBut _ _ M (Ax _ rfl));rw[sz] at L C;refine Al #[_,eY,Al ?_];show R (eH (.ref d.objs.size)) _;rw[sz];exact hR r L (f _ _ D.TOz H) (p1.at λo e=>f _ o D.i1z e) (Q.at λo e=>f _ o D.i2z e) C λc o n1 n2 t v e=>f c o n1 (kp c o n1 n2 t v e)
theorem aa8(y:A.handled=eI)(D:ZipApart z a to d G k N)(g1:IsZip u.heap z a to .none)(r:Jg u.heap a (.ref d) (.ref G))(L:u.heap.IsTupleIter d k k1)(n:u.heap.IsTuple k xs)(p:xs[k1]?=eI)(v:∀g,(∀c o,c≠z->c≠d->u.heap.get? c=eH o->g.get? c=eH o)->R eI {u with heap:=g}):JD (JE prog w) A (JW (.ref z)) R E u:=by
 let ty:u.TypeIs (.ref z) "zip" := #[_,g1,eY]
 unfold JW;refine Ac (CU (Bp ty EF (Bl EF ty HZ ?_ (HM _))));show JD (JE prog w) _ (field (.ref z) 2>>=_) _ _ u;refine Ac (Bo g1 rfl (x:=.bool eK) rfl ?_);show JD (JE prog w) _ (field (.ref z) 3>>=_) _ _ u;refine Ac (Bo g1 rfl (x:=.ref a) rfl (Ac (BY r rfl ?_)));show JD (JE prog w) _ (Bj (.ref z)>>=_) _ _ u;refine Ac ?_;unfold Bj;refine Ac (Bo g1 rfl (x:=.none) rfl (Al ?_));simp only[if_true];refine Ac (CV (Ac (Bo g1 rfl (x:=.ref to) rfl (Ac (Bf g1 (by simp) λs B f=>?_)))));let I:IsZip s z a to .ellipsis:=B;refine Ac ?_;simp only[Ib,Iu,Iv,IB];refine Ac (Ac (Hd ?_));show JD (JE prog w) _ (BD (.ref d)>>=_) _ _ _;refine Ac (a7i y (L.extBut f.extBut D.i1z) (n.extBut f.extBut D.l1z) p λt e j H=>?_);let(M,h,l):=H;let m:IsZip t z a to .ellipsis:=j _ _ D.i1z.symm I;let ne:e≠z:=λq=>by
  subst q;rw[m] at h;cases h;simp at l
 refine Bf m (by simp) λC _ i=>?_;refine Ac (Dt (T := "StopIteration") (b:=eJ) #[M,i.extBut _ _ ne h,l] ER ?_);exact Al (v C λc o n1 J q=>i.extBut _ _ n1 (j _ _ J (f.extBut _ _ n1 q)))
def Ity(K:Aa)(l1 l2:JA):It where
 go:=λi H=>∃xs ys x y,SqT K H l1 xs/\SqT K H l2 ys/\xs[i]?=eH x/\ys[i]?=eH y
 yld:=λi H v H'=>∃x y p,(∀xs,SqT K H l1 xs->xs[i]?=eH x)/\(∀ys,SqT K H l2 ys->ys[i]?=eH y)/\H p=eI/\H'=upd H p (.tup [x,y])/\v=.ref p
 stop:=λi H=>∃xs ys,SqT K H l1 xs/\SqT K H l2 ys/\xs.length<=i
theorem zv(I:Inv X a σ H s)(h:SqT X.K H l xs)(f:FpOk X a H l):False:=by
 rcases h with (q|⟨o,q⟩)|⟨o,its,n,q,_⟩
 . rw[f.1] at q;cases q
 . rw[f.1] at q;cases q
 let e:=I.ok.mod.kin _ _ q;rcases f.2.2.2.1 with z|z;exact I.ok.noex l o e z;exact eR (AD (A1 e) (AB I.ok.bsz z)) (Bb _)
def ab2(n l1 l2:JA)(i:eO)(h:JP):Prop:=IsZip h (n+4) (n+2) (n+3) .none/\Jg h (n+2) (.ref n) (.ref (n+1))/\(∃a b,Jg h (n+3) a b)/\h.IsTupleIter n l1 i/\h.IsTupleIter (n+1) l2 i
theorem a7m{K:Aa}{x1}(n C G:JA):Turn P w K (.Tuple aa x1 pos) (Ity K C G) (jm n) (n+4) (ab2 n C G) where
 mem:=by simp[jm]
 obj:=λi h st b d=>by
  let(hz,f,(a,c,g),(o1,e1,c1,d1),(o2,e2,c2,d2)):=st;unfold jm at d;simp only[Ak,As,fH] at d;rcases d with rfl|rfl|rfl|rfl|rfl;exact#[_,hz,λv z=>by cases z];exact#[_,f,λv z=>by cases z];exact#[_,g,λv z=>by cases z];exact#[o1,e1,λv z=>by rw[d1] at z;cases z];exact#[o2,e2,λv z=>by rw[d2] at z;cases z]
 keep:=λi h h' st k=>by
  let(hz,f,(a,c,g),h1,h2):=st;exact#[k _ (by simp[jm]) _ hz,k _ (by simp[jm]) _ f,#[a,c,k _ (by simp[jm]) _ g],h1.at λo e=>k _ (by simp[jm]) o e,h2.at λo e=>k _ (by simp[jm]) o e]
 item:=by
  intro X U Q T hc i j s σ H E I r st R;subst U Q T;let(hz,f,(a,c,g),h1,h2):=st;let(xs,ys,x,y,B,F,hx,hy):=R;let(m,r1,O,_):=I.tuple B;let(M,r2,L2,_):=I.tuple F;let(u,hu,ru):=r1.get hx;let(v,hv,rv):=r2.get hy;let D:ZipApart (n+4) (n+2) (n+3) n (n+1) C G:=um (λz=>zv I B (r _ z)) (λz=>zv I F (r _ z));refine a6w D hz f g h1 h2 (show s.heap.IsTuple C m.toArray from O) (show s.heap.IsTuple G M.toArray from L2) (x:=u) (y:=v) (by simpa using hu) (by simpa using hv) λh' a1 a2 a3 a4 a5 N=>?_;let I1:Inv X j σ H {s with heap:=h'}:=I.turnedL (ch:=jm n) (t':=s.toks) (λb o d e=>by
   unfold jm at d;simp only[Ak,As,fH,not_or] at d;exact N b o d.1 d.2.2.1 d.2.2.2.1 d.2.2.2.2 e) r
  refine#[.ref s.heap.objs.size,eY,wpAny_letOwnedTupleGo_zip a1 λJ Y l=>?_];let I2:Inv X j σ H {s with heap:=J}:=I1.turnedL (s:={s with heap:=h'}) (ch:=jm n) (t':=s.toks) (λb o d e=>by
   unfold jm at d;simp only[Ak,As,fH,not_or] at d;exact l.extBut _ _ d.1 e) r
  let fresh:H s.heap.objs.size=eI:=I.hok.fresh (Ao _);let pz:s.heap.objs.size≠n+4:=BP (A1 hz);let I3:Inv X j σ (upd H s.heap.objs.size (.tup [x,y])) {s with heap:=J}:=by
   refine I2.track fresh ?_ (BP I.lt) (λz c' e t=>?_) (λp hp t=>?_) ?_
   . cases q:X.s₀.heap.get? s.heap.objs.size with|none=>rfl|some o=>exact eR (AD (A1 q) I.sz) (Bb _)
   . let(v',q):=I.cell z c' e;exact eR (t ▸ q.lt) (Bb _)
   . exact eR (t ▸ A1 (I.pin p hp).1) (Bb _)
   exact#[by show 2<=JB;decide,[u,v],.cons ru (.cons rv .nil),#[_,l.extBut _ _ pz a5,eY,_,eY]]
  let S:∀b∈jm n,b≠s.heap.objs.size:=λb d e=>by
   let Z:∃o,s.heap.get? b=eH o:=by
    unfold jm at d;simp only[Ak,As,fH] at d;let(o1,g1,_):=h1;let(o2,g2,_):=h2;rcases d with rfl|rfl|rfl|rfl|rfl;exact#[_,hz];exact#[_,f];exact#[_,g];exact#[_,g1];exact#[_,g2]
   let(o,Z):=Z;exact eR (e ▸ A1 Z) (Bb _)
  let L:Jg h' (n+2) (.ref n) (.ref (n+1)):=N _ _ D.TIz D.TITO D.TIi1 D.TIi2 f;refine#[.ref s.heap.objs.size,_,I3,eY,#[x,y,_,λzs A=>by rw[I.tuple_inj A B];exact hx,λzs A=>by rw[I.tuple_inj A F];exact hy,fresh,eY,eY],#[Y,l.extBut _ _ D.TIz L,#[_,_,l.extBut _ _ D.TOz a2],a3.extBut l.extBut D.i1z,a4.extBut l.extBut D.i2z],λb d=>?_];rw[fg (S b d)];exact(r b d).1
 done:=by
  intro X U Q T hc i j s σ H E I r st R;subst U Q T;let(hz,f,(a,c,g),h1,h2):=st;let(xs,ys,B,F,hl):=R;let(m,r1,O,_):=I.tuple B;let ab:=r1.length;let D:ZipApart (n+4) (n+2) (n+3) n (n+1) C G:=um (λz=>zv I B (r _ z)) (λz=>zv I F (r _ z));refine aa8 (I.ok.hd hc) D hz f h1 (show s.heap.IsTuple C m.toArray from O) (by rw[Dk,BO (by lia)]) λh' N=>#[eY,I.turnedL (ch:=jm n) (t':=s.toks) (λb o d e=>?_) r]
  unfold jm at d;simp only[Ak,As,fH,not_or] at d;exact N b o d.1 d.2.2.2.1 e
 self:=λ_ _ _ _ _ st h=>Ic st.1 h
theorem a6d(a b:JA)(xs ys:fF JC):Meets (Builtin.«zip.__new__» #[[.type "zip",.ref a,.ref b],[]]) (λ_ R s=>s.heap.IsTuple a xs/\s.heap.IsTuple b ys/\
 R (.ok (.ret (.ref (s.heap.objs.size+4)))) {s with heap:=((((s.heap.push {cls:=.type "tuple_iterator",data:=.fields [.ref a,.int 0 0].toArray}).push {cls:=.type "tuple_iterator",data:=.fields [.ref b,.int 0 0].toArray}).push {cls:=.type "tuple",data:=.seq [.ref s.heap.objs.size,.ref (s.heap.objs.size+1)].toArray}).push {cls:=.type "tuple",data:=.seq [.none,.none].toArray}).push {cls:=.type "zip",data:=.fields [.none,.bool eK,.bool eK,.ref (s.heap.objs.size+2),.ref (s.heap.objs.size+3)].toArray}}) :=
 .of_wp λprog w A R s h=>by
  let(m,g,d,tk,os):=s;let(c,j,h):=h;let sub:=sub_zip;let i:IT (IY #[m,g,d,tk,os]) a xs:=c;let f:IT (IY #[m.push {cls:=.type "tuple_iterator",data:=.fields [.ref a,.int 0 0].toArray},g,d,tk,os]) b ys:=by
   let(o,e,r):=j;exact#[o,Aj _ e,r]
  let k:(m.push {cls:=.type "tuple_iterator",data:=.fields [.ref a,.int 0 0].toArray}).objs.size=m.objs.size+1:=B1 ..
  wp_walk using DL i,DL f
  exists _,rfl;simp only[B1];exact h
def ab4(K:Aa)(ta:TA):TI:=fun σ H R=>ta σ H λvs H1=>∃l1 l2 xs ys,vs=[.ref l1,.ref l2]/\SqT K H1 l1 xs/\SqT K H1 l2 ys/\R (Ity K l1 l2) H1
theorem adg{x1}(M:Gl X "zip")(hm:X.mg "zip"=eI)(S:PA X [a,b] L)(N:JF [a,b] X.env=[(eK,eval a X.env),(eK,eval b X.env)])(t:JF [b] X.env=[(eK,eval b X.env)]):
 PI X (.Tuple E x1 D) (.Call (.Name "zip" p) [a,b] [] pos) (ab4 X.K L):=by
 intro u s σ H R I h;refine Call_ (oh I M hm boot_zip (BZ (thn (S pos u s σ H _ I h) λus s1 #[vs,G,y,r1,z]=>?_) (by rw[N,t]) (by rw[t];rfl)));let(w,v,xs,ys,e,z,T,q):=z;subst e;cases r1 with
 |cons r rr =>
  cases rr with
  |cons r' rr =>
   cases rr;cases r;cases r';let(l,U,P,_):=y.tuple z;let(n,W,Q,_):=y.tuple T;let T1:s1.heap.IsTuple w l.toArray:=P;let J:s1.heap.IsTuple v n.toArray:=Q;refine callType_new F.called_zip (by decide) (F.typeCall_zip_2 _ _) (F.newCall_zip_2 _ _) (λobj=>F.args_object_init_3 obj _ _) F.entry_zip_new (a6d w v l.toArray n.toArray) #[T1,J,?_];let k:∀(m:JP) (o:Obj),(m.push o).objs.size=m.objs.size+1:=λm o=>B1 ..;let O:∀b o,s1.heap.get? b=eH o->∀c d g i j,(((((s1.heap.push c).push d).push g).push i).push j).get? b=eH o:=λb o e c d g i j=>Aj _ (Aj _ (Aj _ (Aj _ (Aj _ e))));let at0:∀c d g i j:Obj,c.isFreed=eK->(((((s1.heap.push c).push d).push g).push i).push j).get? s1.heap.objs.size=eH c:=λc d g i j f=>Aj _ (Aj _ (Aj _ (Aj _ (Ax _ f))));let at1:∀c d g i j:Obj,d.isFreed=eK->(((((s1.heap.push c).push d).push g).push i).push j).get? (s1.heap.objs.size+1)=eH d:=λc d g i j f=>by rw[<- k s1.heap c];exact Aj _ (Aj _ (Aj _ (Ax _ f)))
   let at2:∀c d g i j:Obj,g.isFreed=eK->(((((s1.heap.push c).push d).push g).push i).push j).get? (s1.heap.objs.size+2)=eH g:=λc d g i j f=>by
    let e:s1.heap.objs.size+2=((s1.heap.push c).push d).objs.size:=by rw[k,k]
    rw[e];exact Aj _ (Aj _ (Ax _ f))
   let C:∀c d g i j:Obj,i.isFreed=eK->(((((s1.heap.push c).push d).push g).push i).push j).get? (s1.heap.objs.size+3)=eH i:=λc d g i j f=>by
    let e:s1.heap.objs.size+3=(((s1.heap.push c).push d).push g).objs.size:=by rw[k,k,k]
    rw[e];exact Aj _ (Ax _ f)
   let B:∀c d g i j:Obj,j.isFreed=eK->(((((s1.heap.push c).push d).push g).push i).push j).get? (s1.heap.objs.size+4)=eH j:=λc d g i j f=>by
    let e:s1.heap.objs.size+4=((((s1.heap.push c).push d).push g).push i).objs.size:=by rw[k,k,k,k]
    rw[e];exact Ax _ f
   let g1:=B {cls:=.type "tuple_iterator",data:=.fields [.ref w,.int 0 0].toArray} {cls:=.type "tuple_iterator",data:=.fields [.ref v,.int 0 0].toArray} {cls:=.type "tuple",data:=.seq [.ref s1.heap.objs.size,.ref (s1.heap.objs.size+1)].toArray} {cls:=.type "tuple",data:=.seq [.none,.none].toArray} {cls:=.type "zip",data:=.fields [.none,.bool eK,.bool eK,.ref (s1.heap.objs.size+2),.ref (s1.heap.objs.size+3)].toArray} rfl;exists #[_,g1,eY];refine Ic (s:={s1 with heap:=_}) g1 ?_;refine#[s1.heap.objs.size+4,jm s1.heap.objs.size,ab2 s1.heap.objs.size w v,Ity X.K w v,G,eY,y.kept (t':=s1.toks) λb o e=>O b o e _ _ _ _ _,a7m _ _ _,#[g1,at2 _ _ _ _ _ rfl,#[_,_,C _ _ _ _ _ rfl],#[_,at0 _ _ _ _ _ rfl,eY,eY],#[_,at1 _ _ _ _ _ rfl,eY,eY]],λb A=>?_,q];let x:s1.heap.objs.size<=b:=by
    unfold jm at A;simp only[Ak,As,fH] at A;rcases A with rfl|rfl|rfl|rfl|rfl;exact Cf _ 4;exact Cf _ 2;exact Cf _ 3;exact Ao _;exact Cf _ 1
   exact y.fpOk (H':=G) x (y.hok.fresh x)
theorem ac5{x1}(f:Gl X "zip")(hm:X.mg "zip"=eI)(i:QA X [a,b] g)(h:autoParam (JF [a,b] X.env=[(eK,eval a X.env),(eK,eval b X.env)]) a4_)(c:autoParam (JF [b] X.env=[(eK,eval b X.env)]) a4_):
 QI X (.Tuple e x1 d) (.Call (.Name "zip" p) [a,b] [] pos) (ab4 X.K g):=#[adg f hm i.run h c]
theorem a96{K:Aa}{g:TG}{n:TS}{D:Ends}(Pv:eO->St->Hp->Prop)(q:Pv 0 σ H)(hl:∀i σ H,Pv i σ H->SqT K H f xs/\SqT K H c ys)(r:xs.length=ys.length)(v:∀i x y σ H p,xs[i]?=eH x->ys[i]?=eH y->Pv i σ H->H p=eI->let N:=Pv (i+1);g (.ref p) σ (upd H p (.tup [x,y])) λk d=>n {D with nx:=N,ct:=N,bk:=D.nx} k d)(hd:∀σ H,Pv xs.length σ H->D.nx σ H):
 ∃W:eO->eO->St->Hp->Prop,(∃m,W 0 m σ H)/\∀i m σ H,W i m σ H->
  ((Ity K f c).stop i H/\D.nx σ H)\/((Ity K f c).go i H/\∃N:St->Hp->Prop,(∀j H',N j H'->∃o,o<m/\W (i+1) o j H')/\∀x H',(Ity K f c).yld i H x H'->g x σ H' λk d=>n {D with nx:=N,ct:=N,bk:=D.nx} k d):=by
 exists λi m σ H=>m=xs.length-i/\i<=xs.length/\Pv i σ H,#[xs.length,by simp,AC _,q];rintro i m σ H ⟨rfl,hi,p⟩;let(h,b):=hl i σ H p;by_cases a:i<xs.length;refine .inr #[#[xs,ys,xs[i],ys[i],h,b,by simp[a],by simp[show i<ys.length by lia]],Pv (i+1),λj H' l=>#[xs.length-(i+1),by lia,eY,a,l],λx H' y=>?_];let(s,t,l,g1,u,hn,rfl,rfl):=y;exact v i s t σ H l (g1 _ h) (u _ b) p hn
 let e:i=xs.length:=by lia
 subst e;exact .inl #[#[xs,ys,h,b,Ao _],hd σ H p]
end L2
namespace Ke
open PySem PyProof.Rows
theorem ad2:typeLookup (.type "enumerate") "keys"=pure eI:=by rw[DH,CA];kernel_rfl
theorem ag4:typeLookup (.type "enumerate") "__getattr__"=pure eI:=by rw[DH,CA];kernel_rfl
theorem a28:isSubtype (.type "AttributeError") (.type "AttributeError")=pure eJ:=by rw[EL];kernel_rfl
theorem zl:entryFor table "enumerate.__getattribute__"=eH Builtin.«object.__getattribute__» := Gn (id' := "object.__getattribute__") (by kernel_rfl) (by first|rfl|decide) (by decide) (by kernel_rfl)
set_option maxHeartbeats 16000000 in
theorem aff{os:OsState}(p:A.handled=eI)(o:h.get? a=eH {cls:=.type "enumerate",dict:=eI,data:=.fields xs,slots:=y})(r:∀h' e t',(∀b u,h.get? b=eH u->h'.get? b=eH u)->(∃c,h'.get? e=eH c/\c.cls=.type "AttributeError")->h.objs.size<=h'.objs.size->E (.ref e) #[h',g,d,t',os]):
 JD (JE prog w) A (Builtin.«object.__getattribute__» #[[.ref a,.str "keys" tk],[]]) Q E #[h,g,d,t,os]:=by
 let s:(#[h,g,d,t,os]:JG).TypeIs (.ref a) "enumerate" := #[_,o,eY]
 let z:=ad2
 repeat (any_goals (first|assumption|wp_step))
 let hm:(BJ (toString "'" ++ toString ((IC "enumerate").elim "enumerate" λx=>x.tpName)++toString "' object has no attribute '")++BJ "keys" ++ BJ "'").length<=JB:=by decide
 generalize (BJ (toString "'" ++ toString ((IC "enumerate").elim "enumerate" λx=>x.tpName)++toString "' object has no attribute '")++BJ "keys" ++ BJ "'")=m at hm |-;unfold raiseAttrError
 repeat (any_goals (first|assumption|wp_step))
 let v:isSubtype (.type "AttributeError") (.type "AttributeError")=pure eJ:=a28;dsimp only
 repeat (any_goals (first|assumption|wp_step))
 generalize hO:({cls:=Value.type "AttributeError",data:=_}:Obj)=c;generalize hT2:({cls:=Value.type "tuple",data:=Data.seq [Value.str m t].toArray}:Obj)=k;let i:c.cls=.type "AttributeError" := by rw[<- hO]
 let f:∃vs,c.data=.fields vs:=#[_,by rw[<- hO]]
 let(vs,j):=f;let q:((h.push k).push c).get? (h.push k).objs.size=eH c:=Ax _ (by rw[<- hO];rfl);refine Hk p (r _ _ _ (λb u n=>?_) #[_,BH _ q (Em (CZ j _)),(Fp ..).trans i] ?_);let l:=A1 (Aj k n);rw[Heap.get?_update_ne _ _ _ _ (AA l)];exact Aj _ (Aj _ n);rw[Heap.size_update,size_push',size_push'];lia
set_option maxHeartbeats 16000000 in
theorem attr{os:OsState}(n:A.handled=eI)(f:h.get? a=eH {cls:=.type "enumerate",dict:=eI,data:=.fields xs,slots:=x})(q:∀h' t',(∀b u,h.get? b=eH u->h'.get? b=eH u)->h.objs.size<=h'.objs.size->Q eI #[h',g,d,t',os]):JD (JE prog w) A (getAttr? (.ref a) "keys") Q E #[h,g,d,t,os]:=by
 let y:(#[h,g,d,t,os]:JG).TypeIs (.ref a) "enumerate" := #[_,f,eY]
 let j:(#[h,g,d,t+1,os]:JG).TypeIs (.ref a) "enumerate" := #[_,f,eY]
 let r:=F.slot_enumerate_getattribute.lookup;let v:=F.slot_enumerate_getattribute.bind (.ref a);let s:isSubtype (.type "AttributeError") (.type "AttributeError")=pure eJ:=a28;unfold getAttr? getAttrBy?
 repeat (any_goals (first|assumption|wp_step))
 refine GX F.slot_enumerate_getattribute.plain zl (F.slot_enumerate_getattribute.check _ _ _ _ _ _ _ _ j (F.args_enumerate_getattribute_2 _ _) (aff ?_ f λh' e t' k o m=>?_));exact n
 let(B,i,c):=o;let p:(#[h',g,d,t',os]:JG).TypeIs (.ref e) "AttributeError" := #[_,i,c]
 let z:=ag4;let l:=q h' t' k m;show JD (JE prog w) A (getattributeRaised (Value.ref a) (Value.str (BJ "keys") t) (Value.type "enumerate") (.ref e) eI eK eK) _ _ _
 repeat (any_goals (first|assumption|wp_step))
end Ke
namespace L2
open PyProof.Rows
abbrev IsE2(h:JP)(e it:JA)(i:eN)(old:JC)(T:JA)(f:fJ):Prop:=h.get? e=eH {cls:=.type "enumerate",dict:=eI,data:=.fields [Jc T,.bool f,.ref it,Jc i,.none,old].toArray,slots := [].toArray}
theorem a4c(g1:IsE2 u.heap e it i old T f)(b:u.heap.get? T=eH c)(a:∀g,IsE2 g e it i old T eJ->BF e u.heap g->Q eK {u with heap:=g}):JD (JE prog w) A (Bj (.ref e)) Q E u:=by
 unfold Bj;refine Ac (Bo g1 rfl (x:=Jc T) rfl ?_);show JD _ _ (loadIfAlive T>>=_) _ _ _;refine Ac (PySem.W.kdx_alive b ?_);rw[eP (by simp)];refine Ac (Bo g1 rfl (x:=.bool f) rfl ?_);cases f with
 |false =>
  rw[eQ (by decide)];refine Ac (Bf g1 (by simp) λm y d=>Al (a m y d))
 |true =>
  rw[eP (by decide)];exact Al (a u.heap g1 #[eY,λ_ _=>rfl])
theorem a4u{i:eO}(H:IsE2 u.heap e it i old T f)(W:u.heap.get? T=eH Y)(J:T≠e)(M:T≠it)(hit:u.heap.IsListIter it l i)(hl:u.heap.IsList l items)(U:items[i]?=eH x)(m:e≠it)(X:∀h',IsE2 h' e it ((i:eN)+1) old T eJ->h'.IsListIter it l (i+1)->h'.get? u.heap.objs.size=eH {cls:=.type "tuple",data:=.seq [.int i u.toks,x].toArray}->
 (∀b o,b≠e->b≠it->u.heap.get? b=eH o->h'.get? b=eH o)->Q (eH (.ref u.heap.objs.size)) {u with heap:=h',toks:=u.toks+1}):
 JD (JE prog w) A (JW (.ref e)) Q E u:=by
 let R:u.TypeIs (.ref e) "enumerate" := #[_,H,eY]
 unfold JW;refine Ac (CU (Bp (name:=BJ "__next__") R Dq
  (Bl Dq R Ge ?_ (FN _))))
 let(hp,g,d,tk,os):=u;show JD _ _ (field (.ref e) 2>>=_) _ _ _;refine Ac (Bo H rfl (x:=.ref it) rfl ?_);refine Ac (wpAny_nextOf_list_item hit hl U λs y a=>?_)
 replace a:BF it hp s:=a
 let q:IsE2 s e it i old T f:=(a.2 e m).trans H;show JD _ _ (field (.ref e) 3>>=_) _ _ #[s,g,d,tk,os];refine Ac (Bo q rfl (x:=Jc i) rfl ?_);show JD _ _ (field (.ref e) 4>>=_) _ _ #[s,g,d,tk,os];refine Ac (Bo q rfl (x:=.none) rfl ?_);show JD _ _ (mkInt i>>=_) _ _ #[s,g,d,tk,os];refine Ac (wpAny_mkInt ?_);show JD _ _ (setField (.ref e) 3 (Jc ((i:eN)+1))>>=_) _ _ #[s,g,d,tk+1,os];refine Ac (Bf q (by simp) λG t k=>?_)
 replace k:BF e s G:=k
 replace t:IsE2 G e it ((i:eN)+1) old T f:=t
 show JD _ _ (setField (.ref e) 4 .none>>=_) _ _ #[G,g,d,tk+1,os];refine Ac (Bf t (by simp) λv n h=>?_)
 replace h:BF e G v:=h
 replace n:IsE2 v e it ((i:eN)+1) old T f:=n
 show JD _ _ (newTuple [.int i tk,x]>>=_) _ _ #[v,g,d,tk+1,os];refine Ac (wpAny_newTuple (hsz:=show 2<=JB by decide) ?_);let D:IsE2 (v.push {cls:=.type "tuple",data:=.seq [.int i tk,x].toArray}) e it ((i:eN)+1) old T f:=Aj _ n;generalize hh₄:v.push {cls:=.type "tuple",data:=.seq [.int i tk,x].toArray}=C at D;let hsz:v.objs.size=hp.objs.size:=by rw[h.1,k.1,a.1]
 let O:e<hp.objs.size:=A1 H;let I:C.get? hp.objs.size=eH {cls:=.type "tuple",data:=.seq [.int i tk,x].toArray}:=by rw[<- hh₄,<- hsz];exact Ax _ rfl
 let z:∀b o,b≠e->b≠it->hp.get? b=eH o->C.get? b=eH o:=λb o j p L=>by
  rw[<- hh₄];exact Aj _ (h.extBut b o j (k.extBut b o j (a.extBut b o p L)))
 let B:C.IsListIter it l (i+1):=by
  rw[<- hh₄];let(o,S,r):=(y.extBut k.extBut (AF m)).extBut h.extBut (AF m);exact#[o,Aj _ S,r]
 show JD _ _ (Bj (.ref e)>>=_) _ _ #[C,g,d,tk+1,os];rw[hsz];refine Ac (a4c D (z _ _ J M W) λP N c=>?_)
 replace c:BF e C P:=c
 simp only[if_false,B4];refine Al #[_,eY,Al (X P N (B.extBut c.extBut (AF m)) (c.extBut _ _ (BP O) I) λb o j p L=>c.extBut b o j (z b o j p L))]
theorem a5l{i:eO}(h:A.handled=eI)(d:IsE2 u.heap e it i old T f)(hit:u.heap.IsListIter it l i)(hl:u.heap.IsList l items)(k:items[i]?=eI)(n:∀h',Ga it u.heap h'->Q eI {u with heap:=h'}):JD (JE prog w) A (JW (.ref e)) Q E u:=by
 let g:u.TypeIs (.ref e) "enumerate" := #[_,d,eY]
 unfold JW;refine Ac (CU (Bp (name:=BJ "__next__") g Dq
  (Bl Dq g Ge ?_ (FN _))))
 show JD _ _ (field (.ref e) 2>>=_) _ _ _;refine Ac (Bo d rfl (x:=.ref it) rfl ?_);refine Ac (wpAny_nextOf_list_end h hit hl k λh' x c a=>?_);let(o,j,m):=a;refine Ac (Dt (T := "StopIteration") (b:=eJ) #[o,j,m] ER ?_);exact Al (n _ c)
inductive ESt(h:JP)(n l p:JA):eO->Prop
 |z0 (old:JC)(g1:IsEnum h (n+1) n (0:eO) old)(t1:h.IsListIter n l 0):ESt h n l p 0
 |zs (i:eO)(T:JA)(f:fJ)(ot:Obj)(old:JC)(hT:p<T)(g1:IsE2 h (n+1) n ((i:eN)+1) old T f)(gT:h.get? T=eH ot)(t1:h.IsListIter n l (i+1)):ESt h n l p (i+1)
theorem ESt.keep(z:ESt h n l p i)(hn:n+1<p)(k:∀c o,c≠p->h.get? c=eH o->h'.get? c=eH o):ESt h' n l p i:=by
 let b:n+1≠p:=AA hn;let a:n≠p:=AA (AH (Cf n 1) hn);cases z with|z0 old g1 t1=>exact .z0 old (k _ _ b g1) (t1.at λo e=>k _ o a e)|zs i T f ot old hT g1 gT t1=>exact .zs i T f ot old hT (k _ _ b g1) (k _ _ (BP hT) gT) (t1.at λo e=>k _ o a e)
theorem ESt.item(I:Inv X a σ H s)(z:ESt s.heap n l p i)(L:∀b∈[n+1,n],FpOk X a H b)(G:H l=eH (.lst xs))(F:xs[i]?=eH x)(j:n+1<p)(hp:p<s.heap.objs.size)(D:∀v tk s1,RelV x v->s1.heap.get? s.heap.objs.size=eH {cls:=.type "tuple",data:=.seq [.int i tk,v].toArray}->Inv X a σ H s1->ESt s1.heap n l p (i+1)->R (eH (.ref s.heap.objs.size)) s1):JD (JE X.prog X.w) A (JW (.ref (n+1))) R E s:=by
 let(_,d,n1,r1,_,J):=I.lstM G;let C:s.heap.IsList l d.toArray:=#[_,J,eY,_,eY]
 let(u,B,y):=r1.get F;let h:n+1≠n:=Nat.succ_ne_self n;let kp:∀{h':JP} {t':eO},(∀b o,b≠n+1->b≠n->s.heap.get? b=eH o->h'.get? b=eH o)->Inv X a σ H {s with heap:=h',toks:=t'}:=λ{h' t'} c=>I.turnedL (ch:=[n+1,n]) (t':=t') (λb o q e=>by
  simp only[Ak,As,fH,not_or] at q;exact c b o q.1 q.2 e) L
 cases z with
 |z0 old g1 t1 =>
  refine wpAny_pyNext_enum_item g1 t1 C (x:=u) (by simpa using B) h λh' r t m M c=>?_;exact D u s.toks _ y m (kp c) (.zs 0 _ eK _ u hp r m t)
 |zs i T f ot old hT g1 gT t1 =>
  let g:T≠n+1:=BP (DR j hT);let k:T≠n:=BP (DR (DR (B7 n) j) hT);refine a4u (i:=i+1) g1 gT g k t1 C (x:=u) (by simpa using B) h λh' r t m c=>?_;exact D u s.toks _ y m (kp c) (.zs (i+1) T eJ ot old hT r (c _ _ g k gT) t)
theorem ESt.done(k:A.handled=eI)(I:Inv X a σ H s)(z:ESt s.heap n l p i)(t:∀b∈[n+1,n],FpOk X a H b)(r:H l=eH (.lst xs))(u:xs.length<=i)(h:∀s1,Inv X a σ H s1->R eI s1):JD (JE X.prog X.w) A (JW (.ref (n+1))) R E s:=by
 let(_,c,n1,r1,_,q):=I.lstM r;let j:s.heap.IsList l c.toArray:=#[_,q,eY,_,eY]
 let m:=r1.length;let hn:c.toArray[i]?=eI:=by rw[Dk,BO (by lia)]
 let kp:∀{h':JP},Ga n s.heap h'->Inv X a σ H {s with heap:=h'}:=λ{h'} d=>I.turnedL (ch:=[n+1,n]) (t':=s.toks) (λb o g e=>by
  simp only[Ak,As,fH,not_or] at g;exact d b o g.2 e) t
 cases z with|z0 old g1 t1=>exact wpAny_pyNext_enum_end k g1 t1 j hn λh' d=>h _ (kp d)|zs i T f ot old hT g1 gT t1=>exact a5l (i:=i+1) k g1 t1 j hn λh' d=>h _ (kp d)
def kvE:eO->eL V->eL (Key×V)
 |_,[]=>[]
 |k,x::xs=>(Sum.inl ((k:eO):eN),x)::kvE (k+1) xs
theorem a3x:∀(xs ys:eL V) (k:eO),kvE k (xs++ys)=kvE k xs++kvE (k+xs.length) ys
 |[],ys,k=>by simp[kvE]
 |x::xs,ys,k=>by
  rw[FE,kvE,kvE,a3x xs ys (k+1),Aw,FE]
  congr 3
  lia
theorem a3r:∀(xs:eL V) (k j:eO),valV (kvE k xs) (Sum.inl ((j:eO):eN))=if j<k then eI else xs[j-k]?
 |[],k,j=>by show(eI:eM V)=_;split<;>simp
 |x::xs,k,j=>by
  rw[kvE];by_cases c:k=j;subst c;rw[ij rfl,eP (Bb _),EB];rfl
  rw[ik (λe=>c (by let:=BS e;lia)),a3r xs (k+1) j];by_cases a:j<k;rw[eQ (by lia),eQ a];rw[eP (by lia),eP a,show j-k=(j-(k+1))+1 by lia,DZ]
theorem vq(xs:eL V)(j:eO):valV (kvE 0 xs) (Sum.inl ((j:eO):eN))=xs[j]?:=by
 rw[a3r,eP (FT _),E7]
theorem a39:∀(xs:eL V) (k:eO),(kvE k xs).length=xs.length
 |[],_=>rfl
 |x::xs,k=>by rw[kvE,Aw,Aw,a39 xs (k+1)]
theorem ad0{xs:eL V}(a:xs[i]?=eH x):putK (kvE 0 (xs.take i)) (Sum.inl ((i:eO):eN)) x=kvE 0 (xs.take (i+1)):=by
 let b:=(An.mp a).1;let hl:(xs.take i).length=i:=by rw[AL];lia
 rw[AJ,a,a3x,l6,hl,FH];rfl;rw[vq,BO (by lia)]
def HdE(H:Hp)(p:JA)(xs:eL V)(i:eO):Hp:=upd H p (.dK (kvE 0 (xs.take i)))
theorem a80(hn:n+1<p)(a:b∈[n+1,n]):b≠p:=by
 simp only[Ak,As,fH] at a;rcases a with rfl|rfl;exact AA hn;exact AA (AH (Cf _ 1) hn)
theorem a4g(O:A.handled=eI)(hp:H p=eI)(G:H l=eH (.lst xs))(hz:xs.length<=1000)(g:n+1<p):
 ∀(k i:eO) (s:JG),xs.length-i=k->i<=xs.length->Inv X a σ (HdE H p xs i) s->ESt s.heap n l p i->(∀b∈[n+1,n],FpOk X a (HdE H p xs i) b)->
   (∀s',Inv X a σ (HdE H p xs xs.length) s'->R (.ok (.ret .none)) s')->Ja (JE X.prog X.w) A (.builtin "dict.update.loop" #[[.ref p,.ref (n+1),.int i 0,.none],[]]) R s:=by
 let d:∀i,Same H (HdE H p xs i):=λi=>fi hp _;intro k;induction k with
 |zero =>
  intro i s P hi I z u q;let e:i=xs.length:=by lia
  refine Cm Ka.entry_loop ?_;rw[BW Ka.plain_loop _];show JD _ A.in1 (JW (.ref (n+1))>>=_) _ _ s;refine Ac (ESt.done (A:=A.in1) O I z u (d i _ _ G) (by lia) λs1 t=>?_);refine Ac (Al (Al (q _ ?_)));rw[<- e];exact t
 |succ k ih =>
  intro i s P hi I z u q;let j:i<xs.length:=by lia
  obtain⟨x,F⟩:∃x,xs[i]?=eH x:=#[_,Ag j]
  let f:(HdE H p xs i) p=eH (.dK (kvE 0 (xs.take i))):=fb;refine Cm Ka.entry_loop ?_;rw[BW Ka.plain_loop _];show JD _ A.in1 (JW (.ref (n+1))>>=_) _ _ s;let(_,Q,_,_,y):=nt I.hok f;let D:p<s.heap.objs.size:=let ⟨o,_,_,ho,_⟩:=y;A1 ho;refine Ac (z.item I u (d i _ _ G) F g D λU tk s1 r2 m t M=>?_);dsimp only;refine Ac (BI ?_);refine Ac (wpAny_tryCatch ?_);unfold Builtin.Dict.pairItems;refine Ac (E2 (T := "tuple") #[_,m,eY] ?_);rw[eQ (by decide)];refine Ac (BY m rfl (Al ?_));refine BI ?_;let(z0,hd,vs,rel,dd):=nt t.hok f;let v:vs.length<=JB:=by rw[<- rel.length];exact z0
  refine wpAny_dictSet_pairs (s:=s1) (hsz:=v) (nq (k:=Sum.inl ((i:eO):eN)) #[tk,eY]) dd λh2 r h=>?_;let B:Mut ((HdE H p xs i) p):=by rw[f];exact True.intro
  let S:∃q,h2.get? p=eH q:=let ⟨q,_,_,hq,_⟩:=r;#[q,hq];let C:(putK (kvE 0 (xs.take i)) (Sum.inl ((i:eO):eN)) x).length<=JB:=by
   let:=jd (kvE 0 (xs.take i)) (Sum.inl ((i:eO):eN)) x;rw[a39,AL] at this;exact B6 (kj (by lia))
  let L:Inv X a σ (HdE H p xs (i+1)) {s1 with heap:=h2,toks:=s1.toks+1}:=by
   let:=mw (t':=s1.toks+1) (ob:=.dK (putK (kvE 0 (xs.take i)) (Sum.inl ((i:eO):eN)) x)) t B h S (ou C hd (rel.put (Sum.inl ((i:eO):eN)) r2) r);rw[ad0 F] at this;let e:upd (HdE H p xs i) p (.dK (kvE 0 (xs.take (i+1))))=HdE H p xs (i+1):=by
    funext b;unfold HdE
    by_cases c:b=p;rw[c,fb,fb];rw[fg c,fg c,fg c]
   rw[e] at this;exact this
  refine Al #[CT Ka.plain_loop _,ih (i+1) _ (by lia) j L (M.keep g λc o N e=>(h.2 c N).trans e) (λb J=>?_) q];let E:=u b J;refine#[?_,E.2];let:=E.1;unfold HdE at this |-;rw[fg (a80 g J)] at this |-;exact this
inductive rDictE(vs:eL V)(H:Hp)(Q:VK):Prop
 |mk (l:JA)(xs:eL V)(h0:vs=[.ref l])(h1:H l=eH (.lst xs))(hz:xs.length<=1000)(q:∀p,H p=eI->Q (.ref p) (upd H p (.dK (kvE 0 xs)))):rDictE vs H Q
def a85(ta:TA):TE:=fun σ H Q=>ta σ H λvs H1=>rDictE vs H1 Q
theorem a9z(J:X.calm=eJ)(z:Gl X "dict")(B:X.mg "dict"=eI)(U:Gl X "enumerate")(hm:X.mg "enumerate"=eI)(ha:PA X [a] R)(Y:JF [a] X.env=[(eK,eval a X.env)])(u:JF [.Call (.Name "enumerate" p) [a] [] pos] X.env=[(eK,eval (.Call (.Name "enumerate" p) [a] [] pos) X.env)]):
 PE X (.Call (.Name "dict" pd) [.Call (.Name "enumerate" p) [a] [] pos] [] N) (a85 R):=by
 intro d s σ H Q I h;refine Call_ (oh I z B boot_dict (BZ ?_ (by rw[u];rfl) rfl));rw[u];show JD _ _ (spliced ((eK,eval (.Call (.Name "enumerate" p) [a] [] pos) X.env)::[])) _ _ s;refine BQ ?_;refine Call_ (oh I U hm boot_enumerate (BZ (thn (ha pos d s σ H _ I h) λus s1 #[vs,i,y,r1,x]=>?_) (by rw[Y];rfl) rfl));let(l,xs,e,x,G,q):=x;subst e;cases r1 with
 |cons r rr =>
  cases rr;cases r;let(_,v,n1,v1,_,Z):=y.lstM x;refine call_enumerate_list (items:=v.toArray) #[_,Z,eY,_,eY] λhz g1 P g3 kp=>?_;refine CG ?_;let D:Inv X d σ i {s1 with heap:=hz}:=y.kept (t':=s1.toks) λb o e=>kp b o e;let k:∀b∈[s1.heap.objs.size+1,s1.heap.objs.size],FpOk X d i b:=λb w=>by
   let m:s1.heap.objs.size<=b:=by
    simp only[Ak,As,fH] at w;rcases w with rfl|rfl;exact Cf _ 1;exact Ao _
   exact y.fpOk (H':=i) m (y.hok.fresh m)
  let f:s1.heap.objs.size+1<hz.objs.size:=A1 g1;let M:∀p,ESt hz s1.heap.objs.size l p 0:=λp=>.z0 _ g1 P;generalize s1.heap.objs.size=n at g1 k f M |-;refine callType_codes (Q₁:=λobj O=>obj=.ref hz.objs.size/\O={s1 with heap:=hz.push {cls:=.type "dict",data:=.dict [].toArray}}) F.kt_called_dict (F.kt_typeCall_dict_1 _) F.entry_dict_init (kt_code_dict_new _ #[rfl,rfl]) ?_;rintro obj O ⟨rfl,rfl⟩;let fr:i hz.objs.size=eI:=D.hok.fresh (Ao _);let C:Inv X d σ (upd i hz.objs.size (.dK [])) {s1 with heap:=hz.push {cls:=.type "dict",data:=.dict [].toArray}}:=D.laid (t':=s1.toks) (λb o e=>Aj _ e) (Ao _) (uy _ D.big);let g:(hz.push {cls:=.type "dict",data:=.dict [].toArray}).get? hz.objs.size=eH {cls:=.type "dict",data:=.dict [].toArray}:=Ax _ rfl;let j:=Aj {cls:=.type "dict",data:=.dict [].toArray} g1;exists #[_,g,eY],F.args_dict_init_2 _ _;unfold Builtin.«dict.__init__»;refine Ac ?_;unfold Builtin.Dict.selfAndRest;refine Ac (Gu #[_,g,eY] ?_);show JD _ _ (pure (hz.objs.size,[Value.ref (n+1)])) _ _ _;refine Al ?_;show JD _ _ (FO "dict.__init__" hz.objs.size (.ref (n+1)) [] .none) _ _ _;unfold FO;refine Ac (E2 (T := "enumerate") #[_,j,eY] ?_);rw[eQ (by decide)];refine Ac (Ke.attr (A:=X.A.in1.in1) (show X.A.in1.in1.handled=eI from C.ok.hd J) j λh2 E k2 z2=>?_);rw[eQ (show(eI:eM JC).isNone=eJ from rfl)];refine Ac (CV ?_);let Z2:ESt h2 n l hz.objs.size 0:=(M hz.objs.size).keep f λc o _ e=>k2 _ _ (Aj _ e);let S:Inv X d σ (upd i hz.objs.size (.dK [])) {s1 with heap:=h2,toks:=E}:=C.kept (t':=E) λb o e=>k2 b o e;let t:=k2 _ _ j;refine Ac (wpAny_pyIter_enum (s:={s1 with heap:=h2,toks:=E}) t ?_);refine Al #[CT Ka.plain_loop _,a4g (n:=n) (show X.A.in1.handled=eI from C.ok.hd J) fr x G f xs.length 0 _ rfl (AC _) S Z2 (λb w=>?_) λs' W=>?_]
  . let L:=k b w;refine#[?_,L.2];show(upd i hz.objs.size (.dK [])) b=eI;rw[fg (a80 f w)];exact L.1
  exists rfl,.ref hz.objs.size,_,W,rfl;let:=q hz.objs.size fr;unfold HdE;rw[AN];exact this
theorem aa2(i:X.calm=eJ)(c:Gl X "dict")(d:X.mg "dict"=eI)(f:Gl X "enumerate")(hm:X.mg "enumerate"=eI)(j:QA X [a] g)(h:autoParam (JF [a] X.env=[(eK,eval a X.env)]) a4_)(b:autoParam (JF [.Call (.Name "enumerate" p) [a] [] pos] X.env=[(eK,eval (.Call (.Name "enumerate" p) [a] [] pos) X.env)]) a4_):
 QE X (.Call (.Name "dict" pd) [.Call (.Name "enumerate" p) [a] [] pos] [] e) (a85 g):=#[a9z i c d f hm j.run h b]
theorem a5n(h:Q 0xFCA86420 {s with toks:=s.toks+1}):JD (JE prog w) A (pyHash .none) Q E s:=by
 let a:s.TypeIs .none "NoneType" := rfl;unfold pyHash;let hv:[Value.none].any Value.onHeap=eK:=rfl;refine Ac ?_;rw[cRoomFor,eP (by rw[hv];exact Az)];refine Al ?_;refine Ac (E5 a Dw.lookup ?_);show JD _ _ (if(eH (Value.builtin "NoneType.__hash__")==eH Value.none)=eJ then _ else _) Q E s;rw[eP (by rw[beq_builtin_none];exact Az)];refine Ac (E5 a Dw.lookup ?_);show JD _ _ (callSpecialIfBoundUnlessNone? .none "__hash__" _>>=_) Q E s;refine Ac (wpAny_callSpecialIfBoundUnlessNone?_slot a Dw
  (Bl Dw a F.entry_NoneType_hash
   (show JD _ _ (do ret (<- mkInt 0xFCA86420)) _ _ s from wpAny_ret_mkInt ?_) (F.args_NoneType_hash_1 _)))
 show JD _ _ (if(decide (-(2:eN) ^ 63<=0xFCA86420) && decide ((0xFCA86420:eN)<2 ^ 63))=eJ then _ else _) Q E _;rw[eQ (by decide)];exact Al h
def zp(P:JQ)(w:JV):eM Key->JC->fJ
 |none,.none=>eJ
 |none,_=>eK
 |some k,v=>(gu P w).is k v
theorem nz(h:(gu P w).is k v=eJ):(∃i t,k=Sum.inl i/\v=.int i t)\/∃x t,k=Sum.inr x/\v=.str x t:=by
 rw[a47] at h;cases k with|inl i=>let(t,e):=HB h;exact .inl #[i,t,eY,e]|inr x=>let(t,e):=EG h;exact .inr #[x,t,eY,e]
theorem lq(h:zp P w eI v=eJ):v=.none:=by
 cases v<;>first|rfl|exact eR h (by unfold zp;exact Az)
def a2g(prog:JQ)(w:JV):IF prog w (eM Key) where
 is:=zp prog w
 hash:=λk=>match k with|none=>0xFCA86420|some k=>(gu prog w).hash k
 inj:=λv a b ha hb=>by
  cases a with
  |none =>
   let:=lq ha;subst this;cases b with
   |none=>rfl
   |some b=>rcases nz (show(gu prog w).is b .none=eJ from hb) with⟨_,_,_,z⟩|⟨_,_,_,z⟩<;>cases z
  |some a =>
   cases b with
   |none =>
    let:=lq hb;subst this;rcases nz (show(gu prog w).is a .none=eJ from ha) with⟨_,_,_,z⟩|⟨_,_,_,z⟩<;>cases z
   |some b=>exact fE eH ((gu prog w).inj v a b ha hb)
 byValue:=λk v h=>by
  cases k with|none=>rw[lq h];rfl|some k=>exact(gu prog w).byValue k v h
 pyHash:=λ{A E s k v Q} h q=>by
  cases k with|none=>rw[lq h];exact a5n q|some k=>exact(gu prog w).pyHash h q
 eqBool:=λ{A E s a b u v Q} ha hb q=>by
  cases a with
  |none =>
   rw[lq ha];cases b with
   |none=>rw[lq hb];exact Ik _ _ _ _ _ q
   |some b =>
    rcases nz (show(gu prog w).is b v=eJ from hb) with⟨i,t,rfl,rfl⟩|⟨x,t,rfl,rfl⟩
    . exact He _ _ _ _ _ _ q
    exact Hf _ _ _ _ _ _ q
  |some a =>
   cases b with
   |none =>
    rw[lq hb];rcases nz (show(gu prog w).is a u=eJ from ha) with⟨i,t,rfl,rfl⟩|⟨x,t,rfl,rfl⟩
    . exact Hg _ _ _ _ _ _ q
    exact Hh _ _ _ _ _ _ q
   |some b =>
    refine(gu prog w).eqBool ha hb ?_;let e:decide (eH a=eH b)=decide (a=b):=by simp
    rw[<- e];exact q
 «strs» := λk x t v h=>by
  cases k with|none=>cases h|some k=>exact(gu prog w).«strs» k x t v h
theorem acl{h:JP}(m:h.MapOf (gu P w) a f):h.MapOf (a2g P w) a (λk=>match k with|none=>eI|some k=>f k):=by
 let(o,es,ep,h1,h2,h3,c,d):=m;refine#[o,es,ep,h1,h2,h3,λe b=>?_,λk=>?_];let(k,k1,k2):=c e b;exact#[eH k,k1,k2]
 cases k with
 |some k=>exact d k
 |none =>
  show findBy (zp P w) es eI=eI;unfold findBy;rw[<- Hs,Ci.mpr];rfl;intro e b z;let(k,k1,_):=c e (by simpa using b);let:=lq z;rw[this] at k1;rcases nz k1 with⟨_,_,_,y⟩|⟨_,_,_,y⟩<;>cases y
theorem aen(g:X.A.units+1<cLine):OpR X (JM .NotIn) (λx y H Q=>∃(d:JA) (kvs:eL (Key×V)),y=.ref d/\H d=eH (.dK kvs)/\((x=.non/\Q (.bl eJ) H)\/∃j:eN,x=.int j/\Q (.bl (!(valV kvs (Sum.inl j)).isSome)) H)):=by
 intro a s σ H x y v u Q I b f h;let(d,kvs,rfl,hd,h):=h;cases f;rcases h with⟨rfl,q⟩|⟨j,rfl,q⟩
 . cases b;let(z,c,vs,rel,dd):=nt I.hok hd;exact wpAny_notIn_of (knd:=a2g X.prog X.w) (k:=eI) rfl c (acl dd.mapOf) #[.bl eJ,H,I.tok _,eY,q]
 exact a37 g I (DGet.k (k:=Sum.inl j) hd) b λs' e=>#[.bl _,H,e,eY,q]
end L2
namespace Fol
open L2 Kn
abbrev Mem:=eN->eM (eN×eN)
inductive Seg(m:Mem)(e:eN):eN->eL eN->Prop
 |nil:Seg m e e []
 |cons{x f s:eN}{row:eL eN}(h1:x≠e)(h2:m x=eH (f,s))(h3:¬ x∈row)(h4:Seg m e s row):Seg m e x (x::row)
inductive Tr(m:Mem):eN->eL eN->Prop
 |nil:Tr m 0 []
 |node{x f s:eN}{r1 r2:eL eN}(h1:x≠0)(h2:m x=eH (f,s))(t1:Tr m f r1)(t2:Tr m s r2)(n1:¬ x∈r1)(n2:¬ x∈r2)(n3:∀y∈r1,¬ y∈r2):Tr m x (x::(r1++r2))
inductive Tk(v:eZ->eN)(m:Mem):eU->eL eN->Prop
 |cell{a f s:eZ}{x y:eN}(h:m (v a)=eH (x,y))(hf:f="any" \/ v f=x)(hs:s="any" \/ v s=y):Tk v m [("cell":eZ),a,f,s] [v a]
 |str{a e:eZ}{row:eL eN}(h:Seg m (v e) (v a) row):Tk v m [("stretch":eZ),a,e] row
 |tree{a:eZ}{row:eL eN}(h:Tr m (v a) row):Tk v m [("tree":eZ),a] row
structure Fits(v:eZ->eN)(m:Mem)(F P:eS)(D:eO->eL eN):Prop where
 is_:∀a b,[("is":eZ),a,b]∈F->v a=v b
 not_:∀a b,[("not":eZ),a,b]∈F->v a≠v b
 tk:∀(j:eO) r,P[j]?=eH r->Tk v m r (D j)
 apart:∀(i j:eO) r s,P[i]?=eH r->P[j]?=eH s->i≠j->∀x∈D i,¬ x∈D j
 whole:∀x c,m x=eH c->∃(j:eO) (r:eU),P[j]?=eH r/\x∈D j
theorem Seg.dom(h:Seg m e x row):∀y∈row,∃c,m y=eH c:=by
 induction h with
 |nil=>intro y a;cases a
 |cons h1 h2 h3 _ ih =>
  intro y a;rcases Ak.mp a with rfl|z;exact#[_,h2];exact ih y z
theorem Tr.dom(h:Tr m x row):∀y∈row,∃c,m y=eH c:=by
 induction h with
 |nil=>intro y a;cases a
 |node h1 h2 _ _ _ _ _ i1 i2 =>
  intro y a;rcases Ak.mp a with rfl|z;exact#[_,h2]
  rcases Ab.mp z with z|z;exact i1 y z;exact i2 y z
theorem Tk.dom(h:Tk v m r row):∀y∈row,∃c,m y=eH c:=by
 cases h with|cell h _ _=>intro y a;rw[Ae.mp a];exact#[_,h]|str h=>exact h.dom|tree h=>exact h.dom
theorem Seg.nodup(h:Seg m e x row):row.Nodup:=by
 induction h with|nil=>exact AV|cons _ _ h3 _ ih=>exact AI.mpr #[h3,ih]
theorem Tr.nodup(h:Tr m x row):row.Nodup:=by
 induction h with
 |nil=>exact AV
 |node _ _ _ _ n1 n2 n3 i1 i2 =>
  refine AI.mpr #[λz=>(Ab.mp z).elim n1 n2,AE.mpr #[i1,i2,λa d b c e=>n3 a d (e ▸ c)]]
theorem Tk.nodup(h:Tk v m r row):row.Nodup:=by
 cases h with|cell=>exact AI.mpr #[As,AV]|str h=>exact h.nodup|tree h=>exact h.nodup
theorem Seg.head(h:Seg m e x row)(n:x≠e):x∈row:=by
 cases h with|nil=>exact eR rfl n|cons=>exact Af ..
theorem Tr.head(h:Tr m x row)(n:x≠0):x∈row:=by
 cases h with|nil=>exact eR rfl n|node=>exact Af ..
theorem Tk.head(f:v "nil"=0)(h:Tk v m r row)(d:FullR (λa b=>v a≠v b) r):v (place r)∈row:=by
 cases h with
 |cell=>exact Af ..
 | @str a e _ h =>
  refine h.head ?_;rcases d with z|z;exact eR z (by show ¬ ("stretch":eZ)="cell";decide)
  let c:v a≠v (end2 [("stretch":eZ),a,e]):=z
  rwa [show end2 [("stretch":eZ),a,e]=e from by unfold end2;rw[eQ (show[("stretch":eZ),a,e].getD 0 ""="stretch" from rfl)];rfl] at c
 | @tree a _ h =>
  refine h.head ?_;rcases d with z|z;exact eR z (by show ¬ ("tree":eZ)="cell";decide)
  let c:v a≠v (end2 [("tree":eZ),a]):=z
  rwa [show end2 [("tree":eZ),a]="nil" from by unfold end2;rw[eP (by show ¬ ("tree":eZ)="stretch";decide)],f] at c
theorem Seg.app(h:Seg m q x row)(hn:∀y∈row,y≠e)(hd:∀y∈row,¬ y∈r2)(h2:Seg m e q r2):Seg m e x (row++r2):=by
 induction h with
 |nil=>exact h2
 |cons a b c _ ih =>
  refine .cons (hn _ (Af ..)) b (λz=>?_) (ih (λy d=>hn y (Ah _ d)) (λy d=>hd y (Ah _ d)) );rcases Ab.mp z with z|z;exact c z;exact hd _ (Af ..) z
theorem Fits.conn(h:Fits v m F P D)(c:Conn F a b):v a=v b:=by
 induction c with|refl=>rfl|fact z=>exact h.is_ _ _ z|symm _ ih=>exact ih.symm|trans _ _ i1 i2=>exact i1.trans i2
theorem Fits.clo(h:Fits v m F P D)(e:v "nil"=0)(hm:m 0=eI):Clo F P (λa b=>v a≠v b) where
 fact:=λa b z=>h.not_ a b z
 symm:=λ_ _ z=>z.symm
 conn:=λa b c h1 h2=>by rw[h.conn h1];exact h2
 nil:=λp hp k=>by
  let(j,d):=BB hp;let:=(h.tk j p d).head e k;let(c,f):=(h.tk j p d).dom _ this;intro z;rw[z,e,hm] at f;cases f
 two:=λi j p q hi d hn l g z=>by
  let h1:=(h.tk i p hi).head e l;let h2:=(h.tk j q d).head e g;rw[z] at h1;exact h.apart i j p q hi d hn _ h1 h2
theorem Fits.un(h:Fits v m F P D)(c:v "nil"=0)(hm:m 0=eI)(u:Un F P a b):v a≠v b:=u _ (h.clo c hm)
structure Env where
 P:eS
 al:eZ->eZ->Prop
 at_:eZ->eO->Prop
 full:eO->Prop
inductive Lies(E:Env)(e:eZ):eT->Prop
 |nil (h:E.al e "nil"):Lies E e []
 |full{i:eO}(h:¬ E.al e "nil")(h1:E.at_ e i)(h2:E.full i):Lies E e []
 |ask{i:eO}{r:eU}(h:¬ E.al e "nil")(h1:E.at_ e i)(h2:¬ E.full i)(h3:E.P[i]?=eH r):Lies E e [(place r,end2 r)]
inductive Pass(E:Env)(j:eO)(e:eZ):eZ->eT->Prop
 |cell{p f s:eZ}(h:E.P[j]?=eH [("cell":eZ),p,f,s])(h1:¬ s="any"):Pass E j e s [(p,e)]
 |own{p q:eZ}(h:E.P[j]?=eH [("stretch":eZ),p,q])(h1:E.al q e):Pass E j e q []
 |on{p q:eZ}{lo:eT}(h:E.P[j]?=eH [("stretch":eZ),p,q])(h1:¬ E.al q e)(h2:Lies E e lo):Pass E j e q ((p,e)::lo)
inductive StrR(E:Env)(e:eZ):eL eO->eZ->eL eO->eT->Prop
 |nil{tk:eL eO}{a:eZ}(h:E.al a e):StrR E e tk a [] []
 |cons{tk:eL eO}{a a':eZ}{j:eO}{js:eL eO}{q1 q2:eT}(h:¬ E.al a e)(h1:E.at_ a j)(h2:¬ j∈tk)(h3:Pass E j e a' q1)(h4:StrR E e (tk++[j]) a' js q2):StrR E e tk a (j::js) (q1++q2)
inductive TreeR(E:Env):eL eO->eU->eL eO->Prop
 |done{tk:eL eO}:TreeR E tk [] []
 |nil{tk:eL eO}{cs:eU}{x:eZ}{js:eL eO}(h:E.al x "nil")(h1:TreeR E tk cs js):TreeR E tk (cs++[x]) js
 |tree{tk:eL eO}{cs:eU}{x p:eZ}{j:eO}{js:eL eO}(h:¬ E.al x "nil")(h1:E.at_ x j)(h2:¬ j∈tk)(h3:E.P[j]?=eH [("tree":eZ),p])(h4:TreeR E (tk++[j]) cs js):TreeR E tk (cs++[x]) (j::js)
 |cell{tk:eL eO}{cs:eU}{x p f s:eZ}{j:eO}{js:eL eO}(h:¬ E.al x "nil")(h1:E.at_ x j)(h2:¬ j∈tk)(h3:E.P[j]?=eH [("cell":eZ),p,f,s])(h5:¬ f="any")(h6:¬ s="any")(h4:TreeR E (tk++[j]) (cs++[s,f]) js):TreeR E tk (cs++[x]) (j::js)
def Gives(E:Env)(f a:eZ):Prop:=a="any" \/ (¬ f="any" /\ E.al f a)
inductive RowR(E:Env)(tk:eL eO):eU->eL eO->eT->Prop
 |cell{a f s p f' s':eZ}{j:eO}(h1:E.at_ a j)(h2:¬ j∈tk)(h3:E.P[j]?=eH [("cell":eZ),p,f',s'])(h4:Gives E f' f)(h5:Gives E s' s):RowR E tk [("cell":eZ),a,f,s] [j] []
 |str{a e:eZ}{js:eL eO}{q:eT}(h:StrR E e tk a js q):RowR E tk [("stretch":eZ),a,e] js q
 |tree{a:eZ}{js:eL eO}(h:TreeR E tk [a] js):RowR E tk [("tree":eZ),a] js []
inductive RowsR(E:Env):eL eO->eS->eL (eL eO)->eT->Prop
 |nil{tk:eL eO}:RowsR E tk [] [] []
 |cons{tk js:eL eO}{r:eU}{rs:eS}{jss:eL (eL eO)}{q1 q2:eT}(h:RowR E tk r js q1)(h2:RowsR E (tk++js) rs jss q2):RowsR E tk (r::rs) (js::jss) (q1++q2)
structure Sem(v:eZ->eN)(m:Mem)(E:Env)(D:eO->eL eN):Prop where
 nil:v "nil"=0
 zero:m 0=eI
 al:∀a b,E.al a b->v a=v b
 tk:∀(j:eO) r,E.P[j]?=eH r->Tk v m r (D j)
 apart:∀(i j:eO) r s,E.P[i]?=eH r->E.P[j]?=eH s->i≠j->∀x∈D i,¬ x∈D j
 at_:∀x j,E.at_ x j->∃r,E.P[j]?=eH r/\v (place r)=v x
 full:∀j r,E.full j->E.P[j]?=eH r->v (place r)∈D j
 ask:∀j r,E.P[j]?=eH r->v (place r)≠v (end2 r)->v (place r)∈D j
def jl(D:eO->eL eN)(js:eL eO):eL eN:=(js.map D).flatten
section
theorem oj(j:eO)(a:eL eO):jl D (j::a)=D j++jl D a:=rfl
theorem cellsOf_mem:x∈jl D c↔∃j∈c,x∈D j:=by
 unfold jl;rw[Bt];constructor;rintro⟨l,hl,b⟩;let(j,a,rfl):=Au.mp hl;exact#[j,a,b];rintro⟨j,a,b⟩;exact#[_,Au.mpr #[j,a,eY],b]
theorem Sem.off(S:Sem v m E D)(d:E.P[j]?=eH r)(hn:¬ j∈c)(a:∀i∈c,∃s,E.P[i]?=eH s):∀x∈D j,¬ x∈jl D c:=λx g z=>by
 let(i,hi,b):=cellsOf_mem.mp z;let(s,f):=a i hi;exact S.apart j i r s d f (λe=>hn (e ▸ hi)) x g b
theorem StrR.new(h:StrR E e tk a b q):∀i∈b,¬ i∈tk:=by
 induction h with
 |nil=>intro i hi;cases hi
 |cons _ _ h2 _ _ ih =>
  intro i hi z;rcases Ak.mp hi with rfl|hi;exact h2 z;exact ih i hi (Ab.mpr (.inl z))
theorem Pass.part(h:Pass E j e a q):∃r,E.P[j]?=eH r:=by cases h<;>exact#[_,by assumption]
theorem StrR.parts(h:StrR E e tk a b q):∀i∈b,∃r,E.P[i]?=eH r:=by
 induction h with
 |nil=>intro i hi;cases hi
 |cons _ _ _ h3 _ ih =>
  intro i hi;rcases Ak.mp hi with rfl|hi;exact h3.part;exact ih i hi
theorem end2_str(a e:eZ):end2 [("stretch":eZ),a,e]=e:=by unfold end2;rw[eQ (show[("stretch":eZ),a,e].getD 0 ""="stretch" from rfl)];rfl
theorem Lies.out(S:Sem v m E D){lo:eT}(h:Lies E e lo)(g:∀p∈lo,v p.1≠v p.2)(b:E.P[j]?=eH r)(hp:v (place r)≠v e):∀y∈D j,y≠v e:=λy d z=>by
 cases h with
 |nil h =>
  let(c,f):=(S.tk j r b).dom y d;rw[z,S.al _ _ h,S.nil,S.zero] at f;cases f
 | @full i h h1 h2 =>
  let(s,a,hv):=S.at_ _ _ h1;let hm:=S.full i s h2 a;by_cases c:j=i;subst c;rw[b] at a;cases a;exact hp hv;exact S.apart j i r s b a c y d (by rw[z,<- hv];exact hm)
 | @ask i s' h h1 h2 h3 =>
  let(s,a,hv):=S.at_ _ _ h1;rw[h3] at a;cases a;let hm:=S.ask i s' h3 (g _ (Af ..));by_cases c:j=i;subst c;rw[b] at h3;cases h3;exact hp hv;exact S.apart j i r s' b h3 c y d (by rw[z,<- hv];exact hm)
theorem StrR.seg(S:Sem v m E D)(h:StrR E e tk a l q)(n:∀p∈q,v p.1≠v p.2):Seg m (v e) (v a) (jl D l):=by
 induction h with
 |nil h=>rw[S.al _ _ h];exact .nil
 | @cons tk a a' j l q1 q2 h h1 h2 h3 h4 ih =>
  let d:=ih λp hp=>n p (Ab.mpr (.inr hp));let b:∀p∈q1,v p.1≠v p.2:=λp hp=>n p (Ab.mpr (.inl hp));let(r,c,hv):=S.at_ _ _ h1;let hn:¬ j∈l:=λz=>h4.new j z (Ab.mpr (.inr (Ae.mpr rfl)));let off:=S.off c hn h4.parts;rw[oj,<- hv];let T:=S.tk j r c;cases h3 with
  | @cell p f s h3 h5 =>
   rw[c] at h3;cases h3;generalize hD:D j=i at T off;cases T with
   | @cell _ _ _ x y g1 g2 g3 =>
    let o:v a'=y:=g3.resolve_left h5;exact .cons (b _ (Af ..)) g1 (off _ (Af ..)) (by rw[<- o];exact d)
  | @own p q' h3 h5 =>
   rw[c] at h3;cases h3;generalize hD:D j=i at T off;cases T with
   |str g =>
    let t:=S.al _ _ h5;cases h4 with
    |nil _ =>
     let:Seg m (v e) (v p) i:=t ▸ g;show Seg m (v e) (v p) (i++[]);rw[A0];exact this
    |cons hh _ _ _ _=>exact eR h5 hh
  | @on p q' lo h3 h5 h6 =>
   rw[c] at h3;cases h3;let k:v p≠v e:=b _ (Af ..);let out:=h6.out S (λp hp=>b p (Ah _ hp)) c k;generalize hD:D j=i at T off out;cases T with|str g=>exact g.app out off d
inductive Forest(m:Mem):eL eN->eL eN->Prop
 |nil:Forest m [] []
 |cons{x:eN}{xs r1 r2:eL eN}(h:Tr m x r1)(h2:Forest m xs r2)(h3:∀y∈r1,¬ y∈r2):Forest m (x::xs) (r1++r2)
theorem TreeR.new(h:TreeR E tk cs a):∀i∈a,¬ i∈tk:=by
 induction h with
 |done=>intro i hi;cases hi
 |nil _ _ ih=>exact ih
 |tree _ _ h2 _ _ ih =>
  intro i hi z;rcases Ak.mp hi with rfl|hi;exact h2 z;exact ih i hi (Ab.mpr (.inl z))
 |cell _ _ h2 _ _ _ _ ih =>
  intro i hi z;rcases Ak.mp hi with rfl|hi;exact h2 z;exact ih i hi (Ab.mpr (.inl z))
theorem TreeR.parts(h:TreeR E tk cs a):∀i∈a,∃r,E.P[i]?=eH r:=by
 induction h with
 |done=>intro i hi;cases hi
 |nil _ _ ih=>exact ih
 |tree _ _ _ h3 _ ih =>
  intro i hi;rcases Ak.mp hi with rfl|hi;exact#[_,h3];exact ih i hi
 |cell _ _ _ h3 _ _ _ ih =>
  intro i hi;rcases Ak.mp hi with rfl|hi;exact#[_,h3];exact ih i hi
theorem jv(h:Forest m (x::xs) R):∃r1 r2,R=r1++r2/\Tr m x r1/\Forest m xs r2/\∀y∈r1,¬ y∈r2:=by
 cases h with|cons h h2 h3=>exact#[_,_,eY,h,h2,h3]
theorem TreeR.forest(S:Sem v m E D)(h:TreeR E tk cs c):Forest m (cs.reverse.map v) (jl D c):=by
 induction h with
 |done=>exact .nil
 |nil h _ ih =>
  rw[DE,Eh,CB,A8,S.al _ _ h,S.nil];exact .cons .nil ih (λy b=>by cases b)
 | @tree tk cs x p j c h h1 h2 h3 h4 ih =>
  let(r,d,hv):=S.at_ _ _ h1;rw[h3] at d;cases d;let hn:¬ j∈c:=λz=>h4.new j z (Ab.mpr (.inr (Ae.mpr rfl)));let off:=S.off h3 hn h4.parts;let T:=S.tk j _ h3;rw[DE,Eh,CB,A8,<- hv,oj];generalize D j=C at T off;cases T with|tree g=>exact .cons g ih off
 | @cell tk cs x p f s j c h h1 h2 h3 h5 h6 h4 ih =>
  let(r,d,hv):=S.at_ _ _ h1;rw[h3] at d;cases d;let hn:¬ j∈c:=λz=>h4.new j z (Ab.mpr (.inr (Ae.mpr rfl)));let off:=S.off h3 hn h4.parts;let T:=S.tk j _ h3;rw[DE,Eh,CB,A8,<- hv,oj];let n:Forest m (v f::v s::cs.reverse.map v) (jl D c):=by
   rw[DE] at ih;exact ih
  let(r1,J,u,I,H,q):=jv n;let(r2,R2,i,G,B,A):=jv H;generalize D j=C at T off;cases T with
  | @cell _ _ _ x y g1 g2 g3 =>
   let w:=g2.resolve_left h5;let es:=g3.resolve_left h6;let a:=off _ (Af ..);rw[u,i] at a;let l:¬ v p∈r1:=λz=>a (Ab.mpr (.inl z));let k:¬ v p∈r2:=λz=>a (Ab.mpr (.inr (Ab.mpr (.inl z))));let o:¬ v p∈R2:=λz=>a (Ab.mpr (.inr (Ab.mpr (.inr z))));let F:v p≠0:=λz=>by rw[z,S.zero] at g1;cases g1
   let t:Tr m (v p) (v p::(r1++r2)):=.node F g1 (w ▸ I) (es ▸ G) l k (λy b z=>q y b (by rw[i];exact Ab.mpr (.inl z)));let e:[v p]++jl D c=(v p::(r1++r2))++R2:=by rw[u,i];simp
   rw[e];refine .cons t B (λy b z=>?_);rcases Ak.mp b with rfl|b;exact o z
   rcases Ab.mp b with b|b;exact q y b (by rw[i];exact Ab.mpr (.inr z));exact A y b z
theorem RowR.tk(S:Sem v m E D){tk g:eL eO}{r:eU}{q:eT}(h:RowR E tk r g q)(k:∀p∈q,v p.1≠v p.2):Tk v m r (jl D g):=by
 cases h with
 | @cell a f s p f' s' j h1 h2 h3 h4 h5 =>
  let(r,i,hv):=S.at_ _ _ h1;rw[h3] at i;cases i;let T:=S.tk j _ h3;let e:jl D [j]=D j:=by unfold jl;simp
  rw[e];generalize D j=l at T;cases T with
  | @cell _ _ _ x y g1 g2 g3 =>
   let c:v p=v a:=hv;rw[c] at g1 |-;refine .cell g1 ?_ ?_;rcases h4 with z|⟨b,d⟩;exact .inl z;exact .inr ((S.al _ _ d).symm.trans (g2.resolve_left b))
   rcases h5 with z|⟨b,d⟩;exact .inl z;exact .inr ((S.al _ _ d).symm.trans (g3.resolve_left b))
 |str h=>exact .str (h.seg S k)
 |tree h =>
  let:=h.forest S;let(r1,r2,e,t,F,_):=jv (show Forest m (v _::[]) _ from this);cases F;rw[e,A0];exact .tree t
theorem RowR.new{tk a:eL eO}{r:eU}{q:eT}(h:RowR E tk r a q):(∀i∈a,¬ i∈tk)/\∀i∈a,∃r,E.P[i]?=eH r:=by
 cases h with|cell h1 h2 h3 _ _=>exact#[λi hi=>by rw[Ae.mp hi];exact h2,λi hi=>by rw[Ae.mp hi];exact#[_,h3]]|str h=>exact#[h.new,h.parts]|tree h=>exact#[h.new,h.parts]
theorem RowsR.at_(h:RowsR E tk rs g q):∀(i:eO) r,rs[i]?=eH r->∃j tk' k,g[i]?=eH j/\RowR E tk' r j k/\(∀p∈k,p∈q):=by
 induction h with
 |nil=>intro i r h;simp at h
 | @cons tk j r rs g q1 q2 h h2 ih =>
  intro i s l;cases i with
  |zero=>cases l;exact#[j,tk,q1,eY,h,λp hp=>Ab.mpr (.inl hp)]
  |succ i =>
   let(a,b,c,d,e,f):=ih i s (by simpa using l);exact#[a,b,c,by simpa using d,e,λp hp=>Ab.mpr (.inr (f p hp))]
theorem RowsR.len(h:RowsR E tk rs a q):a.length=rs.length:=by
 induction h with|nil=>rfl|cons _ _ ih=>rw[Aw,Aw,ih]
variable{E:Env} in
theorem RowsR.apart{tk:eL eO}{rs:eS}{c:eL (eL eO)}{q:eT}(h:RowsR E tk rs c q):(∀e∈c,∀i∈e,¬ i∈tk)/\∀(i k:eO) a b,i<k->c[i]?=eH a->c[k]?=eH b->∀x∈a,¬ x∈b:=by
 induction h with
 |nil=>exact#[λe h=>(by cases h),λi k a b _ h=>(by simp at h)]
 | @cons tk e r rs c q1 q2 h h2 ih =>
  refine#[λl hl i hi z=>?_,λi k a b m g j x f z=>?_];rcases Ak.mp hl with rfl|hl;exact h.new.1 i hi z;exact ih.1 l hl i hi (Ab.mpr (.inl z))
  cases k with
  |zero=>lia
  |succ k =>
   let d:c[k]?=eH b:=by simpa using j
   cases i with
   |zero =>
    cases g;exact ih.1 b (Aq d) x z (Ab.mpr (.inr f))
   |succ i=>exact ih.2 i k a b (by lia) (by simpa using g) d x f z
variable{v:eZ->eN}{m:Mem}{E:Env}{D:eO->eL eN} in
theorem fits_of{F G S:eS}{d:eL (eL eO)}{q:eT}(R:Sem v m E D)(h:RowsR E [] S d q)(Y:∀p∈q,v p.1≠v p.2)(hi:∀a b,[("is":eZ),a,b]∈G->v a=v b)(hn:∀a b,[("not":eZ),a,b]∈G->v a≠v b)(C:∀x c,m x=eH c->∃(j:eO) (r:eU),E.P[j]?=eH r/\x∈D j)(o:∀j x,x∈D j->(∃r,E.P[j]?=eH r)->∃g∈d,j∈g):Fits v m G S (λi=>jl D (d.getD i [])):=by
 let hl:=h.len;let y:∀{i:eO} {g:eL eO},d[i]?=eH g->d.getD i []=g:=λ{i g} e=>by rw[Ay,e];rfl
 let two:∀(i k:eO) r s,i<k->S[i]?=eH r->S[k]?=eH s->∀x∈jl D (d.getD i []),¬ x∈jl D (d.getD k []):=λi k r s l n H x f z=>by
  let(a,_,_,U,A,_):=h.at_ i r n;let(b,_,_,T,B,_):=h.at_ k s H;rw[y U] at f;rw[y T] at z;let(u,Q,J):=cellsOf_mem.mp f;let(w,C,N):=cellsOf_mem.mp z;let(X,O):=A.new.2 u Q;let(L,I):=B.new.2 w C;by_cases c:u=w;subst c;exact h.apart.2 i k a b l U T u Q C;exact R.apart u w X L O I c x J N
 refine#[hi,hn,λi r n=>?_,λi k r s n H l x f z=>?_,λx c f=>?_];let(g,tk',Z,h1,h2,h3):=h.at_ i r n;rw[y h1];exact h2.tk R λp hp=>Y p (h3 p hp);rcases Fb l with c|c;exact two i k r s c n H x f z;exact two k i s r c H n x z f
 let(j,r,W,t):=C x c f;let(g,h1,h2):=o j x t #[r,W];let(i,hi):=BB h1;let M:i<S.length:=by rw[<- hl];exact(An.mp hi).1
 exists i,S[i],Ag M;rw[y hi];exact cellsOf_mem.mpr #[j,h2,t]
end
end Fol
namespace Fol
open L2 Kn
structure Mm where
 P:eS
 al:eZ->eZ->fJ
 num:eZ->eM eO
 full:eO->fJ
def Mm.env(M:Mm):Env:=#[M.P,λa b=>M.al a b=eJ,λx j=>M.num x=eH j,λj=>M.full j=eJ]
def takeF(M:Mm)(tk:eL eO)(x:eZ):eM eO:=match M.num x with
 |none=>eI
 |some j=>if j∈tk then eI else eH j
def liesF(M:Mm)(e:eZ):eM (eT):=if M.al e "nil"=eJ then eH [] else match M.num e with
 |none=>eI
 |some i=>if M.full i=eJ then eH [] else eH [(place (M.P.getD i []),end2 (M.P.getD i []))]
inductive PRes
 |ok (a:eZ)(q:eT)
 |amid
 |fail
def passF(M:Mm)(j:eO)(e:eZ):PRes:=match M.P.getD j [] with
 |[k,p,_,s]=>if k="cell" /\ ¬ s="any" then .ok s [(p,e)] else .fail
 |[k,p,q]=>if k="stretch" then(if M.al q e=eJ then .ok q [] else match liesF M e with
  |none=>.amid
  |some lo=>.ok q ((p,e)::lo)) else .fail
 |_=>.fail
inductive SRes
 |ok (js:eL eO)(q:eT)
 |amid (j:eO)
 |fail
def SRes.put(j:eO)(q1:eT):SRes->SRes
 |.ok js q=>.ok (j::js) (q1++q)
 |x=>x
def strF(M:Mm)(e:eZ):eO->eL eO->eZ->SRes
 |0,_,_=>.fail
 |n+1,tk,a=>if M.al a e=eJ then .ok [] [] else match takeF M tk a with
  |none=>.fail
  |some j=>match passF M j e with
   |.fail=>.fail
   |.amid=>.amid j
   |.ok a' q1=>(strF M e n (tk++[j]) a').put j q1
def treeF(M:Mm):eO->eL eO->eU->eM (eL eO)
 |0,_,_=>eI
 |_+1,_,[]=>eH []
 |n+1,tk,x::cs=>if M.al x "nil"=eJ then treeF M n tk cs else match takeF M tk x with
  |none=>eI
  |some j=>match M.P.getD j [] with
   |[k,p]=>if k="tree" /\ ¬ p="any" then(treeF M n (tk++[j]) cs).map (j :: ·) else eI
   |[k,p,f,s]=>if k="cell" /\ ¬ p="any" /\ ¬ f="any" /\ ¬ s="any" then(treeF M n (tk++[j]) (f::s::cs)).map (j :: ·) else eI
   |_=>eI
def givesF(M:Mm)(f a:eZ):fJ:=decide (a="any") || (!decide (f="any") && M.al f a)
def cellF(M:Mm)(tk:eL eO)(a f s:eZ):SRes:=match takeF M tk a with
 |none=>.fail
 |some j=>match M.P.getD j [] with
  |[k,_,f',s']=>if k="cell" /\ givesF M f' f=eJ/\givesF M s' s=eJ then .ok [j] [] else .fail
  |_=>.fail
def rowF(M:Mm)(tk:eL eO):eU->SRes
 |[_,a,f,s]=>cellF M tk a f s
 |[_,a,e]=>strF M e 20 tk a
 |[_,a]=>match treeF M 60 tk [a] with
  |none=>.fail
  |some js=>.ok js []
 |_=>.fail
inductive RRes
 |ok (jss:eL (eL eO))(q:eT)
 |amid (i j:eO)
 |fail
def rowsF(M:Mm):eL eO->eS->RRes
 |_,[]=>.ok [] []
 |tk,r::rs=>match rowF M tk r with
  |.fail=>.fail
  |.amid j=>.amid 0 j
  |.ok js q=>match rowsF M (tk++js) rs with
   |.ok jss q2=>.ok (js::jss) (q++q2)
   |.amid i j=>.amid (i+1) j
   |.fail=>.fail
section
theorem takeF_some(h:takeF M tk x=eH j):M.num x=eH j/\¬ j∈tk:=by
 unfold takeF at h;split at h;cases h
 split at h;cases h;cases h;exact#[by assumption,by assumption]
theorem getD_some{P:eS}(h:P.getD j []=r)(hn:r≠[]):P[j]?=eH r:=by
 rw[Ay] at h;cases hz:P[j]? with|none=>rw[hz] at h;exact eR h.symm hn|some z=>rw[hz] at h;exact fE eH h
theorem some_getD{P:eS}(h:P[j]?=eH r):P.getD j []=r:=by rw[Ay,h];rfl
theorem a55(b:∀x i,M.num x=eH i->∃r,M.P[i]?=eH r){lo:eT}(h:liesF M e=eH lo):Lies M.env e lo:=by
 unfold liesF at h;split at h;cases h;exact .nil (by assumption)
 split at h;cases h
 rename_i i hi;let(r,a):=b _ _ hi;split at h;cases h;exact .full (by assumption) hi (by assumption);cases h;rw[some_getD a];exact .ask (by assumption) hi (by assumption) a
theorem aaj(g:∀x i,M.num x=eH i->∃r,M.P[i]?=eH r)(h:passF M j e=.ok a q):Pass M.env j e a q:=by
 unfold passF at h;split at h;rename_i k p f s c;split at h;rename_i b;cases h;let(rfl,h2):=b;exact .cell (getD_some c (by simp)) h2;cases h
 . rename_i k p l c;split at h;rename_i b;subst b;let d:=getD_some c (by simp);split at h;cases h;exact .own d (by assumption);split at h;cases h;cases h;exact .on d (by assumption) (a55 g (by assumption))
   cases h
 cases h
variable{M:Mm} in
theorem a2f(c:∀x i,M.num x=eH i->∃r,M.P[i]?=eH r){e:eZ}:∀{n:eO}{tk:eL eO}{a:eZ}{b:eL eO}{q:eT},strF M e n tk a=.ok b q->StrR M.env e tk a b q
 |0,_,_,_,_,h=>by cases h
 |n+1,tk,a,b,q,h=>by
  unfold strF at h;split at h;cases h;exact .nil (by assumption)
  split at h;cases h
  rename_i j d;let(h1,h2):=takeF_some d;split at h;cases h;cases h
  rename_i f g hp;cases hz:strF M e n (tk++[j]) f with
  |ok js' q2 =>
   rw[hz] at h;cases h;exact .cons (by assumption) h1 h2 (aaj c hp) (a2f c hz)
  |amid _=>rw[hz] at h;cases h
  |fail=>rw[hz] at h;cases h
variable{M:Mm} in
theorem ro:∀{n:eO}{tk:eL eO}{cs:eU}{a:eL eO},treeF M n tk cs=eH a->TreeR M.env tk cs.reverse a
 |0,_,_,_,h=>by cases h
 |n+1,tk,[],a,h=>by cases h;exact .done
 |n+1,tk,x::cs,a,h=>by
  unfold treeF at h;rw[Bv];split at h;exact .nil (by assumption) (ro h)
  split at h;cases h
  rename_i j e;let(h1,h2):=takeF_some e;split at h;rename_i k p d;split at h;rename_i c;let(b,hz,rfl):=Eg.mp h;let(rfl,_):=c;exact .tree (by assumption) h1 h2 (getD_some d (by simp)) (ro hz);cases h;rename_i k p f s d;split at h;rename_i c;let(b,hz,rfl):=Eg.mp h;let(rfl,_,i,g):=c;let:=ro hz;rw[Bv,Bv,A5] at this;exact .cell (by assumption) h1 h2 (getD_some d (by simp)) i g this;cases h
  cases h
theorem ym(h:givesF M f a=eJ):Gives M.env f a:=by
 unfold givesF at h;rw[Iw,Br] at h;rcases h with z|⟨c,b⟩;exact .inl (fC z);exact .inr #[by simpa using c,b]
theorem ada(l:∀x i,M.num x=eH i->∃r,M.P[i]?=eH r)(d:(∃a f s,r=[("cell":eZ),a,f,s])\/(∃a b,r=[("stretch":eZ),a,b])\/∃a,r=[("tree":eZ),a])(h:rowF M tk r=.ok c q):RowR M.env tk r c q:=by
 rcases d with⟨a,f,s,rfl⟩|⟨a,b,rfl⟩|⟨a,rfl⟩
 . let h':cellF M tk a f s=.ok c q:=h;unfold cellF at h';split at h';cases h'
   . rename_i j e;let(h1,h2):=takeF_some e;split at h';rename_i k p n s' d;split at h';rename_i g;cases h';let(rfl,g1,m):=g;exact .cell h1 h2 (getD_some d (by simp)) (ym g1) (ym m);cases h'
     cases h'
 . exact .str (a2f l h)
 let h':(match treeF M 60 tk [a] with|none=>SRes.fail|some c=>.ok c [])=.ok c q:=h;split at h';cases h';cases h';exact .tree (ro (by assumption))
variable{M:Mm} in
theorem rowsF_ok(e:∀x i,M.num x=eH i->∃r,M.P[i]?=eH r):∀{rs:eS}{tk:eL eO}{c:eL (eL eO)}{q:eT},(∀r∈rs,(∃a f s,r=[("cell":eZ),a,f,s])\/(∃a b,r=[("stretch":eZ),a,b])\/∃a,r=[("tree":eZ),a])->rowsF M tk rs=.ok c q->RowsR M.env tk rs c q
 |[],_,_,_,_,h=>by cases h;exact .nil
 |r::rs,tk,c,q,hr,h=>by
  unfold rowsF at h;split at h;cases h;cases h
  rename_i g j d;split at h;cases h;exact .cons (ada e (hr r (Af ..)) d) (rowsF_ok e (λr' h'=>hr r' (Ah _ h')) (by assumption));cases h;cases h
end
end Fol
namespace Fol
open L2 Kn
def exD(v:eZ->eN)(s0 s1:eO->eN)(j:eO):eU->eL eN
 |[_,p,_,_]=>[v p]
 |[_,p,_]=>[v p,s0 j]
 |[_,p]=>[v p,s0 j,s1 j]
 |_=>[]
inductive PartD(Dm:eZ->Prop):eU->Prop
 |cell{a f s:eZ}(h:Dm a)(hf:f="any" \/ Dm f)(hs:s="any" \/ Dm s):PartD Dm [("cell":eZ),a,f,s]
 |str{a e:eZ}(h:Dm a)(he:Dm e):PartD Dm [("stretch":eZ),a,e]
 |tree{a:eZ}(h:Dm a):PartD Dm [("tree":eZ),a]
def val(v:eZ->eN)(bs:eN)(x:eZ):eN:=if x="any" then bs else v x
structure Ex(M:Mm)(v:eZ->eN)(m:Mem)(bs:eN)(ne:eL eO)(s0 s1:eO->eN)(Dm:eZ->Prop):Prop where
 row:∀(j:eO) r,M.P[j]?=eH r->PartD Dm r
 nil:v "nil"=0
 dnil:Dm "nil"
 any:¬ Dm "any"
 rng:∀x,Dm x->0<=v x/\v x<bs
 al:∀a b,Dm a->Dm b->(M.al a b=eJ↔v a=v b)
 num:∀x j,Dm x->M.num x=eH j->j∈ne/\∃r,M.P[j]?=eH r/\v (place r)=v x
 numE:∀x j r,Dm x->j∈ne->M.P[j]?=eH r->v (place r)=v x->M.num x=eH j
 part:∀j∈ne,∃r,M.P[j]?=eH r
 emp:∀j∈ne,∀r,M.P[j]?=eH r->¬ r.getD 0 ""="cell" -> v (place r)≠v (end2 r)
 pl0:∀j∈ne,∀r,M.P[j]?=eH r->v (place r)≠0
 cell:∀j∈ne,∀p f s,M.P[j]?=eH [("cell":eZ),p,f,s]->m (v p)=eH (val v bs f,val v bs s)
 str:∀j∈ne,∀p q,M.P[j]?=eH [("stretch":eZ),p,q]->m (v p)=eH (bs,s0 j)/\m (s0 j)=eH (bs,v q)
 tree:∀j∈ne,∀p,M.P[j]?=eH [("tree":eZ),p]->m (v p)=eH (s0 j,s1 j)/\m (s0 j)=eH (0,0)/\m (s1 j)=eH (0,0)
 only:∀x c,m x=eH c->∃j∈ne,∃r,M.P[j]?=eH r/\x∈exD v s0 s1 j r
 g0:∀j,bs<s0 j
 g1:∀j,bs<s1 j
 i0:∀i j,s0 i=s0 j->i=j
 i1:∀i j,s1 i=s1 j->i=j
 i2:∀i j,s0 i≠s1 j
theorem a7b(a:eZ):end2 [("tree":eZ),a]="nil" := by unfold end2;rw[eP (by show ¬ ("tree":eZ)="stretch";decide)]
section
theorem Ex.pl(X:Ex M v m bs ne s0 s1 Dm){j:eO}(a:M.P[j]?=eH r):Dm (place r):=by
 cases X.row j r a<;>assumption
theorem Ex.one(X:Ex M v m bs ne s0 s1 Dm)(hi:i∈ne)(b:M.P[i]?=eH r)(c:j∈ne)(a:M.P[j]?=eH s)(h:v (place r)=v (place s)):i=j:=by
 let h1:=X.numE (place s) i r (X.pl a) hi b h;let h2:=X.numE (place s) j s (X.pl a) c a rfl;rw[h1] at h2;exact Am h2
theorem nw(h:PartD Dm r)(b:x∈exD v s0 s1 j r):x=v (place r)\/(¬ r.getD 0 ""="cell" /\ x=s0 j)\/(r.getD 0 ""="tree" /\ x=s1 j):=by
 cases h with
 |cell=>exact .inl (Ae.mp b)
 |str =>
  let a:x∈[_,_]:=b;simp only[Ak,As,fH] at a;rcases a with z|z;exact .inl z;exact .inr (.inl #[by show ¬ ("stretch":eZ)="cell";decide,z])
 |tree =>
  let a:x∈[_,_,_]:=b;simp only[Ak,As,fH] at a;rcases a with z|z|z;exact .inl z;exact .inr (.inl #[by show ¬ ("tree":eZ)="cell";decide,z]);exact .inr (.inr #[eY,z])
theorem a05(h:PartD Dm r):v (place r)∈exD v s0 s1 j r:=by
 cases h<;>exact Af ..
theorem Ex.disj(X:Ex M v m bs ne s0 s1 Dm)(hi:i∈ne)(b:M.P[i]?=eH r)(c:j∈ne)(a:M.P[j]?=eH s)(hn:i≠j):∀x∈exD v s0 s1 i r,¬ x∈exD v s0 s1 j s:=λx h1 h2=>by
 let e:=X.g0 i;let f:=X.g0 j;let d:=X.g1 i;let g:=X.g1 j;let h:=X.rng _ (X.pl b);let k:=X.rng _ (X.pl a);rcases nw (X.row i r b) h1 with z|⟨_,z⟩|⟨_,z⟩<;>rcases nw (X.row j s a) h2 with y|⟨_,y⟩|⟨_,y⟩;exact hn (X.one hi b c a (z.symm.trans y));lia;lia;lia;exact hn (X.i0 _ _ (z.symm.trans y));exact X.i2 _ _ (z.symm.trans y);lia;exact X.i2 _ _ (y.symm.trans z);exact hn (X.i1 _ _ (z.symm.trans y))
theorem Ex.noBs(X:Ex M v m bs ne s0 s1 Dm):m bs=eI:=by
 cases h:m bs with
 |none=>rfl
 |some c =>
  let(j,d,r,a,b):=X.only _ _ h;let g0:=X.g0 j;let g1:=X.g1 j;let e:=X.rng _ (X.pl a);rcases nw (X.row j r a) b with z|⟨_,z⟩|⟨_,z⟩<;>lia
theorem Ex.no0(X:Ex M v m bs ne s0 s1 Dm):m 0=eI:=by
 cases h:m 0 with
 |none=>rfl
 |some c =>
  let(j,b,r,a,d):=X.only _ _ h;let g0:=X.g0 j;let g1:=X.g1 j;let e:=X.rng _ (X.pl a);rcases nw (X.row j r a) d with z|⟨_,z⟩|⟨_,z⟩;exact eR z.symm (X.pl0 j b r a);lia;lia
theorem Ex.at_(X:Ex M v m bs ne s0 s1 Dm)(d:Dm x)(h:m (v x)=eH c):∃j∈ne,∃r,M.P[j]?=eH r/\v (place r)=v x/\M.num x=eH j:=by
 let(j,b,r,a,hm):=X.only _ _ h;let g0:=X.g0 j;let g1:=X.g1 j;let e:=X.rng _ d;rcases nw (X.row j r a) hm with z|⟨_,z⟩|⟨_,z⟩;exact#[j,b,r,a,z.symm,X.numE x j r d b a z.symm];lia;lia
theorem Ex.valLe(X:Ex M v m bs ne s0 s1 Dm){x:eZ}(h:x="any" \/ Dm x):val v bs x<=bs:=by
 unfold val;split;exact EW _
 let:=(X.rng x (h.resolve_left (by assumption))).2
 lia
theorem Ex.pred(X:Ex M v m bs ne s0 s1 Dm){x f s:eN}(h:m x=eH (f,s)){j:eO}{y:eN}(l:y=s0 j\/y=s1 j)(g:f=y\/s=y):∃r,M.P[j]?=eH r/\x=v (place r):=by
 let(i,hi,r,d,k):=X.only _ _ h;let g0:=X.g0 j;let g1:=X.g1 j;let p:=X.g0 i;let o:=X.g1 i;let big:bs<y:=by rcases l with z|z<;>lia
 let u:0<=bs:=by let:=X.rng _ X.dnil;lia
 let same:∀{z:eN},(z=s0 i\/z=s1 i)->z=y->i=j:=λ{z} hz e=>by
  rcases hz with a|a<;>rcases l with b|b;exact X.i0 _ _ (by lia);exact eR (show s0 i=s1 j by lia) (X.i2 _ _);exact eR (show s0 j=s1 i by lia) (X.i2 _ _);exact X.i1 _ _ (by lia)
 let R:=X.row i r d;cases R with
 | @cell a f' s' ha hf hs =>
  let e:x=v a:=Ae.mp k;let n:=X.cell i hi a f' s' d;rw[<- e,h] at n;let:=Am n;let h1:=X.valLe hf;let h2:=X.valLe hs;simp only[Bi] at this
  lia
 | @str a e' ha he =>
  let(h1,h2):=X.str i hi a e' d;let t:=X.rng _ he;let c:x∈[_,_]:=k;simp only[Ak,As,fH] at c;rcases c with z|z
  . rw[<- z,h] at h1;let:=Am h1;simp only[Bi] at this;let es:s=y:=by rcases g with q|q<;>lia
    let:=same (z:=s) (.inl this.2) es;subst this;exact#[_,d,z]
  rw[<- z,h] at h2;let:=Am h2;simp only[Bi] at this
  lia
 | @tree a ha =>
  let(h1,h2,h3):=X.tree i hi a d;let c:x∈[_,_,_]:=k;simp only[Ak,As,fH] at c;rcases c with z|z|z
  . rw[<- z,h] at h1;let:=Am h1;simp only[Bi] at this;let:i=j:=by
     rcases g with q|q;exact same (z:=f) (.inl this.1) q;exact same (z:=s) (.inr this.2) q
    subst this;exact#[_,d,z]
  . rw[<- z,h] at h2;let:=Am h2;simp only[Bi] at this
    lia
  rw[<- z,h] at h3;let:=Am h3;simp only[Bi] at this
  lia
theorem Ex.ownSeg(X:Ex M v m bs ne s0 s1 Dm){j:eO}{y e x:eN}(d:y=s0 j\/y=s1 j){row:eL eN}(h:Seg m e x row):x≠y->y∈row->∃r,M.P[j]?=eH r/\v (place r)∈row:=by
 induction h with
 |nil=>intro _ z;cases z
 | @cons x f s row h1 h2 h3 h4 ih =>
  intro hn hm;let b:y∈row:=(Ak.mp hm).resolve_left λz=>hn z.symm;by_cases c:s=y;let(r,a,e):=X.pred h2 d (.inr c);exact#[r,a,by rw[<- e];exact Af ..];let(r,a,z):=ih c b;exact#[r,a,Ah _ z]
theorem Ex.ownTr(X:Ex M v m bs ne s0 s1 Dm){j:eO}{y x:eN}(d:y=s0 j\/y=s1 j){row:eL eN}(h:Tr m x row):x≠y->y∈row->∃r,M.P[j]?=eH r/\v (place r)∈row:=by
 induction h with
 |nil=>intro _ z;cases z
 | @node x f s r1 r2 h1 h2 t1 t2 n1 n2 n3 i1 i2 =>
  intro hn hm;let b:y∈r1++r2:=(Ak.mp hm).resolve_left λz=>hn z.symm;by_cases c:f=y\/s=y;let(r,a,e):=X.pred h2 d c;exact#[r,a,by rw[<- e];exact Af ..]
  rcases Ab.mp b with z|z;let(r,a,q):=i1 (λq=>c (.inl q)) z;exact#[r,a,Ah _ (Ab.mpr (.inl q))];let(r,a,q):=i2 (λq=>c (.inr q)) z;exact#[r,a,Ah _ (Ab.mpr (.inr q))]
theorem Ex.ownTk(X:Ex M v m bs ne s0 s1 Dm){j:eO}{y:eN}(a:y=s0 j\/y=s1 j){r:eU}(c:PartD Dm r){row:eL eN}(h:Tk v m r row)(hm:y∈row):∃r,M.P[j]?=eH r/\v (place r)∈row:=by
 let g0:=X.g0 j;let g1:=X.g1 j;let big:bs<y:=by rcases a with z|z<;>lia
 cases c with
 |cell ha _ _ =>
  let b:=X.rng _ ha;cases h with|cell h _ _=>let:=Ae.mp hm;lia
 |str ha he =>
  let b:=X.rng _ ha;cases h with|str h=>exact X.ownSeg a h (by lia) hm
 |tree ha =>
  let b:=X.rng _ ha;cases h with|tree h=>exact X.ownTr a h (by lia) hm
variable{M:Mm}{v:eZ->eN}{m:Mem}{bs:eN}{ne:eL eO}{s0 s1:eO->eN}{Dm:eZ->Prop} in
theorem Ex.own(X:Ex M v m bs ne s0 s1 Dm){G S:eS}{R:eO->eL eN}(h:Fits v m G S R)(t:∀r∈S,PartD Dm r){i:eO}{r:eU}(hi:S[i]?=eH r){j:eO}{p:eU}(o:j∈ne)(hp:M.P[j]?=eH p)(hm:v (place p)∈R i):∀x∈exD v s0 s1 j p,x∈R i:=λx g=>by
 let sp:∀y,(y=s0 j\/y=s1 j)->(∃c,m y=eH c)->y∈R i:=λy q l=>by
  let(c,l):=l;let(k,s,n,d):=h.whole y c l;let(w,f,u):=X.ownTk q (t s (Aq n)) (h.tk k s n) d;rw[hp] at f;cases f;by_cases c:k=i;subst c;exact d;exact eR hm (h.apart k i s r n hi c _ u)
 cases X.row j p hp with
 |cell=>rw[Ae.mp g];exact hm
 | @str a e _ _ =>
  let(h1,h2):=X.str j o _ _ hp;let b:x∈[_,_]:=g;simp only[Ak,As,fH] at b;rcases b with rfl|rfl;exact hm;exact sp _ (.inl rfl) #[_,h2]
 | @tree a _ =>
  let(h1,h2,h3):=X.tree j o _ hp;let b:x∈[_,_,_]:=g;simp only[Ak,As,fH] at b;rcases b with rfl|rfl|rfl;exact hm;exact sp _ (.inl rfl) #[_,h2];exact sp _ (.inr rfl) #[_,h3]
end
end Fol
namespace Fol
open L2 Kn
section
def OwnS(M:Mm)(v:eZ->eN)(ne:eL eO)(s0 s1:eO->eN)(row:eL eN)(tk:eL eO):Prop:=∀j∈ne,¬ j∈tk->∀p,M.P[j]?=eH p->v (place p)∈row->∀x∈exD v s0 s1 j p,x∈row
def Dis(M:Mm)(v:eZ->eN)(s0 s1:eO->eN)(row:eL eN)(tk:eL eO):Prop:=∀j∈tk,∀p,M.P[j]?=eH p->∀x∈exD v s0 s1 j p,¬ x∈row
structure TkO(M:Mm)(ne tk:eL eO):Prop where
 nd:tk.Nodup
 ne:∀j∈tk,j∈ne
theorem Ex.few(X:Ex M v m bs ne s0 s1 Dm)(h:TkO M ne tk):tk.length<=M.P.length:=by
 let:=uh (m:=AU M.P.length) h.nd λj a=>by
  let(r,b):=X.part j (h.ne j a);exact Ba.mpr (An.mp b).1
 rwa [Bu] at this
variable{M:Mm}{ne:eL eO} in
theorem TkO.put{tk:eL eO}(h:TkO M ne tk){j:eO}(c:j∈ne)(hn:¬ j∈tk):TkO M ne (tk++[j]):=#[AE.mpr #[h.nd,AI.mpr #[As,AV],λa f b d e=>hn (by rw[<- Ae.mp d,<- e];exact f)],λi hi=>by
 rcases Ab.mp hi with z|z;exact h.ne i z
 rw[Ae.mp z];exact c]
theorem Ex.step(X:Ex M v m bs ne s0 s1 Dm){tk:eL eO}(T:TkO M ne tk){j:eO}{p:eU}(d:j∈ne)(hp:M.P[j]?=eH p){row rest:eL eN}(f:row=exD v s0 s1 j p++rest)(hn:row.Nodup)(O:OwnS M v ne s0 s1 row tk)(D:Dis M v s0 s1 row tk):OwnS M v ne s0 s1 rest (tk++[j])/\Dis M v s0 s1 rest (tk++[j]):=by
 subst f;let hd:=(AE.mp hn).2.2;refine#[λi hi hit s a hm x b=>?_,λi hi s a x b z=>?_];let c:i≠j:=λe=>hit (Ab.mpr (.inr (Ae.mpr e)));let:=O i hi (λz=>hit (Ab.mpr (.inl z))) s a (Ab.mpr (.inr hm)) x b;exact(Ab.mp this).resolve_left (X.disj hi a d hp c x b)
 rcases Ab.mp hi with y|y;exact D i y s a x b (Ab.mpr (.inr z));rw[Ae.mp y,hp] at a;cases a;rw[Ae.mp y] at b;exact hd x b x z rfl
theorem Ex.take(X:Ex M v m bs ne s0 s1 Dm){tk:eL eO}{x:eZ}(d:Dm x){row:eL eN}(D:Dis M v s0 s1 row tk)(hm:v x∈row){c:eN×eN}(h:m (v x)=eH c):∃j∈ne,∃p,M.P[j]?=eH p/\v (place p)=v x/\takeF M tk x=eH j/\¬ j∈tk:=by
 let(j,b,p,hp,hv,hn):=X.at_ d h;let a:¬ j∈tk:=λz=>D j z p hp _ (a05 (X.row j p hp)) (by rw[hv];exact hm);refine#[j,b,p,hp,hv,?_,a];unfold takeF;rw[hn];show(if j∈tk then eI else eH j)=eH j;rw[eP a]
def Cov(M:Mm)(v:eZ->eN)(s0 s1:eO->eN)(row:eL eN)(js:eL eO):Prop:=∀x,x∈row↔∃j∈js,∃p,M.P[j]?=eH p/\x∈exD v s0 s1 j p
theorem Cov.cons{M:Mm}{v:eZ->eN}{s0 s1:eO->eN}{j:eO}{p:eU}(hp:M.P[j]?=eH p){row rest:eL eN}(d:row=exD v s0 s1 j p++rest){c:eL eO}(h:Cov M v s0 s1 rest c):Cov M v s0 s1 row (j::c):=λx=>by
 subst d;rw[Ab,h x];constructor;rintro (z|⟨i,hi,s,a,b⟩);exact#[j,Af ..,p,hp,z];exact#[i,Ah _ hi,s,a,b]
 rintro⟨i,hi,s,a,b⟩;rcases Ak.mp hi with rfl|hi;rw[hp] at a;cases a;exact .inl b;exact .inr #[i,hi,s,a,b]
structure Ok(M:Mm)(v:eZ->eN)(ne:eL eO)(s0 s1:eO->eN)(row:eL eN)(tk js:eL eO)(q:eT):Prop where
 ask:∀p∈q,v p.1≠v p.2
 cov:Cov M v s0 s1 row js
 tk:TkO M ne (tk++js)
structure Amid(M:Mm)(v:eZ->eN)(ne:eL eO)(row:eL eN)(e:eZ)(j:eO):Prop where
 jn:j∈ne
 ex:∃p q,M.P[j]?=eH [("stretch":eZ),p,q]/\v q≠v e/\v p≠v e/\v p∈row
 nil:v e≠0
 num:M.num e=eI
theorem seg_nil(h:Seg m e x row)(a:x=e):row=[]:=by
 cases h with|nil=>rfl|cons h1 _ _ _=>exact eR a h1
variable{M:Mm}{v:eZ->eN}{m:Mem}{bs:eN}{ne:eL eO}{s0 s1:eO->eN}{Dm:eZ->Prop} in
theorem aam(X:Ex M v m bs ne s0 s1 Dm){e:eZ}(L:Dm e):∀(n:eO) (tk:eL eO) (a:eZ) (row:eL eN),Dm a->Seg m (v e) (v a) row->OwnS M v ne s0 s1 row tk->Dis M v s0 s1 row tk->TkO M ne tk->M.P.length<n+tk.length->
 (∃G q,strF M e n tk a=.ok G q/\Ok M v ne s0 s1 row tk G q)\/∃j,strF M e n tk a=.amid j/\Amid M v ne row e j:=by
 let re:=X.rng _ L;intro n;induction n with
 |zero=>intro tk a row Z W O D T hl;let:=X.few T;lia
 |succ n ih =>
  intro tk a row Z W O D T hl;let ac:=W.nodup;unfold strF;by_cases c:M.al a e=eJ;rw[eQ c];let hv:=(X.al a e Z L).mp c;refine .inl #[[],[],eY,λp hp=>(by cases hp),?_,by rw[A0];exact T];rw[seg_nil W hv];exact λx=>#[λz=>(by cases z),λ⟨j,F,_⟩=>(by cases F)]
  rw[eP c];let hv:v a≠v e:=λz=>c ((X.al a e Z L).mpr z);obtain⟨f,s,h,rfl,h2,o⟩:∃f s h,row=v a::h/\m (v a)=eH (f,s)/\Seg m (v e) s h:=by
   generalize hx:v a=x at W hv;cases W with|nil=>exact eR rfl hv|cons h1 h2 h3 Y=>exact#[_,_,_,eY,h2,Y]
  let(j,F,p,hp,H,ht,U):=X.take Z D (Af ..) h2;rw[ht];let own:=O j F U p hp (by rw[H];exact Af ..);let S:M.P.length<n+(tk++[j]).length:=by rw[Ai,A2];lia
  let T':=T.put F U;let I:∀(A:eZ) (B:eT) (rest:eL eN),Dm A->Seg m (v e) (v A) rest->v a::h=exD v s0 s1 j p++rest->(∀y∈B,v y.1≠v y.2)->passF M j e=.ok A B->
   (∃G q,(match passF M j e with|.fail=>SRes.fail|.amid=>.amid j|.ok A B=>(strF M e n (tk++[j]) A).put j B)=.ok G q/\Ok M v ne s0 s1 (v a::h) tk G q)\/∃i,(match passF M j e with|.fail=>SRes.fail|.amid=>.amid j|.ok A B=>(strF M e n (tk++[j]) A).put j B)=.amid i/\Amid M v ne (v a::h) e i:=λA B rest ag ae k af t=>by
   let(O',D'):=X.step T F hp k ac O D;rw[t];rcases ih (tk++[j]) A rest ag ae O' D' T' S with⟨G,q,e1,ok⟩|⟨i,e1,am⟩
   . refine .inl #[j::G,B++q,by show(strF M e n (tk++[j]) A).put j B=_;rw[e1];rfl,λy w=>?_,ok.cov.cons hp k,by let:=ok.tk;rwa [A5] at this];exact(Ab.mp w).elim (af y) (ok.ask y)
   refine .inr #[i,by show(strF M e n (tk++[j]) A).put j B=_;rw[e1];rfl,am.jn,?_,am.nil,am.num];let(p',l,g1,g2,g3,R):=am.ex;exact#[p',l,g1,g2,g3,by rw[k];exact Ab.mpr (.inr R)]
  show(∃G q,(match passF M j e with|.fail=>SRes.fail|.amid=>.amid j|.ok A B=>(strF M e n (tk++[j]) A).put j B)=.ok G q/\_)\/_;cases X.row j p hp with
  | @cell p f' s' dp df ds =>
   let hc:=X.cell j F p f' s' hp;let d:v p=v a:=H;rw[d,h2] at hc;let J:=Am hc;simp only[Bi] at J;let C:¬ s'="any" := λz=>by
    let:s=bs:=by rw[J.2];unfold val;rw[eQ z]
    rw[this] at o;cases o with|nil=>lia|cons _ g _ _=>rw[X.noBs] at g;cases g
   let es:s=v s':=by rw[J.2];unfold val;rw[eP C]
   refine I s' [(p,e)] h (ds.resolve_left C) (es ▸ o) (by show _=[v p]++h;rw[d];rfl) (λy w=>by rw[Ae.mp w];show v p≠v e;rw[d];exact hv) ?_;unfold passF;rw[some_getD hp];show(if("cell":eZ)="cell" /\ ¬ s'="any" then PRes.ok s' [(p,e)] else .fail)=_;rw[eQ #[eY,C]]
  | @str p l dp dq =>
   let(h3,Y):=X.str j F p l hp;let d:v p=v a:=H;rw[d,h2] at h3;let E:=Am h3;simp only[Bi] at E;rw[E.2] at o;let g0:=X.g0 j;obtain⟨b,rfl,u⟩:∃b,h=s0 j::b/\Seg m (v e) (v l) b:=by
    generalize w:s0 j=y at o Y g0;cases o with
    |nil=>lia
    |cons _ g _ R =>
     rw[Y] at g;let:=Am g;simp only[Bi] at this;exact#[_,eY,by rw[this.2];exact R]
   let k:v a::s0 j::b=exD v s0 s1 j [("stretch":eZ),p,l]++b:=by show _=[v p,s0 j]++b;rw[d];rfl
   by_cases cq:M.al l e=eJ;refine I l [] b dq u k (λy w=>(by cases w)) ?_;unfold passF;rw[some_getD hp];show(if("stretch":eZ)="stretch" then(if M.al l e=eJ then PRes.ok l [] else _) else _)=_;rw[eQ rfl,eQ cq]
   let ah:v l≠v e:=λz=>cq ((X.al l e dq L).mpr z);cases hl:liesF M e with
   |none =>
    let t:passF M j e=.amid:=by
     unfold passF;rw[some_getD hp];show(if("stretch":eZ)="stretch" then(if M.al l e=eJ then PRes.ok l [] else match liesF M e with|none=>PRes.amid|some lo=>.ok l ((p,e)::lo)) else _)=_;rw[eQ rfl,eP cq,hl]
    rw[t];unfold liesF at hl;split at hl;cases hl
    rename_i Q;split at hl;rename_i ab;refine .inr #[j,(by rw[t]),F,#[p,l,hp,ah,by rw[d];exact hv,by rw[d];exact Af ..],λz=>Q ((X.al e "nil" L X.dnil).mpr (z.trans X.nil.symm)),ab];split at hl<;>cases hl
   |some lo =>
    refine I l ((p,e)::lo) b dq u k (λy w=>?_) ?_
    . rcases Ak.mp w with rfl|w;show v p≠v e;rw[d];exact hv
      . unfold liesF at hl;split at hl;cases hl;cases w
        . split at hl;cases hl
          . rename_i i hi;let(N,r,hr,_):=X.num e i L hi;split at hl;cases hl;cases w
            . cases hl;rw[Ae.mp w,some_getD hr];show v (place r)≠v (end2 r);by_cases ck:r.getD 0 ""="cell"
              . let:end2 r="nil" := by unfold end2;rw[eP (by rw[ck];decide)]
                rw[this,X.nil];exact X.pl0 i N r hr
              exact X.emp i N r hr ck
    unfold passF;rw[some_getD hp];show(if("stretch":eZ)="stretch" then(if M.al l e=eJ then PRes.ok l [] else match liesF M e with|none=>PRes.amid|some lo=>.ok l ((p,e)::lo)) else _)=_;rw[eQ rfl,eP cq,hl]
  | @tree p dp =>
   exfalso;let(h3,Y,h5):=X.tree j F p hp;let d:v p=v a:=H;rw[d,h2] at h3;let E:=Am h3;simp only[Bi] at E;rw[E.2] at o;let g0:=X.g0 j;let g1:=X.g1 j;let ra:=X.rng _ Z;let aa:s0 j∈v a::h:=own _ (Ah _ (Af ..));obtain⟨b,rfl,u⟩:∃b,h=s1 j::b/\Seg m (v e) 0 b:=by
    generalize w:s1 j=y at o h5 g1;cases o with
    |nil=>lia
    |cons _ g _ R =>
     rw[h5] at g;let:=Am g;simp only[Bi] at this;exact#[_,eY,by rw[this.2];exact R]
   let:b=[]:=by
    generalize hz:(0:eN)=z at u;cases u with|nil=>rfl|cons _ g _ _=>rw[<- hz,X.no0] at g;cases g
   subst this;simp only[Ak,As,fH] at aa;rcases aa with z|z;lia;exact X.i2 _ _ z
end
end Fol
namespace Fol
open L2 Kn
theorem Forest.nodup(h:Forest m xs row):row.Nodup:=by
 induction h with|nil=>exact AV|cons h _ h3 ih=>exact AE.mpr #[h.nodup,ih,λa d b c e=>h3 a d (e ▸ c)]
theorem qb(h:Tr m x row)(n:x≠0):∃f s r1 r2,row=x::(r1++r2)/\m x=eH (f,s)/\Tr m f r1/\Tr m s r2/\(∀y∈r1,¬ y∈r2):=by
 cases h with|nil=>exact eR rfl n|node h1 h2 t1 t2 n1 n2 n3=>exact#[_,_,_,_,eY,h2,t1,t2,n3]
theorem qu(h:Tr m x row)(e:x=0):row=[]:=by
 cases h with|nil=>rfl|node h1=>exact eR e h1
theorem a5t(X:Ex M v m bs ne s0 s1 Dm):∀(n:eO) (tk:eL eO) (cs:eU) (row:eL eN),(∀x∈cs,Dm x)->Forest m (cs.map v) row->OwnS M v ne s0 s1 row tk->Dis M v s0 s1 row tk->TkO M ne tk->2*M.P.length+cs.length<n+2*tk.length->
 ∃o,treeF M n tk cs=eH o/\Ok M v ne s0 s1 row tk o []:=by
 let rn:=X.rng _ X.dnil;let vn:=X.nil;intro n;induction n with
 |zero=>intro tk cs row _ _ _ _ T hl;let:=X.few T;lia
 |succ n ih =>
  intro tk cs row N hF O D T hl;cases cs with
  |nil =>
   let G:Forest m [] row:=hF;cases G;exact#[[],eY,λp hp=>(by cases hp),λx=>#[λz=>(by cases z),λ⟨j,F,_⟩=>(by cases F)],by rw[A0];exact T]
  |cons x cs =>
   let R:=N x (Af ..);let A:∀y∈cs,Dm y:=λy b=>N y (Ah _ b);let rx:=X.rng _ R;let(r1,r2,rfl,t,Y,d):=jv (show Forest m (v x::cs.map v) row from hF);let W:=hF.nodup;let S:(x::cs).length=cs.length+1:=rfl;rw[S] at hl;unfold treeF;by_cases c:M.al x "nil"=eJ;rw[eQ c];let hv:=(X.al x "nil" R X.dnil).mp c;let e1:=qu t (hv.trans vn);subst e1;exact ih tk cs r2 A Y O D T (by lia)
   rw[eP c];let hv:v x≠0:=λz=>c ((X.al x "nil" R X.dnil).mpr (z.trans vn.symm));let(f,s,ra,rb,rfl,h2,I,Q,U):=qb t hv;let(j,F,p,hp,H,ht,aa):=X.take R D (Ab.mpr (.inl (Af ..))) h2;rw[ht];show ∃o,(match M.P.getD j [] with
    |[k,p]=>if k="tree" /\ ¬ p="any" then(treeF M n (tk++[j]) cs).map (j :: ·) else eI
    |[k,p,f,s]=>if k="cell" /\ ¬ p="any" /\ ¬ f="any" /\ ¬ s="any" then(treeF M n (tk++[j]) (f::s::cs)).map (j :: ·) else eI
    |_=>eI)=eH o/\_
   rw[some_getD hp];let T':=T.put F aa;let ab:(tk++[j]).length=tk.length+1:=by rw[Ai,A2]
   let L:∀(q:eU) (rest:eL eN),(∀y∈q,Dm y)->Forest m (q.map v) rest->v x::(ra++rb)++r2=exD v s0 s1 j p++rest->q.length<=cs.length+2->∃o,(treeF M n (tk++[j]) q).map (j :: ·)=eH o/\Ok M v ne s0 s1 (v x::(ra++rb)++r2) tk o []:=λq rest i G B ae=>by
    let(O',D'):=X.step T F hp B W O D;let(o,e1,ok):=ih (tk++[j]) q rest i G O' D' T' (by rw[ab];lia);exact#[j::o,by rw[e1];rfl,λp hp=>(by cases hp),ok.cov.cons hp B,by let:=ok.tk;rwa [A5] at this]
   let C:∀{y:eZ},Dm y->¬ y="any" := λ{y} b e=>X.any (e ▸ b);let noBs:∀{r:eL eN},¬ Tr m bs r:=λ{r} h=>by
    let(_,_,_,_,_,g,_):=qb h (by lia);rw[X.noBs] at g;cases g
   cases X.row j p hp with
   | @cell p J s' dp df ds =>
    let hc:=X.cell j F p J s' hp;let a:v p=v x:=H;rw[a,h2] at hc;let i:=Am hc;simp only[Bi] at i;let fn:¬ J="any" := λz=>by
     let e:f=bs:=by rw[i.1];unfold val;rw[eQ z]
     exact noBs (e ▸ I)
    let sn:¬ s'="any" := λz=>by
     let e:s=bs:=by rw[i.2];unfold val;rw[eQ z]
     exact noBs (e ▸ Q)
    let ef:f=v J:=by rw[i.1];unfold val;rw[eP fn]
    let es:s=v s':=by rw[i.2];unfold val;rw[eP sn]
    let ac:=df.resolve_left fn;let Z:=ds.resolve_left sn;show ∃o,(if("cell":eZ)="cell" /\ ¬ p="any" /\ ¬ J="any" /\ ¬ s'="any" then(treeF M n (tk++[j]) (J::s'::cs)).map (j :: ·) else eI)=eH o/\_;rw[eQ #[eY,C dp,fn,sn]];refine L (J::s'::cs) (ra++(rb++r2)) (λy b=>?_) ?_ (by show _=[v p]++_;rw[a];simp) (Ao _);rcases Ak.mp b with rfl|b;exact ac;rcases Ak.mp b with rfl|b;exact Z;exact A y b
    refine .cons (ef ▸ I) (.cons (es ▸ Q) Y λy b=>d y (Ah _ (Ab.mpr (.inr b)))) λy b z=>?_;rcases Ab.mp z with z|z;exact U y b z;exact d y (Ah _ (Ab.mpr (.inl b))) z
   | @str p q' dp dq =>
    exfalso;let(h3,_):=X.str j F p q' hp;let a:v p=v x:=H;rw[a,h2] at h3;let l:=Am h3;simp only[Bi] at l;rw[l.1] at I;exact noBs I
   | @tree p dp =>
    let(h3,h4,h5):=X.tree j F p hp;let a:v p=v x:=H;rw[a,h2] at h3;let l:=Am h3;simp only[Bi] at l;rw[l.1] at I;rw[l.2] at Q;let g0:=X.g0 j;let g1:=X.g1 j;let E:∀{y:eN} {r:eL eN},Tr m y r->y≠0->m y=eH (0,0)->r=[y]:=λ{y r} h b hm=>by
     let(f,s,u,w,rfl,g,tu,tw,_):=qb h b;rw[hm] at g;let:=Am g;simp only[Bi] at this;rw[qu tu this.1.symm,qu tw this.2.symm];rfl
    let ea:=E I (by lia) h4;let eb:=E Q (by lia) h5;subst ea eb;show ∃o,(if("tree":eZ)="tree" /\ ¬ p="any" then(treeF M n (tk++[j]) cs).map (j :: ·) else eI)=eH o/\_;rw[eQ #[eY,C dp]];exact L cs r2 A Y (by show _=[v p,s0 j,s1 j]++r2;rw[a];rfl) (by lia)
theorem a9s(X:Ex M v m bs ne s0 s1 Dm)(S:M.P.length<=15)(J:PartD Dm r)(h:Tk v m r row)(O:OwnS M v ne s0 s1 row tk)(D:Dis M v s0 s1 row tk)(T:TkO M ne tk):
 (∃i q,rowF M tk r=.ok i q/\Ok M v ne s0 s1 row tk i q)\/∃a e j,r=[("stretch":eZ),a,e]/\rowF M tk r=.amid j/\Amid M v ne row e j:=by
 cases J with
 | @cell a f s ha hf hs =>
  refine .inl ?_;generalize hrow:row=C at h;cases h with
  | @cell _ _ _ x y g1 g2 g3 =>
   subst hrow;let(j,l,p,hp,t,G,n):=X.take ha D (Af ..) g1;let own:=O j l n p hp (by rw[t];exact Af ..);let R:=X.rng _ ha;let g0:=X.g0 j;cases X.row j p hp with
   | @cell p f' s' dp df ds =>
    let B:=X.cell j l p f' s' hp;let b:v p=v a:=t;rw[b,g1] at B;let d:=Am B;simp only[Bi] at d;let E:∀{w g:eZ} {z:eN},(w="any" \/ v w=z)->(w="any" \/ Dm w)->(g="any" \/ Dm g)->z=val v bs g->givesF M g w=eJ:=λ{w g z} h1 h2 h3 o=>by
     unfold givesF;by_cases c:w="any";rw[fB c];rfl
     let e:=h1.resolve_left c;let F:=h2.resolve_left c;let H:=X.rng _ F;let u:¬ g="any" := λI=>by
      unfold val at o;rw[eQ I] at o
      lia
     unfold val at o;rw[eP u] at o;rw[fA c,fA u,(X.al g w (h3.resolve_left u) F).mpr (o.symm.trans e.symm)];rfl
    refine#[[j],[],?_,λp hp=>(by cases hp),(Cov.cons hp (rest:=[]) (by show _=[v p]++[];rw[b];rfl) λx=>#[λz=>(by cases z),λ⟨j,l,_⟩=>(by cases l)]),T.put l n];show cellF M tk a f s=_;unfold cellF;rw[G];show(match M.P.getD j [] with | [k,_,f',s']=>if k="cell" /\ givesF M f' f=eJ/\givesF M s' s=eJ then SRes.ok [j] [] else .fail|_=>.fail)=_;rw[some_getD hp];show(if("cell":eZ)="cell" /\ givesF M f' f=eJ/\givesF M s' s=eJ then SRes.ok [j] [] else .fail)=_;rw[eQ #[eY,E g2 hf df d.1,E g3 hs ds d.2]]
   | @str p q' dp dq =>
    exfalso;let:=own (s0 j) (Ah _ (Af ..));let:=Ae.mp this
    lia
   | @tree p dp =>
    exfalso;let:=own (s0 j) (Ah _ (Af ..));let:=Ae.mp this
    lia
 | @str a e ha he =>
  cases h with
  |str h =>
   rcases aam X he 20 tk a row ha h O D T (by lia) with z|⟨j,N,Q⟩;exact .inl z;exact .inr #[a,e,j,eY,N,Q]
 | @tree a ha =>
  cases h with
  |tree h =>
   let hF:Forest m ([a].map v) row:=by
    let:=Forest.cons h (Forest.nil (m:=m)) (λy A z=>by cases z);rw[A0] at this;exact this
   let(i,L,ok):=a5t X 60 tk [a] row (λy A=>by rw[Ae.mp A];exact ha) hF O D T (by show 2*M.P.length+1<_;lia);refine .inl #[i,[],?_,ok];show(match treeF M 60 tk [a] with|none=>SRes.fail|some i=>.ok i [])=_;rw[L]
end Fol
namespace Fol
open L2 Kn
section
variable{M:Mm}{v:eZ->eN}{m:Mem}{bs:eN}{ne:eL eO}{s0 s1:eO->eN}{Dm:eZ->Prop}{G S:eS}{R:eO->eL eN} in
theorem rowsF_fit(X:Ex M v m bs ne s0 s1 Dm)(N:M.P.length<=15)(h:Fits v m G S R)(B:∀r∈S,PartD Dm r):∀(rs:eS) (i0:eO) (tk:eL eO),(∀i,rs[i]?=S[i0+i]?)->(∀k r,i0<=k->S[k]?=eH r->Dis M v s0 s1 (R k) tk)->TkO M ne tk->
 (∃b q,rowsF M tk rs=.ok b q/\(∀p∈q,v p.1≠v p.2)/\∀k r,i0<=k->S[k]?=eH r->∀j∈ne,∀p,M.P[j]?=eH p->v (place p)∈R k->∃d∈b,j∈d)\/
 ∃i j a e,rowsF M tk rs=.amid i j/\S[i0+i]?=eH [("stretch":eZ),a,e]/\Amid M v ne (R (i0+i)) e j
 |[],i0,tk,hrs,_,_=>.inl #[[],[],eY,λp hp=>(by cases hp),λk r J f=>by
  let:=hrs (k-i0);rw[show i0+(k-i0)=k by lia,f] at this;simp at this]
 |r::rs,i0,tk,hrs,hD,T=>by
  let f:S[i0]?=eH r:=by let:=hrs 0;simpa using this.symm
  let D:=B r (Aq f);let O:OwnS M v ne s0 s1 (R i0) tk:=λj g _ p hp hm=>X.own h B f g hp hm;unfold rowsF;rcases a9s X N D (h.tk i0 r f) O (hD i0 r (Ao _) f) T with⟨d,q,C,ok⟩|⟨a,e,j,rfl,C,am⟩
  . rw[C];let L:=ok.cov;let Q:=rowsF_fit X N h B rs (i0+1) (tk++d) (λi=>by let:=hrs (i+1);rw[DZ] at this;rw[this];congr 1;lia) (λk s J n j g p hp x w z=>by
     rcases Ab.mp g with y|y;exact hD k s (by lia) n j y p hp x w z
     exact h.apart i0 k r s f n (by lia) x ((L x).mpr #[j,y,p,hp,w]) z) ok.tk
    rcases Q with⟨b,u,E,U,t⟩|⟨i,j,a,e,E,n,am⟩
    . refine .inl #[d::b,q++u,by show(match rowsF M (tk++d) rs with|.ok b u=>RRes.ok (d::b) (q++u)|.amid i j=>.amid (i+1) j|.fail=>.fail)=_;rw[E],λp hp=>(Ab.mp hp).elim (ok.ask p) (U p),λk s J n j g p hp hm=>?_];by_cases c:k=i0;subst c;let(I,o,W,F,w):=(L _).mp hm;exists d,Af ..;by_cases H:j=I;subst H;exact o;exact eR w (X.disj g hp (ok.tk.ne I (Ab.mpr (.inr o))) F H _ (a05 (X.row j p hp)))
      let(l,hl,A):=t k s (by lia) n j g p hp hm;exact#[l,Ah _ hl,A]
    refine .inr #[i+1,j,a,e,by show(match rowsF M (tk++d) rs with|.ok b u=>RRes.ok (d::b) (q++u)|.amid i j=>.amid (i+1) j|.fail=>.fail)=_;rw[E],?_,?_];rw[show i0+(i+1)=i0+1+i by lia];exact n;rw[show i0+(i+1)=i0+1+i by lia];exact am
  rw[C];exact .inr #[0,j,a,e,eY,f,am]
structure Moved(v:eZ->eN)(m m':Mem)(bs:eN)(s:eN)(p q e:eZ):Prop where
 h1:m' (v p)=eH (bs,v e)
 h2:m' (v e)=eH (bs,v q)
 h3:m' s=eI
 same:∀x,x≠v p->x≠v e->x≠s->m' x=m x
theorem Seg.noEnd(h:Seg m e x row):∀y∈row,y≠e:=by
 induction h with
 |nil=>intro y a;cases a
 |cons h1 _ _ _ ih =>
  intro y a;rcases Ak.mp a with rfl|z;exact h1;exact ih y z
theorem a6s(C:Moved v m g bs s p q e)(hn:m (v e)=eI)(h:Seg m d x row):∀{a:eL eN},Seg g d x a->v e∈a->v p∈row:=by
 induction h with
 |nil=>intro a h' hm;rw[seg_nil h' rfl] at hm;cases hm
 | @cons x f s2 row g1 g2 g3 g4 ih =>
  intro a h' hm;cases h' with
  |nil=>exact eR rfl g1
  | @cons _ f' s' row1 k1 k2 k3 k4 =>
   let nx:x≠v e:=λz=>by rw[z,hn] at g2;cases g2
   by_cases c:x=v p;rw[c];exact Af ..
   let ns:x≠s:=λz=>by rw[z,C.h3] at k2;cases k2
   let b:v e∈row1:=(Ak.mp hm).resolve_left λz=>nx z.symm;rw[C.same x c nx ns,g2] at k2;let:=Am k2;simp only[Bi] at this;exact Ah _ (ih (this.2 ▸ k4) b)
theorem a91(C:Moved v m k bs s p q e)(hn:m (v e)=eI)(hp:m (v p)=eH (bs,s))(g:m bs=eI)(b:bs≠0)(h:Tr m x row):∀{a:eL eN},Tr k x a->¬ v e∈a:=by
 induction h with
 |nil=>intro a h' hm;rw[qu h' rfl] at hm;cases hm
 | @node x f s2 r1 r2 g1 g2 t1 t2 n1 n2 n3 i1 i2 =>
  intro a h' hm;let(l,s',u,w,rfl,k2,j,i,_):=qb h' g1;let nx:x≠v e:=λz=>by rw[z,hn] at g2;cases g2
  by_cases c:x=v p;rw[c,hp] at g2;let:=Am g2;simp only[Bi] at this;rw[<- this.1] at t1;let(_,_,_,_,_,z,_):=qb t1 b;rw[g] at z;cases z
  let ns:x≠s:=λz=>by rw[z,C.h3] at k2;cases k2
  rw[C.same x c nx ns,g2] at k2;let:=Am k2;simp only[Bi] at this;let d:=(Ak.mp hm).resolve_left λz=>nx z.symm;rcases Ab.mp d with z|z;exact i1 (this.1 ▸ j) z;exact i2 (this.2 ▸ i) z
theorem amid_no(X:Ex M v m bs ne s0 s1 Dm)(h:Fits v m G S R)(w:∀r∈S,PartD Dm r)(hi:S[i]?=eH [("stretch":eZ),a,e])(A:Amid M v ne (R i) e j)(n:M.P[j]?=eH [("stretch":eZ),p,q])(C:Moved v m s bs (s0 j) p q e)(h':Fits v s G S u):False:=by
 let x:Dm e:=by
  generalize hr:[("stretch":eZ),a,e]=r at hi;cases w r (Aq hi) with|cell=>cases hr|str _ z=>cases hr;exact z|tree=>cases hr
 let hn:m (v e)=eI:=by
  cases hz:m (v e) with
  |none=>rfl
  |some c =>
   let(_,_,_,_,_,z):=X.at_ x hz;rw[A.num] at z;cases z
 let(D,y,b,_,_,hm):=A.ex;rw[n] at b;cases b;let(g1,_):=X.str j A.jn p q n;let t:bs≠0:=by let:=X.rng _ X.dnil;lia
 let(k,r,f,d):=h'.whole _ _ C.h2;let T:=h.tk k r f;let l:=h'.tk k r f;generalize hRk:R k=B at T;generalize hRk':u k=o at l d;cases T with
 |cell g _ _ =>
  cases l with
  |cell _ _ _ =>
   let:=Ae.mp d;rw[<- this,hn] at g;cases g
 | @str a' e' row g =>
  cases l with
  |str g' =>
   let hp:=a6s C hn g g' d;by_cases c:k=i;subst c;rw[f] at hi;cases hi;exact g'.noEnd _ d rfl;exact h.apart k i _ _ f hi c (v p) (by rw[hRk];exact hp) hm
 |tree g =>
  cases l with|tree g'=>exact a91 C hn g1 X.noBs t g g' d
end
end Fol
namespace K34
open L2 Mir Kn
abbrev a6r:JJ:=ie (top 20) 12
abbrev a5v:JJ:=ie (top 26) 0
abbrev abp:JJ:=ie (top 26) 1
abbrev a3a:JJ:=ie (top 26) 2
abbrev abf:JJ:=ie (top 26) 3
abbrev a61:JJ:=ie (top 26) 4
abbrev a5p:JJ:=ie (top 26) 5
abbrev abe:JJ:=ie (top 26) 6
abbrev a3q:JJ:=ie (top 26) 7
abbrev abc:JJ:=ie (top 26) 8
abbrev a7h:JJ:=ie (top 26) 9
abbrev a7x:JJ:=ie (top 26) 10
abbrev a2s:JJ:=ie (top 26) 11
abbrev a34:JJ:=ie (top 26) 12
inductive KwAt_ex(K:Aa)(C:JA)(H:Hp)(p:JA)(F:eS)(P:eS):Prop
 |mk (pl hd un fu D L Fl)(h0:KnS K C H p pl hd un fu F P L)(h1:NeAt C H p pl hd un fu D (neOf F P))(h2:H fu=eH (.dK (fk Fl)))(h3:AllTold F P L Fl)(h4:Going F P L Fl)(h5:L.length<=400):KwAt_ex K C H p F P
structure KwAt(K:Aa)(C:JA)(H:Hp)(p:JA)(F P:eS):Prop where
 ex:KwAt_ex K C H p F P
theorem KwAt.same(h:KwAt K C H p F P)(e:Same H H'):KwAt K C H' p F P:=by
 let(pl,hd,un,d,D,L,Fl,h1,h2,h3,a,c,b):=h.ex;exact#[pl,hd,un,d,D,L,Fl,h1.same e,h2.same e,e _ _ h3,a,c,b]
theorem nk:∀j∈neOf F P,j<P.length:=λj a=>Ba.mp (Bc.mp a).1
theorem sr(h:P.length<=15):(neOf F P).length<=15:=by
 let:=B2 (λn => !ny P (fq F) n) (AU P.length);rw[Bu] at this;exact AB this h
open Classical in
def mmOf(F P:eS):Fol.Mm:=#[P,λa b=>decide (fq F a=fq F b),λx=>(neOf F P).find? λj=>decide (fq F (place (P.getD j []))=fq F x),λj=>decide (FullR (Un F P) (P.getD j []))]
open Classical in
def ulB(F P:eS)(a b:eZ):fJ:=decide (Un F P a b)
def dbt(F P:eS)(q:eT):eM (eZ×eZ):=q.find? λp => !ulB F P p.1 p.2
def optV:eM eO->V
 |none=>.non
 |some j=>.int (j:eN)
inductive spNumAtS(K:Aa)(C:JA)(vs:eL V)(H:Hp)(Q:VK):Prop
 |mk (p:JA)(F P:eS)(x:eZ)(h0:vs=[.ref p,.str x])(h1:KwAt K C H p F P)(h2:P.length<=15)(h3:(∀r∈P,PartRow r))(h4:∀H',Same H H'->Q (optV ((mmOf F P).num x)) H'):spNumAtS K C vs H Q
def wy(K:Aa)(C:JA):Sp:=λvs H Q _=>spNumAtS K C vs H Q
theorem a3n:∀{l:eL α}{i:eO}{a:α},l[i]?=eH a->(∀b∈l.take i,p b=eK)->p a=eJ->l.find? p=eH a
 |[],_,_,h,_,_=>by simp at h
 |b::l,0,a,h,_,hp=>by cases h;rw[AZ,hp]
 |b::l,i+1,a,h,hn,hp=>by
  rw[AZ,hn b (Af ..)];exact a3n (by simpa using h) (λc d=>hn c (Ah _ d)) hp
theorem a8v(T:Txt K mg C fI)(F:Fun K "number_at" "Knowledge.number_at" a6r f fd)(Z:FnOk P w K mg base CX0 2 gA dA eD (lh C))(S:eC Z C "alike"):FnOk P w K mg base CX0 3 f fd ["self","place"] (wy K C):=by
 refine F.okA ["self","place","number"] λaa A outer s0 H vs Q E W h nd=>?_;let(p,g,b,x,rfl,hw,R,N,q):=h;let ac:=ir W;exists _,fe (ip A7 rfl (i9 (gh (K:=K) rfl (qv 0))) (j2 2 nd) (ff (gg (i6 (gi (qv 0) T.cl S.meth Z W S.bind .nil gn (fx (fj K (i7 K (gh (K:=K) rfl (qv 0)) (qv 2)) fc) (fh (qv 1) ad)))) (ff (fm (qv 2))) ge)))
  (ff (fm gj))
 nofun
 let(pl,hd,un,fu,D,L,Fl,hK,hN,ae,_):=hw.ex;let((hm,uk,t,hok,hU),m,ab):=id hK;let((B,fs,h1,h2,M),U):=id hN;exists _,eY,p,C,B,fs,.ref D,eY,h1,T.cl,T.nE,M,D,eY,#[_,SqL.of U];refine j5 (xs:=(neOf g b).map natV) (λi σ n=>Same H n/\(∀j∈(neOf g b).take i,decide (fq g (place (b.getD j []))=fq g x)=eK)/\∃J:eM V,σ=[eH (.ref p),eH (.str x),J])
  #[Same.refl _,(λj u=>by simp at u),eI,eY] (λi σ n _ pv=>SqL.of (pv.1 _ _ U)) ?_ ?_
 . rintro i v σ n hv ⟨l,d,J,rfl⟩
   nofun
   let G:i<(neOf g b).length:=by let:=(An.mp hv).1;rw[Ad] at this;exact this
   let a:=Ag G;generalize (neOf g b)[i]=j at a;obtain rfl:v=.int ((j:eO):eN):=by
    rw[Ar,a] at hv;exact(Am hv).symm
   let y:=Aq a;let r:=nk _ y;let Y:b[j]?=eH b[j]:=Ag r;let X:b.getD j []=b[j]:=by rw[Ay,Y];rfl
   let et:(neOf g b).take (i+1)=(neOf g b).take i++[j]:=by rw[AJ,a];rfl
   let(af,O,o,s,I):=l9 (m.same l) Y;exists _,eY,p,B,fs,eY,l _ _ h1,h2.meth "alike" (by decide),_,eY,p,C,B,fs,.ref pl,eY,l _ _ h1,T.cl,T.nP,h2.parts,_,eY,pl,_,_,.ref O,eY,eY,SqL.of o,s,O,_,1,_,eY,eY,I,(N _ (AM r)).at1,_,eY,p,pl,hd,un,fu,hm,uk,_,x,eY,t.same l;rw[hok.hd,hok.hd];refine#[_,eY,iteB (λc=>?_) (λc=>?_)];exists _,rfl;let e:(mmOf g b).num x=eH j:=a3n a d (by rw[X];exact c);let:=q n l;rw[e] at this;exact this
   refine#[l,λk t=>?_,_,eY];rw[et] at t;rcases Ab.mp t with z|z;exact d k z;rw[Ae.mp z,X];exact c
 rintro σ n ⟨l,d,J,rfl⟩;rw[Ad,AN] at d;let e:(mmOf g b).num x=eI:=Ci.mpr λj u=>by rw[d j u];exact Az
 let:=q n l;rw[e] at this;exact this
end K34
namespace L2
open PyProof.Rows
end L2
namespace K34
open L2 Mir Kn
def a2n:eU:=["__init__","ask_unlike","holds","take","gives","cell_row","lies_outside","passed","stretch_row","tree_row","row_of","rows_of","leaves_some"]
structure TTxt(K:Aa)(mg:eZ->eM JC)(C fI:JA):Prop where
 cl:Cls K C
 nK:NoAttr K C "knowledge"
 nP:NoAttr K C "parts"
 nT:NoAttr K C "taken"
 nD:NoAttr K C "doubt"
 nA:NoAttr K C "amid"
 mgC:mg "Taking"=eH (.ref C)
 mkC:Mk K C fI
structure TkF(fs:eL (eZ×V))(p pd td da:JA)(dv:V):Prop where
 kn:fs.lookup ("knowledge":eZ)=eH (.ref p)
 parts:fs.lookup ("parts":eZ)=eH (.ref pd)
 taken:fs.lookup ("taken":eZ)=eH (.ref td)
 doubt:fs.lookup ("doubt":eZ)=eH dv
 amid:fs.lookup ("amid":eZ)=eH (.ref da)
 len:fs.length<50
 meth:∀m∈a2n,fs.lookup m=eI
def DbtAt(G:Hp)(dv:V):eM (eZ×eZ)->Prop
 |none=>dv=.non
 |some p=>∃t,dv=.ref t/\G t=eH (.tup [.str p.1,.str p.2])
def amK:eM (eO×eZ)->eL (Key×V)
 |none=>[]
 |some p=>[(Sum.inl ((p.1:eO):eN),.str p.2)]
def XT(q td:JA):JA->Prop:=λb=>b=q\/b=td
inductive TkG_pd(K:Aa)(G:Hp)(pd:JA)(P:eS):Prop
 |mk (rs)(h0:G pd=eH (.dK (kvE 0 (rs.map V.ref))))(h1:JI (λb r=>RowAt K G b r) rs P):TkG_pd K G pd P
structure TkG(K:Aa)(C:JA)(G H:Hp)(td p pd da:JA)(dv:V)(F P:eS)(dq:eT)(am:eM (eO×eZ)):Prop where
 kw:KwAt K C G p F P
 pd:TkG_pd K G pd P
 db:DbtAt H dv (dbt F P dq)
 am:H da=eH (.dK (amK am))
 da:da≠td
inductive TkAt_ex(K:Aa)(C:JA)(C2:JA)(G:Hp)(H:Hp)(q:JA)(td:JA)(F:eS)(P:eS)(dq:eT)(am:eM (eO×eZ)):Prop
 |mk (p pd da dx fs dv)(h0:H q=eH (.ins C2 dx fs))(h1:TkF fs p pd td da dv)(h2:TkG K C G H td p pd da dv F P dq am):TkAt_ex K C C2 G H q td F P dq am
structure TkAt(K:Aa)(C C2:JA)(G H:Hp)(q td:JA)(F P:eS)(tk:eL eO)(dq:eT)(am:eM (eO×eZ)):Prop where
 ex:TkAt_ex K C C2 G H q td F P dq am
 tk:H td=eH (.dK (fk tk))
 sub:∀b o,G b=eH o->H b=eH o/\¬ XT q td b
theorem ig(e:Same H H'):∀{rs:eL JA}{P:eS},JI (λb r=>RowAt K H b r) rs P->JI (λb r=>RowAt K H' b r) rs P
 |_,_,.nil=>.nil
 |_,_,.cons h t=>.cons (h.same e) (ig e t)
theorem DbtAt.same(h:DbtAt H dv o)(e:∀t xs,H t=eH (.tup xs)->H' t=eH (.tup xs)):DbtAt H' dv o:=by
 cases o with|none=>exact h|some z=>let(t,h3,a):=h;exact#[t,h3,e _ _ a]
open Classical in
theorem ulB_iff:ulB F P a b=eJ↔Un F P a b:=by unfold ulB;exact decide_eq_true_iff
theorem ac9(F P:eS)(q:eT)(a b:eZ):dbt F P (q++[(a,b)])=match dbt F P q with|some z=>eH z|none=>if ulB F P a b=eJ then eI else eH (a,b):=by
 unfold dbt;rw[HJ];cases q.find? λp => !ulB F P p.1 p.2 with
 |some z=>rfl
 |none =>
  simp only[Option.none_or,AZ,List.find?_nil];cases ulB F P a b<;>rfl
section
variable{K:Aa}{C C2:JA}{G H:Hp}{q td:JA}{F P:eS}{tk:eL eO}{dq:eT}{am:eM (eO×eZ)} in
theorem TkAt.sm(h:TkAt K C C2 G H q td F P tk dq am):Same G H:=λb o a=>(h.sub b o a).1
variable{K:Aa}{C C2:JA}{G H:Hp}{q td:JA}{F P:eS}{tk:eL eO}{dq:eT}{am:eM (eO×eZ)} in
theorem TkAt.ne(h:TkAt K C C2 G H q td F P tk dq am):q≠td:=by
 let(p,pd,da,a,fs,dv,h1,_):=h.ex;exact j1 h1 h.tk (λz=>nomatch z)
variable{K:Aa}{C C2:JA}{G H H':Hp}{q td:JA}{F P:eS}{tk:eL eO}{dq:eT}{am:eM (eO×eZ)} in
theorem TkAt.subK(h:TkAt K C C2 G H q td F P tk dq am)(k:Kp (XT q td) H H'):∀b o,G b=eH o->H' b=eH o/\¬ XT q td b:=λb o a=>#[k b o (h.sub b o a).1 (h.sub b o a).2,(h.sub b o a).2]
variable{K:Aa}{C C2:JA}{G H H':Hp}{q td:JA}{F P:eS}{tk tk':eL eO}{dq:eT}{am:eM (eO×eZ)} in
theorem TkAt.move(h:TkAt K C C2 G H q td F P tk dq am)(e:∀b o,H b=eH o->(∀xs,o≠.lst xs)->b≠td->H' b=eH o)(c:∀b o,G b=eH o->H' b=eH o)(d:H' td=eH (.dK (fk tk'))):TkAt K C C2 G H' q td F P tk' dq am:=by
 let(p,pd,da,f,fs,dv,h1,h2,hG):=h.ex;exact#[#[p,pd,da,f,fs,dv,e _ _ h1 (λ_ z=>nomatch z) h.ne,h2,hG.kw,hG.pd,hG.db.same λt xs z=>e _ _ z (λ_ z=>nomatch z) (j1 z h.tk (λz=>nomatch z)),e _ _ hG.am (λ_ z=>nomatch z) hG.da,hG.da],d,λb o a=>#[c b o a,(h.sub b o a).2]]
variable{K:Aa}{C C2:JA}{G H H':Hp}{q td:JA}{F P:eS}{tk:eL eO}{dq:eT}{am:eM (eO×eZ)} in
theorem TkAt.same(h:TkAt K C C2 G H q td F P tk dq am)(e:Same H H'):TkAt K C C2 G H' q td F P tk dq am:=h.move (λb o a _ _=>e b o a) (λb o a=>e _ _ (h.sm _ _ a)) (e _ _ h.tk)
variable{K:Aa}{C C2:JA}{G H H':Hp}{q td:JA}{F P:eS}{tk tk':eL eO}{dq:eT}{am:eM (eO×eZ)} in
theorem TkAt.put(h:TkAt K C C2 G H q td F P tk dq am)(k:Kp (· = td) H H')(c:H' td=eH (.dK (fk tk'))):TkAt K C C2 G H' q td F P tk' dq am:=h.move (λb o a _ n=>k b o a n) (λb o a=>k _ _ (h.sm _ _ a) λz=>(h.sub b o a).2 (.inr z)) c
variable{K:Aa}{C C2:JA}{G H:Hp}{q td:JA}{F P:eS}{tk:eL eO}{dq:eT}{am:eM (eO×eZ)} in
theorem TkAt.lput(h:TkAt K C C2 G H q td F P tk dq am){D:JA}(d:G D=eI){xs:eL V}(c:H D=eH (.lst xs))(ys:eL V):TkAt K C C2 G (upd H D (.lst ys)) q td F P tk dq am:=h.move (λb o a n _=>by rw[fg (j1 a c (n xs))];exact a) (λb o a=>by rw[fg (gb a d)];exact h.sm _ _ a) (by rw[fg (j1 h.tk c (λz=>nomatch z))];exact h.tk)
theorem af1(h:¬ j∈tk):putK (fk tk) (Sum.inl ((j:eO):eN)) (.bl eJ)=fk (tk++[j]):=by
 rw[l6];unfold fk;rw[Av];rfl
 let:=qk (Fl:=tk) (n:=j);rw[fA h] at this;cases hz:valV (fk tk) (Sum.inl ((j:eO):eN)) with|none=>rfl|some v=>rw[hz] at this;cases this
end
structure Rd0(F P:eS):Prop where
 facts:∀r∈F,gw r
 parts:∀r∈P,PartRow r
 len:P.length<=15
inductive spTakeS(K:Aa)(C C2:JA)(vs:eL V)(H:Hp)(Q:VK):Prop
 |mk (G:Hp)(q td:JA)(F P:eS)(tk:eL eO)(dq:eT)(am:eM (eO×eZ))(x:eZ)(h0:vs=[.ref q,.str x])(h1:TkAt K C C2 G H q td F P tk dq am)(h2:Rd0 F P)(h3:tk.length<=100)(h4:∀H',Kp (· = td) H H'->TkAt K C C2 G H' q td F P (tk++(Fol.takeF (mmOf F P) tk x).toList) dq am->Q (optV (Fol.takeF (mmOf F P) tk x)) H'):spTakeS K C C2 vs H Q
def wb(K:Aa)(C C2:JA):Sp:=λvs H Q _=>spTakeS K C C2 vs H Q
inductive spGivesS(K:Aa)(C C2:JA)(vs:eL V)(H:Hp)(Q:VK):Prop
 |mk (G:Hp)(q td:JA)(F P:eS)(tk:eL eO)(dq:eT)(am:eM (eO×eZ))(f a:eZ)(h0:vs=[.ref q,.str f,.str a])(h1:TkAt K C C2 G H q td F P tk dq am)(h2:Q (.bl (Fol.givesF (mmOf F P) f a)) H):spGivesS K C C2 vs H Q
def a2x(K:Aa)(C C2:JA):Sp:=λvs H Q _=>spGivesS K C C2 vs H Q
inductive spAskUS(K:Aa)(C C2:JA)(vs:eL V)(H:Hp)(Q:VK):Prop
 |mk (G:Hp)(q td:JA)(F P:eS)(tk:eL eO)(dq:eT)(am:eM (eO×eZ))(a b:eZ)(h0:vs=[.ref q,.str a,.str b])(h1:TkAt K C C2 G H q td F P tk dq am)(h2:Rd0 F P)(h3:∀H',Kp (XT q td) H H'->TkAt K C C2 G H' q td F P tk (dq++[(a,b)]) am->Q .non H'):spAskUS K C C2 vs H Q
def wn(K:Aa)(C C2:JA):Sp:=λvs H Q _=>spAskUS K C C2 vs H Q
theorem adn(T:Txt K mg C fI)(a:TTxt K mg C2 W)(F:Fun K "take" "Taking.take" abf f fd)(GN:FnOk P w K mg base CX0 3 gN dN eD (wy K C))(O:eC GN C "number_at"):FnOk P w K mg base CX0 4 f fd ["self","place"] (wb K C C2):=by
 refine F.okA ["self","place","number"] λX A outer s0 H vs Q E R h nd=>?_;let(G,r,td,m,l,tk,dq,am,x,rfl,u,S,I,q):=h;let g:=ir R;exists _,fe (gd 2 nd (gi (gh (K:=K) rfl (qv 0)) T.cl O.meth GN R O.bind .nil gn (fh (qv 1) ad)))
  (fe (gg (QW.qt (jg (fz (aen g) (qv 2) (gh (K:=K) rfl (qv 0)) (by with_unfolding_all rfl)) (jp (t0 g (qv 2) (gh (K:=K) rfl (qv 0)))))) (ff (fm gj)) ge)
  (fe (ld g (gh (K:=K) rfl (qv 0)) (qv 2) mh)
  (ff (fm (qv 2)))))
 nofun
 let(p,pd,da,t,fs,dv,h1,h2,hG):=u.ex;let kw:KwAt K C H p m l:=hG.kw.same u.sm;let(rs,h4,h5):=hG.pd;let(pl,hd,un,fu,D,L,Fl,hK,hN,aa,_):=kw.ex;let((N,J,g1,Y,_),_):=id hN;refine#[_,eY,r,C2,t,fs,.ref p,eY,h1,a.cl,a.nK,h2.kn,p,N,J,eY,g1,Y.meth "number_at" (by decide),_,eY,p,m,l,x,eY,kw,S.len,S.parts,λz e=>?_];let d:=u.same e;let s:z pd=eH (.dK (kvE 0 (rs.map V.ref))):=e _ _ (u.sm _ _ h4);cases hn:(mmOf m l).num x with
 |none =>
  let v:Fol.takeF (mmOf m l) tk x=eI:=by unfold Fol.takeF;rw[hn]
  refine#[_,eY,_,eY,r,C2,t,fs,.ref pd,eY,e _ _ h1,a.cl,a.nP,h2.parts,pd,_,eY,s,.inl #[eY,_,eY,?_]];let:=q z (λb o y _=>e _ _ y);rw[v] at this;exact this (by rw[show(eI:eM eO).toList=[] from rfl,A0];exact d)
 |some j =>
  let U:j∈neOf m l:=Bg hn;let M:j<rs.length:=by rw[A4 h5];exact nk j U
  let gp:valV (kvE 0 (rs.map V.ref)) (Sum.inl ((j:eO):eN))=eH (.ref rs[j]):=by rw[vq,Ar,Ag M];rfl
  let Z:=DGet.k (k:=Sum.inl ((j:eO):eN)) d.tk;refine#[_,eY,_,eY,r,C2,t,fs,.ref pd,eY,e _ _ h1,a.cl,a.nP,h2.parts,pd,_,eY,s,.inr #[_,eY,?_]];rw[gp];exists _,rfl;exists _,eY,_,eY,r,C2,t,fs,.ref td,eY,e _ _ h1,a.cl,a.nT,h2.taken,td,_,eY,Z,_,rfl;rw[qk];refine iteB (λc=>?_) (λc=>?_)
  . let B:=fC c;let v:Fol.takeF (mmOf m l) tk x=eI:=by unfold Fol.takeF;rw[hn];exact eQ B
    let:=q z (λb o y _=>e _ _ y);rw[v] at this;exact this (by rw[show(eI:eM eO).toList=[] from rfl,A0];exact d)
  let B:=fD c;let v:Fol.takeF (mmOf m l) tk x=eH j:=by unfold Fol.takeF;rw[hn];exact eP B
  exists _,eY,r,C2,t,fs,.ref td,eY,e _ _ h1,a.cl,a.nT,h2.taken,_,eY,td,_,eY,DPut.k (k:=Sum.inl ((j:eO):eN)) d.tk (by unfold fk;rw[Ad];exact AH I (by decide));rw[af1 B];exists _,rfl;let k1:Kp (· = td) H (upd z td (.dK (fk (tk++[j])))):=λb o y n=>by rw[fg n];exact e _ _ y
  let:=q _ k1;rw[v] at this;exact this (u.put k1 fb)
theorem a8y(T:Txt K mg C Y)(k:TTxt K mg C2 n)(F:Fun K "gives" "Taking.gives" a61 f fd)(o:FnOk P w K mg base CX0 2 O z eD (lh C))(l:eC o C "alike"):FnOk P w K mg base CX0 3 f fd ["self","found","asked"] (a2x K C C2):=by
 refine F.okA ["self","found","asked"] λr A outer s0 H vs Q E N h _=>?_;let(G,x,td,R,B,tk,dq,am,u,a,rfl,m,q):=h;exists _,(ff (fm (zr (io gq (qv 2) gt (fy _)) (lm (om (io km (qv 1) gt (fy _)) (lm (gi (gh (K:=K) rfl (qv 0)) T.cl l.meth o N l.bind .nil gn (fh (qv 1) (fh (qv 2) ad)))))))));let(p,pd,da,I,fs,dv,h1,h2,hG):=m.ex;let kw:KwAt K C H p R B:=hG.kw.same m.sm;let(pl,hd,un,J,D,L,Fl,S,W,y,_):=kw.ex;let((hm,M,U,hok,X),i,t):=id S;let((j,e,g1,s,_),_):=id W;unfold Fol.givesF at q;refine#[_,eY,eY,_,eY,iteB (λc=>?_) (λc=>?_)]
 . let g:a="any" := by simpa using c
   rw[fB g] at q;exact q
 let g:¬ a="any" := by simpa using c
 rw[fA g] at q;refine#[_,eY,eY,_,eY,iteB (λd=>?_) (λd=>?_)]
 . let b:¬ u="any" := by simpa using d
   rw[fA b] at q;exists _,eY,x,C2,I,fs,.ref p,eY,h1,k.cl,k.nK,h2.kn,p,j,e,eY,g1,s.meth "alike" (by decide),_,eY,_,eY,p,pl,hd,un,J,hm,M,u,a,eY,U;rw[hok.hd,hok.hd];exact q
 let b:u="any" := by simpa using d
 rw[fB b] at q;exact q
theorem a4q:∀m∈a2n,m≠("parts":eZ)/\m≠("knowledge":eZ)/\m≠("taken":eZ)/\m≠("doubt":eZ)/\m≠("amid":eZ):=by decide
theorem a50:("parts":eZ)≠"taken" /\ ("parts":eZ)≠"doubt" /\ ("parts":eZ)≠"amid" /\ ("knowledge":eZ)≠"parts" /\ ("knowledge":eZ)≠"taken" /\ ("knowledge":eZ)≠"doubt" /\ ("knowledge":eZ)≠"amid" /\ ("taken":eZ)≠"doubt" /\ ("taken":eZ)≠"amid" /\ ("doubt":eZ)≠"amid" := by decide
theorem vc:∀{fs:eL (eZ×V)},fs.lookup x=eH o->(putF x v fs).length=fs.length
 |[],h=>by cases h
 | (y,z)::fs,h=>by
  by_cases c:x=y;subst c;unfold putF;rw[eQ rfl];rfl;unfold putF;rw[eP (λe=>c e.symm)];rw[Aw,Aw,vc (fs:=fs) (o:=o) (by rw[HY,show(x==y)=eK from by simpa using c] at h;exact h)]
theorem TkF.setD(h:TkF fs p pd td da dv)(v:V):TkF (putF "doubt" v fs) p pd td da v:=by
 let(n1,n2,i,f,e,b,g,c,d,a):=a50;refine#[?_,?_,?_,?_,?_,by rw[vc h.doubt];exact h.len,λm hm=>?_];rw[ft,eP b];exact h.kn;rw[ft,eP n2];exact h.parts;rw[ft,eP c];exact h.taken;rw[ft,eQ rfl];rw[ft,eP (AF a)];exact h.amid;rw[ft,eP (a4q m hm).2.2.2.1];exact h.meth m hm
theorem TkF.setA(h:TkF fs p pd td da dv)(a:JA):TkF (putF "amid" (.ref a) fs) p pd td a dv:=by
 let(n1,n2,e,j,f,g,d,i,c,b):=a50;refine#[?_,?_,?_,?_,?_,by rw[vc h.amid];exact h.len,λm hm=>?_];rw[ft,eP d];exact h.kn;rw[ft,eP e];exact h.parts;rw[ft,eP c];exact h.taken;rw[ft,eP b];exact h.doubt;rw[ft,eQ rfl];rw[ft,eP (a4q m hm).2.2.2.2];exact h.meth m hm
theorem adr(T:Txt K mg C fI)(l:TTxt K mg C2 U)(F:Fun K "ask_unlike" "Taking.ask_unlike" abp f fd)(GU:FnOk P w K mg base CX0 2 gU dU eD (v4 C))(R:eC GU C "unlike"):FnOk P w K mg base CX0 3 f fd ["self","one","other"] (wn K C C2):=by
 refine F.okA ["self","one","other"] λW A outer s0 H vs Q E hr h _=>?_;let(G,m,td,k,i,tk,dq,am,a,b,rfl,j,hR,q):=h;exists _,(ff (gg (QW.qt (ls (fz kx (gh (K:=K) rfl (qv 0)) gj (fy _)) (lb (jc (i6 (gi (gh (K:=K) rfl (qv 0)) T.cl R.meth GU hr R.bind .nil gn (fh (qv 1) (fh (qv 2) ad)))))))) (ff (kh (K:=K) rfl (qv 0) (i3 (fh (qv 1) (fh (qv 2) ad))))) ge));let u:=j.ne;let(p,pd,da,r,fs,dv,h1,h2,hG):=id j.ex;let kw:KwAt K C H p k i:=hG.kw.same j.sm;let(pl,hd,un,fu,D,L,Fl,hK,hN,aa,hA,y,_):=kw.ex;let((hm,S,hk,hok,X),N,Z):=id hK;let((O,J,g1,Y,_),_):=id hN;let e:=hG.db;let c:=ac9 k i dq a b;let stay:∀g,Same H g->dbt k i (dq++[(a,b)])=dbt k i dq->Q .non g:=λg d he=>by
  let v:=j.same d;refine q g (λb o M _=>d _ _ M) #[#[p,pd,da,r,fs,dv,d _ _ h1,h2,hG.kw,hG.pd,by rw[he];exact hG.db.same λt xs z=>d _ _ z,d _ _ hG.am,hG.da],v.tk,v.sub]
 exists _,eY,m,C2,r,fs,dv,eY,h1,l.cl,l.nD,h2.doubt,eY,_,rfl;cases hz:dbt k i dq with
 |some z =>
  rw[hz] at e c;let(t,rfl,_):=e;exact stay H (Same.refl _) (by rw[c,hz])
 |none =>
  rw[hz] at e c;let B:dv=.non:=e;subst B;refine#[_,eY,m,C2,r,fs,.ref p,eY,h1,l.cl,l.nK,h2.kn,p,O,J,eY,g1,Y.meth "unlike" (by decide),_,eY,_,eY,p,pl,hd,un,fu,hm,S,a,b,eY,hk,λg d=>?_];let eu:(valV S [Sum.inr (hdS hm a),Sum.inr (hdS hm b)]).isSome=ulB k i a b:=by
   rw[hok.hd,hok.hd,Bd,X.told a b,a7f hR.facts hA y.sound];exact(ulB_iff).symm
  rw[eu];cases hu:ulB k i a b with
  |true =>
   rw[hu] at c;exact#[_,eY,stay g d (by rw[c,hz];rfl)]
  |false =>
   rw[hu] at c;exists _,rfl;refine#[_,eY,_,eY,eV,λt s=>?_];let x:=fi s (.tup [.str a,.str b]);exists _,eY,m,C2,r,fs,eY,x _ _ (d _ _ h1),l.cl,l.nD,DR h2.len (by decide);let k3:Kp (XT m td) H (upd (upd g t (.tup [.str a,.str b])) m (.ins C2 r (putF "doubt" (.ref t) fs))):=λb o M n=>by rw[fg (λz=>n (.inl z))];exact x _ _ (d _ _ M)
   let I:t≠m:=λz=>by rw[z,d _ _ h1] at s;cases s
   let ab:t≠td:=λz=>by rw[z,d _ _ j.tk] at s;cases s
   refine q _ k3 #[#[p,pd,da,r,_,.ref t,fb,h2.setD _,hG.kw,hG.pd,?_,?_,hG.da],?_,j.subK k3];rw[c];exact#[t,eY,by rw[fg I,fb]];rw[fg (j1 hG.am h1 (λz=>nomatch z))];exact x _ _ (d _ _ hG.am);rw[fg (AF u)];exact x _ _ (d _ _ j.tk)
theorem ae1(d:RowAt K H b r)(k:Kp (XT q td) H H')(c:H q=eH (.ins C2 e fs))(a:H td=eH (.dK kvs)):RowAt K H' b r:=by
 rcases d with (h|⟨o,h⟩)|h
 . exact .inl (.inl (k _ _ h (λz=>z.elim (j1 h c (λz=>nomatch z)) (j1 h a (λz=>nomatch z)))))
 . exact .inl (.inr #[o,k _ _ h (λz=>z.elim (j1 h c (λz=>nomatch z)) (j1 h a (λz=>nomatch z)))])
 exact .inr h
section
variable{K:Aa}{C C2:JA}{G H H':Hp}{q td:JA}{F P:eS}{tk:eL eO}{dq:eT}{am:eM (eO×eZ)} in
theorem TkAt.row(h:TkAt K C C2 G H q td F P tk dq am){b:JA}{r:eU}(a:RowAt K H b r)(k:Kp (XT q td) H H'):RowAt K H' b r:=by
 let(p,pd,da,c,fs,dv,h1,_):=h.ex;exact ae1 a k h1 h.tk
theorem TkAt.lst{K:Aa}{C C2:JA}{G H:Hp}{q td:JA}{F P:eS}{tk:eL eO}{dq:eT}{am:eM (eO×eZ)}(h:TkAt K C C2 G H q td F P tk dq am){b:JA}{xs:eL V}(a:H b=eH (.lst xs)):¬ XT q td b:=λz=>by
 let(p,pd,da,c,fs,dv,h1,_):=h.ex;exact z.elim (j1 a h1 (λz=>nomatch z)) (j1 a h.tk (λz=>nomatch z))
variable{K:Aa}{C C2:JA}{G H:Hp}{q td:JA}{F P:eS}{tk:eL eO}{dq:eT}{am:eM (eO×eZ)} in
theorem TkAt.free(h:TkAt K C C2 G H q td F P tk dq am){b:JA}(a:H b=eI):¬ XT q td b:=λz=>by
 let(p,pd,da,c,fs,dv,h1,_):=h.ex;exact z.elim (λz=>by rw[z,h1] at a;cases a) (λz=>by rw[z,h.tk] at a;cases a)
theorem Kp.tr(k:Kp X H H')(k2:Kp X H' c):Kp X H c:=λb o a n=>k2 b o (k b o a n) n
theorem Kp.sm(e:Same H H'):Kp X H H':=λb o a _=>e b o a
theorem Kp.ofT(k:Kp (· = td) H H'):Kp (XT q td) H H':=λb o a n=>k b o a λz=>n (.inr z)
theorem xv(h:TkAt K C C2 G H q td F P tk dq am)(c:P[j]?=eH r):∃p pd da a fs dv,H q=eH (.ins C2 a fs)/\TkF fs p pd td da dv/\KwAt K C H p F P/\∃kvs b,H pd=eH (.dK kvs)/\valV kvs (Sum.inl ((j:eO):eN))=eH (.ref b)/\RowAt K H b r:=by
 let(p,pd,da,a,fs,dv,h1,h2,hG):=h.ex;let(rs,e,d):=hG.pd;let hl:j<rs.length:=by rw[A4 d];exact(An.mp c).1
 refine#[p,pd,da,a,fs,dv,h1,h2,hG.kw.same h.sm,_,rs[j],h.sm _ _ e,?_,(Paired.at2 d (Ag hl) c).same h.sm];rw[vq,Ar,Ag hl];rfl
end
open Classical in
theorem full_iff:(mmOf F P).full i=eJ↔FullR (Un F P) (P.getD i []):=by unfold mmOf;exact decide_eq_true_iff
def alB(F:eS)(a b:eZ):fJ:=decide (fq F a=fq F b)
inductive spHoldsTS(K:Aa)(C C2:JA)(vs:eL V)(H:Hp)(Q:VK):Prop
 |mk (G:Hp)(q td t:JA)(F P:eS)(tk:eL eO)(dq:eT)(am:eM (eO×eZ))(k a b:eZ)(h0:vs=[.ref q,.ref t])(h1:TkAt K C C2 G H q td F P tk dq am)(h2:Rd0 F P)(h3:RowAt K H t [k,a,b])(h4:∀H',Kp (XT q td) H H'->TkAt K C C2 G H' q td F P tk (if k="is" then dq else dq++[(a,b)]) am->Q (.bl (if k="is" then alB F a b else !alB F a b)) H'):spHoldsTS K C C2 vs H Q
def a1o(K:Aa)(C C2:JA):Sp:=λvs H Q _=>spHoldsTS K C C2 vs H Q
inductive spLiesS(K:Aa)(C C2:JA)(vs:eL V)(H:Hp)(Q:VK):Prop
 |mk (G:Hp)(q td:JA)(F P:eS)(tk:eL eO)(dq:eT)(am:eM (eO×eZ))(j:eO)(e:eZ)(h0:vs=[.ref q,.int (j:eN),.str e])(h1:TkAt K C C2 G H q td F P tk dq am)(h2:Rd0 F P)(h3:(∀lo,Fol.liesF (mmOf F P) e=eH lo->∀H',Kp (XT q td) H H'->TkAt K C C2 G H' q td F P tk (dq++lo) am->Q (.bl eJ) H'))(h4:(Fol.liesF (mmOf F P) e=eI->∀H',Kp (XT q td) H H'->TkAt K C C2 G H' q td F P tk dq (eH (j,e))->Q (.bl eK) H')):spLiesS K C C2 vs H Q
def a6t(K:Aa)(C C2:JA):Sp:=λvs H Q _=>spLiesS K C C2 vs H Q
theorem a66(T:Txt K mg C fI)(m:TTxt K mg C2 Z)(F:Fun K "holds" "Taking.holds" a3a f fd)(U:FnOk P w K mg base CX0 2 gA dA eD (lh C))(s:eC U C "alike")(GK:FnOk P w K mg base CX0 3 gK dK eE (wn K C C2))(W:eC GK C2 "ask_unlike"):FnOk P w K mg base CX0 4 f fd ["self","fact"] (a1o K C C2):=by
 refine F.okA ["self","fact"] λaa A outer s0 H vs Q E Y h _=>?_;let(G,u,td,t,N,B,tk,dq,am,k,a,b,rfl,r,hR,X,q):=h;let o:=Y.mono (j:=2) (by lia);exists _,fe (gg (fz gq (fj K (qv 1) fc) gt (fy _)) (ff (fm (gi (gh (K:=K) rfl (qv 0)) T.cl s.meth U o s.bind .nil gn (fx (fj K (qv 1) fc) (fx (fj K (qv 1) fc) ad))))) ge)
  (fe (il (gi (qv 0) m.cl W.meth GK Y W.bind .nil gn (fx (fj K (qv 1) fc) (fx (fj K (qv 1) fc) ad))))
  (ff (fm (vr (gi (gh (K:=K) rfl (qv 0)) T.cl s.meth U o s.bind .nil gn (fx (fj K (qv 1) fc) (fx (fj K (qv 1) fc) ad)))))))
 nofun
 let(p,pd,da,v,fs,dv,h1,h2,hG):=r.ex;let d:SqT K H t ([k,a,b].map V.str):=X;refine#[_,eY,t,_,0,.str k,eY,eY,d,eY,eY,_,eY,iteB (λc=>?_) (λc=>?_)]
 . let I:k="is" := by simpa using c
   simp only[eQ I] at q;let kw:KwAt K C H p N B:=hG.kw.same r.sm;let(pl,hd,un,J,D,L,Fl,O,S,_):=kw.ex;let((hm,M,R,hok,hU),i,y):=id O;let((l,e,g1,x,_),_):=id S;exists _,eY,u,C2,v,fs,.ref p,eY,h1,m.cl,m.nK,h2.kn,p,l,e,eY,g1,x.meth "alike" (by decide),_,eY,t,_,1,.str a,eY,eY,d,eY,_,eY,t,_,2,.str b,eY,eY,d,eY,p,pl,hd,un,J,hm,M,a,b,eY,R;rw[hok.hd,hok.hd];exact q H (Kp.sm (Same.refl _)) r
 let I:¬ k="is" := by simpa using c
 simp only[eP I] at q;refine#[_,eY,u,v,fs,eY,h1,h2.meth "ask_unlike" (by decide),_,eY,t,_,1,.str a,eY,eY,d,eY,_,eY,t,_,2,.str b,eY,eY,d,eY,G,u,td,N,B,tk,dq,am,a,b,eY,r,hR,λz k1 g=>?_];let n:SqT K z t ([k,a,b].map V.str):=r.row X k1;let(p,pd,da,v,fs,dv,h1,h2,hG):=g.ex;let kw:KwAt K C z p N B:=hG.kw.same g.sm;let(pl,hd,un,J,D,L,Fl,O,S,_):=kw.ex;let((hm,M,R,hok,hU),i,y):=id O;let((l,e,g1,x,_),_):=id S;exists _,eY,u,C2,v,fs,.ref p,eY,h1,m.cl,m.nK,h2.kn,p,l,e,eY,g1,x.meth "alike" (by decide),_,eY,t,_,1,.str a,eY,eY,n,eY,_,eY,t,_,2,.str b,eY,eY,n,eY,p,pl,hd,un,J,hm,M,a,b,eY,R;rw[hok.hd,hok.hd];exact#[_,eY,q z k1 g]
theorem acm(T:Txt K mg C fI)(s:TTxt K mg C2 ap)(F:Fun K "lies_outside" "Taking.lies_outside" abe f fd)(GA:FnOk P w K mg base CX0 2 gA dA eD (lh C))(cA:eC GA C "alike")(GN:FnOk P w K mg base CX0 3 gN dN eE (wy K C))(cN:eC GN C "number_at")(GE:FnOk P w K mg base CX0 1 gE dE ["part"] (vv K))(cE:Cal K mg "ends_of" gE dE ["part"])(GK:FnOk P w K mg base CX0 3 gK dK ["self","one","other"] (wn K C C2))(cK:MCal K C2 "ask_unlike" gK dK ["self","one","other"]):FnOk P w K mg base CX0 4 f fd ["self","number","end"] (a6t K C C2):=by
 refine F.okA ["self","number","end","other","ends"] λaq A outer s0 H vs Q E Z h nd=>?_;let(G,x,td,r,d,tk,dq,am,j,e,rfl,B,hR,qs,qn):=h;let ag:=ir Z;let al:=Z.mono (j:=1) (by lia);let ai:=Z.mono (j:=2) (by lia);exists _,fe (gg (i6 (gi (gh (K:=K) rfl (qv 0)) T.cl cA.meth GA ai cA.bind .nil gn (fh (qv 2) (gm ad)))) (ff (fm mh)) ge)
  (fe (gd 3 nd (gi (gh (K:=K) rfl (qv 0)) T.cl cN.meth GN Z cN.bind .nil gn (fh (qv 2) ad)))
  (fe (gg (fz kx (qv 3) gj (fy _)) (fe (kh (K:=K) rfl (qv 0) (qw (qv 1) (qv 2)))
  (ff (fm mh))) ge)
  (fe (gg (ko ag (qv 3) (gh (K:=K) rfl (gh (K:=K) rfl (qv 0)))) (fe (gd 4 nd (gx GE al cE (fx (i7 K (gh (K:=K) rfl (gh (K:=K) rfl (qv 0))) (qv 3)) ad)))
  (ff (il (gi (qv 0) s.cl cK.meth GK Z cK.bind .nil gn (fx (fj K (qv 4) fc) (fx (fj K (qv 4) fc) ad)))))) ge)
  (ff (fm mh)))))
 nofun
 let X:=B.ne;let(p,pd,da,J,fs,dv,h1,h2,hG):=id B.ex;let kw:KwAt K C H p r d:=hG.kw.same B.sm;let(pl,hd,un,fu,D,L,Fl,hK,hN,ah,hA,ab,_):=kw.ex;let((hm,uk,hk,hok,hU),N,ar):=id hK;let((I,y,g1,g2,_),_):=id hN;exists _,eY,x,C2,J,fs,.ref p,eY,h1,s.cl,s.nK,h2.kn,p,I,y,eY,g1,g2.meth "alike" (by decide),_,eY,p,pl,hd,un,fu,hm,uk,e,"nil",eY,hk;rw[hok.hd,hok.hd];refine#[_,eY,iteB (λc=>?_) (λc=>?_)];exact qs [] (by unfold Fol.liesF;exact eQ c) H (Kp.sm (Same.refl _)) (by rw[A0];exact B)
 let W:Fol.liesF (mmOf r d) e=match (mmOf r d).num e with|none=>eI|some i=>if(mmOf r d).full i=eJ then eH [] else eH [(place (d.getD i []),end2 (d.getD i []))]:=by
  unfold Fol.liesF;exact eP (by show ¬ decide (fq r e=fq r "nil")=eJ;rw[c];exact Az)
 refine#[_,eY,x,C2,J,fs,.ref p,eY,h1,s.cl,s.nK,h2.kn,p,I,y,eY,g1,g2.meth "number_at" (by decide),_,eY,p,r,d,e,eY,kw,hR.len,hR.parts,λU l=>?_];let ak:=B.same l;cases hn:(mmOf r d).num e with
 |none =>
  rw[hn] at W;exists _,eY,eY,_,rfl;refine λv m=>?_;let s2:=fi m (.dK []);exists _,eY,_,eY,fb,[(Sum.inl ((j:eO):eN),.str e)],eY,(show 1<=15 by decide);let R:Same U (upd (upd U v (.dK [])) v (.dK (j9 [] [(Sum.inl ((j:eO):eN),.str e)]))):=ia m s2 _;let q3:(upd (upd U v (.dK [])) v (.dK (j9 [] [(Sum.inl ((j:eO):eN),.str e)]))) v=eH (.dK (amK (eH (j,e)))):=by rw[fb];rfl
  generalize upd (upd U v (.dK [])) v (.dK (j9 [] [(Sum.inl ((j:eO):eN),.str e)]))=H3 at R q3 |-;exists _,eY,x,C2,J,fs,eY,R _ _ (l _ _ h1),s.cl,s.nA,DR h2.len (by decide);let k3:Kp (XT x td) H (upd H3 x (.ins C2 J (putF "amid" (.ref v) fs))):=λb o hb n=>by rw[fg (λz=>n (.inl z))];exact R _ _ (l _ _ hb)
  let af:v≠x:=λz=>by rw[z,l _ _ h1] at m;cases m
  let aj:v≠td:=λz=>by rw[z,l _ _ B.tk] at m;cases m
  refine qn W _ k3 #[#[p,pd,v,J,_,dv,fb,h2.setA _,hG.kw,hG.pd,hG.db.same λt xs z=>by rw[fg (j1 z h1 (λz=>nomatch z))];exact R _ _ (l _ _ z),?_,aj],?_,B.subK k3];rw[fg af];exact q3;rw[fg (AF X)];exact R _ _ (l _ _ B.tk)
 |some i =>
  rw[hn] at W;let hi:i∈neOf r d:=Bg hn;let Y:=nk i hi;let hs:d[i]?=eH d[i]:=Ag Y;let hg:d.getD i []=d[i]:=by rw[Ay,hs];rfl
  let full:i∈Fl↔(mmOf r d).full i=eJ:=by
   rw[full_iff,hg];constructor;intro z;let(r',q1,q2):=ab.isf i z;rw[hs] at q1;cases q1;exact q2;exact λz=>hA.full i _ hs (z.mono λa b u=>xu hR.facts hA u)
  let g:=DGet.k (k:=Sum.inl ((i:eO):eN)) (l _ _ ah);exists _,eY,eY,_,rfl;exists _,eY,_,eY,x,C2,J,fs,.ref p,eY,l _ _ h1,s.cl,s.nK,h2.kn,p,C,I,y,.ref fu,eY,l _ _ g1,T.cl,T.nF,g2.fulls,fu,_,eY,g,_,rfl;rw[qk];refine iteB (λc=>?_) (λc=>?_)
  . let c':¬ i∈Fl:=by simpa using c
    let ao:¬ (mmOf r d).full i=eJ:=λz=>c' (full.mpr z);let ac:Fol.liesF (mmOf r d) e=eH [(place d[i],end2 d[i])]:=by rw[W,<- hg];exact eP ao
    let(au,b4,O,aa,an):=l9 (N.same l) hs;refine#[_,eY,x,C2,J,fs,.ref p,eY,l _ _ h1,s.cl,s.nK,h2.kn,p,C,I,y,.ref pl,eY,l _ _ g1,T.cl,T.nP,g2.parts,_,eY,pl,_,_,.ref b4,eY,eY,SqL.of O,aa,b4,_,eY,an,hR.parts _ (AM Y),λt H2 e2 S=>?_];let M:=l.trans e2;refine#[_,eY,x,J,fs,eY,M _ _ h1,h2.meth "ask_unlike" (by decide),_,eY,t,_,0,.str (place d[i]),eY,eY,S,eY,_,eY,t,_,1,.str (end2 d[i]),eY,eY,S,eY,G,x,td,r,d,tk,dq,am,_,_,eY,B.same M,hR,λH3 k3 ae=>?_];exact qs _ ac H3 (Kp.tr (Kp.sm M) k3) ae
  let c':i∈Fl:=by simpa using c
  exact qs [] (by rw[W];exact eQ (full.mp c')) U (Kp.sm l) (by rw[A0];exact ak)
inductive spPassedS(K:Aa)(C C2:JA)(vs:eL V)(H:Hp)(Q:VK):Prop
 |mk (G:Hp)(q td:JA)(F P:eS)(tk:eL eO)(dq:eT)(am:eM (eO×eZ))(j:eO)(e:eZ)(r:eU)(h0:vs=[.ref q,.int (j:eN),.str e])(h1:TkAt K C C2 G H q td F P tk dq am)(h2:Rd0 F P)(h3:P[j]?=eH r)(h4:(∀a qs,Fol.passF (mmOf F P) j e=.ok a qs->∀H',Kp (XT q td) H H'->TkAt K C C2 G H' q td F P tk (dq++qs) am->Q (.str a) H'))(h5:(Fol.passF (mmOf F P) j e=.amid->∀H' dq',Kp (XT q td) H H'->TkAt K C C2 G H' q td F P tk dq' (eH (j,e))->Q .non H'))(h6:(Fol.passF (mmOf F P) j e=.fail->∀H',Kp (XT q td) H H'->TkAt K C C2 G H' q td F P tk dq am->Q .non H')):spPassedS K C C2 vs H Q
def a04(K:Aa)(C C2:JA):Sp:=λvs H Q _=>spPassedS K C C2 vs H Q
structure TkN(F P:eS)(tk:eL eO):Prop where
 nd:tk.Nodup
 ne:∀j∈tk,j∈neOf F P
theorem TkN.len(h:TkN F P tk)(a:P.length<=15):tk.length<=15:=AB (uh h.nd h.ne) (sr a)
theorem TkN.put(h:TkN F P tk)(c:j∈neOf F P)(hn:¬ j∈tk):TkN F P (tk++[j]):=#[AE.mpr #[h.nd,AI.mpr #[As,AV],λa f b d e=>hn (by rw[<- Ae.mp d,<- e];exact f)],λi hi=>by
 rcases Ab.mp hi with z|z;exact h.ne i z
 rw[Ae.mp z];exact c]
theorem xk(h:Fol.takeF (mmOf F P) tk x=eH j):j∈neOf F P/\¬ j∈tk:=by
 let(h1,h2):=Fol.takeF_some h;exact#[Bg h1,h2]
def RowQ(K:Aa)(C C2:JA)(G H:Hp)(q td:JA)(F P:eS)(tk:eL eO)(dq:eT)(am:eM (eO×eZ))(e:eZ)(Q:VK)(res:Fol.SRes):Prop :=
 (∀js qs,res=.ok js qs->∀D xs H',Kp (XT q td) H H'->TkAt K C C2 G H' q td F P (tk++js) (dq++qs) am->TkN F P (tk++js)->H' D=eH (.lst xs)->Q (.ref D) H')/\
 (∀j,res=.amid j->∀H' tk' dq',Kp (XT q td) H H'->TkAt K C C2 G H' q td F P tk' dq' (eH (j,e))->Q .non H')/\
 (res=.fail->∀H' tk' dq',Kp (XT q td) H H'->TkAt K C C2 G H' q td F P tk' dq' am->Q .non H')
inductive spRowS(K:Aa)(C C2:JA)(R:eU->Prop)(vs:eL V)(H:Hp)(Q:VK):Prop
 |mk (G:Hp)(q td b:JA)(F P:eS)(tk:eL eO)(dq:eT)(am:eM (eO×eZ))(r:eU)(h0:vs=[.ref q,.ref b])(h1:TkAt K C C2 G H q td F P tk dq am)(h2:Rd0 F P)(h3:TkN F P tk)(h4:RowAt K H b r)(h5:R r)(h6:RowQ K C C2 G H q td F P tk dq am (end2 r) Q (Fol.rowF (mmOf F P) tk r)):spRowS K C C2 R vs H Q
def pu(K:Aa)(C C2:JA)(R:eU->Prop):Sp:=λvs H Q _=>spRowS K C C2 R vs H Q
theorem a73(T:Txt K mg C fI)(x:TTxt K mg C2 af)(F:Fun K "passed" "Taking.passed" a3q f fd)(GA:FnOk P w K mg base CX0 2 gA dA eD (lh C))(cA:eC GA C "alike")(GK:FnOk P w K mg base CX0 3 gK dK eE (wn K C C2))(N:eC GK C2 "ask_unlike")(GL:FnOk P w K mg base CX0 4 gL dL ["self","number","end"] (a6t K C C2))(cL:MCal K C2 "lies_outside" gL dL ["self","number","end"]):FnOk P w K mg base CX0 5 f fd ["self","number","end"] (a04 K C C2):=by
 refine F.okA ["self","number","end","found"] λag A outer s0 H vs Q E O h nd=>?_;let(G,t,td,m,d,tk,dq,am,j,e,r,rfl,v,R,S,B,ac,M):=h;let U:=ir O;let aa:=O.mono (j:=2) (by lia);let J:=O.mono (j:=3) (by lia);exists _,fe (gd 3 nd (im U (gh (K:=K) rfl (qv 0)) (qv 1) (λ_ _=>rfl)))
  (fe (gg (QW.qt (ls (fz gq (fj K (qv 3) fc) gt (fy _)) (lb (fz km (fj K (qv 3) fc) gt (fy _))))) (fe (il (gi (qv 0) x.cl N.meth GK J N.bind .nil gn (fx (fj K (qv 3) fc) (fh (qv 2) ad))))
  (ff (fm (fj K (qv 3) fc)))) ge)
  (fe (gg (fz gq (fj K (qv 3) fc) gt (fy _)) (fe (gg (i6 (gi (gh (K:=K) rfl (qv 0)) T.cl cA.meth GA aa cA.bind .nil gn (fx (fj K (qv 3) fc) (fh (qv 2) ad)))) (ff (fm (fj K (qv 3) fc))) ge)
  (fe (il (gi (qv 0) x.cl N.meth GK J N.bind .nil gn (fx (fj K (qv 3) fc) (fh (qv 2) ad))))
  (ff (fm (mz (i6 (gi (qv 0) x.cl cL.meth GL O cL.bind .nil gn (fh (qv 1) (fh (qv 2) ad)))) (fj K (qv 3) fc) gj))))) ge)
  (ff (fm gj))))
 nofun
 let(p,pd,da,I,fs,dv,h1,h2,kw,kvs,b,g1,g2,l):=xv v S;let gp:=DGet.k (k:=Sum.inl ((j:eO):eN)) g1;rw[g2] at gp;let y:d.getD j []=r:=by rw[Ay,S];rfl
 exists _,eY,t,C2,I,fs,.ref pd,eY,h1,x.cl,x.nP,h2.parts,_,eY,pd,_,eY,gp;let sm:Kp (XT t td) H H:=Kp.sm (Same.refl _);rcases R.parts r (Aq S) with⟨a,f',s',rfl⟩|⟨a,o,rfl⟩|⟨a,rfl⟩
 . let g:Fol.passF (mmOf m d) j e=if("cell":eZ)="cell" /\ ¬ s'="any" then .ok s' [(a,e)] else .fail:=by
    unfold Fol.passF;show(match d.getD j [] with | [k,p,_,s]=>_ | [k,p,q]=>_|_=>_)=_;rw[y]
   exists _,eY,b,_,0,.str "cell",eY,eY,l,eY,eY,_,rfl;refine#[_,eY,b,_,3,.str s',eY,eY,l,eY,eY,_,eY,iteB (λc=>?_) (λc=>?_)]
   . let Z:¬ s'="any" := by simpa using c
     rw[eQ #[eY,Z]] at g;refine#[_,eY,t,I,fs,eY,h1,h2.meth "ask_unlike" (by decide),_,eY,b,_,1,.str a,eY,eY,l,eY,_,eY,G,t,td,m,d,tk,dq,am,a,e,eY,v,R,λH1 k1 n=>?_];exact#[_,eY,b,_,3,.str s',eY,eY,v.row l k1,eY,B _ _ g H1 k1 n]
   let Z:s'="any" := by simpa using c
   rw[eP (λz=>z.2 Z)] at g;exact#[_,eY,b,_,0,.str "cell",eY,eY,l,eY,eY,_,eY,M g H sm v]
 . let g:Fol.passF (mmOf m d) j e=if(mmOf m d).al o e=eJ then .ok o [] else match Fol.liesF (mmOf m d) e with|none=>.amid|some lo=>.ok o ((a,e)::lo):=by
    unfold Fol.passF;show(match d.getD j [] with | [k,p,_,s]=>_ | [k,p,q]=>_|_=>_)=_;rw[y];exact eQ rfl
   exists _,eY,b,_,0,.str "stretch",eY,eY,l,eY,eY,_,rfl;exists _,eY,b,_,0,.str "stretch",eY,eY,l,eY,eY,_,rfl;let(pl,hd,un,fu,D,L,Fl,hK,hN,_):=kw.ex;let((hm,uk,hk,hok,hU),ab,ah):=id hK;let((ae,X,W,Y,_),_):=id hN;exists _,eY,t,C2,I,fs,.ref p,eY,h1,x.cl,x.nK,h2.kn,p,ae,X,eY,W,Y.meth "alike" (by decide),_,eY,b,_,2,.str o,eY,eY,l,eY,_,eY,p,pl,hd,un,fu,hm,uk,o,e,eY,hk;rw[hok.hd,hok.hd];refine#[_,eY,iteB (λc=>?_) (λc=>?_)];rw[eQ (show(mmOf m d).al o e=eJ from c)] at g;exact#[_,eY,b,_,2,.str o,eY,eY,l,eY,B _ _ g H sm (by rw[A0];exact v)]
   rw[eP (show ¬ (mmOf m d).al o e=eJ from by show ¬ decide (fq m o=fq m e)=eJ;rw[c];exact Az)] at g;refine#[_,eY,t,I,fs,eY,h1,h2.meth "ask_unlike" (by decide),_,eY,b,_,1,.str a,eY,eY,l,eY,_,eY,G,t,td,m,d,tk,dq,am,a,e,eY,v,R,λH1 k1 n=>?_];let(p,pd,da,I,fs,dv,h1,h2,_):=n.ex;refine#[_,eY,t,I,fs,eY,h1,h2.meth "lies_outside" (by decide),_,eY,_,eY,G,t,td,m,d,tk,_,am,j,e,eY,n,R,λlo hl H2 k2 u=>#[_,eY,?_],λhl H2 k2 u=>#[_,eY,?_]];rw[hl] at g;refine#[_,eY,b,_,2,.str o,eY,eY,n.row (v.row l k1) k2,eY,B _ _ g H2 (Kp.tr k1 k2) ?_];rw[A5] at u;exact u;rw[hl] at g;exact ac g H2 _ (Kp.tr k1 k2) u
 let g:Fol.passF (mmOf m d) j e=.fail:=by
  unfold Fol.passF;show(match d.getD j [] with | [k,p,_,s]=>_ | [k,p,q]=>_|_=>_)=_;rw[y]
 exists _,eY,b,_,0,.str "tree",eY,eY,l,eY,eY,_,rfl;exact#[_,eY,b,_,0,.str "tree",eY,eY,l,eY,eY,_,eY,M g H sm v]
theorem a9g(T:Txt K mg C fI)(s:TTxt K mg C2 ae)(F:Fun K "cell_row" "Taking.cell_row" a5p f fd)(GT:FnOk P w K mg base CX0 4 gT dT eD (wb K C C2))(cT:eC GT C2 "take")(GG:FnOk P w K mg base CX0 3 gG dG eE (a2x K C C2))(U:eC GG C2 "gives"):FnOk P w K mg base CX0 5 f fd ["self","part"] (pu K C C2 λr=>∃a b c,r=[("cell":eZ),a,b,c]):=by
 refine F.okA ["self","part","number","found"] λaf A outer s0 H vs Q E hr h nd=>?_;let(G,o,td,b,l,e,tk,dq,am,r,rfl,hT,hR,hN,hb,(x,u,v,rfl),ac,ah,O):=h;let Y:=ir hr;let J:=hr.mono (j:=3) (by lia);exists _,fe (gd 2 nd (gi (qv 0) s.cl cT.meth GT hr cT.bind .nil gn (fx (fj K (qv 1) fc) ad)))
  (fe (gg (fz kx (qv 2) gj (fy _)) (ff (fm gj)) ge)
  (fe (gd 3 nd (im Y (gh (K:=K) rfl (qv 0)) (qv 2) (λ_ _=>rfl)))
  (fe (gg (QW.qt (jg (fz km (fj K (qv 3) fc) gt (fy _)) (jg (jc (i6 (gi (qv 0) s.cl U.meth GG J U.bind .nil gn (fx (fj K (qv 3) fc) (fx (fj K (qv 1) fc) ad))))) (jp (jc (i6 (gi (qv 0) s.cl U.meth GG J U.bind .nil gn (fx (fj K (qv 3) fc) (fx (fj K (qv 1) fc) ad))))))))) (ff (fm gj)) ge)
  (ff (fm (iu (fh (qv 2) ad)))))))
 nofun
 let B:Fol.rowF (mmOf l e) tk [("cell":eZ),x,u,v]=Fol.cellF (mmOf l e) tk x u v:=rfl;unfold Fol.cellF at B;let(p,pd,da,L,fs,dv,h1,h2,_):=hT.ex;let ag:=hN.len hR.len;refine#[_,eY,o,L,fs,eY,h1,h2.meth "take" (by decide),_,eY,b,_,1,.str x,eY,eY,hb,eY,G,o,td,l,e,tk,dq,am,x,eY,hT,hR,by lia,λS k1 d=>?_];let n:Kp (XT o td) H S:=Kp.ofT k1;cases ht:Fol.takeF (mmOf l e) tk x with
 |none =>
  rw[ht] at B d;exact#[_,eY,eY,_,eY,O B S _ _ n d]
 |some j =>
  rw[ht] at B d;let(N,aa):=xk ht;let ab:=nk j N;obtain⟨r,W⟩:∃r,e[j]?=eH r:=#[_,Ag ab]
  let X:e.getD j []=r:=by rw[Ay,W];rfl
  let(p,pd,da,L,fs,dv,h1,h2,kw,kvs,t,g1,g2,y):=xv d W;let gp:=DGet.k (k:=Sum.inl ((j:eO):eN)) g1;rw[g2] at gp;let I:=hT.row hb n;let g:Fol.rowF (mmOf l e) tk [("cell":eZ),x,u,v]=(match (generalizing:=false) e.getD j [] with | [k,_,M,s']=>if k="cell" /\ Fol.givesF (mmOf l e) M u=eJ/\Fol.givesF (mmOf l e) s' v=eJ then Fol.SRes.ok [j] [] else .fail|_=>.fail):=B;rw[X] at g;exists _,eY,eY,_,rfl;exists _,eY,o,C2,L,fs,.ref pd,eY,h1,s.cl,s.nP,h2.parts,_,eY,pd,_,eY,gp;let m:Fol.rowF (mmOf l e) tk [("cell":eZ),x,u,v]=.fail->Q .non S:=λz=>O z S _ _ n d;rcases hR.parts r (Aq W) with⟨a,M,s',rfl⟩|⟨a,q',rfl⟩|⟨a,rfl⟩
  . exists _,eY,t,_,0,.str "cell",eY,eY,y,eY,eY,_,rfl;exists _,eY,o,L,fs,eY,h1,h2.meth "gives" (by decide),_,eY,t,_,2,.str M,eY,eY,y,eY,_,eY,b,_,2,.str u,eY,eY,I,eY,G,o,td,l,e,_,_,_,M,u,eY,d,_,rfl;refine iteB (λc=>m ?_) (λc=>?_);rw[g];exact eP (λz=>by rw[z.2.1] at c;cases c)
    let c':Fol.givesF (mmOf l e) M u=eJ:=by simpa using c
    exists _,eY,o,L,fs,eY,h1,h2.meth "gives" (by decide),_,eY,t,_,3,.str s',eY,eY,y,eY,_,eY,b,_,3,.str v,eY,eY,I,eY,G,o,td,l,e,_,_,_,s',v,eY,d,_,rfl;refine iteB (λR=>m ?_) (λR=>?_);rw[g];exact eP (λz=>by rw[z.2.2] at R;cases R)
    let Z:Fol.givesF (mmOf l e) s' v=eJ:=by simpa using R
    refine#[_,eY,eW,λD hD=>?_];let s2:=fi hD (.lst [.int (j:eN)]);exact ac [j] [] (by rw[g];exact eQ #[eY,c',Z]) D _ _ (Kp.tr n (Kp.sm s2)) (by rw[A0];exact d.same s2) (hN.put N aa) fb
  . exact#[_,eY,t,_,0,.str "stretch",eY,eY,y,eY,eY,_,eY,m g]
  exact#[_,eY,t,_,0,.str "tree",eY,eY,y,eY,eY,_,eY,m g]
def acc(js:eL eO)(q:eT):Fol.SRes->Fol.SRes
 |.ok js' q'=>.ok (js++js') (q++q')
 |x=>x
theorem add(d:eL eO)(q:eT)(j:eO)(c:eT)(r:Fol.SRes):acc d q (r.put j c)=acc (d++[j]) (q++c) r:=by
 cases r with|ok a b=>show Fol.SRes.ok _ _=.ok _ _;rw[A5,A5];rfl|amid _=>rfl|fail=>rfl
theorem acr(T:Txt K mg C fI)(T2:TTxt K mg C2 aM)(F:Fun K "stretch_row" "Taking.stretch_row" abc f fd)(GT:FnOk P w K mg base CX0 4 gT dT eD (wb K C C2))(cT:eC GT C2 "take")(GA:FnOk P w K mg base CX0 2 gA dA eE (lh C))(cA:eC GA C "alike")(GP:FnOk P w K mg base CX0 5 gP dP ["self","number","end"] (a04 K C C2))(cP:MCal K C2 "passed" gP dP ["self","number","end"]):FnOk P w K mg base CX0 6 f fd ["self","part"] (pu K C C2 λr=>∃a b,r=[("stretch":eZ),a,b]):=by
 refine F.okA ["self","part","row","place","number"] λaN A outer s0 H vs Q E hr h nd=>?_;let(G,t,td,b,d,g,tk,dq,am,r,rfl,hT,hR,hN,Y,(x,e,rfl),av,ab,aa):=h;let aO:=ir hr;let ar:=hr.mono (j:=2) (by lia);let aE:=hr.mono (j:=4) (by lia);exists _,fe (gd 2 nd (iu ad))
  (fe (gd 3 nd (fj K (qv 1) fc))
  (fe (nh A7 (jc (i6 (gi (gh (K:=K) rfl (qv 0)) T.cl cA.meth GA ar cA.bind .nil gn (fh (qv 3) (fx (fj K (qv 1) fc) ad))))) (fe (gd 4 nd (gi (qv 0) T2.cl cT.meth GT aE cT.bind .nil gn (fh (qv 3) ad)))
  (fe (gg (fz kx (qv 4) gj (fy _)) (ff (fm gj)) ge)
  (fe (gd 3 nd (gi (qv 0) T2.cl cP.meth GP hr cP.bind .nil gn (fh (qv 4) (fx (fj K (qv 1) fc) ad))))
  (fe (gg (fz kx (qv 3) gj (fy _)) (ff (fm gj)) ge)
  (ff (il (kz (K:=K) rfl AK By Bz jw (qv 2) (fh (qv 4) ad)))))))))
  (ff (fm (qv 2)))))
 nofun
 rw[Fol.end2_str] at ab;let rf:Fol.rowF (mmOf d g) tk [("stretch":eZ),x,e]=Fol.strF (mmOf d g) e 20 tk x:=rfl;let aL:=hN.len hR.len;refine#[(show 0<=JB by decide),λD hD=>?_];let s1:=fi hD (.lst []);let aT:=hT.free hD;let aj:G D=eI:=hT.sm.free hD;exists _,eY,b,_,1,.str x,eY,eY,Y.same s1,rfl;refine xo (λn σ X=>Ex5 λ(k:eL eO) (N:eT) (a:eZ) (z:eM V) (xs:eL V)=>And8 (σ=[rQ t,rQ b,rQ D,eH (.str a),z]) (Kp (XT t td) H X) (TkAt K C C2 G X t td d g (tk++k) (dq++N) am) (X D=eH (.lst xs)) (xs.length=k.length) (TkN d g (tk++k)) (n+k.length=20) (Fol.strF (mmOf d g) e 20 tk x=acc k N (Fol.strF (mmOf d g) e n (tk++k) a))) (m0:=20) #[[],[],x,eI,[],eY,Kp.sm s1,by rw[A0,A0];exact hT.same s1,fb,eY,by rw[A0];exact hN,eY,by rw[A0];cases Fol.strF (mmOf d g) e 20 tk x<;>rfl] ?_ ?_
 . rintro n σ X ⟨k,N,a,z,xs,rfl,k2,l,y,aH,U,hn,u⟩
   nofun
   let aU:k.length<=15:=by let:=U.len hR.len;rw[Ai] at this;lia
   obtain⟨n,rfl⟩:∃m,n=m+1:=#[n-1,by lia]
   let(p,pd,da,dx,fs,dv,h1,h2,hG):=l.ex;let kw:KwAt K C X p d g:=hG.kw.same l.sm;let(aD,hd,un,fu,D',L,Fl,hK,ak,_):=kw.ex;let((hm,uk,hk,hok,hU),aw,aS):=id hK;let((aJ,ap,az,aB,_),_):=id ak;let ae:=hT.row Y k2;exists _,eY,t,C2,dx,fs,.ref p,eY,h1,T2.cl,T2.nK,h2.kn,p,aJ,ap,eY,az,aB.meth "alike" (by decide),_,eY,_,eY,b,_,2,.str e,eY,eY,ae,eY,p,aD,hd,un,fu,hm,uk,a,e,eY,hk;rw[hok.hd,hok.hd];refine#[_,eY,iteB (λc=>?_) (λc=>?_)]
   . let c':¬ (mmOf d g).al a e=eJ:=by
      show ¬ decide (fq d a=fq d e)=eJ;simpa using c
     let s:Fol.strF (mmOf d g) e (n+1) (tk++k) a=match Fol.takeF (mmOf d g) (tk++k) a with
      |none=>.fail
      |some j=>match Fol.passF (mmOf d g) j e with
       |.fail=>.fail
       |.amid=>.amid j
       |.ok I J=>(Fol.strF (mmOf d g) e n (tk++k++[j]) I).put j J:=by
      rw[Fol.strF];exact eP c'
     refine#[_,eY,t,dx,fs,eY,h1,h2.meth "take" (by decide),_,eY,G,t,td,d,g,_,_,am,a,eY,l,hR,by rw[Ai];lia,λH3 k3 R=>?_];let O:Kp (XT t td) H H3:=Kp.tr k2 (Kp.ofT k3);cases ht:Fol.takeF (mmOf d g) (tk++k) a with
     |none =>
      rw[ht] at s R;exact#[_,eY,eY,_,eY,aa (by rw[rf,u,s];rfl) H3 _ _ O R]
     |some j =>
      rw[ht] at s R;let(Z,aC):=xk ht;obtain⟨r,hj⟩:∃r,g[j]?=eH r:=#[_,Ag (nk j Z)]
      let v:TkAt K C C2 G H3 t td d g (tk++k++[j]) (dq++N) am:=R;let(p3,aP,aR,ai,an,aQ,aq,ay,_):=v.ex;let aF:=l.row ae (Kp.ofT k3);exists _,eY,eY,_,rfl;refine#[_,eY,t,ai,an,eY,aq,ay.meth "passed" (by decide),_,eY,_,eY,b,_,2,.str e,eY,eY,aF,eY,G,t,td,d,g,_,_,am,j,e,r,eY,v,hR,hj,λI J hp H4 S B=>?_,λhp H4 aG S B=>?_,λhp H4 S B=>?_]
      . let M:Fol.passF (mmOf d g) j e=.ok I J:=hp;let ac:Fol.strF (mmOf d g) e 20 tk x=acc (k++[j]) (N++J) (Fol.strF (mmOf d g) e n (tk++(k++[j])) I):=by
         rw[u,s];show acc k N (match Fol.passF (mmOf d g) j e with|.fail=>.fail|.amid=>.amid j|.ok I J=>(Fol.strF (mmOf d g) e n (tk++k++[j]) I).put j J)=_;rw[M,<- A5];exact add _ _ _ _ _
        exists _,eY,eY,_,rfl;let W:=S _ _ (Kp.ofT (q:=t) k3 _ _ y (l.lst y)) (v.lst (Kp.ofT (q:=t) k3 _ _ y (l.lst y)));exists _,eY,.inl #[eY,_,SqL.of W],_,eY,D,_,_,eY,eY,W,AH (show xs.length<=15 by lia) (by decide);refine#[n,B7 n,k++[j],N++J,I,_,_,eY,λb o Y n=>?_,?_,fb,?_,?_,?_,ac];rw[fg (gb Y hD)];exact S _ _ (O _ _ Y n) n;rw[<- A5,<- A5];exact B.lput aj W _;rw[Ai,Ai,aH];rfl;rw[<- A5];exact U.put Z aC;rw[Ai,A2];lia
      . let M:Fol.passF (mmOf d g) j e=.amid:=hp;refine#[_,eY,eY,_,eY,ab j ?_ H4 _ aG (Kp.tr O S) B];rw[rf,u,s];show acc k N (match Fol.passF (mmOf d g) j e with|.fail=>.fail|.amid=>.amid j|.ok I J=>(Fol.strF (mmOf d g) e n (tk++k++[j]) I).put j J)=_;rw[M];rfl
      let M:Fol.passF (mmOf d g) j e=.fail:=hp;refine#[_,eY,eY,_,eY,aa ?_ H4 _ _ (Kp.tr O S) B];rw[rf,u,s];show acc k N (match Fol.passF (mmOf d g) j e with|.fail=>.fail|.amid=>.amid j|.ok I J=>(Fol.strF (mmOf d g) e n (tk++k++[j]) I).put j J)=_;rw[M];rfl
   let c':(mmOf d g).al a e=eJ:=by
    show decide (fq d a=fq d e)=eJ;simpa using c
   refine#[_,eY,av k N ?_ D xs X k2 l U y];rw[rf,u,Fol.strF,eQ c'];show Fol.SRes.ok _ _=_;rw[A0,A0]
 rintro σ X Q1 Q2 hq ⟨v1,e1,a1,a2,a3,a4,a5,e2,e3,e4,e5,e6,p1,p2,p3,e7,e8,e9,v2,ax,v3,ah,b1,b2,b3,b4,aA,aI,af,ag,k1,k2,k3,S,k5,k6,k7,k8,k9,au,aK,b9,ao,hQ⟩;exact#[v1,e1,a1,a2,a3,a4,a5,e2,e3,e4,e5,e6,p1,p2,p3,e7,e8,e9,v2,ax,v3,ah,b1,b2,b3,b4,aA,aI,af,ag,k1,k2,k3,S,k5,k6,k7,k8,k9,au,aK,b9,ao,hq _ _ hQ]
theorem a3w(a:eU):inV (V.str "any") (a.map V.str)=decide (("any":eZ)∈a):=by
 unfold inV;induction a with
 |nil=>rfl
 |cons x a ih =>
  rw[A8,Dx,ih];show((x==("any":eZ)) || _)=_;rw[Bd,Iw,beq_iff_eq,fG,fG,Ak];exact#[λz=>z.imp IA id,λz=>z.imp IA id]
theorem pk(a:eU):(a.map V.str).all nr=eJ:=by
 rw[Bm];intro v hv;let(x,_,rfl):=Au.mp hv;rfl
theorem a9m(T:Txt K mg C fI)(T2:TTxt K mg C2 aU)(F:Fun K "tree_row" "Taking.tree_row" a7h f fd)(GT:FnOk P w K mg base CX0 4 gT dT eD (wb K C C2))(cT:eC GT C2 "take")(GA:FnOk P w K mg base CX0 2 gA dA eE (lh C))(cA:eC GA C "alike"):FnOk P w K mg base CX0 5 f fd ["self","part"] (pu K C C2 λr=>∃a,r=[("tree":eZ),a]):=by
 refine F.okA ["self","part","row","coming","place","number","found"] λaV A outer s0 H vs Q E hr h nd=>?_;let(G,B,td,b,e,g,tk,dq,am,r,rfl,hT,hR,hN,Z,(x,rfl),aI,aW,aw):=h;let aE:=ir hr;let aH:=hr.mono (j:=2) (by lia);exists _,fe (gd 2 nd (iu ad))
  (fe (gd 3 nd (iu (fx (fj K (qv 1) fc) ad)))
  (fe (nh A7 (uu (K:=K) (qv 3)) (fe (gd 4 nd (a5s AK CQ Es a7t (qv 3)))
  (ff (gg (jc (i6 (gi (gh (K:=K) rfl (qv 0)) T.cl cA.meth GA aH cA.bind .nil gn (fh (qv 4) (gm ad))))) (fe (gd 5 nd (gi (qv 0) T2.cl cT.meth GT hr cT.bind .nil gn (fh (qv 4) ad)))
  (fe (gg (fz kx (qv 5) gj (fy _)) (ff (fm gj)) ge)
  (fe (gd 6 nd (im aE (gh (K:=K) rfl (qv 0)) (qv 5) (λ_ _=>rfl)))
  (fe (gg (QW.qt (jg (fz gq (fj K (qv 6) fc) gt (fy _)) (jp (fz u0 gt (qv 6) (by with_unfolding_all rfl))))) (ff (fm gj)) ge)
  (fe (gg (fz gq (fj K (qv 6) fc) gt (fy _)) (ff (il (kz (K:=K) rfl AK CN CO pf (qv 3) (kf (fx (fj K (qv 6) fc) (fx (fj K (qv 6) fc) ad)) ad)))) ge)
  (ff (il (kz (K:=K) rfl AK By Bz jw (qv 2) (fh (qv 5) ad))))))))) ge))))
  (ff (fm (qv 2)))))
 nofun
 let rf:Fol.rowF (mmOf e g) tk [("tree":eZ),x]=match Fol.treeF (mmOf e g) 60 tk [x] with|none=>.fail|some d=>.ok d []:=rfl
 refine#[(show 0<=JB by decide),λD hD=>?_];let s1:=fi hD (.lst []);let aC:G D=eI:=hT.sm.free hD;refine#[_,eY,b,_,1,.str x,eY,eY,Z.same s1,eY,eW,λco ap=>?_];let s2:=fi ap (.lst [.str x]);let an:D≠co:=gb fb ap;let U:H co=eI:=s1.free ap;let aA:G co=eI:=hT.sm.free U;refine xo (λn σ N=>∃(d:eL eO) (cs:eU) (z1 z2 z3:eM V) (xs:eL V),σ=[rQ B,rQ b,rQ D,rQ co,z1,z2,z3]/\Kp (XT B td) H N/\TkAt K C C2 G N B td e g (tk++d) dq am/\N D=eH (.lst xs)/\xs.length=d.length/\N co=eH (.lst (cs.reverse.map V.str))/\TkN e g (tk++d)/\30+cs.length<n+2*d.length/\cs.length<=1+2*d.length/\Fol.treeF (mmOf e g) 60 tk [x]=(Fol.treeF (mmOf e g) n (tk++d) cs).map (d ++ ·)) (m0:=60) #[[],[x],eI,eI,eI,[],eY,Kp.sm (s1.trans s2),by rw[A0];exact hT.same (s1.trans s2),s2 _ _ fb,eY,fb,by rw[A0];exact hN,(by show 30+1<60+2*0;decide),(by show 1<=1+2*0;decide),by rw[A0];cases Fol.treeF (mmOf e g) 60 tk [x]<;>rfl] ?_ ?_
 . rintro n σ N ⟨d,cs,z1,z2,z3,xs,rfl,k2,ax,aq,aB,ae,R,hn,aM,O⟩
   nofun
   let aZ:d.length<=15:=by let:=R.len hR.len;rw[Ai] at this;lia
   let aX:(tk++d).length<=15:=R.len hR.len;obtain⟨n,rfl⟩:∃m,n=m+1:=#[n-1,by lia]
   refine#[_,eY,_,.inl #[_,SqL.of ae,eY],iteB (λc=>?_) (λc=>?_)]
   . cases cs with
     |nil=>cases c
     |cons y cs =>
     let ao:((y::cs).reverse.map V.str)[((y::cs).reverse.map V.str).length-1]?=eH (.str y):=by
      rw[Bv,Av];simp
     let aG:((y::cs).reverse.map V.str).dropLast=cs.reverse.map V.str:=by
      rw[Bv,Av];simp
     let aL:(y::cs).length=cs.length+1:=rfl;rw[aL] at hn aM;exists _,eY,.inl #[eY,_,SqL.of ae],co,_,.str y,eY,eY,ae,ao;rw[aG];let k3:Kp (XT B td) H (upd N co (.lst (cs.reverse.map V.str))):=λb o Z n=>by rw[fg (gb Z U)];exact k2 _ _ Z n
     let J:=ax.lput aA ae (cs.reverse.map V.str);let ab:(upd N co (.lst (cs.reverse.map V.str))) D=eH (.lst xs):=by rw[fg an];exact aq
     let ag:(upd N co (.lst (cs.reverse.map V.str))) co=eH (.lst (cs.reverse.map V.str)):=fb;show iq 4 (V.str y) _ (upd N co (.lst (cs.reverse.map V.str))) _;generalize upd N co (.lst (cs.reverse.map V.str))=H3 at k3 J ab ag |-;let(p,pd,da,dx,fs,dv,h1,h2,hG):=J.ex;let kw:KwAt K C H3 p e g:=hG.kw.same J.sm;let(aS,hd,un,fu,D',L,Fl,hK,aD,_):=kw.ex;let((hm,uk,hk,hok,hU),aJ,aY):=id hK;let((aT,aF,aO,aQ,_),_):=id aD;exists _,eY,B,C2,dx,fs,.ref p,eY,h1,T2.cl,T2.nK,h2.kn,p,aT,aF,eY,aO,aQ.meth "alike" (by decide),_,eY,p,aS,hd,un,fu,hm,uk,y,"nil",eY,hk;rw[hok.hd,hok.hd];refine#[_,eY,iteB (λc=>?_) (λc=>?_)]
     . let c':¬ (mmOf e g).al y "nil"=eJ:=by
        show ¬ decide (fq e y=fq e "nil")=eJ;simpa using c
       let ac:Fol.treeF (mmOf e g) (n+1) (tk++d) (y::cs)=match Fol.takeF (mmOf e g) (tk++d) y with
        |none=>eI
        |some j=>match (mmOf e g).P.getD j [] with
         |[k,p]=>if k="tree" /\ ¬ p="any" then(Fol.treeF (mmOf e g) n (tk++d++[j]) cs).map (j :: ·) else eI
         |[k,p,f,s]=>if k="cell" /\ ¬ p="any" /\ ¬ f="any" /\ ¬ s="any" then(Fol.treeF (mmOf e g) n (tk++d++[j]) (f::s::cs)).map (j :: ·) else eI
         |_=>eI:=by
        rw[Fol.treeF];exact eP c'
       refine#[_,eY,B,dx,fs,eY,h1,h2.meth "take" (by decide),_,eY,G,B,td,e,g,_,_,am,y,eY,J,hR,by lia,λW k4 S=>?_];let ai:Kp (XT B td) H W:=Kp.tr k3 (Kp.ofT k4);cases ht:Fol.takeF (mmOf e g) (tk++d) y with
       |none =>
        rw[ht] at ac S;exact#[_,eY,eY,_,eY,aw (by rw[rf,O,ac];rfl) W _ _ ai S]
       |some j =>
        rw[ht] at ac S;let(av,aR):=xk ht;obtain⟨r,hj⟩:∃r,g[j]?=eH r:=#[_,Ag (nk j av)]
        let aN:g.getD j []=r:=by rw[Ay,hj];rfl
        let X:TkAt K C C2 G W B td e g (tk++d++[j]) dq am:=S;let u:Fol.treeF (mmOf e g) (n+1) (tk++d) (y::cs)=match (generalizing:=false) g.getD j [] with
         |[k,p]=>if k="tree" /\ ¬ p="any" then(Fol.treeF (mmOf e g) n (tk++d++[j]) cs).map (j :: ·) else eI
         |[k,p,f,s]=>if k="cell" /\ ¬ p="any" /\ ¬ f="any" /\ ¬ s="any" then(Fol.treeF (mmOf e g) n (tk++d++[j]) (f::s::cs)).map (j :: ·) else eI
         |_=>eI:=ac
        rw[aN] at u;let(p,pd,da,dx,fs,dv,h1,h2,kw,kvs,Y,g1,g2,g3):=xv X hj;let gp:=DGet.k (k:=Sum.inl ((j:eO):eN)) g1;rw[g2] at gp;let af:=k4 _ _ ab (λz=>J.lst ab (.inr z));let ah:=k4 _ _ ag (λz=>J.lst ag (.inr z));let aj:Fol.treeF (mmOf e g) (n+1) (tk++d) (y::cs)=eI->Q .non W:=λz=>aw (by rw[rf,O,z];rfl) W _ _ ai S;exists _,eY,eY,_,rfl;exists _,eY,B,C2,dx,fs,.ref pd,eY,h1,T2.cl,T2.nP,h2.parts,_,eY,pd,_,eY,gp;let ay:∀(H5:Hp) (M:eU),Kp (XT B td) H H5->TkAt K C C2 G H5 B td e g (tk++d++[j]) dq am->H5 D=eH (.lst xs)->H5 co=eH (.lst (M.reverse.map V.str))->M.length<=cs.length+2->Fol.treeF (mmOf e g) (n+1) (tk++d) (y::cs)=(Fol.treeF (mmOf e g) n (tk++d++[j]) M).map (j :: ·)->∃(_:xs.length<JB),∃m',m'<n+1/\∃(d:eL eO) (cs:eU) (y1 y2 y3:eM V) (au:eL V),[eH (V.ref B),eH (.ref b),eH (.ref D),eH (.ref co),eH (.str y),eH (.int (j:eN)),eH (.ref Y)]=[rQ B,rQ b,rQ D,rQ co,y1,y2,y3]/\Kp (XT B td) H (upd H5 D (.lst (xs++[.int (j:eN)])))/\TkAt K C C2 G (upd H5 D (.lst (xs++[.int (j:eN)]))) B td e g (tk++d) dq am/\(upd H5 D (.lst (xs++[.int (j:eN)]))) D=eH (.lst au)/\au.length=d.length/\(upd H5 D (.lst (xs++[.int (j:eN)]))) co=eH (.lst (cs.reverse.map V.str))/\TkN e g (tk++d)/\30+cs.length<m'+2*d.length/\cs.length<=1+2*d.length/\Fol.treeF (mmOf e g) 60 tk [x]=(Fol.treeF (mmOf e g) m' (tk++d) cs).map (d ++ ·):=λH5 M k5 aP aK ak az he=>by
         exists AH (show xs.length<=15 by lia) (by decide),n,B7 n,d++[j],M,_,_,_,_,eY,λb o Z n=>?_,?_,fb,?_,?_,?_,?_,?_;rw[fg (gb Z hD)];exact k5 _ _ Z n;rw[<- A5];exact aP.lput aC aK _;rw[Ai,Ai,aB];rfl;rw[fg (AF an)];exact ak;rw[<- A5];exact R.put av aR;rw[Ai,A2];lia;rw[Ai,A2];lia
         rw[O,he,<- A5];cases Fol.treeF (mmOf e g) n (tk++d++[j]) M with|none=>rfl|some l=>show eH (d++(j::l))=eH (d++[j]++l);rw[A5];rfl
        rcases hR.parts r (Aq hj) with⟨a,I,s',rfl⟩|⟨a,q',rfl⟩|⟨a,rfl⟩
        . exists _,eY,Y,_,0,.str "cell",eY,eY,g3,eY,eY,_,rfl;exists _,eY,Y,_,eY,.inr g3,eY,pk _;rw[a3w];refine#[_,eY,iteB (λc3=>aj ?_) (λc3=>?_)]
          . let t:("any":eZ)∈[("cell":eZ),a,I,s']:=by simpa using c3
            rw[u];refine eP λz=>?_;simp only[Ak,As,fH] at t;rcases t with y|y|y|y;exact eR y (by decide);exact z.2.1 y.symm;exact z.2.2.1 y.symm;exact z.2.2.2 y.symm
          let t:¬ ("any":eZ)∈[("cell":eZ),a,I,s']:=by simpa using c3
          let na:¬ a="any" /\ ¬ I="any" /\ ¬ s'="any" := #[λz=>t (by rw[z];simp),λz=>t (by rw[z];simp),λz=>t (by rw[z];simp)]
          let he:Fol.treeF (mmOf e g) (n+1) (tk++d) (y::cs)=(Fol.treeF (mmOf e g) n (tk++d++[j]) (I::s'::cs)).map (j :: ·):=by rw[u];exact eQ #[eY,na]
          exists _,eY,Y,_,0,.str "cell",eY,eY,g3,eY,eY,_,rfl;refine#[_,eY,.inl #[eY,_,SqL.of ah],_,eY,Y,_,3,.str s',eY,eY,g3,eY,_,eY,Y,_,2,.str I,eY,eY,g3,eY,eV,λl5 az=>?_];let s5:=fi az (.lst [.str s',.str I]);exists co,l5,_,_,eY,eY,s5 _ _ ah,fb,?_;rw[Ad,CP];exact j7 (show cs.length+2<=1000 by lia)
          let ak:=s5 _ _ ah;let q6:(upd (upd W l5 (.lst [.str s',.str I])) co (.lst (cs.reverse.map V.str++[.str s',.str I]))) co=eH (.lst ((I::s'::cs).reverse.map V.str)):=by
           rw[fb,Bv,Bv,A5,Av];rfl
          let ar:TkAt K C C2 G (upd (upd W l5 (.lst [.str s',.str I])) co (.lst (cs.reverse.map V.str++[.str s',.str I]))) B td e g (tk++d++[j]) dq am:=(X.same s5).lput aA ak _;let aa:(upd (upd W l5 (.lst [.str s',.str I])) co (.lst (cs.reverse.map V.str++[.str s',.str I]))) D=eH (.lst xs):=by rw[fg an];exact s5 _ _ af
          let k6:Kp (XT B td) H (upd (upd W l5 (.lst [.str s',.str I])) co (.lst (cs.reverse.map V.str++[.str s',.str I]))):=λb o Z n=>by rw[fg (gb Z U)];exact s5 _ _ (ai _ _ Z n)
          generalize upd (upd W l5 (.lst [.str s',.str I])) co (.lst (cs.reverse.map V.str++[.str s',.str I]))=H6 at q6 ar aa k6 |-;let(w1,w2):=ay H6 (I::s'::cs) k6 ar aa q6 (Ao _) he;exact#[_,eY,.inl #[eY,_,SqL.of aa],_,eY,D,_,_,eY,eY,aa,w1,w2]
        . exact#[_,eY,Y,_,0,.str "stretch",eY,eY,g3,eY,eY,_,eY,aj u]
        exists _,eY,Y,_,0,.str "tree",eY,eY,g3,eY,eY,_,rfl;exists _,eY,Y,_,eY,.inr g3,eY,pk _;rw[a3w];refine#[_,eY,iteB (λc3=>aj ?_) (λc3=>?_)]
        . let t:("any":eZ)∈[("tree":eZ),a]:=by simpa using c3
          rw[u];refine eP λz=>?_;simp only[Ak,As,fH] at t;rcases t with y|y;exact eR y (by decide);exact z.2 y.symm
        let t:¬ ("any":eZ)∈[("tree":eZ),a]:=by simpa using c3
        let he:Fol.treeF (mmOf e g) (n+1) (tk++d) (y::cs)=(Fol.treeF (mmOf e g) n (tk++d++[j]) cs).map (j :: ·):=by rw[u];exact eQ #[eY,λz=>t (by rw[z];simp)]
        exists _,eY,Y,_,0,.str "tree",eY,eY,g3,eY,eY,_,rfl;let(w1,w2):=ay W cs ai X af ah (by lia) he;exact#[_,eY,.inl #[eY,_,SqL.of af],_,eY,D,_,_,eY,eY,af,w1,w2]
     let c':(mmOf e g).al y "nil"=eJ:=by
      show decide (fq e y=fq e "nil")=eJ;simpa using c
     refine#[n,B7 n,d,cs,_,_,_,xs,eY,k3,J,ab,aB,ag,R,by lia,by lia,?_];rw[O,Fol.treeF,eQ c']
   cases cs with
   |cons y cs=>rw[Bv,Av] at c;simp at c
   |nil =>
    refine#[_,eY,aI d [] ?_ D xs N k2 (by rw[A0];exact ax) R aq];rw[rf,O,Fol.treeF];show Fol.SRes.ok (d++[]) []=_;rw[A0]
 rintro σ N Q1 Q2 hq ⟨v,h1,k,h2,h3⟩;exact#[v,h1,k,h2,hq _ _ h3]
theorem a98{dS:JY}(s:TTxt K mg C2 M)(F:Fun K "row_of" "Taking.row_of" a7x f fd)(N:FnOk P w K mg base CX0 5 S Y eD (pu K C C2 λr=>∃a b c,r=[("cell":eZ),a,b,c]))(D:eC N C2 "cell_row")(U:FnOk P w K mg base CX0 6 T dS eE (pu K C C2 λr=>∃a b,r=[("stretch":eZ),a,b]))(J:eC U C2 "stretch_row")(W:FnOk P w K mg base CX0 5 R X eF (pu K C C2 λr=>∃a,r=[("tree":eZ),a]))(L:eC W C2 "tree_row"):FnOk P w K mg base CX0 7 f fd ["self","part"] (pu K C C2 PartRow):=by
 refine F.okA ["self","part"] λO A outer s0 H vs Q E I h _=>?_;let(G,k,td,b,u,y,tk,dq,am,r,rfl,o,v,x,n,d,q):=h;let m:=I.mono (j:=5) (by lia);exists _,fe (gg (fz gq (fj K (qv 1) fc) gt (fy _)) (ff (fm (gi (qv 0) s.cl D.meth N m D.bind .nil gn (fh (qv 1) ad)))) ge)
  (ff (fm (mz (fz gq (fj K (qv 1) fc) gt (fy _)) (gi (qv 0) s.cl J.meth U I J.bind .nil gn (fh (qv 1) ad)) (gi (qv 0) s.cl L.meth W m L.bind .nil gn (fh (qv 1) ad)))))
 nofun
 let(p,pd,da,B,fs,dv,h1,h2,_):=o.ex;refine#[_,eY,b,_,0,_,eY,eY,n,d.at0,eY,_,eY,iteB (λc=>?_) (λc=>?_)]
 . let l:r.getD 0 ""="cell" := by simpa using c
   refine#[_,eY,k,B,fs,eY,h1,h2.meth "cell_row" (by decide),_,eY,G,k,td,b,u,y,tk,dq,am,r,eY,o,v,x,n,?_,q];rcases d with z|⟨a,e,rfl⟩|⟨a,rfl⟩;exact z;exact eR l (by show ¬ ("stretch":eZ)="cell";decide);exact eR l (by show ¬ ("tree":eZ)="cell";decide)
 let l:¬ r.getD 0 ""="cell" := by simpa using c
 refine#[_,eY,b,_,0,_,eY,eY,n,d.at0,eY,_,eY,iteB (λt=>?_) (λt=>?_)]
 . let i:r.getD 0 ""="stretch" := by simpa using t
   refine#[_,eY,k,B,fs,eY,h1,h2.meth "stretch_row" (by decide),_,eY,G,k,td,b,u,y,tk,dq,am,r,eY,o,v,x,n,?_,q];rcases d with⟨a,e,g,rfl⟩|z|⟨a,rfl⟩
   . exact eR rfl l
   . exact z
   exact eR i (by show ¬ ("tree":eZ)="stretch";decide)
 let i:¬ r.getD 0 ""="stretch" := by simpa using t
 refine#[_,eY,k,B,fs,eY,h1,h2.meth "tree_row" (by decide),_,eY,G,k,td,b,u,y,tk,dq,am,r,eY,o,v,x,n,?_,q];rcases d with⟨a,e,g,rfl⟩|⟨a,e,rfl⟩|z
 . exact eR rfl l
 . exact eR rfl i
 exact z
theorem a8h(xs:eL V)(Pv:JA->eO->eL V->Hp->Prop)(e:JSeq J q xs)(d:∀D i ys H,Pv D i ys H->q H)(hz:xs.length<=1000)(n:∀D,c D=eI->Pv D 0 [] (upd c D (.lst [])))(s:∀D i ys H x,c D=eI->Pv D i ys H->H D=eH (.lst ys)->ys.length=i->xs[i]?=eH x->k (eH x::j8 σ r) H λy h=>h D=eH (.lst ys)/\Pv D (i+1) (ys++[y]) (upd h D (.lst (ys++[y]))))(mono:∀σ H Q l,(∀b c,Q b c->l b c)->k σ H Q->k σ H l)(t:∀D ys H,c D=eI->Pv D xs.length ys H->H D=eH (.lst ys)->ys.length=xs.length->Q (.ref D) H):lr J c σ r tYes k Q:=by
 intro D j;exists λi m H=>i<=xs.length/\m=xs.length-i/\∃ys,Pv D i ys H/\H D=eH (.lst ys)/\ys.length=i,#[xs.length,AC _,eY,[],n D j,fb,eY];rintro i m H ⟨hi,rfl,ys,hp,hd,hl⟩;by_cases a:i<xs.length;refine .inr #[e.go i H (d _ _ _ _ hp) a,λx H' f=>?_];let(rfl,o):=e.yld i H x H' a (d _ _ _ _ hp) f;unfold tYes;dsimp only;rw[eQ rfl];refine mono _ _ _ _ (λy h #[g1,p]=>?_) (s D i ys H' x j hp hd hl o);exact#[ys,g1,AH (show ys.length<=1000 by lia) (by decide),xs.length-(i+1),by lia,a,eY,ys++[y],p,fb,by rw[Ai,A2,hl]]
 let g:i=xs.length:=by lia
 subst g;exact .inl #[e.stop _ H (d _ _ _ _ hp) (Ao _),t D ys H j hp hd hl]
def T2At(K:Aa)(H:Hp)(t:JA)(G S:eS):Prop:=∃a b,SqT K H t [.ref a,.ref b]/\RowsAt K H a G/\RowsAt K H b S
theorem T2At.same(h:T2At K H t G S)(e:Same H H'):T2At K H' t G S:=by
 let(a,b,h1,h2,h3):=h;exact#[a,b,e.seqT h1,h2.same e,h3.same e]
def mi(F:eS)(r:eU):fJ:=if r.getD 0 ""="is" then alB F (r.getD 1 "") (r.getD 2 "") else !alB F (r.getD 1 "") (r.getD 2 "")
def ms(rs:eS):eT:=rs.filterMap λ(r:eU)=>if(r.getD 0 "":eZ)=("is":eZ) then eI else eH ((r.getD 1 "",r.getD 2 ""):eZ×eZ)
def accR(jss:eL (eL eO))(q:eT):Fol.RRes->Fol.RRes
 |.ok jss' q'=>.ok (jss++jss') (q++q')
 |.amid i j=>.amid (jss.length+i) j
 |.fail=>.fail
theorem a9n:∀r:Fol.RRes,accR [] [] r=r
 |.ok _ _=>rfl
 |.amid i j=>fE (λn=>Fol.RRes.amid n j) (FH i)
 |.fail=>rfl
inductive spRowsOfS(K:Aa)(C C2:JA)(vs:eL V)(H:Hp)(Q:VK):Prop
 |mk (G:Hp)(q td t:JA)(F P Gs S:eS)(h0:vs=[.ref q,.ref t])(h1:TkAt K C C2 G H q td F P [] [] eI)(h2:Rd0 F P)(h3:T2At K H t Gs S)(h4:(∀r∈Gs,gw r))(h5:(∀r∈S,PartRow r))(h6:Gs.length<=100)(h7:S.length<=15)(h8:(Gs.all (mi F)=eK->∀H' dq',Kp (XT q td) H H'->TkAt K C C2 G H' q td F P [] dq' eI->Q .non H'))(h9:(Gs.all (mi F)=eJ->(∀jss qs,Fol.rowsF (mmOf F P) [] S=.ok jss qs->∀D xs H',Kp (XT q td) H H'->TkAt K C C2 G H' q td F P jss.flatten (ms Gs++qs) eI->H' D=eH (.lst xs)->Q (.ref D) H')/\(∀i j,Fol.rowsF (mmOf F P) [] S=.amid i j->∀H' tk' dq',Kp (XT q td) H H'->TkAt K C C2 G H' q td F P tk' dq' (eH (j,end2 (S.getD i [])))->Q .non H')/\(Fol.rowsF (mmOf F P) [] S=.fail->∀H' tk' dq',Kp (XT q td) H H'->TkAt K C C2 G H' q td F P tk' dq' eI->Q .non H'))):spRowsOfS K C C2 vs H Q
def ux(K:Aa)(C C2:JA):Sp:=λvs H Q _=>spRowsOfS K C C2 vs H Q
inductive spLeavesS(K:Aa)(C C2:JA)(vs:eL V)(H:Hp)(Q:VK):Prop
 |mk (G:Hp)(q td:JA)(F P:eS)(tk:eL eO)(dq:eT)(am:eM (eO×eZ))(h0:vs=[.ref q])(h1:TkAt K C C2 G H q td F P tk dq am)(h2:P.length<=15)(h3:∀(b:fJ) H',Same H H'->(b=eJ↔∃j∈neOf F P,¬ j∈tk)->Q (.bl b) H'):spLeavesS K C C2 vs H Q
def v6(K:Aa)(C C2:JA):Sp:=λvs H Q _=>spLeavesS K C C2 vs H Q
section
variable{K:Aa}{C C2:JA}{G H H':Hp}{q td:JA}{F P:eS}{tk:eL eO}{dq:eT}{am:eM (eO×eZ)} in
theorem TkAt.rows(h:TkAt K C C2 G H q td F P tk dq am){a:JA}{as:eL JA}{rs:eS}(c:H a=eH (.lst (as.map V.ref)))(hp:JI (λb r=>RowAt K H b r) as rs)(k:Kp (XT q td) H H'):H' a=eH (.lst (as.map V.ref))/\JI (λb r=>RowAt K H' b r) as rs:=#[k _ _ c (h.lst c),Paired.mapP hp λb r z=>h.row z k]
end
theorem a5c(Cn:Con K mg w)(T2:TTxt K mg C2 aL)(F:Fun K "rows_of" "Taking.rows_of" a2s f fd)(GH:FnOk P w K mg base CX0 4 gH dH eD (a1o K C C2))(cH:eC GH C2 "holds")(GR:FnOk P w K mg base CX0 7 gR dR eE (pu K C C2 PartRow))(cR:eC GR C2 "row_of"):FnOk P w K mg base CX0 8 f fd ["self","telling"] (ux K C C2):=by
 refine F.okA ["self","telling","rows","part","row"] λaM A outer s0 H vs Q E hr h nd=>?_;let(G,M,td,t,l,N,r,s,rfl,R,hR,(fa,pa,ht,hG,hS),aI,aG,aP,aN,qf,qt):=h;let aF:=hr.mono (j:=4) (by lia);exists _,fe (gg (jc (i6 (gr (vh rfl) rfl Cn.all Et (jh (ni ["fact","self"] [0] (i9 (fj K (qv 1) fc)) (λ_ _ _ _=>le) (λ_ _ _ _=>(gi (qv 1) T2.cl cH.meth GH aF cH.bind .nil gn (fh (qv 0) ad)))) ad)))) (ff (fm gj)) ge)
  (fe (gd 2 nd (iu ad))
  (fe (ip A7 rfl (i9 (fj K (qv 1) fc)) (j2 3 nd) (fe (gd 4 nd (gi (qv 0) T2.cl cR.meth GR hr cR.bind .nil gn (fh (qv 3) ad)))
  (fe (gg (fz kx (qv 4) gj (fy _)) (ff (fm gj)) ge)
  (ff (il (kz (K:=K) rfl AK By Bz jw (qv 2) (fh (qv 4) ad)))))))
  (ff (fm (qv 2)))))
 nofun
 let(aE,ag,ap):=hG;let aa:=A4 ap;let ar:∀{m},Kp (XT M td) H m->SqT K m t [.ref fa,.ref pa]:=λ{m} k=>by
  let(p,pd,da,dx,fs,dv,h1,_):=R.ex;rcases ht with (h|⟨o,h⟩)|h
  . exact .inl (.inl (k _ _ h (λz=>z.elim (j1 h h1 (λz=>nomatch z)) (j1 h R.tk (λz=>nomatch z)))))
  . exact .inl (.inr #[o,k _ _ h (λz=>z.elim (j1 h h1 (λz=>nomatch z)) (j1 h R.tk (λz=>nomatch z)))])
  exact .inr h
 exists _,eY,t,_,0,.ref fa,eY,eY,ht,eY,fa,eY,#[_,SqL.of ag];refine a8h (aE.map V.ref) (λD i ys m=>Kp (XT M td) H m/\TkAt K C C2 G m M td l N [] (ms (r.take i)) eI/\ys=((r.take i).map (mi l)).map V.bl) jo (λD i ys m pv=>SqL.of (pv.1 _ _ ag (R.lst ag))) (by rw[Ad];lia) (λD X=>#[Kp.sm (fi X _),R.same (fi X _),eY]) (λD i ys m x X pv hd hl hx=>?_) ?_ (λD1 ys H1 aO pv av aR=>?_)
 . let(k2,g,Y):=pv;let(b,L,rfl):=kc hx;let J:i<r.length:=by rw[<- aa];exact(An.mp L).1
   let hy:r[i]?=eH r[i]:=Ag J;let B:=Paired.at2 ap L hy;let(k,u,v,ao,hk):=aI _ (AM J);let et:r.take (i+1)=r.take i++[r[i]]:=by rw[AJ,hy];rfl
   rw[ao] at B et;let(p,pd,da,dx,fs,dv,h1,h2,_):=g.ex;refine#[_,eY,M,dx,fs,eY,h1,h2.meth "holds" (by decide),_,eY,G,M,td,b,l,N,[],_,eI,k,u,v,eY,g,hR,R.row B k2,λW k3 y=>?_];let I:=k3 _ _ hd (g.lst hd);let ac:G D=eI:=R.sm.free X;exists I,λb o L n=>by rw[fg (gb L X)];exact k3 _ _ (k2 _ _ L n) n,?_
   . let:=y.lput ac I (ys++[.bl (if k="is" then alB l u v else !alB l u v)]);rw[et];let e:ms (r.take i++[[k,u,v]])=if k="is" then ms (r.take i) else ms (r.take i)++[(u,v)]:=by
      unfold ms;rw[Dl];rw[BN];by_cases c:k="is";rw[eQ c,eQ (show[k,u,v].getD 0 ""="is" from c)];simp;rw[eP c,eP (show ¬ [k,u,v].getD 0 ""="is" from c)];rfl
     rw[e];exact this
   rw[et,Y,Av,Av];rfl
 . rintro σ m Q1 Q2 hq ⟨v1,e1,a1,a2,a3,e2,e3,e4,v2,e5,g1,g2,g3,g4,g5,g6,g7,g8,g9,aJ,ax,ay,e6,e7,e8,e9,hQ⟩;exact#[v1,e1,a1,a2,a3,e2,e3,e4,v2,e5,g1,g2,g3,g4,g5,g6,g7,g8,g9,aJ,ax,ay,e6,e7,e8,e9,λH' k t=>hq _ _ (hQ H' k t)]
 let(k1,U,Y):=pv;rw[Ad,aa,AN] at U Y;exists D1,_,eY,SqL.of (by rw[av,Y]);let an:((r.map (mi l)).all id)=r.all (mi l):=by rw[EE];rfl
 rw[an];cases ha:r.all (mi l) with
 |false=>exact#[_,eY,qf ha H1 _ k1 U]
 |true =>
 let(aw,aA,az):=qt ha;exists _,rfl;refine#[(show 0<=JB by decide),λD X=>?_];let s2:=fi X (.lst []);let ac:G D=eI:=U.sm.free X;let(au,ah,ae):=hS;let ab:=A4 ae;let(am,aK):=R.rows ah ae k1;let aD:=R.lst ah;let kD:∀{W:Hp} {ys:eL V},Kp (XT M td) H W->Kp (XT M td) H (upd W D (.lst ys)):=λ{W ys} k b o L n=>by
  rw[fg (λz=>by rw[z] at L n;let:=k1 _ _ L n;rw[X] at this;cases this)];exact k b o L n
 exists _,eY,t,_,1,.ref pa,eY,eY,ar (Kp.tr k1 (Kp.sm s2)),eY,pa,eY,#[_,SqL.of (s2 _ _ am)];refine j5 (xs:=au.map V.ref) (λi σ m=>Ex5 λ(d:eL (eL eO)) (qs:eT) (xs:eL V) (z1 z2:eM V)=>And8 (σ=[rQ M,rQ t,rQ D,z1,z2]) (Kp (XT M td) H m) (TkAt K C C2 G m M td l N d.flatten (ms r++qs) eI) (TkN l N d.flatten) (m D=eH (.lst xs)) (xs.length=i) (d.length=i) (Fol.rowsF (mmOf l N) [] s=accR d qs (Fol.rowsF (mmOf l N) d.flatten (s.drop i))))
  #[[],[],[],eI,eI,eY,Kp.tr k1 (Kp.sm s2),by rw[A0];exact U.same s2,#[AV,λj hj=>by cases hj],fb,eY,eY,by rw[DX];exact(a9n _).symm] (λi σ m _ pv=>by let(_,_,_,_,_,_,k2,_):=pv;exact SqL.of (k2 _ _ ah aD)) ?_ ?_
 . rintro i v σ m hv ⟨d,qs,xs,z1,z2,rfl,k2,g,al,T,aq,aj,O⟩
   nofun
   let(b,L,rfl):=kc hv;let J:i<s.length:=by rw[<- ab];exact(An.mp L).1
   let hy:s[i]?=eH s[i]:=Ag J;let B:=R.row (Paired.at2 ae L hy) k2;let aC:s.drop i=s[i]::s.drop (i+1):=DJ J;let aB:s.getD i []=s[i]:=by rw[Ay,hy];rfl
   let af:Fol.rowsF (mmOf l N) d.flatten (s.drop i)=match Fol.rowF (mmOf l N) d.flatten s[i] with
    |.fail=>.fail
    |.amid j=>.amid 0 j
    |.ok Z q=>match Fol.rowsF (mmOf l N) (d.flatten++Z) (s.drop (i+1)) with
     |.ok d q2=>.ok (Z::d) (q++q2)
     |.amid i j=>.amid (i+1) j
     |.fail=>.fail:=by rw[aC];rfl
   let(p,pd,da,dx,fs,dv,h1,h2,_):=g.ex;refine#[_,eY,M,dx,fs,eY,h1,h2.meth "row_of" (by decide),_,eY,G,M,td,b,l,N,_,_,eI,_,eY,g,hR,al,B,aG _ (AM J),λZ q1 he Dr ys W k3 y aH aQ=>?_,λj he W tk' ak k3 y=>?_,λhe W tk' ak k3 y=>?_]
   . exists _,eY,eY,_,rfl;let I:=k3 _ _ T (g.lst T);exists _,eY,.inl #[eY,_,SqL.of I],_,eY,D,_,_,eY,eY,I,AH (show xs.length<=15 by lia) (by decide);let ai:(d++[Z]).flatten=d.flatten++Z:=by rw[Bh];simp
     refine#[d++[Z],qs++q1,_,_,_,eY,kD (Kp.tr k2 k3),?_,by rw[ai];exact aH,fb,by rw[Ai,A2,aq],by rw[Ai,A2,aj],?_];rw[ai,<- A5];exact y.lput ac I _
     rw[O,af,he,ai];show accR d qs (match Fol.rowsF (mmOf l N) (d.flatten++Z) (s.drop (i+1)) with|.ok d q2=>.ok (Z::d) (q1++q2)|.amid i j=>.amid (i+1) j|.fail=>.fail)=_;cases Fol.rowsF (mmOf l N) (d.flatten++Z) (s.drop (i+1)) with|ok a b=>show Fol.RRes.ok _ _=.ok _ _;rw[A5,A5];rfl|amid a b=>show Fol.RRes.amid _ _=.amid _ _;rw[Ai,A2];congr 1;lia|fail=>rfl
   . refine#[_,eY,eY,_,eY,aA i j ?_ W tk' ak (Kp.tr k2 k3) (by rw[aB];exact y)];rw[O,af,he];show Fol.RRes.amid (d.length+0) j=_;rw[aj];rfl
   refine#[_,eY,eY,_,eY,az ?_ W tk' ak (Kp.tr k2 k3) y];rw[O,af,he];rfl
 rintro σ m ⟨d,qs,xs,z1,z2,rfl,k2,g,al,T,aq,aj,O⟩;refine#[_,eY,aw d qs ?_ D xs m k2 g T];rw[O,Ad,ab,Ie];show Fol.RRes.ok (d++[]) (qs++[])=_;rw[A0,A0]
theorem a15:∀{b:eL JA}{us:eL JC},Vals (b.map V.ref) us->∀u∈us,∃t∈b,u=.ref t
 |[],_,.nil=>λu a=>by cases a
 |t::b,u::us,.cons r h=>λc a=>by
  rcases Ak.mp a with rfl|a;cases r;exact#[t,Af ..,eY];let(t',h1,h2):=a15 h c a;exact#[t',Ah _ h1,h2]
theorem aar(k:X.K=K)(d:X.A.units+1<cLine):OpR X (JM .In) (λx y H Q=>∃(p:JA) (a:eL JA),x=.non/\y=.ref p/\SqL K H p (a.map V.ref)/\(∀t∈a,∃xs,SqT K H t xs)/\Q (.bl eK) H):=by
 subst k;intro c s σ H x y v u Q I f j h;let(p,a,rfl,rfl,l,e,q):=h;cases j;cases f;let(its,r,pl,hz):=I.list l;refine Il (λ_=>eK) pl.isList (λw i=>?_) #[.bl _,H,I,eY,?_];let(t,h1,rfl):=a15 r w (by simpa using i);let(xs,g):=e t h1;let(its',r',b,_):=I.tuple g;exact SeqAt.EqAt.tuple_none b (by first|exact d|(show X.A.units+1<cLine;exact d)|(show X.A.units<cLine;lia)|lia);rw[show its.toArray.any (λ_=>eK)=eK by simp];exact q
theorem a6o(a:X.A.units+1<cLine)(hi:QE X i ty)(b:QE X o td)(hm:autoParam (JN .NotIn o=eK) a8_):QE X (.Compare i [.NotIn] [o] pos) (u6 ty td):=#[a7s (ye a hi.run b.run) hm]
theorem tkf5(p pd td am:JA):TkF (putF "amid" (.ref am) (putF "doubt" .non (putF "taken" (.ref td) (putF "parts" (.ref pd) (putF "knowledge" (.ref p) []))))) p pd td am .non:=by
 let(n1,n2,l,j,f,g,k,h,b,a):=a50;refine#[?_,?_,?_,?_,?_,?_,λm hm=>?_];rw[ft,eP k,ft,eP g,ft,eP f,ft,eP j,ft,eQ rfl];rw[ft,eP l,ft,eP n2,ft,eP n1,ft,eQ rfl];rw[ft,eP b,ft,eP h,ft,eQ rfl];rw[ft,eP a,ft,eQ rfl];rw[ft,eQ rfl]
 . let h1:=gz "knowledge" (.ref p) [];let h2:=gz "parts" (.ref pd) (putF "knowledge" (.ref p) []);let h3:=gz "taken" (.ref td) (putF "parts" (.ref pd) (putF "knowledge" (.ref p) []));let n:=gz "doubt" .non (putF "taken" (.ref td) (putF "parts" (.ref pd) (putF "knowledge" (.ref p) [])));let o:=gz "amid" (.ref am) (putF "doubt" .non (putF "taken" (.ref td) (putF "parts" (.ref pd) (putF "knowledge" (.ref p) []))));simp only[DI] at h1
   lia
 let(c,d,i,m4,e):=a4q m hm;rw[ft,eP e,ft,eP m4,ft,eP i,ft,eP c,ft,eP d];rfl
inductive spTInitS(K:Aa)(C C2:JA)(vs:eL V)(H:Hp)(Q:VK):Prop
 |mk (q dx p pd:JA)(H0:Hp)(F P:eS)(rs:eL JA)(h0:vs=[.ref q,.ref p,.ref pd])(h1:H q=eH (.ins C2 dx []))(h2:Same H0 H)(h3:H0 q=eI)(h4:KwAt K C H0 p F P)(h5:H0 pd=eH (.dK (kvE 0 (rs.map V.ref))))(h6:JI (λb r=>RowAt K H0 b r) rs P)(h7:∀td H',Kp (· = q) H H'->TkAt K C C2 H0 H' q td F P [] [] eI->Q .non H'):spTInitS K C C2 vs H Q
def ww(K:Aa)(C C2:JA):Sp:=λvs H Q _=>spTInitS K C C2 vs H Q
theorem a8d(Cn:Con K mg w)(T:Txt K mg C fI)(a:TTxt K mg C2 S)(F:Fun K "leaves_some" "Taking.leaves_some" a34 f fd):FnOk P w K mg base CX0 1 f fd ["self"] (v6 K C C2):=by
 refine F.okA ["self"] λU A outer s0 H vs Q E hr h _=>?_;let(G,m,td,u,n,tk,dq,am,rfl,g,b,q):=h;let c:=ir hr;exists _,(ff (fm (gr (v8 rfl) rfl Cn.any Ep (jh (ni ["number","self"] [0] (i9 (gh (K:=K) rfl (gh (K:=K) rfl (qv 0)))) (λ_ _ _ _=>le) (λ_ _ _ _=>(om (a1d c (qv 0) (gh (K:=K) rfl (qv 1))) (lm (a6o c (qv 0) (gh (K:=K) rfl (qv 1))))))) ad))));let(p,pd,da,r,fs,dv,h1,h2,hG):=g.ex;let(rs,h4,h5):=hG.pd;let kw:KwAt K C H p u n:=hG.kw.same g.sm;let(pl,hd,un,fu,D,L,Fl,hK,hN,aa,_):=kw.ex;let((B,o,g1,g2,J),N):=id hN;exists _,eY,m,C2,r,fs,.ref p,eY,h1,a.cl,a.nK,h2.kn,p,C,B,o,.ref D,eY,g1,T.cl,T.nE,J,D,eY,#[_,SqL.of N];refine uw ((neOf u n).map natV) (neOf u n) (λj => !decide (j∈tk)) jo (SqL.of N) (by rw[Ad];exact AB (sr b) (by decide)) (by rw[Ad]) (λi x y R M H2 e Q' X=>?_) λY H1 W e1 s=>?_
 . obtain rfl:x=.int ((y:eO):eN):=by
    rw[Ar,M] at R;exact(Am R).symm
   let I:=Aq M;let v:=g.same e;let t:y<rs.length:=by rw[A4 h5];exact nk y I
   let O:=DGet.k (k:=Sum.inl ((y:eO):eN)) (e _ _ (g.sm _ _ h4));rw[vq,Ar,Ag t] at O;let Z:=DGet.k (k:=Sum.inl ((y:eO):eN)) v.tk;exists _,eY,_,eY,m,C2,r,fs,.ref pd,eY,e _ _ h1,a.cl,a.nP,h2.parts,pd,_,eY,O,_,rfl;exists _,eY,_,eY,m,C2,r,fs,.ref td,eY,e _ _ h1,a.cl,a.nT,h2.taken,td,_,eY,Z;rw[qk];exact X H2 (Same.refl _)
 exists Y,_,eY,SqL.of s;refine q _ H1 e1 ?_;rw[DT,AS];constructor;rintro⟨j,l,hz⟩;refine#[j,l,λz=>?_];let d:(!decide (j∈tk))=eJ:=hz;rw[fB z] at d;cases d;rintro⟨j,l,hz⟩;exists j,l;show(!decide (j∈tk))=eJ;rw[fA hz];rfl
theorem aai(i:TTxt K mg C2 S)(F:Fun K "__init__" "Taking.__init__" a5v f fd):FnOk P w K mg base CX0 1 f fd ["self","knowledge","parts"] (ww K C C2):=by
 refine F.okA ["self","knowledge","parts"] λT A outer s0 H vs Q E Y h _=>?_;let(a,d,p,pd,J,Z,Ps,rs,rfl,U,R,B,W,x,G,q):=h;exists _,fe (kh (K:=K) rfl (qv 0) (qv 1))
  (fe (kh (K:=K) rfl (qv 0) (qv 2))
  (fe (kh (K:=K) rfl (qv 0) ma)
  (fe (kh (K:=K) rfl (qv 0) gj)
  (ff (kh (K:=K) rfl (qv 0) ma)))))
 nofun
 let c:∀{n:eO},n<=10->n<1000:=λh=>by lia
 let N:(putF "knowledge" (.ref p) []).length<=1:=gz _ _ _;let L:(putF "parts" (.ref pd) (putF "knowledge" (.ref p) [])).length<=2:=by let:=gz "parts" (.ref pd) (putF "knowledge" (.ref p) []);lia
 exists _,eY,_,eY,a,C2,d,_,eY,U,i.cl,i.nK,c (AC _);exists _,eY,_,eY,a,C2,d,_,eY,fb,i.cl,i.nP,c (by lia);let k1:Kp (· = a) H (upd (upd H a (.ins C2 d (putF "knowledge" (.ref p) []))) a (.ins C2 d (putF "parts" (.ref pd) (putF "knowledge" (.ref p) [])))):=λb o e n=>by rw[fg n,fg n];exact e
 let m:(upd (upd H a (.ins C2 d (putF "knowledge" (.ref p) []))) a (.ins C2 d (putF "parts" (.ref pd) (putF "knowledge" (.ref p) [])))) a=eH (.ins C2 d (putF "parts" (.ref pd) (putF "knowledge" (.ref p) []))):=fb;generalize upd (upd H a (.ins C2 d (putF "knowledge" (.ref p) []))) a (.ins C2 d (putF "parts" (.ref pd) (putF "knowledge" (.ref p) [])))=X at k1 m |-;refine λtd l=>?_;let O:=fi l (.dK []);let r:a≠td:=gb m l;let M:(putF "taken" (.ref td) (putF "parts" (.ref pd) (putF "knowledge" (.ref p) []))).length<=3:=by let:=gz "taken" (.ref td) (putF "parts" (.ref pd) (putF "knowledge" (.ref p) []));lia
 let s:(putF "doubt" .non (putF "taken" (.ref td) (putF "parts" (.ref pd) (putF "knowledge" (.ref p) [])))).length<=4:=by let:=gz "doubt" .non (putF "taken" (.ref td) (putF "parts" (.ref pd) (putF "knowledge" (.ref p) [])));lia
 exists _,eY,a,C2,d,_,eY,O _ _ m,i.cl,i.nT,c (by lia);exists _,eY,a,C2,d,_,eY,fb,i.cl,i.nD,c (by lia);generalize hfs:putF "doubt" .non (putF "taken" (.ref td) (putF "parts" (.ref pd) (putF "knowledge" (.ref p) [])))=k at s |-;generalize hH2:upd (upd (upd X td (.dK [])) a (.ins C2 d (putF "taken" (.ref td) (putF "parts" (.ref pd) (putF "knowledge" (.ref p) []))))) a (.ins C2 d k)=v;let k2:Kp (· = a) H v:=λb o e n=>by rw[<- hH2,fg n,fg n];exact O _ _ (k1 b o e n)
 let t:v a=eH (.ins C2 d k):=by rw[<- hH2];exact fb
 let u:v td=eH (.dK []):=by rw[<- hH2,fg (AF r),fg (AF r)];exact fb
 refine λam g=>?_;let y:=fi g (.dK []);exists _,eY,a,C2,d,_,eY,y _ _ t,i.cl,i.nA,c (by lia);let k3:Kp (· = a) H (upd (upd v am (.dK [])) a (.ins C2 d (putF "amid" (.ref am) k))):=λb o e n=>by rw[fg n];exact y _ _ (k2 b o e n)
 let D:am≠a:=λz=>by rw[z,t] at g;cases g
 let I:am≠td:=λz=>by rw[z,u] at g;cases g
 let j:∀b o,J b=eH o->¬ XT a td b:=λb o e z=>by
  let hn:b≠a:=λz=>by rw[z,B] at e;cases e
  rcases z with z|z;exact hn z;let:=k1 b o (R _ _ e) hn;rw[z,l] at this;cases this
 refine q td _ k3 #[#[p,pd,am,d,_,.non,fb,?_,W,#[rs,x,G],eY,?_,I],?_,λb o e=>#[k3 b o (R _ _ e) (λz=>j b o e (.inl z)),j b o e]];rw[<- hfs];exact tkf5 p pd td am;rw[fg D];exact fb;rw[fg (AF r)];exact y _ _ u
end K34
namespace L2
theorem a8i(I:Inv X d σ H s)(e:H a=eH (.dK kvs))(n:H b=eH (.dK more))(g:a≠b)(hl:kvs.length+more.length<=JB)(h:∀s',Inv X d σ (upd H a (.dK (j9 kvs more))) s'->Q .none s'):JD (JE X.prog X.w) A (call (.builtin "dict.update") [.ref a,.ref b]) Q E s:=by
 let(z,hd,vs,rel,dd):=nt I.hok e;let(p,l,i,c,k):=nt I.hok n;refine EA FI dd.typeIs PySem.F.entry_dict_update (PySem.F.args_dict_update_2 _ _) (meets_dict_update (gu X.prog X.w) a b g l) #[vs,i,dd,k,by rw[<- rel.length,<- c.length];exact hl,λh' f _ m=>?_];refine h _ ?_;let o:∃q,h'.get? a=eH q:=let ⟨q,_,_,hq,_⟩:=f;#[q,hq];let j:(j9 kvs more).length<=JB:=by let:=o0 more kvs;lia
 exact mw I (by rw[e];exact True.intro) m o (ou j hd (c.merge rel) f)
def ab6(td ty:TE):TE:=fun σ H Q=>td σ H λx H1=>∃a,x=.ref a/\IsD H1 a/\ty σ H1 λy H2=>∃b kvs more,y=.ref b/\H2 a=eH (.dK kvs)/\H2 b=eH (.dK more)/\a≠b/\kvs.length+more.length<=JB/\Q .non (upd H2 a (.dK (j9 kvs more)))
theorem ady(n:PE X o td)(z:PE X e ty)(m:M1 X o "update" g e f):PE X (.Call (.Attribute o "update" g) [e] [] f) (ab6 td ty):=by
 intro c s σ H Q I h;refine Ed m.base m.few m.line CS FI PySem.F.type_dict_update (thn (n c s σ H _ I h) λu s1 E=>?_);let(x,A,j,l,a,ex,d,p):=E;subst ex;obtain rfl:u=Value.ref a:=l;let(D,q,_):=wq j d;exists D,q;rw[m.trees];refine Cc rfl (Ck (BQ (thn (z c s1 σ A _ j p) λC M #[y,L,k,r,b,kvs,more,w,B,v,i,hl,G]=>CG ?_)));subst w;obtain rfl:C=Value.ref b:=r;exact a8i k B v i hl λJ t=>#[.non,_,t,eY,G]
theorem acb(d:QE X o td)(c:QE X e ty)(m:autoParam (M1 X o "update" b e a) a9_):QE X (.Call (.Attribute o "update" b) [e] [] a) (ab6 td ty):=#[ady d.run c.run m]
theorem a8g(j:QE X k tk)(hv:QE X v i)(g:QE X h tk')(e:QE X m a)(d:QE X k2 f)(b:QE X l c):QE X (.Dict [eH k,eH h,eH k2] [v,m,l] pos) (zu [(tk,i),(tk',a),(f,c)]):=#[wv (nb j.run hv.run (nb g.run e.run (nb d.run b.run xb))) rfl rfl (by simp) (by simp)]
end L2
namespace K34
open L2 Mir Kn
abbrev yp:JJ:=top 22
abbrev a1b:JJ:=top 23
abbrev a0v:JJ:=top 24
def ival(o:eM V):eN:=match o with|some (.int n)=>n|_=>0
def Dom(zs:eU)(x:eZ):Prop:=x="nil" \/ x∈zs
def EntI(kv:eL (Key×V)):Prop:=∀q∈kv,∃(x:eZ) (n:eN),q=(Sum.inr x,V.int n)
theorem EntI.put(h:EntI kv)(x:eZ)(n:eN):EntI (putK kv (Sum.inr x) (.int n)):=λq a=>by
 unfold putK at a;split at a;let(p,hp,rfl):=Au.mp a;let(y,k,rfl):=h p hp;by_cases c:(Sum.inr y:Key)=Sum.inr x;exact#[y,n,by rw[eQ c]];exact#[y,k,by rw[eP c]]
 rcases Ab.mp a with z|z;exact h q z;exact#[x,n,Ae.mp z]
structure NumOk(h:eZ->eZ)(zs:eU)(kv:eL (Key×V)):Prop where
 at_:∀x,Dom zs x->valV kv (Sum.inr x)=eH (.int (ival (valV kv (Sum.inr x))))
 no:∀k,(valV kv k).isSome=eJ->∃x,k=Sum.inr x/\Dom zs x
 nil:valV kv (Sum.inr "nil")=eH (.int 0)
 inj:∀x y,Dom zs x->Dom zs y->(valV kv (Sum.inr x)=valV kv (Sum.inr y)↔h x=h y)
 lt:∀x,Dom zs x->0<=ival (valV kv (Sum.inr x))/\ival (valV kv (Sum.inr x))<=zs.length
 len:kv.length<=zs.length+1
 ents:EntI kv
structure NumI(h:eZ->eZ)(zs:eU)(n:eO)(kv kn:eL (Key×V)):Prop where
 s:∀x,Dom zs x->valV kv (Sum.inr x)=valV kn (Sum.inr (h x))/\(valV kn (Sum.inr (h x))).isSome=eJ
 z:valV kn (Sum.inr (h "nil"))=eH (.int 0)
 n1:∀k v,valV kn k=eH v->∃m:eO,v=.int (m:eN)/\m<kn.length
 n2:∀k k' v,valV kn k=eH v->valV kn k'=eH v->k=k'
 d:∀k,(valV kv k).isSome=eJ->∃x,k=Sum.inr x/\Dom zs x
 ln:kn.length<=n+1
 lv:kv.length<=n+1
 en:EntI kv
theorem l6{k:Key}(h:valV kn k=eI):putK kn k v=kn++[(k,v)]:=by
 unfold putK;rw[kd,h];rfl
theorem NumI.ok(I:NumI h zs zs.length kv kn):NumOk h zs kv:=by
 let at0:∀x,Dom zs x->∃m:eO,valV kv (Sum.inr x)=eH (.int (m:eN))/\m<=zs.length:=λx a=>by
  let(h1,h2):=I.s x a;let(v,hv):=Bk.mp h2;let(m,rfl,hm):=I.n1 _ _ hv;exact#[m,h1.trans hv,by let:=I.ln;lia]
 refine#[λx a=>?_,I.d,?_,λx y a b=>?_,λx a=>?_,I.lv,I.en];let(m,hm,_):=at0 x a;rw[hm];rfl;rw[(I.s "nil" (.inl rfl)).1];exact I.z;let(h1,h2):=I.s x a;let(h3,c):=I.s y b;rw[h1,h3];constructor;intro e;let(v,hv):=Bk.mp h2;exact Ca (I.n2 _ _ v hv (e ▸ hv));intro e;rw[e]
 let(m,hm,hl):=at0 x a;rw[hm];exact#[Int.natCast_nonneg m,Int.ofNat_le.mpr hl]
theorem NumI.step(I:NumI h zs n kv kn)(x:eZ)(v:V)(hv:valV kn (Sum.inr (h x))=eH v):NumI h (zs++[x]) (n+1) (putK kv (Sum.inr x) v) kn:=by
 refine#[λy b=>?_,I.z,I.n1,I.n2,λk a=>?_,by let:=I.ln;lia,by let:=jd kv (Sum.inr x) v;let:=I.lv;lia,by let(m,rfl,_):=I.n1 _ _ hv;exact I.en.put x m];rw[l3];by_cases e:y=x;subst e;rw[eQ rfl,hv];exact#[eY,eY];rw[eP (λz=>e (Ca z))];refine I.s y ?_;rcases b with z|z;exact .inl z;rcases Ab.mp z with w|w;exact .inr w;exact eR (Ae.mp w) e
 rw[l3] at a;by_cases e:k=Sum.inr x;exact#[x,e,.inr (Ab.mpr (.inr (Ae.mpr rfl)))];rw[eP e] at a;let(y,h1,h2):=I.d k a;exact#[y,h1,h2.imp id λz=>Ab.mpr (.inl z)]
theorem NumI.more(I:NumI h zs n kv kn)(x:eZ)(hv:valV kn (Sum.inr (h x))=eI):NumI h zs (n+1) kv (putK kn (Sum.inr (h x)) (.int (kn.length:eN))):=by
 let hl:(putK kn (Sum.inr (h x)) (.int (kn.length:eN))).length=kn.length+1:=by rw[l6 hv,Ai];rfl
 let old:∀{k:Key} {v:V},valV kn k=eH v->valV (putK kn (Sum.inr (h x)) (.int (kn.length:eN))) k=eH v:=λ{k v} a=>by
  rw[l3,eP (λz=>by rw[z,hv] at a;cases a)];exact a
 refine#[λy j=>?_,old I.z,λk v a=>?_,λk i v a b=>?_,I.d,by let:=I.ln;omega,by let:=I.lv;omega,I.en];let(h1,h2):=I.s y j;let(v,g):=Bk.mp h2;rw[old g,h1];exact#[g,eY];rw[l3] at a;by_cases e:k=Sum.inr (h x);rw[eQ e] at a;cases a;exact#[kn.length,eY,by omega];rw[eP e] at a;let(m,h1,h2):=I.n1 k v a;exact#[m,h1,by omega]
 rw[l3] at a b;let no:∀c,valV kn c≠eH (.int (kn.length:eN)):=λc z=>by
  let(m,h1,h2):=I.n1 _ _ z;let:=V.int.inj h1;omega
 by_cases e:k=Sum.inr (h x);rw[eQ e] at a;cases a;by_cases f:i=Sum.inr (h x);rw[e,f];rw[eP f] at b;exact eR b (no i)
 rw[eP e] at a;by_cases f:i=Sum.inr (h x);rw[eQ f] at b;cases b;exact eR a (no k);rw[eP f] at b;exact I.n2 k i v a b
def numT(h:eZ->eZ)(p:eL (Key×V)×eL (Key×V))(x:eZ):eL (Key×V)×eL (Key×V):=match valV p.2 (Sum.inr (h x)) with
 |some v=>(putK p.1 (Sum.inr x) v,p.2)
 |none=>(putK p.1 (Sum.inr x) (.int (p.2.length:eN)),putK p.2 (Sum.inr (h x)) (.int (p.2.length:eN)))
def numS(h:eZ->eZ)(l:eU):eL (Key×V)×eL (Key×V):=l.foldl (numT h) ([(Sum.inr "nil",.int 0)],[(Sum.inr (h "nil"),.int 0)])
theorem a83(e:numS h l=(kv,kn))(hv:valV kn (Sum.inr (h x))=eH v):numS h (l++[x])=(putK kv (Sum.inr x) v,kn):=by
 unfold numS at e |-;rw[Ft,e];show numT h (kv,kn) x=_;unfold numT;rw[hv]
theorem a7o(e:numS h l=(kv,kn))(hv:valV kn (Sum.inr (h x))=eI):numS h (l++[x])=(putK kv (Sum.inr x) (.int (kn.length:eN)),putK kn (Sum.inr (h x)) (.int (kn.length:eN))):=by
 unfold numS at e |-;rw[Ft,e];show numT h (kv,kn) x=_;unfold numT;rw[hv]
inductive spNumberedS(C:JA)(vs:eL V)(H:Hp)(Q:VK):Prop
 |mk (p nl pl hd un fu:JA)(hm:eT)(uk:eL (eL Key×V))(zs:eU)(h:eZ->eZ)(h0:vs=[.ref p,.ref nl])(h1:KnAt C H p pl hd un fu hm uk)(h2:HeadsOk hm h)(h3:H nl=eH (.lst (zs.map V.str)))(h4:zs.length<=200)(h5:∀d kv H',H d=eI->Same H H'->H' d=eH (.dK kv)->NumOk h zs kv->kv=(numS h zs).1->Q (.ref d) H'):spNumberedS C vs H Q
def wu(C:JA):Sp:=λvs H Q _=>spNumberedS C vs H Q
theorem a23(Cn:Con K mg w)(T:Txt K mg C fI)(F:Fun K "numbered" "numbered" yp f fd)(GH:FnOk P w K mg base CX0 1 gH dH eD (sq C))(U:eC GH C "head"):FnOk P w K mg base CX0 2 f fd ["knowledge","names"] (wu C):=by
 refine F.okA ["knowledge","names","numbers","values","name"] λab A outer s0 H vs Q E hr h nd=>?_;let(p,nl,pl,hd,un,fu,hm,uk,zs,h,rfl,hK,hok,hN,hz,q):=h;let Y:=ir hr;exists _,fe (gd 2 nd (qw (gi (qv 0) T.cl U.meth GH hr U.bind .nil gn (gm ad)) fc))
  (fe (gd 3 nd (qw gt fc))
  (fe (ip A7 rfl (i9 (qv 1)) (j2 4 nd) (ff (ld Y (qv 3) (qv 4) (wz (qv 2) (gi (qv 0) T.cl U.meth GH hr U.bind .nil gn (fh (qv 4) ad)) (gr se rfl Cn.len Bs (fh (qv 2) ad))))))
  (ff (fm (qv 3)))))
 nofun
 let((dx,fs,h1,h2),h3,h4):=id hK;intro b r;let s1:=fi r (.dK []);exists _,eY,p,dx,fs,eY,s1 _ _ h1,h2.meth "head" (by decide),p,pl,hd,un,fu,hm,uk,"nil",eY,hK.same s1;exists fb,[(Sum.inr (hdS hm "nil"),.int 0)],eY,(show 1<=15 by decide);let s2:Same H (upd (upd H b (.dK [])) b (.dK (j9 [] [(Sum.inr (hdS hm "nil"),.int 0)]))):=ia r s1 _;let o:(upd (upd H b (.dK [])) b (.dK (j9 [] [(Sum.inr (hdS hm "nil"),.int 0)]))) b=eH (.dK [(Sum.inr (h "nil"),.int 0)]):=by
  rw[fb,hok.hd "nil"];rfl
 generalize upd (upd H b (.dK [])) b (.dK (j9 [] [(Sum.inr (hdS hm "nil"),.int 0)]))=R at s2 o |-;intro dv y;let g:b≠dv:=gb o y;let a:H dv=eI:=s2.free y;exists fb,[(Sum.inr "nil",.int 0)],eY,(show 1<=15 by decide);let W:Same H (upd (upd R dv (.dK [])) dv (.dK (j9 [] [(Sum.inr "nil",.int 0)]))):=ia a (ia a s2 _) _;let G:(upd (upd R dv (.dK [])) dv (.dK (j9 [] [(Sum.inr "nil",.int 0)]))) dv=eH (.dK [(Sum.inr "nil",.int 0)]):=by rw[fb];rfl
 let M:(upd (upd R dv (.dK [])) dv (.dK (j9 [] [(Sum.inr "nil",.int 0)]))) b=eH (.dK [(Sum.inr (h "nil"),.int 0)]):=by rw[fg g,fg g];exact o
 generalize upd (upd R dv (.dK [])) dv (.dK (j9 [] [(Sum.inr "nil",.int 0)]))=H3 at W G M |-;let I0:NumI h [] 0 [(Sum.inr "nil",.int 0)] [(Sum.inr (h "nil"),.int 0)]:=by
  let one:∀{k j:Key} {v:V},valV [(k,V.int 0)] j=eH v->j=k/\v=.int 0:=λ{k j v} e=>by
   by_cases c:k=j;rw[ij (p:=(k,V.int 0)) c] at e;exact#[c.symm,(Am e).symm];rw[ik (p:=(k,V.int 0)) c] at e;cases e
  let self:∀k:Key,valV [(k,V.int 0)] k=eH (.int 0):=λk=>ij (p:=(k,V.int 0)) rfl;refine#[λx N=>?_,self _,λk v e=>?_,λk k' v e e'=>(one e).1.trans (one e').1.symm,λk hk=>?_,Ao _,Ao _,λq hq=>#["nil",0,Ae.mp hq]];rcases N with rfl|z;rw[self,self];exact#[eY,eY];cases z;exact#[0,(one e).2,Nat.zero_lt_one]
  let(v,hv):=Bk.mp hk;exact#["nil",(one hv).1,.inl rfl]
 exists _,eY,nl,eY,#[_,SqL.of (W _ _ hN)];refine j5 (xs:=zs.map V.str) (λi σ n=>Same H n/\Ex3 λkv kn z4=>And5 (n b=eH (.dK kn)) (n dv=eH (.dK kv)) (NumI h (zs.take i) i kv kn) (numS h (zs.take i)=(kv,kn)) (σ=[rQ p,rQ nl,rQ b,rQ dv,z4]))
  #[W,_,_,eI,M,G,I0,eY,eY] (λi σ n _ pv=>SqL.of (pv.1 _ _ hN)) ?_ ?_
 . rintro i x σ n N ⟨t,kv,kn,z4,l,m,I,D,rfl⟩
   nofun
   let O:i<zs.length:=by let:=(An.mp N).1;rw[Ad] at this;exact this
   obtain rfl:x=.str zs[i]:=by
    rw[Ar,Ag O] at N;exact(Am N).symm
   let S:zs.take (i+1)=zs.take i++[zs[i]]:=by rw[AJ,Ag O];rfl
   let X:kn.length<=1000:=by let:=I.ln;lia
   let B:kv.length<=1000:=by let:=I.lv;lia
   let aa:=hK.same t;exists _,eY,b,eY,.inl #[_,.inl l],_,eY,p,dx,fs,eY,t _ _ h1,h2.meth "head" (by decide),_,eY,p,pl,hd,un,fu,hm,uk,zs[i],eY,aa;rw[hok.hd];refine#[_,eY,b,kn,eY,l,kn,Sum.inr (h zs[i]),l,eY,jy X,λv hv=>?_,λhv=>?_];refine#[_,eY,_,eY,dv,_,eY,DPut.k (k:=Sum.inr zs[i]) m (jy B),ia a t _,_,kn,_,by rw[fg g];exact l,fb,by rw[S];exact I.step zs[i] v hv,by rw[S];exact a83 D hv,eY]
   let L:H b=eI:=r;let Z:(upd n b (.dK (putK kn (Sum.inr (h zs[i])) (.int (kn.length:eN))))) dv=eH (.dK kv):=by rw[fg (AF g)];exact m
   refine#[_,eY,_,eY,dv,_,eY,DPut.k (k:=Sum.inr zs[i]) Z (jy B),ia a (ia L t _) _,_,_,_,by rw[fg g,fb],fb,?_,by rw[S];exact a7o D hv,eY];rw[S];let J:=I.more zs[i] hv;let u:=J.step zs[i] (.int (kn.length:eN)) (by rw[l3,eQ rfl]);exact#[u.s,u.z,u.n1,u.n2,u.d,by let:=I.ln;rw[l6 hv,Ai,A2];lia,by let:=I.lv;let:=jd kv (Sum.inr zs[i]) (.int (kn.length:eN));lia,u.en]
 rintro σ n ⟨t,kv,kn,z4,l,m,I,D,rfl⟩;rw[Ad,AN] at I D;exact#[_,eY,q dv kv n a t m I.ok (fE FJ D).symm]
def hv(hp:eL (eN×JA)):eL (Key×V):=hp.map λp=>(Sum.inl p.1,V.ref p.2)
abbrev i4:=eL (eN×eN×eN)
def CellsAt(K:Aa)(H:Hp)(hp:eL (eN×JA))(cs:i4):Prop:=JI (λp c=>p.1=c.1/\SqT K H p.2 [.int c.2.1,.int c.2.2]) hp cs
theorem CellsAt.same(h:CellsAt K H hp cs)(e:Same H H'):CellsAt K H' hp cs:=Paired.mapP h λ_ _ z=>#[z.1,e.seqT z.2]
def vI(kv:eL (Key×V))(x:eZ):eN:=ival (valV kv (Sum.inr x))
def gI(kv:eL (Key×V))(bs:eN)(x:eZ):eN:=if(valV kv (Sum.inr x)).isSome=eJ then vI kv x else bs
def IntsAt(kv:eL (Key×V)):Prop:=∀x,valV kv (Sum.inr x)=eI\/valV kv (Sum.inr x)=eH (.int (vI kv x))
theorem IntsAt.get(h:IntsAt kv)(bs:eN)(x:eZ):(valV kv (Sum.inr x)).getD (.int bs)=.int (gI kv bs x):=by
 unfold gI;rcases h x with z|z;rw[z];rfl;rw[z];rfl
theorem IntsAt.at_(h:IntsAt kv)(a:(valV kv (Sum.inr x)).isSome=eJ):valV kv (Sum.inr x)=eH (.int (vI kv x)):=by
 rcases h x with z|z;rw[z] at a;cases a;exact z
def ka(kv:eL (Key×V))(bs s0 s1:eN)(r:eU):i4 :=
 if r.getD 0 ""="cell" then [(vI kv (place r),gI kv bs (r.getD 2 ""),gI kv bs (r.getD 3 ""))]
 else if r.getD 0 ""="stretch" then [(vI kv (place r),bs,s0),(s0,bs,vI kv (r.getD 2 ""))]
 else [(vI kv (place r),s0,s1),(s0,0,0),(s1,0,0)]
theorem o5:∀(more kvs:eL (Key×V)),((kvs++more).map (·.1)).Nodup->j9 kvs more=kvs++more
 |[],kvs,_=>(A0 _).symm
 |p::r,kvs,h=>by
  let hn:valV kvs p.1=eI:=by
   cases hz:valV kvs p.1 with
   |none=>rfl
   |some v =>
    let hm:=xc hz;rw[Av,AE] at h;exact eR rfl (h.2.2 _ hm _ (Au.mpr #[p,Af ..,eY]))
  show j9 (putK kvs p.1 p.2) r=_;rw[l6 hn,o5 r (kvs++[(p.1,p.2)]) (by rw[A5];exact h),A5];rfl
inductive spCellsOfS(K:Aa)(vs:eL V)(H:Hp)(Q:VK):Prop
 |mk (b d sl:JA)(bs s0 s1:eN)(r:eU)(kv:eL (Key×V))(h0:vs=[.ref b,.ref d,.ref sl,.int bs])(h1:RowAt K H b r)(h2:PartRow r)(h3:H d=eH (.dK kv))(h4:IntsAt kv)(h5:H sl=eH (.lst [.int s0,.int s1]))(h6:(valV kv (Sum.inr (place r))).isSome=eJ)(h7:(r.getD 0 ""="stretch" -> (valV kv (Sum.inr (r.getD 2 ""))).isSome=eJ))(h8:vI kv (place r)≠s0)(h9:vI kv (place r)≠s1)(h10:s0≠s1)(h11:∀D hp H',H D=eI->Same H H'->H' D=eH (.dK (hv hp))->CellsAt K H' hp (ka kv bs s0 s1 r)->Q (.ref D) H'):spCellsOfS K vs H Q
def yu(K:Aa):Sp:=λvs H Q _=>spCellsOfS K vs H Q
theorem a4f(F:Fun K "cells_of" "cells_of" a1b f fd):FnOk P w K mg base CX0 1 f fd ["part","values","spares","beside"] (yu K):=by
 refine F.okA ["part","values","spares","beside","place"] λae A outer s0 H vs Q E hr h nd=>?_;let(b,d,C,bs,s0,s1,r,kv,rfl,S,hp,O,U,N,aa,ac,n0,n1,n2,q):=h;let p:=ir hr;exists _,fe (gd 4 nd (im p (qv 1) (fj K (qv 0) fc) (λ_ _=>rfl)))
  (fe (gg (fz gq (fj K (qv 0) fc) gt (fy _)) (ff (fm (qw (qv 4) (i3 (ii (vd p (qv 1) (fj K (qv 0) fc) (qv 3)) (ii (vd p (qv 1) (fj K (qv 0) fc) (qv 3)) ad)))))) ge)
  (fe (gg (fz gq (fj K (qv 0) fc) gt (fy _)) (ff (fm (a8o (qv 4) (i3 (fh (qv 3) (fx (i7 K (qv 2) fc) ad))) (i7 K (qv 2) fc) (i3 (fh (qv 3) (fx (im p (qv 1) (fj K (qv 0) fc) (λ_ _=>rfl)) ad)))))) ge)
  (ff (fm (a8g (qv 4) (i3 (fx (i7 K (qv 2) fc) (fx (i7 K (qv 2) fc) ad))) (i7 K (qv 2) fc) (i3 (lj (lj ad))) (i7 K (qv 2) fc) (i3 (lj (lj ad))))))))
 nofun
 exists _,eY,_,eY,b,_,1,_,eY,eY,S,hp.at1;exists d,_,eY,(U.at_ aa) ▸ DGet.k (k:=Sum.inr (place r)) O;refine#[_,eY,b,_,0,_,eY,eY,S,hp.at0,eY,_,eY,iteB (λc=>?_) (λc=>?_)]
 . let R:r.getD 0 ""="cell" := by simpa using c
   obtain⟨x,y,z,rfl⟩:∃x y z,r=[("cell":eZ),x,y,z]:=by
    rcases hp with z|⟨x,y,rfl⟩|⟨a,rfl⟩;exact z;exact eR R (by show ¬ ("stretch":eZ)="cell";decide);exact eR R (by show ¬ ("tree":eZ)="cell";decide)
   intro D e;let m:=fi e (.dK []);exists _,eY,_,eY,d,eY,.inl #[_,.inl (m _ _ O)],_,eY,b,_,2,.str y,eY,eY,m.seqT S,eY,_,eY,_,DGet.k (k:=Sum.inr y) (m _ _ O);exists _,eY,d,eY,.inl #[_,.inl (m _ _ O)],_,eY,b,_,3,.str z,eY,eY,m.seqT S,eY,_,eY,_,DGet.k (k:=Sum.inr z) (m _ _ O);rw[U.get,U.get];refine#[eV,λt ht=>?_];let o:=fi ht (.tup [.int (gI kv bs y),.int (gI kv bs z)]);exists o _ _ fb,[(Sum.inl (vI kv (place [("cell":eZ),x,y,z])),.ref t)],eY,(show 1<=15 by decide);refine q D [(vI kv (place [("cell":eZ),x,y,z]),t)] _ e (ia e (m.trans o) _) (by rw[fb];rfl) ?_;let n:ka kv bs s0 s1 [("cell":eZ),x,y,z]=[(vI kv (place [("cell":eZ),x,y,z]),gI kv bs y,gI kv bs z)]:=eQ rfl;rw[n];let ab:t≠D:=λw=>by rw[w,fb] at ht;cases ht
   exact .cons #[eY,SqT.of (by rw[fg ab];exact fb)] .nil
 let R:¬ r.getD 0 ""="cell" := by simpa using c
 refine#[_,eY,b,_,0,_,eY,eY,S,hp.at0,eY,_,eY,iteB (λc2=>?_) (λc2=>?_)]
 . let u:r.getD 0 ""="stretch" := by simpa using c2
   obtain⟨x,y,rfl⟩:∃x y,r=[("stretch":eZ),x,y]:=by
    rcases hp with⟨a,f,s,rfl⟩|z|⟨a,rfl⟩
    . exact eR rfl R
    . exact z
    exact eR u (by show ¬ ("tree":eZ)="stretch";decide)
   intro D e;let m:=fi e (.dK []);refine#[_,eY,_,eY,_,eY,C,_,0,.int s0,eY,eY,SqL.of (m _ _ N),eY,eV,λG g=>?_];let o:=fi g (.tup [.int bs,.int s0]);let l:=m.trans o;refine#[_,eY,C,_,0,.int s0,eY,eY,SqL.of (l _ _ N),eY,_,eY,_,eY,_,eY,b,_,2,.str y,eY,eY,l.seqT S,eY,d,_,eY,(U.at_ (ac rfl)) ▸ DGet.k (k:=Sum.inr y) (l _ _ O),eV,λJ j=>?_];let B:=fi j (.tup [.int bs,.int (vI kv y)]);let v:=l.trans B;let af:H D=eI:=e;let L:G≠D:=λz=>by rw[z,fb] at g;cases g
   let M:J≠D:=λz=>by rw[z,o _ _ fb] at j;cases j
   exists B _ _ (o _ _ fb),[(Sum.inl (vI kv x),.ref G),(Sum.inl s0,.ref J)],eY,(show 2<=15 by decide);refine q D [(vI kv x,G),(s0,J)] _ e (ia e v _) ?_ ?_;rw[fb,o5];rfl;refine AI.mpr #[λz=>?_,AI.mpr #[(by simp),.nil]];let T:(Sum.inl (vI kv x):Key)∈[(Sum.inl s0:Key)]:=z;exact n0 (BS (Ae.mp T))
   let n:ka kv bs s0 s1 [("stretch":eZ),x,y]=[(vI kv x,bs,s0),(s0,bs,vI kv y)]:=by
    unfold ka;rw[eP R,eQ u];rfl
   rw[n];exact .cons #[eY,SqT.of (by rw[fg L];exact B _ _ fb)] (.cons #[eY,SqT.of (by rw[fg M];exact fb)] .nil)
 let u:¬ r.getD 0 ""="stretch" := by simpa using c2
 intro D e;let m:=fi e (.dK []);refine#[_,eY,_,eY,C,_,0,.int s0,eY,eY,SqL.of (m _ _ N),eY,_,eY,C,_,1,.int s1,eY,eY,SqL.of (m _ _ N),eY,eV,λG g=>?_];let o:=fi g (.tup [.int s0,.int s1]);let l:=m.trans o;refine#[_,eY,C,_,0,.int s0,eY,eY,SqL.of (l _ _ N),eY,eV,λJ j=>?_];let B:=fi j (.tup [.int 0,.int 0]);let v:=l.trans B;refine#[_,eY,C,_,1,.int s1,eY,eY,SqL.of (v _ _ N),eY,eV,λZ I=>?_];let W:=fi I (.tup [.int 0,.int 0]);let X:=v.trans W;let L:G≠D:=λz=>by rw[z,fb] at g;cases g
 let M:J≠D:=λz=>by rw[z,o _ _ fb] at j;cases j
 let Y:Z≠D:=λz=>by rw[z,B _ _ (o _ _ fb)] at I;cases I
 exists W _ _ (B _ _ (o _ _ fb)),[(Sum.inl (vI kv (place r)),.ref G),(Sum.inl s0,.ref J),(Sum.inl s1,.ref Z)],eY,(show 3<=15 by decide);refine q D [(vI kv (place r),G),(s0,J),(s1,Z)] _ e (ia e X _) ?_ ?_
 . rw[fb,o5];rfl
   . refine AI.mpr #[λz=>?_,AI.mpr #[λz=>?_,AI.mpr #[(by simp),.nil]]];let T:(Sum.inl (vI kv (place r)):Key)∈[(Sum.inl s0:Key),Sum.inl s1]:=z;rcases Ak.mp T with y|y;exact n0 (BS y);exact n1 (BS (Ae.mp y))
     let T:(Sum.inl s0:Key)∈[(Sum.inl s1:Key)]:=z;exact n2 (BS (Ae.mp T))
 let n:ka kv bs s0 s1 r=[(vI kv (place r),s0,s1),(s0,0,0),(s1,0,0)]:=by
  unfold ka;rw[eP R,eP u]
 rw[n];exact .cons #[eY,SqT.of (by rw[fg L];exact W _ _ (B _ _ fb))] (.cons #[eY,SqT.of (by rw[fg M];exact W _ _ fb)] (.cons #[eY,SqT.of (by rw[fg Y];exact fb)] .nil))
abbrev a5g:JJ:=top 39
abbrev sCover:JJ:=top 40
abbrev sFits:JJ:=top 41
def gk(cs:i4)(x:eN):eM (eN×eN):=(cs.find? λc=>decide (c.1=x)).map (·.2)
theorem CellsAt.look(h:CellsAt K H hp cs)(x:eN):(valV (hv hp) (Sum.inl x)=eI/\gk cs x=eI)\/∃t f s,valV (hv hp) (Sum.inl x)=eH (.ref t)/\gk cs x=eH (f,s)/\SqT K H t [.int f,.int s]:=by
 unfold CellsAt at h;induction h with
 |nil=>exact .inl #[eY,eY]
 | @cons p c ps cs h t ih =>
  by_cases e:p.1=x;refine .inr #[p.2,c.2.1,c.2.2,ij (p:=((Sum.inl p.1,V.ref p.2):Key×V)) (show(Sum.inl p.1:Key)=Sum.inl x by rw[e]),?_,h.2];unfold gk;simp[AZ,<- h.1,e]
  let b:valV (hv (p::ps)) (Sum.inl x)=valV (hv ps) (Sum.inl x):=ik (p:=((Sum.inl p.1,V.ref p.2):Key×V)) (show ¬ (Sum.inl p.1:Key)=Sum.inl x from λz=>e (BS z));let a:gk (c::cs) x=gk cs x:=by unfold gk;simp[AZ,<- h.1,e]
  rw[b,a];exact ih
inductive Walk(cs:i4)(stop:eN->Prop)(isS:fJ):eO->eL eN->eL eN->eM (eL eN)->Prop
 |done (n:eO)(row:eL eN):Walk cs stop isS n [] row (eH row)
 |stop (n:eO)(x:eN)(rest row:eL eN)(res:eM (eL eN)):stop x->Walk cs stop isS n rest row res->Walk cs stop isS (n+1) (x::rest) row res
 |fail (n:eO)(x:eN)(rest row:eL eN):¬ stop x->(gk cs x=eI\/x∈row)->Walk cs stop isS (n+1) (x::rest) row eI
 |step (n:eO)(x f s:eN)(rest row:eL eN)(res:eM (eL eN)):¬ stop x->gk cs x=eH (f,s)->¬ x∈row->Walk cs stop isS n ((if isS=eJ then [s] else [f,s])++rest) (row++[x]) res->Walk cs stop isS (n+1) (x::rest) row res
theorem aa3(h:Walk cs stop a m [] row res):res=eH row:=by
 cases h;rfl
theorem a88(h:Walk cs stop a m (x::co) row res):∃n,m=n+1/\((stop x/\Walk cs stop a n co row res)\/(¬ stop x/\(gk cs x=eI\/x∈row)/\res=eI)\/(¬ stop x/\∃f s,gk cs x=eH (f,s)/\¬ x∈row/\Walk cs stop a n ((if a=eJ then [s] else [f,s])++co) (row++[x]) res)):=by
 cases h with|stop n _ _ _ _ h1 h2=>exact#[n,eY,.inl #[h1,h2]]|fail n _ _ _ h1 h2=>exact#[n,eY,.inr (.inl #[h1,h2,eY])]|step n _ f s _ _ _ h1 h2 h3 h4=>exact#[n,eY,.inr (.inr #[h1,f,s,h2,h3,h4])]
def mayW(kv:eL (Key×V))(x:eZ)(n:eN):fJ:=decide (x="any") || decide (vI kv x=n)
def u7(kv:eL (Key×V))(r:eU)(x:eN):Prop:=(r.getD 0 ""="stretch" /\ x=vI kv (r.getD 2 ""))\/(r.getD 0 ""="tree" /\ x=0)
def a1s(kv:eL (Key×V))(cs:i4)(r:eU)(res:eM (eL eN)):Prop :=
 (r.getD 0 ""="cell" -> res=match gk cs (vI kv (place r)) with|none=>eI|some (f,s)=>if(mayW kv (r.getD 2 "") f && mayW kv (r.getD 3 "") s)=eJ then eH [vI kv (place r)] else eI)/\
 (¬ r.getD 0 ""="cell" -> ∃N,N<=400/\Walk cs (u7 kv r) (decide (r.getD 0 ""="stretch")) N [vI kv (place r)] [] res)
def a4n(kv:eL (Key×V))(r:eU):Prop:=∀x∈r.drop 1,x="any" \/ (valV kv (Sum.inr x)).isSome=eJ
inductive spTakenS(K:Aa)(vs:eL V)(H:Hp)(Q:VK):Prop
 |mk (d h b:JA)(kv:eL (Key×V))(hp:eL (eN×JA))(cs:i4)(r:eU)(res:eM (eL eN))(h0:vs=[.ref d,.ref h,.ref b])(h1:H d=eH (.dK kv))(h2:IntsAt kv)(h3:H h=eH (.dK (hv hp)))(h4:CellsAt K H hp cs)(h5:RowAt K H b r)(h6:PartRow r)(h7:(valV kv (Sum.inr (place r))).isSome=eJ)(h8:(r.getD 0 ""="stretch" -> (valV kv (Sum.inr (r.getD 2 ""))).isSome=eJ))(h9:a4n kv r)(h10:a1s kv cs r res)(h11:(res=eI->∀H',Same H H'->Q .non H'))(h12:∀row,res=eH row->∀D H',H D=eI->Same H H'->H' D=eH (.lst (row.map V.int))->Q (.ref D) H'):spTakenS K vs H Q
def a2t(K:Aa):Sp:=λvs H Q _=>spTakenS K vs H Q
theorem qo:∀ns:eL eN,DpAll K H (ns.map V.int) (ns.map PyData.int)
 |[]=>.nil
 |x::r=>.cons (.int x) (qo r)
theorem oo:∀ns:eL eN,Be (ns.map PyData.int)=eJ
 |[]=>by simp only[BG,Be]
 |x::r=>by simp only[A8,Be,BK,IL,oo r]
theorem lw:∀ns:eL eN,Bn (ns.map PyData.int)<=0
 |[]=>by simp only[BG,Bn];exact Ao _
 |x::r=>by simp only[A8,Bn,Ce];exact GZ.mpr #[Ao _,lw r]
theorem pc(ns:eL eN):EqOk (.list (ns.map PyData.int)):=by
 constructor;simp only[BK];exact oo ns;let:=lw ns;simp only[Ce];lia
theorem a3i(l:eL PyData):E6 (.list l) (.list [])=l.isEmpty:=by
 cases l with|nil=>rfl|cons x l=>rfl
theorem ag1(c:fJ)(f s:eN):cutV [.int f,.int s] (eH (if c=eJ then 1 else 0)) eI=(if c=eJ then [s] else [f,s]).map V.int:=by
 cases c<;>rfl
inductive tStopS(K:Aa)(D:Ends)(σ:St)(H:Hp):Prop
 |mk (d b:JA)(kv:eL (Key×V))(r:eU)(x:eN)(h0:σ[0]?=eH (eH (.ref d)))(h1:σ[2]?=eH (eH (.ref b)))(h2:σ[3]?=eH (eH (.int x)))(h3:H d=eH (.dK kv))(h4:IntsAt kv)(h5:RowAt K H b r)(h6:PartRow r)(h7:(r.getD 0 ""="stretch" -> (valV kv (Sum.inr (r.getD 2 ""))).isSome=eJ))(h8:(u7 kv r x->D.ct σ H))(h9:(¬ u7 kv r x->D.nx σ H)):tStopS K D σ H
def afs(K:Aa):TS:=λD σ H=>tStopS K D σ H
inductive tFailS(K:Aa)(D:Ends)(σ:St)(H:Hp):Prop
 |mk (h rl:JA)(hp:eL (eN×JA))(cs:i4)(row:eL eN)(x:eN)(h0:σ[1]?=eH (eH (.ref h)))(h1:σ[3]?=eH (eH (.int x)))(h2:σ[4]?=eH (eH (.ref rl)))(h3:H h=eH (.dK (hv hp)))(h4:CellsAt K H hp cs)(h5:H rl=eH (.lst (row.map V.int)))(h6:(gk cs x=eI\/x∈row->D.rt .non H))(h7:(∀f s,gk cs x=eH (f,s)->¬ x∈row->D.nx σ H)):tFailS K D σ H
def aft(K:Aa):TS:=λD σ H=>tFailS K D σ H
theorem a1t(x:eN)(l:eL eN):inV (.int x) (l.map V.int)=decide (x∈l):=by
 unfold inV;rw[Bd,AS,fG];constructor
 . rintro⟨y,a,e⟩;let(z,hz,rfl):=Au.mp a;let:z=x:=by
    let b:(z==x)=eJ:=e;simpa using b
   exact this ▸ hz
 intro h;exact#[.int x,Au.mpr #[x,h,eY],by show(x==x)=eJ;simp]
theorem PartRow.at2s(h:PartRow r)(c:r.getD 0 ""="stretch"):atI (r.map V.str) 2=eH (.str (r.getD 2 "")):=by
 rcases h with⟨a,f,s,rfl⟩|⟨a,b,rfl⟩|⟨a,rfl⟩
 . exact eR c (by show ¬ ("cell":eZ)="stretch";decide)
 . rfl
 exact eR c (by show ¬ ("tree":eZ)="stretch";decide)
theorem aal(C:Con K mg w)(F:Fun K "_law_taken" "_law_taken" a5g f fd):FnOk P w K mg base CX0 1 f fd ["_law_values","_law_heap","_law_part"] (a2t K):=by
 refine F.okA ["_law_values","_law_heap","_law_part","_law_here","_law_row","_law_word","_law_number","_law_coming"] λa6 A outer s0 H vs Q E hr h nd=>?_;let(d,h,b,kv,hp,cs,r,res,rfl,hD,hI,hH,hC,hR,T,a3,aw,aV,hT,qn,qs):=h;let o:=ir hr;let hu:=AH (DB (show 32<=64 by decide) _) hr.units;exists _,fe (gd 3 nd (im o (qv 0) (fj K (qv 2) fc) (λ_ _=>rfl)))
  (fe (gd 4 nd (iu ad))
  (fe (gg (fz gq (fj K (qv 2) fc) gt (fy _)) (fe (gg (ko o (qv 3) (qv 1)) (ff (fm gj)) ge)
  (fe (ip A7 rfl (ac5 rfl C.zip (fx (l0 a0z (qv 2) (ly fc) lu) (fx (im o (qv 1) (qv 3) (λ_ _=>rfl)) ad))) (a2h (j2 5 nd) (j2 6 nd)) (ff (gg (QW.qt (ls (fz km (qv 5) gt (fy _)) (lb (fz km (im o (qv 0) (qv 5) (λ_ _=>rfl)) (qv 6) (fy _))))) (ff (fm gj)) ge)))
  (ff (fm (iu (fh (qv 3) ad)))))) ge)
  (fe (gd 7 nd (iu (fh (qv 3) ad)))
  (fe (nh A7 (fz (ae5 hu) (qv 7) (iu ad) (fy _)) (fe (gd 3 nd (kz (K:=K) rfl AK CQ Es a9q (qv 7) (lj ad)))
  (fe (ng (t':=afs K) (gg (QW.qt (jg (QW.qt (ls (fz gq (fj K (qv 2) fc) gt (fy _)) (lb (fz gq (qv 3) (im o (qv 0) (fj K (qv 2) fc) (λ_ _=>rfl)) (fy _))))) (jp (QW.qt (ls (fz gq (fj K (qv 2) fc) gt (fy _)) (lb (fz gq (qv 3) fc (fy _)))))))) (ff a1x) ge) (λD σ H hh=>by
   let(d,b,kv,r,x,g0,g2,g3,hD,hI,hR,hp,aw,U,no):=hh;refine#[_,g2,b,_,0,_,eY,eY,hR,hp.at0,eY,_,eY,iteB (λc=>?_) (λc=>?_)]
   . let G:r.getD 0 ""="stretch" := by simpa using c
     refine#[_,g3,_,g0,_,g2,b,_,2,_,eY,eY,hR,hp.at2s G,d,_,eY,(hI.at_ (aw G)) ▸ DGet.k (k:=Sum.inr (r.getD 2 "")) hD,eY,_,eY,iteB (λc2=>?_) (λc2=>?_)];exact iteB (λ_=>U (.inl #[G,by simpa using c2])) (λz=>by cases z)
     refine#[_,g2,b,_,0,_,eY,eY,hR,hp.at0,eY,_,eY,iteB (λc3=>?_) (λc3=>?_)]
     . let l:r.getD 0 ""="tree" := by simpa using c3
       rw[G] at l;exact eR l (by decide)
     refine iteN rfl (no (λz=>?_));rcases z with z|z
     . let W:¬ x=vI kv (r.getD 2 ""):=by simpa using c2
       exact W z.2
     let l:¬ r.getD 0 ""="tree" := by simpa using c3
     exact l z.1
   let G:¬ r.getD 0 ""="stretch" := by simpa using c
   refine iteN rfl #[_,g2,b,_,0,_,eY,eY,hR,hp.at0,eY,_,eY,iteB (λc3=>?_) (λc3=>?_)]
   . let l:r.getD 0 ""="tree" := by simpa using c3
     refine#[_,g3,eY,_,eY,iteB (λc4=>?_) (λc4=>?_)];exact U (.inr #[l,by simpa using c4])
     refine no (λz=>?_);rcases z with z|z;exact G z.1
     let a2:¬ x=0:=by simpa using c4
     exact a2 z.2
   refine iteN rfl (no (λz=>?_));rcases z with z|z;exact G z.1
   let l:¬ r.getD 0 ""="tree" := by simpa using c3
   exact l z.1))
  (fe (ng (t':=aft K) (gg (QW.qt (jg (ko o (qv 3) (qv 1)) (jp (fz u0 (qv 3) (qv 4) (by with_unfolding_all rfl))))) (ff (fm gj)) ge) (λD σ H hh=>by
   let(h,g,hp,cs,row,x,g1,g3,g4,hH,hC,hL,U,no):=hh;rcases hC.look x with⟨z1,z2⟩|⟨t,f,s,z1,z2,z3⟩
   . refine#[_,g3,_,g1,h,_,eY,DGet.k (k:=Sum.inl x) hH,_,eY,?_];rw[z1];exact iteB (λ_=>U (.inl z2)) (λc=>by cases c)
   refine#[_,g3,_,g1,h,_,eY,DGet.k (k:=Sum.inl x) hH,_,eY,?_];rw[z1];refine iteN rfl #[_,g3,_,g4,g,_,eY,.inl (SqL.of hL),eY,(by rw[EE];exact Bm.mpr λ_ _=>rfl),_,eY,?_];refine iteB (λc=>U (.inr (fC ((a1t x row).symm.trans c)))) (λc=>no f s z2 (λz=>?_));let z':inV (.int x) (row.map V.int)=eJ:=(a1t x row).trans (fB z);exact eR (z'.symm.trans c) (by decide)))
  (fe (il (kz (K:=K) rfl AK By Bz jw (qv 4) (fh (qv 3) ad)))
  (ff (gd 7 nd (gc ke (l0 qg (j6 kt rfl C.list Bx (fx (im o (qv 1) (qv 3) (λ_ _=>rfl)) ad)) (ly (j6 uo rfl C.int Er (jh (io gq (fj K (qv 2) fc) gt (fy _)) ad))) lu) (qv 7)))))))))
  (ff (fm (qv 4)))))))
 nofun
 exists _,eY,_,eY,b,_,1,_,eY,eY,hR,T.at1,d,_,eY,(hI.at_ a3) ▸ DGet.k (k:=Sum.inr (place r)) hD;refine#[AC _,λg av=>?_];let s1:=fi av (.lst []);let Z:(upd H g (.lst [])) g=eH (.lst (([]:eL eN).map V.int)):=fb;let aL:=s1 _ _ hD;let J:=s1 _ _ hH;let al:=hC.same s1;let ag:=RowAt.same hR s1;generalize upd H g (.lst [])=H1 at s1 Z aL J al ag |-;dsimp only[iq];refine jf (a:=tIfS _ _ _) λD1 ak q aE=>?_;refine#[_,eY,b,_,0,_,eY,eY,ag,T.at0,eY,_,eY,iteB (λc=>?_) (λc=>?_)]
 . clear ak;let G:r.getD 0 ""="cell" := by simpa using c
   let R:=hT.1 G;obtain⟨x,y,z,rfl⟩:∃x y z,r=[("cell":eZ),x,y,z]:=by
    rcases T with z|⟨x,y,rfl⟩|⟨a,rfl⟩;exact z;exact eR G (by show ¬ ("stretch":eZ)="cell";decide);exact eR G (by show ¬ ("tree":eZ)="cell";decide)
   rcases al.look (vI kv (place [("cell":eZ),x,y,z])) with⟨z1,z2⟩|⟨t,f,s,z1,z2,z3⟩
   . exists _,eY,_,eY,h,_,eY,DGet.k (k:=Sum.inl _) J,_,rfl;rw[z1];refine iteB (λ_=>?_) (λc=>by cases c);exact q _ _ (qn (by rw[R,z2]) _ s1)
   exists _,eY,_,eY,h,_,eY,DGet.k (k:=Sum.inl _) J,_,rfl;rw[z1];refine iteB (λc=>by cases c) (λ_=>?_);refine#[_,eY,_,eY,b,_,eY,ag,(show ¬ (min 2 4=0/\4=4) by decide),λt2 aR=>?_];let s2:=fi aR (.tup [.str y,.str z]);let aZ:cutV (([("cell":eZ),x,y,z]:eU).map V.str) (eH 2) eI=[.str y,.str z]:=rfl;rw[aZ];let ae:=s1.trans s2;let ao:(upd H1 t2 (.tup [.str y,.str z])) t2=eH (.tup [.str y,.str z]):=fb;let aA:=s2 _ _ J;let au:=s2.seqT z3;generalize upd H1 t2 (.tup [.str y,.str z])=H2 at s2 ae ao aA au |-;exists _,eY,_,eY,h,.ref t,eY,z1 ▸ DGet.k (k:=Sum.inl _) aA,t2,t,_,_,eY,SqT.of ao,au;let word:∀u,u∈[y,z]->u="any" \/ valV kv (Sum.inr u)=eH (.int (vI kv u)):=λu hu=>by
    rcases aV u (Ah _ hu) with w|w;exact .inl w;exact .inr (hI.at_ w)
   refine a96 (K:=K) (xs:=[.str y,.str z]) (ys:=[.int f,.int s]) (λi σ M=>Same H2 M/\(0<i->mayW kv y f=eJ)/\(1<i->mayW kv z s=eJ)/\∃z5 z6 z7:eM V,σ=[eH (.ref d),eH (.ref h),eH (.ref b),eH (.int (vI kv (place [("cell":eZ),x,y,z]))),eH (.ref g),z5,z6,z7])
    #[Same.refl _,(λc=>eR c (Bb _)),(λc=>eR c (by decide)),eI,eI,eI,eY] (λi σ M pv=>#[SqT.of (pv.1 _ _ ao),pv.1.seqT au]) rfl ?_ ?_
   . rintro i v1 v2 σ M p a5 aY ⟨e3,m1,m2,z5,z6,z7,rfl⟩ a0
     nofun
     obtain⟨u,n,rfl,rfl,a1,aI⟩:∃(u:eZ) (n:eN),v1=.str u/\v2=.int n/\u∈[y,z]/\((i=0/\u=y/\n=f)\/(i=1/\u=z/\n=s)):=by
      match i,a5,aY with
      |0,h1,h2=>exact#[y,f,(Am h1).symm,(Am h2).symm,Af ..,.inl #[eY,eY,eY]]
      |1,h1,h2=>exact#[z,s,(Am h1).symm,(Am h2).symm,Ah _ (Af ..),.inr #[eY,eY,eY]]
      | (i+2),h1,h2=>cases h1
     let s3:=fi a0 (.tup [.str u,.int n]);let X:=e3.trans s3;let aJ:=(ae.trans X) _ _ hD;let aS:mayW kv u n=eK->res=eI:=λhb=>by
      rw[R,z2];rcases aI with⟨_,rfl,rfl⟩|⟨_,rfl,rfl⟩
      . show(if(mayW kv u n && mayW kv z s)=eJ then _ else _)=_;rw[hb];rfl
      show(if(mayW kv y f && mayW kv u n)=eJ then _ else _)=_;rw[hb,Iz];rfl
     let ai:mayW kv u n=eJ->(0<i+1->mayW kv y f=eJ)/\(1<i+1->mayW kv z s=eJ):=λhg=>by
      rcases aI with⟨rfl,rfl,rfl⟩|⟨rfl,rfl,rfl⟩
      . exact#[λ_=>hg,λc=>eR c (Bb _)]
      exact#[λ_=>m1 (by decide),λ_=>hg]
     exists p,_,eY,SqT.of fb,eY,_,_,eY,_,_,eY,rfl;generalize upd M p (.tup [.str u,.int n])=H4 at s3 X aJ |-;refine#[_,rfl,rfl,_,rfl,iteB (λc1=>?_) (λc1=>?_)]
     . let ah:¬ u="any" := by simpa using c1
       let hv:=(word u a1).resolve_left ah;refine#[_,eY,_,eY,d,_,eY,hv ▸ DGet.k (k:=Sum.inr u) aJ,_,eY,eY,_,eY,iteB (λc2=>?_) (λc2=>?_)]
       . let W:¬ vI kv u=n:=by simpa using c2
         exact q _ _ (qn (aS (by unfold mayW;rw[fA ah,fA W];rfl)) _ (ae.trans X))
       let W:vI kv u=n:=by simpa using c2
       let(g1,g2):=ai (by unfold mayW;rw[fB W,Bool.or_true]);exact#[X,g1,g2,_,_,_,eY]
     let ah:u="any" := by simpa using c1
     let(g1,g2):=ai (by unfold mayW;rw[fB ah];rfl);exact iteB (λw=>by cases w) (λ_=>#[X,g1,g2,_,_,_,eY])
   rintro σ M ⟨e3,m1,m2,z5,z6,z7,rfl⟩;refine#[_,eY,eW,λD aO=>?_];let e9:=ae.trans e3;let aU:res=eH [vI kv (place [("cell":eZ),x,y,z])]:=by
    rw[R,z2];show(if(mayW kv y f && mayW kv z s)=eJ then _ else _)=_;rw[m1 (show 0<2 by decide),m2 (show 1<2 by decide)];rfl
   exact q _ _ (qs _ aU D _ (e9.free aO) (e9.trans (fi aO _)) fb)
 refine ak _ _ ?_;clear ak q aE D1;let G:¬ r.getD 0 ""="cell" := by simpa using c
 let(N,aW,hW):=hT.2 G;refine#[_,eY,eW,λcl S=>?_];let v:cl≠g:=λz=>by rw[z,Z] at S;cases S
 let j:H cl=eI:=s1.free S;let s2:=fi S (.lst [.int (vI kv (place r))]);let ax:(upd H1 cl (.lst [.int (vI kv (place r))])) cl=eH (.lst (([vI kv (place r)]:eL eN).map V.int)):=fb;let an:=s2 _ _ Z;let e2:=s1.trans s2;generalize upd H1 cl (.lst [.int (vI kv (place r))])=H2 at s2 ax an e2 |-;obtain⟨Wv,Y⟩:∃Wv:eO->St->Hp->Prop,Wv=λm σ M=>Same H M/\∃(cl:JA) (co row:eL eN) (x3:eN) (z5 z6:eM V),H cl=eI/\cl≠g/\M cl=eH (.lst (co.map V.int))/\M g=eH (.lst (row.map V.int))/\co.length+m<=401/\row.length+m<=400/\Walk cs (u7 kv r) (decide (r.getD 0 ""="stretch")) m co row res/\σ=[rQ d,rQ h,rQ b,iQ x3,rQ g,z5,z6,rQ cl]:=#[_,eY]
 exists Wv,#[N,by rw[Y];exact#[e2,cl,_,[],_,eI,eI,j,v,ax,an,(show 1+N<=401 by lia),(by simpa using aW),hW,eY]];clear j v ax an e2 s2 S hW Z aL J al ag;intro m σ M hq;rw[Y] at hq;let(e3,cl,co,row,x3,z5,z6,j,v,ar,az,aP,a7,hW,rfl):=hq;refine#[_,eY,AC _,λln aC=>?_];let s4:=fi aC (.lst []);exists .list (co.map PyData.int),.list [],.lst (SqL.of (s4 _ _ ar)) (qo co),.lst (SqL.of fb) .nil,pc co,pc [],_,rfl;rw[a3i];let X:=e3.trans s4;let ab:=s4 _ _ ar;let ac:=s4 _ _ az;clear ar az e3;generalize upd M ln (.lst [])=H4 at s4 X ab ac |-;cases co with
 |nil =>
  refine iteB (λw=>by cases w) (λ_=>?_);exact#[_,eY,qs row (aa3 hW) g H4 av X ac]
 |cons x co =>
  let(n,rfl,aj):=a88 hW;clear hW;refine iteB (λ_=>#[_,λ_ _ z=>z,?_]) (λw=>by cases w);exists _,eY,.inl #[eY,_,SqL.of ab],cl,_,0,0,.int x,eY,eY,ab,(by decide),(by decide),(by simp[seqIndex?]),rfl;let af:(upd H4 cl (.lst (((x::co).map V.int).eraseIdx 0))) cl=eH (.lst (co.map V.int)):=fb;let B:(upd H4 cl (.lst (((x::co).map V.int).eraseIdx 0))) g=eH (.lst (row.map V.int)):=by rw[fg (AF v)];exact ac
  let e5:Same H (upd H4 cl (.lst (((x::co).map V.int).eraseIdx 0))):=ia j X _;clear ab ac X s4 aC;generalize upd H4 cl (.lst (((x::co).map V.int).eraseIdx 0))=H5 at af B e5 |-;refine#[d,b,kv,r,x,rfl,rfl,rfl,e5 _ _ hD,hI,RowAt.same hR e5,T,aw,λI=>?_,λI=>?_]
  . rcases aj with⟨_,ap⟩|⟨ay,_⟩|⟨ay,_⟩
    . exact#[n,B7 n,by rw[Y];exact#[e5,cl,co,row,x,z5,z6,j,v,af,B,(by rw[Aw] at aP;lia),(by lia),ap,eY]]
    . exact eR I ay
    exact eR I ay
  refine#[h,g,hp,cs,row,x,eY,eY,eY,e5 _ _ hH,hC.same e5,B,λhb=>?_,λf s O aX=>?_]
  . rcases aj with⟨am,_⟩|⟨_,_,hn⟩|⟨_,f,s,L,aM,_⟩
    . exact eR am I
    . exact qn hn _ e5
    exact eR hb (λz=>z.elim (λy=>by rw[L] at y;cases y) aM)
  rcases aj with⟨am,_⟩|⟨_,hb,_⟩|⟨_,f',s',L,aM,ap⟩
  . exact eR am I
  . exact eR hb (λz=>z.elim (λy=>by rw[O] at y;cases y) aX)
  rw[O] at L;cases L;exists _,eY,.inl #[eY,_,SqL.of B],_,eY,g,_,_,eY,eY,B,jy (by rw[Ad];lia);let aG:(upd H5 g (.lst (row.map V.int++[.int x]))) g=eH (.lst ((row++[x]).map V.int)):=by rw[fb,Av];rfl
  let aN:(upd H5 g (.lst (row.map V.int++[.int x]))) cl=eH (.lst (co.map V.int)):=by rw[fg v];exact af
  let e6:Same H (upd H5 g (.lst (row.map V.int++[.int x]))):=ia av e5 _;clear B af e5;generalize upd H5 g (.lst (row.map V.int++[.int x]))=H6 at aG aN e6 |-;let(t,f9,s9,y1,y2,y3):=((hC.same e6).look x).resolve_left (λz=>by rw[z.2] at O;cases O);rw[O] at y2;cases y2;refine#[_,eY,_,eY,h,.ref t,eY,y1 ▸ DGet.k (k:=Sum.inl x) (e6 _ _ hH),t,_,eY,.inr y3,λll a4=>?_];let s7:=fi a4 (.lst [.int f,.int s]);let aQ:(upd H6 ll (.lst [.int f,.int s])) ll=eH (.lst [.int f,.int s]):=fb;let e7:=e6.trans s7;let aK:=s7 _ _ aG;let aH:=s7 _ _ aN;generalize upd H6 ll (.lst [.int f,.int s])=H7 at s7 aQ e7 aK aH |-;exists _,eY,b,_,0,_,eY,eY,RowAt.same hR e7,T.at0,eY,_,rfl;let aB:decide (V.str (r.getD 0 "")=V.str "stretch")=decide (r.getD 0 ""="stretch"):=by
   by_cases e:r.getD 0 ""="stretch";rw[fB e,fB (by rw[e])];rw[fA e,fA (λz=>e (V.str.inj z))]
  rw[aB];refine#[_,eY,ll,_,eY,SqL.of aQ,λp1 aT=>?_];rw[ag1];let s8:=fi aT (.lst ((if decide (r.getD 0 ""="stretch")=eJ then [s] else [f,s]).map V.int));let aF:(upd H7 p1 (.lst ((if decide (r.getD 0 ""="stretch")=eJ then [s] else [f,s]).map V.int))) p1=eH (.lst ((if decide (r.getD 0 ""="stretch")=eJ then [s] else [f,s]).map V.int)):=fb;let e8:=e7.trans s8;let aq:=s8 _ _ aK;let aD:=s8 _ _ aH;generalize upd H7 p1 (.lst ((if decide (r.getD 0 ""="stretch")=eJ then [s] else [f,s]).map V.int))=H8 at s8 aF e8 aq aD |-;let L:(if decide (r.getD 0 ""="stretch")=eJ then [s] else [f,s]).length<=2:=by split<;>simp
  rw[Aw] at aP;refine#[_,eY,p1,cl,_,_,eY,eY,aF,aD,(by rw[Ad,Ad];exact B6 (jy (by lia))),λnc aa=>?_];let s9:=fi aa (.lst ((if decide (r.getD 0 ""="stretch")=eJ then [s] else [f,s]).map V.int++co.map V.int));exists n,B7 n;rw[Y];refine#[e8.trans s9,nc,(if decide (r.getD 0 ""="stretch")=eJ then [s] else [f,s])++co,row++[x],x,z5,z6,e8.free aa,(λz=>by rw[z,aq] at aa;cases aa),(by rw[fb,Av]),s9 _ _ aq,(by rw[Ai];lia),(by rw[Ai,A2];lia),ap,eY]
def w9(kv:eL (Key×V))(r:eU):fJ:=decide (vI kv (r.getD 1 "")=vI kv (r.getD 2 ""))==decide (r.getD 0 ""="is")
structure CovOk(kv:eL (Key×V))(F:eS)(rs:eL (eM (eL eN)))(rows:eL (eL eN)):Prop where
 facts:∀r∈F,w9 kv r=eJ
 all:rs=rows.map eH
 nd:rows.flatten.Nodup
structure CovIn(K:Aa)(H:Hp)(d h tl fl ql:JA)(kv:eL (Key×V))(hp:eL (eN×JA))(cs:i4)(F P:eS)(rs:eL (eM (eL eN))):Prop where
 vals:H d=eH (.dK kv)
 num:IntsAt kv
 heap:H h=eH (.dK (hv hp))
 cells:CellsAt K H hp cs
 tell:SqT K H tl [.ref fl,.ref ql]
 rF:RowsAt K H fl F
 Fr:∀r∈F,gw r
 Fv:∀r∈F,a4n kv r/\¬ ("any":eZ)∈r.drop 1
 rP:RowsAt K H ql P
 Pr:∀r∈P,PartRow r
 Pv:∀r∈P,a4n kv r/\(valV kv (Sum.inr (place r))).isSome=eJ/\(r.getD 0 ""="stretch" -> (valV kv (Sum.inr (r.getD 2 ""))).isSome=eJ)
 res:JI (λr o=>a1s kv cs r o) P rs
 few:(rs.filterMap id).flatten.length<=900
 fewP:P.length<=100
def sk(l:eL eN):eL (Key×V):=l.map λx=>(Sum.inl x,V.bl eJ)
theorem a7e(l:eL eN)(x:eN):(valV (sk l) (Sum.inl x)).isSome=decide (x∈l):=by
 rw[<- kd];unfold sk;rw[DT,Bd,AS,fG];constructor;rintro⟨y,a,e⟩;let:y=x:=BS (fC e);exact this ▸ a;intro b;exact#[x,b,fB rfl]
theorem af9(h:¬ x∈l):putK (sk l) (Sum.inl x) (.bl eJ)=sk (l++[x]):=by
 let:valV (sk l) (Sum.inl x)=eI:=by
  let:=a7e l x;rw[fA h] at this;cases hz:valV (sk l) (Sum.inl x) with|none=>rfl|some v=>rw[hz] at this;cases this
 rw[l6 this];unfold sk;rw[Av];rfl
def LRows(S:JA->Prop)(H:Hp)(as:eL JA)(rows:eL (eL eN)):Prop:=JI (λa row=>H a=eH (.lst (row.map V.int))/\¬ S a) as rows
theorem LRows.same(h:LRows S H as rows)(e:Same H H'):LRows S H' as rows:=Paired.mapP h λ_ _ z=>#[e _ _ z.1,z.2]
theorem LRows.put(h:LRows S H as rows)(d:S a)(o:HO):LRows S (upd H a o) as rows:=Paired.mapP h λb _ z=>#[by
 let c:b≠a:=λw=>z.2 (by rw[w];exact d);rw[fg c];exact z.1,z.2]
theorem a1i{a:eL (eL eN)}(h:rows.map eH=a.map eH):rows=a:=(Da (λ_ _ z=>Am z)).mp h
theorem a4z{rows a:eL (eL eN)}{rs:eL (eM (eL eN))}{i:eO}{row:eL eN}(h:rs=a.map eH)(c:rows.map eH=rs.take i)(hi:rs[i]?=eH (eH row)):∃rest,a=rows++row::rest:=by
 subst h;rw[<- IM] at c;let h1:=a1i c;rw[Ar] at hi;cases hz:a[i]? with
 |none=>rw[hz] at hi;cases hi
 |some row' =>
  rw[hz] at hi;let:row'=row:=Am (Am hi);subst this;exists a.drop (i+1);let b:=(An.mp hz).1;let hd:a.drop i=row'::a.drop (i+1):=by
   rw[DJ b,(An.mp hz).2]
  rw[h1,<- hd,Ds]
theorem a5h{rows:eL (eL eN)}{rs:eL (eM (eL eN))}(c:rows.map eH=rs.take i)(hi:rs[i]?=eH (eH row)):rows.flatten.length+row.length<=(rs.filterMap id).flatten.length:=by
 let a:=(An.mp hi).1;let hd:rs.drop i=eH row::rs.drop (i+1):=by
  rw[DJ a,(An.mp hi).2]
 let e:rs=rows.map eH++eH row::rs.drop (i+1):=by rw[c,<- hd,Ds]
 rw[e,Dl,DN,Bh,Ai];let d:ES (id∘eH) rows=rows:=Hl;rw[d];let b:ES id (eH row::rs.drop (i+1))=row::ES id (rs.drop (i+1)):=rfl;rw[b,AQ,Ai]
 lia
inductive spCoverS(K:Aa)(vs:eL V)(H:Hp)(Q:VK):Prop
 |mk (d h tl fl ql:JA)(kv:eL (Key×V))(hp:eL (eN×JA))(cs:i4)(F P:eS)(rs:eL (eM (eL eN)))(h0:vs=[.ref d,.ref h,.ref tl])(h1:CovIn K H d h tl fl ql kv hp cs F P rs)(h2:(∀rows,CovOk kv F rs rows->∀D as H',Same H H'->H' D=eH (.lst (as.map V.ref))->LRows (λ_=>False) H' as rows->Q (.ref D) H'))(h3:((¬ ∃rows,CovOk kv F rs rows)->∀H',Same H H'->Q .non H')):spCoverS K vs H Q
def spCover(K:Aa):Sp:=λvs H Q _=>spCoverS K vs H Q
theorem scCover:FnScope ["_law_values","_law_heap","_law_telling","_law_word","_law_a","_law_b","_law_rows","_law_seen","_law_part","_law_row","_law_address"] ["_law_values","_law_heap","_law_telling"] (gy sCover):=#[eY,eY,eY,by decide,eY,by decide,by decide]
theorem ok_cover(C:Con K mg w)(F:Fun K "_law_cover" "_law_cover" sCover f fd)(GT:FnOk P w K mg base CX0 1 gT dT eD (a2t K))(cT:eB GT "_law_taken"):FnOk P w K mg base CX0 2 f fd ["_law_values","_law_heap","_law_telling"] (spCover K):=by
 refine F.okA ["_law_values","_law_heap","_law_telling","_law_word","_law_a","_law_b","_law_rows","_law_seen","_law_part","_law_row","_law_address"] λaT A outer s0 H vs Q E hr h nd=>?_;let(d,h,tl,fl,ql,kv,hp,cs,Fs,Ps,rs,rfl,I,qs,qn):=h;let T:=ir hr;exists _,fe (ip A7 rfl (i9 (fj K (qv 2) fc)) (ack (j2 3 nd) (j2 4 nd) (j2 5 nd)) (ff (gg (fz km (io gq (im T (qv 0) (qv 4) (λ_ _=>rfl)) (im T (qv 0) (qv 5) (λ_ _=>rfl)) (fy _)) (io gq (qv 3) gt (fy _)) (fy _)) (ff (fm gj)) ge)))
  (fe (gd 6 nd (iu ad))
  (fe (gd 7 nd ma)
  (fe (ip A7 rfl (i9 (fj K (qv 2) fc)) (j2 8 nd) (fe (gd 9 nd (gx GT hr cT (fh (qv 0) (fh (qv 1) (fh (qv 8) ad)))))
  (fe (gg (fz kx (qv 9) gj (fy _)) (ff (fm gj)) ge)
  (fe (ip A7 rfl (i9 (qv 9)) (j2 10 nd) (fe (gg (t0 T (qv 10) (qv 7)) (ff (fm gj)) ge)
  (ff (ld T (qv 7) (qv 10) mh))))
  (ff (il (kz (K:=K) rfl AK By Bz jw (qv 6) (fh (qv 9) ad))))))))
  (ff (fm (qv 6))))))
 nofun
 let(aN,aB,aE):=id I.rF;let(aG,aD,ay):=id I.rP;refine jf (a:=tFor _ _ _) λD1 am Y ap=>?_;exists _,eY,tl,_,0,.ref fl,eY,eY,I.tell,eY,fl,eY,#[_,SqL.of aB];refine j5 (xs:=aN.map V.ref) (λi σ O=>O=H/\(∀r∈Fs.take i,w9 kv r=eJ)/\∃z3 z4 z5:eM V,σ=[rQ d,rQ h,rQ tl,z3,z4,z5,nQ,nQ,nQ,nQ,nQ])
  #[eY,(λr hr=>by simp at hr),eI,eI,eI,eY] (λi σ O _ pv=>by rw[pv.1];exact SqL.of aB) ?_ ?_
 . rintro i x σ O hi ⟨rfl,W,z3,z4,z5,rfl⟩
   nofun
   let(b',hb,rfl):=kc hi;let(r,l,N):=Paired.nth aE hb;let L:=Aq l;let(ai,aP):=I.Fv r L;let(k,u,v,rfl,hk):=I.Fr r L;let aM:Fs.take (i+1)=Fs.take i++[[k,u,v]]:=by rw[AJ,l];rfl
   let val:∀y∈[u,v],valV kv (Sum.inr y)=eH (.int (vI kv y)):=λy hy=>I.num.at_ ((ai y hy).resolve_left (λz=>aP (z ▸ hy)));let aL:=val u (Af ..);let aQ:=val v (Ah _ (Af ..));exists b',_,eY,N,eY,_,_,eY,_,_,eY,_,_,eY,rfl;exists _,eY,_,eY,d,_,eY,aL ▸ DGet.k (k:=Sum.inr u) I.vals,_,eY,_,eY,d,_,eY,aQ ▸ DGet.k (k:=Sum.inr v) I.vals,eY,_,eY,eY,eY,_,rfl;let e1:w9 kv [k,u,v]=(decide (V.int (vI kv u)=V.int (vI kv v))==decide (V.str k=V.str "is")):=by
    show(decide (vI kv u=vI kv v)==decide (k="is"))=_
    congr 1;by_cases e:vI kv u=vI kv v;rw[fB e,fB (by rw[e])];rw[fA e,fA (λz=>e (V.int.inj z))]
    by_cases e:k="is";rw[fB e,fB (by rw[e])];rw[fA e,fA (λz=>e (V.str.inj z))]
   refine iteB (λc=>?_) (λc=>?_)
   . refine Y _ _ (qn (λ⟨rows,h⟩=>?_) O (Same.refl _));let:=h.facts _ L;rw[e1] at this;let c':¬ decide (V.int (vI kv u)=V.int (vI kv v))=decide (V.str k=V.str "is"):=by simpa using c
     exact c' (by simpa using this)
   refine#[eY,λr hr=>?_,_,_,_,eY];rw[aM] at hr;rcases Ab.mp hr with z|z;exact W r z
   rw[Ae.mp z,e1];let c':decide (V.int (vI kv u)=V.int (vI kv v))=decide (V.str k=V.str "is"):=by simpa using c
   rw[c'];simp
 rintro σ O ⟨rfl,W,z3,z4,z5,rfl⟩;refine am _ _ ?_;clear am Y ap D1;let ax:=A4 aE;rw[Ad,ax,AN] at W;refine#[AC _,λt aC=>?_];let s1:=fi aC (.lst []);intro q X;let s2:=fi X (.dK []);let e2:=s1.trans s2;let ao:t≠q:=λz=>by rw[<- z,fb] at X;cases X
 let an:O q=eI:=s1.free X;let aa:(upd (upd O t (.lst [])) q (.dK [])) t=eH (.lst (([]:eL JA).map V.ref)):=s2 _ _ fb;let ab:(upd (upd O t (.lst [])) q (.dK [])) q=eH (.dK (sk [])):=fb;generalize upd (upd O t (.lst [])) q (.dK [])=H3 at e2 aa ab |-;exists _,eY,tl,_,1,.ref ql,eY,eY,e2.seqT I.tell,eY,ql,eY,#[_,SqL.of (e2 _ _ aD)];let al:=A4 ay;refine j5 (xs:=aG.map V.ref) (λi σ H4=>Same O H4/\Ex5 λ(as:eL JA) (rows:eL (eL eN)) (z8 z9 p:eM V)=>And6 (H4 t=eH (.lst (as.map V.ref))) (H4 q=eH (.dK (sk rows.flatten))) (LRows (λa=>a=t\/a=q) H4 as rows) (rows.map eH=rs.take i) (rows.flatten.Nodup) (σ=[rQ d,rQ h,rQ tl,z3,z4,z5,rQ t,rQ q,z8,z9,p]))
  #[e2,[],[],eI,eI,eI,aa,ab,.nil,eY,.nil,eY] (λi σ H4 _ pv=>SqL.of (pv.1 _ _ aD)) ?_ ?_
 . rintro i x σ H4 hi ⟨e4,as,rows,z8,z9,p,B,R,U,s,ah,rfl⟩
   nofun
   let(b',hb,rfl):=kc hi;let(r,l,N):=Paired.nth ay hb;let L:=Aq l;let(o,m,aH):=Paired.nth I.res l;let(ai,aK,aO):=I.Pv r L;let aV:i<Ps.length:=(An.mp l).1;let aI:=I.fewP;let aR:as.length<=100:=by
    let h1:=A4 U;let h2:(rows.map eH).length=(rs.take i).length:=by rw[s]
    rw[Ad,AL] at h2
    lia
   let ak:∀{g:eL (eL eN)},CovOk kv Fs rs g->o≠eI:=λ{g} hc z=>by
    rw[z,hc.all,Ar] at m;cases hz:g[i]? with|none=>rw[hz] at m;cases m|some y=>rw[hz] at m;cases m
   refine#[_,eY,_,eY,_,eY,d,h,b',kv,hp,cs,r,o,eY,e4 _ _ I.vals,I.num,e4 _ _ I.heap,I.cells.same e4,RowAt.same N e4,I.Pr r L,aK,aO,ai,aH,λhn H5 e5=>?_,λrow az D H5 S e5 au=>?_];refine#[_,eY,eY,_,eY,iteB (λ_=>?_) (λc=>by simp at c)];exact qn (λ⟨g,hc⟩=>ak hc hn) _ (e4.trans e5)
   subst az;let ac:D≠t:=λz=>by rw[z,B] at S;cases S
   let ae:D≠q:=λz=>by rw[z,R] at S;cases S
   let aS:=a5h s m;let aU:=I.few;refine#[_,eY,eY,_,eY,iteB (λc=>by simp at c) (λ_=>?_)];exists _,eY,D,eY,#[_,SqL.of au];refine j5 (xs:=row.map V.int) (λj σ Z=>Same O Z/\Z t=eH (.lst (as.map V.ref))/\Z D=eH (.lst (row.map V.int))/\LRows (λa=>a=t\/a=q) Z as rows/\Z q=eH (.dK (sk (rows.flatten++row.take j)))/\(rows.flatten++row.take j).Nodup/\∃p:eM V,σ=[rQ d,rQ h,rQ tl,z3,z4,z5,rQ t,rQ q,rQ b',rQ D,p])
    #[e4.trans e5,e5 _ _ B,au,U.same e5,by rw[BX,A0];exact e5 _ _ R,by rw[BX,A0];exact ah,_,eY] (λj σ Z _ pv=>SqL.of pv.2.2.1) ?_ ?_
   . rintro j y σ Z hj ⟨e6,J,ag,M,n,G,p,rfl⟩
     nofun
     let aj:j<row.length:=by let:=(An.mp hj).1;rw[Ad] at this;exact this
     obtain rfl:y=.int row[j]:=by
      rw[Ar,Ag aj] at hj;exact(Am hj).symm
     let af:row.take (j+1)=row.take j++[row[j]]:=by rw[AJ,Ag aj];rfl
     exists _,eY,_,eY,q,_,eY,DGet.k (k:=Sum.inl row[j]) n,_,rfl;rw[a7e];refine iteB (λc=>?_) (λc=>?_);refine qn (λ⟨g,hc⟩=>?_) _ e6;let(rest,aF):=a4z hc.all s m;let aA:=hc.nd;rw[aF,Bh,AQ,<- A5] at aA;let aw:=(AE.mp aA).1;let hx:=fC c;rcases Ab.mp hx with z|z;exact eR rfl ((AE.mp aw).2.2 _ z _ (AM aj));let aJ:=(AE.mp aw).2.1;let aq:(row.take (j+1)).Nodup:=Dc (Fk _ _) aJ;rw[af] at aq;exact eR rfl ((AE.mp aq).2.2 _ z _ (Ae.mpr rfl))
     let hx:=fD c;let av:(sk (rows.flatten++row.take j)).length<=1000:=by
      unfold sk;rw[Ad,Ai,AL]
      lia
     exists _,eY,_,eY,q,_,eY,DPut.k (k:=Sum.inl row[j]) n (jy av);rw[af9 hx];refine#[ia an e6 _,by rw[fg ao];exact J,by rw[fg ae];exact ag,M.put (.inr rfl) _,by rw[fb,af,A5],?_,_,eY];rw[af,<- A5];refine AE.mpr #[G,by simp,λa ha b hb=>?_];rw[Ae.mp hb];exact λz=>hx (z ▸ ha)
   rintro σ Z ⟨e6,J,ag,M,n,G,p,rfl⟩;rw[Ad,AN] at n G;exists _,eY,.inl #[eY,_,SqL.of J],_,eY,t,_,_,eY,eY,J,jy (by rw[Ad];lia);refine#[ia aC e6 _,as++[D],rows++[row],_,_,_,by rw[fb,Av];rfl,by rw[fg (AF ao),Bh,Gg];exact n,Paired.snocP (M.put (.inl rfl) _) #[by rw[fg ac];exact ag,λz=>z.elim ac ae],?_,?_,eY];rw[Av,s,AJ,m];rfl;rw[Bh,Gg];exact G
 rintro σ H4 ⟨e4,as,rows,z8,z9,p,B,R,U,s,ah,rfl⟩;let ar:=A4 I.res;rw[Ad,al,ar,AN] at s;exact#[_,eY,qs rows #[W,s.symm,ah] t as H4 e4 B (Paired.mapP U λ_ _ z=>#[z.1,id])]
theorem lenK(h:X.K=K):ja X (.builtin "len") (λxs H Q=>∃p ys,xs=[.ref p]/\(SqL K H p ys\/SqT K H p ys)/\Q (.int ys.length) H):=by subst h;exact j0
inductive spFitsS(K:Aa)(vs:eL V)(H:Hp)(Q:VK):Prop
 |mk (d h tl fl ql:JA)(kv:eL (Key×V))(hp:eL (eN×JA))(cs:i4)(F P:eS)(rs:eL (eM (eL eN)))(h0:vs=[.ref d,.ref h,.ref tl])(h1:CovIn K H d h tl fl ql kv hp cs F P rs)(h2:∀(b:fJ) H',Same H H'->(b=eJ↔∃rows,CovOk kv F rs rows/\rows.flatten.length=cs.length)->Q (.bl b) H'):spFitsS K vs H Q
def spFits(K:Aa):Sp:=λvs H Q _=>spFitsS K vs H Q
theorem scFits:FnScope ["_law_values","_law_heap","_law_telling","_law_rows"] ["_law_values","_law_heap","_law_telling"] (gy sFits):=#[eY,eY,eY,by decide,eY,by decide,by decide]
theorem ok_fits(C:Con K mg w)(F:Fun K "_law_fits" "_law_fits" sFits f fd)(GC:FnOk P w K mg base CX0 2 gC dC eD (spCover K))(R:eB GC "_law_cover"):FnOk P w K mg base CX0 3 f fd ["_law_values","_law_heap","_law_telling"] (spFits K):=by
 refine F.okA ["_law_values","_law_heap","_law_telling","_law_rows"] λaa A outer s0 H vs Q E t h nd=>?_;let(d,h,tl,fl,X,kv,hp,cs,Fs,Ps,rs,rfl,I,q):=h;exists _,fe (gd 3 nd (gx GC t R (fh (qv 0) (fh (qv 1) (fh (qv 2) ad)))))
  (ff (fm (om (io xt (qv 3) gj (fy _)) (lm (io gq (gr (rz rfl) rfl C.sum Gw (jh (p6 (i9 (qv 3)) (λ_ _ _ _=>le) (λ_ _ _ _=>(gr (lenK (K:=K) rfl) rfl C.len Bs (fh (qv 0) ad)))) ad)) (gr se rfl C.len Bs (fh (qv 1) ad)) (fy _))))))
 nofun
 refine#[_,eY,_,eY,_,eY,d,h,tl,fl,X,kv,hp,cs,Fs,Ps,rs,eY,I,λrows g D as Y T j p=>?_,λhn Y T=>?_]
 . refine#[_,eY,eY,_,eY,iteB (λ_=>?_) (λc=>by simp at c)];let U:=A4 p;let ac:rows.length<=100:=by
    let h1:=A4 I.res;let h2:=I.fewP;rw[g.all,Ad] at h1
    lia
   let O:rs.filterMap id=rows:=by
    rw[g.all,DN];exact Hl
   let Z:rows.flatten.length<=900:=by rw[<- O];exact I.few
   let k:∀l:eL (eL eN),(l.map λr=>(r.length:eN)).sum=((l.flatten.length:eO):eN):=λl=>by
    induction l with|nil=>rfl|cons r l ih=>rw[A8,Fg,ih,AQ,Ai];lia
   let G:∀(l:eL (eL eN)) r,r∈l->r.length<=l.flatten.length:=λl=>by
    induction l with
    |nil=>intro r t;cases t
    |cons y l ih =>
     intro r t;rw[AQ,Ai];rcases Ak.mp t with rfl|z;lia;let:=ih r z;lia
   exists _,eY,D,eY,#[_,SqL.of j];refine qh (as.map V.ref) (rows.map λr=>V.int (r.length:eN)) jo (SqL.of j) (by rw[Ad];exact B6 (kj (by lia))) (by rw[Ad,Ad,U]) (λi x y hx W N L Q' q'=>?_) λD1 N ab L J=>?_;let(b,hb,rfl):=kc hx;let(r,s,o):=Paired.nth p hb;rw[Ar,s] at W;let S:y=.int (r.length:eN):=(Am W).symm;subst S;let:=q' N (Same.refl _);exists _,eY,b,_,eY,.inl (SqL.of (L _ _ o.1));rw[Ad];exact this
   let m:=T.trans L;refine#[D1,rows.map (λr=>(r.length:eN)),eY,SqL.of (by rw[J,B3];rfl),λn hn=>?_,by rw[Ad];lia,?_]
   . let(r,B,rfl):=Au.mp hn;let:=G rows r B
     lia
   let u:(hv hp).length=cs.length:=by unfold hv;rw[Ad];exact A4 I.cells
   refine#[_,eY,h,_,eY,m _ _ I.heap,eY,q _ N m ?_];rw[k,u,fG];constructor;intro e;let:=V.int.inj e;exact#[rows,g,by lia];rintro⟨a,v,M⟩;let:rows=a:=a1i (g.all.symm.trans v.all);subst this;rw[M]
 refine#[_,eY,eY,_,eY,iteB (λc=>by simp at c) (λ_=>?_)];exact q eK Y T #[(λc=>by cases c),(λz=>by let(rows,g,_):=z;exact eR #[rows,g] hn)]
end K34
namespace K34.Cv
open L2 Mir
abbrev sCheckV:JJ:=top 7
abbrev sNum:JJ:=top 8
abbrev sHolds:JJ:=top 9
abbrev sMay:JJ:=top 10
structure ErrC(K:Aa)(mg:eZ->eM JC)(x:eZ)(C:JA):Prop where
 name:mg x=eH (.ref C)
 exc:Dy K C [.type "ValueError",.type "Exception",.type "BaseException",.type "object"] "ValueError.__new__"=eJ
def dv(m:eL (eZ×eN)):eL (Key×V):=m.map λp=>(Sum.inr p.1,V.int p.2)
def lkI(m:eL (eZ×eN))(x:eZ):eM eN:=(m.find? λp=>decide (p.1=x)).map (·.2)
theorem valV_dv:∀(m:eL (eZ×eN)) (x:eZ),valV (dv m) (Sum.inr x)=(lkI m x).map V.int
 |[],x=>rfl
 |p::m,x=>by
  let c:=valV_dv m x;by_cases h:p.1=x
  . let b:valV (dv (p::m)) (Sum.inr x)=eH (.int p.2):=ij (p:=((Sum.inr p.1,V.int p.2):Key×V)) (show(Sum.inr p.1:Key)=Sum.inr x by rw[h]);let a:lkI (p::m) x=eH p.2:=by unfold lkI;simp[AZ,h]
    rw[b,a];rfl
  let b:valV (dv (p::m)) (Sum.inr x)=valV (dv m) (Sum.inr x):=ik (p:=((Sum.inr p.1,V.int p.2):Key×V)) (show ¬ (Sum.inr p.1:Key)=Sum.inr x from λz=>h (Ca z));let a:lkI (p::m) x=lkI m x:=by unfold lkI;simp[AZ,h]
  rw[b,a,c]
def num(m:eL (eZ×eN))(x:eZ):eN:=if x="nil" then 0 else(lkI m x).getD 0
def Has(m:eL (eZ×eN))(x:eZ):Prop:=x="nil" \/ (lkI m x).isSome=eJ
def ky(m:eL (eZ×eN))(r:eU):fJ:=decide (decide (num m (r.getD 1 "")=num m (r.getD 2 ""))=decide (r.getD 0 ""="is"))
def mayB(m:eL (eZ×eN))(x:eZ)(n:eN):fJ:=decide (x="any") || decide (num m x=n)
inductive spCheckVS(K:Aa)(NV:JA)(vs:eL V)(H:Hp)(Q:VK)(E:XK):Prop
 |mk (d a:JA)(m:eL (eZ×eN))(fs ps:eS)(h0:vs=[.ref d,.ref a])(h1:H d=eH (.dK (dv m)))(h2:TellAt K H a [fs,ps])(h3:jj fs)(h4:jj ps)(h5:(∀r∈fs++ps,r≠[]))(h6:(∀ss:eU,ss.Nodup->(∀y∈ss,y∈i5 (fs++ps))->ss.length<64))(h7:((∀y∈i5 (fs++ps),(lkI m y).isSome=eJ)->∀H',Same H H'->Q .non H'))(h8:((∃y∈i5 (fs++ps),lkI m y=eI)->∀H',Same H H'->E (.ref NV) eI H')):spCheckVS K NV vs H Q E
def a1g(K:Aa)(NV:JA):Sp:=λvs H Q E=>spCheckVS K NV vs H Q E
inductive spNumS(vs:eL V)(H:Hp)(Q:VK):Prop
 |mk (d:JA)(m:eL (eZ×eN))(x:eZ)(h0:vs=[.ref d,.str x])(h1:H d=eH (.dK (dv m)))(h2:Has m x)(h3:Q (.int (num m x)) H):spNumS vs H Q
def wf:Sp:=λvs H Q _=>spNumS vs H Q
inductive spHoldsS(K:Aa)(vs:eL V)(H:Hp)(Q:VK):Prop
 |mk (d a:JA)(m:eL (eZ×eN))(k u v:eZ)(h0:vs=[.ref d,.ref a])(h1:H d=eH (.dK (dv m)))(h2:RowAt K H a [k,u,v])(h3:Has m u)(h4:Has m v)(h5:Q (.bl (ky m [k,u,v])) H):spHoldsS K vs H Q
def a33(K:Aa):Sp:=λvs H Q _=>spHoldsS K vs H Q
inductive spMayS(vs:eL V)(H:Hp)(Q:VK):Prop
 |mk (d:JA)(m:eL (eZ×eN))(x:eZ)(n:eN)(h0:vs=[.ref d,.str x,.int n])(h1:H d=eH (.dK (dv m)))(h2:(x="any" \/ Has m x))(h3:Q (.bl (mayB m x n)) H):spMayS vs H Q
def ac0:Sp:=λvs H Q _=>spMayS vs H Q
theorem a8s:FnScope ["values","telling"] ["values","telling"] (gy sCheckV):=#[eY,eY,eY,by decide,eY,by decide,by decide]
theorem ok_checkV{K:Aa}(C:Con K mg w)(F:Fun K "check_values" "check_values" sCheckV f fd)(G:FnOk P w K mg base CX0 1 g R eD (a1h K))(t:eB G "names_of")(M:ErrC K mg "NoValue" NV):
 FnOk P w K mg base (CXE P w base) 2 f fd ["values","telling"] (a1g K NV):=by
 refine F.okEQ a8s (λvs H Q E h=>?_) (λS A outer s H vs Q E N h=>?_);let(d,a,m,fs,ps,rfl,_):=h;rfl
 let(d,a,m,fs,ps,rfl,hD,T,hf,hp,I,q,Z,U):=h;let Y:=ir N;exists _,ff (gg (jc (i6 (gr (vh rfl) rfl C.all Et (jh (a9p ["name","values"] [0] (i9 (gx G N t (fh (qv 1) ad))) (λ_ _ _ _=>le) (λ_ _ _ _=>a1d Y (qv 0) (qv 1))) ad))))
  (ff (a9y a7l rfl PySem.F.excBase_ValueError rfl M.name M.exc (jh gt ad))) ge)
 nofun
 refine#[_,eY,a,fs,ps,eY,T,hf,hp,I,q,λp zs H1 X J hz u l _=>?_];exists p,eY,#[_,SqL.of hz];let O:=q zs u λy e=>(l y).mp e;refine qh (zs.map V.str) (zs.map λx=>V.bl (lkI m x).isSome) jo (SqL.of hz) (by rw[Ad];exact B6 (kj (by lia))) (by rw[Ad,Ad]) (λi x y j e o r Q' q'=>?_) λD o aa r B=>?_
 . rw[Ar] at j e;cases hzi:zs[i]? with
   |none=>rw[hzi] at j;cases j
   |some z =>
    rw[hzi] at j e;cases j;cases e;exists _,eY,_,eY,d,_,eY,DGet.k (k:=Sum.inr z) (r _ _ (J _ _ hD));let this:Q' (.bl (lkI m z).isSome) o:=q' o (Same.refl _);rw[valV_dv];cases hl:lkI m z with|none=>rw[hl] at this;exact this|some v=>rw[hl] at this;exact this
 refine#[D,zs.map λx=>(lkI m x).isSome,eY,SqL.of (by rw[B,B3];rfl),_,eY,iteB (λc=>?_) (λc=>?_)]
 . refine#[eW,U ?_ o (J.trans r)];let n:(zs.map λx=>(lkI m x).isSome).all id=eK:=by simpa using c
   rw[List.all_eq_false] at n;let(b,hb,L):=n;let(x,j,rfl):=Au.mp hb;exact#[x,(l x).mp j,by simpa using L]
 refine Z (λy e=>?_) o (J.trans r);let n:(zs.map λx=>(lkI m x).isSome).all id=eJ:=by simpa using c
 rw[Bm] at n;exact n _ (Au.mpr #[y,(l y).mpr e,eY])
theorem ok_num{K:Aa}(F:Fun K "number_of" "number_of" sNum f fd):FnOk P w K mg base CX0 1 f fd ["values","word"] wf:=by
 refine F.okA ["values","word"] λi A outer s H vs Q E l h _=>?_;let(d,m,x,rfl,o,j,q):=h;let p:=ir l;exists _,ff (fm (mz (fz gq (qv 1) gt (fy _)) fc (im p (qv 0) (qv 1) (λ_ _=>rfl))))
 nofun
 refine#[_,eY,eY,_,eY,iteB (λc=>?_) (λc=>?_)]
 . let a:x="nil" := by simpa using c
   let e:num m x=0:=by unfold num;rw[eQ a]
   rw[e] at q;exact q
 let a:¬ x="nil" := by simpa using c
 let b:=j.resolve_left a;cases hl:lkI m x with
 |none=>rw[hl] at b;cases b
 |some n =>
  let e:num m x=n:=by unfold num;rw[eP a,hl];rfl
  rw[e] at q;let g:=DGet.k (k:=Sum.inr x) o;rw[valV_dv,hl] at g;exact#[_,eY,_,eY,d,.int n,eY,g,q]
theorem ok_holds{K:Aa}(F:Fun K "holds" "holds" sHolds f fd)(G:FnOk P w K mg base CX0 1 g p eD wf)(b:eB G "number_of"):FnOk P w K mg base CX0 2 f fd ["values","fact"] (a33 K):=by
 refine F.okA ["values","fact","alike"] λr A outer s H vs Q E n h nd=>?_;let(d,a,m,k,u,v,rfl,o,c,j,l,q):=h;exists _,fe (gd 2 nd (io gq (gx G n b (fh (qv 0) (fx (fj K (qv 1) fc) ad))) (gx G n b (fh (qv 0) (fx (fj K (qv 1) fc) ad))) (fy _)))
  (ff (fm (io gq (qv 2) (io gq (fj K (qv 1) fc) gt (fy _)) (fy _))))
 nofun
 exists _,eY,_,eY,a,_,1,.str u,eY,eY,c,eY,d,m,u,eY,o,j;exists _,eY,_,eY,a,_,2,.str v,eY,eY,c,eY,d,m,v,eY,o,l,rfl;exists _,eY,_,eY,a,_,0,.str k,eY,eY,c,eY,eY,rfl;let e:(decide (V.bl (decide (V.int (num m u)=V.int (num m v)))=V.bl (decide (V.str k=V.str "is"))))=ky m [k,u,v]:=by
  unfold ky;simp
 show Q (.bl (decide (V.bl (decide (V.int (num m u)=V.int (num m v)))=V.bl (decide (V.str k=V.str "is"))))) H;rw[e];exact q
theorem ok_may{K:Aa}(F:Fun K "may_be" "may_be" sMay f fd)(G:FnOk P w K mg base CX0 1 g i eD wf)(b:eB G "number_of"):FnOk P w K mg base CX0 2 f fd ["values","word","number"] ac0:=by
 refine F.okA ["values","word","number"] λj A outer s H vs Q E o h _=>?_;let(d,m,x,n,rfl,p,k,q):=h;exists _,ff (fm (zr (io gq (qv 1) gt (fy _)) (lm (io gq (gx G o b (fh (qv 0) (fh (qv 1) ad))) (qv 2) (fy _)))))
 nofun
 refine#[_,eY,eY,_,eY,iteB (λc=>?_) (λc=>?_)]
 . let a:x="any" := by simpa using c
   let e:mayB m x n=eJ:=by unfold mayB;rw[fB a];rfl
   rw[e] at q;exact q
 let a:¬ x="any" := by simpa using c
 let e:mayB m x n=decide (num m x=n):=by unfold mayB;rw[fA a];rfl
 rw[e] at q;exists _,eY,_,eY,d,m,x,eY,p,k.resolve_left a,_,eY,rfl;let l:decide (V.int (num m x)=V.int n)=decide (num m x=n):=by simp
 show Q (.bl (decide (V.int (num m x)=V.int n))) H;rw[l];exact q
end K34.Cv
namespace K34.Cv
open L2 Mir
abbrev sCellT:JJ:=top 11
abbrev sStretchT:JJ:=top 12
abbrev sTreeT:JJ:=top 13
abbrev sPartT:JJ:=top 14
def atc(cs:i4)(x:eN):eM (eN×eN):=(cs.find? λc=>decide (c.1=x)).map (·.2)
inductive HeapAtS(K:Aa)(H:Hp)(h:JA)(cs:i4):Prop
 |mk (hp:eL (eN×JA))(h0:H h=eH (.dK (hv hp)))(h1:CellsAt K H hp cs):HeapAtS K H h cs
def HeapAt(K:Aa)(H:Hp)(h:JA)(cs:i4):Prop:=HeapAtS K H h cs
theorem HeapAt.same{K:Aa}(x:HeapAt K H h cs)(e:Same H H'):HeapAt K H' h cs:=by
 let(hp,h1,h2):=x;exact#[hp,e _ _ h1,h2.same e]
theorem mo{K:Aa}:∀{hp:eL (eN×JA)}{cs:i4},CellsAt K H hp cs->∀x:eN,(atc cs x=eI/\valV (hv hp) (Sum.inl x)=eI)\/∃r f s,atc cs x=eH (f,s)/\valV (hv hp) (Sum.inl x)=eH (.ref r)/\SqT K H r [.int f,.int s]
 |_,_,.nil,x=>.inl #[eY,eY]
 |p::hp,c::cs,.cons h t,x=>by
  by_cases e:c.1=x;refine .inr #[p.2,c.2.1,c.2.2,?_,?_,h.2];unfold atc;simp[AZ,e];exact ij (p:=((Sum.inl p.1,V.ref p.2):Key×V)) (show(Sum.inl p.1:Key)=Sum.inl x by rw[h.1,e])
  let b:atc (c::cs) x=atc cs x:=by unfold atc;simp[AZ,e]
  let a:valV (hv (p::hp)) (Sum.inl x)=valV (hv hp) (Sum.inl x):=ik (p:=((Sum.inl p.1,V.ref p.2):Key×V)) (show ¬ (Sum.inl p.1:Key)=Sum.inl x from λz=>e (by rw[<- h.1];exact BS z));rw[b,a];exact mo t x
theorem atc_mem(h:(atc cs x).isSome=eJ):x∈cs.map (·.1):=by
 unfold atc at h;cases hf:cs.find? (λc=>decide (c.1=x)) with
 |none=>rw[hf] at h;cases h
 |some c =>
  let h1:c.1=x:=by simpa using CC hf
  exact Au.mpr #[c,Bg hf,h1]
def Gives(H:Hp)(o:eM (eL eN))(Q:VK):Prop:=match o with
 |none=>∀H',Same H H'->Q .non H'
 |some ns=>∀l H',Same H H'->H l=eI->H' l=eH (.lst (ns.map V.int))->Q (.ref l) H'
theorem Gives.none(h:Gives H o Q)(e:o=Option.none)(s:Same H H'):Q .non H':=by subst e;exact h H' s
theorem Gives.some(h:Gives H o Q)(e:o=Option.some ns)(s:Same H H')(hn:H l=Option.none)(hl:H' l=Option.some (.lst (ns.map V.int))):Q (.ref l) H':=by subst e;exact h l H' s hn hl
def o4(m:eL (eZ×eN))(cs:i4)(a f s:eZ):eM (eL eN):=match atc cs (num m a) with
 |none=>eI
 |some c=>if mayB m f c.1=eJ/\mayB m s c.2=eJ then eH [num m a] else eI
def pw(cs:i4)(e:eN):eO->eN->eL eN->eM (eL eN)
 |0,_,_=>eI
 |n+1,p,tk=>if p=e then eH tk else if p∈tk then eI else match atc cs p with
  |none=>eI
  |some c=>pw cs e n c.2 (tk++[p])
def lk(cs:i4)(p e:eN):eM (eL eN):=pw cs e (cs.length+1) p []
def md(cs:i4):eO->eL eN->eL eN->eM (eL eN)
 |0,_,_=>eI
 |_+1,[],tk=>eH tk
 |n+1,p::co,tk=>if p=0 then md cs n co tk else if p∈tk then eI else match atc cs p with
  |none=>eI
  |some c=>md cs n (c.1::c.2::co) (tk++[p])
def pj(cs:i4)(t:eN):eM (eL eN):=md cs (2*cs.length+2) [t] []
def dti(tk:eL eN):eL (Key×V):=tk.map λk=>(Sum.inl k,V.bl eJ)
theorem rh:∀(tk:eL eN) (x:eN),(valV (dti tk) (Sum.inl x)).isSome=decide (x∈tk)
 |[],x=>rfl
 |k::tk,x=>by
  by_cases h:k=x;rw[show valV (dti (k::tk)) (Sum.inl x)=eH (.bl eJ) from ij (p:=((Sum.inl k,V.bl eJ):Key×V)) (show(Sum.inl k:Key)=Sum.inl x by rw[h])];simp[h];rw[show valV (dti (k::tk)) (Sum.inl x)=valV (dti tk) (Sum.inl x) from ik (p:=((Sum.inl k,V.bl eJ):Key×V)) (show ¬ (Sum.inl k:Key)=Sum.inl x from λz=>h (BS z)),rh tk x];let:¬ x=k:=λz=>h z.symm;simp[this]
theorem a0o(h:¬ x∈tk):putK (dti tk) (Sum.inl x) (.bl eJ)=dti (tk++[x]):=by
 rw[l6];unfold dti;rw[Av];rfl
 let:=rh tk x;rw[fA h] at this;cases hv:valV (dti tk) (Sum.inl x) with|none=>rfl|some v=>rw[hv] at this;cases this
theorem a0g(tk:eL eN):(dti tk).map (λkv=>kV kv.1)=tk.map V.int:=by unfold dti;rw[B3];rfl
structure Went(cs:i4)(tk:eL eN):Prop where
 nd:tk.Nodup
 there:∀k∈tk,(atc cs k).isSome=eJ
theorem Went.len(h:Went cs tk):tk.length<=cs.length:=by
 let:=List.Nodup.length_le_of_subset h.nd (l₂:=cs.map (·.1)) λk a=>atc_mem (h.there k a);rw[Ad] at this;exact this
theorem Went.more(h:Went cs tk)(hn:¬ p∈tk)(a:(atc cs p).isSome=eJ):Went cs (tk++[p]):=by
 refine#[oa h.nd hn,λk b=>?_];rcases Ab.mp b with h1|h1;exact h.there k h1;simp only[Ak,As,fH] at h1;rw[h1];exact a
inductive spCellTS(K:Aa)(vs:eL V)(H:Hp)(Q:VK):Prop
 |mk (d h p:JA)(m:eL (eZ×eN))(cs:i4)(a f s:eZ)(h0:vs=[.ref d,.ref h,.ref p])(h1:H d=eH (.dK (dv m)))(h2:HeapAt K H h cs)(h3:RowAt K H p ["cell",a,f,s])(h4:Has m a)(h5:(f="any" \/ Has m f))(h6:(s="any" \/ Has m s))(h7:Gives H (o4 m cs a f s) Q):spCellTS K vs H Q
def a29(K:Aa):Sp:=λvs H Q _=>spCellTS K vs H Q
inductive spStretchTS(K:Aa)(vs:eL V)(H:Hp)(Q:VK):Prop
 |mk (h:JA)(p e:eN)(cs:i4)(h0:vs=[.ref h,.int p,.int e])(h1:HeapAt K H h cs)(h2:cs.length<=1000)(h3:Gives H (lk cs p e) Q):spStretchTS K vs H Q
def vp(K:Aa):Sp:=λvs H Q _=>spStretchTS K vs H Q
inductive spTreeTS(K:Aa)(vs:eL V)(H:Hp)(Q:VK):Prop
 |mk (h:JA)(t:eN)(cs:i4)(h0:vs=[.ref h,.int t])(h1:HeapAt K H h cs)(h2:cs.length<=1000)(h3:Gives H (pj cs t) Q):spTreeTS K vs H Q
def a2i(K:Aa):Sp:=λvs H Q _=>spTreeTS K vs H Q
theorem ok_cellT{K:Aa}(F:Fun K "cell_taken" "cell_taken" sCellT f fd)(G:FnOk P w K mg base CX0 1 g N eD wf)(u:eB G "number_of")(J:FnOk P w K mg base CX0 2 R B eE ac0)(b:eB J "may_be"):FnOk P w K mg base CX0 3 f fd ["values","heap","part"] (a29 K):=by
 refine F.okA ["values","heap","part","place","cell"] λO A outer s0 H vs Q E o h nd=>?_;let(d,h,p,m,cs,a,f,s,rfl,I,T,z,U,X,S,q):=h;let C:=o.mono (j:=1) (by lia);let M:=ir o;exists _,fe (gd 3 nd (gx G C u (fh (qv 0) (fx (fj K (qv 2) fc) ad))))
  (fe (gg (ko M (qv 3) (qv 1)) (ff (fm gj)) ge)
  (fe (gd 4 nd (im M (qv 1) (qv 3) (λ_ _=>rfl)))
  (fe (gg (QW.qt (jg (jc (i6 (gx J o b (fh (qv 0) (fx (fj K (qv 2) fc) (fx (fj K (qv 4) fc) ad))))))
   (jp (jc (i6 (gx J o b (fh (qv 0) (fx (fj K (qv 2) fc) (fx (fj K (qv 4) fc) ad))))))))) (ff (fm gj)) ge)
  (ff (fm (iu (fh (qv 3) ad)))))))
 nofun
 let(hp,h1,h2):=id T;exists _,eY,_,eY,p,_,1,.str a,eY,eY,z,eY,d,m,a,eY,I,U;rcases mo h2 (num m a) with⟨n,D⟩|⟨r,x,y,n,D,L⟩
 . let g:=DGet.k (k:=Sum.inl (num m a)) h1;rw[D] at g;refine#[_,eY,_,eY,h,_,eY,g,_,eY,iteT ?_];exact q.none (by unfold o4;rw[n]) (Same.refl _)
 let g:=DGet.k (k:=Sum.inl (num m a)) h1;rw[D] at g;refine#[_,eY,_,eY,h,_,eY,g,_,eY,iteF ?_];exists _,eY,_,eY,h,.ref r,eY,g;refine#[_,eY,_,eY,p,_,2,.str f,eY,eY,z,eY,_,eY,r,_,0,.int x,eY,eY,L,eY,d,m,f,x,eY,I,X,_,eY,iteB (λc=>?_) (λc=>?_)]
 . let t:mayB m f x=eK:=by simpa using c
   exact q.none (by unfold o4;rw[n];simp[t]) (Same.refl _)
 let t:mayB m f x=eJ:=by simpa using c
 refine#[_,eY,_,eY,p,_,3,.str s,eY,eY,z,eY,_,eY,r,_,1,.int y,eY,eY,L,eY,d,m,s,y,eY,I,S,_,eY,iteB (λv=>?_) (λv=>?_)]
 . let e:mayB m s y=eK:=by simpa using v
   exact q.none (by unfold o4;rw[n];simp[e]) (Same.refl _)
 let e:mayB m s y=eJ:=by simpa using v
 refine#[_,eY,eW,λl hl=>?_];exact q.some (ns:=[num m a]) (by unfold o4;rw[n];simp[t,e]) (fi hl _) hl fb
def aet(i j k:eO):TT:=fun σ H Q=>∃(p:eN) (td h:JA) (tk:eL eN) (kvs:eL (Key×V)),σ[i]?=eH (eH (.int p))/\σ[j]?=eH (eH (.ref td))/\σ[k]?=eH (eH (.ref h))/\H td=eH (.dK (dti tk))/\H h=eH (.dK kvs)/\Q (decide (p∈tk) || (valV kvs (Sum.inl p)).isNone) H
theorem wm(σ:St)(H:Hp)(Q:fJ->Hp->Prop)(h:aet i j k σ H Q):tOr (tB (tDIn (tVar i) (tVar j))) (tB (u6 (tVar i) (tVar k))) σ H Q:=by
 let(p,td,h,tk,kvs,h1,h2,h3,a,b,q):=h;refine#[_,h1,_,h2,td,_,eY,DGet.k (k:=Sum.inl p) a,_,eY,iteB (λc=>?_) (λc=>?_)];rw[rh] at c;rw[c,IQ] at q;exact q
 rw[rh] at c;rw[c,Dz] at q;exists _,h1,_,h3,h,_,eY,DGet.k (k:=Sum.inl p) b,_,rfl;cases hv:valV kvs (Sum.inl p) with|none=>rw[hv] at q;exact q|some v=>rw[hv] at q;exact q
theorem ok_stretchT{K:Aa}(C:Con K mg w)(F:Fun K "stretch_taken" "stretch_taken" sStretchT f fd):FnOk P w K mg base CX0 1 f fd ["heap","place","end"] (vp K):=by
 refine F.okA ["heap","place","end","taken"] λU A outer s0 H vs Q E hr h nd=>?_;let(h,L,en,cs,rfl,R,Y,q):=h;let D:=ir hr;exists _,fe (gd 3 nd ma)
  (fe (nh A7 (fz km (qv 1) (qv 2) (fy _))
   (fe (gg (a3p (QW.qt (jg (t0 D (qv 1) (qv 3)) (jp (ko D (qv 1) (qv 0))))) wm) (ff (fm gj)) ge)
   (fe (ld D (qv 3) (qv 1) mh)
   (ff (gd 1 nd (fj K (im D (qv 0) (qv 1) (λ_ _=>rfl)) fc))))))
  (ff (fm (j6 (lz rfl) rfl C.list Bx (fh (qv 3) ad)))))
 nofun
 refine λtd j=>?_;let s1:=fi j (.dK (dti []));refine a0u (fun σ H'=>Same H H'/\Ex2 λp tk=>And4 (H' td=eH (.dK (dti tk))) (Went cs tk) (pw cs en (cs.length+1-tk.length) p tk=lk cs L en) (σ=[rQ h,iQ p,iQ en,rQ td]))
  (λ_ H'=>match H' td with|some (.dK kvs)=>cs.length+1-kvs.length|_=>0) #[s1,L,[],fb,#[AV,by simp],rfl,rfl] ?_ ?_
 . rintro σ H' ⟨e,p,tk,t,S,s,rfl⟩
   nofun
   let T:=S.len;obtain⟨n,O⟩:∃n,cs.length+1-tk.length=n+1:=#[cs.length-tk.length,by lia]
   rw[O] at s;refine#[_,eY,_,eY,eY,_,eY,iteB (λc=>?_) (λc=>?_)]
   . let M:¬ p=en:=by simpa using c
     let(hp,h1,h2):=R.same e;let b:(if p∈tk then eI else match atc cs p with|none=>eI|some c=>pw cs en n c.2 (tk++[p]))=lk cs L en:=by
      rw[<- s];show _=if p=en then eH tk else _
      rw[eP M]
     refine#[p,td,h,tk,_,eY,eY,eY,t,h1,iteB (λd=>?_) (λd=>?_)]
     . refine q.none ?_ e;rw[<- b];by_cases hm:p∈tk;rw[eQ hm]
       . rw[eP hm];rw[fA hm,Dz] at d;rcases mo h2 p with⟨G,_⟩|⟨r,x,y,_,u,_⟩
         . rw[G]
         rw[u] at d;cases d
     let hm:¬ p∈tk:=λz=>by rw[fB z] at d;cases d
     rw[fA hm,Dz] at d;rcases mo h2 p with⟨_,u⟩|⟨r,x,y,G,u,X⟩
     . rw[u] at d;cases d
     rw[eP hm,G] at b;let J:h≠td:=by let(_,N,_):=id R;exact gb N j
     exists _,eY,_,eY,td,_,eY,DPut.k (k:=Sum.inl p) t ?_;unfold dti;rw[Ad];exact AH (show tk.length<=1000 by lia) (by decide)
     rw[a0o hm];let g:=DGet.k (H:=upd H' td (.dK (dti (tk++[p])))) (a:=h) (k:=Sum.inl p) (by rw[fg J];exact h1);rw[u] at g;let I:SqT K (upd H' td (.dK (dti (tk++[p])))) r [.int x,.int y]:=by
      rcases X with (z|⟨o,z⟩)|z
      . let:r≠td:=λw=>by rw[w,t] at z;cases z
        exact .inl (.inl (by rw[fg this];exact z))
      . let:r≠td:=λw=>by rw[w,t] at z;cases z
        exact .inl (.inr #[o,by rw[fg this];exact z])
      exact .inr z
     let B:=S.more hm (by rw[G];rfl);let m:=B.len;rw[Ai,A2] at m;exists _,eY,_,eY,h,.ref r,eY,g,r,_,1,.int y,eY,eY,I,eY,#[ia j e _,y,tk++[p],fb,B,?_,eY];rw[<- b,Ai,A2,show cs.length+1-(tk.length+1)=n by lia]
     show(match upd H' td (.dK (dti (tk++[p]))) td with|some (.dK kvs)=>cs.length+1-kvs.length|_=>0)<(match H' td with|some (.dK kvs)=>cs.length+1-kvs.length|_=>0)
     rw[fb,t];show cs.length+1-(dti (tk++[p])).length<cs.length+1-(dti tk).length;unfold dti;rw[Ad,Ad,Ai,A2]
     lia
   let M:p=en:=by simpa using c
   refine#[_,eY,td,_,eY,t,λl hl=>?_];rw[a0g];refine q.some (ns:=tk) ?_ (e.trans (fi hl _)) (e.free hl) fb;rw[<- s];show(if p=en then eH tk else _)=_;rw[eQ M]
 rintro σ H' Q1 Q2 hq ⟨v,h1,Z,h2,h3,k,hk,h4⟩;exact#[v,h1,Z,h2,h3,k,hk,hq _ _ h4]
end K34.Cv
namespace K34.Cv
open L2 Mir
theorem aaz{K:Aa}(a:H td=eH (.dK kvs))(b:SqT K H r xs):SqT K (upd H td (.dK kvs')) r xs:=by
 rcases b with (z|⟨o,z⟩)|z
 . let:r≠td:=λw=>by rw[w,a] at z;cases z
   exact .inl (.inl (by rw[fg this];exact z))
 . let:r≠td:=λw=>by rw[w,a] at z;cases z
   exact .inl (.inr #[o,by rw[fg this];exact z])
 exact .inr z
theorem ok_treeT{K:Aa}(C:Con K mg w)(F:Fun K "tree_taken" "tree_taken" sTreeT f fd):FnOk P w K mg base CX0 1 f fd ["heap","top"] (a2i K):=by
 refine F.okA ["heap","top","taken","coming","place"] λah A outer s0 H vs Q E hr h nd=>?_;let(h,N,cs,rfl,hH,ai,q):=h;let O:=ir hr;exists _,fe (gd 2 nd ma)
  (fe (gd 3 nd (iu (fh (qv 1) ad)))
  (fe (nh A7 (uu (K:=K) (qv 3))
   (fe (gd 4 nd (a5s AK CQ Es a7t (qv 3)))
   (ff (gg (fz km (qv 4) fc (fy _))
    (fe (gg (a3p (QW.qt (jg (t0 O (qv 4) (qv 2)) (jp (ko O (qv 4) (qv 0))))) wm) (ff (fm gj)) ge)
    (fe (ld O (qv 2) (qv 4) mh)
    (ff (il (kz (K:=K) rfl AK CN CO pf (qv 3) (kf (fx (fj K (im O (qv 0) (qv 4) (λ_ _=>rfl)) fc) (fx (fj K (im O (qv 0) (qv 4) (λ_ _=>rfl)) fc) ad)) ad)))))) ge))))
  (ff (fm (j6 (lz rfl) rfl C.list Bx (fh (qv 2) ad))))))
 nofun
 refine λtd D=>?_;let s1:=fi D (.dK (dti []));refine#[_,eY,eW,λcl d=>?_];let s2:=fi d (.lst [.int N]);let n:td≠cl:=gb fb d;let j:H cl=eI:=s1.free d;refine a0u (fun σ H'=>Same H H'/\Ex3 λco tk z=>And6 (H' td=eH (.dK (dti tk))) (H' cl=eH (.lst (co.reverse.map V.int))) (Went cs tk) (co.length<=tk.length+1) (md cs (2*(cs.length-tk.length)+co.length+1) co tk=pj cs N) (σ=[rQ h,iQ N,rQ td,rQ cl,z]))
  (λ_ H'=>match H' td,H' cl with|some (.dK kvs),eH (.lst xs)=>2*(cs.length-kvs.length)+xs.length|_,_=>0) #[s1.trans s2,[N],[],eI,s2 _ _ fb,fb,#[AV,by simp],by simp,rfl,rfl] ?_ ?_
 . rintro σ H' ⟨e,co,tk,z,hT,hC,hW,ab,s,rfl⟩
   nofun
   let ag:=hW.len;refine#[_,eY,_,.inl #[_,SqL.of hC,eY],iteB (λc=>?_) (λc=>?_)]
   . -- one more place
     cases co with
     |nil=>cases c
     |cons p co =>
      let B:((p::co).reverse.map V.int)[((p::co).reverse.map V.int).length-1]?=eH (.int p):=by
       rw[Bv,Av];simp
      let ac:((p::co).reverse.map V.int).dropLast=co.reverse.map V.int:=by
       rw[Bv,Av];simp
      exists _,eY,.inl #[eY,_,SqL.of hC],cl,_,.int p,eY,eY,hC,B;rw[ac];let m:(upd H' cl (.lst (co.reverse.map V.int))) td=eH (.dK (dti tk)):=by rw[fg n];exact hT
      let U:(upd H' cl (.lst (co.reverse.map V.int))) cl=eH (.lst (co.reverse.map V.int)):=fb;let e2:=ia j e (.lst (co.reverse.map V.int));let μ1:(match H' td,H' cl with|some (.dK kvs),eH (.lst xs)=>2*(cs.length-kvs.length)+xs.length|_,_=>0)=2*(cs.length-tk.length)+co.length+1:=by
       rw[hT,hC];show 2*(cs.length-(dti tk).length)+((p::co).reverse.map V.int).length=_;unfold dti;rw[Ad,Ad,CP,Aw];lia
      rw[Aw,show 2*(cs.length-tk.length)+(co.length+1)+1=(2*(cs.length-tk.length)+co.length+1)+1 by lia] at s;rw[Aw] at ab;refine#[_,eY,eY,_,eY,iteB (λc2=>?_) (λc2=>?_)]
      . let J:¬ p=0:=by simpa using c2
        let b:(if p∈tk then eI else match atc cs p with|none=>eI|some c=>md cs (2*(cs.length-tk.length)+co.length+1) (c.1::c.2::co) (tk++[p]))=pj cs N:=by
         rw[<- s];show _=if p=0 then _ else _
         rw[eP J]
         all_goals rfl
        let(hp,h1,h2):=hH.same e2;refine#[p,td,h,tk,_,eY,eY,eY,m,h1,iteB (λo=>?_) (λo=>?_)]
        . refine q.none ?_ e2;rw[<- b];by_cases hm:p∈tk;rw[eQ hm]
          . rw[eP hm];rw[fA hm,Dz] at o;rcases mo h2 p with⟨e1,_⟩|⟨r,x,y,_,a,_⟩
            . rw[e1]
            rw[a] at o;cases o
        let hm:¬ p∈tk:=λz=>by rw[fB z] at o;cases o
        rw[fA hm,Dz] at o;rcases mo h2 p with⟨_,a⟩|⟨r,x,y,e1,a,hc⟩
        . rw[a] at o;cases o
        rw[eP hm,e1] at b;let aa:h≠td:=by let(_,L,_):=id hH;exact gb L D
        let ae:h≠cl:=by let(_,L,_):=id hH;exact gb L j
        exists _,eY,_,eY,td,_,eY,DPut.k (k:=Sum.inl p) m ?_;unfold dti;rw[Ad];exact AH (show tk.length<=1000 by lia) (by decide)
        rw[a0o hm];let e3:=ia D e2 (.dK (dti (tk++[p])));let M:=aaz (kvs':=dti (tk++[p])) m hc;let S:(upd (upd H' cl (.lst (co.reverse.map V.int))) td (.dK (dti (tk++[p])))) h=eH (.dK (hv hp)):=by rw[fg aa];exact h1
        let G:(upd (upd H' cl (.lst (co.reverse.map V.int))) td (.dK (dti (tk++[p])))) td=eH (.dK (dti (tk++[p]))):=fb;let u:(upd (upd H' cl (.lst (co.reverse.map V.int))) td (.dK (dti (tk++[p])))) cl=eH (.lst (co.reverse.map V.int)):=by rw[fg (AF n)];exact U
        generalize (upd (upd H' cl (.lst (co.reverse.map V.int))) td (.dK (dti (tk++[p]))))=H3 at e3 M S G u |-;let g:=DGet.k (k:=Sum.inl p) S;rw[a] at g;let X:=hW.more hm (by rw[e1];rfl);let I:=X.len;rw[Ai,A2] at I;refine#[_,eY,.inl #[eY,_,SqL.of u],_,eY,_,eY,h,.ref r,eY,g,r,_,1,.int y,eY,eY,M,eY,_,eY,_,eY,h,.ref r,eY,g,r,_,0,.int x,eY,eY,M,eY,eV,λY T=>?_];let Z:=fi T (.lst [.int y,.int x]);let af:cl≠Y:=gb u T;exists cl,Y,_,_,eY,eY,Z _ _ u,fb,?_,#[ia j (e3.trans Z) _,x::y::co,tk++[p],_,?_,?_,X,?_,?_,eY];rw[Ad,CP];exact AB (show co.length+2<=2000 by lia) (by decide);rw[fg n];exact Z _ _ G;rw[fb,Bv,Bv,Av,Av,A5];rfl;rw[Ai,A2,Aw,Aw];lia
        . rw[<- b,Ai,A2,Aw,Aw]
          congr 1
          lia
        rw[μ1];show(match (upd (upd H3 Y _) cl _) td,(upd (upd H3 Y _) cl _) cl with|some (.dK kvs),eH (.lst xs)=>2*(cs.length-kvs.length)+xs.length|_,_=>0)<_;rw[fb,fg n,Z _ _ G];show 2*(cs.length-(dti (tk++[p])).length)+(co.reverse.map V.int++[V.int y,V.int x]).length<_;unfold dti;rw[Ad,Ai,Ai,Ad,CP,A2];simp only[Aw,DI]
        lia
      let J:p=0:=by simpa using c2
      exists #[e2,co,tk,_,m,U,hW,by lia,?_,eY]
      . rw[<- s];show _=if p=0 then _ else _
        rw[eQ J]
      rw[μ1];show(match (upd H' cl _) td,(upd H' cl _) cl with|some (.dK kvs),eH (.lst xs)=>2*(cs.length-kvs.length)+xs.length|_,_=>0)<_;rw[fb,m];show 2*(cs.length-(dti tk).length)+(co.reverse.map V.int).length<_;unfold dti;rw[Ad,Ad,CP]
      lia
   let R:co=[]:=by
    cases co with
    |nil=>rfl
    |cons p co =>
     let c':(!((p::co).reverse.map V.int).isEmpty)=eK:=c;rw[Bv,Av] at c';simp at c'
   subst R;refine#[_,eY,td,_,eY,hT,λl hl=>?_];rw[a0g];exact q.some (ns:=tk) s.symm (e.trans (fi hl _)) (e.free hl) fb
 rintro σ H' Q1 Q2 hq ⟨v,h1,k,hk,h4⟩;exact#[v,h1,k,hk,hq _ _ h4]
def ac2(m:eL (eZ×eN))(r:eU):Prop:=(∃a b c:eZ,r=[("cell":eZ),a,b,c]/\Has m a/\(b="any" \/ Has m b)/\(c="any" \/ Has m c))\/(∃a b:eZ,r=[("stretch":eZ),a,b]/\Has m a/\Has m b)\/(∃a:eZ,r=[("tree":eZ),a]/\Has m a)
def mf(m:eL (eZ×eN))(cs:i4)(r:eU):eM (eL eN) :=
 if r.getD 0 ""="cell" then o4 m cs (r.getD 1 "") (r.getD 2 "") (r.getD 3 "") else if r.getD 0 ""="stretch" then lk cs (num m (r.getD 1 "")) (num m (r.getD 2 "")) else pj cs (num m (r.getD 1 ""))
inductive spPartTS(K:Aa)(vs:eL V)(H:Hp)(Q:VK):Prop
 |mk (d h p:JA)(m:eL (eZ×eN))(cs:i4)(r:eU)(h0:vs=[.ref d,.ref h,.ref p])(h1:H d=eH (.dK (dv m)))(h2:HeapAt K H h cs)(h3:cs.length<=1000)(h4:RowAt K H p r)(h5:ac2 m r)(h6:Gives H (mf m cs r) Q):spPartTS K vs H Q
def a2k(K:Aa):Sp:=λvs H Q _=>spPartTS K vs H Q
theorem ok_partT{K:Aa}(F:Fun K "part_taken" "part_taken" sPartT f fd)(G:FnOk P w K mg base CX0 1 g I eD wf)(l:eB G "number_of")(O:FnOk P w K mg base CX0 3 g1 x eE (a29 K))(s:eB O "cell_taken")(L:FnOk P w K mg base CX0 1 N B ["heap","place","end"] (vp K))(o:Cal K mg "stretch_taken" N B ["heap","place","end"])(S:FnOk P w K mg base CX0 1 R y ["heap","top"] (a2i K))(n:Cal K mg "tree_taken" R y ["heap","top"]):FnOk P w K mg base CX0 4 f fd ["values","heap","part"] (a2k K):=by
 refine F.okA ["values","heap","part"] λJ A outer s0 H vs Q E D h _=>?_;let(d,h,p,m,cs,r,rfl,v,C,t,k,T,q):=h;let i:=D.mono (j:=1) (by lia);exists _,fe (gg (fz gq (fj K (qv 2) fc) gt (fy _)) (ff (fm (gx O D s (fh (qv 0) (fh (qv 1) (fh (qv 2) ad)))))) ge)
  (fe (gg (fz gq (fj K (qv 2) fc) gt (fy _)) (ff (fm (gx L i o (fh (qv 1)
   (ii (gx G i l (fh (qv 0) (fx (fj K (qv 2) fc) ad))) (ii (gx G i l (fh (qv 0) (fx (fj K (qv 2) fc) ad))) ad)))))) ge)
  (ff (fm (gx S i n (fh (qv 1) (ii (gx G i l (fh (qv 0) (fx (fj K (qv 2) fc) ad))) ad))))))
 nofun
 rcases T with⟨a,b,c,rfl,u,z,M⟩|⟨a,b,rfl,u,z⟩|⟨a,rfl,u⟩
 . refine#[_,eY,p,_,0,.str "cell",eY,eY,k,eY,eY,_,eY,iteB (λ_=>?_) (λc=>by simp at c)];exact#[_,eY,_,eY,_,eY,d,h,p,m,cs,a,b,c,eY,v,C,k,u,z,M,q]
 . refine#[_,eY,p,_,0,.str "stretch",eY,eY,k,eY,eY,_,eY,iteB (λc=>eR c (by decide)) (λ_=>?_)];refine#[_,eY,p,_,0,.str "stretch",eY,eY,k,eY,eY,_,eY,iteB (λ_=>?_) (λc=>by simp at c)];let e:mf m cs ["stretch",a,b]=lk cs (num m a) (num m b):=by
    show(if("stretch":eZ)="cell" then _ else if("stretch":eZ)="stretch" then lk cs (num m a) (num m b) else _)=_;rw[eP (by decide),eQ rfl]
   rw[e] at q;exact#[_,eY,_,eY,_,eY,p,_,1,.str a,eY,eY,k,eY,d,m,a,eY,v,u,_,eY,_,eY,p,_,2,.str b,eY,eY,k,eY,d,m,b,eY,v,z,h,_,_,cs,eY,C,t,q]
 refine#[_,eY,p,_,0,.str "tree",eY,eY,k,eY,eY,_,eY,iteB (λc=>eR c (by decide)) (λ_=>?_)];refine#[_,eY,p,_,0,.str "tree",eY,eY,k,eY,eY,_,eY,iteB (λc=>eR c (by decide)) (λ_=>?_)];let e:mf m cs ["tree",a]=pj cs (num m a):=by
  show(if("tree":eZ)="cell" then _ else if("tree":eZ)="stretch" then _ else pj cs (num m a))=_;rw[eP (by decide),eP (by decide)]
 rw[e] at q;exact#[_,eY,_,eY,_,eY,p,_,1,.str a,eY,eY,k,eY,d,m,a,eY,v,u,h,_,cs,eY,C,t,q]
end K34.Cv
namespace K34.Cv
open L2 Mir
abbrev sCover:JJ:=top 15
abbrev sFits:JJ:=top 16
theorem zb:∀(n:eO) (p:eN) (tk ns:eL eN),Went cs tk->pw cs e n p tk=eH ns->ns.length<=cs.length
 |0,_,_,_,_,h=>by cases h
 |n+1,p,tk,ns,hW,h=>by
  let h':(if p=e then eH tk else if p∈tk then eI else match atc cs p with|none=>eI|some c=>pw cs e n c.2 (tk++[p]))=eH ns:=h;by_cases h1:p=e;rw[eQ h1] at h';cases h';exact hW.len
  rw[eP h1] at h';by_cases h2:p∈tk;rw[eQ h2] at h';cases h'
  rw[eP h2] at h';cases ha:atc cs p with|none=>rw[ha] at h';cases h'|some c=>rw[ha] at h';exact zb n c.2 _ ns (hW.more h2 (by rw[ha];rfl)) h'
theorem rc:∀(n:eO) (co tk ns:eL eN),Went cs tk->md cs n co tk=eH ns->ns.length<=cs.length
 |0,_,_,_,_,h=>by cases h
 |n+1,[],tk,ns,hW,h=>by
  let h':eH tk=eH ns:=h;cases h';exact hW.len
 |n+1,p::co,tk,ns,hW,h=>by
  let h':(if p=0 then md cs n co tk else if p∈tk then eI else match atc cs p with|none=>eI|some c=>md cs n (c.1::c.2::co) (tk++[p]))=eH ns:=h;by_cases h1:p=0;rw[eQ h1] at h';exact rc n co tk ns hW h'
  rw[eP h1] at h';by_cases h2:p∈tk;rw[eQ h2] at h';cases h'
  rw[eP h2] at h';cases ha:atc cs p with|none=>rw[ha] at h';cases h'|some c=>rw[ha] at h';exact rc n _ _ ns (hW.more h2 (by rw[ha];rfl)) h'
theorem a0k(cs:i4):Went cs []:=#[AV,by simp]
theorem yv(h:mf m cs r=eH ns):ns.length<=cs.length:=by
 unfold mf at h;split at h;unfold o4 at h;split at h;cases h;rename_i c a;split at h;cases h;let:=atc_mem (cs:=cs) (x:=num m (r.getD 1 "")) (by rw[a];rfl);let hl:0<(cs.map (·.1)).length:=Df this;rw[Ad] at hl;exact hl;cases h
 split at h;exact zb _ _ _ _ (a0k cs) h;exact rc _ _ _ _ (a0k cs) h
def jr{α:Type}:eL (eM α)->eM (eL α)
 |[]=>eH []
 |none::_=>eI
 |some a::r=>(jr r).map (a :: ·)
theorem t9:∀{os:eL (eM α)},(∀o∈os,o≠eI)->∃as,jr os=eH as/\os=as.map eH
 |[],_=>#[[],eY,eY]
 |none::r,h=>eR rfl (h eI (Af ..))
 |some a::r,h=>by
  let(as,h1,h2):=t9 (os:=r) λo b=>h o (Ah _ b);exact#[a::as,by show(jr r).map (a :: ·)=_;rw[h1];rfl,by rw[h2];rfl]
theorem tq:∀{os:eL (eM α)},eI∈os->jr os=eI
 |[],h=>by simp at h
 |none::r,_=>rfl
 |some a::r,h=>by
  let:eI∈r:=by
   rcases Ak.mp h with z|z;cases z;exact z
  show(jr r).map (a :: ·)=eI;rw[tq this];rfl
def lx(m:eL (eZ×eN))(cs:i4)(fs ps:eS):eM (eL (eL eN)) :=
 if fs.all (ky m)=eJ then match jr (ps.map (mf m cs)) with
  |none=>eI
  |some rows=>if rows.flatten.Nodup then eH rows else eI
 else eI
def GivesR(H:Hp)(o:eM (eL (eL eN)))(Q:VK):Prop:=match o with
 |none=>∀H',Same H H'->Q .non H'
 |some rows=>∀l las H',Same H H'->H l=eI->(∀a∈las,H a=eI/\a≠l)->H' l=eH (.lst (las.map V.ref))->JI (λa r=>H' a=eH (.lst (r.map V.int))) las rows->Q (.ref l) H'
theorem GivesR.none(h:GivesR H o Q)(e:o=Option.none)(s:Same H H'):Q .non H':=by subst e;exact h H' s
theorem GivesR.some(h:GivesR H o Q)(e:o=Option.some rows)(s:Same H H')(hn:H l=Option.none)(b:∀a∈las,H a=Option.none/\a≠l)(hl:H' l=Option.some (.lst (las.map V.ref)))(hp:JI (λa r=>H' a=Option.some (.lst (r.map V.int))) las rows):Q (.ref l) H':=by subst e;exact h l las H' s hn b hl hp
def afq(m:eL (eZ×eN))(r:eU):Prop:=∃k u v:eZ,r=[k,u,v]/\Has m u/\Has m v
structure TellR(m:eL (eZ×eN))(fs ps:eS):Prop where
 sF:jj fs
 sP:jj ps
 few:∀ss:eU,ss.Nodup->(∀y∈ss,y∈i5 (fs++ps))->ss.length<64
 has:∀y∈i5 (fs++ps),(lkI m y).isSome=eJ
 facts:∀r∈fs,afq m r
 parts:∀r∈ps,ac2 m r
 six:ps.length<=6
theorem TellR.ne(h:TellR m fs ps):∀r∈fs++ps,r≠[]:=λr d z=>by
 rcases Ab.mp d with h1|h1;let(k,u,v,e,_):=h.facts r h1;rw[e] at z;cases z;rcases h.parts r h1 with⟨a,b,c,e,_⟩|⟨a,b,e,_⟩|⟨a,e,_⟩<;>(rw[e] at z;cases z)
inductive spCoverS(K:Aa)(vs:eL V)(H:Hp)(Q:VK):Prop
 |mk (d h t m cs fs ps)(h0:vs=[.ref d,.ref h,.ref t])(h1:H d=eH (.dK (dv m)))(h2:HeapAt K H h cs)(h3:cs.length<=600)(h4:TellAt K H t [fs,ps])(h5:TellR m fs ps)(h6:GivesR H (lx m cs fs ps) Q):spCoverS K vs H Q
def spCover(K:Aa):Sp:=λvs H Q _=>spCoverS K vs H Q
def fitsB(m:eL (eZ×eN))(cs:i4)(fs ps:eS):fJ:=match lx m cs fs ps with
 |none=>eK
 |some rows=>decide ((rows.map (·.length)).sum=cs.length)
inductive spFitsS(K:Aa)(vs:eL V)(H:Hp)(Q:VK):Prop
 |mk (d h t m cs fs ps)(h0:vs=[.ref d,.ref h,.ref t])(h1:H d=eH (.dK (dv m)))(h2:HeapAt K H h cs)(h3:cs.length<=600)(h4:TellAt K H t [fs,ps])(h5:TellR m fs ps)(h6:∀H',Same H H'->Q (.bl (fitsB m cs fs ps)) H'):spFitsS K vs H Q
def spFits(K:Aa):Sp:=λvs H Q _=>spFitsS K vs H Q
def abq(H1:Hp)(D:JA)(H:Hp)(y:V)(o:eM (eL eN)):Prop:=(o=eI/\y=.non)\/∃a ns,o=eH ns/\y=.ref a/\a≠D/\H1 a=eI/\H a=eH (.lst (ns.map V.int))
def dOpt(o:eM (eL eN)):PyData:=match o with
 |none=>.none
 |some ns=>.list (ns.map .int)
theorem qo{K:Aa}:∀ns:eL eN,DpAll K H (ns.map V.int) (ns.map PyData.int)
 |[]=>.nil
 |x::r=>.cons (.int x) (qo r)
theorem a0w{K:Aa}:∀{ys:eL V}{os:eL (eM (eL eN))},JI (λy o=>abq b D H y o) ys os->DpAll K H ys (os.map dOpt)
 |_,_,.nil=>.nil
 |_,_,.cons h t=>by
  refine .cons ?_ (a0w t);rcases h with⟨rfl,rfl⟩|⟨a,ns,rfl,rfl,_,_,h⟩
  . exact .non
  exact .lst (SqL.of h) (qo ns)
theorem oo:∀ns:eL eN,Be (ns.map PyData.int)=eJ
 |[]=>by simp only[BG,Be]
 |x::r=>by simp only[A8,Be,BK,IL,oo r]
theorem lw:∀ns:eL eN,Bn (ns.map PyData.int)<=0
 |[]=>by simp only[BG,Bn];exact Ao _
 |x::r=>by simp only[A8,Bn,Ce];exact GZ.mpr #[Ao _,lw r]
theorem pc(ns:eL eN):EqOk (.list (ns.map PyData.int)):=by
 constructor;simp only[BK];exact oo ns;let:=lw ns;simp only[Ce];lia
theorem zd:EqOk .none:=#[by simp only[BK],by simp only[Ce];lia]
theorem a1n(o:eM (eL eN)):EqOk (dOpt o)/\(dOpt o).depth<=1:=by
 cases o with|none=>exact#[zd,by simp only[dOpt,Ce];lia]|some ns=>exact#[pc ns,by let:=lw ns;simp only[dOpt,Ce];lia]
theorem a7q(os:eL (eM (eL eN))):EqOk (.list (os.map dOpt)):=by
 let h1:∀os:eL (eM (eL eN)),Be (os.map dOpt)=eJ:=λos=>by
  induction os with|nil=>simp only[BG,Be]|cons o r ih=>simp only[A8,Be,Br];exact#[(a1n o).1.1,ih]
 let h2:∀os:eL (eM (eL eN)),Bn (os.map dOpt)<=1:=λos=>by
  induction os with|nil=>simp only[BG,Bn];lia|cons o r ih=>simp only[A8,Bn];exact GZ.mpr #[(a1n o).2,ih]
 constructor;simp only[BK];exact h1 os;let:=h2 os;simp only[Ce];lia
theorem a08(os:eL (eM (eL eN))):((os.map dOpt).any λe=>E6 e .none)=decide (eI∈os):=by
 rw[DT,Bd,AS,fG];constructor
 . rintro⟨o,a,h⟩;cases o with|none=>exact a|some ns=>exact eR (show E6 (.list (ns.map .int)) .none=eJ from h) (by simp[E6])
 intro h;exact#[eI,h,eY]
end K34.Cv
namespace K34.Cv
open L2 Mir
theorem ut:∀{rows:eL (eL eN)},(∀r∈rows,r.length<=B)->rows.flatten.length<=rows.length*B
 |[],_=>by simp
 |r::rows,h=>by
  let h1:=ut (rows:=rows) λx a=>h x (Ah _ a);let h2:=h r (Af ..);rw[AQ,Ai,Aw,IR]
  lia
theorem lenK{K:Aa}(a:X.K=K):ja X (.builtin "len") (λxs H Q=>∃p ys,xs=[.ref p]/\(SqL K H p ys\/SqT K H p ys)/\Q (.int ys.length) H):=by subst a;exact j0
theorem scCover:FnScope ["values","heap","telling","rows","taken","row"] ["values","heap","telling"] (gy sCover):=#[eY,eY,eY,by decide,eY,by decide,by decide]
theorem ok_cover{K:Aa}(C:Con K mg w)(F:Fun K "cover" "cover" sCover f fd)(GC:FnOk P w K mg base (CXE P w base) 2 gC dC eD (a1g K NV))(cC:eB GC "check_values")(GO:FnOk P w K mg base CX0 2 gO dO eE (a33 K))(cO:eB GO "holds")(GP:FnOk P w K mg base CX0 4 gP dP ["values","heap","part"] (a2k K))(cP:Cal K mg "part_taken" gP dP ["values","heap","part"]):FnOk P w K mg base (CXE P w base) 5 f fd ["values","heap","telling"] (spCover K):=by
 refine F.okEQ scCover (λvs H Q E h=>?_) (λax A outer s0 H vs Q E hr h=>?_);let(d,h,t,m,cs,fs,ps,rfl,_):=h;rfl
 let(d,h,t,m,cs,fs,ps,rfl,hD,hH,ap,ht,N,q):=h;let nd:=scCover.nd;let aa:=hr.mono (j:=2) (by lia);let hu:=AH (DB (show 32<=64 by decide) _) hr.units;exists _,fe (il (oe GC aa rfl cC.name cC.keep cC.bind .nil (a2v rfl) (fh (qv 0) (fh (qv 2) ad))))
  (fe (gg (jc (i6 (gr (vh rfl) rfl C.all Et (jh (ni ["fact","values"] [0] (i9 (fj K (qv 2) fc)) (λ_ _ _ _=>le)
   (λ_ _ _ _=>gx GO aa cO (fh (qv 1) (fh (qv 0) ad)))) ad)))) (ff (fm gj)) ge)
  (fe (oq ["part","values","heap"] [0,1] (i:=3) nd rfl (Or.inl rfl) (i9 (fj K (qv 2) fc)) (λ_ _ _ _=>le)
   (λ_ _ _ _=>gx GP hr cP (fh (qv 1) (fh (qv 2) (fh (qv 0) ad)))))
  (fe (gg (fz (aer hu) gj (qv 3) (by with_unfolding_all rfl)) (ff (fm gj)) ge)
  (fe (gd 4 nd (iu ad))
  (fe (af6 (ip A7 rfl (i9 (qv 3)) (j2 5 nd)
   (ff (il (kz (K:=K) rfl AK CN CO pf (qv 4) (fh (qv 5) ad))))))
  (ff (fm (mz (fz gq (gr zg rfl C.len Bs (ii (j6 (zk rfl) rfl C.set Eo (fh (qv 4) ad)) ad)) (gr j0 rfl C.len Bs (fh (qv 4) ad)) (fy _)) (qv 3) gj))))))))
 nofun
 refine#[_,eY,_,eY,d,t,m,fs,ps,eY,hD,ht,N.sF,N.sP,N.ne,N.few,λ_ H1 e1=>?_,λz=>by
  let(y,hy,hn):=z;let:=N.has y hy;rw[hn] at this;cases this]
 let(as,t1,t2):=ht.same e1;cases t2 with
 | @cons fa _ _ _ t3 t4 =>
 cases t4 with
 | @cons pa _ _ _ t5 t6 =>
 cases t6;let(ae,f1,f2):=t3;let(ac,p1,p2):=t5;let fl:ae.length=fs.length:=A4 f2;let pl:ac.length=ps.length:=A4 p2;let lf:=N.sF.1;let lp:=N.six;exists _,eY,t,_,0,.ref fa,eY,eY,t1,eY,fa,eY,#[_,SqL.of f1];refine qh (ae.map V.ref) (fs.map λr=>V.bl (ky m r)) jo (SqL.of f1) (by rw[Ad];exact B6 (kj (by lia))) (by rw[Ad,Ad,fl]) (λi x y hx hy H2 U Q' q'=>?_) λD1 H2 az U am=>?_;let(b,hb,rfl):=kc hx;let(r,n,g):=Paired.nth f2 hb;rw[Ar,n] at hy;let an:y=.bl (ky m r):=(Am hy).symm;subst an;let(k,u,v,rfl,h1,h2):=N.facts r (Aq n);exact#[_,eY,_,eY,d,b,m,k,u,v,eY,U _ _ (e1 _ _ hD),g.same U,h1,h2,q' H2 (Same.refl _)]
 refine#[D1,fs.map (ky m),eY,SqL.of (by rw[am,B3];rfl),_,eY,iteB (λc=>?_) (λc=>?_)]
 . let c':¬ fs.all (ky m)=eJ:=λz=>by
    rw[EE] at c;let z':(fs.all (id∘ky m))=eJ:=z;rw[z'] at c;cases c
   exact q.none (by unfold lx;rw[eP c']) (e1.trans U)
 let cF:fs.all (ky m)=eJ:=by
  rw[EE] at c;let:(!(fs.all (id∘ky m)))=eK:=c;simpa using this
 let J:=e1.trans U;exists _,eY,t,_,1,.ref pa,eY,eY,U.seqT t1,eY,pa,eY,#[_,SqL.of (U _ _ p1)];refine aaa (ac.map V.ref) ps (abq H2) (mf m cs) jo (SqL.of (U _ _ p1)) (by rw[Ad];lia) (by rw[Ad];lia) (λD H H' y o h k=>?_) (λD i x r hx R H3 e3 aj Q' q'=>?_) λD2 H3 ys ak e3 G pr=>?_;rcases h with h|⟨a,ns,h1,h2,h3,h4,h5⟩;exact .inl h;exact .inr #[a,ns,h1,h2,h3,h4,k _ _ h5 h3]
 . let(b,hb,rfl):=kc hx;let M:RowAt K H1 b r:=Paired.at2 p2 hb R;exists _,eY,_,eY,_,eY,d,h,b,m,cs,r,eY,e3 _ _ (J _ _ hD),hH.same (J.trans e3),by lia,M.same (U.trans e3),N.parts r (Aq R);cases ho:mf m cs r with|none=>exact λH' e'=>q' _ H' e' (.inl #[ho,eY])|some ns=>exact λl H' e' hl al=>q' _ H' e' (.inr #[l,ns,ho,eY,λz=>aj (z ▸ hl),e3.free hl,al])
 let ag:=J.trans e3;generalize hos:ps.map (mf m cs)=os at pr;let ab:os.length=ps.length:=by rw[<- hos,Ad]
 refine#[_,eY,D2,ys,os.map dOpt,.none,eY,SqL.of G,a0w pr,.non,a7q os,zd,_,eY,iteB (λc2=>?_) (λc2=>?_)];rw[a08,fG] at c2;exact q.none (by unfold lx;rw[eQ cF,hos,tq c2]) ag
 rw[a08,decide_eq_false_iff_not] at c2;let(rows,M,O):=t9 (os:=os) λo ho z=>c2 (z ▸ ho);let L:lx m cs fs ps=if rows.flatten.Nodup then eH rows else eI:=by unfold lx;rw[eQ cF,hos,M]
 let af:rows.length=ps.length:=by rw[<- ab,O,Ad]
 let s:∀r∈rows,r.length<=600:=λr R=>by
  let:eH r∈os:=by rw[O];exact Au.mpr #[r,R,eY]
  rw[<- hos] at this;let(r0,_,he):=Au.mp this;exact AB (yv he) ap
 obtain⟨las,ar,T⟩:∃las:eL JA,ys=las.map V.ref/\JI (λa r=>(a≠D2/\H2 a=eI)/\H3 a=eH (.lst (r.map V.int))) las rows:=by
  rw[O] at pr;clear O M hos L af s c2 ab G;induction rows generalizing ys with
  |nil=>cases pr;exact#[[],eY,.nil]
  |cons r rows ih =>
   rw[A8] at pr;cases pr with
   |cons h t =>
    let(las,h1,h2):=ih _ t;rcases h with⟨z,_⟩|⟨a,ns,z,rfl,h3,h4,h5⟩
    . cases z
    cases z;exact#[a::las,by rw[h1];rfl,.cons #[#[h3,h4],h5] h2]
 subst ar;let au:las.length=rows.length:=A4 T;let Y:=ut s;let aw:rows.flatten.length<=3600:=AB Y (by rw[af];exact Du 600 lp);refine#[AC _,λtk X=>?_];let s4:=fi X (.lst []);let ay:D2≠tk:=gb G X;exists _,eY,D2,eY,#[_,SqL.of (s4 _ _ G)];refine j5 (xs:=las.map V.ref) (λi σ H'=>Same H3 H'/\∃z5,H' tk=eH (.lst ((rows.take i).flatten.map V.int))/\σ=[rQ d,rQ h,rQ t,rQ D2,rQ tk,z5])
  #[s4,eI,fb,eY] (λi σ H' _ p=>SqL.of (p.1 _ _ G)) ?_ ?_
 . rintro i v σ H' hi ⟨e,z5,I,rfl⟩
   nofun
   let(b,hb,rfl):=kc hi;let(r,n,g):=Paired.nth T hb;let ao:rows.take (i+1)=rows.take i++[r]:=by rw[AJ,n];rfl
   let aq:(rows.take i).flatten.length+r.length<=3600+600:=by
    let h1:=s r (Aq n);let h2:=ut (rows:=rows.take i) (B:=600) λx hx=>s x (Bw hx);let h3:(rows.take i).length<=6:=by rw[AL];lia
    let h4:(rows.take i).length*600<=6*600:=Du 600 h3
    lia
   exists _,eY,.inl #[eY,_,SqL.of I],_,eY,tk,b,_,_,eY,eY,I,e _ _ g.2,?_;rw[Ad,Ad];exact AB aq (by decide)
   refine#[λc u qc=>?_,_,?_,eY];rw[fg (gb qc X)];exact e _ _ qc;rw[fb,ao,Bh,Av];simp
 rintro σ H' ⟨e,z5,I,rfl⟩;rw[Ad,au,AN] at I;refine#[_,eY,tk,_,eY,SqL.of I,(show _<4096 by lia),λS SS hS=>?_];let s5:=fi hS (.set SS (metN rows.flatten));let av:=adi rows.flatten;exists S,SS,_,eY,fb,by lia,_,eY,tk,_,eY,.inl (SqL.of (s5 _ _ I)),eY,_,rfl;let uH:=ag.trans (e.trans s5);refine iteB (λc3=>?_) (λc3=>?_)
 . let Z:metN rows.flatten=rows.flatten.length:=by
    let:=fC c3;rw[Ad] at this;let:=V.int.inj this
    lia
   let ah:=(a0y _).mp Z;let ai:H D2=eI:=(J).free ak;refine#[_,eY,q.some (by rw[L,eQ ah]) uH ai (las:=las) (λa ha=>?_) (s5 _ _ (e _ _ G)) (Paired.mapP T λa r z=>s5 _ _ (e _ _ z.2))];let(i,hi,rfl):=Hj ha;let(r,_,g):=Paired.nth T (Ag hi);exact#[J.free g.1.2,g.1.1]
 let Z:¬ rows.flatten.Nodup:=λz=>by
  let:=fD c3;rw[Ad,(a0y _).mpr z] at this;exact this rfl
 exact q.none (by rw[L,eP Z]) uH
theorem scFits:FnScope ["values","heap","telling","rows"] ["values","heap","telling"] (gy sFits):=#[eY,eY,eY,by decide,eY,by decide,by decide]
theorem ok_fits{K:Aa}(C:Con K mg w)(F:Fun K "fits" "fits" sFits f fd)(Y:FnOk P w K mg base (CXE P w base) 5 gC dC eD (spCover K))(L:eB Y "cover"):FnOk P w K mg base (CXE P w base) 6 f fd ["values","heap","telling"] (spFits K):=by
 refine F.okEQ scFits (λvs H Q E h=>?_) (λZ A outer s0 H vs Q E hr h=>?_);let(d,h,t,m,cs,fs,ps,rfl,_):=h;rfl
 let(d,h,t,m,cs,fs,ps,rfl,hD,U,k,ht,X,q):=h;let nd:=scFits.nd;exists _,fe (gd 3 nd (oe Y hr rfl L.name L.keep L.bind .nil (a2v rfl) (fh (qv 0) (fh (qv 1) (fh (qv 2) ad)))))
  (ff (fm (om (io xt (qv 3) gj (fy _)) (lm (io gq (gr (rz rfl) rfl C.sum Gw (jh (p6 (i9 (qv 3)) (λ_ _ _ _=>le) (λ_ _ _ _=>gr (lenK (K:=K) rfl) rfl C.len Bs (fh (qv 0) ad))) ad))
   (gr se rfl C.len Bs (fh (qv 1) ad)) (fy _))))))
 nofun
 exists _,eY,_,eY,_,eY,d,h,t,m,cs,fs,ps,eY,hD,U,k,ht,X;cases hc:lx m cs fs ps with
 |none =>
  intro H' z;let e:fitsB m cs fs ps=eK:=by unfold fitsB;rw[hc]
  refine#[_,eY,eY,_,eY,iteF ?_];let:=q H' z;rw[e] at this;exact this
 |some rows =>
  intro l las H' z ae ab hl hp;let e:fitsB m cs fs ps=decide ((rows.map (·.length)).sum=cs.length):=by unfold fitsB;rw[hc]
  let R:las.length=rows.length:=A4 hp;let g:rows.length<=6/\∀r∈rows,r.length<=600:=by
   unfold lx at hc;split at hc
   . split at hc;cases hc
     . rename_i ac G;split at hc
       . cases hc;let key:∀(os:eL (eM (eL eN))) (as:eL (eL eN)),jr os=eH as->as.length=os.length/\∀a∈as,eH a∈os:=by
          intro os;induction os with
          |nil=>intro as h;cases h;simp
          |cons o r ih =>
           intro as h;cases o with
           |none=>cases h
           |some a =>
            let h':(jr r).map (a :: ·)=eH as:=h;cases c:jr r with
            |none=>rw[c] at h';cases h'
            |some bs =>
             rw[c] at h';cases h';let(i1,i2):=ih bs c;refine#[by rw[Aw,Aw,i1],λx M=>?_];rcases Ak.mp M with rfl|N;exact Af ..;exact Ah _ (i2 x N)
         let(k1,k2):=key _ _ G;refine#[by rw[k1,Ad];exact X.six,λr c=>?_];let(r0,_,he):=Au.mp (k2 r c);exact AB (yv he) k
       cases hc
   cases hc
  refine#[_,eY,eY,_,eY,iteT ?_];exists _,eY,l,eY,#[_,SqL.of hl];refine qh (las.map V.ref) (rows.map λr=>V.int (r.length:eN)) jo (SqL.of hl) (by rw[Ad];exact B6 (kj (by lia))) (by rw[Ad,Ad,R]) (λi x y M T B v Q' q'=>?_) λD1 B aa v J=>?_;let(b,hb,rfl):=kc M;let(r,u,s):=Paired.nth hp hb;rw[Ar,u] at T;let O:y=.int (r.length:eN):=(Am T).symm;subst O;let:=q' B (Same.refl _);exists _,eY,b,_,eY,.inl (SqL.of (v _ _ s));rw[Ad];exact this
  let I:=(U.same z).same v;let(j,h1,h2):=id I;let S:j.length=cs.length:=A4 h2;refine#[D1,rows.map (λr=>(r.length:eN)),eY,SqL.of (by rw[J,B3];rfl),λn hn=>?_,by rw[Ad];lia,?_]
  . let(r,c,rfl):=Au.mp hn;let:=g.2 r c
    lia
  exists _,eY,h,_,eY,h1,rfl;let p:∀l:eL (eL eN),(l.map λr=>(r.length:eN)).sum=(((l.map (·.length)).sum:eO):eN):=λl=>by
   induction l with|nil=>rfl|cons r l ih=>rw[A8,Fg,ih,A8,Fg];lia
  let D:(hv j).length=cs.length:=by unfold hv;rw[Ad,S]
  let e3:decide (V.int ((rows.map λr=>(r.length:eN)).sum)=V.int ((hv j).length:eN))=decide ((rows.map (·.length)).sum=cs.length):=by
   rw[p,D];simp only[V.int.injEq]
   congr 1
   apply propext
   lia
  show Q (.bl (decide (V.int ((rows.map λr=>(r.length:eN)).sum)=V.int ((hv j).length:eN)))) B;rw[e3,<- e];exact q B (z.trans v)
end K34.Cv
namespace K34
open L2 Mir Kn
def s0F(kv:eL (Key×V))(bs:eN)(am:eM (eO×eZ))(j:eO):eN:=match am with
 |none=>bs+2*(j:eN)+1
 |some p=>if p.1=j then vI kv p.2 else bs+2*(j:eN)+1
theorem qp(kv:eL (Key×V))(bs:eN)(am:eM (eO×eZ))(j:eO):s0F kv bs am j=bs+2*(j:eN)+1\/∃e,am=eH (j,e)/\s0F kv bs am j=vI kv e:=by
 cases am with
 |none=>exact .inl rfl
 |some p =>
  let(k,e):=p;by_cases c:k=j;exact .inr #[e,by rw[c],eQ c];exact .inl (eP c)
def j4(kv:eL (Key×V))(bs:eN)(am:eM (eO×eZ))(P:eS)(j:eO):i4:=ka kv bs (s0F kv bs am j) (bs+2*(j:eN)+2) (P.getD j [])
def ib(kv:eL (Key×V))(bs:eN)(am:eM (eO×eZ))(P:eS)(ns:eL eO):i4:=(ns.map (j4 kv bs am P)).flatten
theorem a4l(kv:eL (Key×V))(bs:eN)(am:eM (eO×eZ))(P:eS)(ns:eL eO)(j:eO):ib kv bs am P (ns++[j])=ib kv bs am P ns++j4 kv bs am P j:=by
 unfold ib;rw[Av,Bh];simp
theorem rd(h:a∈(ka kv bs s0 s1 r).map (·.1)):a=vI kv (place r)\/a=s0\/a=s1:=by
 unfold ka at h;split at h;exact .inl (Ae.mp h)
 split at h;rcases Ak.mp h with z|z;exact .inl z;exact .inr (.inl (Ae.mp z))
 rcases Ak.mp h with z|z;exact .inl z
 rcases Ak.mp z with y|y;exact .inr (.inl y);exact .inr (.inr (Ae.mp y))
theorem a0d(a:vI kv (place r)≠s0)(h1:vI kv (place r)≠s1)(h2:s0≠s1):((ka kv bs s0 s1 r).map (·.1)).Nodup:=by
 unfold ka;split;simp
 split;simp[a];simp[a,h1,h2]
theorem a4r(kv:eL (Key×V))(bs s0 s1:eN)(r:eU):(ka kv bs s0 s1 r).length<=3:=by
 unfold ka;split;exact(show 1<=3 by decide);split<;>simp
structure Places(kv:eL (Key×V))(bs:eN)(am:eM (eO×eZ))(P:eS)(ns:eL eO):Prop where
 am:∀k e,am=eH (k,e)->vI kv e<bs/\∀j∈ns,vI kv (place (P.getD j []))≠vI kv e
 nd:ns.Nodup
 lt:∀j∈ns,vI kv (place (P.getD j []))<bs
 ne:∀i∈ns,∀j∈ns,i≠j->vI kv (place (P.getD i []))≠vI kv (place (P.getD j []))
theorem la:∀{ns:eL eO},Places kv bs am P ns->((ib kv bs am P ns).map (·.1)).Nodup
 |[],_=>.nil
 |j::ns,h=>by
  let e:ib kv bs am P (j::ns)=j4 kv bs am P j++ib kv bs am P ns:=rfl;let g:=Af (a:=j) (l:=ns);let(hd,hn):=AI.mp h.nd;let hl:=h.lt j g;rw[e,Av,AE];let n:=qp kv bs am j;let s:s0F kv bs am j≠vI kv (place (P.getD j []))/\(s0F kv bs am j=bs+2*(j:eN)+1\/s0F kv bs am j<bs):=by
   rcases n with z|⟨e,h1,z⟩;rw[z];exact#[by lia,.inl rfl];let(o,p):=h.am _ _ h1;rw[z];exact#[λy=>p j g y.symm,.inr o]
  refine#[a0d (by lia) (by lia) (by lia),la #[λk e r=>#[(h.am k e r).1,λi hi=>(h.am k e r).2 i (Ah _ hi)],hn,λi hi=>h.lt i (Ah _ hi),λi hi k w=>h.ne i (Ah _ hi) k (Ah _ w)],λa x b v=>?_];let(c,u,rfl):=Au.mp v;let(l,q,m):=Bt.mp u;let(i,hi,rfl):=Au.mp q;let d:i≠j:=λz=>hd (z ▸ hi);let h1:=rd x;let h2:=rd (Au.mpr #[c,m,eY]);let h3:=h.ne j g i (Ah _ hi) (AF d);let C:=h.lt i (Ah _ hi);let B:s0F kv bs am i≠vI kv (place (P.getD j []))/\(s0F kv bs am i=bs+2*(i:eN)+1\/(s0F kv bs am i<bs/\s0F kv bs am j≠s0F kv bs am i)):=by
   rcases qp kv bs am i with z|⟨e,h1,z⟩;rw[z];exact#[by lia,.inl rfl]
   let(o,p):=h.am _ _ h1;refine#[by rw[z];exact λy=>p j g y.symm,.inr #[by rw[z];exact o,λy=>?_]];rcases n with t|⟨A,f,t⟩;lia;rw[h1] at f;exact d (fE FJ (Am f))
  let D:s0F kv bs am j≠vI kv (place (P.getD i [])):=by
   rcases n with z|⟨e,h1,z⟩;rw[z];lia;rw[z];exact λy=>(h.am _ _ h1).2 i (Ah _ hi) y.symm
  lia
theorem sd(kv:eL (Key×V))(bs:eN)(am:eM (eO×eZ))(P:eS):∀ns:eL eO,(ib kv bs am P ns).length<=3*ns.length
 |[]=>Ao _
 |j::ns=>by
  let e:ib kv bs am P (j::ns)=j4 kv bs am P j++ib kv bs am P ns:=rfl;let h1:=sd kv bs am P ns;let h2:=a4r kv bs (s0F kv bs am j) (bs+2*(j:eN)+2) (P.getD j []);rw[e,Ai,Aw];unfold j4
  lia
theorem CellsAt.keys(h:CellsAt K H hp cs):hp.map (·.1)=cs.map (·.1):=by
 unfold CellsAt at h;induction h with|nil=>rfl|cons h t ih=>rw[A8,A8,h.1,ih]
theorem a8t(h:((hp++a).map (·.1)).Nodup):j9 (hv hp) (hv a)=hv (hp++a):=by
 rw[o5];unfold hv;rw[Av]
 let e:((hv hp++hv a).map (·.1))=((hp++a).map (·.1)).map (Sum.inl:eN->Key):=by
  unfold hv;rw[<- Av,B3,B3];rfl
 rw[e];exact HK.mpr (HL (λb z=>b (BS z)) h)
theorem ad9(hl:H l=eH (.lst xs))(h:SqT K H b zs):SqT K (upd H l (.lst ys)) b zs:=by
 rcases h with (h|⟨o,h⟩)|h
 . exact .inl (.inl (by rw[fg (λz=>by rw[z,hl] at h;cases h)];exact h))
 . exact .inl (.inr #[o,by rw[fg (λz=>by rw[z,hl] at h;cases h)];exact h])
 exact .inr h
theorem adq{R:Hp->Prop}(d:Hp)(a:Hp->Prop)(f:b=eK->a d)(e:b=eJ->(∀H',a H'->R H')->A)(c:∀H',a H'->R H'):if b=eJ then A else R d:=by
 cases b with|true=>rw[eQ rfl];exact e rfl c|false=>rw[eP Az];exact c _ (f rfl)
theorem a0i(k:eO)(e:eZ)(j:eO):valV (amK (eH (k,e))) (Sum.inl ((j:eO):eN))=if k=j then eH (.str e) else eI:=by
 unfold amK valV;by_cases c:k=j;rw[eQ c,c];simp
 rw[eP c];simp
 lia
theorem a3o(hl:H l=eH (.dK kv))(h:SqT K H b zs):SqT K (upd H l (.dK a)) b zs:=by
 rcases h with (h|⟨o,h⟩)|h
 . exact .inl (.inl (by rw[fg (λz=>by rw[z,hl] at h;cases h)];exact h))
 . exact .inl (.inr #[o,by rw[fg (λz=>by rw[z,hl] at h;cases h)];exact h])
 exact .inr h
inductive spStateOfS(K:Aa)(C:JA)(vs:eL V)(H:Hp)(Q:VK):Prop
 |mk (p nl da pl hd un fu D:JA)(F P:eS)(L:eT)(ns:eL eO)(zs:eU)(am:eM (eO×eZ))(h0:vs=[.ref p,.ref nl,.ref da])(h1:KnS K C H p pl hd un fu F P L)(h2:NeAt C H p pl hd un fu D ns)(h3:ns.length<=15)(h4:H nl=eH (.lst (zs.map V.str)))(h5:zs.length<=200)(h6:H da=eH (.dK (amK am)))(h7:(∀k e,am=eH (k,e)->Dom zs e/\∀j∈ns,fq F (place (P.getD j []))≠fq F e))(h8:(∀r∈P,PartRow r))(h9:(∀j∈ns,j<P.length))(h10:ns.Nodup)(h11:(∀j∈ns,Dom zs (place (P.getD j []))/\((P.getD j []).getD 0 ""="stretch" -> Dom zs ((P.getD j []).getD 2 ""))))(h12:(∀i∈ns,∀j∈ns,i≠j->fq F (place (P.getD i []))≠fq F (place (P.getD j []))))(h13:∀t d h kv hp H',Same H H'->H d=eI->H h=eI->d≠h->H' t=eH (.tup [.ref d,.ref h])->NumOk (fq F) zs kv->kv=(numS (fq F) zs).1->H' d=eH (.dK (li kv (Sum.inr "nil")))->H' h=eH (.dK (hv hp))->CellsAt K H' hp (ib kv ((zs.length:eN)+1) am P ns)->Q (.ref t) H'):spStateOfS K C vs H Q
def yb(K:Aa)(C:JA):Sp:=λvs H Q _=>spStateOfS K C vs H Q
theorem a46(Cn:Con K mg w)(T:Txt K mg C fI)(F:Fun K "state_of" "state_of" a0v f fd)(GN:FnOk P w K mg base CX0 2 gN dN eD (wu C))(cN:eB GN "numbered")(GO:FnOk P w K mg base CX0 1 gO dO eE (yu K))(cO:eB GO "cells_of"):FnOk P w K mg base CX0 3 f fd ["knowledge","names","amid"] (yb K C):=by
 refine F.okA ["knowledge","names","amid","values","beside","heap","number","spares"] λaX A outer s0 H vs Q E hr h nd=>?_;let(p,nl,da,pl,hd,un,fu,D,Fs,B,L,ns,zs,am,rfl,hK,hN,aW,af,hz,hA,J,aL,aH,ah,m,an,q):=h;let X:=ir hr;let aU:=hr.mono (j:=1) (by lia);exists _,fe (gd 3 nd (gx GN hr cN (fh (qv 0) (fh (qv 1) ad))))
  (fe (gd 4 nd (gc jb (gr j0 rfl Cn.len Bs (fh (qv 1) ad)) fc))
  (fe (gd 5 nd ma)
  (fe (ip A7 rfl (i9 (gh (K:=K) rfl (qv 0))) (j2 6 nd) (fe (gd 7 nd (iu (l8 (gc jb (gc jb (qv 4) (gc me fc (qv 6))) fc) (l8 (gc jb (gc jb (qv 4) (gc me fc (qv 6))) fc) ad))))
  (fe (gg (t0 X (qv 6) (qv 2)) (ff (a5q (im X (qv 3) (im X (qv 2) (qv 6) (λ_ _=>rfl)) (λ_ _=>rfl)) (afe (qv 7) fc a8p))) ge)
  (ff (il (acb (qv 5) (gx GO aU cO (fx (i7 K (gh (K:=K) rfl (qv 0)) (qv 6)) (fh (qv 3) (fh (qv 7) (fh (qv 4) ad)))))))))))
  (fe (il (aa7 (qv 3) gt))
  (ff (fm (i3 (fh (qv 3) (fh (qv 5) ad)))))))))
 nofun
 let((hm,uk,aA,aB,hU),Z,aZ):=id hK;refine#[_,eY,_,eY,p,nl,pl,hd,un,fu,hm,uk,zs,fq Fs,eY,aA,aB,af,hz,λd kv H1 ap e1 ak hok aR=>?_];let aT:((zs.map V.str).length:eN)=(zs.length:eN):=by rw[Ad]
 exists _,eY,nl,_,eY,.inl (SqL.of (e1 _ _ af)),_,_,eY,rfl;rw[aT];obtain⟨bs,ai⟩:∃bs:eN,(zs.length:eN)+1=bs:=#[_,eY]
 rw[ai] at q;show iq 4 (V.int ((zs.length:eN)+1)) _ H1 _;rw[ai];intro h hh;let aa:d≠h:=gb ak hh;let az:H h=eI:=e1.free hh;let s2:=fi hh (.dK []);let e2:=e1.trans s2;let au:(upd H1 h (.dK [])) d=eH (.dK kv):=s2 _ _ ak;let ar:(upd H1 h (.dK [])) h=eH (.dK (hv [])):=fb;generalize upd H1 h (.dK [])=H2 at e2 au ar |-;let aN:IntsAt kv:=λx=>by
  cases hz:valV kv (Sum.inr x) with
  |none=>exact .inl rfl
  |some v =>
   let(y,h1,h2):=hok.no (Sum.inr x) (by rw[hz];rfl);cases Ca h1;let:=hok.at_ x h2;unfold vI;rw[<- hz];exact .inr this
 let ac:∀x,Dom zs x->vI kv x<bs:=λx R=>by let:=(hok.lt x R).2;unfold vI;lia
 let aq:∀x y,Dom zs x->Dom zs y->fq Fs x≠fq Fs y->vI kv x≠vI kv y:=λx y R W hh z=>hh (by
  let h1:=hok.at_ _ R;let h2:=hok.at_ _ W;refine(hok.inj _ _ R W).mp ?_;rw[h1,h2];unfold vI at z;rw[z])
 let r:Places kv bs am B ns:=#[λk e he=>#[ac _ (J k e he).1,λj G=>aq _ _ (m j G).1 (J k e he).1 ((J k e he).2 j G)],ah,λj G=>ac _ (m j G).1,λi hi j G aG z=>an i hi j G aG (by
  let h1:=hok.at_ _ (m i hi).1;let h2:=hok.at_ _ (m j G).1;refine(hok.inj _ _ (m i hi).1 (m j G).1).mp ?_;rw[h1,h2];unfold vI at z;rw[z])]
 let((dx,fs,h1,h2,aK),hD):=id hN;exists _,eY,p,C,dx,fs,.ref D,eY,e2 _ _ h1,T.cl,T.nE,aK,D,eY,#[_,SqL.of (e2 _ _ hD)];refine j5 (xs:=ns.map natV) (λi σ I=>Same H I/\I d=eH (.dK kv)/\∃hp z6 z7,I h=eH (.dK (hv hp))/\CellsAt K I hp (ib kv bs am B (ns.take i))/\σ=[rQ p,rQ nl,rQ da,rQ d,iQ bs,rQ h,z6,z7])
  #[e2,au,[],eI,eI,ar,.nil,eY] (λi σ I _ pv=>SqL.of (pv.1 _ _ hD)) ?_ ?_
 . rintro i x σ I R ⟨e3,u,hp,z6,z7,U,O,rfl⟩
   nofun
   let ab:i<ns.length:=by let:=(An.mp R).1;rw[Ad] at this;exact this
   obtain rfl:x=.int ((ns[i]:eO):eN):=by
    rw[Ar,Ag ab] at R;exact(Am R).symm
   let M:=AM ab;let ax:=aH _ M;let hs:B[ns[i]]?=eH B[ns[i]]:=Ag ax;let hg:B.getD ns[i] []=B[ns[i]]:=by rw[Ay,hs];rfl
   let et:ns.take (i+1)=ns.take i++[ns[i]]:=by rw[AJ,Ag ab];rfl
   refine#[_,eY,_,eY,_,_,eY,eY,.inl (by decide),_,_,eY,eY,_,_,eY,eY,_,eY,_,eY,_,_,eY,eY,.inl (by decide),_,_,eY,eY,_,_,eY,eY,eV,λS al=>?_];let s4:=fi al (.lst [.int (bs+2*((ns[i]:eO):eN)+1),.int (bs+2*((ns[i]:eO):eN)+2)]);let s:=e3.trans s4;let l:=s4 _ _ u;let g:=s4 _ _ U;let n:(upd I S (.lst [.int (bs+2*((ns[i]:eO):eN)+1),.int (bs+2*((ns[i]:eO):eN)+2)])) S=eH (.lst [.int (bs+2*((ns[i]:eO):eN)+1),.int (bs+2*((ns[i]:eO):eN)+2)]):=fb;let o:=O.same s4;clear u U O;generalize upd I S (.lst [.int (bs+2*((ns[i]:eO):eN)+1),.int (bs+2*((ns[i]:eO):eN)+2)])=H4 at s l g n o |-;let gA:=DGet.k (k:=Sum.inl ((ns[i]:eO):eN)) (s _ _ hA);let ay:∀x,Dom zs x->(valV kv (Sum.inr x)).isSome=eJ:=λx R=>by rw[hok.at_ x R];rfl
   let aV:h≠S:=j1 g n (λz=>nomatch z);let hds:d≠S:=j1 l n (λz=>nomatch z);let av:H S=eI:=e3.free al;refine#[_,eY,_,eY,da,_,eY,gA,_,eY,adq H4 (λH'=>Same H H'/\H' d=eH (.dK kv)/\H' h=eH (.dK (hv hp))/\H' S=eH (.lst [.int (s0F kv bs am ns[i]),.int (bs+2*((ns[i]:eO):eN)+2)])/\CellsAt K H' hp (ib kv bs am B (ns.take i))) (λhn=>?_) (λW hR=>?_) λaF aC=>?_];refine#[s,l,g,?_,o];rcases qp kv bs am ns[i] with z|⟨e,h1,_⟩;rw[z];exact n;rw[h1,a0i,eQ rfl] at hn;cases hn
   . rcases qp kv bs am ns[i] with z|⟨e,h1,z⟩
     . exfalso;cases am with
       |none=>cases W
       |some pe =>
        let(k,e):=pe;rw[a0i] at W;by_cases c:k=ns[i]
        . let z2:s0F kv bs (eH (k,e)) ns[i]=vI kv e:=eQ c;let z3:=ac _ (J k e rfl).1
          lia
        rw[eP c] at W;cases W
     let(de,_):=J _ _ h1;let aw:=gA;rw[h1,a0i,eQ rfl] at aw;let gV:=DGet.k (k:=Sum.inr e) l;rw[hok.at_ e de] at gV;exists _,eY,_,eY,_,eY,da,_,eY,aw,d,_,eY,gV,_,eY,S,_,0,0,eY,eY,n,rfl;refine hR _ #[ia av s _,by rw[fg hds];exact l,by rw[fg aV];exact g,by rw[z];exact fb,?_];exact Paired.mapP o λa c y=>#[y.1,ad9 n y.2]
   clear l g n o s;let(s,l,g,n,o):=aC;clear gA;revert s l g n o;generalize aF=H4;intro s l g n o;let aO:=qp kv bs am ns[i];let aY:s0F kv bs am ns[i]≠vI kv (place B[ns[i]])/\(s0F kv bs am ns[i]=bs+2*((ns[i]:eO):eN)+1\/s0F kv bs am ns[i]<bs):=by
    let aD:=r.lt _ M;rw[hg] at aD;rcases aO with z|⟨e,h1,z⟩;rw[z];exact#[by lia,.inl rfl];let(a1,a2):=r.am _ _ h1;let:=a2 _ M;rw[hg] at this;rw[z];exact#[λy=>this y.symm,.inr a1]
   let(a0,b5,ag,aj,aS):=l9 (Z.same s) hs;let Y:=m _ M;let ao:=r.lt _ M;rw[hg] at Y ao;refine#[_,eY,h,eY,.inl #[_,.inl g],_,eY,p,C,dx,fs,.ref pl,eY,s _ _ h1,T.cl,T.nP,h2.parts,_,eY,pl,_,_,.ref b5,eY,eY,SqL.of ag,aj,_,eY,_,eY,_,eY,b5,d,S,bs,_,_,_,kv,eY,aS,aL _ (AM ax),l,aN,n,ay _ Y.1,(λz=>ay _ (Y.2 z)),(by lia),(by lia),(by lia),λD5 hq H5 aI e5 aQ aJ=>?_];let aE:j4 kv bs am B ns[i]=ka kv bs (s0F kv bs am ns[i]) (bs+2*((ns[i]:eO):eN)+2) B[ns[i]]:=by unfold j4;rw[hg]
   let N:CellsAt K H5 (hp++hq) (ib kv bs am B (ns.take (i+1))):=by
    rw[et,a4l,aE];exact Paired.app (o.same e5) aJ
   let ae:((hp++hq).map (·.1)).Nodup:=by
    rw[N.keys];exact la #[λk e he=>#[(r.am k e he).1,λj G=>(r.am k e he).2 j (Bw G)],Dc (Fk _ _) ah,λj G=>r.lt j (Bw G),λa ha b hb=>r.ne a (Bw ha) b (Bw hb)]
   let aP:(hv hp).length+(hv hq).length<=1000:=by
    let z1:=A4 N;let z2:=sd kv bs am B (ns.take (i+1));let z3:(ns.take (i+1)).length<=15:=by rw[AL];lia
    unfold hv;rw[Ad,Ad];rw[Ai] at z1
    lia
   let aM:h≠D5:=gb g aI;exists D5,_,_,eY,e5 _ _ g,aQ,aM,B6 (jy aP);rw[a8t ae];refine#[ia az (s.trans e5) _,by rw[fg aa];exact e5 _ _ l,_,_,_,fb,?_,eY];exact Paired.mapP N λa c z=>#[z.1,a3o (e5 _ _ g) z.2]
 rintro σ I ⟨e3,u,hp,z6,z7,U,O,rfl⟩;rw[Ad,AN] at O;exists _,eY,d,eY,.inl #[_,.inl u],kv,Sum.inr "nil",.int 0,u,eY,hok.nil;refine#[_,eY,_,eY,eV,λt ht=>?_];let g:(upd I d (.dK (li kv (Sum.inr "nil")))) h=eH (.dK (hv hp)):=by rw[fg (AF aa)];exact U
 let s:Same H (upd I d (.dK (li kv (Sum.inr "nil")))):=ia ap e3 _;let o:CellsAt K (upd I d (.dK (li kv (Sum.inr "nil")))) hp (ib kv bs am B ns):=Paired.mapP O λa c z=>#[z.1,a3o u z.2]
 let s5:=fi ht (.tup [.ref d,.ref h]);exact q t d h kv hp _ (s.trans s5) ap az aa fb hok aR (s5 _ _ fb) (s5 _ _ g) (o.same s5)
end K34
namespace Fol
open L2 Kn
structure Says(M:Mm)(v:eZ->eN)(ne:eL eO)(F:eS):Prop where
 is_:∀a b,[("is":eZ),a,b]∈F->v a=v b
 not_:∀a b,[("not":eZ),a,b]∈F->v a≠v b
 emp:∀(j:eO) r,M.P[j]?=eH r->¬ j∈ne->¬ r.getD 0 ""="cell" /\ v (place r)=v (end2 r)
def exN(M:Mm)(v:eZ->eN)(ne:eL eO)(s0 s1:eO->eN)(j:eO):eL eN:=if j∈ne then exD v s0 s1 j (M.P.getD j []) else []
theorem qj(a:j∈ne)(b:M.P[j]?=eH r):exN M v ne s0 s1 j=exD v s0 s1 j r:=by unfold exN;rw[eQ a,some_getD b]
theorem xq(a:¬ j∈ne):exN M v ne s0 s1 j=[]:=by unfold exN;rw[eP a]
theorem a7k(x:eZ):x="any" \/ v x=val v bs x:=by
 unfold val;by_cases c:x="any";exact .inl c;rw[eP c];exact .inr rfl
theorem aaq(b:v "nil"=0)(c:PartD Dm r)(h:¬ r.getD 0 ""="cell" /\ v (place r)=v (end2 r)):Tk v m r []:=by
 cases c with
 |cell=>exact eR rfl h.1
 | @str a e _ _ =>
  let:v a=v e:=by let:=h.2;rw[end2_str] at this;exact this
  exact .str (this ▸ .nil)
 | @tree a _ =>
  let:v a=0:=by let:=h.2;rw[a7b,b] at this;exact this
  exact .tree (this ▸ .nil)
theorem Ex.fits(X:Ex M v m bs ne s0 s1 Dm)(Y:Says M v ne F):Fits v m F M.P (exN M v ne s0 s1):=by
 refine#[Y.is_,Y.not_,λj r d=>?_,λi j r s d k hn x h z=>?_,λx c h=>?_]
 . let hd:=X.row j r d;by_cases b:j∈ne
   . rw[qj b d];let g0:=X.g0 j;let g1:=X.g1 j;cases hd with
     | @cell a f s ha hf k=>exact .cell (X.cell j b a f s d) (a7k f) (a7k s)
     | @str a e ha he =>
      let(h1,h2):=X.str j b a e d;let t:=X.rng _ ha;let u:=X.rng _ he;let l:v a≠v e:=by let:=X.emp j b _ d (by show ¬ ("stretch":eZ)="cell";decide);rw[end2_str] at this;exact this
      refine .str (.cons l h1 (λz=>?_) (.cons (by lia) h2 As .nil));let:=Ae.mp z
      lia
     | @tree a ha =>
      let(h1,h2,h3):=X.tree j b a d;let t:=X.rng _ ha;let p:v a≠0:=X.pl0 j b _ d;let g:∀{y:eN},bs<y->m y=eH (0,0)->Tr m y [y]:=λ{y} n hm=>.node (r1:=[]) (r2:=[]) (by let:=X.rng _ X.dnil;lia) hm .nil .nil As As (λz hz=>by cases hz);let:=Tr.node p h1 (g g0 h2) (g g1 h3) (λz=>by let:=Ae.mp z;lia) (λz=>by let:=Ae.mp z;lia) (λy n z=>by let q:=Ae.mp n;let o:=Ae.mp z;exact X.i2 j j (q.symm.trans o));exact .tree this
   rw[xq b];exact aaq X.nil hd (Y.emp j r d b)
 . by_cases hi:i∈ne;by_cases b:j∈ne;rw[qj hi d] at h;rw[qj b k] at z;exact X.disj hi d b k hn x h z;rw[xq b] at z;cases z
   rw[xq hi] at h;cases h
 let(j,b,r,d,hm):=X.only x c h;exact#[j,r,d,by rw[qj b d];exact hm]
theorem Ex.fits2(X:Ex M v m bs ne s0 s1 Dm)(Y:Says M v ne F)(u:d∈ne)(f:M.P[d]?=eH [("stretch":eZ),p,q])(Q:Dm e)(h1:v q≠v e)(h2:v p≠v e)(h3:v e≠0)(U:M.num e=eI)(C:Moved v m w bs (s0 d) p q e):Fits v w F M.P (λj=>if j=d then [v p,v e] else exN M v ne s0 s1 j):=by
 let B:=X.fits Y;let hn:m (v e)=eI:=by
  cases hz:m (v e) with
  |none=>rfl
  |some c =>
   let(_,_,_,_,_,z):=X.at_ Q hz;rw[U] at z;cases z
 let g0:=X.g0 d;let W:=X.rng _ Q;let R:=X.row d _ f;obtain⟨dp,dq⟩:Dm p/\Dm q:=by
  generalize k:[("stretch":eZ),p,q]=r at R;cases R with|cell=>cases k|str a b=>cases k;exact#[a,b]|tree=>cases k
 let Z:=X.rng _ dp;let I:v p≠v q:=by let:=X.emp d u _ f (by show ¬ ("stretch":eZ)="cell";decide);rw[end2_str] at this;exact this
 let off:∀(j:eO) r,M.P[j]?=eH r->j≠d->∀x∈exN M v ne s0 s1 j,x≠v p/\x≠v e/\x≠s0 d:=λj r k S x l=>by
  let ap:∀y∈exD v s0 s1 d [("stretch":eZ),p,q],x≠y:=λy o z=>B.apart j d r _ k f S x l (by rw[qj u f,z];exact o);refine#[ap _ (Af ..),λz=>?_,ap _ (Ah _ (Af ..))];let(c,N):=(B.tk j r k).dom x l;rw[z,hn] at N;cases N
 let A:∀{e x:eN} {row:eL eN},Seg m e x row->(∀y∈row,w y=m y)->Seg w e x row:=λ{e x row} h=>by
  induction h with|nil=>intro _;exact .nil|cons a b c _ ih=>intro t;exact .cons a ((t _ (Af ..)).trans b) c (ih λy o=>t y (Ah _ o))
 let H:∀{x:eN} {row:eL eN},Tr m x row->(∀y∈row,w y=m y)->Tr w x row:=λ{x row} h=>by
  induction h with|nil=>intro _;exact .nil|node a b _ _ n1 n2 n3 i1 i2=>intro t;exact .node a ((t _ (Af ..)).trans b) (i1 λy o=>t y (Ah _ (Ab.mpr (.inl o)))) (i2 λy o=>t y (Ah _ (Ab.mpr (.inr o)))) n1 n2 n3
 refine#[Y.is_,Y.not_,λj r k=>?_,λi j r s k t D x l z=>?_,λx c l=>?_]
 . by_cases n:j=d;subst n;rw[eQ rfl];rw[f] at k;cases k;exact .str (.cons I C.h1 (λz=>h2 (Ae.mp z)) (.cons (AF h1) C.h2 As .nil))
   . rw[eP n];let T:=B.tk j r k;let sm:∀y∈exN M v ne s0 s1 j,w y=m y:=λy o=>by
      let(a,b,c):=off j r k n y o;exact C.same y a b c
     generalize exN M v ne s0 s1 j=row at T sm;cases T with|cell g gf gs=>exact .cell ((sm _ (Af ..)).trans g) gf gs|str g=>exact .str (A g sm)|tree g=>exact .tree (H g sm)
 . by_cases G:i=d;let n:j≠d:=λz=>D (G.trans z.symm);rw[eQ G] at l;rw[eP n] at z;let(a,b,_):=off j s t n x z;simp only[Ak,As,fH] at l;exact l.elim a b;rw[eP G] at l;by_cases n:j=d;rw[eQ n] at z;let(a,b,_):=off i r k G x l;simp only[Ak,As,fH] at z;exact z.elim a b;rw[eP n] at z;exact B.apart i j r s k t D x l z
 by_cases L:x=v p;exact#[d,_,f,by rw[eQ rfl,L];exact Af ..]
 by_cases O:x=v e;exact#[d,_,f,by rw[eQ rfl,O];exact Ah _ (Af ..)]
 by_cases J:x=s0 d;rw[J,C.h3] at l;cases l
 rw[C.same x L O J] at l;let(j,r,k,hm):=B.whole x c l;by_cases n:j=d;rw[n,qj u f] at hm;let E:x∈[_,_]:=hm;simp only[Ak,As,fH] at E;exact eR E (λz=>z.elim L J);exact#[j,r,k,by rw[eP n];exact hm]
end Fol
namespace Fol
open L2 Kn
def goS(m:Mem)(e:eN):eO->eN->eL eN->eM (eL eN)
 |0,_,_=>eI
 |n+1,p,tk=>if p=e then eH tk else if p∈tk then eI else match m p with
  |none=>eI
  |some c=>goS m e n c.2 (tk++[p])
def goT(m:Mem):eO->eL eN->eL eN->eM (eL eN)
 |0,_,_=>eI
 |_+1,[],tk=>eH tk
 |n+1,p::co,tk=>if p=0 then goT m n co tk else if p∈tk then eI else match m p with
  |none=>eI
  |some c=>goT m n (c.1::c.2::co) (tk++[p])
section
variable{m:Mem} in
theorem yt{e:eN}:∀{n:eO}{p:eN}{tk r:eL eN},goS m e n p tk=eH r->∃row,r=tk++row/\Seg m e p row/\∀y∈row,¬ y∈tk
 |0,_,_,_,h=>by cases h
 |n+1,p,tk,r,h=>by
  unfold goS at h;split at h;rename_i c;cases h;exact#[[],by rw[A0],c ▸ .nil,λy a=>by cases a]
  rename_i c;split at h;cases h
  rename_i hn;split at h;cases h
  rename_i d g;let(row,rfl,b,hd):=yt h;let(f,s):=d;refine#[p::row,by rw[A5];rfl,.cons c g (λz=>hd p z (Ab.mpr (.inr (Ae.mpr rfl)))) b,λy a=>?_];rcases Ak.mp a with rfl|a;exact hn;exact λz=>hd y a (Ab.mpr (.inl z))
theorem aa1(h:Seg m e p row):∀{n:eO}{tk:eL eN},row.length<n->(∀y∈row,¬ y∈tk)->goS m e n p tk=eH (tk++row):=by
 induction h with
 |nil =>
  intro n tk hn _;cases n with|zero=>cases hn|succ n=>unfold goS;rw[eQ rfl,A0]
 | @cons x f s row h1 h2 h3 h4 ih =>
  intro n tk hn hd;cases n with
  |zero=>cases hn
  |succ n =>
   unfold goS;rw[eP h1,eP (hd x (Af ..)),h2];show goS m e n s (tk++[x])=_;rw[ih (by rw[Aw] at hn;lia) (λy a z=>?_),A5];rfl
   rcases Ab.mp z with z|z;exact hd y (Ah _ a) z;rw[Ae.mp z] at a;exact h3 a
variable{m:Mem} in
variable{m:Mem} in
theorem u3:∀{n:eO}{co tk r:eL eN},goT m n co tk=eH r->∃row,r=tk++row/\Forest m co row/\∀y∈row,¬ y∈tk
 |0,_,_,_,h=>by cases h
 |n+1,[],tk,r,h=>by cases h;exact#[[],by rw[A0],.nil,λy a=>by cases a]
 |n+1,p::co,tk,r,h=>by
  unfold goT at h;split at h;rename_i c;let(row,e,F,d):=u3 h;subst c;exact#[row,e,.cons .nil F (λy a=>by cases a),d]
  rename_i c;split at h;cases h
  rename_i hn;split at h;cases h
  rename_i i k;let(row,rfl,F,hd):=u3 h;let(f,s):=i;let(r1,v,rfl,u,q,g):=jv F;let(r2,R2,rfl,o,l,j):=jv q;let b:∀y∈r1++(r2++R2),y≠p:=λy a z=>hd y a (by rw[z];exact Ab.mpr (.inr (Ae.mpr rfl)));let t:Tr m p (p::(r1++r2)):=.node c k u o (λz=>b p (Ab.mpr (.inl z)) rfl) (λz=>b p (Ab.mpr (.inr (Ab.mpr (.inl z)))) rfl) (λy a z=>g y a (Ab.mpr (.inl z)));refine#[(p::(r1++r2))++R2,by simp,.cons t l (λy a z=>?_),λy a z=>?_];rcases Ak.mp a with rfl|a;exact b _ (Ab.mpr (.inr (Ab.mpr (.inr z)))) rfl;rcases Ab.mp a with a|a;exact g y a (Ab.mpr (.inr z));exact j y a z
  rcases Ak.mp (show y∈p::((r1++r2)++R2) from a) with rfl|a;exact hn z;exact hd y (by rw[<- A5];exact a) (Ab.mpr (.inl z))
variable{m:Mem} in
theorem vj:∀{n:eO}{co tk row:eL eN},Forest m co row->2*row.length+co.length<n->(∀y∈row,¬ y∈tk)->goT m n co tk=eH (tk++row)
 |0,_,_,_,_,hn,_=>by lia
 |n+1,[],tk,row,h,_,_=>by cases h;unfold goT;rw[A0]
 |n+1,p::co,tk,row,h,hn,hd=>by
  let(r1,r2,rfl,t,F,d):=jv h;rw[Aw] at hn;unfold goT;by_cases c:p=0;rw[eQ c];let:=qu t c;subst this;exact vj F (by rw[De] at hn;rw[De];lia) (λy a=>hd y a)
  rw[eP c];let b:=(h:Forest m (p::co) (r1++r2)).nodup;let(f,s,j,g,rfl,h2,o,k,i):=qb t c;rw[eP (hd p (Ab.mpr (.inl (Af ..)))),h2];show goT m n (f::s::co) (tk++[p])=_;let l:Forest m (f::s::co) (j++(g++r2)):=.cons o (.cons k F λy a=>d y (Ah _ (Ab.mpr (.inr a)))) λy a z=>by
   rcases Ab.mp z with z|z;exact i y a z;exact d y (Ah _ (Ab.mpr (.inl a))) z
  let e:(p::(j++g))++r2=p::(j++(g++r2)):=by simp
  rw[e] at hn hd b;rw[vj l (by simp only[Aw] at hn |-;lia) (λy a z=>?_),e];simp
  rcases Ab.mp z with z|z;exact hd y (Ah _ a) z;rw[Ae.mp z] at a;exact(AI.mp b).1 a
def Many(m:Mem)(n:eO):Prop:=∀l:eL eN,l.Nodup->(∀y∈l,∃c,m y=eH c)->l.length<=n
theorem goS_iff(hm:Many m n):goS m e (n+1) p []=eH r↔Seg m e p r:=by
 constructor;intro h;let(row,a,h1,_):=yt h;rw[De] at a;subst a;exact h1;intro h;let:=hm r h.nodup h.dom;rw[aa1 h (by lia) (λy _=>As),De]
theorem goT_iff(hm:Many m n):goT m (2*n+2) [p] []=eH r↔Tr m p r:=by
 constructor;intro h;let(row,c,F,_):=u3 h;rw[De] at c;subst c;let(a,b,rfl,t,d,_):=jv F;cases d;rw[A0];exact t
 intro h;let:=hm r h.nodup h.dom;let F:Forest m [p] r:=by
  let:=Forest.cons h (Forest.nil (m:=m)) (λy e z=>by cases z);rw[A0] at this;exact this
 rw[vj F (by show 2*r.length+1<_;lia) (λy _=>As),De]
end
theorem a2u:∀{rows:eL (eL eN)},rows.flatten.Nodup->rows.Pairwise (λa b=>∀x,x∈a->x∈b->False)
 |[],_=>.nil
 |r::rs,h=>by
  let h':(r++rs.flatten).Nodup:=h;let(h1,h2,h3):=AE.mp h';exact .cons (λb d x e c=>h3 x e x (Bt.mpr #[b,d,c]) rfl) (a2u h2)
theorem fits_list{rows:eL (eL eN)}(hm:Many m n)(F:∃l:eL eN,l.Nodup/\l.length=n/\∀y,(∃c,m y=eH c)↔y∈l)(hi:∀a b,[("is":eZ),a,b]∈G->v a=v b)(hn:∀a b,[("not":eZ),a,b]∈G->v a≠v b)(hl:rows.length=S.length)(B:∀(j:eO) r row,S[j]?=eH r->rows[j]?=eH row->Tk v m r row)(hd:rows.flatten.Nodup)(T:rows.flatten.length=n):Fits v m G S (λj=>rows.getD j []):=by
 let p:∀{j:eO} {r:eU},S[j]?=eH r->∃row,rows[j]?=eH row/\rows.getD j []=row:=λ{j r} h=>by
  let:j<rows.length:=by rw[hl];exact(An.mp h).1
  exact#[rows[j],Ag this,by rw[Ay,Ag this];rfl]
 let dom:∀y∈rows.flatten,∃c,m y=eH c:=λy d=>by
  let(row,e,d):=Bt.mp d;let(j,o):=BB e;let f:j<S.length:=by rw[<- hl];exact(An.mp o).1
  exact(B j S[j] row (Ag f) o).dom y d
 refine#[hi,hn,λj r e=>?_,λi j r s e q g x k z=>?_,λx c k=>?_];let(row,h1,h2):=p e;show Tk v m r (rows.getD j []);rw[h2];exact B j r row e h1
 . let(r1,h1,h2):=p e;let(r2,h3,L):=p q;simp only[h2] at k;simp only[L] at z;let O:=a2u hd;let key:∀(i j:eO) a b,i<j->rows[i]?=eH a->rows[j]?=eH b->x∈a->x∈b->False:=λi j a b g M I u w=>by
    let(N,P):=An.mp M;let(H,E):=An.mp I;let:=List.pairwise_iff_getElem.mp O i j N H g;rw[P,E] at this;exact this x u w
   rcases Fb g with c|c;exact key i j r1 r2 c h1 h3 k z;exact key j i r2 r1 c h3 h1 z k
 let(l,R,Q,D):=F;let C:∀y∈rows.flatten,y∈l:=λy d=>(D y).mp (dom y d);let J:=(D x).mp #[c,k];let:x∈rows.flatten:=by
  by_cases A:x∈rows.flatten;exact A
  let h2:(x::rows.flatten).Nodup:=AI.mpr #[A,hd];let:=hm (x::rows.flatten) h2 (λy d=>by
   rcases Ak.mp d with rfl|d;exact#[c,k]
   exact dom y d)
  rw[Aw] at this
  lia
 let(row,e,t):=Bt.mp this;let(j,o):=BB e;let f:j<S.length:=by rw[<- hl];exact(An.mp o).1
 exact#[j,S[j],Ag f,by rw[Ay,o];exact t]
end Fol
namespace K34.Cv
open L2 Mir Kn
theorem nd_lenG{α:Type}[DecidableEq α]:∀{l m:eL α},l.Nodup->(∀x∈l,x∈m)->l.length<=m.length
 |[],_,_,_=>AC _
 |x::l,m,hn,hm=>by
  let d:=hm x (Af ..);let(h1,h2):=AI.mp hn;let:=nd_lenG (l:=l) (m:=m.erase x) h2 λy c=>(ED (a:=y) (b:=x) (λe=>h1 (by rw[<- e];exact c))).mpr (hm y (Ah _ c));rw[DU d] at this;let hp:0<m.length:=Df d;rw[Aw]
  lia
section
variable{cs:i4} in
theorem a0e(e:eN):∀(n:eO) (p:eN) (tk:eL eN),pw cs e n p tk=Fol.goS (atc cs) e n p tk
 |0,_,_=>rfl
 |n+1,p,tk=>by
  unfold pw Fol.goS;cases atc cs p with|none=>rfl|some c=>simp only[a0e e n]
variable{cs:i4} in
theorem sh:∀(n:eO) (co tk:eL eN),md cs n co tk=Fol.goT (atc cs) n co tk
 |0,_,_=>rfl
 |n+1,[],tk=>rfl
 |n+1,p::co,tk=>by
  unfold md Fol.goT;cases atc cs p with|none=>simp only[sh n]|some c=>simp only[sh n]
theorem atc_dom:(∃c,atc cs x=eH c)↔x∈cs.map (·.1):=by
 constructor;rintro⟨c,h⟩;exact atc_mem (by rw[h];rfl)
 intro h;let(c,a,rfl):=Au.mp h;unfold atc;cases hf:cs.find? (λd=>decide (d.1=c.1)) with|some d=>exact#[d.2,eY]|none=>exact eR (Ci.mp hf c a) (by simp)
theorem atc_many:Fol.Many (atc cs) cs.length:=λl hl hd=>by
 let:=nd_lenG hl λx a=>atc_dom.mp (hd x a);rw[Ad] at this;exact this
theorem a6f(i:PartRow r)(row:eL eN):mf m cs r=eH row↔Fol.Tk (num m) (atc cs) r row:=by
 rcases i with⟨a,f,s,rfl⟩|⟨a,b,rfl⟩|⟨a,rfl⟩
 . show o4 m cs a f s=eH row↔_;unfold o4;cases hz:atc cs (num m a) with
   |none =>
    refine#[λh=>(by cases h),λh=>?_];cases h with|cell h _ _=>rw[hz] at h;cases h
   |some c =>
    show(if mayB m f c.1=eJ/\mayB m s c.2=eJ then eH [num m a] else eI)=eH row↔_;let g:∀x n,mayB m x n=eJ↔x="any" \/ num m x=n:=λx n=>by unfold mayB;simp
    by_cases d:mayB m f c.1=eJ/\mayB m s c.2=eJ
    . rw[eQ d];constructor;intro e;cases e;exact .cell (x:=c.1) (y:=c.2) hz ((g _ _).mp d.1) ((g _ _).mp d.2)
      . intro h;cases h with|cell h _ _=>rfl
    rw[eP d];refine#[λh=>(by cases h),λh=>?_];cases h with
    |cell h h1 h2 =>
     rw[hz] at h;cases h;exact eR #[(g _ _).mpr h1,(g _ _).mpr h2] d
 . show lk cs (num m a) (num m b)=eH row↔_;unfold lk;rw[a0e,Fol.goS_iff atc_many];constructor;intro h;exact .str h
   . intro h;cases h with|str h=>exact h
 show pj cs (num m a)=eH row↔_;unfold pj;rw[sh,Fol.goT_iff atc_many];constructor;intro h;exact .tree h
 intro h;cases h with|tree h=>exact h
theorem allSome_iff:∀{os:eL (eM α)}{as:eL α},jr os=eH as↔os=as.map eH
 |[],[]=>#[λ_=>rfl,λ_=>rfl]
 |[],a::as=>#[λh=>(by cases h),λh=>(by cases h)]
 |none::r,as=>#[λh=>(by cases h),λh=>(by cases as<;>cases h)]
 |some a::r,as=>by
  show(jr r).map (a :: ·)=eH as↔_;cases as with
  |nil=>cases jr r<;>simp
  |cons b bs =>
   let:=allSome_iff (os:=r) (as:=bs);constructor
   . intro h;cases hz:jr r with
     |none=>rw[hz] at h;cases h
     |some cs =>
      rw[hz] at h;let h':a::cs=b::bs:=Am h;cases h';rw[A8,this.mp hz]
   intro h;rw[A8] at h;cases h;rw[this.mpr rfl];rfl
theorem a4v(c:gw r):ky m r=eJ↔(∀a b,r=[("is":eZ),a,b]->num m a=num m b)/\∀a b,r=[("not":eZ),a,b]->num m a≠num m b:=by
 let(k,u,v,rfl,d):=c;show decide (decide (num m u=num m v)=decide (k="is"))=eJ↔_;rcases d with rfl|rfl
 . constructor;intro h;refine#[λa b e=>?_,λa b e=>?_];cases e;simpa using h;cases e
   intro h;simpa using h.1 u v rfl
 rw[show decide (("not":eZ)="is")=eK by decide];constructor;intro h;refine#[λa b e=>?_,λa b e=>?_];cases e;cases e;exact fD (fC h)
 intro h;exact fB (fA (h.2 u v rfl))
theorem fits_rows(hn:(cs.map (·.1)).Nodup)(T:eU->eM (eL eN))(t:∀r∈ps,∀row,T r=eH row↔Fol.Tk v (atc cs) r row):
 (((∀a b,[("is":eZ),a,b]∈fs->v a=v b)/\∀a b,[("not":eZ),a,b]∈fs->v a≠v b)/\∃rows:eL (eL eN),ps.map T=rows.map eH/\rows.flatten.Nodup/\rows.flatten.length=cs.length)↔∃R,Fol.Fits v (atc cs) fs ps R:=by
 constructor
 . rintro⟨⟨A,B⟩,rows,hm,k,h3⟩;refine#[_,Fol.fits_list (n:=cs.length) atc_many #[cs.map (·.1),hn,Ad ..,λy=>atc_dom] A B ?_ ?_ k h3];let:=fE FW hm;rw[Ad,Ad] at this;exact this.symm
   . intro j r row d g;refine(t r (Aq d) row).mp ?_;let u:(ps.map T)[j]?=eH (T r):=by rw[Ar,d];rfl
     let D:(rows.map eH)[j]?=eH (eH row):=by rw[Ar,g];rfl
     rw[hm,D] at u;exact(Am u).symm
 rintro⟨R,h⟩;let hm:ps.map T=((AU ps.length).map R).map eH:=by
  refine HG λj=>?_;rw[Ar,Ar,Ar];cases d:ps[j]? with
  |none =>
   rw[BO (by rw[Bu];exact DG.mp d)];rfl
  |some r =>
   rw[Hi (An.mp d).1];show eH (T r)=eH (eH (R j));rw[(t r (Aq d) (R j)).mpr (h.tk j r d)]
 let mem:∀{j:eO},j∈AU ps.length->∃r,ps[j]?=eH r:=λd=>#[_,Ag (Ba.mp d)]
 let k:(((AU ps.length).map R).flatten).Nodup:=by
  unfold List.Nodup;rw[List.pairwise_flatten];exists λl hl=>?_;let(j,d,rfl):=Au.mp hl;let(r,f):=mem d;exact(h.tk j r f).nodup;rw[List.pairwise_map];refine List.Pairwise.imp_of_mem (λ{i j} hi d p=>?_) (List.pairwise_lt_range (n:=ps.length));intro x o y e z;let(r,f):=mem hi;let(s,C):=mem d;exact h.apart i j r s f C (AA p) x o (z ▸ e)
 refine#[#[h.is_,h.not_],_,hm,k,Nat.le_antisymm (atc_many _ k λy e=>?_) ?_];let(l,hl,e):=Bt.mp e;let(j,d,rfl):=Au.mp hl;let(r,f):=mem d;exact(h.tk j r f).dom y e
 let:=nd_lenG hn (m:=((AU ps.length).map R).flatten) λx o=>by
  let(c,w):=atc_dom.mpr o;let(j,r,d,q):=h.whole x c w;exact Bt.mpr #[R j,Au.mpr #[j,Ba.mpr (An.mp d).1,eY],q]
 rw[Ad] at this;exact this
theorem facts_iff{v:eZ->eN}{fs:eS}(d:∀r∈fs,gw r){T:eU->fJ}(f:∀r,gw r->(T r=eJ↔(∀a b,r=[("is":eZ),a,b]->v a=v b)/\∀a b,r=[("not":eZ),a,b]->v a≠v b)):(∀r∈fs,T r=eJ)↔(∀a b,[("is":eZ),a,b]∈fs->v a=v b)/\∀a b,[("not":eZ),a,b]∈fs->v a≠v b:=by
 constructor;intro h;exact#[λa b c=>((f _ (d _ c)).mp (h _ c)).1 a b rfl,λa b c=>((f _ (d _ c)).mp (h _ c)).2 a b rfl];rintro⟨h1,h2⟩ r g;exact(f r (d r g)).mpr #[λa b e=>h1 a b (e ▸ g),λa b e=>h2 a b (e ▸ g)]
theorem fitsB_iff(hn:(cs.map (·.1)).Nodup)(i:∀r∈fs,gw r)(hp:∀r∈ps,PartRow r):fitsB m cs fs ps=eJ↔∃R,Fol.Fits (num m) (atc cs) fs ps R:=by
 rw[<- fits_rows hn (mf m cs) λr g row=>a6f (hp r g) row,<- facts_iff i λr g=>a4v (m:=m) g,<- Bm];let d:∀rows:eL (eL eN),(rows.map (·.length)).sum=rows.flatten.length:=λrows=>by rw[List.length_flatten]
 unfold fitsB lx;by_cases f:fs.all (ky m)=eJ
 . rw[eQ f];cases hz:jr (ps.map (mf m cs)) with
   |none =>
    exists λh=>(by cases h);rintro⟨_,rows,hm,_⟩;rw[allSome_iff.mpr hm] at hz;cases hz
   |some rows =>
    let hm:=allSome_iff.mp hz;simp only;by_cases e:rows.flatten.Nodup;rw[eQ e];show decide _=eJ↔_;rw[decide_eq_true_iff,d];constructor;intro h;exact#[f,rows,hm,e,h];rintro⟨_,b,a,_,h⟩;rw[hm] at a;rw[(Da (λ_ _ z=>Am z)).mp a];exact h
    rw[eP e];exists λh=>(by cases h);rintro⟨_,b,a,c,_⟩;rw[hm] at a;rw[(Da (λ_ _ z=>Am z)).mp a] at e;exact eR c e
 rw[eP f];exact#[λh=>(by cases h),λh=>eR h.1 f]
end
end K34.Cv
namespace K34
open L2 Mir Kn
theorem r8:gk=Cv.atc:=rfl
section
variable{cs:i4} in
theorem abr{e:eN}{stop:eN->Prop}(g:∀x,stop x↔x=e):∀{n:eO}{x:eN}{tk:eL eN},tk.Nodup->(∀y∈tk,∃c,gk cs y=eH c)->cs.length<n+tk.length->Walk cs stop eJ n [x] tk (Fol.goS (gk cs) e n x tk)
 |0,x,tk,hn,hd,hl=>eR (Cv.atc_many (cs:=cs) tk hn hd) (by lia)
 |n+1,x,tk,hn,hd,hl=>by
  unfold Fol.goS;by_cases d:x=e;rw[eQ d];exact .stop n x [] tk _ ((g x).mpr d) (.done n tk)
  rw[eP d];by_cases h:x∈tk;rw[eQ h];exact .fail n x [] tk (λz=>d ((g x).mp z)) (.inr h)
  rw[eP h];cases hz:gk cs x with
  |none=>exact .fail n x [] tk (λz=>d ((g x).mp z)) (.inl hz)
  |some c =>
   let(f,s):=c;refine .step n x f s [] tk _ (λz=>d ((g x).mp z)) hz h ?_;refine abr g (AE.mpr #[hn,by simp,λa k b i z=>h (by rw[<- Ae.mp i,<- z];exact k)]) (λy j=>?_) (by rw[Ai,A2];lia);rcases Ab.mp j with z|z;exact hd y z;rw[Ae.mp z];exact#[_,hz]
variable{cs:i4} in
theorem a4m{stop:eN->Prop}(d:∀x,stop x↔x=0):∀{n:eO}{co tk:eL eN},tk.Nodup->(∀y∈tk,∃c,gk cs y=eH c)->2*cs.length+co.length<n+2*tk.length->Walk cs stop eK n co tk (Fol.goT (gk cs) n co tk)
 |0,co,tk,hn,hd,hl=>eR (Cv.atc_many (cs:=cs) tk hn hd) (by lia)
 |n+1,[],tk,hn,hd,hl=>.done _ _
 |n+1,x::co,tk,hn,hd,hl=>by
  unfold Fol.goT;rw[Aw] at hl;by_cases e:x=0;rw[eQ e];exact .stop n x co tk _ ((d x).mpr e) (a4m d hn hd (by lia))
  rw[eP e];by_cases g:x∈tk;rw[eQ g];exact .fail n x co tk (λz=>e ((d x).mp z)) (.inr g)
  rw[eP g];cases hz:gk cs x with
  |none=>exact .fail n x co tk (λz=>e ((d x).mp z)) (.inl hz)
  |some c =>
   let(f,s):=c;refine .step n x f s co tk _ (λz=>e ((d x).mp z)) hz g ?_;refine a4m d (co:=f::s::co) (AE.mpr #[hn,by simp,λa j b h z=>g (by rw[<- Ae.mp h,<- z];exact j)]) (λy i=>?_) (by rw[Ai,A2];simp only[Aw];lia);rcases Ab.mp i with z|z;exact hd y z;rw[Ae.mp z];exact#[_,hz]
def l7(kv:eL (Key×V))(cs:i4)(r:eU):eM (eL eN) :=
 if r.getD 0 ""="cell" then(match gk cs (vI kv (place r)) with|none=>eI|some (f,s)=>if(mayW kv (r.getD 2 "") f && mayW kv (r.getD 3 "") s)=eJ then eH [vI kv (place r)] else eI)
 else if r.getD 0 ""="stretch" then Fol.goS (gk cs) (vI kv (r.getD 2 "")) (cs.length+1) (vI kv (place r)) [] else Fol.goT (gk cs) (2*cs.length+2) [vI kv (place r)] []
theorem aa9(d:PartRow r)(e:cs.length<=190):a1s kv cs r (l7 kv cs r):=by
 refine#[λh=>?_,λh=>?_];unfold l7;exact(eQ h).trans (by cases gk cs (vI kv (place r))<;>rfl)
 unfold l7;rw[eP h];rcases d with⟨a,f,s,rfl⟩|⟨a,b,rfl⟩|⟨a,rfl⟩
 . exact eR rfl h
 . rw[eQ (show([("stretch":eZ),a,b]:eU).getD 0 ""="stretch" from rfl)];refine#[cs.length+1,by lia,?_];rw[show decide (([("stretch":eZ),a,b]:eU).getD 0 ""="stretch")=eJ from rfl];refine abr (λx=>?_) AV (λy c=>by cases c) (by simp);unfold u7;constructor;rintro (⟨_,z⟩|⟨z,_⟩);exact z;cases z
   intro z;exact .inl #[eY,z]
 rw[eP (show ¬ ([("tree":eZ),a]:eU).getD 0 ""="stretch" from(by decide:¬ ("tree":eZ)="stretch"))];refine#[2*cs.length+2,by lia,?_];rw[show decide (([("tree":eZ),a]:eU).getD 0 ""="stretch")=eK from rfl];refine a4m (λx=>?_) AV (λy c=>by cases c) (by simp);unfold u7;constructor;rintro (⟨z,_⟩|⟨_,z⟩);cases z;exact z
 intro z;exact .inr #[eY,z]
theorem wk(i:PartRow r)(row:eL eN):l7 kv cs r=eH row↔Fol.Tk (vI kv) (gk cs) r row:=by
 unfold l7;rcases i with⟨a,f,s,rfl⟩|⟨a,b,rfl⟩|⟨a,rfl⟩
 . rw[eQ (show([("cell":eZ),a,f,s]:eU).getD 0 ""="cell" from rfl)];show(match gk cs (vI kv a) with|none=>eI|some (x,y)=>if(mayW kv f x && mayW kv s y)=eJ then eH [vI kv a] else eI)=eH row↔_;let g:∀x n,mayW kv x n=eJ↔x="any" \/ vI kv x=n:=λx n=>by unfold mayW;simp
   cases hz:gk cs (vI kv a) with
   |none =>
    refine#[λh=>(by cases h),λh=>?_];cases h with|cell h _ _=>rw[hz] at h;cases h
   |some c =>
    let(x,y):=c;show(if(mayW kv f x && mayW kv s y)=eJ then eH [vI kv a] else eI)=eH row↔_;by_cases d:(mayW kv f x && mayW kv s y)=eJ
    . rw[eQ d];rw[Br] at d;constructor;intro e;cases e;exact .cell hz ((g _ _).mp d.1) ((g _ _).mp d.2)
      . intro h;cases h with|cell h _ _=>rfl
    rw[eP d];refine#[λh=>(by cases h),λh=>?_];cases h with
    |cell h h1 h2 =>
     rw[hz] at h;cases h;rw[Br] at d;exact eR #[(g _ _).mpr h1,(g _ _).mpr h2] d
 . rw[eP (show ¬ ([("stretch":eZ),a,b]:eU).getD 0 ""="cell" from(by decide:¬ ("stretch":eZ)="cell")),eQ (show([("stretch":eZ),a,b]:eU).getD 0 ""="stretch" from rfl)];show Fol.goS (gk cs) (vI kv b) (cs.length+1) (vI kv a) []=eH row↔_;rw[r8,Fol.goS_iff (Cv.atc_many (cs:=cs))];constructor;intro h;exact .str h
   . intro h;cases h with|str h=>exact h
 rw[eP (show ¬ ([("tree":eZ),a]:eU).getD 0 ""="cell" from(by decide:¬ ("tree":eZ)="cell")),eP (show ¬ ([("tree":eZ),a]:eU).getD 0 ""="stretch" from(by decide:¬ ("tree":eZ)="stretch"))];show Fol.goT (gk cs) (2*cs.length+2) [vI kv a] []=eH row↔_;rw[r8,Fol.goT_iff (Cv.atc_many (cs:=cs))];constructor;intro h;exact .tree h
 intro h;cases h with|tree h=>exact h
theorem a45(c:gw r):w9 kv r=eJ↔(∀a b,r=[("is":eZ),a,b]->vI kv a=vI kv b)/\∀a b,r=[("not":eZ),a,b]->vI kv a≠vI kv b:=by
 let(k,u,v,rfl,d):=c;show(decide (vI kv u=vI kv v)==decide (k="is"))=eJ↔_;rcases d with rfl|rfl
 . rw[show decide (("is":eZ)="is")=eJ by decide];constructor;intro h;refine#[λa b e=>?_,λa b e=>?_];cases e;exact fC (by simpa using h);cases e
   intro h;rw[fB (h.1 u v rfl)];rfl
 rw[show decide (("not":eZ)="is")=eK by decide];constructor;intro h;refine#[λa b e=>?_,λa b e=>?_];cases e;cases e;intro z;rw[fB z] at h;cases h
 intro h;rw[fA (h.2 u v rfl)];rfl
theorem a1y(hn:(cs.map (·.1)).Nodup)(b:∀r∈F,gw r)(hp:∀r∈P,PartRow r):(∃rows,CovOk kv F (P.map (l7 kv cs)) rows/\rows.flatten.length=cs.length)↔∃R,Fol.Fits (vI kv) (gk cs) F P R:=by
 rw[r8,<- Cv.fits_rows hn (l7 kv cs) λr a row=>wk (hp r a) row,<- Cv.facts_iff b λr a=>a45 (kv:=kv) a];constructor;rintro⟨rows,h,hl⟩;exact#[h.facts,rows,h.all,h.nd,hl];rintro⟨h1,rows,h2,h3,c⟩;exact#[rows,#[h1,h2,h3],c]
theorem a4w{P:eS}(hp:∀r∈P,PartRow r)(d:P.length<=6)(c:cs.length<=100):((P.map (l7 kv cs)).filterMap id).flatten.length<=900:=by
 let one:∀r∈P,∀row,l7 kv cs r=eH row->row.length<=100:=λr a row h=>by
  let t:=(wk (hp r a) row).mp h;exact AB (Cv.atc_many (cs:=cs) row t.nodup t.dom) c
 let:∀l:eS,(∀r∈l,r∈P)->((l.map (l7 kv cs)).filterMap id).flatten.length<=100*l.length:=λl=>by
  induction l with
  |nil=>intro _;exact Ao _
  |cons r l ih =>
   intro h;let i1:=ih λx b=>h x (Ah _ b);rw[A8,BN];cases hz:l7 kv cs r with
   |none=>simp only[id];rw[Aw];lia
   |some row =>
    let:=one r (h r (Af ..)) row hz;simp only[id];rw[AQ,Ai,Aw];lia
 let:=this P λr a=>a
 lia
end
structure Rdx(F P:eS)(ws:eU)(kv:eL (Key×V)):Prop where
 hF:∀r∈F,gw r
 ok:NumOk (fq F) ws kv
 dF:∀r∈F,∀x∈r.drop 1,Dom ws x
 dP:∀r∈P,Fol.PartD (Dom ws) r
 any:¬ Dom ws "any"
 nocl:∀y,¬ Un F P y y
 rdy:∀(j:eO) r,P[j]?=eH r->¬ ki r (fq F) []->¬ lg F P (neOf F P) j r
theorem nu(h:Fol.PartD Dm r):PartRow r:=by
 cases h with|cell=>exact .inl #[_,_,_,eY]|str=>exact .inr (.inl #[_,_,eY])|tree=>exact .inr (.inr #[_,eY])
theorem kb(h:Fol.PartD Dm r):Dm (place r):=by cases h<;>assumption
theorem p9(a:Dm "nil")(h:Fol.PartD Dm r):Dm (end2 r):=by
 cases h with|cell=>exact a|str _ z=>exact z|tree=>exact a
theorem tj:∀{cs:i4}{a f s:eN},(cs.map (·.1)).Nodup->(a,f,s)∈cs->gk cs a=eH (f,s)
 |c::cs,a,f,s,hn,hm=>by
  let(h1,h2):=AI.mp hn;unfold gk;rcases Ak.mp hm with z|z;rw[<- z];simp;let b:¬ c.1=a:=λw=>h1 (by show c.1∈_;rw[w];exact Au.mpr #[_,z,eY]);let:=tj h2 z;unfold gk at this;simp only[AZ,b,decide_false];exact this
theorem Rdx.vi(R:Rdx F P a kv)(c:Dom a x)(b:Dom a y):vI kv x=vI kv y↔fq F x=fq F y:=by
 let h1:=R.ok.at_ x c;let h2:=R.ok.at_ y b;rw[<- R.ok.inj x y c b];unfold vI;constructor;intro e;rw[h1,h2,e];intro e;rw[e]
theorem Rdx.nil(R:Rdx F P a kv):vI kv "nil"=0:=by unfold vI;rw[R.ok.nil];rfl
theorem Rdx.lt(R:Rdx F P a kv)(b:Dom a x):0<=vI kv x/\vI kv x<(a.length:eN)+1:=by
 let:=R.ok.lt x b;unfold vI
 lia
theorem iw(a:j∈neOf F P):P[j]?=eH (P.getD j []):=by
 rw[Ay,Ag (nk j a)];rfl
def AmOk(F P:eS)(ws:eU)(am:eM (eO×eZ)):Prop:=∀k e,am=eH (k,e)->Dom ws e/\∀j∈neOf F P,fq F (place (P.getD j []))≠fq F e
theorem Rdx.places(R:Rdx F P b kv)(hA:AmOk F P b am):Places kv ((b.length:eN)+1) am P (neOf F P):=by
 let pl:∀{j:eO},j∈neOf F P->Dom b (place (P.getD j [])):=λa=>kb (R.dP _ (Aq (iw a)));refine#[λk e d=>#[(R.lt (hA k e d).1).2,λj a z=>(hA k e d).2 j a ((R.vi (pl a) (hA k e d).1).mp z)],Dc DD Ej,λj a=>(R.lt (pl a)).2,λi hi j a c e=>?_];exact R.rdy i _ (iw hi) ((jk (iw hi)).mp hi) (.inl #[j,a,AF c,_,iw a,(R.vi (pl hi) (pl a)).mp e])
theorem og(c:Places kv bs am P (neOf F P))(b:j∈neOf F P)(h:(a,f,s)∈j4 kv bs am P j):gk (ib kv bs am P (neOf F P)) a=eH (f,s) :=
 tj (la c) (Bt.mpr #[_,Au.mpr #[j,b,eY],h])
theorem Rdx.gI(R:Rdx F P ws kv)(bs:eN){x:eZ}(h:x="any" \/ Dom ws x):gI kv bs x=Fol.val (vI kv) bs x:=by
 unfold K34.gI Fol.val;by_cases c:x="any"
 . rw[eQ c];cases hz:valV kv (Sum.inr x) with
   |none=>rfl
   |some v =>
    let(y,h1,h2):=R.ok.no (Sum.inr x) (by rw[hz];rfl);rw[<- Ca h1,c] at h2;exact eR h2 R.any
 rw[eP c,eQ];rw[R.ok.at_ x (h.resolve_left c)];rfl
def s0N(ws:eU)(j:eO):eN:=(ws.length:eN)+1+2*(j:eN)+1
def s1N(ws:eU)(j:eO):eN:=(ws.length:eN)+1+2*(j:eN)+2
theorem a0x:AmOk F P a eI:=λk e h=>by cases h
theorem Rdx.ex(R:Rdx F P ws kv):Fol.Ex (mmOf F P) (vI kv) (gk (ib kv ((ws.length:eN)+1) eI P (neOf F P))) ((ws.length:eN)+1) (neOf F P) (s0N ws) (s1N ws) (Dom ws):=by
 let row:∀{j:eO} {r:eU},P[j]?=eH r->Fol.PartD (Dom ws) r:=λh=>R.dP _ (Aq h);let k:=R.places (am:=eI) a0x;let m:∀{j:eO} {r:eU},P[j]?=eH r->P.getD j []=r:=λh=>Fol.some_getD h;let o:Dom ws "nil" := .inl rfl;let heads:∀{x:eZ} {j:eO},(mmOf F P).num x=eH j->j∈neOf F P/\fq F (place (P.getD j []))=fq F x:=λ{x j} h=>by
  let h1:=Bg h;let h2:=CC h;exact#[h1,by simpa using h2]
 let one:∀{i j:eO},i∈neOf F P->j∈neOf F P->fq F (place (P.getD i []))=fq F (place (P.getD j []))->i=j:=λ{i j} hi e h=>by
  by_cases c:i=j;exact c;exact eR (.inl #[j,e,AF c,_,iw e,h]) (R.rdy i _ (iw hi) ((jk (iw hi)).mp hi))
 exists λj r h=>row h,R.nil,o,R.any,λx n=>R.lt n,λa b w v=>?_,λx j n h=>?_,λx j r n e g h=>?_,λj e=>#[_,iw e],λj e r g u h=>?_,λj e r g h=>?_,λj e p f s g=>?_,λj e p q g=>?_,λj e p g=>?_,λx c n=>?_,?_,?_,?_,?_;show decide _=eJ↔_;rw[decide_eq_true_iff];exact(R.vi w v).symm;let(h1,h2):=heads h;exact#[h1,_,iw h1,(R.vi (kb (row (iw h1))) n).mpr h2]
 . let t:fq F (place (P.getD j []))=fq F x:=by rw[m g];exact(R.vi (kb (row g)) n).mp h
   cases hz:(mmOf F P).num x with
   |none =>
    let:=Ci.mp hz j e;exact eR (fB t) this
   |some i =>
    let(h1,h2):=heads hz;rw[one h1 e (h2.trans t.symm)]
 . exact((jk g).mp e) #[u,(R.vi (kb (row g)) (p9 o (row g))).mp h]
 . rw[<- R.nil] at h;exact R.rdy j r g ((jk g).mp e) (.inr ((R.vi (kb (row g)) o).mp h))
 . let hd:=row g;generalize he:[("cell":eZ),p,f,s]=r at hd;cases hd with
   |cell _ hf hs =>
    cases he;refine og k e ?_;unfold j4;rw[m g,<- R.gI _ hf,<- R.gI _ hs];exact Ae.mpr rfl
   |str=>cases he
   |tree=>cases he
 . constructor;refine og k e ?_;unfold j4;rw[m g];exact Af ..;refine og k e ?_;unfold j4;rw[m g];exact Ah _ (Af ..)
 . exists ?_,?_;refine og k e ?_;unfold j4;rw[m g];exact Af ..;refine og k e ?_;unfold j4;rw[m g];exact Ah _ (Af ..);refine og k e ?_;unfold j4;rw[m g];exact Ah _ (Ah _ (Af ..))
 . let hm:=Cv.atc_mem (cs:=ib kv ((ws.length:eN)+1) eI P (neOf F P)) (x:=x) (by rw[<- r8,n];rfl);let(d,hd,rfl):=Au.mp hm;let(l,hl,hd):=Bt.mp hd;let(j,e,rfl):=Au.mp hl;exists j,e,_,iw e;let g:=row (iw e);unfold j4 at hd;show d.1∈Fol.exD (vI kv) (s0N ws) (s1N ws) j (P.getD j []);generalize P.getD j []=r at hd g |-;cases g with
   |cell=>let:=Ae.mp hd;rw[this];exact Ae.mpr rfl
   |str =>
    rcases Ak.mp hd with z|z;rw[z];exact Af ..;rw[Ae.mp z];exact Ah _ (Af ..)
   |tree =>
    rcases Ak.mp hd with z|z;rw[z];exact Af ..
    rcases Ak.mp z with z|z;rw[z];exact Ah _ (Af ..);rw[Ae.mp z];exact Ah _ (Ah _ (Af ..))
 . intro j;unfold s0N;lia
 . intro j;unfold s1N;lia
 . intro i j h;unfold s0N at h;lia
 . intro i j h;unfold s1N at h;lia
 intro i j h;unfold s0N s1N at h;lia
theorem Rdx.says(R:Rdx F P f kv):Fol.Says (mmOf F P) (vI kv) (neOf F P) F:=by
 let dom:∀{k a b:eZ},[k,a,b]∈F->Dom f a/\Dom f b:=λh=>#[R.dF _ h _ (Af ..),R.dF _ h _ (Ah _ (Af ..))]
 refine#[λa b h=>?_,λa b h e=>?_,λj r d g=>?_];exact(R.vi (dom h).1 (dom h).2).mpr ((iz R.hF a b).mpr (.fact h));let c:=(iz R.hF a b).mp ((R.vi (dom h).1 (dom h).2).mp e);exact R.nocl b ((jq F P).conn _ _ _ c.symm ((jq F P).fact _ _ h))
 let:ki r (fq F) []:=by
  by_cases c:ki r (fq F) [];exact c;exact eR ((jk d).mpr c) g
 exact#[this.1,(R.vi (kb (R.dP _ (Aq d))) (p9 (.inl rfl) (R.dP _ (Aq d)))).mpr this.2]
end K34
namespace Fol
open L2 Kn
structure EnvOk(E:Env):Prop where
 tr:∀a b c,E.al a b->E.al b c->E.al a c
 sy:∀a b,E.al a b->E.al b a
 at_:∀x j r,E.at_ x j->E.P[j]?=eH r->E.al x (place r)
 ne:∀x j r,E.at_ x j->E.P[j]?=eH r->¬ E.full j->¬ E.al (place r) (end2 r)
section
variable{E:Env}{W:eZ->Prop} in
theorem Pass.q(O:EnvOk E){j:eO}{e a d:eZ}{q:eT}(h:Pass E j e d q)(f:¬ E.al a e)(h1:E.at_ a j)(c:∀(j:eO) r,E.P[j]?=eH r->W (place r)/\W (end2 r))(g:W e):∀p∈q,¬ E.al p.1 p.2/\W p.1/\W p.2:=by
 let key:∀{r:eU},E.P[j]?=eH r->¬ E.al (place r) e/\W (place r)/\W e:=λ{r} b=>#[λz=>f (O.tr _ _ _ (O.at_ _ _ _ h1 b) z),(c _ _ b).1,g]
 cases h with
 |cell b _=>intro p hp;rw[Ae.mp hp];exact key b
 |own b _=>intro p hp;cases hp
 |on b _ hl =>
  intro p hp;rcases Ak.mp hp with z|z;rw[z];exact key b
  cases hl with|nil=>cases z|full=>cases z|ask g0 g1 g2 g3=>rw[Ae.mp z];exact#[O.ne _ _ _ g1 g3 g2,c _ _ g3]
variable{E:Env}{W:eZ->Prop} in
theorem StrR.q(O:EnvOk E){e a:eZ}{tk c:eL eO}{q:eT}(h:StrR E e tk a c q)(b:∀(j:eO) r,E.P[j]?=eH r->W (place r)/\W (end2 r))(d:W e):∀p∈q,¬ E.al p.1 p.2/\W p.1/\W p.2:=by
 induction h with
 |nil=>intro p hp;cases hp
 |cons h h1 h2 h3 _ ih =>
  intro p hp;rcases Ab.mp hp with z|z;exact h3.q O h h1 b d p z;exact ih p z
variable{E:Env}{W:eZ->Prop} in
theorem RowsR.q(O:EnvOk E){tk:eL eO}{rs:eS}{a:eL (eL eO)}{q:eT}(h:RowsR E tk rs a q)(c:∀(j:eO) r,E.P[j]?=eH r->W (place r)/\W (end2 r))(b:∀r∈rs,W (end2 r)):∀p∈q,¬ E.al p.1 p.2/\W p.1/\W p.2:=by
 induction h with
 |nil=>intro p hp;cases hp
 |cons h _ ih =>
  intro p hp;rcases Ab.mp hp with z|z
  . let d:=b _ (Af ..);cases h with|cell=>cases z|str g=>exact g.q O c d p z|tree=>cases z
  exact ih (λr e=>b r (Ah _ e)) p z
end
end Fol
namespace K34
open L2 Mir Kn
def m9(F P G S:eS):Prop:=∀(v:eZ->eN) (m:Fol.Mem),v "nil"=0->m 0=eI->(∃D,Fol.Fits v m F P D)->∃R,Fol.Fits v m G S R
theorem oy(h:(mmOf F P).num x=eH j):j∈neOf F P/\fq F (place (P.getD j []))=fq F x:=by
 let h1:=Bg h;let h2:=CC h;exact#[h1,by simpa using h2]
theorem al_iff:(mmOf F P).al a b=eJ↔fq F a=fq F b:=by show decide _=eJ↔_;exact decide_eq_true_iff
theorem ae9(hF:∀r∈F,gw r):Fol.EnvOk (mmOf F P).env:=by
 refine#[λa b c h1 h2=>al_iff.mpr ((al_iff.mp h1).trans (al_iff.mp h2)),λa b h=>al_iff.mpr (al_iff.mp h).symm,λx j r h d=>?_,λx j r h d f hz=>?_];let:=(oy h).2;rw[Fol.some_getD (show P[j]?=eH r from d)] at this;exact al_iff.mpr this.symm;let e:=(oy h).1;refine((jk d).mp e) #[λc=>f (full_iff.mpr (.inl (by rw[Fol.some_getD (show P[j]?=eH r from d)];exact c))),al_iff.mp hz]
theorem zj(h:Un F P y y):m9 F P G S:=λv m a hm #[D,b]=>eR rfl (b.un a hm h)
theorem aap(hF:∀r∈F,gw r)(c:v "nil"=0)(hm:m 0=eI)(h:Fol.Fits v m F P D):Fol.Sem v m (mmOf F P).env D:=by
 let al:∀a b,fq F a=fq F b->v a=v b:=λa b e=>h.conn ((iz hF a b).mp e);refine#[c,hm,λa b e=>al a b (al_iff.mp e),h.tk,h.apart,λx j e=>?_,λj r f d=>?_,λj r d hn=>?_];let(h1,h2):=oy e;exact#[_,iw h1,al _ _ h2];let:=full_iff.mp f;rw[Fol.some_getD (show P[j]?=eH r from d)] at this;exact(h.tk j r d).head c (this.mono λa b u=>h.un c hm u);exact(h.tk j r d).head c (.inr hn)
theorem acw(h:Fol.Tr m x row)(a:x=0):row=[]:=by
 cases h with|nil=>rfl|node h1 _ _ _ _ _ _=>exact eR a h1
theorem a43(hF:∀r∈F,gw r)(b:v "nil"=0)(h:Fol.Fits v m F P D)(c:P[j]?=eH r)(a:ki r (fq F) []):D j=[]:=by
 let e:v (place r)=v (end2 r):=h.conn ((iz hF _ _).mp a.2);let t:=h.tk j r c;generalize D j=d at t;cases t with|cell=>exact eR rfl a.1|str g=>exact Fol.seg_nil g e|tree g=>exact acw g (e.trans b)
theorem zm(hF:∀r∈F,gw r)(s:∀r∈S,PartRow r)(t:G.all (mi F)=eJ)(g:Fol.rowsF (mmOf F P) [] S=.ok l q)(hd:dbt F P (ms G++q)=eI)(hl:∀j∈neOf F P,j∈l.flatten):m9 F P G S:=λv m k hm #[D,e]=>by
 let un:∀p∈ms G++q,v p.1≠v p.2:=λp hp=>by
  let:=Ci.mp hd p hp;refine e.un k hm (ulB_iff.mp ?_);cases hu:ulB F P p.1 p.2 with|true=>rfl|false=>rw[hu] at this;exact eR rfl this
 let n:=aap hF k hm e;let rows:=Fol.rowsF_ok (M:=mmOf F P) (λx i h=>#[_,iw (oy h).1]) s g;refine#[_,Fol.fits_of (F:=F) n rows (λp hp=>un p (Ab.mpr (.inr hp))) (λa b d=>?_) (λa b d=>?_) (λx c f=>e.whole x c f) λj x f #[r,g]=>?_];let:=Bm.mp t _ d;unfold mi at this;rw[eQ (show([("is":eZ),a,b]:eU).getD 0 ""="is" from rfl)] at this;exact e.conn ((iz hF a b).mp (fC this));refine un (a,b) (Ab.mpr (.inl (Cg.mpr #[_,d,?_])));rw[eP (show ¬ ([("not":eZ),a,b]:eU).getD 0 ""="is" from(by decide:¬ ("not":eZ)="is"))];rfl
 let o:j∈neOf F P:=(jk g).mpr λw=>by
  rw[a43 hF k e g w] at f;cases f
 let(u,h1,h2):=Bt.mp (hl j o);exact#[u,h1,h2]
theorem yl(h:Fol.Fits v m F P D)(h1:∀a b,r=[("is":eZ),a,b]->v a=v b)(h2:∀a b,r=[("not":eZ),a,b]->v a≠v b):Fol.Fits v m (F++[r]) P D :=
 #[λa b c=>by
  rcases Ab.mp c with z|z;exact h.is_ a b z;exact h1 a b (Ae.mp z).symm,λa b c=>by
  rcases Ab.mp c with z|z;exact h.not_ a b z
  exact h2 a b (Ae.mp z).symm,h.tk,h.apart,h.whole]
theorem a7u(h:Fol.Fits v m (F++[r]) P D):Fol.Fits v m F P D :=
 #[λa b c=>h.is_ a b (Ab.mpr (.inl c)),λa b c=>h.not_ a b (Ab.mpr (.inl c)),h.tk,h.apart,h.whole]
theorem zh(h1:m9 (F++[[("is":eZ),a,b]]) P G S)(h2:m9 (F++[[("not":eZ),a,b]]) P G S):m9 F P G S:=λv m d hm #[D,f]=>by
 by_cases c:v a=v b;exact h1 v m d hm #[D,yl f (λx y e=>by cases e;exact c) (λx y e=>by cases e)];exact h2 v m d hm #[D,yl f (λx y e=>by cases e) (λx y e=>by cases e;exact c)]
theorem aa5(hF:∀r∈F,gw r)(n:∀r∈S,PartRow r)(hG:∀r∈G,gw r)(s:G.all (mi F)=eJ){a:eL (eL eO)}{q:eT}(m:Fol.rowsF (mmOf F P) [] S=.ok a q){p:eZ×eZ}(hd:dbt F P (ms G++q)=eH p){W:eZ->Prop}(t:∀r∈P,W (place r)/\W (end2 r))(l:∀r∈S,W (end2 r))(d:∀r∈G,∀x∈r.drop 1,W x):¬ Conn F p.1 p.2/\¬ Un F P p.1 p.2/\W p.1/\W p.2:=by
 let hm:=Bg hd;let b:¬ Un F P p.1 p.2:=λu=>by
  let:=CC hd;rw[ulB_iff.mpr u] at this;cases this
 let rows:=Fol.rowsF_ok (M:=mmOf F P) (λx i h=>#[_,iw (oy h).1]) n m;rcases Ab.mp hm with z|z;let(r,h1,h2):=Cg.mp z;let(k,u,v,rfl,w):=hG r h1;let h3:=Bm.mp s _ h1;unfold mi at h3;by_cases c:([k,u,v]:eU).getD 0 ""="is";rw[eQ c] at h2;cases h2;rw[eP c] at h2 h3;let e:p=(u,v):=(Am h2).symm;rw[e];refine#[λz=>?_,by rw[e] at b;exact b,d _ h1 u (Af ..),d _ h1 v (Ah _ (Af ..))];let o:alB F u v=eJ:=fB ((iz hF u v).mpr z);let f:(!alB F u v)=eJ:=h3;rw[o] at f;cases f
 let(h1,h2):=rows.q (ae9 hF) (W:=W) (λj r g=>t r (Aq g)) l p z;exact#[λc=>h1 (al_iff.mpr ((iz hF _ _).mpr c)),b,h2]
theorem nv(hn:(cs.map (·.1)).Nodup):gk cs a=eH (f,s)↔(a,f,s)∈cs:=by
 constructor
 . intro h;unfold gk at h;cases hf:cs.find? (λc=>decide (c.1=a)) with
   |none=>rw[hf] at h;cases h
   |some c =>
    rw[hf] at h;let h1:c.1=a:=by simpa using CC hf
    let h2:c.2=(f,s):=Am h;let:=Bg hf;rw[<- h1,<- h2];exact this
 exact tj hn
theorem Rdx.pm(R:Rdx F P d kv)(b:j∈neOf F P)(a:P[j]?=eH r):∃c,gk (ib kv ((d.length:eN)+1) eI P (neOf F P)) (vI kv (place r))=eH c:=by
 let X:=R.ex;let hd:=R.dP _ (Aq a);cases hd with|cell=>exact#[_,X.cell j b _ _ _ a]|str=>exact#[_,(X.str j b _ _ a).1]|tree=>exact#[_,(X.tree j b _ a).1]
theorem Rdx.first(R:Rdx F P g kv)(t:P.length<=15)(dS:∀r∈S,Fol.PartD (Dom g) r)(hG:∀r∈G,gw r)(dG:∀r∈G,∀x∈r.drop 1,Dom g x)(h:Fol.Fits (vI kv) (gk (ib kv ((g.length:eN)+1) eI P (neOf F P))) G S w):
 G.all (mi F)=eJ/\((∃b q,Fol.rowsF (mmOf F P) [] S=.ok b q/\∀j∈neOf F P,j∈b.flatten)\/∃i j a e,Fol.rowsF (mmOf F P) [] S=.amid i j/\S[i]?=eH [("stretch":eZ),a,e]/\Fol.Amid (mmOf F P) (vI kv) (neOf F P) (w i) e j):=by
 let X:=R.ex;constructor;rw[Bm];intro r f;let(k,u,v,rfl,l):=hG r f;let m:=dG _ f u (Af ..);let dv:=dG _ f v (Ah _ (Af ..));unfold mi;rcases l with rfl|rfl;rw[eQ (show([("is":eZ),u,v]:eU).getD 0 ""="is" from rfl)];exact fB ((R.vi m dv).mp (h.is_ _ _ f));rw[eP (show ¬ ([("not":eZ),u,v]:eU).getD 0 ""="is" from(by decide:¬ ("not":eZ)="is"))];let:alB F u v=eK:=fA λz=>h.not_ _ _ f ((R.vi m dv).mpr z);show(!alB F u v)=eJ;rw[this];rfl
 rcases Fol.rowsF_fit X t h dS S 0 [] (λi=>by rw[FH]) (λk r _ _ j d=>(As d).elim) #[AV,λj d=>(As d).elim] with⟨b,q,h1,_,h2⟩|⟨i,j,a,e,h1,h2,h3⟩
 . refine .inl #[b,q,h1,λj d=>?_];let(c,o):=R.pm d (iw d);let(k,r,l,n):=h.whole _ _ o;let(s,g1,p):=h2 k r (AC _) l j d _ (iw d) n;exact Bt.mpr #[s,g1,p]
 rw[FH] at h2 h3;exact .inr #[i,j,a,e,h1,h2,h3]
theorem aat(h:(mmOf F P).num x=eI):∀j∈neOf F P,fq F (place (P.getD j []))≠fq F x:=λj a e=>Ci.mp h j a (fB e)
theorem abm(b:Dom a e)(h:(mmOf F P).num e=eI):AmOk F P a (eH (j,e)):=λk c z=>by
 cases z;exact#[b,aat h]
theorem tf(h:j≠k):j4 kv bs (eH (j,e)) P k=j4 kv bs eI P k:=by
 unfold j4;rw[show s0F kv bs (eH (j,e)) k=s0F kv bs eI k from eP h]
theorem Rdx.moved(R:Rdx F P a kv)(u:j∈neOf F P)(A:P[j]?=eH [("stretch":eZ),p,q])(w:Dom a e)(hn:(mmOf F P).num e=eI):Fol.Moved (vI kv) (gk (ib kv ((a.length:eN)+1) eI P (neOf F P))) (gk (ib kv ((a.length:eN)+1) (eH (j,e)) P (neOf F P))) ((a.length:eN)+1) (s0N a j) p q e:=by
 let hA:=abm (j:=j) w hn;let g:=R.places hA;let o:=R.places (am:=eI) a0x;let n1:=la g;let B:=la o;let v:P.getD j []=[("stretch":eZ),p,q]:=Fol.some_getD A;let m:j4 kv ((a.length:eN)+1) (eH (j,e)) P j=[(vI kv p,(a.length:eN)+1,vI kv e),(vI kv e,(a.length:eN)+1,vI kv q)]:=by
  unfold j4;rw[v,show s0F kv ((a.length:eN)+1) (eH (j,e)) j=vI kv e from eQ rfl];rfl
 let y:j4 kv ((a.length:eN)+1) eI P j=[(vI kv p,(a.length:eN)+1,s0N a j),(s0N a j,(a.length:eN)+1,vI kv q)]:=by
  unfold j4;rw[v];rfl
 let mem:∀{am:eM (eO×eZ)} {c:eN×eN×eN},c∈ib kv ((a.length:eN)+1) am P (neOf F P)↔∃i∈neOf F P,c∈j4 kv ((a.length:eN)+1) am P i:=λ{am c}=>by
  unfold ib;rw[Bt];constructor;rintro⟨l,hl,h⟩;let(i,hi,rfl):=Au.mp hl;exact#[i,hi,h];rintro⟨i,hi,h⟩;exact#[_,Au.mpr #[i,hi,eY],h]
 refine#[?_,?_,?_,λx k n t=>?_];exact(nv n1).mpr (mem.mpr #[j,u,by rw[m];exact Af ..]);exact(nv n1).mpr (mem.mpr #[j,u,by rw[m];exact Ah _ (Af ..)])
 . cases hz:gk (ib kv ((a.length:eN)+1) (eH (j,e)) P (neOf F P)) (s0N a j) with
   |none=>rfl
   |some c =>
    let(i,hi,d):=mem.mp ((nv n1).mp hz);exfalso;let h1:=rd (Au.mpr #[_,d,eY]);let h2:=g.lt i hi;let h3:vI kv e<(a.length:eN)+1:=(R.lt w).2;simp only at h1;let C:s0N a j=(a.length:eN)+1+2*(j:eN)+1:=rfl;by_cases b:j=i
    . let r:s0F kv ((a.length:eN)+1) (eH (j,e)) i=vI kv e:=eQ b;rw[r] at h1
      lia
    let r:s0F kv ((a.length:eN)+1) (eH (j,e)) i=(a.length:eN)+1+2*(i:eN)+1:=eP b;rw[r] at h1
    lia
 let key:∀f s,gk (ib kv ((a.length:eN)+1) (eH (j,e)) P (neOf F P)) x=eH (f,s)↔gk (ib kv ((a.length:eN)+1) eI P (neOf F P)) x=eH (f,s):=λf s=>by
  rw[nv n1,nv B,mem,mem];constructor
  . rintro⟨i,hi,d⟩;by_cases b:j=i;subst b;rw[m] at d;rcases Ak.mp d with z|z;exact eR (fE FJ z) k;exact eR (fE FJ (Ae.mp z)) n
    exact#[i,hi,by rw[<- tf (kv:=kv) (P:=P) (e:=e) b];exact d]
  rintro⟨i,hi,d⟩;by_cases b:j=i;subst b;rw[y] at d;rcases Ak.mp d with z|z;exact eR (fE FJ z) k;exact eR (fE FJ (Ae.mp z)) t
  exact#[i,hi,by rw[tf (kv:=kv) (P:=P) (e:=e) b];exact d]
 cases h1:gk (ib kv ((a.length:eN)+1) (eH (j,e)) P (neOf F P)) x with
 |some c=>exact((key c.1 c.2).mp h1).symm
 |none =>
  cases h2:gk (ib kv ((a.length:eN)+1) eI P (neOf F P)) x with|none=>rfl|some c=>rw[(key c.1 c.2).mpr h2] at h1;cases h1
theorem adm(ok:NumOk h f kv):∃m,li kv (Sum.inr "nil")=Cv.dv m/\Cv.num m=vI kv/\∀x∈f,x≠"nil" -> (Cv.lkI m x).isSome=eJ:=by
 let ent:∀l:eL (Key×V),EntI l->∃m,l=Cv.dv m:=λl=>by
  induction l with
  |nil=>intro _;exact#[[],eY]
  |cons p l ih =>
   intro hl;let(m,hm):=ih λq b=>hl q (Ah _ b);let(x,n,hp):=hl p (Af ..);exact#[(x,n)::m,by rw[hp,hm];rfl]
 let(m,hm):=ent (li kv (Sum.inr "nil")) λq b=>ok.ents q (Bc.mp b).1;let e:∀x:eZ,x≠"nil" -> (Cv.lkI m x).map V.int=valV kv (Sum.inr x):=λx d=>by
  rw[<- Cv.valV_dv,<- hm];let:∀l:eL (Key×V),valV (li l (Sum.inr ("nil":eZ))) (Sum.inr x)=valV l (Sum.inr x):=λl=>by
   induction l with
   |nil=>rfl
   |cons p l ih =>
    unfold li at ih |-;rw[Cs];by_cases c:p.1=Sum.inr ("nil":eZ);rw[eP (by simp[c]),ih,ik (λz=>d (Ca (z.symm.trans c)))]
    rw[eQ (by simp[c])];by_cases a:p.1=Sum.inr x;rw[ij a,ij a];rw[ik a,ik a,ih]
  exact this kv
 refine#[m,hm,?_,λx d hn=>?_]
 . funext x
   unfold Cv.num vI;by_cases c:x="nil";rw[eQ c,c,ok.nil];rfl;rw[eP c,<- e x c];cases Cv.lkI m x<;>rfl
 let:=ok.at_ x (.inr d);rw[<- e x hn] at this;cases hz:Cv.lkI m x with|some n=>rfl|none=>rw[hz] at this;cases this
abbrev a3t:JJ:=top 27
abbrev a3h:JJ:=top 28
theorem abb:ku (CXE P w base) X E0:=λ_ _ _ _ _ _ _ h=>by
 let(a,cls,b,H',B,_,_,_,_,_,_,_,_,_,_,_,h):=h;exact h.elim
structure Rdw(F P:eS)(ws:eU):Prop where
 hF:∀r∈F,gw r
 dF:∀r∈F,∀x∈r.drop 1,Dom ws x
 dP:∀r∈P,Fol.PartD (Dom ws) r
 any:¬ Dom ws "any"
 nocl:∀y,¬ Un F P y y
 rdy:∀(j:eO) r,P[j]?=eH r->¬ ki r (fq F) []->¬ lg F P (neOf F P) j r
theorem Rdw.x(R:Rdw F P a)(h:NumOk (fq F) a kv):Rdx F P a kv:=#[R.hF,h,R.dF,R.dP,R.any,R.nocl,R.rdy]
structure Oth(G S:eS)(ws:eU):Prop where
 hG:∀r∈G,gw r
 dG:∀r∈G,∀x∈r.drop 1,Dom ws x
 dS:∀r∈S,Fol.PartD (Dom ws) r
 sG:jj G
 sS:jj S
 w:∀y∈i5 (G++S),y∈ws/\y≠"nil"
 six:S.length<=6
 gl:G.length<=100
def StAt(K:Aa)(H:Hp)(t:JA)(F P G S:eS)(ws:eU):Prop:=∃(d h:JA) (m:eL (eZ×eN)) (cs:i4),H t=eH (.tup [.str "state",.ref d,.ref h])/\H d=eH (.dK (Cv.dv m))/\Cv.HeapAt K H h cs/\(cs.map (·.1)).Nodup/\((cs.length<=100/\m.length<=100)/\(∀x,Dom ws x->0<=Cv.num m x/\Cv.num m x<=100)/\∀c∈cs,1<=c.1/\0<=c.2.1/\0<=c.2.2)/\(∀x∈ws,x≠"nil" -> (Cv.lkI m x).isSome=eJ)/\(∃D,Fol.Fits (Cv.num m) (gk cs) F P D)/\¬ ∃R,Fol.Fits (Cv.num m) (gk cs) G S R
theorem mn{a:eU}(h:∀x∈a,x≠"nil" -> (Cv.lkI m x).isSome=eJ)(b:Dom a x):Cv.Has m x:=by
 by_cases c:x="nil";exact .inl c;exact .inr (h x (b.resolve_left c) c)
theorem ads:∀{l m:eU},l.Nodup->(∀x∈l,x∈m)->l.length<=m.length:=λh1 h2=>Cv.nd_lenG h1 h2
theorem Oth.tell(O:Oth G S d)(j:d.length<=60)(h:∀x∈d,x≠"nil" -> (Cv.lkI m x).isSome=eJ):Cv.TellR m G S:=by
 refine#[O.sG,O.sS,λi hn g=>?_,λy c=>h y (O.w y c).1 (O.w y c).2,λr b=>?_,λr b=>?_,O.six]
 . let:=ads hn λy c=>(O.w y (g y c)).1
   lia
 . let(k,u,v,rfl,_):=O.hG r b;exact#[k,u,v,eY,mn h (O.dG _ b u (Af ..)),mn h (O.dG _ b v (Ah _ (Af ..)))]
 cases O.dS r b with|cell a f s=>exact .inl #[_,_,_,eY,mn h a,f.imp id (mn h),s.imp id (mn h)]|str a e=>exact .inr (.inl #[_,_,eY,mn h a,mn h e])|tree a=>exact .inr (.inr #[_,eY,mn h a])
theorem T2At.tell(h:T2At K H t G S):TellAt K H t [G,S]:=by
 let(a,b,h1,h2,h3):=h;exact#[[a,b],h1,.cons h2 (.cons h3 .nil)]
theorem a78(R:Rdx F P a kv)(hA:AmOk F P a am)(hn:∀k e,am=eH (k,e)->vI kv e≠0):∀c∈ib kv ((a.length:eN)+1) am P (neOf F P),1<=c.1/\0<=c.2.1/\0<=c.2.2:=by
 intro c b;let(l,hl,b):=Bt.mp b;let(j,m,rfl):=Au.mp hl;let i:=iw m;let pd:=R.dP _ (Aq i);let pn:¬ fq F (place (P.getD j []))=fq F "nil" := λz=>R.rdy j _ i ((jk i).mp m) (.inr z);let g:1<=vI kv (place (P.getD j [])):=by
  let h1:=(R.lt (kb pd)).1;let h2:vI kv (place (P.getD j []))≠0:=λz=>pn ((R.vi (kb pd) (.inl rfl)).mp (by rw[z,R.nil]))
  lia
 let n:∀x,0<=gI kv ((a.length:eN)+1) x:=λx=>by
  unfold gI;split;rename_i h;let(y,e,o):=R.ok.no _ h;cases e;exact(R.lt o).1;lia
 let s0:1<=s0F kv ((a.length:eN)+1) am j:=by
  rcases qp kv ((a.length:eN)+1) am j with z|⟨e,h1,z⟩;lia
  let h2:=(R.lt (hA _ _ h1).1).1;let h3:=hn _ _ h1
  lia
 unfold j4 ka at b;generalize s0F kv ((a.length:eN)+1) am j=d at s0 b;split at b;rw[Ae.mp b];exact#[g,n _,n _]
 split at b
 . rename_i f;let p:0<=vI kv ((P.getD j []).getD 2 ""):=by
    generalize P.getD j []=r at pd f;cases pd with|cell=>cases f|str _ z=>exact(R.lt z).1|tree=>cases f
   rcases Ak.mp b with z|z;rw[z];exact#[g,(show 0<=(a.length:eN)+1 by lia),(show 0<=d by lia)];rw[Ae.mp z];exact#[s0,(show 0<=(a.length:eN)+1 by lia),p]
 rcases Ak.mp b with z|z;rw[z];exact#[g,(show 0<=d by lia),(show 0<=(a.length:eN)+1+2*(j:eN)+2 by lia)]
 rcases Ak.mp z with z|z;rw[z];exact#[s0,EW _,EW _];rw[Ae.mp z];exact#[(show 1<=(a.length:eN)+1+2*(j:eN)+2 by lia),EW _,EW _]
inductive spShowsAS(K:Aa)(vs:eL V)(H:Hp)(Q:VK):Prop
 |mk (t o d h:JA)(m:eL (eZ×eN))(cs:i4)(G S:eS)(h0:vs=[.ref t,.ref o,.bl eJ])(h1:H t=eH (.tup [.ref d,.ref h]))(h2:H d=eH (.dK (Cv.dv m)))(h3:Cv.HeapAt K H h cs)(h4:cs.length<=600)(h5:T2At K H o G S)(h6:Cv.TellR m G S)(h7:∀H',Same H H'->Q (.bl (!Cv.fitsB m cs G S)) H'):spShowsAS K vs H Q
def a18(K:Aa):Sp:=λvs H Q _=>spShowsAS K vs H Q
inductive spStateAS(K:Aa)(C C2:JA)(vs:eL V)(H:Hp)(Q:VK):Prop
 |mk (q nl o td:JA)(G0:Hp)(F P G S:eS)(tk:eL eO)(dq:eT)(am:eM (eO×eZ))(ws:eU)(h0:vs=[.ref q,.ref nl,.ref o,.bl eJ])(h1:TkAt K C C2 G0 H q td F P tk dq am)(h2:H nl=eH (.lst (ws.map V.str)))(h3:ws.length<=60)(h4:T2At K H o G S)(h5:Rdw F P ws)(h6:P.length<=15)(h7:Oth G S ws)(h8:(∀kv Rr,NumOk (fq F) ws kv->Fol.Fits (vI kv) (gk (ib kv ((ws.length:eN)+1) eI P (neOf F P))) G S Rr->∃i j a e,am=eH (j,e)/\S[i]?=eH [("stretch":eZ),a,e]/\Fol.Amid (mmOf F P) (vI kv) (neOf F P) (Rr i) e j))(h9:∀t' H',Same H H'->StAt K H' t' F P G S ws->Q (.ref t') H'):spStateAS K C C2 vs H Q
def rm(K:Aa)(C C2:JA):Sp:=λvs H Q _=>spStateAS K C C2 vs H Q
theorem a63(F:Fun K "shows_against" "shows_against" a3t f fd)(u:FnOk P w K mg base (CXE P w base) 6 p dF eD (Cv.spFits K))(a:eB u "fits")(i:FnOk P w K mg base (CXE P w base) 5 v B eE (Cv.spCover K))(c:eB i "cover"):FnOk P w K mg base CX0 7 f fd ["state","other","whole"] (a18 K):=by
 refine F.okA ["state","other","whole"] λk A outer s0 H vs Q E g h _=>?_;let(t,o,d,h,m,cs,z,l,rfl,e,hd,x,r,n,s,q):=h;let b:=g.mono (j:=5) (by lia);exists _,fe (gg (i6 (qv 2)) (ff (fm (vr (oe u g rfl a.name a.keep a.bind .nil abb (fx (fj K (qv 0) fc) (fx (fj K (qv 0) fc) (fh (qv 1) ad))))))) ge)
  (ff (fm (io kx (oe i b rfl c.name c.keep c.bind .nil abb (fx (fj K (qv 0) fc) (fx (fj K (qv 0) fc) (fh (qv 1) ad)))) gj (fy _))))
 nofun
 exists _,eY,_,rfl;refine#[_,eY,t,_,0,.ref d,eY,eY,SqT.of e,eY,_,eY,t,_,1,.ref h,eY,eY,SqT.of e,eY,_,eY,d,h,o,m,cs,z,l,eY,hd,x,r,n.tell,s,λC y=>?_];exact#[_,eY,q C y]
theorem eX:3<=JB:=by decide
theorem a5b(T2:TTxt K mg C2 aM)(F:Fun K "state_against" "state_against" a3h f fd)(GO:FnOk P w K mg base CX0 3 gO dO eD (yb K C))(cO:eB GO "state_of")(GA:FnOk P w K mg base CX0 7 gA dA eE (a18 K))(cA:eB GA "shows_against"):FnOk P w K mg base CX0 8 f fd ["taking","names","other","whole"] (rm K C C2):=by
 refine F.okA ["taking","names","other","whole","amid","state"] λaN A outer s0 H vs Q E y h nd=>?_;let(qa,nl,o,td,G0,l,n,Gs,Ss,tk,dq,am,s,rfl,hT,ay,hw,ho,hR,X,hO,aD,q):=h;let aO:=ir y;let aF:=y.mono (j:=3) (by lia);exists _,fe (ip A7 rfl (a0h (i3 (jh ma (jh (gh (K:=K) rfl (qv 0)) ad)))) (j2 4 nd) (fe (gd 5 nd (gx GO aF cO (jh (gh (K:=K) rfl (qv 0)) (fh (qv 1) (fh (qv 4) ad)))))
  (ff (gg (i6 (gx GA y cA (fh (qv 5) (fh (qv 2) (fh (qv 3) ad))))) (ff (fm (i3 (gm (fx (fj K (qv 5) fc) (fx (fj K (qv 5) fc) ad)))))) ge))))
  (ff (fm gj))
 nofun
 let(p,pd,da,dx,fs,dv,h1,h2,hG):=hT.ex;intro u az;let s1:=fi az (.dK []);let aP:=hT.same s1;refine#[_,eY,qa,C2,dx,fs,.ref da,eY,s1 _ _ h1,T2.cl,T2.nA,h2.amid,eV,λtt aJ=>#[tt,eY,#[_,SqT.of fb],?_]];let s2:=fi aJ (.tup [.ref u,.ref da]);let e2:=s1.trans s2;let an:(upd (upd H u (.dK [])) tt (.tup [.ref u,.ref da])) u=eH (.dK (amK eI)):=s2 _ _ fb;let af:(upd (upd H u (.dK [])) tt (.tup [.ref u,.ref da])) da=eH (.dK (amK am)):=e2 _ _ hG.am;let aj:(upd (upd H u (.dK [])) tt (.tup [.ref u,.ref da])) tt=eH (.tup [.ref u,.ref da]):=fb;generalize upd (upd H u (.dK [])) tt (.tup [.ref u,.ref da])=H2 at e2 an af aj |-;let T:∀{kv:eL (Key×V)},NumOk (fq l) s kv->Rdx l n s kv:=λh=>hR.x h;let(pl,hd,un,fu,Dn,L,Fl,hK,hN,_):=hG.kw.ex;let eG:Same G0 H:=hT.sm;let aG:∀b,AmOk l n s b->∀kv,NumOk (fq l) s kv->(ib kv ((s.length:eN)+1) b n (neOf l n)).length<=45:=λb _ kv _=>by
  let h1:=sd kv ((s.length:eN)+1) b n (neOf l n);let h2:=sr (F:=l) X
  lia
 refine a3k (xs:=[.ref u,.ref da]) (λi σ H3=>Same H2 H3/\(∃z4 z5,σ=[rQ qa,rQ nl,rQ o,eH (.bl eJ),z4,z5])/\i<=1/\(i=1->∃kv Rr,NumOk (fq l) s kv/\kv=(numS (fq l) s).1/\Fol.Fits (vI kv) (gk (ib kv ((s.length:eN)+1) eI n (neOf l n))) Gs Ss Rr))
  #[Same.refl _,#[eI,eI,eY],AC _,λz=>by cases z] (λi σ H3 _ pv=>SqT.of (pv.1 _ _ aj)) ?_ ?_
 . rintro i v σ H3 hv ⟨e3,⟨z4,z5,rfl⟩,aR,hi⟩
   nofun
   obtain⟨b,dm,rfl,aw,hA,ao⟩:∃b dm,v=.ref dm/\H2 dm=eH (.dK (amK b))/\AmOk l n s b/\∀kv,NumOk (fq l) s kv->kv=(numS (fq l) s).1->((∃D,Fol.Fits (vI kv) (gk (ib kv ((s.length:eN)+1) b n (neOf l n))) l n D)/\∀k e,b=eH (k,e)->vI kv e≠0)/\∀Rr,Fol.Fits (vI kv) (gk (ib kv ((s.length:eN)+1) b n (neOf l n))) Gs Ss Rr->i=0/\b=eI:=by
    match i,hv,hi with
    |0,hv,_ =>
     cases hv;exact#[eI,u,eY,an,a0x,λkv hk _=>#[#[#[_,Fol.Ex.fits (T hk).ex (T hk).says],λk e z=>by cases z],λ_ _=>#[eY,eY]]]
    |1,hv,hi =>
     cases hv;let(ai,R1,av,U,I):=hi rfl;let(i',j,a,e,ha,ah,g):=aD ai R1 av I;let ac:Dom s e:=by
      let:=hO.dS _ (Aq ah);generalize y:[("stretch":eZ),a,e]=r at this;cases this with|cell=>cases y|str _ z=>cases y;exact z|tree=>cases y
     let(p',q',Y,g1,g2,g3):=g.ex;refine#[am,da,eY,af,by rw[ha];exact abm ac g.num,λkv hk hf=>?_];obtain rfl:kv=ai:=hf.trans U.symm;let mv:=(T hk).moved g.jn Y ac g.num;rw[ha];exact#[#[#[_,Fol.Ex.fits2 (T hk).ex (T hk).says g.jn Y ac g1 g2 g.nil g.num mv],λk' e' z=>by cases z;exact g.nil],λRr B=>(Fol.amid_no (T hk).ex I hO.dS ah g Y mv B).elim]
   let J:=e2.trans e3;exists _,eY,qa,C2,dx,fs,.ref p,eY,J _ _ h1,T2.cl,T2.nK,h2.kn,_,eY,_,rfl;refine#[p,nl,dm,pl,hd,un,fu,Dn,l,n,L,neOf l n,s,b,eY,hK.same (eG.trans J),hN.same (eG.trans J),sr X,J _ _ ay,by lia,e3 _ _ aw,hA,λr y=>nu (hR.dP r y),nk,Dc DD Ej,λj hj=>?_,λi hi j hj ax z=>?_,λt d h kv hp H4 e4 aK aL aQ aa hok aq Z al ae=>?_]
   . let ab:=hR.dP _ (Aq (iw hj));refine#[kb ab,λhs=>?_];generalize n.getD j []=r at ab hs;cases ab with|cell=>cases hs|str _ z=>exact z|tree=>cases hs
   . exact hR.rdy i _ (iw hi) ((jk (iw hi)).mp hi) (.inl #[j,hj,AF ax,_,iw hj,z])
   let(m,hm,N,M):=adm hok;let aB:m.length<=100:=by
    let g1:(Cv.dv m).length=m.length:=Ad ..;let g2:(li kv (Sum.inr ("nil":eZ))).length<=kv.length:=B2 _ _;let g3:=hok.len;rw[hm] at g2
    lia
   rw[hm] at Z;let((U,au),ag):=ao kv hok aq;let ak:=aG b hA kv hok;let O:=la ((T hok).places hA);let W:=a78 (T hok) hA au;generalize hcs:ib kv ((s.length:eN)+1) b n (neOf l n)=cs at U ag ak O ae W;let ap:=J.trans e4;let aH:=hO.tell hw M;refine#[_,eY,_,eY,_,eY,t,o,d,h,m,cs,Gs,Ss,eY,aa,Z,#[hp,al,ae],by lia,ho.same ap,aH,λH5 e5=>#[_,eY,iteB (λc=>?_) (λc=>?_)]]
   . let aI:¬ ∃R,Fol.Fits (Cv.num m) (gk cs) Gs Ss R:=λz=>by
      let:=(Cv.fitsB_iff (m:=m) O hO.hG (λr y=>nu (hO.dS r y))).mpr z;rw[this] at c;cases c
     refine#[_,eY,t,_,0,.ref d,eY,eY,SqT.of (e5 _ _ aa),eY,_,eY,t,_,1,.ref h,eY,eY,SqT.of (e5 _ _ aa),eY,eX,λt6 aC=>?_];let s6:=fi aC (.tup [.str "state",.ref d,.ref h]);exact q t6 _ (ap.trans (e5.trans s6)) #[d,h,m,cs,fb,s6 _ _ (e5 _ _ Z),Cv.HeapAt.same #[hp,al,ae] (e5.trans s6),O,#[#[by lia,aB],λx hx=>by rw[N];let h1:=(T hok).lt hx;exact#[h1.1,by lia],W],M,by rw[N];exact U,aI]
   let aA:Cv.fitsB m cs Gs Ss=eJ:=by simpa using c
   let(Rr,B):=(Cv.fitsB_iff (m:=m) O hO.hG (λr y=>nu (hO.dS r y))).mp aA;rw[N] at B;let(ar,aE):=ag Rr B;subst ar aE;exact#[e3.trans (e4.trans e5),#[_,_,eY],Ao _,λ_=>#[kv,Rr,hok,aq,by rw[hcs];exact B]]
 rintro σ H3 ⟨_,_,hi,_⟩;exact eR hi (show ¬ 2<=1 by decide)
theorem a53(hF:∀r∈F,gw r)(nocl:∀y,¬ Un F P y y)(h:∀(j:eO) r,P[j]?=eH r->¬ ki r (fq F) []->¬ FullR (Un F P) r->¬ lg F P (neOf F P) j r)(c:P[j]?=eH r)(k:¬ ki r (fq F) []):¬ lg F P (neOf F P) j r:=by
 intro i;by_cases f:FullR (Un F P) r
 . rcases i with⟨l,e,b,s,a,d⟩|d
   . by_cases g:FullR (Un F P) s;let u:=(jq F P).two j l r s c a (AF b) f g;exact nocl _ ((jq F P).conn _ _ _ ((iz hF _ _).mp d).symm u);exact h l s a ((jk a).mp e) g (.inl #[j,(jk c).mpr k,AF b,r,c,d.symm])
   let u:=(jq F P).nil r (Aq c) f;exact nocl _ ((jq F P).conn _ _ _ ((iz hF _ _).mp d).symm u)
 exact h j r c k f i
theorem a6m(hF:∀r∈F,gw r)(b:¬ ki r (fq F) [])(a:¬ FullR (Un F P) r):r.getD 0 ""≠"cell" /\ (¬ Conn F (place r) (end2 r))/\¬ Un F P (place r) (end2 r) :=
 #[λz=>a (.inl z),λc=>b #[λz=>a (.inl z),(iz hF _ _).mpr c],λu=>a (.inr u)]
def prs:eU->eT
 |[]=>[]
 |x::l=>l.map (λy=>(x,y))++prs l
theorem a3s:∀{l:eU}{a b:eZ},a∈l->b∈l->a≠b->(a,b)∈prs l\/(b,a)∈prs l
 |x::l,a,b,ha,hb,hne=>by
  rcases Ak.mp ha with rfl|d;rcases Ak.mp hb with z|c;exact eR z.symm hne;exact .inl (Ab.mpr (.inl (Au.mpr #[b,c,eY])))
  rcases Ak.mp hb with rfl|c;exact .inr (Ab.mpr (.inl (Au.mpr #[a,d,eY])));exact(a3s d c hne).imp (λz=>Ab.mpr (.inr z)) (λz=>Ab.mpr (.inr z))
theorem acn:∀{l:eU},l.length=6->(prs l).length<=15
 |[a,b,c,d,e,f],_=>by simp[prs]
def Open(F P:eS)(a b:eZ):Prop := ¬ Conn F a b/\¬ Un F P a b
open Classical in
def cnt(F P:eS)(xs:eU):eO:=(prs xs).countP λp=>decide (Open F P p.1 p.2)
theorem zf:∀{l:eL α},(∀x∈l,q x=eJ->p x=eJ)->(∃x∈l,p x=eJ/\q x=eK)->l.countP q<l.countP p
 |[],_,h=>by let(x,a,_):=h;cases a
 |y::l,h1,h2=>by
  let mono:l.countP q<=l.countP p:=List.countP_mono_left λx a=>h1 x (Ah _ a);let(x,a,hp,c):=h2;let d:=h1 y (Af ..);rw[Ig,Ig];rcases Ak.mp a with rfl|b;rw[hp,c];simp;lia
  let:=zf (l:=l) (λx a=>h1 x (Ah _ a)) #[x,b,hp,c];cases hqy:q y with|false=>simp;split<;>lia|true=>rw[d hqy];simp;lia
theorem yf(h:∀r∈F,r∈d)(c:Conn F a b):Conn d a b:=by
 induction c with|refl x=>exact .refl x|fact hf=>exact .fact (h _ hf)|symm _ ih=>exact ih.symm|trans _ _ i1 i2=>exact i1.trans i2
theorem aci(h:∀r∈F,r∈g)(u:Un F P a b):Un g P a b:=λR C=>u R #[λu v e=>C.fact u v (h _ e),C.symm,λa b c d f=>C.conn a b c (yf h d) f,C.nil,C.two]
open Classical in
theorem a6e{k:eZ}(i:k="is" \/ k="not")(hp:p∈xs)(m:q∈xs)(f:Open F P p q):cnt (F++[[k,p,q]]) P xs<cnt F P xs:=by
 let a:∀r∈F,r∈F++[[k,p,q]]:=λr l=>Ab.mpr (.inl l);let e:[k,p,q]∈F++[[k,p,q]]:=Ab.mpr (.inr (Ae.mpr rfl));let g:p≠q:=λz=>f.1 (z ▸ .refl p);let h:Open F P q p:=#[λc=>f.1 c.symm,λu=>f.2 ((jq F P).symm _ _ u)]
 let d:¬ Open (F++[[k,p,q]]) P p q:=λz=>by
  rcases i with rfl|rfl;exact z.1 (.fact e);exact z.2 ((jq _ _).fact _ _ e)
 let b:¬ Open (F++[[k,p,q]]) P q p:=λz=>d #[λc=>z.1 c.symm,λu=>z.2 ((jq _ _).symm _ _ u)];unfold cnt;refine zf (λx _ j=>?_) ?_;let:=fC j;exact fB #[λc=>this.1 (yf a c),λu=>this.2 (aci a u)]
 rcases a3s hp m g with z|z;exact#[_,z,fB f,fA d];exact#[_,z,fB h,fA b]
abbrev a0t:JJ:=top 29
abbrev a11:JJ:=top 30
abbrev ab5:JJ:=top 31
abbrev yo:JJ:=top 32
structure Gd(xs ws:eU)(F P G S:eS):Prop where
 facts:∀r∈F,gw r
 dF:∀r∈F,∀x∈r.drop 1,Dom ws x
 dP:∀r∈P,Fol.PartD (Dom ws) r
 any:¬ Dom ws "any"
 len:P.length<=15
 oth:Oth G S ws
 wx:∀x,Dom ws x->x∈xs
 wl:ws.length<=60
theorem Gd.parts(h:Gd xs b F P G S):∀r∈P,PartRow r:=λr a=>nu (h.dP r a)
theorem Gd.more(h:Gd xs c F P G S)(i:gw [k,a,b])(g:Dom c a)(f:Dom c b):Gd xs c (F++[[k,a,b]]) P G S :=
 #[λs d=>by
  rcases Ab.mp d with z|z;exact h.facts s z;rw[Ae.mp z];exact i,λs d=>by
  rcases Ab.mp d with z|z;exact h.dF s z
  rw[Ae.mp z];intro x e;rcases Ak.mp e with rfl|e;exact g
  rw[Ae.mp e];exact f,h.dP,h.any,h.len,h.oth,h.wx,h.wl]
def PaperAt(H:Hp)(t:JA):Prop:=∃z ys,H t=eH (.tup [.str "paper",.ref z])/\H z=eH (.tup ys)
theorem PaperAt.same(h:PaperAt H t)(e:Same H H'):PaperAt H' t:=by
 let(z,ys,h1,h2):=h;exact#[z,ys,e _ _ h1,e _ _ h2]
inductive AnsAt(K:Aa)(H:Hp)(t:JA)(F P G S:eS)(ws:eU):Prop
 |paper (h:PaperAt H t)(f:m9 F P G S)
 |state (h:StAt K H t F P G S ws)
inductive spShownS(K:Aa)(n:eO)(vs:eL V)(H:Hp)(Q:VK):Prop
 |mk (o t nl:JA)(xs ws:eU)(F P G S:eS)(h0:vs=[.ref o,.ref t,.ref nl,.bl eJ])(h1:T2At K H o F P)(h2:T2At K H t G S)(h3:H nl=eH (.lst (ws.map V.str)))(h4:Gd xs ws F P G S)(h5:F.length+n<=90)(h6:cnt F P xs<=n)(h7:∀t' H',Same H H'->AnsAt K H' t' F P G S ws->Q (.ref t') H'):spShownS K n vs H Q
def ug(K:Aa)(n:eO):Sp:=λvs H Q _=>spShownS K n vs H Q
inductive spSplitS(K:Aa)(n:eO)(vs:eL V)(H:Hp)(Q:VK):Prop
 |mk (o t nl pr:JA)(xs ws:eU)(F P G S:eS)(a b:eZ)(h0:vs=[.ref o,.ref t,.ref nl,.bl eJ,.ref pr])(h1:T2At K H o F P)(h2:T2At K H t G S)(h3:H nl=eH (.lst (ws.map V.str)))(h4:Gd xs ws F P G S)(h5:F.length+n<=90)(h6:cnt F P xs<=n)(h7:H pr=eH (.tup [.str a,.str b]))(h8:Dom ws a)(h9:Dom ws b)(h10:Open F P a b)(h11:∀t' H',Same H H'->AnsAt K H' t' F P G S ws->Q (.ref t') H'):spSplitS K n vs H Q
def xh(K:Aa)(n:eO):Sp:=λvs H Q _=>spSplitS K n vs H Q
def wd2(i:eO):eZ:=if i=0 then "is" else "not"
theorem a8r(F:Fun K "split_paper" "split_paper" a0t f fd)(GS:FnOk P w K mg base CX0 m gS dSnn eD (ug K n))(cS:eB GS "shown"):FnOk P w K mg base CX0 (m+1) f fd ["one","other","names","whole","pair"] (xh K (n+1)):=by
 refine F.okA ["one","other","names","whole","pair","answers","word","answer"] λaH A outer s0 H vs Q E hr h nd=>?_;let(o,t,nl,pr,xs,ws,Fs,Ps,Gs,Ss,a,b,rfl,(fa,pa,ho,av,ap),ht,ao,hG,aI,aJ,ab,ha,hb,al,q):=h;let aj:=ir hr;exists _,fe (gd 5 nd (iu ad))
  (fe (ip A7 rfl (a0h (i3 (gm (gm ad)))) (j2 6 nd) (fe (gd 7 nd (gx GS hr cS (jt (l8 (gc ke (fj K (qv 0) fc) (iu (jt (fh (qv 6) (fx (fj K (qv 4) fc) (fx (fj K (qv 4) fc) ad))) ad))) (fx (fj K (qv 0) fc) ad)) (fh (qv 1) (fh (qv 2) (fh (qv 3) ad))))))
  (fe (gg (QW.qt (ls (fz xt (qv 7) gj (fy _)) (lb (fz gq (fj K (qv 7) fc) gt (fy _))))) (ff (fm (qv 7))) ge)
  (ff (il (kz (K:=K) rfl AK By Bz jw (qv 5) (fh (qv 7) ad)))))))
  (fe (gg (fz (aar (K:=K) rfl aj) gj (qv 5) (by with_unfolding_all rfl)) (ff (fm gj)) ge)
  (ff (fm (i3 (gm (jt (gm (fx (fj K (qv 4) fc) (fx (fj K (qv 4) fc) (fx (fj K (i7 K (qv 5) fc) fc) (fx (fj K (i7 K (qv 5) fc) fc) ad))))) ad)))))))
 nofun
 refine#[(show 0<=JB by decide),λD hD=>?_];let s1:=fi hD (.lst []);refine#[eV,λtt ag=>?_];let s2:=fi ag (.tup [.str "is",.str "not"]);let an:D≠tt:=gb fb ag;exists tt,eY,#[_,SqT.of fb];let(j,az,W):=av;let aO:=A4 W;refine a3k (xs:=[.str "is",.str "not"]) (λi σ e=>∃(r:eL JA) (T z2:eM V),σ=[rQ o,rQ t,rQ nl,eH (.bl eJ),rQ pr,rQ D,T,z2]/\Same H e/\e tt=eH (.tup [.str "is",.str "not"])/\e D=eH (.lst (r.map V.ref))/\r.length=i/\(∀t∈r,PaperAt e t)/\∀k,k<i->m9 (Fs++[[wd2 k,a,b]]) Ps Gs Ss)
  #[[],eI,eI,eY,s1.trans s2,fb,s2 _ _ fb,eY,λt h=>(As h).elim,λk J=>eR J (FT _)] (λi σ e _ pv=>by let(_,_,_,_,_,h,_):=pv;exact SqT.of h) ?_ ?_
 . rintro i v σ e hv ⟨r,T,z2,rfl,M,Y,g,L,p,x⟩
   nofun
   obtain⟨k,rfl,J⟩:∃k:eZ,v=.str k/\k=wd2 i:=by
    match i,hv with
    |0,hv=>cases hv;exact#[_,eY,eY]
    |1,hv=>cases hv;exact#[_,eY,eY]
   let ak:=J
   replace J:k="is" \/ k="not" := by
    rw[J];unfold wd2;by_cases c:i=0;rw[eQ c];exact .inl rfl;rw[eP c];exact .inr rfl
   let aK:i<2:=(An.mp hv).1;let aq:SqT K e o [.ref fa,.ref pa]:=M.seqT ho;let d:SqT K e pr [.str a,.str b]:=SqT.of (M _ _ ab);refine#[_,eY,o,_,0,.ref fa,eY,eY,aq,eY,_,eY,_,eY,pr,_,0,.str a,eY,eY,d,eY,_,eY,pr,_,1,.str b,eY,eY,d,eY,eX,λs ax=>?_];let U:=fi ax (.tup [.str k,.str a,.str b]);refine#[eW,λl4 am=>?_];let I:=fi am (.lst [.ref s]);let af:=I _ _ (fb (H:=e) (a:=s) (o:=.tup [.str k,.str a,.str b]));refine#[fa,l4,_,_,eY,eY,I _ _ (U _ _ (M _ _ az)),fb,?_,λl5 aB=>?_];rw[Ad,A2];exact j7 (show j.length+1<=1000 by lia)
   let s5:=fi aB (.lst (j.map V.ref++[.ref s]));let e5:=M.trans (U.trans (I.trans s5));let X:=U.trans (I.trans s5);let ae:=s5 _ _ af;let B:=fb (H:=upd (upd e s (.tup [.str k,.str a,.str b])) l4 (.lst [.ref s])) (a:=l5) (o:=.lst (j.map V.ref++[.ref s]));generalize upd (upd (upd e s (.tup [.str k,.str a,.str b])) l4 (.lst [.ref s])) l5 (.lst (j.map V.ref++[.ref s]))=H5 at e5 X ae B |-;refine#[_,rfl,o,_,1,.ref pa,rfl,rfl,e5.seqT ho,rfl,eV,λo6 aF=>?_];let s6:=fi aF (.tup [.ref l5,.ref pa]);let Z:=e5.trans s6;let au:gw [k,a,b]:=#[k,a,b,eY,J]
   let T6:T2At K (upd H5 o6 (.tup [.ref l5,.ref pa])) o6 (Fs++[[k,a,b]]) Ps:=by
    refine#[l5,pa,SqT.of fb,#[j++[s],?_,?_],ap.same Z];rw[s6 _ _ B,Av];rfl;refine Paired.app (ig Z W) (.cons ?_ .nil);exact SqT.of (s6 _ _ ae)
   let aP:=a6e J (hG.wx _ ha) (hG.wx _ hb) al;refine#[_,eY,_,eY,_,eY,o6,t,nl,xs,ws,Fs++[[k,a,b]],Ps,Gs,Ss,eY,T6,ht.same Z,Z _ _ ao,hG.more au ha hb,(by rw[Ai,A2];lia),(by lia),λt7 H7 e7 p7=>?_];let O:=X.trans (s6.trans e7);let ac:=Z.trans e7;rcases p7 with⟨⟨zz,ys,l,N⟩,aG⟩|⟨d7,h7,m7,ai,l,N,aD,ah,aE,ar,⟨D7,aC⟩,aA⟩
   rotate_left
   . exists _,eY,eY,_,rfl;exists _,eY,t7,_,0,.str "state",eY,eY,SqT.of l,eY,eY,_,rfl;exact#[_,eY,q t7 H7 ac (.state #[d7,h7,m7,ai,l,N,aD,ah,aE,ar,#[D7,a7u aC],aA])]
   exists _,eY,eY,_,rfl;exists _,eY,t7,_,0,.str "paper",eY,eY,SqT.of l,eY,eY,_,rfl;let u:=O _ _ g;exists _,eY,.inl #[eY,_,SqL.of u],_,eY,D,_,_,eY,eY,u,?_;rw[Ad];exact AH (show r.length<=2 by lia) (by decide)
   let aa:∀{t:JA},PaperAt H7 t->PaperAt (upd H7 D (.lst (r.map V.ref++[.ref t7]))) t:=λ{t} ⟨z,ys,g1,g2⟩=>#[z,ys,by rw[fg (j1 g1 u (λz=>nomatch z))];exact g1,by rw[fg (j1 g2 u (λz=>nomatch z))];exact g2]
   refine#[r++[t7],_,_,eY,ia hD ac _,?_,?_,?_,λt' R=>?_,λk2 aL=>?_];rw[fg (AF an)];exact O _ _ Y;rw[fb,Av];rfl;rw[Ai,A2,L];rcases Ab.mp R with z|z;exact aa ((p t' z).same O);rw[Ae.mp z];exact aa #[zz,ys,l,N]
   by_cases c:k2=i;rw[c,<- ak];exact aG;exact x k2 (by lia)
 rintro σ e ⟨r,T,z2,rfl,M,Y,g,L,p,x⟩;obtain⟨C,y,rfl⟩:∃C y,r=[C,y]:=by
  match r,L with
  |[C,y],_=>exact#[C,y,eY]
 let(a1,y1,g1,aM):=p C (Af ..);let(a2,y2,g2,aN):=p y (Ah _ (Af ..));exists _,eY,D,[C,y],eY,eY,SqL.of g,λt' R=>?_,_,rfl;let(z,ys,h,_):=p t' R;exact#[_,SqT.of h]
 let d:SqT K e pr [.str a,.str b]:=SqT.of (M _ _ ab);refine#[_,eY,pr,_,0,.str a,eY,eY,d,eY,_,eY,pr,_,1,.str b,eY,eY,d,eY,_,eY,D,_,0,.ref C,eY,eY,SqL.of g,eY,C,_,1,.ref a1,eY,eY,SqT.of g1,eY,_,eY,D,_,1,.ref y,eY,eY,SqL.of g,eY,y,_,1,.ref a2,eY,eY,SqT.of g2,eY,(show 5<=JB by decide),λT ay=>?_];refine#[eV,λz2 aw=>?_];let U:=fi ay (.tup [.str "split",.str a,.str b,.ref a1,.ref a2]);let I:=fi aw (.tup [.str "paper",.ref T]);exact q z2 _ (M.trans (U.trans I)) (.paper #[T,_,fb,I _ _ fb] (zh (x 0 (show 0<2 by decide)) (x 1 (show 1<2 by decide))))
theorem a1a(Cn:Con K mg w)(En:mg "enumerate"=eI)(T:Txt K mg C fI)(T2:TTxt K mg C2 aQ)(F:Fun K "shown" "shown" a11 f fd)(GI:FnOk P w K mg base CX0 5 fI dI ["self","facts","parts"] (xp K C))(bI:Binds K dI ["self","facts","parts"] [])(GJ:FnOk P w K mg base CX0 1 aQ dJ ["self","knowledge","parts"] (ww K C C2))(bJ:Binds K dJ ["self","knowledge","parts"] [])(GC:FnOk P w K mg base CX0 1 gC dC eD (xa C))(cC:eC GC C "clashing")(GO:FnOk P w K mg base CX0 4 gO dO eE (xi K C))(cO:eC GO C "open_ends")(GR:FnOk P w K mg base CX0 8 gR dR eF (ux K C C2))(cR:eC GR C2 "rows_of")(GL:FnOk P w K mg base CX0 1 gL dL ["self"] (v6 K C C2))(cL:MCal K C2 "leaves_some" gL dL ["self"])(GA:FnOk P w K mg base CX0 8 gA dA ["taking","names","other","whole"] (rm K C C2))(cA:Cal K mg "state_against" gA dA ["taking","names","other","whole"])(hm:8<=m)(GS:FnOk P w K mg base CX0 m gS a7 ["one","other","names","whole","pair"] (xh K n))(cS:Cal K mg "split_paper" gS a7 ["one","other","names","whole","pair"]):FnOk P w K mg base CX0 (m+1) f fd ["one","other","names","whole"] (ug K n):=by
 refine F.okA ["one","other","names","whole","knowledge","pair","taking","rows"] λba A outer s0 H vs Q E M h nd=>?_;let(o,t,nl,xs,X,k,l,Gs,Ss,rfl,(fa,pa,ho,ap,ab),ht,an,hG,ax,aF,q):=h;let bc:=ir M;let aO:=M.mono (j:=1) (by lia);let a3:=M.mono (j:=4) (by lia);let aW:=M.mono (j:=2) (by lia);let a0:=M.mono (j:=6) (by lia);let bj:=M.mono (j:=7) (by lia);let aL:=M.mono (j:=8) (by lia);exists _,fe (gd 4 nd (a2r T.mkC GI a0 rfl T.mgC bI .nil gn (fx (fj K (qv 0) fc) (fx (fj K (qv 0) fc) ad))))
  (fe (gg (i6 (rk (qv 4) T.cl cC.meth GC aO cC.bind .nil gn)) (ff (fm (i3 (gm (jt (gm ad) ad))))) ge)
  (fe (gd 5 nd (rk (qv 4) T.cl cO.meth GO a3 cO.bind .nil gn))
  (fe (gg (fz kx (qv 5) gj (fy _)) (fe (gd 6 nd (a2r T2.mkC GJ aW rfl T2.mgC bJ .nil gn (fh (qv 4) (ii (aa2 rfl rfl Cn.dict rfl En (fx (fj K (qv 0) fc) ad)) ad))))
  (fe (gd 7 nd (gi (qv 6) T2.cl cR.meth GR aL cR.bind .nil gn (fh (qv 1) ad)))
  (fe (gg (QW.qt (jg (fz kx (qv 7) gj (fy _)) (jp (QW.qt (ls (i6 (qv 3)) (lb (i6 (rk (qv 6) T2.cl cL.meth GL aO cL.bind .nil gn)))))))) (ff (fm (gx GA aL cA (fh (qv 6) (fh (qv 2) (fh (qv 1) (fh (qv 3) ad))))))) ge)
  (fe (gd 5 nd (gh (K:=K) rfl (qv 6)))
  (ff (gg (fz kx (qv 5) gj (fy _)) (ff (fm (i3 (gm (jt (gm (fh (qv 7) ad)) ad))))) ge)))))) ge)
  (ff (fm (gx GS M cS (fh (qv 0) (fh (qv 1) (fh (qv 2) (fh (qv 3) (fh (qv 5) ad)))))))))))
 nofun
 let(Z,aV,aP):=id ab;let bi:=A4 aP;let s:=hG.len;refine#[_,eY,o,_,0,.ref fa,eY,eY,ho,eY,_,eY,o,_,1,.ref pa,eY,eY,ho,eY,λx dx hx aU bh=>?_];let s1:Same H (upd (upd H dx (.own x)) x (.ins C dx [])):=λb o N=>by rw[fg (gb N hx),fg (gb N aU)];exact N
 refine#[x,dx,fa,pa,k,l,eY,fb,ap.same s1,by lia,hG.facts,ab.same s1,s,hG.parts,λpl hd un fu L Fl D ae Y H2 k2 KS ay A G ag aI KF hD hL=>#[eY,?_]];let e2:Same H H2:=λb o N=>k2 b o (s1 _ _ N) (λz=>by let z':b=x:=z;rw[z',hx] at N;cases N);let kw:KwAt K C H2 x k l:=#[pl,hd,un,fu,D,L,Fl,KS,#[#[ae,Y,ag,KF,aI],hD],ay,A,G,hL]
 let((hm,uk,KN,hok,af),_,_):=id KS;let ak:∀{a b:eZ},Told (fq k) L a b↔Un k l a b:=λ{a b}=>a7f hG.facts A G.sound;let full:∀{j:eO} {r:eU},l[j]?=eH r->(j∈Fl↔FullR (Un k l) r):=λ{j r} h=>#[λz=>by
  let(r',h1,h2):=G.isf j z;rw[h] at h1;cases h1;exact h2,λz=>A.full j r h (z.mono λa b u=>xu hG.facts A u)]
 let bg:=af.len;refine#[_,eY,x,ae,Y,eY,ag,KF.meth "clashing" (by decide),x,pl,hd,un,fu,hm,uk,eY,KN,af.pr,by lia,λH3 e3=>#[_,eY,iteB (λc=>?_) (λc=>?_)]];refine#[eW,λz1 ar=>#[eV,λz2 aq=>?_]];let s4:=fi ar (.tup [.str "clash"]);let s5:=fi aq (.tup [.str "paper",.ref z1]);let(y,hy):=(a6n af).mp c;exact q z2 _ (e2.trans (e3.trans (s4.trans s5))) (.paper #[z1,_,fb,s5 _ _ fb] (zj (ak.mp hy)))
 let nocl:∀y,¬ Un k l y y:=λy z=>by
  let:=(a6n af).mpr #[y,ak.mpr z];rw[c] at this;cases this
 let aG:=e2.trans e3;let aY:=kw.same e3;refine#[_,eY,x,ae,Y,eY,e3 _ _ ag,KF.meth "open_ends" (by decide),x,pl,hd,un,fu,D,k,l,L,Fl,neOf k l,eY,KS.same e3,(NeAt.mk #[ae,Y,ag,KF,aI] hD).same e3,e3 _ _ ay,sr s,nk,hG.parts,λH4 e4 a2=>?_,λj r pr H4 e4 hj B hf hs ao=>?_]
 . let R:Rdw k l X:=#[hG.facts,hG.dF,hG.dP,hG.any,nocl,λj r B av=>a53 hG.facts nocl (λj r B av aM=>a2 j ((jk B).mpr av) r B (λz=>aM ((full B).mp z))) B av]
   let p:=aG.trans e4;let aZ:=aY.same e4;exists _,eY,eY,_,rfl;refine#[_,eY,_,eY,o,_,1,.ref pa,eY,eY,p.seqT ho,eY,pa,_,eY,p _ _ aV,(by rw[Ad];lia),λpd aR=>?_];let s5:=fi aR (.dK (kvE 0 (Z.map V.ref)));let U:=p.trans s5;refine λy dy hy aE a9=>?_;let ai:=fb (H:=H4) (a:=pd) (o:=.dK (kvE 0 (Z.map V.ref)));let aC:=aZ.same s5;generalize upd H4 pd (.dK (kvE 0 (Z.map V.ref)))=H5 at s5 U hy aE ai aC |-;let s6:Same H5 (upd (upd H5 dy (.own y)) y (.ins C2 dy [])):=λb o N=>by rw[fg (gb N hy),fg (gb N aE)];exact N
   refine#[y,dy,x,pd,H5,k,l,Z,eY,fb,s6,hy,aC,ai,ig U aP,λtd H7 k7 al=>#[eY,?_]];let aX:Same H5 H7:=al.sm;let a1:=U.trans aX;let(p',bb,bm,a8,aT,be,g1,g2,_):=al.ex;let O:=hG.oth;let au:∀r∈Ss,PartRow r:=λr M=>nu (O.dS r M);let bn:=O.six;let ac:∀{kv:eL (Key×V)} {Rr:eO->eL eN},NumOk (fq k) X kv->Fol.Fits (vI kv) (gk (ib kv ((X.length:eN)+1) eI l (neOf k l))) Gs Ss Rr->_:=λhk hf=>(R.x hk).first s O.dS O.hG O.dG hf
   let ah:∀{tk:eL eO} {dq:eT} {am:eM (eO×eZ)} {H8:Hp},TkAt K C C2 H5 H8 y td k l tk dq am->(∀kv Rr,NumOk (fq k) X kv->Fol.Fits (vI kv) (gk (ib kv ((X.length:eN)+1) eI l (neOf k l))) Gs Ss Rr->∃i j a e,am=eH (j,e)/\Ss[i]?=eH [("stretch":eZ),a,e]/\Fol.Amid (mmOf k l) (vI kv) (neOf k l) (Rr i) e j)->
    rm K C C2 [.ref y,.ref nl,.ref t,.bl eJ] H8 (λv H'=>Q v H') E0:=λ{tk dq am H8} g hx=>by
    let e8:=U.trans g.sm;exact#[y,nl,t,td,H5,k,l,Gs,Ss,tk,dq,am,X,eY,g,e8 _ _ an,hG.wl,ht.same e8,R,s,O,hx,λt' H' e' p'=>q t' H' (e8.trans e') (.state p')]
   refine#[_,eY,y,a8,aT,eY,g1,g2.meth "rows_of" (by decide),_,eY,H5,y,td,t,k,l,Gs,Ss,eY,al,#[hG.facts,hG.parts,s],ht.same a1,O.hG,au,O.gl,by lia,λhf H8 aA k8 g=>?_,λhf=>#[λaw qs d Dr ys H8 k8 g bk=>?_,λi j d H8 a6 aA k8 g=>?_,λd H8 a6 aA k8 g=>?_]];exists _,eY,eY,_,rfl;exact#[_,eY,_,eY,_,eY,_,eY,ah g λkv Rr hk J=>by rw[(ac hk J).1] at hf;cases hf]
   . exists _,eY,eY,_,rfl;let(p8,bd,bf,aH,aN,aD,g3,g4,g5):=g.ex;exists _,eY,_,rfl;refine#[_,eY,y,aH,aN,eY,g3,g4.meth "leaves_some" (by decide),H5,y,td,k,l,_,_,_,eY,g,s,λb H9 e9 N=>#[_,eY,?_]];let az:=g.same e9;cases b with
     |true =>
      refine#[_,eY,_,eY,_,eY,_,eY,ah az λkv Rr hk J=>?_];let(j,hj,hn):=N.mp rfl;rcases(ac hk J).2 with⟨aj,q',h1,h2⟩|⟨i,j',a,e,h1,_⟩
      . rw[d] at h1;cases h1;exact eR (h2 j hj) hn
      rw[d] at h1;cases h1
     |false =>
      let aB:∀j∈neOf k l,j∈aw.flatten:=λj hj=>by
       by_cases c:j∈aw.flatten;exact c;let:=N.mpr #[j,hj,c];cases this
      let a5:=az.sm;let I:=U.trans a5;exists _,eY,y,C2,aH,aN,aD,eY,e9 _ _ g3,T2.cl,T2.nD,g4.doubt;let aa:=g5.db.same λt xs z=>e9 _ _ z;cases hd:dbt k l (ms Gs++qs) with
      |none =>
       rw[hd] at aa;obtain rfl:aD=.non:=aa;exists _,eY,eY,_,rfl;refine#[_,eY,eV,λz1 ar=>#[eV,λz2 aq=>?_]];let s4:=fi ar (.tup [.str "cover",.ref Dr]);let aJ:=fi aq (.tup [.str "paper",.ref z1]);exact q z2 _ (I.trans (s4.trans aJ)) (.paper #[z1,_,fb,aJ _ _ fb] (zm hG.facts au hf d hd aB))
      |some pq =>
       rw[hd] at aa;let(pr,rfl,ao):=aa;let(o1,o2,w1,w2):=aa5 hG.facts au O.hG hf d hd (W:=Dom X) (λr M=>#[kb (hG.dP r M),p9 (.inl rfl) (hG.dP r M)]) (λr M=>p9 (.inl rfl) (O.dS r M)) O.dG;exists _,eY,eY,_,rfl;exact#[_,eY,_,eY,_,eY,_,eY,_,eY,o,t,nl,pr,xs,X,k,l,Gs,Ss,_,_,eY,#[fa,pa,I.seqT ho,ap.same I,ab.same I],ht.same I,I _ _ an,hG,ax,aF,ao,w1,w2,#[o1,o2],λt' H' e' p'=>q t' H' (I.trans e') p']
   . exists _,eY,eY,_,rfl;refine#[_,eY,_,eY,_,eY,_,eY,ah g λkv Rr hk J=>?_];rcases(ac hk J).2 with⟨aj,q',h1,h2⟩|⟨i',j',a,e,h1,h2,h3⟩
     . rw[d] at h1;cases h1
     rw[d] at h1;cases h1;exact#[i,j,a,e,by rw[Fol.some_getD h2,Fol.end2_str],h2,h3]
   exists _,eY,eY,_,rfl;refine#[_,eY,_,eY,_,eY,_,eY,ah g λkv Rr hk J=>?_];rcases(ac hk J).2 with⟨aj,q',h1,h2⟩|⟨i',j',a,e,h1,h2,h3⟩
   . rw[d] at h1;cases h1
   rw[d] at h1;cases h1
 let p:=aG.trans e4;exists _,eY,eY,_,rfl;let(_,aS,a4):=a6m hG.facts ((jk B).mp hj) (λz=>hf ((full B).mpr z));let aK:=hG.dP r (Aq B);exact#[_,eY,_,eY,_,eY,_,eY,_,eY,o,t,nl,pr,xs,X,k,l,Gs,Ss,_,_,eY,#[fa,pa,p.seqT ho,ap.same p,ab.same p],ht.same p,p _ _ an,hG,ax,aF,ao,kb aK,p9 (.inl rfl) aK,#[aS,a4],λt' H' e' p'=>q t' H' (p.trans e') p']
structure WdOk(ws:eU)(F P:eS):Prop where
 f:jj F
 p:jj P
 ne:∀r∈F++P,r≠[]
 w:∀y∈i5 (F++P),y∈ws
inductive spBothS(K:Aa)(vs:eL V)(H:Hp)(Q:VK):Prop
 |mk (o t:JA)(ws:eU)(F P G S:eS)(h0:vs=[.ref o,.ref t])(h1:T2At K H o F P)(h2:T2At K H t G S)(h3:WdOk ws F P)(h4:WdOk ws G S)(h5:ws.length<=20)(h6:∀p (zs:eU) H',Same H H'->H' p=eH (.lst (zs.map V.str))->(∀y,y∈zs↔y∈i5 (F++P)\/y∈i5 (G++S))->zs.length<=40->Q (.ref p) H'):spBothS K vs H Q
def a84(K:Aa):Sp:=λvs H Q _=>spBothS K vs H Q
section
theorem acy(C:Con K mg w)(F:Fun K "names_of_both" "names_of_both" ab5 f fd)(u:FnOk P w K mg base CX0 1 gN Y eD (a1h K))(g:eB u "names_of"):FnOk P w K mg base CX0 2 f fd ["one","other"] (a84 K):=by
 refine F.okA ["one","other"] λD A outer s0 H vs Q E v h _=>?_;let(o,t,T,Fs,X,Gs,J,rfl,M,ht,a,b,N,q):=h;exists _,(ff (fm (gr (pp rfl) rfl C.sorted FG (ii (j6 (a07 rfl) rfl C.set Eo (l8 (gc ke (gx u v g (fh (qv 0) ad)) (gx u v g (fh (qv 1) ad))) ad)) ad))));refine#[_,eY,o,Fs,X,eY,M.tell,a.f,a.p,a.ne,λj hn r=>by let:=mx hn λy c=>a.w y (r y c);lia,λW e H1 Z B g1 n1 x _=>?_];refine#[_,eY,t,Gs,J,eY,(ht.same B).tell,b.f,b.p,b.ne,λj hn r=>by let:=mx hn λy c=>b.w y (r y c);lia,λI d H2 ab s R n2 z _=>?_];let l1:=mx n1 λy c=>a.w y ((x y).mp c);let l2:=mx n2 λy c=>b.w y ((z y).mp c);refine#[W,I,_,_,eY,eY,s _ _ g1,R,?_,λO l=>?_];rw[Ad,Ad];exact j7 (show e.length+d.length<=1000 by lia)
 let L:=fi l (.lst (e.map V.str++d.map V.str));refine#[O,e++d,eY,SqL.of (by rw[fb,Av]),?_,λp4 j m hd=>?_];rw[Ai];exact AH (show e.length+d.length+1<=41 by lia) (by decide)
 let U:=fi m (SetO P w p4 j);let aa:j.length<=40:=by let:=mx hd.nodup (λy c=>(hd.mem y).mp c);rw[Ai] at this;lia
 refine#[p4,j,eY,fb,by lia,λp5 n k i _=>?_];refine q p5 n _ (B.trans (s.trans (L.trans (U.trans (fi k _))))) fb (λy=>?_) (by rw[i.length_eq];lia);rw[i.mem_iff,hd.mem y,Ab,x y,z y]
theorem a6i(J:Con K mg w)(q:mg "enumerate"=eI)(T:Txt K mg C N)(e:TTxt K mg C2 d)(F:Fun K "shown" "shown" a11 p c)(O:Fun K "split_paper" "split_paper" a0t fP dP)(x:FnOk P w K mg base CX0 5 N L ["self","facts","parts"] (xp K C))(B:Binds K L ["self","facts","parts"] [])(y:FnOk P w K mg base CX0 1 d dJ ["self","knowledge","parts"] (ww K C C2))(f:Binds K dJ ["self","knowledge","parts"] [])(g:FnOk P w K mg base CX0 1 U dC eD (xa C))(l:eC g C "clashing")(i:FnOk P w K mg base CX0 4 Y dO eE (xi K C))(I:eC i C "open_ends")(v:FnOk P w K mg base CX0 8 M dR eF (ux K C C2))(z:eC v C2 "rows_of")(D:FnOk P w K mg base CX0 1 R dL ["self"] (v6 K C C2))(k:MCal K C2 "leaves_some" R dL ["self"])(j:FnOk P w K mg base CX0 8 W dA ["taking","names","other","whole"] (rm K C C2))(u:Cal K mg "state_against" W dA ["taking","names","other","whole"])(X:Cal K mg "shown" p c ["one","other","names","whole"])(r:Cal K mg "split_paper" fP dP ["one","other","names","whole","pair"]):∀n,FnOk P w K mg base CX0 (2*n+9) p c ["one","other","names","whole"] (ug K n):=by
 intro n;induction n with
 |zero =>
  let no:∀{vs:eL V} {H:Hp} {Q:VK} {E:XK},¬ xh K 0 vs H Q E:=λ⟨o,t,nl,pr,xs,ws,F,P,G,S,a,b,_,_,_,_,hG,_,h1,_,h2,h3,Z,_⟩=>by
   let:=a6e (.inl rfl) (hG.wx _ h2) (hG.wx _ h3) Z
   lia
  exact a1a J q T e F x B y f g l i I v z D k j u (m:=8) (Ao _) #[λvs H Q E h=>eR h no,λA outer s H args us vs Q E _ _ _ _ h=>eR h no] r
 |succ n ih=>exact a1a J q T e F x B y f g l i I v z D k j u (m:=2*n+10) (by lia) (a8r O ih X) r
variable{P:JQ} in
inductive spFollowedS(K:Aa)(vs:eL V)(H:Hp)(Q:VK):Prop
 |mk (o t:JA)(ws xs:eU)(F P G S:eS)(h0:vs=[.ref o,.ref t])(h1:T2At K H o F P)(h2:T2At K H t G S)(h3:WdOk ws F P)(h4:WdOk ws G S)(h5:ws.length<=20)(h6:F.length<=50)(h7:xs.length=6)(h8:(∀zs:eU,(∀y,y∈zs↔y∈i5 (F++P)\/y∈i5 (G++S))->zs.length<=40->Gd xs zs F P G S))(h9:∀t' (zs:eU) H',Same H H'->(∀y,y∈zs↔y∈i5 (F++P)\/y∈i5 (G++S))->AnsAt K H' t' F P G S zs->Q (.ref t') H'):spFollowedS K vs H Q
def we(K:Aa):Sp:=λvs H Q _=>spFollowedS K vs H Q
theorem a20(F:Fun K "followed" "followed" yo f fd)(J:FnOk P w K mg base CX0 2 B I eD (a84 K))(b:eB J "names_of_both")(M:FnOk P w K mg base CX0 39 L i eE (ug K 15))(e:eB M "shown"):FnOk P w K mg base CX0 40 f fd ["one","other"] (we K):=by
 refine F.okA ["one","other"] λC A outer s0 H vs Q E u h _=>?_;let(o,t,v,xs,x,z,y,r,rfl,s,n,l,d,c,N,m,g,q):=h;let a:=u.mono (j:=2) (by lia);exists _,(ff (fm (gx M u e (fh (qv 0) (fh (qv 1) (ii (gx J a b (fh (qv 0) (fh (qv 1) ad))) (afu ad)))))));refine#[_,eY,_,eY,_,eY,_,eY,o,t,v,x,z,y,r,eY,s,n,l,d,c,λp zs R k hp hm hl=>?_];refine#[o,t,p,xs,zs,x,z,y,r,eY,s.same k,n.same k,hp,g zs hm hl,by lia,?_,λt' H' D O=>q t' zs H' (k.trans D) hm O];exact AB (List.countP_le_length) (acn m)
end
end K34
namespace Fol
open L2 Kn
abbrev TkL(v:eZ->eN)(m:Mem)(P:eS)(rows:eL (eL eN)):Prop:=JI (λr row=>Tk v m r row) P rows
structure Ap(v:eZ->eN)(m:Mem)(P:eS)(D:eO->eL eN):Prop where
 tk:∀(j:eO) r,P[j]?=eH r->Tk v m r (D j)
 apart:∀(i j:eO) r s,P[i]?=eH r->P[j]?=eH s->i≠j->∀x∈D i,¬ x∈D j
section
variable{v:eZ->eN}{m:Mem} in
theorem Ap.rows:∀{P:eS}{D:eO->eL eN},Ap v m P D->∃rows,TkL v m P rows/\rows.flatten.Nodup/\∀x,x∈rows.flatten↔∃(j:eO) (r:eU),P[j]?=eH r/\x∈D j
 |[],D,_=>#[[],.nil,AV,λx=>#[λh=>(by cases h),λ⟨j,r,h,_⟩=>(by cases h)]]
 |p::P,D,h=>by
  let(rows,g1,o,g):=Ap.rows (P:=P) (D:=λj=>D (j+1)) #[λj r z=>h.tk (j+1) r z,λi j r s hi c l=>h.apart (i+1) (j+1) r s hi c (by lia)];refine#[D 0::rows,.cons (h.tk 0 p rfl) g1,?_,λx=>?_];rw[AQ];refine AE.mpr #[(h.tk 0 p rfl).nodup,o,λa n b k e=>?_];let(j,r,c,f):=(g b).mp k;exact h.apart 0 (j+1) p r rfl c (by lia) a n (e ▸ f)
  rw[AQ,Ab,g];constructor;rintro (z|⟨j,r,c,d⟩);exact#[0,p,eY,z];exact#[j+1,r,c,d]
  rintro⟨j,r,c,d⟩;cases j with|zero=>exact .inl d|succ j=>exact .inr #[j,r,c,d]
theorem TkL.ap(h:TkL v m P rows):rows.flatten.Nodup->∃D,Ap v m P D/\∀x,x∈rows.flatten↔∃(j:eO) (r:eU),P[j]?=eH r/\x∈D j:=by
 induction h with
 |nil=>exact λ_=>#[λ_=>[],#[λj r z=>(by cases z),λi j r s z=>(by cases z)],λx=>#[λz=>(by cases z),λ⟨j,r,z,_⟩=>(by cases z)]]
 | @cons p row P rows h t ih =>
  intro nd;rw[AQ] at nd;let(n1,n2,f):=AE.mp nd;let(D,g1,e):=ih n2;let ap:∀(i j:eO) r s,(p::P)[i]?=eH r->(p::P)[j]?=eH s->i<j->∀x∈(λj=>match j with|0=>row|j+1=>D j:eO->eL eN) i,¬ x∈(λj=>match j with|0=>row|j+1=>D j:eO->eL eN) j:=λi j r s hi c d x b a=>by
   cases j with
   |zero=>lia
   |succ j =>
    cases i with|zero=>exact f x b x ((e x).mpr #[j,s,c,a]) rfl|succ i=>exact g1.apart i j r s hi c (by lia) x b a
  refine#[λj=>match j with|0=>row|j+1=>D j,#[λj r z=>?_,λi j r s hi c d x b a=>?_],λx=>?_]
  . cases j with|zero=>cases z;exact h|succ j=>exact g1.tk j r z
  . rcases Fb d with z|z;exact ap i j r s hi c z x b a;exact ap j i s r c hi z x a b
  rw[AQ,Ab,e];constructor;rintro (z|⟨j,r,c,b⟩);exact#[0,p,eY,z];exact#[j+1,r,c,b]
  rintro⟨j,r,c,b⟩;cases j with|zero=>exact .inl b|succ j=>exact .inr #[j,r,c,b]
structure FaR(v:eZ->eN)(F:eS):Prop where
 is_:∀a b,[("is":eZ),a,b]∈F->v a=v b
 not_:∀a b,[("not":eZ),a,b]∈F->v a≠v b
theorem fits_rows:(∃D,Fits v m F P D)↔FaR v F/\∃rows,TkL v m P rows/\rows.flatten.Nodup/\∀x c,m x=eH c->x∈rows.flatten:=by
 constructor;rintro⟨D,h⟩;let(rows,g1,g,e):=Ap.rows (P:=P) (D:=D) #[h.tk,h.apart];exact#[#[h.is_,h.not_],rows,g1,g,λx c d=>(e x).mpr (h.whole x c d)];rintro⟨f,rows,g1,g,e⟩;let(D,a,b):=TkL.ap g1 g;exact#[D,f.is_,f.not_,a.tk,a.apart,λx c d=>(b x).mp (e x c d)]
theorem TkL.dom(h:TkL v m P rows):∀x∈rows.flatten,∃c,m x=eH c:=by
 induction h with
 |nil=>intro x a;cases a
 |cons h _ ih =>
  intro x a;rw[AQ,Ab] at a;rcases a with z|z;exact h.dom x z;exact ih x z
theorem r9:∀{a b:eL α}{l:eL β},JI R (a++b) l->∃c d,l=c++d/\JI R a c/\JI R b d
 |[],b,l,h=>#[[],l,eY,.nil,h]
 |x::a,b,_,.cons h t=>by
  let(c,d,rfl,h1,h2):=r9 (a:=a) t;exact#[_::c,d,eY,.cons h h1,h2]
theorem o7:∀{a b:eL α}{c d:eL β},JI R a c->JI R b d->JI R (a++b) (c++d)
 |_,_,_,_,.nil,h=>h
 |_,_,_,_,.cons h t,h2=>.cons h (o7 t h2)
def Lk(a b:eZ)(r:eU):Prop:=r=[("stretch":eZ),a,b]\/∃f,r=[("cell":eZ),a,f,b]
inductive Chn(e:eZ):eZ->eS->Prop
 |last{a:eZ}{r:eU}(h:Lk a e r)(he:¬ e="any"):Chn e a [r]
 |cons{a b:eZ}{r:eU}{l:eS}(h:Lk a b r)(hb:¬ b="any")(t:Chn e b l):Chn e a (r::l)
theorem Chn.ne(h:Chn e a l):l≠[]:=by cases h<;>exact FK _ _
theorem ade(n:Chn e a l):∀{rows:eL (eL eN)},TkL v m l rows->rows.flatten.Nodup->(∀r∈l,v (place r)≠v e)->(¬ v e∈rows.flatten\/∀r∈l.dropLast,¬ r.getD 0 ""="stretch")->Seg m (v e) (v a) rows.flatten:=by
 induction n with
 | @last a r h he =>
  intro rows hp nd hn d;cases hp with
  |cons hp t =>
   cases t;rw[AQ,Ct,A0];rcases h with rfl|⟨f,rfl⟩
   . cases hp with|str h=>exact h
   cases hp with|@cell _ _ _ x y h hf c=>exact .cons (hn _ (Af ..)) h As (by rw[<- c.resolve_left he];exact .nil)
 | @cons a b r l h hb t ih =>
  intro rows hp nd hn d;cases hp with
  |cons hp tl =>
   rename_i row rows;rw[AQ] at nd d |-;let(n1,n2,k):=AE.mp nd;let hd:(r::l).dropLast=r::l.dropLast:=by
    cases l with|nil=>exact eR rfl t.ne|cons _ _=>rfl
   let c:=ih tl n2 (λr j=>hn r (Ah _ j)) (d.imp (λz y=>z (Ab.mpr (.inr y))) λz r j=>z r (by rw[hd];exact Ah _ j));rcases h with rfl|⟨f,rfl⟩
   . cases hp with
     |str h =>
      refine h.app (λy i z=>?_) (λy i z=>k y i y z rfl) c;rcases d with g|g;exact g (Ab.mpr (.inl (z ▸ i)));exact g _ (by rw[hd];exact Af ..) rfl
   cases hp with|@cell _ _ _ x y h hf hs'=>exact .cons (hn _ (Af ..)) h (λz=>k _ (Af ..) _ z rfl) (by rw[<- hs'.resolve_left hb];exact c)
theorem chn_fits(n:Chn e a l)(hn:∀r∈l,v (place r)≠v e)(hG:∀g∈G,g∈F)(i:(∀r∈l.dropLast,¬ r.getD 0 ""="stretch")\/m (v e)=eI\/∀d,TkL v m B d->v e∈d.flatten)(h:∃D,Fits v m F (l.take k++B++l.drop k) D):(∃R,Fits v m G ([[("stretch":eZ),a,e]]++B) R)/\∃R,Fits v m G (B++[[("stretch":eZ),a,e]]) R:=by
 let(f,rows,g1,o,u):=fits_rows.mp h;let(C,R2,rfl,w,t):=r9 g1;let(j,d,rfl,p3,p4):=r9 w;let q:TkL v m l (j++R2):=by
  let:=o7 p3 t
  rwa [Ds] at this
 let pm:(j++d++R2).flatten.Perm ((j++R2).flatten++d.flatten):=by
  simp only[Bh,A5];exact Gp _ List.perm_append_comm
 let(n1,n2,A):=AE.mp (pm.nodup_iff.mp o);let sg:=ade n q n1 hn (by
  rcases i with z|z|z;exact .inr z;refine .inl λy=>?_;let(c,n):=q.dom _ y;rw[z] at n;cases n
  exact .inl λy=>A _ y _ (z d p4) rfl)
 let p:FaR v G:=#[λa b z=>f.is_ a b (hG _ z),λa b z=>f.not_ a b (hG _ z)]
 let s:∀x c,m x=eH c->x∈(j++R2).flatten++d.flatten:=λx c i=>pm.mem_iff.mp (u x c i);refine#[fits_rows.mpr #[p,[(j++R2).flatten]++d,o7 (.cons (.str sg) .nil) p4,?_,λx c i=>?_],fits_rows.mpr #[p,d++[(j++R2).flatten],o7 p4 (.cons (.str sg) .nil),?_,λx c i=>?_]];rw[Bh,AQ,Ct,A0];exact pm.nodup_iff.mp o;rw[Bh,AQ,Ct,A0];exact s x c i;rw[Bh,AQ,Ct,A0];exact(List.perm_append_comm.nodup_iff).mp (pm.nodup_iff.mp o);rw[Bh,AQ,Ct,A0];exact(List.perm_append_comm.mem_iff).mp (s x c i)
end
end Fol
namespace Fol
open L2 Kn
theorem sj(h:Lk a b r)(hm:m (v a)=eH (v (r.getD 2 ""),v b))(hn:v a≠v b):Tk v m r [v a]:=by
 rcases h with rfl|⟨f,rfl⟩;exact .str (.cons hn hm As .nil);exact .cell hm (.inr rfl) (.inr rfl)
theorem xn(h1:m (v a)=eH (x,v e))(h2:m (v e)=eH (y,v b))(n1:v a≠v b)(n2:v e≠v b)(c:v a≠v e):Tk v m [("stretch":eZ),a,b] [v a,v e] :=
 .str (.cons n1 h1 (λz=>c (Ae.mp z)) (.cons n2 h2 As .nil))
theorem acf(h:Seg m e e row):row=[]:=by
 cases h with|nil=>rfl|cons h1=>exact eR rfl h1
theorem xr(h:Seg m e x row)(hm:m x=eH (f,e)):∀y∈row,y=x:=by
 cases h with
 |nil=>intro y a;cases a
 |cons h1 h2 h3 h4 =>
  rw[hm] at h2;cases h2;rw[acf h4];intro y a;exact Ae.mp a
theorem aca(h:Seg m e x row)(hm:m x=eH (f,b))(h':∃g,m b=eH (g,e)):∀y∈row,y=x\/y=b:=by
 cases h with
 |nil=>intro y a;cases a
 |cons h1 h2 h3 h4 =>
  rw[hm] at h2;cases h2;let(g,c):=h';intro y a;rcases Ak.mp a with z|z;exact .inl z;exact .inr (xr h4 c y z)
theorem a10(hm:m x=eH c)(h:∀row,Seg m (v e) (v a) row->¬ x∈row):¬ ∃R,Fits v m G [[("stretch":eZ),a,e]] R:=λ⟨R,d⟩=>by
 let(j,r,b,f):=d.whole x c hm;cases j with
 |succ j=>cases b
 |zero =>
  let t:=d.tk 0 r b;cases b;cases t with|str g=>exact h _ g f
def v5(n0 n1 n2 n3:eZ)(x:eZ):eN:=if x=n0 then 1 else if x=n1 then 2 else if x=n2 then 3 else if x=n3 then 4 else 0
theorem v5_at(d:b≠n1)(c:b≠n2)(h:b≠a)(f:n1≠n2)(e:n1≠a)(g:n2≠a):v5 b n1 n2 a b=1/\v5 b n1 n2 a n1=2/\v5 b n1 n2 a n2=3/\v5 b n1 n2 a a=4:=by
 unfold v5;simp[d.symm,c.symm,h.symm,f.symm,e.symm,g.symm]
def m4(a b c d:eM (eN×eN)):Mem:=λx=>if x=1 then a else if x=2 then b else if x=3 then c else if x=4 then d else eI
theorem a0s(h:m4 a b c d x=eH z):x=1\/x=2\/x=3\/(x=4/\d=eH z):=by
 unfold m4 at h;split at h;exact .inl (by assumption)
 split at h;exact .inr (.inl (by assumption))
 split at h;exact .inr (.inr (.inl (by assumption)))
 split at h;exact .inr (.inr (.inr #[by assumption,h]));cases h
theorem amid2(V:v5 a n1 n2 d a=1/\v5 a n1 n2 d n1=2/\v5 a n1 n2 d n2=3/\v5 a n1 n2 d d=4)(hF:FaR (v5 a n1 n2 d) F)(h1:Lk n1 n2 r1):
 ∃m:Mem,m 0=eI/\(∃D,Fits (v5 a n1 n2 d) m F [[("stretch":eZ),a,n1],r1] D)/\¬ ∃R,Fits (v5 a n1 n2 d) m G [[("stretch":eZ),a,n2]] R:=by
 generalize v5 a n1 n2 d=v at V hF;let(g,e,b,j):=V;refine#[m4 (eH (0,3)) (eH (v (r1.getD 2 ""),3)) (eH (0,2)) eI,eY,fits_rows.mpr #[hF,[[1,3],[2]],.cons ?_ (.cons ?_ .nil),by decide,λx c h=>?_],a10 (x:=2) (c:=(v (r1.getD 2 ""),3)) rfl λrow i h=>?_];rw[<- g,<- b];exact xn (x:=0) (y:=0) (by rw[g,b];rfl) (by rw[e,b];rfl) (by rw[g,e];decide) (by rw[b,e];decide) (by rw[g,b];decide);rw[<- e];exact sj h1 (by rw[e,b];rfl) (by rw[e,b];decide);rcases a0s h with rfl|rfl|rfl|⟨_,z⟩;decide;decide;decide;cases z
 rw[g,b] at i;let:=xr i (f:=0) rfl 2 h
 lia
theorem amid3(V:v5 b n1 n2 a b=1/\v5 b n1 n2 a n1=2/\v5 b n1 n2 a n2=3/\v5 b n1 n2 a a=4)(hF:FaR (v5 b n1 n2 a) F)(h1:Lk n1 n2 r1)(h2:Lk n2 a r2):
 ∃m:Mem,m 0=eI/\(∃D,Fits (v5 b n1 n2 a) m F [[("stretch":eZ),b,n1],r1,r2] D)/\¬ ∃R,Fits (v5 b n1 n2 a) m G [[("stretch":eZ),b,a]] R:=by
 generalize v5 b n1 n2 a=v at V hF;let(h,e,g,d):=V;refine#[m4 (eH (0,4)) (eH (v (r1.getD 2 ""),3)) (eH (v (r2.getD 2 ""),4)) (eH (0,2)),eY,fits_rows.mpr #[hF,[[1,4],[2],[3]],.cons ?_ (.cons ?_ (.cons ?_ .nil)),by decide,λx c i=>?_],a10 (x:=2) (c:=(v (r1.getD 2 ""),3)) rfl λrow j i=>?_];rw[<- h,<- d];exact xn (x:=0) (y:=0) (by rw[h,d];rfl) (by rw[d,e];rfl) (by rw[h,e];decide) (by rw[d,e];decide) (by rw[h,d];decide);rw[<- e];exact sj h1 (by rw[e,g];rfl) (by rw[e,g];decide);rw[<- g];exact sj h2 (by rw[g,d];rfl) (by rw[g,d];decide);rcases a0s i with rfl|rfl|rfl|⟨rfl,_⟩<;>decide
 rw[h,d] at j;let:=xr j (f:=0) rfl 2 i
 lia
theorem amid3'(V:v5 b n1 n2 a b=1/\v5 b n1 n2 a n1=2/\v5 b n1 n2 a n2=3/\v5 b n1 n2 a a=4)(hF:FaR (v5 b n1 n2 a) F)(l:Lk b n1 i)(h2:Lk n2 a r2):
 ∃m:Mem,m 0=eI/\(∃D,Fits (v5 b n1 n2 a) m F [i,[("stretch":eZ),n1,n2],r2] D)/\¬ ∃R,Fits (v5 b n1 n2 a) m G [[("stretch":eZ),b,a]] R:=by
 generalize v5 b n1 n2 a=v at V hF;let(h,e,g,d):=V;refine#[m4 (eH (v (i.getD 2 ""),2)) (eH (0,4)) (eH (v (r2.getD 2 ""),4)) (eH (0,3)),eY,fits_rows.mpr #[hF,[[1],[2,4],[3]],.cons ?_ (.cons ?_ (.cons ?_ .nil)),by decide,λx c j=>?_],a10 (x:=3) (c:=(v (r2.getD 2 ""),4)) rfl λrow k j=>?_];rw[<- h];exact sj l (by rw[h,e];rfl) (by rw[h,e];decide);rw[<- e,<- d];exact xn (x:=0) (y:=0) (by rw[e,d];rfl) (by rw[d,g];rfl) (by rw[e,g];decide) (by rw[d,g];decide) (by rw[e,d];decide);rw[<- g];exact sj h2 (by rw[g,d];rfl) (by rw[g,d];decide);rcases a0s j with rfl|rfl|rfl|⟨rfl,_⟩<;>decide
 rw[h,d] at k;let:=aca k (f:=v (i.getD 2 "")) rfl #[0,eY] 3 j
 lia
end Fol
namespace K34
open L2 Mir Kn
def PoolRow(xs:eU)(r:eU):Prop:=∃k u v:eZ,r=[k,u,v]/\(k="is" \/ k="not")/\u∈xs/\v∈xs
def PoolPart(xs:eU)(r:eU):Prop:=(∃a f s,r=[("cell":eZ),a,f,s]/\a∈xs/\(f∈xs\/f="any")/\(s∈xs\/s="any"))\/(∃a b,r=[("stretch":eZ),a,b]/\a∈xs/\b∈xs)\/∃a,r=[("tree":eZ),a]/\a∈xs
theorem PoolRow.fact{xs:eU}{r:eU}(h:PoolRow xs r):gw r:=by
 let(k,u,v,h1,h2,_,_):=h;exact#[k,u,v,h1,h2]
theorem PoolRow.in_(h:PoolRow xs r):∀x∈r.drop 1,x∈xs:=by
 let(k,u,v,rfl,h2,h3,c):=h;intro x b;let a:x∈[u,v]:=b;simp only[Ak,As,fH] at a;rcases a with rfl|rfl;exact h3;exact c
theorem PoolPart.row(h:PoolPart xs r):PartRow r:=by
 rcases h with⟨a,f,s,h,_⟩|⟨a,b,h,_⟩|⟨a,h,_⟩
 . exact .inl #[a,f,s,h]
 . exact .inr (.inl #[a,b,h])
 exact .inr (.inr #[a,h])
theorem PoolPart.in_(h:PoolPart xs r):∀x∈r.drop 1,x="any" \/ x∈xs:=by
 rcases h with⟨a,f,s,rfl,h1,h2,h3⟩|⟨a,b,rfl,h1,h2⟩|⟨a,rfl,h1⟩
 . intro x d;let c:x∈[a,f,s]:=d;simp only[Ak,As,fH] at c;rcases c with rfl|rfl|rfl;exact .inr h1;exact h2.symm;exact h3.symm
 . intro x d;let c:x∈[a,b]:=d;simp only[Ak,As,fH] at c;rcases c with rfl|rfl;exact .inr h1;exact .inr h2
 intro x d;let c:x∈[a]:=d;rw[Ae.mp c];exact .inr h1
theorem PoolPart.pd(h:PoolPart xs r)(hd:∀x∈r.drop 1,x∈xs->D x):Fol.PartD D r:=by
 rcases h with⟨a,f,s,rfl,h1,h2,h3⟩|⟨a,b,rfl,h1,h2⟩|⟨a,rfl,h1⟩
 . exact .cell (hd a (Af ..) h1) (h2.elim (λz=>.inr (hd f (Ah _ (Af ..)) z)) .inl) (h3.elim (λz=>.inr (hd s (Ah _ (Ah _ (Af ..))) z)) .inl)
 . exact .str (hd a (Af ..) h1) (hd b (Ah _ (Af ..)) h2)
 exact .tree (hd a (Af ..) h1)
structure Ys(ys:eU):Prop where
 len:ys.length=5
 nm:∀x∈ys,Nm 40 x/\¬ x∈Mir.noNames
 nd:ys.Nodup
theorem Ys.sp(Y:Ys ys){Pr:eZ->Prop}(h1:∀x∈ys,Pr x)(h2:Pr "nil"):∀x∈ys++[("nil":eZ)],Pr x:=λx a=>by
 rcases Ab.mp a with z|z;exact h1 x z;rw[Ae.mp z];exact h2
theorem Ys.short(Y:Ys ys):∀x∈ys++[("nil":eZ)],a44 x:=Y.sp (λx a=>AB (Y.nm x a).1.len (by decide)) (show Cu "nil" <= 1000 by decide)
theorem Ys.na(Y:Ys ys):∀x∈ys++[("nil":eZ)],¬ x="any" := Y.sp (λx a e=>(Y.nm x a).2 (by rw[e];decide)) (by decide)
theorem Ys.nn(Y:Ys ys):¬ ("nil":eZ)∈ys:=λh=>(Y.nm _ h).2 (by decide)
theorem Ys.fs(Y:Ys ys)(hF:∀r∈F,PoolRow (ys++[("nil":eZ)]) r)(b:F.length<=5):jj F:=#[by lia,λr c=>by
 let(k,u,v,rfl,d,h1,h2):=hF r c;refine#[(show 3<=5 by decide),λx a=>?_];simp only[Ak,As,fH] at a;rcases a with rfl|rfl|rfl;rcases d with rfl|rfl;exact(show Cu "is" <= 1000 by decide);exact(show Cu "not" <= 1000 by decide);exact Y.short _ h1
 exact Y.short _ h2]
theorem Ys.ps(Y:Ys ys)(e:∀r∈P,PoolPart (ys++[("nil":eZ)]) r)(h:P.length<=5):jj P:=#[by lia,λr g=>by
 let d:∀x∈r.drop 1,a44 x:=λx c=>((e r g).in_ x c).elim (λz=>z ▸ (show Cu "any" <= 1000 by decide)) (Y.short x);rcases e r g with⟨a,f,s,rfl,_⟩|⟨a,b,rfl,_⟩|⟨a,rfl,_⟩
 . exact#[(show 4<=5 by decide),λx c=>(Ak.mp c).elim (λz=>z ▸ (show Cu "cell" <= 1000 by decide)) (d x)]
 . exact#[(show 3<=5 by decide),λx c=>(Ak.mp c).elim (λz=>z ▸ (show Cu "stretch" <= 1000 by decide)) (d x)]
 exact#[(show 2<=5 by decide),λx c=>(Ak.mp c).elim (λz=>z ▸ (show Cu "tree" <= 1000 by decide)) (d x)]]
structure TP(ys:eU)(F P:eS):Prop where
 f:∀r∈F,PoolRow (ys++[("nil":eZ)]) r
 p:∀r∈P,PoolPart (ys++[("nil":eZ)]) r
 fl:F.length<=5
 pl:P.length<=5
theorem TP.in_(T:TP ys F P)(b:r∈F++P):∀x∈r.drop 1,x="any" \/ x∈ys++[("nil":eZ)]:=λx a=>by
 rcases Ab.mp b with z|z;exact .inr ((T.f r z).in_ x a);exact(T.p r z).in_ x a
theorem TP.wds(T:TP ys F P)(h:y∈i5 (F++P)):y∈ys:=by
 let(r,a,h1,h2):=mem_words.mp h;rcases T.in_ a y h1 with z|z;exact eR (by rw[z];decide) h2
 rcases Ab.mp z with z|z;exact z;exact eR (by rw[Ae.mp z];decide) h2
theorem TP.wd(T:TP ys F P)(Y:Ys ys):WdOk (ys++[("nil":eZ)]) F P:=by
 refine#[Y.fs T.f (by let:=T.fl;lia),Y.ps T.p T.pl,λr d=>?_,λy c=>Ab.mpr (.inl (T.wds c))];rcases Ab.mp d with z|z;let(k,u,v,rfl,_):=T.f r z;exact FK _ _;rcases T.p r z with⟨a,f,s,rfl,_⟩|⟨a,b,rfl,_⟩|⟨a,rfl,_⟩<;>exact FK _ _
theorem TP.dom(T:TP ys F P)(Y:Ys ys)(hz:∀y∈i5 (F++P),y∈zs)(b:r∈F++P)(a:x∈r.drop 1)(hp:x∈ys++[("nil":eZ)]):Dom zs x:=by
 rcases Ab.mp hp with z|z;exact .inr (hz x (mem_words.mpr #[r,b,a,(Y.nm x z).2]));exact .inl (Ae.mp z)
theorem afk(Y:Ys ys)(T:TP ys F P)(U:TP ys G S)(hz:∀y,y∈zs↔y∈i5 (F++P)\/y∈i5 (G++S))(j:zs.length<=40):Gd (ys++[("nil":eZ)]) zs F P G S:=by
 let i:∀y∈i5 (F++P),y∈zs:=λy h=>(hz y).mpr (.inl h);let c:∀y∈i5 (G++S),y∈zs:=λy h=>(hz y).mpr (.inr h);let g:∀y∈zs,y∈ys:=λy h=>((hz y).mp h).elim T.wds U.wds;refine#[λr a=>(T.f r a).fact,λr a x b=>T.dom Y i (Ab.mpr (.inl a)) b ((T.f r a).in_ x b),λr a=>(T.p r a).pd λx b hp=>T.dom Y i (Ab.mpr (.inr a)) b hp,λh=>?_,by let:=T.pl;lia,
  #[λr a=>(U.f r a).fact,λr a x b=>U.dom Y c (Ab.mpr (.inl a)) b ((U.f r a).in_ x b),λr a=>(U.p r a).pd λx b hp=>U.dom Y c (Ab.mpr (.inr a)) b hp,Y.fs U.f (by let:=U.fl;lia),Y.ps U.p U.pl,λy d=>#[c y d,λe=>Y.nn (e ▸ U.wds d)],by let:=U.pl;lia,by let:=U.fl;lia],λx b=>?_,by lia]
 . rcases h with z|z;exact eR z (by decide);exact(Y.nm _ (g _ z)).2 (by decide)
 rcases b with rfl|z;exact Ab.mpr (.inr (Ae.mpr rfl));exact Ab.mpr (.inl (g x z))
structure FIn(K:Aa)(H:Hp)(d h:JA)(kv:eL (Key×V))(cs:i4):Prop where
 vals:H d=eH (.dK kv)
 num:IntsAt kv
 heap:∃hp,H h=eH (.dK (hv hp))/\CellsAt K H hp cs
 nd:(cs.map (·.1)).Nodup
 len:cs.length<=100
theorem u2(h:CellsAt K H hp cs)(e:Same H H'):CellsAt K H' hp cs:=by
 unfold CellsAt at h |-;induction h with|nil=>exact .nil|cons h _ ih=>exact .cons #[h.1,e.seqT h.2] ih
theorem FIn.same(I:FIn K H d h kv cs)(e:Same H H'):FIn K H' d h kv cs:=by
 let(hp,h1,h2):=I.heap;exact#[e _ _ I.vals,I.num,#[hp,e _ _ h1,u2 h2 e],I.nd,I.len]
theorem mr:∀{l:eL α},(∀x∈l,R x (f x))->JI R l (l.map f)
 |[],_=>.nil
 |x::l,h=>.cons (h x (Af ..)) (mr λy a=>h y (Ah _ a))
theorem a3g(I:FIn K H d h kv cs)(Y:Ys ys)(T:TP ys F P)(o:T2At K H m F P)(i:∀r∈F++P,∀x∈r.drop 1,x="any" \/ (valV kv (Sum.inr x)).isSome=eJ)(q:∀(b:fJ) H',Same H H'->(b=eJ↔∃R,Fol.Fits (vI kv) (gk cs) F P R)->Q (.bl b) H'):spFits K [.ref d,.ref h,.ref m] H Q E:=by
 let(hp,h1,h2):=I.heap;let(fl,y,A,v,t):=o;let k:∀r∈P,PartRow r:=λr c=>(T.p r c).row;let j:∀r∈P,∀x∈r.drop 1,x∈ys++[("nil":eZ)]->(valV kv (Sum.inr x)).isSome=eJ:=λr c x u n=>(i r (Ab.mpr (.inr c)) x u).resolve_left (Y.na x n);refine#[d,h,m,fl,y,kv,hp,cs,F,P,P.map (l7 kv cs),eY,#[I.vals,I.num,h1,h2,A,v,λr c=>(T.f r c).fact,λr c=>#[i r (Ab.mpr (.inl c)),λz=>Y.na _ ((T.f r c).in_ _ z) rfl],t,k,λr c=>#[i r (Ab.mpr (.inr c)),?_,λl=>?_],mr λr c=>aa9 (k r c) (by let:=I.len;lia),a4w k (by let:=T.pl;lia) I.len,by let:=T.pl;lia],λb H' e w=>q b H' e (w.trans (a1y I.nd (λr c=>(T.f r c).fact) k))];let:=j r c;rcases T.p r c with⟨a,f,s,rfl,g,_⟩|⟨a,b,rfl,g,_⟩|⟨a,rfl,g⟩<;>exact this a (Af ..) g
 let:=j r c;rcases T.p r c with⟨a,f,s,rfl,g,_⟩|⟨a,b,rfl,_,g⟩|⟨a,rfl,g⟩
 . exact eR l (show ¬ ("cell":eZ)="stretch" by decide)
 . exact this b (Ah _ (Af ..)) g
 exact eR l (show ¬ ("tree":eZ)="stretch" by decide)
theorem w4(m:eL (eZ×eN)):(∀x,vI (putK (Cv.dv m) (Sum.inr "nil") (.int 0)) x=Cv.num m x)/\IntsAt (putK (Cv.dv m) (Sum.inr "nil") (.int 0))/\∀x:eZ,(x="nil" \/ (Cv.lkI m x).isSome=eJ)->(valV (putK (Cv.dv m) (Sum.inr "nil") (.int 0)) (Sum.inr x)).isSome=eJ:=by
 let key:∀x:eZ,valV (putK (Cv.dv m) (Sum.inr "nil") (.int 0)) (Sum.inr x)=if x="nil" then eH (.int 0) else(Cv.lkI m x).map V.int:=λx=>by
  rw[l3];by_cases c:x="nil";rw[eQ (fE Sum.inr c),eQ c];rw[eP (λz=>c (Ca z)),eP c,Cv.valV_dv]
 let kv:∀x,vI (putK (Cv.dv m) (Sum.inr "nil") (.int 0)) x=Cv.num m x:=λx=>by
  unfold vI Cv.num;rw[key];by_cases c:x="nil";rw[eQ c,eQ c];rfl;rw[eP c,eP c];cases Cv.lkI m x<;>rfl
 refine#[kv,λx=>?_,λx a=>?_]
 . rw[kv,key];unfold Cv.num;by_cases c:x="nil";rw[eQ c,eQ c];exact .inr rfl
   . rw[eP c,eP c];cases Cv.lkI m x with|none=>exact .inl rfl|some n=>exact .inr rfl
 rw[key];by_cases c:x="nil";rw[eQ c];rfl
 rw[eP c];let:=a.resolve_left c;cases hz:Cv.lkI m x with|none=>rw[hz] at this;cases this|some n=>rfl
end K34
namespace L2
open PyProof.Rows
theorem a03(B:X.calm=eJ):ja X (.builtin "min") (λvs H Q=>∃(a:JA) (ns:eL eN),vs=[.ref a]/\SqT X.K H a (ns.map V.int)/\ns≠[]/\∀M∈ns,Q (.int M) H):=by
 intro n s σ H vs us Q I r h;let(a,ns,rfl,z,m,q):=h;let(u,rfl,C):=r.one;cases C;let(its,x,p,_):=I.tuple z;let T:s.heap.IsTuple a its.toArray:=p;let hl:its.length=ns.length:=by let:=x.length;rw[Ad] at this;lia
 let hn:0<ns.length:=List.length_pos_iff.mpr m;let f:∀(i:eO) (v:JC),its.toArray[i]?=eH v->∃t,v=.int (ns.getD i 0) t:=λi v hv=>by
  let d:its[i]?=eH v:=by simpa using hv
  let hi:i<ns.length:=by rw[<- hl];exact(An.mp d).1
  let(E,w,l):=x.get (show(ns.map V.int)[i]?=eH (.int ns[i]) by rw[Ar,Ag hi];rfl);rw[d] at w;cases w;let(t,rfl):=l;exact#[t,by rw[Ay,Ag hi];rfl]
 let k:a<s.heap.objs.size:=by let(o,y,_):=T;exact A1 y
 refine call_min_walk (DL T #[s.heap.objs.size,_,_,_,_,_,λi j=>decide (ns.getD i 0<ns.getD j 0),eY,Walks.tuple (show X.A.in1.handled=eI from I.ok.hd B) s.heap.objs.size a (AA k) its.toArray,#[?_,?_],λb g=>?_,by rw[A3];lia,CmpOf.ints_lt (λi=>ns.getD i 0) f,λv h' tk hv D=>?_]);exact#[_,Ax _ rfl,eY,eY];let(o,e,r):=T;exact#[o,Aj _ e,r];rw[B1];simp only[Ak,As,fH] at g;rcases g with rfl|rfl;exact B7 _;exact Co k
 let(t,rfl):=f _ _ hv;let g:=argBest_lt (λi=>ns.getD i 0) (its.toArray.size-1);rw[A3] at g hv;let hi:argBest (λi j=>decide (ns.getD i 0<ns.getD j 0)) (its.length-1)<ns.length:=by let:=g.1;lia
 refine#[.int _,H,I.kept (t':=tk) λb o c=>D b o (by simp only[Ak,As,fH];exact AA (A1 c)) (Aj _ c),#[t,eY],q _ ?_];rw[A3,Ay,Ag hi];exact AM hi
inductive rMinS(K:Aa)(vs:eL V)(H:Hp)(Q:VK):Prop
 |mk (a:JA)(ns:eL eN)(h0:vs=[.ref a])(h1:SqT K H a (ns.map V.int))(h2:ns≠[])(h3:∀M∈ns,Q (.int M) H):rMinS K vs H Q
theorem a67{K:Aa}(c:X.K=K)(f:X.calm=eJ):ja X (.builtin "min") (rMinS K):=by
 subst c;intro b s σ H vs us Q I r d;let(a,ns,e,h1,h2,h3):=d;exact a03 f b s σ H vs us Q I r #[a,ns,e,h1,h2,h3]
theorem rq:ja X (.builtin "isinstance") (λxs H Q=>∃a kvs,xs=[.ref a,.ty "dict"]/\H a=eH (.dK kvs)/\Q (.bl eJ) H):=by
 intro b s σ H xs us Q I r h;let(a,kvs,rfl,d,q):=h;cases r with
 |cons r1 r =>
  cases r with
  |cons r2 r =>
   cases r;cases r1;cases r2;let(z,hd,vs,rel,dd):=nt I.hok d;let(o,e,c):=dd.typeIs;exact IsiPair.dict_dict e c #[.bl eJ,H,I,eY,q]
end L2
namespace K34
open L2 Mir Kn
abbrev a6z:JJ:=top 35
abbrev a81:JJ:=top 42
abbrev a3m:JJ:=top 43
abbrev sLaw:JJ:=top 44
inductive spWholeS(vs:eL V)(H:Hp)(Q:VK):Prop
 |mk (n:eN)(h0:vs=[.int n])(h1:Q (.bl eJ) H):spWholeS vs H Q
def a27:Sp:=λvs H Q _=>spWholeS vs H Q
def besF(way:eO)(e n0 n4:eZ):eS:=match way with
 |4=>[[("not":eZ),e,"nil"]]
 |5=>[[("is":eZ),e,"nil"]]
 |6=>[[("not":eZ),e,"nil"]]
 |7=>[[("not":eZ),e,n4]]
 |_=>[]
def besP(way:eO)(e n0 n4:eZ):eS:=match way with
 |1=>[[("cell":eZ),e,"any","any"]]
 |2=>[[("stretch":eZ),e,"nil"]]
 |3=>[[("stretch":eZ),e,n0]]
 |4=>[[("tree":eZ),e]]
 |7=>[[("stretch":eZ),e,n4]]
 |_=>[]
inductive spBesideS(K:Aa)(vs:eL V)(H:Hp)(Q:VK):Prop
 |mk (way:eO)(nl:JA)(ys:eU)(e:eZ)(h0:vs=[.int (way:eN),.ref nl,.str e])(h1:way<8)(h2:H nl=eH (.lst (ys.map V.str)))(h3:ys.length=5)(h4:∀t a b H',Same H H'->H' t=eH (.tup [.ref a,.ref b])->RowsAt K H' a (besF way e (ys.getD 0 "") (ys.getD 4 ""))->RowsAt K H' b (besP way e (ys.getD 0 "") (ys.getD 4 ""))->Q (.ref t) H'):spBesideS K vs H Q
def a1e(K:Aa):Sp:=λvs H Q _=>spBesideS K vs H Q
theorem five:∀{l:eL α},l.length=5->∃a b c d e,l=[a,b,c,d,e]
 |[a,b,c,d,e],_=>#[a,b,c,d,e,eY]
theorem r3(h:H l=eI):Same H (upd H l (.lst []))/\RowsAt K (upd H l (.lst [])) l []:=#[fi h _,[],fb,.nil]
theorem mu(h:H p=eI)(h2:(upd H p (.tup (r.map V.str))) l=eI):Same H (upd (upd H p (.tup (r.map V.str))) l (.lst [.ref p]))/\RowsAt K (upd (upd H p (.tup (r.map V.str))) l (.lst [.ref p])) l [r] :=
 #[(fi h _).trans (fi h2 _),[p],fb,.cons (SqT.of (fi h2 _ _ _ fb)) .nil]
theorem a8x(C:Con K mg w)(F:Fun K "_law_whole" "_law_whole" a6z f fd):FnOk P w K mg base CX0 1 f fd ["_law_found"] a27:=by
 refine F.okA ["_law_found"] λa A outer s0 H vs Q E b h _=>?_;let(n,rfl,q):=h;exists _,(ff (fm (om (gr a1r rfl C.isi B5 (fh (qv 0) (fh #[gty C.int Er] ad))) (lm (vr (gr a1z rfl C.isi B5 (fh (qv 0) (fh #[gty C.bool PyProof.Rows.boot_bool] ad))))))));refine#[_,eY,n,eY,eJ,eY,iteB (λ_=>?_) (λc=>by cases c)];exact#[_,eY,n,eY,eK,eY,q]
theorem a6a(F:Fun K "_law_beside" "_law_beside" a3m f fd):FnOk P w K mg base CX0 1 f fd ["_law_way","_law_names_here","_law_end"] (a1e K):=by
 refine F.okA ["_law_way","_law_names_here","_law_end"] λN A outer s0 H vs Q E Z h _=>?_;let(way,D,ys,e,rfl,hw,x,I,q):=h;exists _,fe (gg (fz gq (qv 0) fc (fy _)) (ff (fm (i3 (kf ad (kf (jt (gm (fh (qv 2) (gm (gm ad)))) ad) ad))))) ge)
  (fe (gg (fz gq (qv 0) fc (fy _)) (ff (fm (i3 (kf ad (kf (jt (gm (fh (qv 2) (gm ad))) ad) ad))))) ge)
  (fe (gg (fz gq (qv 0) fc (fy _)) (ff (fm (i3 (kf ad (kf (jt (gm (fh (qv 2) (fx (i7 K (qv 1) fc) ad))) ad) ad))))) ge)
  (fe (gg (fz gq (qv 0) fc (fy _)) (ff (fm (i3 (kf (jt (gm (fh (qv 2) (gm ad))) ad) (kf (jt (gm (fh (qv 2) ad)) ad) ad))))) ge)
  (fe (gg (fz gq (qv 0) fc (fy _)) (ff (fm (i3 (kf (jt (gm (fh (qv 2) (gm ad))) ad) (kf ad ad))))) ge)
  (fe (gg (fz gq (qv 0) fc (fy _)) (ff (fm (i3 (kf (jt (gm (fh (qv 2) (gm ad))) ad) (kf ad ad))))) ge)
  (fe (gg (fz gq (qv 0) fc (fy _)) (ff (fm (i3 (kf (jt (gm (fh (qv 2) (fx (i7 K (qv 1) fc) ad))) ad) (kf (jt (gm (fh (qv 2) (fx (i7 K (qv 1) fc) ad))) ad) ad))))) ge)
  (ff (fm (i3 (kf ad (kf ad ad)))))))))))
 nofun
 let(C,y1,Y,y3,u,rfl):=five I;let j:∀{G L:eS} {a b t:JA} {B:Hp},Same H B->RowsAt K B a G->RowsAt K B b L->besF way e C u=G->besP way e C u=L->B t=eI->Q (.ref t) (upd B t (.tup [.ref a,.ref b])):=λ{G L a b t B} i h1 h2 O R g =>
  q t a b _ (i.trans (fi g _)) fb (by show RowsAt K _ a (besF way e C u);rw[O];exact h1.same (fi g _)) (by show RowsAt K _ b (besP way e C u);rw[R];exact h2.same (fi g _))
 let dv:∀{n:eO},decide (V.int (way:eN)=V.int (n:eN))=eJ->way=n:=λ{n} z=>by let:=V.int.inj (fC z);lia
 let v:∀{n:eO},decide (V.int (way:eN)=V.int (n:eN))=eK->way≠n:=λ{n} z c=>fD z (by rw[c]);let s:2<=JB:=by decide
 let o:1<=JB:=by decide
 let y:3<=JB:=by decide
 let z0:0<=JB:=AC _;refine#[_,eY,eY,_,eY,iteB (λc=>?_) (λn1=>?_)];let:=dv (n:=1) c;subst this;refine#[z0,λa m=>#[_,eY,(show 4<=JB by decide),λp hp=>#[o,λb l=>#[s,λt g=>?_]]]];let(i,r1):=r3 (K:=K) m;let(d,r2):=mu (K:=K) (r:=[("cell":eZ),e,"any","any"]) hp l;exact j (i.trans d) (r1.same d) r2 rfl rfl g
 refine#[_,eY,eY,_,eY,iteB (λc=>?_) (λn2=>?_)];let:=dv (n:=2) c;subst this;refine#[z0,λa m=>#[_,eY,y,λp hp=>#[o,λb l=>#[s,λt g=>?_]]]];let(i,r1):=r3 (K:=K) m;let(d,r2):=mu (K:=K) (r:=[("stretch":eZ),e,"nil"]) hp l;exact j (i.trans d) (r1.same d) r2 rfl rfl g
 refine#[_,eY,eY,_,eY,iteB (λc=>?_) (λT=>?_)];let:=dv (n:=3) c;subst this;refine#[z0,λa m=>?_];let(i,r1):=r3 (K:=K) m;refine#[_,eY,_,eY,D,_,0,.str C,eY,eY,SqL.of (i _ _ x),eY,y,λp hp=>#[o,λb l=>#[s,λt g=>?_]]];let(d,r2):=mu (K:=K) (r:=[("stretch":eZ),e,C]) hp l;exact j (i.trans d) (r1.same d) r2 rfl rfl g
 refine#[_,eY,eY,_,eY,iteB (λc=>?_) (λX=>?_)];let:=dv (n:=4) c;subst this;refine#[_,eY,y,λJ k=>#[o,λa m=>#[_,eY,s,λp hp=>#[o,λb l=>#[s,λt g=>?_]]]]];let(i,r1):=mu (K:=K) (r:=[("not":eZ),e,"nil"]) k m;let(d,r2):=mu (K:=K) (r:=[("tree":eZ),e]) hp l;exact j (i.trans d) (r1.same d) r2 rfl rfl g
 refine#[_,eY,eY,_,eY,iteB (λc=>?_) (λS=>?_)];let:=dv (n:=5) c;subst this;refine#[_,eY,y,λJ k=>#[o,λa m=>#[z0,λb l=>#[s,λt g=>?_]]]];let(i,r1):=mu (K:=K) (r:=[("is":eZ),e,"nil"]) k m;let(d,r2):=r3 (K:=K) l;exact j (i.trans d) (r1.same d) r2 rfl rfl g
 refine#[_,eY,eY,_,eY,iteB (λc=>?_) (λU=>?_)];let:=dv (n:=6) c;subst this;refine#[_,eY,y,λJ k=>#[o,λa m=>#[z0,λb l=>#[s,λt g=>?_]]]];let(i,r1):=mu (K:=K) (r:=[("not":eZ),e,"nil"]) k m;let(d,r2):=r3 (K:=K) l;exact j (i.trans d) (r1.same d) r2 rfl rfl g
 refine#[_,eY,eY,_,eY,iteB (λc=>?_) (λW=>?_)];let:=dv (n:=7) c;subst this;refine#[_,eY,_,eY,D,_,4,.str u,eY,eY,SqL.of x,eY,y,λJ k=>#[o,λa m=>?_]];let(i,r1):=mu (K:=K) (r:=[("not":eZ),e,u]) k m;refine#[_,eY,_,eY,D,_,4,.str u,eY,eY,SqL.of (i _ _ x),eY,y,λp hp=>#[o,λb l=>#[s,λt g=>?_]]];let(d,r2):=mu (K:=K) (r:=[("stretch":eZ),e,u]) hp l;exact j (i.trans d) (r1.same d) r2 rfl rfl g
 let M:way=0:=by let:=v (n:=1) n1;let:=v (n:=2) n2;let:=v (n:=3) T;let:=v (n:=4) X;let:=v (n:=5) S;let:=v (n:=6) U;let:=v (n:=7) W;lia
 subst M;refine#[z0,λa m=>#[z0,λb l=>#[s,λt g=>?_]]];let(i,r1):=r3 (K:=K) m;let(d,r2):=r3 (K:=K) l;exact j (i.trans d) (r1.same d) r2 rfl rfl g
structure SIn(K:Aa)(H:Hp)(t o ot d h:JA)(m:eL (eZ×eN))(cs:i4)(ys zs:eU)(F P G S:eS):Prop where
 tup:H t=eH (.tup [.str "state",.ref d,.ref h])
 vals:H d=eH (.dK (Cv.dv m))
 heap:Cv.HeapAt K H h cs
 len:cs.length<=100/\m.length<=100
 num:∀x,Dom zs x->0<=Cv.num m x/\Cv.num m x<=100
 pos:∀c∈cs,1<=c.1/\0<=c.2.1/\0<=c.2.2
 has:∀x∈zs,x≠"nil" -> (Cv.lkI m x).isSome=eJ
 Y:Ys ys
 T:TP ys F P
 T1:T2At K H o F P
 U:TP ys G S
 U1:T2At K H ot G S
 zs:∀y,y∈zs↔y∈i5 (F++P)\/y∈i5 (G++S)
inductive spStateS(K:Aa)(vs:eL V)(H:Hp)(Q:VK):Prop
 |mk (t o ot pl d h:JA)(m:eL (eZ×eN))(cs:i4)(ys zs:eU)(F P G S:eS)(h0:vs=[.ref t,.ref o,.ref ot,.ref pl])(h1:SIn K H t o ot d h m cs ys zs F P G S)(h2:∀d2 H',Same H H'->H' d2=eH (.dK (putK (Cv.dv m) (Sum.inr "nil") (.int 0)))->Q (.ref d2) H'):spStateS K vs H Q
def a3v(K:Aa):Sp:=λvs H Q _=>spStateS K vs H Q
theorem a9e(C:Con K mg w)(F:Fun K "_law_state" "_law_state" a81 f fd)(GW:FnOk P w K mg base CX0 1 gW dW eD a27)(O:eB GW "_law_whole"):FnOk P w K mg base CX0 2 f fd ["_law_found","_law_one","_law_other","_law_pool"] (a3v K):=by
 refine F.okA ["_law_found","_law_one","_law_other","_law_pool","_law_values","_law_every","_law_row","_law_name","_law_address","_law_cell"] λaY A outer s0 H vs Q E hr h nd=>?_;let(t,o,ot,pl,d,h,m,cs,ys,zs,Fs,Ps,Gs,Ss,rfl,I,q):=h;let J:=ir hr;let ai:=hr.mono (j:=1) (by lia);exists _,fe (gg (QW.qt (jg (jc (i6 (gr n9 rfl C.isi B5 (fh (qv 0) (fh #[gty C.tuple Ea] ad))))) (jp (fz km (gr j0 rfl C.len Bs (fh (qv 0) ad)) fc (fy _))))) (ff (fm gj)) ge)
  (fe (gg (QW.qt (jg (jc (i6 (gr rq rfl C.isi B5 (fx (fj K (qv 0) fc) (fh #[gty C.dict Ei] ad))))) (jp (jc (i6 (gr rq rfl C.isi B5 (fx (fj K (qv 0) fc) (fh #[gty C.dict Ei] ad)))))))) (ff (fm gj)) ge)
  (fe (gd 4 nd (j6 a6b rfl C.dict Ei (fx (fj K (qv 0) fc) ad)))
  (fe (ld J (qv 4) gt fc)
  (fe (gd 5 nd (iu (gm ad)))
  (fe (ip A7 rfl (i9 (gc ke (gc ke (gc ke (fj K (qv 1) fc) (fj K (qv 1) fc)) (fj K (qv 2) fc)) (fj K (qv 2) fc))) (j2 6 nd) (ff (gd 5 nd (gc ke (qv 5) (p6 (a0h (l0 a0z (qv 6) (ly fc) lu)) (λ_ _ _ _=>(my (fz km (qv 0) gt (fy _)))) (λ_ _ _ _=>(qv 0)))))))
  (fe (ip A7 rfl (i9 (qv 5)) (j2 7 nd) (ff (gg (QW.qt (jg (ko J (qv 7) (qv 4)) (jg (jc (i6 (gx GW ai O (fx (im J (qv 4) (qv 7) (λ_ _=>rfl)) ad)))) (jg (fz a00 (im J (qv 4) (qv 7) (λ_ _=>rfl)) fc (fy _)) (jp (fz afn (im J (qv 4) (qv 7) (λ_ _=>rfl)) (gc a64 fc fc) (fy _))))))) (ff (fm gj)) ge)))
  (fe (ip A7 rfl (i9 (j6 (lz rfl) rfl C.list Bx (fx (fj K (qv 0) fc) ad))) (j2 8 nd) (fe (gd 9 nd (im J (fj K (qv 0) fc) (qv 8) (λ_ _=>rfl)))
  (fe (gg (QW.qt (jg (jc (i6 (gx GW ai O (fh (qv 8) ad)))) (jg (fz a00 (qv 8) fc (fy _)) (jg (jc (i6 (gr n9 rfl C.isi B5 (fh (qv 9) (fh #[gty C.tuple Ea] ad))))) (jp (fz km (gr j0 rfl C.len Bs (fh (qv 9) ad)) fc (fy _))))))) (ff (fm gj)) ge)
  (ff (gg (QW.qt (jg (jc (i6 (gx GW ai O (fx (fj K (qv 9) fc) ad)))) (jg (jc (i6 (gx GW ai O (fx (fj K (qv 9) fc) ad)))) (jp (fz a00 (gr (a67 (K:=K) rfl rfl) rfl C.min PyProof.Rows.Boot.min (fh (qv 9) ad)) fc (fy _)))))) (ff (fm gj)) ge)))))
  (ff (fm (qv 4))))))))))
 nofun
 let(v1,v2,v3):=w4 m;let(fa,pa,o1,oF,oP):=id I.T1;let(ga,sa,u1,uG,uS):=id I.U1;let(l,f1,f2):=id oF;let(g,p1,p2):=id oP;let(n,g1,g2):=id uG;let(Z,r1,r2):=id uS;let lF:=A4 f2;let lP:=A4 p2;let lG:=A4 g2;let lS:=A4 r2;let bF:=I.T.fl;let bP:=I.T.pl;let bG:=I.U.fl;let bS:=I.U.pl;let hm:=I.len;let dm:∀r∈(Fs++Ps)++(Gs++Ss),∀x∈r.drop 1,x="any" \/ Dom zs x:=λr hr x hx=>by
  rcases Ab.mp hr with z|z;exact(I.T.in_ z x hx).imp _root_.id λhp=>I.T.dom I.Y (λy s=>(I.zs y).mpr (.inl s)) z hx hp
  exact(I.U.in_ z x hx).imp _root_.id λhp=>I.U.dom I.Y (λy s=>(I.zs y).mpr (.inr s)) z hx hp
 let rl:∀r∈(Fs++Ps)++(Gs++Ss),1<=r.length/\r.length<=4:=λr hr=>by
  let one:∀{F P:eS},TP ys F P->r∈F++P->1<=r.length/\r.length<=4:=λT z=>by
   rcases Ab.mp z with z|z;let(k,u,v,rfl,_):=T.f r z;exact#[(show 1<=3 by decide),(show 3<=4 by decide)]
   rcases T.p r z with⟨a,b,c,rfl,_⟩|⟨a,b,rfl,_⟩|⟨a,rfl,_⟩
   . exact#[(show 1<=4 by decide),Ao _]
   . exact#[(show 1<=3 by decide),(show 3<=4 by decide)]
   exact#[(show 1<=2 by decide),(show 2<=4 by decide)]
  exact(Ab.mp hr).elim (one I.T) (one I.U)
 let(hp,hh,hc):=id I.heap;refine#[_,eY,t,_,eY,SqT.of I.tup,eJ,eY,iteN rfl ?_];refine#[_,eY,t,_,eY,.inr (SqT.of I.tup),eY,_,eY,iteB (λc=>by simp at c) (λ_=>?_)];refine#[_,eY,t,_,1,.ref d,eY,eY,SqT.of I.tup,eY,d,_,eY,I.vals,eJ,eY,iteN rfl ?_];refine#[_,eY,t,_,2,.ref h,eY,eY,SqT.of I.tup,eY,h,_,eY,hh,eJ,eY,iteN rfl ?_];refine#[_,eY,t,_,1,.ref d,eY,eY,SqT.of I.tup,eY,d,_,eY,I.vals,λB aB=>?_];let s1:=fi aB (.dK (Cv.dv m));exists _,eY,B,_,eY,DPut.k (k:=Sum.inr "nil") fb (jy (by rw[show(Cv.dv m).length=m.length from Ad ..];lia));let e2:Same H (upd (upd H B (.dK (Cv.dv m))) B (.dK (putK (Cv.dv m) (Sum.inr "nil") (.int 0)))):=ia aB s1 _;let av:=fb (H:=upd H B (.dK (Cv.dv m))) (a:=B) (o:=.dK (putK (Cv.dv m) (Sum.inr "nil") (.int 0)));generalize upd (upd H B (.dK (Cv.dv m))) B (.dK (putK (Cv.dv m) (Sum.inr "nil") (.int 0)))=H2 at e2 av |-;clear s1;refine#[eW,λac aF=>?_];let s3:=fi aF (.lst [.str "nil"]);let ap:=fb (H:=H2) (a:=ac) (o:=.lst [.str "nil"]);let am:=s3 _ _ av;let e3:=e2.trans s3;show iq 5 (V.ref ac) _ (upd H2 ac (.lst [.str "nil"])) _;generalize upd H2 ac (.lst [.str "nil"])=H3 at ap am e3 |-;dsimp only[iq];refine jf (a:=tFor _ _ _) λD' hN ah ag=>?_;refine#[_,eY,o,_,0,.ref fa,eY,eY,e3.seqT o1,eY,_,eY,o,_,1,.ref pa,eY,eY,e3.seqT o1,eY,fa,pa,_,_,eY,eY,e3 _ _ f1,e3 _ _ p1,(by rw[Ad,Ad];exact j7 (by lia)),λc1 aH=>?_];rw[<- Av];let(G1,z0,n1,m1):=kg aH (.lst ((l++g).map V.ref));rw[z0];let k1:=e3.trans n1;refine#[_,eY,ot,_,0,.ref ga,eY,eY,k1.seqT u1,eY,c1,ga,_,_,eY,eY,m1,k1 _ _ g1,(by rw[Ad,Ad,Ai];exact j7 (by lia)),λc2 aM=>?_];rw[<- Av];let(G2,z4,n2,m2):=kg aM (.lst ((l++g++n).map V.ref));rw[z4];let k2:=k1.trans n2;refine#[_,eY,ot,_,1,.ref sa,eY,eY,k2.seqT u1,eY,c2,sa,_,_,eY,eY,m2,k2 _ _ r1,(by rw[Ad,Ad,Ai,Ai];exact j7 (by lia)),λcl aP=>?_];rw[<- Av,A5];let(H6,z5,n3,ao):=kg aP (.lst ((l++g++(n++Z)).map V.ref));rw[z5];let e6:=k2.trans n3;let ax:=n1.trans (n2.trans n3);let aw:=ax _ _ ap;let ar:=ax _ _ am;clear ap am n1 n2 n3 k1 k2 m1 m2;exists cl,eY,#[_,SqL.of ao];let aD:JI (λb r=>RowAt K H b r) (l++g++(n++Z)) ((Fs++Ps)++(Gs++Ss)):=Paired.app (Paired.app f2 p2) (Paired.app g2 r2);refine j5 (xs:=(l++g++(n++Z)).map V.ref) (λi σ H7=>Same H6 H7/\Ex3 λ(el:JA) (es:eU) (z6:eM V)=>And4 (H7 el=eH (.lst (es.map V.str))) ((∀y∈es,Dom zs y)) (es.length<=1+3*i) (σ=[rQ t,rQ o,rQ ot,rQ pl,rQ B,rQ el,z6,nQ,nQ,nQ]))
  #[Same.refl _,ac,[("nil":eZ)],eI,aw,λy s=>.inl (Ae.mp s),Ao _,eY] (λi σ H7 _ pv=>SqL.of (pv.1 _ _ ao)) ?_ ?_
 . rintro i x σ H7 hi ⟨e7,el,es,z6,af,ak,aU,rfl⟩
   nofun
   let(b',hb,rfl):=kc hi;let(r,aj,aC):=Paired.nth aD hb;let az:=Aq aj;let aT:i<((Fs++Ps)++(Gs++Ss)).length:=(An.mp aj).1;rw[Ai,Ai,Ai] at aT;let aI:RowAt K H7 b' r:=RowAt.same aC (e6.trans e7);let a1:=rl r az;refine#[_,eY,_,eY,_,eY,b',_,eY,aI,?_,λp1 aK=>?_]
   . rintro⟨z,_⟩;rw[Ad] at z;let:min 1 r.length=0:=z
     lia
   rw[show(eH (1:eN))=eH ((1:eO):eN) from rfl,a2o];let ay:=fi aK (.tup ((r.drop 1).map V.str));let an:SqT K (upd H7 p1 (.tup ((r.drop 1).map V.str))) p1 ((r.drop 1).map V.str):=SqT.of fb;generalize upd H7 p1 (.tup ((r.drop 1).map V.str))=H8 at an ay |-;exists p1,rfl,#[_,an];refine a4j (r.drop 1) (λy => !decide (V.str y=V.str "any")) a06 an (by rw[Bq];lia) (λy s H9 R Q' q'=>#[_,eY,eY,_,eY,q' H9 (Same.refl _)]) (λy H9 Q' q'=>#[_,eY,q']) λD9 H9 aZ R aG=>?_;let aq:=ay.trans R;let aV:((r.drop 1).filter λy => !decide (V.str y=V.str "any")).length<=3:=by
    let h1:=B2 (λy => !decide (V.str y=V.str "any")) (r.drop 1);rw[Bq] at h1
    lia
   refine#[el,D9,_,_,eY,eY,aq _ _ af,aG,(by rw[Ad,Ad];exact B6 (jy (by lia))),λaO aE=>?_];let N:=fi aE (.lst (es.map V.str++((r.drop 1).filter λy => !decide (V.str y=V.str "any")).map V.str));refine#[(e7.trans aq).trans N,aO,es++(r.drop 1).filter (λy => !decide (V.str y=V.str "any")),_,by rw[fb,Av],λy s=>?_,by rw[Ai];lia,eY];rcases Ab.mp s with z|z;exact ak y z
   let(h1,h2):=Bc.mp z;let aR:¬ y="any" := by simpa using h2
   exact(dm r az y h1).resolve_left aR
 rintro σ H7 ⟨e7,el,es,z6,af,ak,aU,rfl⟩;refine hN _ _ ?_;clear hN ah ag D';let aQ:=e6.trans e7;let au:=e7 _ _ ar;clear aw ar;let D:∀{Hx:Hp} {y:eZ},Same H7 Hx->Dom zs y->DGet Hx B (.str y) (eH (.int (Cv.num m y))):=λ{Hx y} ex s=>by
  let h1:=v3 y (by
   by_cases c:y="nil";exact .inl c
   exact .inr (I.has y (s.resolve_left c) c))
  let h2:=v2.at_ h1;rw[v1] at h2;exact h2 ▸ DGet.k (k:=Sum.inr y) (ex _ _ au)
 refine jf (a:=tFor _ _ _) λD' hN ah ag=>?_;exists _,eY,el,eY,#[_,SqL.of af];refine j5 (xs:=es.map V.str) (λi σ H9=>Same H7 H9/\∃z7:eM V,σ=[rQ t,rQ o,rQ ot,rQ pl,rQ B,rQ el,z6,z7,nQ,nQ])
  #[Same.refl _,eI,eY] (λi σ H9 _ pv=>SqL.of (pv.1 _ _ af)) ?_ ?_
 . rintro i x σ H9 hi ⟨R,z7,rfl⟩
   nofun
   obtain⟨y,s,rfl⟩:∃y,y∈es/\x=.str y:=by
    let(y,s,e):=Au.mp (Aq hi);exact#[y,s,e.symm]
   let aa:=ak y s;let aX:=I.num y aa;refine#[_,eY,_,eY,B,_,eY,D R aa,_,eY,iteB (λc=>by cases c) (λ_=>?_)];refine#[_,eY,_,eY,B,_,eY,D R aa,_,eY,eJ,eY,iteN rfl ?_];refine#[_,eY,_,eY,B,_,eY,D R aa,_,_,eY,eY,_,eY,iteB (λc=>by let:=fC c;lia) (λ_=>?_)];refine#[_,eY,_,eY,B,_,eY,D R aa,_,_,eY,eY,(show CPow 10 60 from#[by decide,by decide,by decide]),_,_,eY,eY,_,eY,iteB (λc=>?_) (λ_=>#[R,_,eY])];let c':=fC c;let a0:(100:eN)<10 ^ ((60:eN).toNat):=by decide
   lia
 rintro σ H9 ⟨R,z7,rfl⟩;refine hN _ _ ?_;clear hN ah ag D';let ae:=aQ.trans R;refine jf (a:=tFor _ _ _) λD' hN ah ag=>?_;refine#[_,eY,t,_,2,.ref h,eY,eY,SqT.of (ae _ _ I.tup),eY,h,_,eY,ae _ _ hh,λal aS=>?_];let aN:(hv hp).map (λkv=>kV kv.1)=hp.map λp=>V.int p.1:=by unfold hv;rw[B3];rfl
 rw[aN];let(aL,y0,N,X):=kg aS (.lst (hp.map λp=>V.int p.1));rw[y0];exists al,eY,#[_,SqL.of X];refine j5 (xs:=hp.map λp=>V.int p.1) (λi σ H11=>Same aL H11/\∃z8 z9:eM V,σ=[rQ t,rQ o,rQ ot,rQ pl,rQ B,rQ el,z6,z7,z8,z9])
  #[Same.refl _,eI,eI,eY] (λi σ H11 _ pv=>SqL.of (pv.1 _ _ X)) ?_ ?_
 . rintro i x σ H11 hi ⟨W,z8,z9,rfl⟩
   nofun
   obtain⟨L,aJ,rfl⟩:∃L,L∈hp/\x=.int L.1:=by
    let(y,s,e):=Au.mp (Aq hi);exact#[y,s,e.symm]
   let ab:=ae.trans (N.trans W);let aA:=ab _ _ I.tup;let(tc,fv,sv,z1,z2,z3):=((u2 hc ab).look L.1).resolve_left (λz=>by
    let h2:=aax z.1;exact h2 (Au.mpr #[(Sum.inl L.1,V.ref L.2),Au.mpr #[L,aJ,eY],eY]))
   let aW:1<=L.1/\0<=fv/\0<=sv:=by
    unfold gk at z2;cases hz:cs.find? (λc=>decide (c.1=L.1)) with
    |none=>rw[hz] at z2;cases z2
    |some c =>
     rw[hz] at z2;let h3:=I.pos c (Bg hz);let h4:c.2=(fv,sv):=Am z2;let h5:c.1=L.1:=fC (CC (p:=λc:eN×eN×eN=>decide (c.1=L.1)) hz);rw[h4,h5] at h3;exact h3
   exists _,eY,t,_,2,.ref h,eY,eY,SqT.of aA,eY,_,eY,h,_,eY,z1 ▸ DGet.k (k:=Sum.inl L.1) (ab _ _ hh);refine#[_,eY,L.1,eY,eJ,eY,iteN rfl ?_];refine#[_,eY,_,_,eY,eY,_,eY,iteB (λc=>by let:=fC c;lia) (λ_=>?_)];refine#[_,eY,tc,_,eY,z3,eJ,eY,iteN rfl ?_];refine#[_,eY,tc,_,eY,.inr z3,eY,_,eY,iteB (λc=>by simp at c) (λ_=>?_)];refine#[_,eY,tc,_,0,.int fv,eY,eY,z3,eY,fv,eY,eJ,eY,iteN rfl ?_];refine#[_,eY,tc,_,1,.int sv,eY,eY,z3,eY,sv,eY,eJ,eY,iteN rfl ?_];refine#[_,eY,tc,[fv,sv],eY,z3,(by simp),λM hM=>#[_,_,eY,eY,_,eY,iteB (λc=>?_) (λ_=>#[W,_,_,eY])]];let:=fC c;rcases Ak.mp hM with rfl|hM;lia;rw[Ae.mp hM] at this;lia
 rintro σ H11 ⟨W,z8,z9,rfl⟩;refine hN _ _ #[_,eY,?_];exact q B H11 (ae.trans (N.trans W)) (W _ _ (N _ _ (R _ _ au)))
def LkR(ys:eU)(j:eO)(r:eU):Prop:=Fol.Lk (ys.getD j "") (ys.getD (j+1) "") r/\PoolPart (ys++[("nil":eZ)]) r
def notF(ys:eU)(e:eZ)(k:eO):eU:=[("not":eZ),ys.getD k "",e]
def uc(ys:eU)(M:eO)(e:eZ):eS:=(AU M).map (notF ys e)
theorem two:∀{l:eL α},l.length=2->∃a b,l=[a,b]
 |[a,b],_=>#[a,b,eY]
theorem abx:∀{l:eL α},l.length=3->∃a b c,l=[a,b,c]
 |[a,b,c],_=>#[a,b,c,eY]
structure Lw(ys:eU)(M way k:eO)(Ch F P G S:eS):Prop where
 Y:Ys ys
 M2:M=2\/M=3
 w8:way<8
 len:Ch.length=M
 ch:∀(j:eO) r,Ch[j]?=eH r->LkR ys j r
 F:F=besF way (ys.getD M "") (ys.getD 0 "") (ys.getD 4 "")++uc ys M (ys.getD M "")
 P:P=Ch.take k++besP way (ys.getD M "") (ys.getD 0 "") (ys.getD 4 "")++Ch.drop k
 G:G=besF way (ys.getD M "") (ys.getD 0 "") (ys.getD 4 "")
 S:S=[[("stretch":eZ),ys.getD 0 "",ys.getD M ""]]++besP way (ys.getD M "") (ys.getD 0 "") (ys.getD 4 "")\/S=besP way (ys.getD M "") (ys.getD 0 "") (ys.getD 4 "")++[[("stretch":eZ),ys.getD 0 "",ys.getD M ""]]
def DueR(way:eO)(Ch:eS):Prop := ¬ (way=0\/way=6)\/∀r∈Ch.dropLast,¬ r.getD 0 ""="stretch"
section
theorem Ys.at_(Y:Ys ys)(h:j<5):ys.getD j "" ∈ ys:=by
 rw[Ay,Ag (by rw[Y.len];exact h)];exact AM _
theorem Ys.in_(Y:Ys ys)(h:j<5):ys.getD j "" ∈ ys++[("nil":eZ)]:=Ab.mpr (.inl (Y.at_ h))
variable{ys:eU}{M way k:eO}{Ch F P G S:eS} in
theorem Lw.chn(L:Lw ys M way k Ch F P G S):Fol.Chn (ys.getD M "") (ys.getD 0 "") Ch:=by
 let na:∀{j},j<5->¬ ys.getD j ""="any" := λh=>L.Y.na _ (L.Y.in_ h);let a:=L.ch;rcases L.M2 with e|e;let(b,r1,c):=two (L.len.trans e);rw[c] at a |-;rw[e];exact .cons (a 0 b rfl).1 (na (by decide)) (.last (a 1 r1 rfl).1 (na (by decide)));let(b,r1,r2,c):=abx (L.len.trans e);rw[c] at a |-;rw[e];exact .cons (a 0 b rfl).1 (na (by decide)) (.cons (a 1 r1 rfl).1 (na (by decide)) (.last (a 2 r2 rfl).1 (na (by decide))))
theorem a92(h:Fol.Lk a b r):place r=a:=by
 rcases h with rfl|⟨f,rfl⟩<;>rfl
variable{ys:eU}{M way k:eO}{Ch F P G S:eS} in
theorem Lw.pool(L:Lw ys M way k Ch F P G S):TP ys F P/\TP ys G S:=by
 let l:M<5:=by rcases L.M2 with e|e<;>lia
 let b:=L.Y.in_ l;let i:=L.Y.in_ (j:=0) (by decide);let h:=L.Y.in_ (j:=4) (by decide);let f:("nil":eZ)∈ys++[("nil":eZ)]:=Ab.mpr (.inr (Ae.mpr rfl));let g:∀r∈besF way (ys.getD M "") (ys.getD 0 "") (ys.getD 4 ""),PoolRow (ys++[("nil":eZ)]) r:=λr a=>by
  unfold besF at a;split at a
  all_goals first
   | (cases a;done)
   | (rw[Ae.mp a];first|exact#[_,_,_,eY,.inr rfl,b,f]|exact#[_,_,_,eY,.inl rfl,b,f]|exact#[_,_,_,eY,.inr rfl,b,h])
 let d:∀r∈besP way (ys.getD M "") (ys.getD 0 "") (ys.getD 4 ""),PoolPart (ys++[("nil":eZ)]) r:=λr a=>by
  unfold besP at a;split at a
  all_goals first
   | (cases a;done)
   | (rw[Ae.mp a];first|exact .inl #[_,_,_,eY,b,.inr rfl,.inr rfl]|exact .inr (.inl #[_,_,eY,b,f])|exact .inr (.inl #[_,_,eY,b,i])|exact .inr (.inl #[_,_,eY,b,h])|exact .inr (.inr #[_,eY,b]))
 let m:(besF way (ys.getD M "") (ys.getD 0 "") (ys.getD 4 "")).length<=1:=by unfold besF;split<;>simp
 let n:(besP way (ys.getD M "") (ys.getD 0 "") (ys.getD 4 "")).length<=1:=by unfold besP;split<;>simp
 let cp:∀r∈Ch,PoolPart (ys++[("nil":eZ)]) r:=λr a=>by
  let(j,c):=BB a;exact(L.ch j r c).2
 let hl:=L.len;refine#[#[λr a=>?_,λr a=>?_,?_,?_],#[λr a=>?_,λr a=>?_,?_,?_]];rw[L.F] at a;rcases Ab.mp a with z|z;exact g r z;let(j,c,rfl):=Au.mp z;let:=Ba.mp c;exact#[_,_,_,eY,.inr rfl,L.Y.in_ (by lia),b]
 . rw[L.P] at a;rcases Ab.mp a with z|z;rcases Ab.mp z with z|z;exact cp r (Bw z);exact d r z
   exact cp r (Dv z)
 . rw[L.F,Ai];unfold uc;rw[Ad,Bu];rcases L.M2 with e|e<;>lia
 . rw[L.P,Ai,Ai,AL,Bq];rcases L.M2 with e|e<;>lia
 . rw[L.G] at a;exact g r a
 . let st:PoolPart (ys++[("nil":eZ)]) [("stretch":eZ),ys.getD 0 "",ys.getD M ""]:=.inr (.inl #[_,_,eY,i,b]);rcases L.S with e|e;rw[e] at a;rcases Ab.mp a with z|z;rw[Ae.mp z];exact st;exact d r z
   rw[e] at a;rcases Ab.mp a with z|z;exact d r z;rw[Ae.mp z];exact st
 . rw[L.G];lia
 rcases L.S with e|e;rw[e,Ai];show 1+_<=5;lia;rw[e,Ai];show _+1<=5;lia
variable{ys:eU}{M way k:eO}{Ch F P G S:eS} in
theorem Lw.due(L:Lw ys M way k Ch F P G S)(h:DueR way Ch):m9 F P G S:=λv m n hm s=>by
 let l:=(Fol.fits_rows.mp s).1;let f:∀j,j<M->v (ys.getD j "")≠v (ys.getD M ""):=λj i=>l.not_ _ _ (by rw[L.F];exact Ab.mpr (.inr (Au.mpr #[j,Ba.mpr i,eY])));let d:∀r∈besF way (ys.getD M "") (ys.getD 0 "") (ys.getD 4 ""),r∈F:=λr o=>by rw[L.F];exact Ab.mpr (.inl o)
 let one:∀{r:eU} {a:eL (eL eN)},Fol.TkL v m [r] a->∃row,a=[row]/\Fol.Tk v m r row:=λh=>by
  cases h with|cons h t=>cases t;exact#[_,eY,h]
 let str:∀{b:eZ} {a:eL (eL eN)},v (ys.getD M "")≠v b->Fol.TkL v m [[("stretch":eZ),ys.getD M "",b]] a->v (ys.getD M "")∈a.flatten:=λp h=>by
  let(row,rfl,t):=one h;cases t with|str g=>rw[AQ,Ct,A0];exact g.head p
 rw[L.P] at s;let res:=Fol.chn_fits (G:=G) (B:=besP way (ys.getD M "") (ys.getD 0 "") (ys.getD 4 "")) L.chn (λr o=>by
  let(j,i):=BB o;rw[a92 (L.ch j r i).1];exact f j (by let:=(An.mp i).1;rw[<- L.len];exact this)) (λg w=>d g (by rw[<- L.G];exact w)) (by
  rcases h with z|z
  . refine .inr ?_;let q:0<M:=by rcases L.M2 with e|e<;>lia
    let A:=L.w8;obtain e|e|e|e|e|e:way=1\/way=2\/way=3\/way=4\/way=5\/way=7:=by lia
    all_goals subst e
    . refine .inr λa h=>?_;let(row,rfl,t):=one h;cases t with|cell=>exact Af ..
    . by_cases c:v (ys.getD M "")=0;exact .inl (by rw[c];exact hm);exact .inr λa h=>str (by rw[n];exact c) h
    . exact .inr λa h=>str (AF (f 0 q)) h
    . let y:=l.not_ _ _ (d _ (Af ..));refine .inr λa h=>?_;let(row,rfl,t):=one h;cases t with|tree g=>rw[AQ,Ct,A0];exact g.head (by rw[<- n];exact y)
    . let x:=l.is_ _ _ (d _ (Af ..));exact .inl (by rw[x,n];exact hm)
    let u:=l.not_ _ _ (d _ (Af ..));exact .inr λa h=>str u h
  exact .inl z) s
 rcases L.S with e|e;rw[e];exact res.1;rw[e];exact res.2
variable{ys:eU}{M way k:eO}{Ch F P G S:eS} in
theorem Lw.no(L:Lw ys M way k Ch F P G S)(h:¬ DueR way Ch):¬ m9 F P G S:=λU=>by
 let H:way=0\/way=6:=DK λz=>h (.inl z);let I:¬ ∀r∈Ch.dropLast,¬ r.getD 0 ""="stretch" := λz=>h (.inr z);let B:besP way (ys.getD M "") (ys.getD 0 "") (ys.getD 4 "")=[]:=by rcases H with e|e<;>(rw[e];rfl)
 let hP:P=Ch:=by rw[L.P,B,A0,Ds]
 let O:S=[[("stretch":eZ),ys.getD 0 "",ys.getD M ""]]:=by
  rcases L.S with e|e;rw[e,B];rfl;rw[e,B];rfl
 let(c,g,d,i,A,rfl):=five L.Y.len;let nd:=L.Y.nd;simp only[List.nodup_cons,Ak,As,fH,not_or,AV,not_false_eq_true,and_true] at nd;let((Z,T,W,a4),(N,J,b4),(Q,c4),d4):=nd;let V:=Fol.v5_at Z T W N J Q;let nn:=L.Y.nn;simp only[Ak,As,fH,not_or] at nn;let E:Fol.v5 c g d i "nil"=0:=by unfold Fol.v5;rw[eP nn.1,eP nn.2.1,eP nn.2.2.1,eP nn.2.2.2.1]
 let x:∀{a b:eZ} {r:eU},Fol.Lk a b r->r.getD 0 ""="stretch" -> r=[("stretch":eZ),a,b]:=λh z=>by
  rcases h with e|⟨f,e⟩;exact e;rw[e] at z;exact eR z (show ¬ ("cell":eZ)="stretch" by decide)
 let fr:∀e:eZ,Fol.v5 c g d i e≠0->(∀j,j<M->Fol.v5 c g d i ([c,g,d,i,A].getD j "")≠Fol.v5 c g d i e)->e=[c,g,d,i,A].getD M "" -> Fol.FaR (Fol.v5 c g d i) F:=λe he v X=>by
  let u:∀r∈besF way e c A,r=[("not":eZ),e,"nil"]:=λr p=>by
   rcases H with z|z;rw[z] at p;cases p;rw[z] at p;exact Ae.mp p
  let hF:=L.F;rw[<- X] at hF;refine#[λa b z=>?_,λa b z=>?_];rw[hF] at z;rcases Ab.mp z with z|z;cases u _ z;let(j,_,z):=Au.mp z;cases z
  rw[hF] at z;rcases Ab.mp z with z|z;cases u _ z;rw[E];exact he;let(j,w,z):=Au.mp z;cases z;exact v j (Ba.mp w)
 let n:=L.ch;let q:=L.len;let l:∀m:Fol.Mem,m 0=eI->(∃D,Fol.Fits (Fol.v5 c g d i) m F P D)->¬ (∃R,Fol.Fits (Fol.v5 c g d i) m G S R)->False:=λm h1 h2 h3=>h3 (U _ m E h1 h2);rw[hP,O] at l;rcases L.M2 with e|e
 . subst e;let(o,r1,rfl):=two q;let s0:o.getD 0 ""="stretch" := DK λz=>I λr p=>by rw[Ae.mp (show r∈[o] from p)];exact z
   obtain rfl:=x (n 0 o rfl).1 s0;let(m,g1,s,t):=Fol.amid2 (F:=F) (G:=G) V (fr d (by rw[V.2.2.1];decide) (λj v=>by
    obtain z|z:j=0\/j=1:=by lia
    . rw[z];show Fol.v5 c g d i c≠_;rw[V.1,V.2.2.1];decide
    rw[z];show Fol.v5 c g d i g≠_;rw[V.2.1,V.2.2.1];decide) rfl) (n 1 r1 rfl).1
   exact l m g1 s t
 subst e;let(o,r1,r2,rfl):=abx q;let C:=fr i (by rw[V.2.2.2];decide) (λj v=>by
  obtain z|z|z:j=0\/j=1\/j=2:=by lia
  . rw[z];show Fol.v5 c g d i c≠_;rw[V.1,V.2.2.2];decide
  . rw[z];show Fol.v5 c g d i g≠_;rw[V.2.1,V.2.2.2];decide
  rw[z];show Fol.v5 c g d i d≠_;rw[V.2.2.1,V.2.2.2];decide) rfl
 by_cases s0:o.getD 0 ""="stretch";obtain rfl:=x (n 0 o rfl).1 s0;let(m,g1,s,t):=Fol.amid3 (F:=F) (G:=G) V C (n 1 r1 rfl).1 (n 2 r2 rfl).1;exact l m g1 s t
 let s1:r1.getD 0 ""="stretch" := DK λz=>I λr p=>by
  rcases Ak.mp (show r∈[o,r1] from p) with y|y;rw[y];exact s0;rw[Ae.mp y];exact z
 obtain rfl:=x (n 1 r1 rfl).1 s1;let(m,g1,s,t):=Fol.amid3' (F:=F) (G:=G) V C (n 0 o rfl).1 (n 2 r2 rfl).1;exact l m g1 s t
end
theorem adf(xs:eU)(hl:xs.length=n)(b:0<n):∃v:eZ,atI (xs.map V.str) (i % (n:eN))=eH (.str v)/\v∈xs:=by
 let(v,h1,h2):=wo (xs:=xs.map V.str) (m:=(n:eN)) (i:=i) (by rw[Ad,hl]) (by lia);let(x,a,rfl):=Au.mp h2;exact#[x,h1,a]
theorem acd(xs:eL V):cutV xs eI (eH (-1))=xs.dropLast:=by
 unfold cutV;let a:HT.sIx xs.length xs.length (eH (-1))=xs.length-1:=by
  unfold HT.sIx;dsimp only;rw[eQ (by decide)]
  lia
 rw[a,show HT.sIx xs.length 0 eI=0 from rfl,E7,DX,Eu]
theorem PoolPart.ok(e:∀x∈xs,Ok x)(h:PoolPart xs r):∀y∈r,Ok y:=by
 let d:∀y∈r.drop 1,Ok y:=λy c=>(h.in_ y c).elim (λz=>z ▸ (show(PyData.str "any").canLay0=eJ by decide)) (e y);rcases h with⟨a,f,s,rfl,_⟩|⟨a,b,rfl,_⟩|⟨a,rfl,_⟩
 . exact λy c=>(Ak.mp c).elim (λz=>z ▸ (show(PyData.str "cell").canLay0=eJ by decide)) (d y)
 . exact λy c=>(Ak.mp c).elim (λz=>z ▸ (show(PyData.str "stretch").canLay0=eJ by decide)) (d y)
 exact λy c=>(Ak.mp c).elim (λz=>z ▸ (show(PyData.str "tree").canLay0=eJ by decide)) (d y)
theorem Ys.ok(Y:Ys ys):∀x∈ys++[("nil":eZ)],Ok x:=Y.sp (λx a=>(Y.nm x a).1.ok) (show(PyData.str "nil").canLay0=eJ by decide)
def strB(r:eU):fJ:=decide (V.str (r.getD 0 "")=V.str "stretch")
theorem a9v(xs:eL V)(n:eO):cutV xs (eH (n:eN)) eI=xs.drop n:=by
 unfold cutV;rw[HT.sIx_nat,show HT.sIx xs.length xs.length eI=xs.length from rfl,BC (by rw[Bq];lia)];by_cases c:n<=xs.length;rw[FS c];rw[FF (by lia),Ie,List.drop_of_length_le (by lia)]
theorem Paired.takeP:∀{l:eL α}{m:eL β}(k:eO),JI R l m->JI R (l.take k) (m.take k)
 |_,_,0,_=>by simp only[BX];exact .nil
 |_,_,_+1,.nil=>.nil
 |_,_,k+1,.cons h t=>.cons h (Paired.takeP k t)
theorem Paired.dropP:∀{l:eL α}{m:eL β}(k:eO),JI R l m->JI R (l.drop k) (m.drop k)
 |_,_,0,h=>h
 |_,_,_+1,.nil=>.nil
 |_,_,k+1,.cons _ t=>Paired.dropP k t
inductive tOtS(K:Aa)(D:Ends)(σ:St)(H:Hp):Prop
 |mk (m:eN)(l fl bl t:JA)(ys:eU)(e:eZ)(B:eS)(z0 z3 z4 z5 z6 z7 z9 z12 z13 z14:eM V)(h0:σ=[z0,rQ l,iQ m,z3,z4,z5,z6,z7,eH (.str e),z9,rQ fl,rQ bl,z12,z13,z14,rQ t,nQ,nQ,nQ])(h1:H l=eH (.lst (ys.map V.str)))(h2:ys.length=5)(h3:RowsAt K H bl B)(h4:B.length<=5)(h5:(∀H',Same H H'->∀t' sl S,H' t'=eH (.tup [.ref fl,.ref sl])->RowsAt K H' sl S->S=B++[[("stretch":eZ),ys.getD 0 "",e]]->D.nx [z0,rQ l,iQ m,z3,z4,z5,z6,z7,eH (.str e),z9,rQ fl,rQ bl,z12,z13,z14,rQ t',nQ,nQ,nQ] H'))(h6:D.nx σ H):tOtS K D σ H
def tOt(K:Aa):TS:=λD σ H=>tOtS K D σ H
theorem af8(C:Con K mg w)(F:Fun K "law" "law" sLaw f fd)(GC:FnOk P w K mg base CX0 1 gC dC eD (a6k K))(cC:eB GC "_law_cell_at")(GN:FnOk P w K mg base CX0 2 gN dN eE (u8 K))(cN:eB GN "_law_names")(GM:FnOk P w K mg base CX0 1 gM dM ["_law_cell","_law_k"] a3j)(cM:Cal K mg "_law_mixed" gM dM ["_law_cell","_law_k"])(GB:FnOk P w K mg base CX0 1 gB dB ["_law_way","_law_names_here","_law_end"] (a1e K))(cB:Cal K mg "_law_beside" gB dB ["_law_way","_law_names_here","_law_end"])(GS:FnOk P w K mg base CX0 2 gS cw ["_law_found","_law_one","_law_other","_law_pool"] (a3v K))(cS:Cal K mg "_law_state" gS cw ["_law_found","_law_one","_law_other","_law_pool"])(GT:FnOk P w K mg base CX0 3 gT dT ["_law_values","_law_heap","_law_telling"] (spFits K))(cT:Cal K mg "_law_fits" gT dT ["_law_values","_law_heap","_law_telling"])(GL:FnOk P w K mg base CX0 40 gL dL ["one","other"] (we K))(cL:Cal K mg "followed" gL dL ["one","other"]):FnOk P w K mg base CX0 41 f fd ["_law_script"] (zo K):=by
 refine F.okA ["_law_script","_law_names_here","_law_m","_law_many","_law_chain","_law_k","_law_n","_law_f","_law_end","_law_way","_law_facts","_law_beside_here","_law_kept","_law_at","_law_one","_law_other","_law_found","_law_due","_law_values"] λc0 A outer s0 H vs Q E X h nd=>?_;let(a,ns,rfl,hA,q):=h;let c6:=ir X;let bY:=AH (DB (show 32<=64 by decide) _) X.units;let ao:=X.mono (j:=1) (by lia);let bP:=X.mono (j:=2) (by lia);let bW:=X.mono (j:=3) (by lia);exists _,fe (ox (i:=1) nd rfl (Or.inr rfl) (gx GN bP cN (ii (gx GC ao cC (fh (qv 0) (lj ad))) (lj ad))))
  (fe (gd 2 nd (gx GM ao cM (ii (gx GC ao cC (fh (qv 0) (lj ad))) (lj ad))))
  (fe (gd 3 nd (gc jb fc (gc j3 (qv 2) fc)))
  (fe (gd 4 nd (iu ad))
  (fe (ip A7 rfl (jx rfl C.range (fh (qv 3) ad)) (j2 5 nd) (fe (gd 6 nd (gx GM ao cM (ii (gx GC ao cC (fh (qv 0) (l8 (gc jb fc (qv 5)) ad))) (fh (qv 5) ad))))
  (fe (gd 7 nd (i7 K (gc ke (qv 1) (iu (gm (gm ad)))) (gc j3 (gc ji (qv 6) fc) fc)))
  (ff (il (kz (K:=K) rfl AK By Bz jw (qv 4) (fx (i7 K (iu (jt (gm (fx (i7 K (qv 1) (qv 5)) (fx (i7 K (qv 1) (gc jb (qv 5) fc)) ad))) (jt (gm (fx (i7 K (qv 1) (qv 5)) (fh (qv 7) (fx (i7 K (qv 1) (gc jb (qv 5) fc)) ad)))) ad))) (gc j3 (qv 6) fc)) ad)))))))
  (fe (ox (i:=8) nd rfl (Or.inr rfl) (i7 K (qv 1) (qv 3)))
  (fe (gd 9 nd (gc j3 (gc ji (qv 2) fc) fc))
  (fe (a5q (gx GB ao cB (fh (qv 9) (fh (qv 1) (fh (qv 8) ad)))) (a2h (j2 10 nd) (j2 11 nd)))
  (fe (gd 12 nd (gc ke (qv 10) (ni ["_law_k","_law_names_here","_law_end"] [1,8] (jx rfl C.range (fh (qv 3) ad)) (λ_ _ _ _=>le) (λ_ _ _ _=>(i3 (gm (fx (i7 K (qv 1) (qv 0)) (fh (qv 2) ad))))))))
  (fe (gd 13 nd (gc j3 (gc ji (qv 2) fc) (gc jb (gr j0 rfl C.len Bs (fh (qv 4) ad)) fc)))
  (fe (gd 14 nd (i3 (fh (qv 12) (l8 (gc ke (gc ke (l0 qg (qv 4) lu (ly (qv 13))) (qv 11)) (l0 qg (qv 4) (ly (qv 13)) lu)) ad))))
  (fe (gd 15 nd (i3 (fh (qv 10) (l8 (gc ke (iu (jt (gm (fx (i7 K (qv 1) fc) (fh (qv 8) ad))) ad)) (qv 11)) ad))))
  (fe (ng (t':=tOt K) (gg (fz gq (gc j3 (gc ji (qv 2) fc) fc) fc (fy _)) (ff (gd 15 nd (i3 (fh (qv 10) (l8 (gc ke (qv 11) (iu (jt (gm (fx (i7 K (qv 1) fc) (fh (qv 8) ad))) ad))) ad))))) ge) (λD σ H hh=>?w1))
  (fe (gd 16 nd (gx GL X cL (jt (ii (j6 kt rfl C.list Bx (fx (fj K (qv 14) fc) ad)) (ii (j6 kt rfl C.list Bx (fx (fj K (qv 14) fc) ad)) ad)) (jt (ii (j6 kt rfl C.list Bx (fx (fj K (qv 15) fc) ad)) (ii (j6 kt rfl C.list Bx (fx (fj K (qv 15) fc) ad)) ad)) ad))))
  (fe (gd 17 nd (zr (io tm (qv 9) (i3 (lj (lj ad))) (by with_unfolding_all rfl)) (lm (io (aeh bY) (p6 (i9 (l0 qg (qv 4) lu (ly (zx wh fc)))) (λ_ _ _ _=>(my (fz gq (fj K (qv 0) fc) gt (fy _)))) (λ_ _ _ _=>(qv 0))) (iu ad) (fy _)))))
  (fe (gg (QW.qt (jg (jc (i6 (gr n9 rfl C.isi B5 (fh (qv 16) (fh #[gty C.tuple Ea] ad))))) (jp (fz km (io gq (fj K (qv 16) fc) gt (fy _)) (qv 17) (fy _))))) (ff (fm mh)) ge)
  (fe (gg (i6 (qv 17)) (ff (fm (io gq (gr j0 rfl C.len Bs (fh (qv 16) ad)) fc (fy _)))) ge)
  (fe (gd 18 nd (gx GS bP cS (fh (qv 16) (fh (qv 14) (fh (qv 15) (fh (qv 1) ad))))))
  (fe (gg (QW.qt (jg (fz km (fj K (qv 16) fc) gt (fy _)) (jp (fz kx (qv 18) gj (fy _))))) (ff (fm mh)) ge)
  (ff (fm (om (gx GT bW cT (fh (qv 18) (fx (fj K (qv 16) fc) (fh (qv 14) ad)))) (lm (vr (gx GT bW cT (fh (qv 18) (fx (fj K (qv 16) fc) (fh (qv 15) ad)))))))))))))))))))))))))))
 nofun
 case w1 =>
  let(m,l,fl,bl,t,ys,e,B,z0,z3,z4,z5,z6,z7,z9,dc,c9,dd,rfl,hl,ab,hB,de,go,b9):=hh;let(y0,y1,y2,y3,y4,rfl):=five ab;let(u,b1,b2):=id hB;let c8:=A4 b2;refine#[_,eY,_,_,eY,eY,(show CDiv _ 64 from#[by decide,by decide]),_,_,eY,eY,(show(0:eN)<2 by decide),eY,_,eY,iteB (λc=>?_) (λc=>b9)];refine#[_,eY,_,eY,_,eY,l,_,0,.str y0,eY,eY,SqL.of hl,eY,_,eY,eX,λp hp=>#[eW,λq1 aU=>?_]];let(e1,r1):=mu (K:=K) (r:=[("stretch":eZ),y0,e]) hp aU;let(ac,c1,c2):=id r1;let aA:=A4 c2;show rCat _ _ (upd (upd H p (.tup ([("stretch":eZ),y0,e].map V.str))) q1 (.lst [.ref p])) _;generalize upd (upd H p (.tup ([("stretch":eZ),y0,e].map V.str))) q1 (.lst [.ref p])=H1 at e1 r1 c1 c2 |-;refine#[bl,q1,_,_,eY,eY,e1 _ _ b1,c1,(by rw[Ad,Ad,aA];exact j7 (show u.length+1<=1000 by lia)),λO aV=>?_];rw[<- Av];let s2:=fi aV (.lst ((u++ac).map V.ref));let q2:RowsAt K (upd H1 O (.lst ((u++ac).map V.ref))) O (B++[[("stretch":eZ),y0,e]]):=#[_,fb,Paired.app (ig (e1.trans s2) b2) (ig s2 c2)]
  refine#[eV,λt' cq=>?_];let s3:=fi cq (.tup [.ref fl,.ref O]);exact go _ (e1.trans (s2.trans s3)) t' O _ fb (q2.same s3) rfl
 refine#[_,eY,a,ns,0,eY,hA,_,5,eY,by lia,λl ys H1 e1 hl ab hy cu=>?_];let Y:Ys ys:=#[ab,hy,cu]
 refine#[_,eY,a,ns,1,eY,e1.seq hA,_,1,eY,by lia,λm hm=>?_];exists _,eY,_,_,eY,eY,(show(0:eN)<2 by decide),_,_,eY,rfl;obtain⟨M,hM,cr⟩:∃M:eO,2+m % 2=(M:eN)/\(M=2\/M=3):=#[(2+m % 2).toNat,by lia,by lia]
 show iq 3 (V.int (2+m % 2)) _ H1 _;rw[hM];refine#[AC _,λcl aA=>?_];let s2:=fi aA (.lst []);let q2:=fb (H:=H1) (a:=cl) (o:=.lst []);let dk:H cl=eI:=e1.free aA;let e2:=e1.trans s2;let cE:=s2 _ _ hl;show iq 4 (V.ref cl) _ (upd H1 cl (.lst [])) _;generalize upd H1 cl (.lst [])=H2 at q2 e2 cE s2 |-;dsimp only[iq];refine jf (a:=tFor _ _ _) λD1 br ci b5=>?_;refine#[_,eY,_,eY,by lia,by lia,?_];rw[AW];let dg:M<5:=by lia
 let bI:∀{b:JA} {o:HO},H1 b=eH o->b≠cl:=λ{b o} hb=>gb hb aA;refine mq (lo:=0) (n:=M) (λi σ H3=>Same H1 H3/\Ex5 λ(as:eL JA) (Ch:eS) (z5 z6 z7:eM V)=>And5 (H3 cl=eH (.lst (as.map V.ref))) (JI (λb r=>RowAt K H3 b r) as Ch) (Ch.length=i) ((∀(j:eO) r,Ch[j]?=eH r->LkR ys j r)) (σ=[rQ a,rQ l,iQ m,iQ (M:eN),rQ cl,z5,z6,z7,nQ,nQ,nQ,nQ,nQ,nQ,nQ,nQ,nQ,nQ,nQ]))
  #[s2,[],[],eI,eI,eI,q2,.nil,eY,λj r h=>(by cases h),eY] ?_ ?_
 . rintro i σ H3 hi ⟨e3,as,Ch,z5,z6,z7,ap,az,G,aj,rfl⟩
   nofun
   let cm:=e3.seq (e1.seq hA);let aq:=e3 _ _ hl;let bp:i+1<5:=by lia
   let aI:atI (ys.map V.str) (0+(i:eN))=eH (.str (ys.getD i "")):=by
    rw[Cd];exact lc (by rw[Ar,Ay,Ag (by lia)];rfl)
   let aJ:atI (ys.map V.str) (0+(i:eN)+1)=eH (.str (ys.getD (i+1) "")):=by
    rw[Cd];exact lc (j:=i+1) (by rw[Ar,Ay,Ag (by lia)];rfl)
   refine#[_,eY,_,eY,_,_,eY,eY,a,ns,2+i,(by rw[Cd];rfl),cm,_,eY,_,i,(by rw[Cd];rfl),by lia,λn hn=>?_];refine#[_,eY,eV,λp1 cA=>?_];let n1:=fi cA (.lst [.str "nil",.str "any"]);refine#[l,p1,_,_,eY,eY,n1 _ _ aq,fb,(by rw[Ad,ab];decide),λp2 co=>?_];let(fw,b6,cD):=adf (ys++[("nil":eZ),"any"]) (n:=7) (i:=n / 2) (by rw[Ai,ab];rfl) (by decide);let n2:=fi co (.lst (ys.map V.str++[.str "nil",.str "any"]));let q4:(upd (upd H3 p1 (.lst [.str "nil",.str "any"])) p2 (.lst (ys.map V.str++[.str "nil",.str "any"]))) p2=eH (.lst ((ys++[("nil":eZ),"any"]).map V.str)):=by rw[fb,Av];rfl
   let am:=n1.trans n2;generalize upd (upd H3 p1 (.lst [.str "nil",.str "any"])) p2 (.lst (ys.map V.str++[.str "nil",.str "any"]))=H4 at q4 am |-;clear n1 n2;exists _,eY,_,_,eY,eY,(show CDiv _ 2 from#[by decide,by decide]),_,_,eY,eY,(show(0:eN)<7 by decide),p2,_,_,.str fw,eY,eY,SqL.of q4,b6;let al:=am _ _ aq;let R:=am _ _ ap;exists _,eY,(.inl #[eY,_,SqL.of R]);refine#[_,eY,_,eY,l,_,_,.str (ys.getD i ""),eY,eY,SqL.of al,aI,_,eY,_,eY,_,_,eY,eY,l,_,_,.str (ys.getD (i+1) ""),eY,eY,SqL.of al,aJ,eX,λt1 cJ=>?_];let(H5,z8,n5,q5):=kg cJ (.tup [.str "stretch",.str (ys.getD i ""),.str (ys.getD (i+1) "")]);rw[z8];let an:=n5 _ _ al;refine#[_,eY,_,eY,l,_,_,.str (ys.getD i ""),eY,eY,SqL.of an,aI,_,eY,_,eY,_,eY,_,_,eY,eY,l,_,_,.str (ys.getD (i+1) ""),eY,eY,SqL.of an,aJ,(show 4<=JB by decide),λt2 cx=>?_];let(H6,y5,n6,q6):=kg cx (.tup [.str "cell",.str (ys.getD i ""),.str fw,.str (ys.getD (i+1) "")]);rw[y5];refine#[eV,λp3 cv=>?_];let(H7,y6,n7,q7):=kg cv (.lst [.ref t1,.ref t2]);rw[y6];let bJ:=n5.trans (n6.trans n7);let bT:=am.trans bJ;let inl:∀{j:eO},j<5->ys.getD j "" ∈ ys++[("nil":eZ)]:=λh=>Y.in_ h;obtain⟨tt,r,cR,av,cI⟩:∃(tt:JA) (r:eU),atI [V.ref t1,V.ref t2] (n % 2)=eH (.ref tt)/\RowAt K H7 tt r/\LkR ys i r:=by
    rcases Int.emod_two_eq n with z|z;exact#[t1,[("stretch":eZ),ys.getD i "",ys.getD (i+1) ""],by rw[z];rfl,SqT.of (n7 _ _ (n6 _ _ q5)),.inl rfl,.inr (.inl #[_,_,eY,inl (by lia),inl bp])]
    refine#[t2,[("cell":eZ),ys.getD i "",fw,ys.getD (i+1) ""],by rw[z];rfl,SqT.of (n7 _ _ q6),.inr #[fw,eY],.inl #[_,_,_,eY,inl (by lia),?_,.inl (inl bp)]];rcases Ab.mp cD with y|y;exact .inl (Ab.mpr (.inl y))
    rcases Ak.mp y with y|y;rw[y];exact .inl (Ab.mpr (.inr (Ae.mpr rfl)));exact .inr (Ae.mp y)
   let aB:=bJ _ _ R;let aw:as.length=i:=(A4 az).trans G;exists _,eY,_,_,eY,eY,(show(0:eN)<2 by decide),p3,_,_,.ref tt,eY,eY,SqL.of q7,cR,cl,as.map V.ref,_,eY,eY,aB,jy (by rw[Ad];lia);refine#[λb o hb=>by rw[fg (bI hb)];exact bT _ _ (e3 _ _ hb),as++[tt],Ch++[r],_,_,_,by rw[fb,Av];rfl,Paired.app (Paired.mapP (ig bT az) λb r h=>a69 aB h) (.cons (a69 aB av) .nil),by rw[Ai,G];rfl,λj r' hj=>?_,eY];by_cases c:j<Ch.length;rw[CI c] at hj;exact aj j r' hj
   let cb:=(An.mp hj).1;rw[Ai,A2] at cb;obtain rfl:j=i:=by lia
   rw[CD (by lia),G,EB] at hj;cases hj;exact cI
 rintro σ H3 ⟨e3,as,Ch,z5,z6,z7,ap,az,G,aj,rfl⟩;refine br _ _ ?_;clear br ci b5 D1;let aw:as.length=M:=(A4 az).trans G;let aq:=e3 _ _ hl;obtain⟨e,he⟩:∃e,ys.getD M ""=e:=#[_,eY]
 let aM:atI (ys.map V.str) (M:eN)=eH (.str e):=by
  rw[<- he];exact lc (by rw[Ar,Ay,Ag (by lia)];rfl)
 obtain⟨way,hw,bz⟩:∃way:eO,m / 2 % 8=(way:eN)/\way<8:=#[(m / 2 % 8).toNat,by lia,by lia]
 exists _,eY,_,eY,l,_,_,.str e,eY,eY,SqL.of aq,aM;exists _,eY,_,_,eY,eY,(show CDiv _ 2 from#[by decide,by decide]),_,_,eY,eY,(show(0:eN)<8 by decide);show iq 9 (V.int (m / 2 % 8)) _ H3 _;rw[hw];refine#[_,eY,_,eY,_,eY,way,l,ys,e,eY,bz,aq,ab,λbt fl bl H4 e4 a4 bA bZ=>?_];exists bt,_,eY,SqT.of a4,eY,_,_,eY,_,_,eY,rfl;dsimp only;refine jf (a:=tAsg _ _) λD2 g v N=>?_;let am:=e3.trans e4;let al:=am _ _ hl;let R:=e4 _ _ ap;let aS:RowsAt K H4 cl Ch:=#[as,R,ig e4 az]
 let(ax,f1,f2):=id bA;let(u,b1,b2):=id bZ;let dj:=A4 f2;let df:=A4 b2;let lf:(besF way e (ys.getD 0 "") (ys.getD 4 "")).length<=1:=by unfold besF;split<;>simp
 let lp:(besP way e (ys.getD 0 "") (ys.getD 4 "")).length<=1:=by unfold besP;split<;>simp
 refine#[_,eY,_,eY,_,eY,by lia,by lia,?_];rw[AW];refine a65 (nums 0 M) (AU M) (λH a r=>RowAt K H a r) (notF ys e) vk trivial (by unfold nums;rw[Ad,Bu];lia) (by unfold nums;rw[Ad]) wj (λi x r hx ah H5 e5 Q' q'=>?_) λD H5 aC hD e5 bH a8=>?_;unfold nums at hx;rw[Ar] at hx;rw[ah] at hx;let c5:=Ba.mp (Aq ah);let cF:x=.int (0+(r:eN)):=(Am hx).symm;subst cF;refine#[_,eY,_,eY,l,_,_,.str (ys.getD r ""),eY,eY,SqL.of (e5 _ _ al),(by rw[Cd];exact lc (by rw[Ar,Ay,Ag (by lia)];rfl)),_,eY,eX,λt ht=>?_];exact q' t _ (fi ht _) (SqT.of fb)
 let bU:=A4 a8;rw[Ad,Bu] at bU;refine#[fl,D,_,_,eY,eY,e5 _ _ f1,bH,(by rw[Ad,Ad];exact j7 (by lia)),λkl cK=>?_];rw[<- Av];let s6:=fi cK (.lst ((ax++aC).map V.ref));let bE:RowsAt K (upd H5 kl (.lst ((ax++aC).map V.ref))) kl (besF way e (ys.getD 0 "") (ys.getD 4 "")++uc ys M e):=#[ax++aC,fb,Paired.app (ig (e5.trans s6) f2) (ig s6 a8)]
 let aF:=e5.trans s6;show iq 12 (V.ref kl) _ (upd H5 kl (.lst ((ax++aC).map V.ref))) _;generalize upd H5 kl (.lst ((ax++aC).map V.ref))=H6 at bE aF |-;clear bH a8 e5 s6;refine g [rQ a,rQ l,iQ m,iQ (M:eN),rQ cl,z5,z6,z7,eH (.str e),iQ (way:eN),rQ fl,rQ bl,rQ kl,nQ,nQ,nQ,nQ,nQ,nQ] _ ?_;clear g v N D2;refine jf (a:=tAsg _ _) λD2 g v N=>?_;let au:=aF _ _ R;let ce:((as.map V.ref).length:eN)=(M:eN):=by rw[Ad,aw]
 exists _,eY,_,_,eY,eY,(show CDiv _ 16 from#[by decide,by decide]),_,eY,cl,_,eY,.inl (SqL.of au);rw[ce];obtain⟨k,hk⟩:∃k:eO,m / 16 % ((M:eN)+1)=(k:eN):=#[(m / 16 % ((M:eN)+1)).toNat,by let:=BA (m / 16) (show(M:eN)+1≠0 by lia);lia]
 exists _,_,eY,eY,_,_,eY,eY,(show(0:eN)<(M:eN)+1 by lia);show iq 13 (V.int (m / 16 % ((M:eN)+1))) _ H6 _;rw[hk];refine g [rQ a,rQ l,iQ m,iQ (M:eN),rQ cl,z5,z6,z7,eH (.str e),iQ (way:eN),rQ fl,rQ bl,rQ kl,iQ (k:eN),nQ,nQ,nQ,nQ,nQ] _ ?_;clear g v N D2;refine jf (a:=tAsg _ _) λD2 g v N=>?_;let aR:=aF _ _ b1;refine#[_,eY,_,eY,_,eY,_,eY,cl,_,eY,SqL.of au,λc1 ba=>?_];rw[afh,<- IM];let(G1,y7,n1,m1):=kg ba (.lst ((as.take k).map V.ref));rw[y7];let da:(as.take k).length<=3:=by rw[AL];lia
 refine#[_,eY,c1,bl,_,_,eY,eY,m1,n1 _ _ aR,(by rw[Ad,Ad];exact j7 (by lia)),λc2 aZ=>?_];rw[<- Av];let(G2,y8,n2,m2):=kg aZ (.lst ((as.take k++u).map V.ref));rw[y8];refine#[_,eY,_,eY,_,eY,cl,_,eY,SqL.of (n2 _ _ (n1 _ _ au)),λc3 a1=>?_];rw[a9v,<- IK];let(G3,y9,n3,m3):=kg a1 (.lst ((as.drop k).map V.ref));rw[y9];let c7:(as.drop k).length<=3:=by rw[Bq];lia
 refine#[c2,c3,_,_,eY,eY,n3 _ _ m2,m3,(by rw[Ad,Ad,Ai];exact j7 (by lia)),λpl cg=>?_];rw[<- Av];let(G4,x0,n4,m4):=kg cg (.lst ((as.take k++u++as.drop k).map V.ref));rw[x0];refine#[eV,λo1 cy=>?_];let n5:=fi cy (.tup [.ref kl,.ref pl]);let m5:=fb (H:=G4) (a:=o1) (o:=.tup [.ref kl,.ref pl]);show iq 14 (V.ref o1) _ (upd G4 o1 (.tup [.ref kl,.ref pl])) _;generalize upd G4 o1 (.tup [.ref kl,.ref pl])=G5 at n5 m5 |-;let bd:=n1.trans (n2.trans (n3.trans (n4.trans n5)));let af:=aF.trans bd;let cn:T2At K G5 o1 (besF way e (ys.getD 0 "") (ys.getD 4 "")++uc ys M e) (Ch.take k++besP way e (ys.getD 0 "") (ys.getD 4 "")++Ch.drop k):=by
  let(cG,b8,bn):=id aS;obtain rfl:cG=as:=by
   let:=HO.lst.inj (Am (b8.symm.trans R));exact(Da (λ_ _ z=>V.ref.inj z)).mp this
  exact#[kl,pl,SqT.of m5,bE.same bd,_,n5 _ _ m4,Paired.app (Paired.app (Paired.takeP k (ig af bn)) (ig af b2)) (Paired.dropP k (ig af bn))]
 refine g [rQ a,rQ l,iQ m,iQ (M:eN),rQ cl,z5,z6,z7,eH (.str e),iQ (way:eN),rQ fl,rQ bl,rQ kl,iQ (k:eN),rQ o1,nQ,nQ,nQ,nQ] _ ?_;clear g v N D2 n1 n2 n3 n4 n5 m1 m2 m3 m4;refine jf (a:=tAsg _ _) λD2 g v N=>?_;let an:=af _ _ al;let a0:atI (ys.map V.str) 0=eH (.str (ys.getD 0 "")):=lc (j:=0) (by rw[Ar,Ay,Ag (by lia)];rfl);refine#[_,eY,_,eY,l,_,0,.str (ys.getD 0 ""),eY,eY,SqL.of an,a0,_,eY,eX,λp hp=>#[eW,λq1 aU=>?_]];let(bi,r1):=mu (K:=K) (r:=[("stretch":eZ),ys.getD 0 "",e]) hp aU;show tVar 11 _ (upd (upd G5 p (.tup ([("stretch":eZ),ys.getD 0 "",e].map V.str))) q1 (.lst [.ref p])) _;generalize upd (upd G5 p (.tup ([("stretch":eZ),ys.getD 0 "",e].map V.str))) q1 (.lst [.ref p])=G6 at bi r1 |-;let(ac,cj,bX):=id r1;let bq:=A4 bX;refine#[_,eY,q1,bl,_,_,eY,eY,cj,bi _ _ (bd _ _ aR),(by rw[Ad,Ad,bq];exact j7 (show 1+u.length<=1000 by lia)),λO aV=>?_];rw[<- Av];let s7:=fi aV (.lst ((ac++u).map V.ref));let be:=bi.trans s7;let bG:RowsAt K (upd G6 O (.lst ((ac++u).map V.ref))) O ([[("stretch":eZ),ys.getD 0 "",e]]++besP way e (ys.getD 0 "") (ys.getD 4 "")):=#[_,fb,Paired.app (ig s7 bX) (ig (af.trans be) b2)]
 refine#[eV,λt ht=>?_];let s8:=fi ht (.tup [.ref fl,.ref O]);let q8:=fb (H:=upd G6 O (.lst ((ac++u).map V.ref))) (a:=t) (o:=.tup [.ref fl,.ref O]);let aN:=be.trans s8;let bB:=bG.same s8;show iq 15 (V.ref t) _ (upd (upd G6 O (.lst ((ac++u).map V.ref))) t (.tup [.ref fl,.ref O])) _;generalize upd (upd G6 O (.lst ((ac++u).map V.ref))) t (.tup [.ref fl,.ref O])=H8 at q8 aN bB |-;refine g [rQ a,rQ l,iQ m,iQ (M:eN),rQ cl,z5,z6,z7,eH (.str e),iQ (way:eN),rQ fl,rQ bl,rQ kl,iQ (k:eN),rQ o1,rQ t,nQ,nQ,nQ] _ ?_;clear g v N D2 s8 bG s7 be;refine jf (a:=tOt K) λD2 g v N=>?_;let rest:∀(H9:Hp) (t' O:JA) (S:eS),Same H8 H9->H9 t'=eH (.tup [.ref fl,.ref O])->RowsAt K H9 O S->(S=[[("stretch":eZ),ys.getD 0 "",e]]++besP way e (ys.getD 0 "") (ys.getD 4 "")\/S=besP way e (ys.getD 0 "") (ys.getD 4 "")++[[("stretch":eZ),ys.getD 0 "",e]])->
  D2.nx [rQ a,rQ l,iQ m,iQ (M:eN),rQ cl,z5,z6,z7,eH (.str e),iQ (way:eN),rQ fl,rQ bl,rQ kl,iQ (k:eN),rQ o1,rQ t',nQ,nQ,nQ] H9:=λH9 t' O S a2 hT hS ck=>by
  refine g _ _ ?_;clear g v N D2;subst he;let a5:=aN.trans a2;let bL:=af.trans a5;let ai:=bA.same bL;let L:Lw ys M way k Ch (besF way (ys.getD M "") (ys.getD 0 "") (ys.getD 4 "")++uc ys M (ys.getD M "")) (Ch.take k++besP way (ys.getD M "") (ys.getD 0 "") (ys.getD 4 "")++Ch.drop k) (besF way (ys.getD M "") (ys.getD 0 "") (ys.getD 4 "")) S:=#[Y,cr,bz,G,aj,eY,eY,eY,ck]
  let(T,U):=L.pool;let O9:=cn.same a5;let bc:T2At K H9 t' (besF way (ys.getD M "") (ys.getD 0 "") (ys.getD 4 "")) S:=#[fl,O,SqT.of hT,ai,hS]
  let(fa,pa,o9,oF,oP):=id O9;let(aH,bF,bk):=id oF;let(aE,bS,bm):=id oP;let(aG,bM,a6):=id ai;let(aP,bK,bw):=id hS;generalize besF way (ys.getD M "") (ys.getD 0 "") (ys.getD 4 "")++uc ys M (ys.getD M "")=F0 at L T O9 oF bk;generalize Ch.take k++besP way (ys.getD M "") (ys.getD 0 "") (ys.getD 4 "")++Ch.drop k=P0 at L T O9 oP bm;let aQ:=aS.same bL;generalize besF way (ys.getD M "") (ys.getD 0 "") (ys.getD 4 "")=G0 at L U bc a6 ai;refine jf (a:=tAsg _ _) λD2 g v N=>?_;refine#[_,eY,o1,_,0,.ref fa,eY,eY,o9,eY,fa,_,eY,.inl (SqL.of bF),λc1 ba=>?_];let(G1,x3,n1,m1):=kg ba (.lst (aH.map V.ref));rw[x3];refine#[_,eY,o1,_,1,.ref pa,eY,eY,n1.seqT o9,eY,pa,_,eY,.inl (SqL.of (n1 _ _ bS)),λc2 aZ=>?_];let(G2,x4,n2,m2):=kg aZ (.lst (aE.map V.ref));rw[x4];refine#[eV,λx1 cQ=>?_];let(G3,x5,n3,m3):=kg cQ (.tup [.ref c1,.ref c2]);rw[x5];let ar:=n1.trans (n2.trans n3);refine#[_,eY,t',_,0,.ref fl,eY,eY,SqT.of (ar _ _ hT),eY,fl,_,eY,.inl (SqL.of (ar _ _ bM)),λc3 a1=>?_];let(G4,x6,n4,m4):=kg a1 (.lst (aG.map V.ref));rw[x6];let aW:=ar.trans n4;refine#[_,eY,t',_,1,.ref O,eY,eY,SqT.of (aW _ _ hT),eY,O,_,eY,.inl (SqL.of (aW _ _ bK)),λc4 cW=>?_];let(G5,x7,n5,m5):=kg cW (.lst (aP.map V.ref));rw[x7];refine#[eV,λx2 cc=>?_];let(G6,x8,n6,m6):=kg cc (.tup [.ref c3,.ref c4]);rw[x8];let aL:=n4.trans (n5.trans n6);let aT:=n3.trans aL;let ak:=ar.trans aL;let X1:T2At K G6 x1 F0 P0:=#[c1,c2,SqT.of (aL _ _ m3),#[aH,aT _ _ (n2 _ _ m1),ig ak bk],#[aE,aT _ _ m2,ig ak bm]]
  let X2:T2At K G6 x2 G0 S:=#[c3,c4,SqT.of m6,#[aG,n6 _ _ (n5 _ _ m4),ig ak a6],#[aP,n6 _ _ m5,ig ak bw]]
  let cV:(ys++[("nil":eZ)]).length=6:=by rw[Ai,ab];rfl
  refine#[x1,x2,ys++[("nil":eZ)],ys++[("nil":eZ)],F0,P0,G0,S,eY,X1,X2,T.wd Y,U.wd Y,by lia,by let:=T.fl;lia,cV,λzs hz cU=>afk Y T U hz cU,λfd zs aX bv ay ans=>?_];let aa:=ak.trans bv;let bD:=O9.same aa;let bV:=bc.same aa;let a7:=aQ.same aa;let cZ:=aa _ _ (a5 _ _ an);refine g [rQ a,rQ l,iQ m,iQ (M:eN),rQ cl,z5,z6,z7,eH (.str (ys.getD M "")),iQ (way:eN),rQ fl,rQ bl,rQ kl,iQ (k:eN),rQ o1,rQ t',rQ fd,nQ,nQ] _ ?_;clear g v N D2 X1 X2 n1 n2 n3 n4 n5 n6 ar aW aL aT ak m1 m2 m3 m4 m5 m6 O9 bc aQ bF bk bS bm bM a6 bK bw oF oP o9 ai hS hT bv aa;refine jf (a:=tAsg _ _) λD2 g v N=>?_;let bR:∀(b:fJ) (H11:Hp),Same aX H11->(b=eJ↔DueR way Ch)->D2.nx [rQ a,rQ l,iQ m,iQ (M:eN),rQ cl,z5,z6,z7,eH (.str (ys.getD M "")),iQ (way:eN),rQ fl,rQ bl,rQ kl,iQ (k:eN),rQ o1,rQ t',rQ fd,eH (.bl b),nQ] H11:=λb H11 W hb=>by
   refine g _ _ ?_;clear g v N D2;cases ans with
   |paper p fo =>
    let a4:b=eJ:=hb.mpr (Classical.byContradiction λz=>L.no z fo);subst a4;let(z,us,p1,_):=p;let bh:=W _ _ p1;refine#[_,eY,fd,_,eY,SqT.of bh,eJ,eY,iteN rfl ?_];refine#[_,eY,fd,_,0,.str "paper",eY,eY,SqT.of bh,eY,eY,_,eY,eY,_,eY,iteB (λc=>eR c (by decide)) (λ_=>?_)];refine#[_,eY,_,eY,iteB (λ_=>?_) (λc=>by cases c)];exact#[_,eY,fd,_,eY,.inr (SqT.of bh),eY,q H11]
   |state s =>
    let(d,h,mm,cs,h1,h2,h3,h4,(h5,cd,bN),h6,h7,h8):=s;let bb:gk cs 0=eI:=by
     unfold gk;cases hz:cs.find? (λc=>decide (c.1=0)) with
     |none=>rfl
     |some c =>
      let g1:=(bN c (Bg hz)).1;let g2:c.1=0:=fC (CC (p:=λc:eN×eN×eN=>decide (c.1=0)) hz)
      lia
    let cP:b=eK:=by
     cases b with|false=>rfl|true=>exact eR (L.due (hb.mp rfl) (Cv.num mm) (gk cs) rfl bb h7) h8
    subst cP;let aD:=W _ _ h1;refine#[_,eY,fd,_,eY,SqT.of aD,eJ,eY,iteN rfl ?_];refine#[_,eY,fd,_,0,.str "state",eY,eY,SqT.of aD,eY,eY,_,eY,eY,_,eY,iteB (λc=>eR c (by decide)) (λ_=>?_)];refine#[_,eY,_,eY,iteB (λc=>by cases c) (λ_=>?_)];let I:SIn K H11 fd o1 t' d h mm cs ys zs F0 P0 G0 S:=#[aD,W _ _ h2,h3.same W,h5,cd,bN,h6,Y,T,bD.same W,U,bV.same W,ay]
    refine#[_,eY,_,eY,_,eY,_,eY,fd,o1,t',l,d,h,mm,cs,ys,zs,F0,P0,G0,S,eY,I,λd2 bg aO cf=>?_];let bf:=aO _ _ aD;refine#[_,eY,fd,_,0,.str "state",eY,eY,SqT.of bf,eY,eY,_,eY,iteB (λc=>eR c (by decide)) (λ_=>?_)];refine#[_,eY,eY,_,eY,iteB (λc=>by simp at c) (λ_=>?_)];let(v1,v2,v3):=w4 mm;let J:FIn K bg d2 h (putK (Cv.dv mm) (Sum.inr "nil") (.int 0)) cs:=#[cf,v2,(by let(hp,z1,z2):=(h3.same W).same aO;exact#[hp,z1,z2]),h4,h5.1]
    let aw:∀{Fx Px:eS},TP ys Fx Px->(∀y∈i5 (Fx++Px),y∈zs)->∀r∈Fx++Px,∀x∈r.drop 1,x="any" \/ (valV (putK (Cv.dv mm) (Sum.inr "nil") (.int 0)) (Sum.inr x)).isSome=eJ:=λ{Fx Px} T hw r X x hx=>(T.in_ X x hx).imp _root_.id λhp=>v3 x (by
     by_cases c:x="nil";exact .inl c
     exact .inr (h6 x ((T.dom Y hw X hx hp).resolve_left c) c))
    let ve:vI (putK (Cv.dv mm) (Sum.inr "nil") (.int 0))=Cv.num mm:=funext v1;exists _,eY,_,eY,fd,_,2,.ref h,eY,eY,SqT.of bf,eY,_,rfl;unfold tNil;dsimp only;refine a3g J Y T ((bD.same W).same aO) (aw T λy hy=>(ay y).mpr (.inl hy)) λb1 ag Z ch=>?_;let bO:b1=eJ:=ch.mpr (by rw[ve];exact h7);subst bO;refine#[_,eY,iteB (λ_=>?_) (λc=>by cases c)];exists _,eY,_,eY,fd,_,2,.ref h,eY,eY,SqT.of (Z _ _ bf),eY,_,rfl;show spFits K [V.ref d2,V.ref h,V.ref t'] ag _ _;refine a3g (J.same Z) Y U (((bV.same W).same aO).same Z) (aw U λy hy=>(ay y).mpr (.inr hy)) λb2 ct db cp=>?_;let bQ:b2=eK:=by
     cases b2 with|false=>rfl|true=>exact eR (cp.mp rfl) (by rw[ve];exact h8)
    subst bQ;exact#[_,eY,q ct]
  let cz:∀{H11:Hp} {tp:JA},inV (.int (way:eN)) [V.int 0,V.int 6]=decide (way=0\/way=6):=λ{H11 tp}=>by
   show((eqV (V.int 0) (V.int (way:eN))) || ((eqV (V.int 6) (V.int (way:eN))) || false))=_;rw[Bd];simp[eqV]
   lia
  refine#[_,eY,eV,λtp cH=>#[tp,_,eY,.inr (SqT.of fb),eY,eY,_,eY,?_]];let aK:=fi cH (.tup [.int 0,.int 6]);show if(!inV (.int (way:eN)) [V.int 0,V.int 6])=eJ then _ else _
  rw[cz (H11:=aX) (tp:=tp)];generalize upd aX tp (.tup [.int 0,.int 6])=H11 at aK |-;refine iteB (λc=>bR eJ H11 aK #[λ_=>.inl (by simpa using c),λ_=>rfl]) (λc=>?_);let bC:way=0\/way=6:=by simp at c;lia
  let(ae,k1,k2):=a7.same aK;refine#[_,eY,_,eY,_,eY,cl,_,eY,SqL.of k1,λdl ca=>?_];rw[acd,<- List.map_dropLast];let(bg,x9,aY,a3):=kg ca (.lst (ae.dropLast.map V.ref));rw[x9];let a9:JI (λb r=>RowAt K bg b r) ae.dropLast Ch.dropLast:=by
   rw[Eu,Eu,A4 k2];exact Paired.takeP _ (ig aY k2)
  let bs:∀r∈Ch.dropLast,PoolPart (ys++[("nil":eZ)]) r:=λr X=>by
   let(j,hj):=BB (List.dropLast_subset _ X);exact(aj j r hj).2
  let b4:=A4 a9;let cY:Ch.dropLast.length<=2:=by rw[GD];lia
  exists dl,eY,#[_,SqL.of a3];refine a4x (ae.dropLast.map V.ref) Ch.dropLast strB (λH a r=>RowAt K H a r) _root_.id jo (SqL.of a3) (by rw[Ad];lia) (by rw[Ad];exact b4.symm) wj (λi x r hx ah ag Z Q' q'=>?_) (λi x r hx ah dh ag Z Q' q'=>?_) λD4 ag cO di Z b0 bo=>?_
  . let(b,hb,rfl):=kc hx;let av:=(Paired.at2 a9 hb ah).same Z;let b3:atI (r.map V.str) 0=eH (.str (r.getD 0 "")):=by
     rcases bs r (Aq ah) with⟨x,f,s,rfl,_⟩|⟨x,y,rfl,_⟩|⟨x,rfl,_⟩<;>rfl
    exact#[_,eY,b,_,0,.str (r.getD 0 ""),eY,eY,av,b3,eY,_,eY,q' ag (Same.refl _)]
  . let(b,hb,rfl):=kc hx;exact#[_,eY,q' b ag (Same.refl _) ((Paired.at2 a9 hb ah).same Z)]
  rw[Gc] at bo;refine#[AC _,λcX bx=>?_];let bj:=fi bx (.lst []);let bu:RowsAt K (upd ag cX (.lst [])) D4 (Ch.dropLast.filter strB):=#[cO,bj _ _ b0,ig bj bo]
  exists .list ((Ch.dropLast.filter strB).map dRow),.list [],bu.dp,.lst (SqL.of fb) .nil,wc (λr X=>(bs r (Bc.mp X).1).ok Y.ok),wc (rs:=[]) (λr X=>by cases X);rw[a3i,List.isEmpty_map];refine bR _ _ (aK.trans (aY.trans (Z.trans bj))) ?_;rw[List.isEmpty_iff,List.filter_eq_nil_iff];constructor;exact λz=>.inr λr X c=>z r X (fB (by rw[c]))
  rintro (z|z);exact eR bC z;exact λr X c=>z r X (V.str.inj (fC c))
 let b7:=af.trans aN;exact#[m,l,fl,bl,t,ys,e,besP way e (ys.getD 0 "") (ys.getD 4 ""),_,_,_,_,_,_,_,_,_,_,eY,aN _ _ an,ab,bZ.same b7,by lia,λH9 a2 t' O S h1 h2 h3=>rest H9 t' O S a2 h1 h2 (.inr h3),rest H8 t O _ (Same.refl _) q8 bB (.inl rfl)]
theorem aak(X:K.In h)(G:h.Ns JH mg)(e:AY K JH x=eH (eH (.ref a))):Glob mg x (.ref a):=#[_,D3 X G e,eY]
def Gf(K:Aa)(x:eZ)(st:JJ)(f:JA)(d:JY):Prop:=AY K JH x=eH (eH (.ref f))/\Fun K x x st f d
def Gm(K:Aa)(C:JA)(x q:eZ)(st:JJ)(f:JA)(d:JY):Prop:=AR K (.ref C) x=eH (eH (.ref f))/\Fy K (.ref f)=eJ/\Fun K x q st f d
theorem Gf.cal(F:Gf K x st f fd)(X:K.In h)(G:h.Ns JH mg)(ps:eU)(c:autoParam (∀(kV a pm:JC) (d:eM JA) (b ct:JC) (us:eL JC),us.length=ps.length->bindArgs (Cw x x (n8 st) (ks st) (gy st) .none kV a pm d b ct) #[us,[]]=pure (ps.zip us)) a11_):Cal K mg x f fd ps:=#[D3 X G F.1,F.2.kp,F.2.binds c]
theorem Gm.cal(F:Gm K C x q st f fd)(ps:eU)(c:autoParam (∀(kV a pm:JC) (d:eM JA) (b ct:JC) (us:eL JC),us.length=ps.length->bindArgs (Cw x q (n8 st) (ks st) (gy st) .none kV a pm d b ct) #[us,[]]=pure (ps.zip us)) a11_):MCal K C x f fd ps:=#[#[F.1,F.2.1,F.2.2.kp],F.2.2.binds c]
theorem all_mk{l:FR}(X:K.In h)(G:h.Ns JH mg)(bH:mg "law"=eH (.ref fa))(n:AY K JH "Knowledge"=eH (eH (.ref a)))(N:AY K JH "Taking"=eH (eH (.ref b)))(F1:Gf K "names_of" ur f1 d1)(F2:Gf K "check_values" Cv.sCheckV f2 d2)(F3:Gf K "number_of" Cv.sNum f3 d3)(F4:Gf K "holds" Cv.sHolds f4 d4)(F5:Gf K "may_be" Cv.sMay f5 d5)(F6:Gf K "cell_taken" Cv.sCellT f6 d6)(F7:Gf K "stretch_taken" Cv.sStretchT f7 d7)(F8:Gf K "tree_taken" Cv.sTreeT f8 d8)(F9:Gf K "part_taken" Cv.sPartT f9 d9)(ar:Gf K "cover" Cv.sCover dV df)(aK:Gf K "fits" Cv.sFits dv cW)(aI:Gf K "heads_of" uv cT ed)(ac:Gf K "ends_of" ub c9 dO)(ax:Gf K "numbered" yp dt c8)(ay:Gf K "cells_of" a1b cR c0)(a5:Gf K "state_of" a0v eo es)(aQ:Gf K "shows_against" a3t dp d0)(aL:Gf K "state_against" a3h dL da)(aE:Gf K "split_paper" a0t cV ds)(a1:Gf K "shown" a11 c4 eq)(aO:Gf K "names_of_both" ab5 dW eu)(a0:Gf K "followed" yo dJ dB)(aq:Gf K "_law_cell_at" a56 c3 eb)(aH:Gf K "_law_whole" a6z dY ew)(aA:Gf K "_law_mixed" a8a cL dC)(bc:Gf K "_law_free_names" abt ek ej)(av:Gf K "_law_names" a5d dr ey)(al:Gf K "_law_taken" a5g en c7)(ak:Gf K "_law_cover" sCover el dZ)(aX:Gf K "_law_fits" sFits dI dm)(am:Gf K "_law_state" a81 cS cX)(aY:Gf K "_law_beside" a3m dP ez)(ab:Gf K "law" sLaw dH dx)(Y:Gm K a "__init__" "Knowledge.__init__" abo cx dF)(aV:Gm K a "head" "Knowledge.head" ab7 du cY)(au:Gm K a "alike" "Knowledge.alike" a7n db dh)(ao:Gm K a "unlike" "Knowledge.unlike" a2c ei ev)(aj:Gm K a "tell_unlike" "Knowledge.tell_unlike" a7d dz de)(aT:Gm K a "is_empty" "Knowledge.is_empty" a09 cZ em)(bf:Gm K a "must_be_full" "Knowledge.must_be_full" yk dy c6)(a2:Gm K a "find_fulls" "Knowledge.find_fulls" a5f dD di)(aw:Gm K a "tell_full" "Knowledge.tell_full" a6j cU eg)(a3:Gm K a "clashing" "Knowledge.clashing" a59 cP dG)(a7:Gm K a "shares_place" "Knowledge.shares_place" a2a dQ dg)(aC:Gm K a "open_ends" "Knowledge.open_ends" a5u dA ee)(bb:Gm K a "number_at" "Knowledge.number_at" a6r dq cO)(R:Gm K b "__init__" "Taking.__init__" a5v bC dw)(ap:Gm K b "ask_unlike" "Taking.ask_unlike" abp dT c1)(aS:Gm K b "holds" "Taking.holds" a3a c2 ep)(aZ:Gm K b "take" "Taking.take" abf ef eh)(be:Gm K b "gives" "Taking.gives" a61 dM cM)(aB:Gm K b "cell_row" "Taking.cell_row" a5p dE dR)(az:Gm K b "lies_outside" "Taking.lies_outside" abe dk cQ)(a8:Gm K b "passed" "Taking.passed" a3q et dd)(aM:Gm K b "stretch_row" "Taking.stretch_row" abc ea dU)(aW:Gm K b "tree_row" "Taking.tree_row" a7h dX dn)(bd:Gm K b "row_of" "Taking.row_of" a7x er dj)(a4:Gm K b "rows_of" "Taking.rows_of" a2s ec dK)(ba:Gm K b "leaves_some" "Taking.leaves_some" a34 c5 eA)(o:CK K a ID=eJ)(i:Dh K a=eJ)(g:Ec K a=eJ)(q:AR K (.ref a) "__setattr__"=eH (eH (.builtin "object.__setattr__")))(u:E1 K a=eJ)(m:BV K (.ref a)=eJ)(t:AR K (.ref a) "parts"=eH eI)(d:AR K (.ref a) "heads"=eH eI)(f:AR K (.ref a) "unlikes"=eH eI)(j:AR K (.ref a) "fulls"=eH eI)(p:AR K (.ref a) "not_empty"=eH eI)(F:CK K b ID=eJ)(A:Dh K b=eJ)(I:Ec K b=eJ)(D:AR K (.ref b) "__setattr__"=eH (eH (.builtin "object.__setattr__")))(L:E1 K b=eJ)(J:BV K (.ref b)=eJ)(O:AR K (.ref b) "knowledge"=eH eI)(Q:AR K (.ref b) "parts"=eH eI)(H:AR K (.ref b) "taken"=eH eI)(B:AR K (.ref b) "doubt"=eH eI)(E:AR K (.ref b) "amid"=eH eI)(z1:AY K JH "min"=eH eI)(z2:AY K JH "len"=eH eI)(z3:AY K JH "all"=eH eI)(z4:AY K JH "any"=eH eI)(z5:AY K JH "isinstance"=eH eI)(z6:AY K JH "list"=eH eI)(z7:AY K JH "int"=eH eI)(z8:AY K JH "bool"=eH eI)(z9:AY K JH "str"=eH eI)(b5:AY K JH "dict"=eH eI)(bm:AY K JH "sorted"=eH eI)(cK:AY K JH "set"=eH eI)(bJ:AY K JH "sum"=eH eI)(b4:AY K JH "range"=eH eI)(bF:AY K JH "tuple"=eH eI)(bR:AY K JH "max"=eH eI)(bL:AY K JH "zip"=eH eI)(b1:AY K JH "enumerate"=eH eI)(M:AY K JH "NoValue"=eH (eH (.ref c)))(y:Dy K c [.type "ValueError",.type "Exception",.type "BaseException",.type "object"] "ValueError.__new__"=eJ)(gN:AY K JH "NO_NAMES"=eH (eH (.ref aN)))(lN:K.lookup aN=eH oN)(cN:oN.cls=.type "tuple")(dN:oN.data=.seq aa nN)(sN:aa.size<=100)(vN:L2.Vals (Mir.noNames.map V.str) aa.toList):
 ∃fd:JY,(∀(s:JG) (v:JC),BindsTo s fd #[[v],[]] [("_law_script",v)])/\∀base:JP,K.In base->base.Ns JH mg->FnOk l.prog w K mg base CX0 41 fa fd ["_law_script"] (zo K):=by
 let e:=bH.symm.trans (D3 X G ab.1);cases e;let C1:=F1.cal X G ["telling"];let C2:=F2.cal X G ["values","telling"];let C3:=F3.cal X G ["values","word"];let C4:=F4.cal X G ["values","fact"];let C5:=F5.cal X G ["values","word","number"];let C6:=F6.cal X G ["values","heap","part"];let C7:=F7.cal X G ["heap","place","end"];let C8:=F8.cal X G ["heap","top"];let C9:=F9.cal X G ["values","heap","part"];let aJ:=ar.cal X G ["values","heap","telling"];let cI:=aK.cal X G ["values","heap","telling"];let cg:=aI.cal X G ["facts"];let S:=ac.cal X G ["part"];let b0:=ax.cal X G ["knowledge","names"];let cw:=ay.cal X G ["part","values","spares","beside"];let bl:=a5.cal X G ["knowledge","names","amid"];let bP:=aQ.cal X G ["state","other","whole"];let bO:=aL.cal X G ["taking","names","other","whole"];let bp:=aE.cal X G ["one","other","names","whole","pair"];let aD:=a1.cal X G ["one","other","names","whole"];let cc:=aO.cal X G ["one","other"];let cs:=a0.cal X G ["one","other"];let cF:=aq.cal X G ["_law_script","_law_k"];let bK:=aH.cal X G ["_law_found"];let br:=aA.cal X G ["_law_cell","_law_k"];let bM:=bc.cal X G ["_law_cell","_law_many"];let ci:=av.cal X G ["_law_cell","_law_many"];let cG:=al.cal X G ["_law_values","_law_heap","_law_part"];let cp:=ak.cal X G ["_law_values","_law_heap","_law_telling"];let ch:=aX.cal X G ["_law_values","_law_heap","_law_telling"];let cn:=am.cal X G ["_law_found","_law_one","_law_other","_law_pool"];let bz:=aY.cal X G ["_law_way","_law_names_here","_law_end"];let cJ:=Y.cal ["self","facts","parts"];let U:=aV.cal ["self","word"];let k:=au.cal ["self","one","other"];let aU:=ao.cal ["self","one","other"];let aF:=aj.cal ["self","one","other"];let b2:=aT.cal ["self","number"];let ca:=bf.cal ["self","number"];let cz:=a2.cal ["self"];let ck:=aw.cal ["self","number"];let bg:=a3.cal ["self"];let bx:=a7.cal ["self","number"];let bV:=aC.cal ["self"];let a6:=bb.cal ["self","place"];let b9:=R.cal ["self","knowledge","parts"];let af:=ap.cal ["self","one","other"];let cl:=aS.cal ["self","fact"];let ai:=aZ.cal ["self","place"];let cH:=be.cal ["self","found","asked"];let bj:=aB.cal ["self","part"];let bS:=az.cal ["self","number","end"];let cv:=a8.cal ["self","number","end"];let b3:=aM.cal ["self","part"];let bX:=aW.cal ["self","part"];let bA:=bd.cal ["self","part"];let bE:=a4.cal ["self","telling"];let bD:=ba.cal ["self"];let C:Con K mg w:={
  noNames:=#[aN,aak X G gN,λ_=>.inr #[oN,aa,nN,lN,cN,dN,AB sN (by decide),vN]]
  min:=AO X G z1
  len:=AO X G z2
  all:=AO X G z3
  any:=AO X G z4
  isi:=AO X G z5
  list:=AO X G z6
  int:=AO X G z7
  bool:=AO X G z8
  str:=AO X G z9
  dict:=AO X G b5
  sorted:=AO X G bm
  set:=AO X G cK
  sum:=AO X G bJ
  range:=AO X G b4
  tuple:=AO X G bF
  max:=AO X G bR
  zip:=AO X G bL}
 let En:mg "enumerate"=eI:=AO X G b1;let x:Cv.ErrC K mg "NoValue" c:=#[D3 X G M,y]
 let(_,_,kV,dc,pm,an,cd,ct,_,rfl,_,_):=ab.2.ex;refine#[Cw "law" "law" (n8 sLaw) (ks sLaw) (gy sLaw) .none kV dc pm an cd ct,λs v=>.of_eq rfl,λbase _ _=>?_];let T:Txt K mg a cx:=#[#[o,i,g,q],t,d,f,j,p,D3 X G n,#[u,Y.1,Y.2.1,m]]
 let z:TTxt K mg b bC:=#[#[F,A,I,D],O,Q,H,B,E,D3 X G N,#[L,R.1,R.2.1,J]]
 let cy:=a6l (P:=l.prog) (base:=base)  C aq.2;let bo:=aco (P:=l.prog) (base:=base)  C bc.2;let cA:=a8f  C av.2 bo bM;let bq:=a9t (P:=l.prog) (base:=base)  C aA.2;let cb:=a6a (P:=l.prog) (base:=base) (w:=w) (mg:=mg)  aY.2;let b7:=a8x (P:=l.prog) (base:=base)  C aH.2;let bk:=a9e  C am.2 b7 bK;let bv:=aal (P:=l.prog) (base:=base)  C al.2;let bW:=ok_cover  C ak.2 bv cG;let bu:=ok_fits  C aX.2 bW cp;let O1:=a54 (P:=l.prog) (base:=base)  C F1.2;let cr:=acy  C aO.2 O1 C1;let bN:=a4h (P:=l.prog) (base:=base)  C aI.2;let Z:=ad6 (P:=l.prog) (base:=base) (w:=w)  T aV.2.2;let a9:=aan  T aj.2.2 Z U;let ag:=acp (P:=l.prog) (base:=base) (w:=w) (mg:=mg)  ac.2;let aR:=a7g  T ao.2.2 Z U;let bw:=adj  T bf.2.2 ag S aR aU;let bh:=a9k  T aw.2.2 a9 aF;let bZ:=adx  C T a2.2.2 bw ca bh ck;let r:=a9o  T au.2.2 Z U;let b6:=ab1  T aT.2.2 ag S r k;let cE:=a9f  C T Y.2.2 bN cg a9 aF bZ cz b6 b2;let bU:=aai (P:=l.prog) (base:=base) (w:=w)  (C:=a) z R.2.2;let ce:=a93 (P:=l.prog) (base:=base)  C T a3.2.2;let OT:=aa4 (P:=l.prog) (w:=w) (mg:=mg) (base:=base) ac.2;let cq:=a5x  C T a7.2.2 r k;let bQ:=aab  T aC.2.2 OT S cq bx;let ah:=adr  T z ap.2.2 aR aU;let cu:=a66  T z aS.2.2 r k ah af;let aP:=a8v  T bb.2.2 r k;let ae:=adn  T z aZ.2.2 aP a6;let bG:=a8y  T z be.2.2 r k;let cm:=a9g  T z aB.2.2 ae ai bG cH;let bi:=acm  T z az.2.2 r k aP a6 ag S ah af;let cj:=a73  T z a8.2.2 r k ah af bi bS;let bI:=acr  T z aM.2.2 ae ai r k cj cv;let b8:=a9m  T z aW.2.2 ae ai r k;let bT:=a98  z bd.2.2 cm bj bI b3 b8 bX;let bt:=a5c  C z a4.2.2 cu cl bT bA;let bY:=a8d (P:=l.prog) (base:=base)  C T z ba.2.2;let co:=a23  C T ax.2 Z U;let cB:=a4f (P:=l.prog) (base:=base) (w:=w) (mg:=mg)  ay.2;let cC:=a46  C T a5.2 co b0 cB cw;let O2:=Cv.ok_checkV  C F2.2 O1 C1 x;let O3:=Cv.ok_num (P:=l.prog) (base:=base) (w:=w) (mg:=mg)  F3.2;let O4:=Cv.ok_holds  F4.2 O3 C3;let O5:=Cv.ok_may  F5.2 O3 C3;let O6:=Cv.ok_cellT  F6.2 O3 C3 O5 C5;let O7:=Cv.ok_stretchT (P:=l.prog) (base:=base)  C F7.2;let O8:=Cv.ok_treeT (P:=l.prog) (base:=base)  C F8.2;let O9:=Cv.ok_partT  F9.2 O3 C3 O6 C6 O7 C7 O8 C8;let aG:=Cv.ok_cover  C ar.2 O2 C2 O4 C4 O9 C9;let cf:=Cv.ok_fits  C aK.2 aG aJ;let bs:=a63  aQ.2 cf cI aG aJ;let cD:=a5b  z aL.2 cC bl bs bP;let bB:=a6i  C En T z a1.2 aE.2 cE cJ.bind bU b9.bind ce bg bQ bV bt bE bY bD cD bO aD bp 15;let bn:=a20  a0.2 cr cc bB aD;exact af8 C ab.2 cy cF cA ci bq br cb bz bk cn bu ch bn cs
theorem walk{l:FR}{K:Params->Aa}(hn:l.most=eH 63)(b:d.params.defaults=[])(j:∀(w:JV) (h:JP),g w h->(K w.params).In h)(F:∀(w:JV) (mg:eZ->eM JC) (e:JA) (h:JP),(K w.params).In h->h.Ns JH mg->mg d.name=eH (.ref e)->
 ∃fd:JY,(∀(s:JG) (u:JC),BindsTo s fd #[[u],[]] [("_law_script",u)])/\∀base:JP,(K w.params).In base->base.Ns JH mg->FnOk l.prog w (K w.params) mg base CX0 41 e fd ["_law_script"] (zo (K w.params))):
 II q c m g l.row.toRowW d [] (λf vs=>Im f vs) :=
 L2.walk_of (n:=63) (k:=41) (x := "_law_script") (CX:=λ_=>CX0) (sp:=λw=>zo (K w.params)) hn (by decide) b #[eY,by decide,by decide] j F (λ_ _ a ns hl _ i=>#[a,ns,eY,i,λ_=>rfl]) λ_ _ _ _ _ z=>z
end K34
end
open PySem PySem.W PyProof.Rows
structure PySem.W.Fast:Prop where(tw11949819300687316339 tw10830905207066009856 tw10547877857791606392 tw18113222613844178821 tw3794095241425284843 tw10518303820614806088 tw9018915953700013167 tw2274837105215396972 tw11471340476393343869 tw1234016479420076554 tw7185367309043258193 tw4736426650729398911 tw1572271241885946133 tw3950645342249224603 tw7269266974094608219 tw701393449164755729 tw4781344473959597608 tw15057967446931688178 tw12094594450780327275 tw6202492478531277408 tw12804688488267269197 tw17459812887047515056 tw11783871540298390893 tw5766057174994736934 tw5625610219132214566 tw13385871309394013127 tw13058673226475049206 tw5216960294678184742 tw13839993122342883656 tw4868009652897649272 tw10582496160829715127 tw5588849225266096564 tw18440654245672094458 tw7926854825492585453 tw13221589538517201166 tw15019204273544833508 tw6914909431517090653 tw17918435872294298276 tw8250499431899240775 tw4273700824803669291 tw3003287295393919856 tw18363149677390614073 tw1284137921882884706 tw13092534894432825386 tw6541490710771359710 tw15168277978792828023 tw13469667662091680889 tw12327086205293121903 tw5219491517237648922 tw5882086469056979095 tw17192115260982419475 tw1621053399400317581 tw12818374080040571535 tw17794425063703472542 tw13120374298140430335 tw14139553872991833058 tw9454230493578685892 tw6350664718547547466 tw7845334863455446 tw5427172544502123323 tw7393772247091417961 tw11371457572654951698 tw16431655079916001748 tw11996527984809538426 tw7564207763598069623 tw527028157187609829 tw493991715830240442 tw17807236581620961189 tw16304808386662967837 tw14652021471035368120 tw6010549409711207232 tw17721919751136640962 tw14613465163256676252 tw5782061679335385273 tw18158015333473348278 tw11247520729404563506 tw795681591064810719 tw7189041727138375281 tw10818350431493962653 tw11320785007161243504 tw11339651314212843665 tw1204625155441282197 tw7979859818255387783 tw10270988407331267270 tw8672795822229616754 tw18304999598501492689 tw15424864728972733980 tw13740729985283290638 tw17629401442920745077 tw8388091952088842275 tw15780818426613002278 tw3097456587755045943 tw17861897441387298920 tw2114092357401285698 tw1975488509943446422 tw10547093428241260061 tw5060869793382686069 tw8859173397681895422 tw8767348215728535911 tw5894494588744145117 tw11272517346986735436 tw5184832783706012744 tw1236662247695341581 tw12883071152522860502 tw12368794483448545095 tw11010540388432308880 tw10942319020545685540 tw17561162637221180339 tw17952939286565914898 tw8935565441968227299 tw15820405262354751710 tw7066070583777530950 tw15151238096558148742 tw5194808476167891245 tw3923686262892994416 tw18346022855625647623 tw16598836385039656271 tw7592629522696909342 tw18260070282684645367 tw12429600997575146157 tw8942481531246787217 tw4417421398647749527 tw18244042562379597213 tw1679101052993890387 tw14894408495180991245 tw1083189120685864824 tw8231519399932420058 tw6063254249960761566 tw13745763594328229958 tw13541147269417662438 tw3130333162882767084 tw12555983926373485461 tw11506259817476681632 tw5056773541165188421 tw417058012650960795 tw3574376131037466336 tw16491587004067866392 tw688176595762295515 tw15003006992736103106 tw13459606161387189923 tw293050955266112389 tw15830755267654896215 tw3240772931729593268 tw15390869044884306863 tw5607060071579796610 tw5837980007844523459 tw7102080210447609646 tw17401788724177787500 tw778265109495378648 tw13932225819790817563 tw6666869153532219689 tw11565844685206057017 tw4467976314135618480 tw11401301616337588839 tw857063063672534014 tw3054704510235605600 tw11498349356198410637 tw9121043114100130827 tw4192606446354857608 tw10261613374025834114 tw7391325449744429604 tw15925660415264523617 tw13457784840460490490 tw12228732011638086216 tw7038536467449786555 tw7450029037880044212 tw13742550123696541295 tw6269797992188494426 tw18355307696795515723 tw337432905707840396 tw16979488652437585978 tw1341108994051892838 tw672964264767360120 tw14532864915467729727 tw14323354544597493822 tw11460432758817434094 tw7898177216452335332 tw13692103397690874325 tw16784149013887107617 tw12794536785469079489 tw9775007469296685493 tw5407205817975875104 tw4195746348944409187 tw14611577454126973420 tw4424463337590160209 tw8435124208473531220 tw11410578186046735807 tw10342250384447056913 tw7746820126961421695 tw4727949586024302356 tw10629155006002837546 tw15504292482752000089 tw12922550315136977625 tw1070481174402060496 tw6497857892921804752 tw14104595595386474419 tw10017569894496748707 tw18290004871107970382 tw7444414299196541045 tw4029852851507728573 tw4226068475560841992 tw2616806229167816701 tw7038352876062150786 tw15473867390718425812 tw17361850362750848182 tw9549368801696979739 tw17302962815738523578 tw12728200562616402198 tw2593752277046675875 tw1238770101242287077 tw3280002247848450873 tw6964091468202093139 tw3529778268545415437 tw17672063728088420349:True)
set_option maxRecDepth 100000 in
set_option maxHeartbeats 0 in
theorem PySem.Challenge.cw_apart_k34_ends_amid_stretches_holds : PySem.Challenge.rw_apart_k34_ends_amid_stretches.Holds := by
 w_on; o_law; k_head; (case hw => w_witness2)
 k_fill
 refine K34.walk (l := PySem.Challenge.rw_apart_k34_ends_amid_stretches) rfl rfl (λw h Y => PySem.W.kIn_of Y) ?F
 case F =>
   intro w mg fa h KX G hmg
   refine' K34.all_mk KX G hmg ..
   all_goals first
     | (refine' #[?a, L2.fun_mk ?l ?c ?k]; (case a => k_is); (case l => k_is); (case c => k_is); (case k => k_is))
     | (refine' #[?a, ?b, L2.fun_mk ?l ?c ?k]; (case a => k_is); (case b => k_is); (case l => k_is); (case c => k_is); (case k => k_is))
     |k_is
     |k_exc
     |rfl
     |decide
     |decide +kernel
     |exact#[#[_, _, rfl, rfl], #[_, _, rfl, rfl], #[_, _, rfl, rfl], #[_, _, rfl, rfl], #[_, _, rfl, rfl], trivial]
     |exact#[#[_, _, rfl, rfl], #[_, _, rfl, rfl], #[_, _, rfl, rfl], trivial]
     | (repeat (first | exact .nil | refine .cons #[_, rfl] ?_)
        done)
     |skip
