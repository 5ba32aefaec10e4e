import PyProof.Rows.All
import Wide.All
import OpenK.AllK
import Wide.FinOn
import Lean
import PyProof.EqAt
import PyProof.EqKinds
import PyProof.TupleCall
import PySem.Challenge.RW_apart_k40_programs
set_option maxHeartbeats 16000000
set_option Elab.async false
set_option linter.all false
set_option compiler.extract_closed false
set_option maxRecDepth 100000
open List renaming length_map->Ab,length_append->Ae,getElem?_eq_getElem->Ag,getElem?_map->Ah,mem_of_getElem?->Ak,map_append->Al,mem_cons->Am,mem_append->Aq,not_mem_nil->Au,getElem?_eq_some_iff->Av,mem_singleton->Ax,size_toArray->AB,replicate->AD,mem_map->AF,length_singleton->AN,mem_append_right->AU,mem_filter->AV,length_take->AX,length_cons->AY,length_filter_le->Bd,map_cons->Be,take_of_length_le->Bf,range->Bg,length_drop->Bi,getElem?_of_mem->Bk,mem_cons_of_mem->Bl,take_add_one->Bn,getElem?_append_left->Bo,mem_of_mem_drop->Bq,mem_flatMap->Br,length_range->Bu,getElem?_append_right->Bw,mem_cons_self->By,take_length->B3,drop_succ_cons->B4,append_assoc->B5,drop_zero->B9,mem_of_mem_take->BA,all_eq_true->BD,replicate_succ->BG,flatMap_cons->BI,sum_cons->BJ,getD_eq_getElem?_getD->BQ,length_replicate->BS,nodup_append->Ce,getElem_mem->Ci,getElem?_eq_none->Cj,map_id->Ck,nodup_cons->Cn,find?_cons->Cp,lookup_cons->Cu,map_map->Cw,append_nil->Cy,getElem?_toArray->C0,map_take->CA,mem_append_left->CC,filterMap_cons->CO,filter_append->CT,eq_nil_of_length_eq_zero->CV,mem_range->CY,getElem?_concat_length->Dg,all_cons->Di,length_eraseIdx_of_lt->Dj,perm_ext_iff_of_nodup->Dk,length_zip->Dr,getElem?_take_of_lt->Dt,eq_of_mem_replicate->Dx,eraseIdx_cons_succ->Dz,getElem?_cons_succ->DA,flatten_cons->DD,pairwise_map->DE,getElem?_set_self->DF,any_cons->DJ,flatMap_nil->DM,eraseIdxIfInBounds_toArray->DP,getElem?_set_ne->DR,of_mem_zip->DS,all_map->DY,filter_map->DZ,flatMap_append->Ee,take_zero->Eh,getElem?_inj->E6,filter_congr->E7,getElem?_zip_eq_some->EC,mem_flatten->EL,mem_of_mem_eraseIdx->EM,getElem?_cons_zero->ES,length_nil->EZ,all_append->Fd,drop_eq_nil_of_le->Fk,nodup_nil->Fo,singleton_append->Fu,take_append_drop->Fz,eq_nil_or_concat->F0,concat_eq_append->FA,dropLast_concat->FH,getElem?_range->FM,filter_eq_self->FO,filterMap_map->FT,map_nil->FU,map_inj_right->Ge,getElem?_drop->Gf,map_replicate->Gg,take_sublist->Gh,ext_getElem?->Gq,getElem_inj->Gy,any_eq_true->GJ,filter_cons->GQ,zipIdx_cons->Hb,foldl->Hi,foldl_cons->Hj,nil_append->Hk,filter_nil->Hq,zipIdx_nil->Hr,forIn_cons->Hs,sum_append->Ht,forIn_nil->Hy,map_drop->HC,toArray->HI,le_refl->HQ
open PySem.W renaming Frag->Ac,nsIn->Aj,mg_none_of->Bc,keepIn->Cs,fnOf->CK,mg_of->DL,methodObj->Ez,OpenLaw->EW,KeysLit->EY,cellsFrom_some->Ff,codeIn->Fn,mapOf_K->Ho,WalkO->HA
open PySem renaming wpAny_bind->Ad,wpAny_pure->Ai,boot_len->Ap,Spec->AR,wpAny_newObj_type->Bm,wpAny_setField_rec->Bz,wpAny_callSpecial?_slot->B8,wpAny_call_entry->BB,mem_of_lookup->BF,wpAny_mono->BH,wpAny_field->BL,wpAny_holding->BO,wpAny_seqItems->Ca,wpAny_truthy_bool->Cd,codeAny_builtin->Cf,lookup_relabel_local->Co,builtinLookup_eq_fast->Cz,wpAny_rule->CG,codeAny_mono->CH,plainId_quiet->CQ,wpAny_setState_of->CW,wpAny_typeOf->Da,wpAny_passesOwn->Dm,typeLookup_type->Dq,wpAny_pyIter_tuple->Ds,wpAny_pyIter_list->DC,sizeLine_eq->DH,Builtin->DK,call_meets->DT,codeAny_call_builtin->DW,wpAny_setEntries_of->Ed,isSubtype_type->Ei,wpAny_Call_Name_kw->En,wpAny_attempt->Ex,wpAny_assign_Name->E1,fits_of_scanBound->E2,wpAny_setEpoch_of->E3,strKind_is->E9,wpAny_comprehension_free->ED,wpAny_askSetting->EF,wpAny_isInstance->EG,wpAny_execs_nil->EV,codeAny_of_tree->EX,wpAny_pyNext_list_item->Fe,wpAny_Call_method_late->Fg,codeAny_compStart_list->Fh,wpAny_pyNext_list_end->Fm,weight_type_call_type->Fq,wpAny_runValue->Ft,typeIs_str->FC,wpAny_newFunctionEnv->FE,wpAny_updateSeq_pair->FG,wpAny_standAt->FI,wpAny_onRaise->FJ,wpAny_raiseNew_none->FN,seqIndex_neg->FV,putSet_of->FX,tupleKind_room_in1->Gc,wpAny_sequenceKey->Gi,slot_list_getitem->Gj,wpAny_storeSet_of->Gm,wpAny_pyIter_slot->Gp,seqIndex_of->Gw,wpAny_of_eq->Gx,wpAny_execs_cons->Gz,check_set_init_1->GO,wpAny_getItem_of->GU,wpAny_pyIter_zip->Hc,wpAny_Name->He,wpAny_load->Hf,wpAny_call->Hg,typeIs_int->Hh,call->Hm
open PySem.Heap renaming get?_push_of_some->Af,lt_size->AC,get?_push_size->AE,size_push->Bs,get?_update_self->BU,get?_update_other->Cg,SameBut->CZ,get?_none_of_le->DQ,IsTuple->HJ
open Bool renaming false_ne_true->An,and_eq_true->BC,false_eq_true->BX,eq_iff_iff->Cm,false_and->Fl,and_false->Hu,or_false->Hz,true_and->HB,true_or->HH,or_true->HP
open PySem.Paired renaming length->Ao
open Nat renaming le_refl->Ar,le_trans->Aw,zero_le->AG,lt_of_lt_of_le->AH,ne_of_lt->AL,lt_of_le_of_lt->AO,lt_irrefl->Bt,le_of_lt->B0,lt_succ_of_lt->BR,ne_of_gt->BW,le_add_right->CN,le_succ->CU,lt_succ_self->Dh,add_le_add_right->DV,sub_self->Ea,min_eq_right->EJ,min_eq_left->Fb,add_le_add_left->FL,succ_mul->FW,sub_zero->Gb,le_of_succ_le->Gu,succ_le_succ->G1,min_le_left->Hn,le_of_eq->HG,min_self->HK,succ_pos->HL,add_zero->HM,zero_add->HN
open PySem.F renaming plainAttrs_list->As,slot_list_append->Az,type_list_append->AA,called_set->Bj,slot_list_extend->Cq,type_list_extend->Cr,slot_tuple_iterator_next->CB,slot_list_pop->CP,type_list_pop->DN,slot_zip_next->Ec,args_tuple_iterator_next_1->El,entry_tuple_iterator_next->Er,plain_extend_loop->EA,slot_dict_getitem->EB,entry_type_call->ER,plain_list_iadd->ET,typeCall_set_1->Fi,entry_set_init->Fj,plain_set_new->Fp,slot_set_iter->Fv,slot_dict_get->Fw,args_zip_next_1->Gs,entry_list_pop->GE,entry_zip_next->GZ,slot_int_rmul->Hl
open Option.some renaming inj->Ay
open Option renaming map_eq_some_iff->AK,getD_some->EE,getD_none->G0
open Int renaming emod_nonneg->AM,emod_lt_of_pos->AW,toNat_natCast->Bh,eq_ofNat_of_zero_le->Cc,toNat->CS,ne_of_gt->EK,zero_add->EO
open PyProof.Rows renaming boot_list->AQ,boot_all->AZ,boot_isinstance->Ba,boot_tuple->Bx,slot_tuple_getitem->B7,boot_set->Dc,boot_str->De,callWith_type1->Df,boot_sorted->Dv,sortedS->Eb
open PySem.PassesOwn renaming never->AS
open Array renaming length_toList->Bp,getElem?_toList->BK,eq_empty_of_size_eq_zero->DX,toList_append->Ef,append_assoc->FR,toList_push->Gk,toList_inj->GX,toList->HF
open List.Nodup renaming length_le_of_subset->Bv
open PySem.Builtin.SmallTypes renaming nextOf->BE,ownedTupleIsFree->Cb,ownedTupleHandOut->Dw
open Classical renaming choose->BM,choose_spec->BV,propDecidable->DB
open PySem.Value renaming isStrOf->BN,isStrOf_shape->FK,isInt->HR
open PySem.Str renaming ofString->BP,length->FB
open Ne renaming symm->BY
open PySem.Around renaming under_plainId->BZ,under_plain->FZ
open PySem.SetTable renaming grown->Ct,below->Ek
open PyProof.Rows.F renaming plain_set_update_loop->Cv,entry_set_update_loop->Du
open False renaming elim->CD
open PySem.Builtin.Slice renaming slicePlaces->CF,sliceAdjust->Do,sliceApplied->Et
open PySem.Builtin.Tuple renaming tupleExact->CL,tupleItemsOf->Eu
open PySem.Builtin.List renaming listTooLong->CM,listExtendWith->Eo,listSameRef->EI
open PySem.Heap.SameBut renaming update->Dl
open PySem.Obj renaming mapSeq->Dy,putSet->DU,data_mapFields->Ep,isFreed_of_fields->Fx,cls_mapFields->Gr,mapFields->HD
open PySem.Calls renaming callWith_builtin->DI,Name_function_global->Es,evalArgs_plain->FD
open PyProof.Rows.Boot renaming min->DO
open PySem.Builtin.Frozenset renaming updateFrom->Eg,sizeOf->EH
open List.Perm renaming refl->Ej
open PySem.SeqAt renaming eqv_refl->Em,EqAt->HU
open PySem.Shared renaming TypeIs->Ew,heap->HS
open List.cons renaming inj->Ey
open PySem.PyData renaming canLayAll0->E8,depthAll->Fc,canLay0->Fy,depth->Gd
open PySem.Builtin.Dict renaming updateFrom->EU
open PySem.SeqAt.EqAt renaming int_str->FP,str_int->FQ
open PySem.Code renaming quiet_builtin->FY
open PySem.pickOrder renaming go->Ga
open PySem.SetTable.below renaming go->Gn
open Sum.inr renaming inj->Gv
open Iff renaming rfl->Hv
open PySem.Manifest renaming find?->Hw
open Prod.mk renaming injEq->HE
open PySem.Walks renaming list->HV
open PySem renaming Addr->HW,Value->HX,sizeLine->HY,Shared->HZ,mainGlobals->IA,wpAny->IB,Program->IC,model->ID,Paired->IE,World->IF,assignEach->IG,starEach->IH,FuncData->II,Heap->IJ,Around->IK,foldedSetIterable->IL,compareOp->IM,Stmt->IP,relabel->IQ,sysModules->IR,behindInMarks->IS,strKind->IT,backTo->IU,attributeBase->IV,binaryOp->IW,sliceBounds->IX,codeAny->IY,IsPair->IZ,pyNext->Ib,keywordEach->Ic,swapsWith->Ie,backToKw->Ig,rawInt->Ih
noncomputable section
local macro_rules | `(tactic| decide) => `(tactic| decide +kernel)
open PySem PySem.Spec
namespace L2
open PyProof.Rows
abbrev Key:=Sum Int Str
def sr:Key->HX->Bool
 | .inl k,v=>HR k v
 | .inr x,v=>BN x v
def keyH(w:IF):Key->Int
 | .inl k=>hashInt k
 | .inr x=>hashStr w x
theorem fw:∀{k:Key}{v:HX},sr k v=true->(∃i t,k=Sum.inl i/\v=Value.int i t)\/(∃x t,k=Sum.inr x/\v=Value.str x t)
 | .inl i,v,h=>by
  obtain⟨t,e⟩:=Value.isInt_shape (k:=i) (v:=v) h;exact .inl ⟨i,t,rfl,e⟩
 | .inr x,v,h=>by
  obtain⟨t,e⟩:=FK (x:=x) (v:=v) h;exact .inr ⟨x,t,rfl,e⟩
theorem a4z(i:Int)(t:Tok):sr (.inl i) (.int i t)=true:=by simp[sr,HR]
theorem a5a(x:Str)(t:Tok):sr (.inr x) (.str x t)=true:=by simp[sr,BN]
theorem aa5(a b:Int):decide ((Sum.inl a:Key)=Sum.inl b)=(a==b):=by
 by_cases e:a=b
 . subst e;simp
 . have h:¬ (Sum.inl a:Key)=Sum.inl b:=fun q=>e (Sum.inl.inj q);rw[decide_eq_false h];exact (beq_eq_false_iff_ne.mpr e).symm
theorem a9d(a b:Str):decide ((Sum.inr a:Key)=Sum.inr b)=decide (a=b):=by
 by_cases e:a=b
 . subst e;simp
 . have h:¬ (Sum.inr a:Key)=Sum.inr b:=fun q=>e (Gv q);rw[decide_eq_false h,decide_eq_false e]
theorem aa1(a:Int)(b:Str):decide ((Sum.inl a:Key)=Sum.inr b)=false:=decide_eq_false (fun q=>nomatch q)
theorem a9w(a:Str)(b:Int):decide ((Sum.inr a:Key)=Sum.inl b)=false:=decide_eq_false (fun q=>nomatch q)
def gj(prog:IC)(w:IF):PySem.KeyKind prog w Key where
 is:=sr
 hash:=keyH w
 inj:=fun v a b ha hb=>by
  rcases fw ha with⟨i,t,rfl,rfl⟩|⟨x,t,rfl,rfl⟩
  . rcases fw hb with⟨j,u,rfl,e⟩|⟨y,u,rfl,e⟩
    . injection e with e1 _;rw[e1]
    . exact nomatch e
  . rcases fw hb with⟨j,u,rfl,e⟩|⟨y,u,rfl,e⟩
    . exact nomatch e
    . injection e with e1 _;rw[e1]
 byValue:=fun k v h=>by
  rcases fw h with⟨i,t,rfl,rfl⟩|⟨x,t,rfl,rfl⟩<;>rfl
 pyHash:=fun hv h=>by
  rcases fw hv with⟨i,t,rfl,rfl⟩|⟨x,t,rfl,rfl⟩
  . exact wpAny_pyHash_int h
  . exact wpAny_pyHash_str h
 eqBool:=fun hu hv h=>by
  rcases fw hu with⟨i,t,rfl,rfl⟩|⟨x,t,rfl,rfl⟩
  . rcases fw hv with⟨j,u,rfl,rfl⟩|⟨y,u,rfl,rfl⟩
    . rw[aa5] at h;exact wpAny_eqBool_int h
    . rw[aa1] at h;exact FP i t y u _ _ _ _ h
  . rcases fw hv with⟨j,u,rfl,rfl⟩|⟨y,u,rfl,rfl⟩
    . rw[a9w] at h;exact FQ x t j u _ _ _ _ h
    . rw[a9d] at h;exact wpAny_eqBool_str h
 «strs» := fun k x t v h=>by
  rcases fw h with⟨i,u,rfl,e⟩|⟨y,u,rfl,e⟩
  . exact nomatch e
  . injection e with e1 _;subst e1;cases v<;>rfl
theorem a0y(prog:IC)(w:IF)(i:Int)(t:Tok):(gj prog w).is (.inl i) (.int i t)=true:=a4z i t
theorem a0s(prog:IC)(w:IF)(x:Str)(t:Tok):(gj prog w).is (.inr x) (.str x t)=true:=a5a x t
inductive V where
 | non|bl (b:Bool)|int (i:Int)|str (x:Str)|byt (b:Array UInt8)|flt (b:UInt64)|ref (a:HW)|ty (n:String)
 deriving DecidableEq
def RelV:V->HX->Prop
 | .non,u=>u=Value.none
 | .bl b,u=>u=Value.bool b
 | .int i,u=>∃t,u=Value.int i t
 | .str x,u=>∃t,u=Value.str x t
 | .byt b,u=>∃t,u=Value.bytes b t
 | .flt b,u=>∃t,u=Value.float b t
 | .ref a,u=>u=Value.ref a
 | .ty n,u=>u=Value.type n
abbrev Vals:List V->List HX->Prop:=IE RelV
theorem Vals.length{xs:List V}{us:List HX}(r:Vals xs us):xs.length=us.length:=Ao r
theorem Vals.get:∀{xs:List V}{us:List HX}{i:Nat}{x:V},Vals xs us->xs[i]?=some x->∃u,us[i]?=some u/\RelV x u
 | _,_,_,_,.nil,e=>by simp at e
 | _,_,0,_,.cons r _,e=>by simp at e;subst e;exact⟨_,rfl,r⟩
 | _,_,i+1,x,.cons _ t,e=>by
  obtain⟨u,h1,h2⟩:=Vals.get (i:=i) (x:=x) t (by simpa using e);exact⟨u,by simpa using h1,h2⟩
theorem Vals.set{x:V}{u:HX}(r:RelV x u):∀{xs:List V}{us:List HX}(i:Nat),Vals xs us->Vals (xs.set i x) (us.set i u)
 | _,_,_,.nil=>.nil
 | _,_,0,.cons _ t=>.cons r t
 | _,_,i+1,.cons q t=>.cons q (Vals.set r i t)
theorem Vals.append:∀{xs ys:List V}{us ws:List HX},Vals xs us->Vals ys ws->Vals (xs++ys) (us++ws)
 | _,_,_,_,.nil,s=>s
 | _,_,_,_,.cons r t,s=>.cons r (Vals.append t s)
theorem Vals.take:∀{xs:List V}{us:List HX}(n:Nat),Vals xs us->Vals (xs.take n) (us.take n)
 | _,_,0,_=>.nil
 | _,_,_+1,.nil=>.nil
 | _,_,n+1,.cons r t=>.cons r (Vals.take n t)
theorem Vals.drop:∀{xs:List V}{us:List HX}(n:Nat),Vals xs us->Vals (xs.drop n) (us.drop n)
 | _,_,0,r=>r
 | _,_,_+1,.nil=>.nil
 | _,_,n+1,.cons _ t=>Vals.drop n t
def RelO:Option V->Option HX->Prop
 | some v,some u=>RelV v u
 | none,none=>True
 | _,_=>False
def KV{κ:Type}:List (κ×V)->List (κ×HX)->Prop:=IE fun (p:κ×V) (q:κ×HX)=>p.1=q.1/\RelV p.2 q.2
def kV:Key->V
 | .inl i=>.int i
 | .inr x=>.str x
inductive HO where
 /-- a list -/
 | lst (xs:List V)
 /-- a tuple (never changes) -/
 | tup (xs:List V)
 /-- a dict whose keys are ints and texts;one whose keys are tuples of ints and texts (the empty one is both) -/
 | dK (kvs:List (Key×V))|dT (kvs:List (List Key×V))
 /-- a set of ints: its members,its size -/
 | set (S:Int->Bool)(n:Nat)
 /-- an instance of the class at C,its dict at dx,its attributes -/
 | ins (C dx:HW)(fs:List (Str×V))
 /-- the dict of the instance at x -/
 | own (x:HW)
 /-- the dict of an exception -/
 | xd (fs:List (Str×V))
 /-- a bound method,f of x -/
 | met (f x:HW)
 /-- a range object lo,lo+1,.. below hi -/
 | rng (lo hi:Int)
 /-- a thing that is known to the object (the script;a dict while a loop walks it): read,never written while it is so -/
 | frz (o:Obj)(u:HO)
 /-- a code object's table -/
 | tbl (ps:Array HX)
 /-- any other thing,by what is true of its one object (a def of one's own: SetO a S n:=HO.ext fun h=>..) -/
 | ext (φ:IJ->Prop)
abbrev Hp:=HW->Option HO
def upd(H:Hp)(a:HW)(o:HO):Hp:=fun b=>if b=a then some o else H b
theorem ab{H:Hp}{a:HW}{o:HO}:upd H a o a=some o:=by unfold upd;rw[if_pos rfl]
theorem ai{H:Hp}{a b:HW}{o:HO}(h:b≠a):upd H a o b=H b:=by unfold upd;rw[if_neg h]
theorem aq{H:Hp}{a b:HW}{o:HO}(h:H a=some o)(h':H b=none):a≠b:=by
 intro e;subst e;rw[h] at h';cases h'
section
variable(P:IC)(w:IF)
def ObjOk(H:Hp)(h:IJ)(a:HW):HO->Prop
 | .lst xs=>xs.length<=HY/\∃(its:List HX) (n:Nat),Vals xs its/\h.get? a=some {cls:=.type "list",data:=.seq its.toArray n}
 | .tup xs=>xs.length<=HY/\∃its:List HX,Vals xs its/\IsTup h a its.toArray
 | .dK kvs=>kvs.length<=HY/\(a==IR)=false/\∃vs,KV kvs vs/\h.DictOf (gj P w) a vs
 | .dT kvs=>kvs.length<=HY/\(a==IR)=false/\∃xs:List (List Key×HW×HX),
  IE (fun (p:List Key×V) (q:List Key×HW×HX)=>p.1=q.1/\H q.2.1=some (.tup (p.1.map kV))/\RelV p.2 q.2.2) kvs xs/\
  ∃o es ep,h.get? a=some o/\o.ExactDict/\o.data=.dict es ep/\es.toList=xs.map (entryOfKey (tupleKind (gj P w)))/\(xs.map (·.1)).Nodup
 | .set S n=>h.SetOf (intKind P w) a S n
 | .ins C dx fs=>H dx=some (.own a)/\fs.length<=1000/\dx≠a/\h.get? a=some (PySem.W.instObj C dx)/\
  ∃mA,h.Ns1 dx mA/\(∀f,RelO (fs.lookup f) (mA f))/\PySem.Within mA (fs.map (·.1))
 | .own _=>∃o,h.get? a=some o
 | .xd fs=>∃mA,h.Ns1 a mA/\∀f,RelO (fs.lookup f) (mA f)
 | .rng lo hi=>∃t u v,h.get? a=some {cls:=.type "range",data:=.fields #[.int lo t,.int hi u,.int 1 v]}
 | .frz o u=>h.get? a=some o/\ObjOk H h a u
 | .tbl ps=>h.get? a=some {cls:=.none,data:=.fields ps}
 | .met f x=>h.get? a=some (Ez (.ref f) (.ref x))
 | .ext φ=>φ h/\(∃o,h.get? a=some o)/\∀h1 h2:IJ,φ h1->(∀o,h1.get? a=some o->h2.get? a=some o)->φ h2
def HOk(H:Hp)(h:IJ):Prop:=∀a o,H a=some o->ObjOk P w H h a o
end
section
variable{P:IC}{w:IF}{H H':Hp}{h h':IJ}{a:HW}{o:HO}
theorem ObjOk.lt(x:ObjOk P w H h a o):a<h.objs.size:=by
 cases o with
 | lst xs=>obtain⟨_,_,_,_,e⟩:=x;exact AC e
 | tup xs=>obtain⟨_,_,_,p⟩:=x;exact p.lt
 | dK kvs=>obtain⟨_,_,_,_,o,_,_,e,_⟩:=x;exact AC e
 | dT kvs=>obtain⟨_,_,_,_,o,_,_,e,_⟩:=x;exact AC e
 | set S n=>obtain⟨o,_,_,_,e,_⟩:=x;exact AC e
 | ins C dx fs=>obtain⟨_,_,_,e,_⟩:=x;exact AC e
 | own y=>obtain⟨_,e⟩:=x;exact AC e
 | xd fs=>obtain⟨_,⟨_,_,_,e,_⟩,_⟩:=x;exact AC e
 | rng lo hi=>obtain⟨_,_,_,e⟩:=x;exact AC e
 | frz ob u=>obtain⟨e,_⟩:=x;exact AC e
 | tbl ps=>exact AC (show h.get? a=some _ from x)
 | met f y=>exact AC (show h.get? a=some _ from x)
 | ext φ=>obtain⟨_,⟨_,e⟩,_⟩:=x;exact AC e
theorem Paired.mapP{α β:Type}{F G:α->β->Prop}:∀{l₁:List α}{l₂:List β},IE F l₁ l₂->(∀a b,F a b->G a b)->IE G l₁ l₂
 | _,_,.nil,_=>.nil
 | _,_,.cons r t,f=>.cons (f _ _ r) (Paired.mapP t f)
theorem ObjOk.stay(x:ObjOk P w H h a o)(k:∀b u,(b=a\/H b=some (.own a))->h.get? b=some u->h'.get? b=some u)(ho:∀b,H b=some (.own a)->H' b=some (.own a))(ht:∀b xs,H b=some (.tup xs)->H' b=some (.tup xs)):ObjOk P w H' h' a o:=by
 induction o with
 | lst xs=>obtain⟨z,its,n,r,e⟩:=x;exact⟨z,its,n,r,k _ _ (.inl rfl) e⟩
 | tup xs=>obtain⟨z,its,r,ob,e,c⟩:=x;exact⟨z,its,r,ob,k _ _ (.inl rfl) e,c⟩
 | dK kvs=>obtain⟨z,y,vs,r,ob,es,ep,e,c⟩:=x;exact⟨z,y,vs,r,ob,es,ep,k _ _ (.inl rfl) e,c⟩
 | dT kvs =>
  obtain⟨z,y,xs,r,ob,es,ep,e,c⟩:=x;exact⟨z,y,xs,Paired.mapP r fun p q z=>⟨z.1,ht _ _ z.2.1,z.2.2⟩,ob,es,ep,k _ _ (.inl rfl) e,c⟩
 | set S n=>obtain⟨ob,es,ep,t,e,c⟩:=x;exact⟨ob,es,ep,t,k _ _ (.inl rfl) e,c⟩
 | ins C dx fs =>
  obtain⟨d,z,ne,e,mA,⟨od,es,ep,e2,c⟩,r⟩:=x;exact⟨ho _ d,z,ne,k _ _ (.inl rfl) e,mA,⟨od,es,ep,k _ _ (.inr d) e2,c⟩,r⟩
 | own y=>obtain⟨ob,e⟩:=x;exact⟨ob,k _ _ (.inl rfl) e⟩
 | xd fs=>obtain⟨mA,⟨od,es,ep,e,c⟩,r⟩:=x;exact⟨mA,⟨od,es,ep,k _ _ (.inl rfl) e,c⟩,r⟩
 | rng lo hi=>obtain⟨t,u,v,e⟩:=x;exact⟨t,u,v,k _ _ (.inl rfl) e⟩
 | frz ob u ih=>obtain⟨e,q⟩:=x;exact⟨k _ _ (.inl rfl) e,ih q⟩
 | tbl ps =>
  have e:h.get? a=some {cls:=.none,data:=.fields ps}:=x;show h'.get? a=some {cls:=.none,data:=.fields ps};exact k a _ (.inl rfl) e
 | met f y =>
  have e:h.get? a=some (Ez (.ref f) (.ref y)):=x;show h'.get? a=some (Ez (.ref f) (.ref y));exact k a _ (.inl rfl) e
 | ext φ=>obtain⟨p,⟨o,e⟩,st⟩:=x;exact⟨st _ _ p fun o q=>k _ _ (.inl rfl) q,⟨o,k _ _ (.inl rfl) e⟩,st⟩
theorem HOk.lt(x:HOk P w H h)(e:H a=some o):a<h.objs.size:=(x a o e).lt
theorem HOk.fresh(x:HOk P w H h)(e:h.objs.size<=a):H a=none:=by
 cases q:H a with
 | none=>rfl
 | some u=>exact absurd (AH (x.lt q) e) (Bt _)
theorem HOk.kept(x:HOk P w H h)(k:∀b u,h.get? b=some u->h'.get? b=some u):HOk P w H h':=fun a o e =>
 (x a o e).stay (fun b u _ q=>k b u q) (fun _ q=>q) fun _ _ q=>q
theorem HOk.laid(x:HOk P w H h)(k:∀b u,h.get? b=some u->h'.get? b=some u)(hp:h.objs.size<=a)(new:ObjOk P w (upd H a o) h' a o):HOk P w (upd H a o) h':=fun b u e=>by
 have hn:=x.fresh hp;by_cases hb:b=a
 . subst hb;rw[ab] at e;cases e;exact new
 . rw[ai hb] at e;exact (x b u e).stay (fun c v _ q=>k c v q) (fun c q=>by rw[ai (aq q hn)];exact q) fun c xs q=>by rw[ai (aq q hn)];exact q
end
def Rd(H:Hp)(a:HW)(u:HO):Prop:=H a=some u\/∃o,H a=some (.frz o u)
theorem Rd.ok{P:IC}{w:IF}{H:Hp}{h:IJ}{a:HW}{u:HO}(r:Rd H a u)(x:HOk P w H h):ObjOk P w H h a u:=by
 rcases r with r|⟨o,r⟩
 . exact x a u r
 . obtain⟨_,q⟩:=x a _ r;exact q
def Mut:Option HO->Prop
 | some (.lst _)=>True
 | some (.dK _)=>True
 | some (.dT _)=>True
 | some (.set _ _)=>True
 | some (.ins _ _ _)=>True
 | some (.ext _)=>True
 | _=>False
section
variable{P:IC}{w:IF}{H:Hp}{h h':IJ}{x e:HW}{o':HO}
theorem HOk.write(ok:HOk P w H h)(mu:Mut (H x))(he:e=x\/H e=some (.own x))(k:∀b u,b≠e->h.get? b=some u->h'.get? b=some u)(heo:∃u,h'.get? e=some u)(new:ObjOk P w (upd H x o') h' x o'):HOk P w (upd H x o') h':=fun b u q=>by
 have nown:∀c y,H c=some (.own y)->c≠x:=fun c y r z=>by subst z;rw[r] at mu;exact mu
 have ntup:∀c xs,H c=some (.tup xs)->c≠x:=fun c xs r z=>by subst z;rw[r] at mu;exact mu
 by_cases hb:b=x
 . subst hb;rw[ab] at q;cases q;exact new
 . rw[ai hb] at q;by_cases hbe:b=e
   . have q':H b=some (.own x):=by
      rcases he with z|z
      . exact absurd (hbe.trans z) hb
      . rw[hbe];exact z
     rw[q] at q';cases q';obtain⟨v,hv⟩:=heo;exact⟨v,by rw[hbe];exact hv⟩
   . refine (ok b u q).stay (fun c v hc r=>k c v ?_ r) (fun c r=>by rw[ai (nown c b r)];exact r) fun c xs r=>by rw[ai (ntup c xs r)];exact r
     rcases hc with rfl|hc
     . exact hbe
     . rintro rfl;rcases he with z|z
       . exact nown c b hc z
       . rw[hc] at z;cases z;exact hb rfl
end
structure Un(fs ex:List HW)(H H':Hp)(h h':IJ):Prop where
 keep:∀b o,h.get? b=some o->H b=none->b∉fs->b∉ex->h'.get? b=some o
 slot:∀b o,h.get? b=some o->H b=none->b∈fs->b∉ex->∃sl,h'.get? b=some {o with slots:=sl}
 free:∀b o,h.get? b=some o->H b=none->b∉ex->H' b=none
 there:∀b o,h.get? b=some o->b∉ex->∃o',h'.get? b=some o'
 tups:∀b xs,H b=some (.tup xs)->H' b=some (.tup xs)
 frzs:∀b o u,H b=some (.frz o u)->H' b=some (.frz o u)
 tbls:∀b ps,H b=some (.tbl ps)->∃more,H' b=some (.tbl (ps++more))
section
variable{fs fs' ex ex':List HW}{H H1 H2:Hp}{h h1 h2 h':IJ}{a x e:HW}{o:HO}
theorem Un.any(u:Un fs ex H H1 h h1){b:HW}{ob:Obj}(q:h.get? b=some ob)(n:H b=none)(hx:b∉ex):∃sl,h1.get? b=some {ob with slots:=sl}:=by
 by_cases hb:b∈fs
 . exact u.slot b ob q n hb hx
 . exact⟨ob.slots,u.keep b ob q n hb hx⟩
theorem Un.kept(k:∀b u,h.get? b=some u->h'.get? b=some u):Un fs ex H H h h' :=
 ⟨fun b ob q _ _ _=>k b ob q,fun b ob q _ _ _=>⟨ob.slots,k b ob q⟩,fun _ _ _ n _=>n,fun b ob q _=>⟨ob,k b ob q⟩,fun _ _ q=>q,fun _ _ _ q=>q,fun _ ps q=>⟨#[],by rw[q];simp⟩⟩
theorem Un.refl:Un fs ex H H h h:=Un.kept fun _ _ q=>q
theorem Un.laid(k:∀b u,h.get? b=some u->h'.get? b=some u)(hp:h.objs.size<=a)(hn:H a=none):Un fs ex H (upd H a o) h h' where
 keep:=fun b u q _ _ _=>k b u q
 slot:=fun b u q _ _ _=>⟨u.slots,k b u q⟩
 free:=fun b u q n _=>by rw[ai (AL (AH (AC q) hp))];exact n
 there:=fun b u q _=>⟨u,k b u q⟩
 tups:=fun b xs q=>by rw[ai (aq q hn)];exact q
 frzs:=fun b u xs q=>by rw[ai (aq q hn)];exact q
 tbls:=fun b ps q=>⟨#[],by rw[ai (aq q hn),q];simp⟩
theorem Un.write(mu:Mut (H x))(he:e=x\/H e=some (.own x))(k:∀b u,b≠e->h.get? b=some u->h'.get? b=some u)(heo:∃u,h'.get? e=some u):Un fs ex H (upd H x o) h h':=by
 have hx:∀b,H b=none->b≠x:=fun b n z=>by subst z;rw[n] at mu;exact mu
 have hb:∀b,H b=none->b≠e:=fun b n z=>by
  subst z;rcases he with r|r
  . exact hx b n r
  . rw[n] at r;cases r
 have hm:∀b u,H b=some u->¬ Mut (some u)->b≠x:=fun b u q nm z=>by subst z;rw[q] at mu;exact nm mu
 refine⟨fun b u q n _ _=>k b u (hb b n) q,fun b u q n _ _=>⟨u.slots,k b u (hb b n) q⟩,fun b u q n _=>by rw[ai (hx b n)];exact n,fun b u q _=>?_,
  fun b xs q=>by rw[ai (hm b _ q fun z=>z)];exact q,fun b u xs q=>by rw[ai (hm b _ q fun z=>z)];exact q,fun b ps q=>⟨#[],by rw[ai (hm b _ q fun z=>z),q];simp⟩⟩
 by_cases hbe:b=e
 . subst hbe;exact heo
 . exact⟨u,k b u hbe q⟩
end
def trk(h:IJ)(H:Hp):List HW:=(Bg h.objs.size).filter fun a=>(H a).isSome
def hidT(h:IJ)(H:Hp):IJ:=PySem.W.hideAll h (trk h H)
theorem a4m(h:IJ)(H:Hp):(hidT h H).objs.size=h.objs.size:=PySem.W.hideAll_size _ _
theorem a6v{h:IJ}{H:Hp}{b:HW}{o:Obj}(e:h.get? b=some o)(n:H b=none):(hidT h H).get? b=some o :=
 PySem.W.hideAll_get _ e fun hm=>by
  have q:(H b).isSome=true:=(AV.mp hm).2;rw[n] at q;simp at q
theorem a8k{h:IJ}{H:Hp}{b:HW}{o:Obj}(e:(hidT h H).get? b=some o):h.get? b=some o/\H b=none:=by
 have e':h.get? b=some o:=PySem.W.of_hideAll (trk h H) e;refine⟨e',?_⟩;cases q:H b with
 | none=>rfl
 | some x =>
  have hm:b∈trk h H:=AV.mpr ⟨CY.mpr (AC e'),by simp[q]⟩;have z:(hidT h H).get? b=none:=PySem.W.hideAll_none (trk h H) hm;rw[z] at e;cases e
def a8s(g h:IJ)(L:HW):List (HW×Obj):=(Bg h.objs.size).filterMap fun a=>if a=L\/(g.get? a).isSome=true then none else (h.get? a).map fun o=>(a,o)
def rest(g h:IJ)(L d:HW):List (HW×Obj):=(a8s g h L).filter fun p=>decide (p.1≠d)
structure Mod(K:Ac)(mg:Str->Option HX)(base:IJ):Prop where
 kin:K.In base
 glob:base.Ns IA mg
 blt:∃mb,base.Ns builtinsNs mb/\∀x:Str,x≠"__name__" -> mb x=bootBuiltins x
 nolimit:base.NoLimit
structure Cx where
 prog:IC
 w:IF
 K:Ac
 mg:Str->Option HX
 base:IJ
 A:IK
 N:List Str
 s₀:HZ
 H₀:Hp
 env:Env
 outer:List Env
 stack:List Env
 ex:List HW
 fn:Str->Bool
 calm:Bool
 pn:List (HW×Obj)
 xe:HX->HZ->Prop
def frs(l:List Env):List HW:=l.filterMap (·.frame)
abbrev Cx.fs(X:Cx):List HW:=frs X.outer
def Vis(sc:Scope)(x:Str):Prop:=sc.names.lookup x=some .local\/sc.names.lookup x=some .cell\/sc.names.lookup x=some .free
def Loc(sc:Scope)(x:Str):Prop:=sc.names.lookup x=some .local\/sc.names.lookup x=some .cell
def Look(env:Env)(h:IJ)(m:Str->Option HX)(x:Str)(u:HX):Prop :=
 (env.kindOf x=some .local/\m x=some u)\/((env.kindOf x=some .cell\/env.kindOf x=some .free)/\∃c,env.cells.lookup x=some c/\h.IsCell c (some u))
structure Cx.Ok(X:Cx):Prop where
 mod:Mod X.K X.mg X.base
 kind:X.env.scope.kind=.function
 glob:X.env.globals=IA
 blt:X.env.builtins=builtinsNs
 above:X.s₀.heap.objs.size<=X.env.locals
 inj:∀x y c,X.env.cells.lookup x=some c->X.env.cells.lookup y=some c->x=y
 has:∀x,(X.env.kindOf x=some .cell\/X.env.kindOf x=some .free)->∃c,X.env.cells.lookup x=some c
 cab:∀x c,X.fn x=true->X.env.cells.lookup x=some c->X.s₀.heap.objs.size<=c
 hd:X.calm=true->X.A.handled=none
 frames:X.A.frames=some X.stack
 stk:X.stack=X.outer\/(X.stack=X.env::X.outer/\X.env.frame=some X.env.locals)
 exf:∀b∈X.ex,b≠X.env.locals/\∀x c,X.env.cells.lookup x=some c->c≠b
 bs:∀b o,X.base.get? b=some o->X.s₀.heap.get? b=some o/\X.H₀ b=none
 bsz:X.base.objs.size<=X.s₀.heap.objs.size
 noex:∀b o,X.base.get? b=some o->b∉X.ex
 exfs:∀b∈X.ex,b∉X.fs
 funs:X.s₀.heap.FunFrames X.base X.outer
 frf:∀b∈X.fs,X.H₀ b=none
structure Inv(X:Cx)(pins:List (HW×Obj))(σ:List (Option V))(H:Hp)(s:HZ):Prop where
 ok:X.Ok
 os:s.os=X.s₀.os
 bare:AllBare s.gens
 base:Un X.fs X.ex X.H₀ H X.s₀.heap s.heap
 loc:∃m,s.heap.Ns X.env.locals m/\∀(i:Nat) (x:Str) (v:V),X.N[i]?=some x->σ[i]?=some (some v)->Vis X.env.scope x->∃u,RelV v u/\Look X.env s.heap m x u
 cell:∀x c,X.env.cells.lookup x=some c->∃v,s.heap.IsCell c v
 free:H X.env.locals=none
 freeC:∀x c,X.env.cells.lookup x=some c->H c=none
 pin:∀p∈X.pn++pins,s.heap.get? p.1=some p.2/\H p.1=none/\p.1≠X.env.locals/\p.1∉X.fs/\∀v,p.2.data≠.cell v
 hok:HOk X.prog X.w H s.heap
 len:σ.length=X.N.length
section
variable{X:Cx}{pins:List (HW×Obj)}{σ:List (Option V)}{H H':Hp}{s:HZ}{h':IJ}
theorem Cx.Ok.nofr(ok:X.Ok){b:HW}{o:Obj}(e:X.base.get? b=some o):b∉X.fs:=fun hb=>by
 have:=(ok.funs.mem hb).1;rw[e] at this;cases this
theorem Inv.bs(I:Inv X pins σ H s):∀b o,X.base.get? b=some o->s.heap.get? b=some o/\H b=none:=fun b o e =>
 ⟨I.base.keep b o (I.ok.bs b o e).1 (I.ok.bs b o e).2 (I.ok.nofr e) (I.ok.noex b o e),I.base.free b o (I.ok.bs b o e).1 (I.ok.bs b o e).2 (I.ok.noex b o e)⟩
theorem Inv.bk(I:Inv X pins σ H s):∀b o,X.base.get? b=some o->s.heap.get? b=some o:=fun b o e=>(I.bs b o e).1
theorem Inv.mod(I:Inv X pins σ H s):Mod X.K X.mg X.base:=I.ok.mod
theorem Inv.kIn(I:Inv X pins σ H s):X.K.In s.heap:=I.ok.mod.kin.keeps I.bk
theorem Inv.lt(I:Inv X pins σ H s):X.env.locals<s.heap.objs.size:=let ⟨_,hn,_⟩:=I.loc;hn.lt
theorem Inv.sz(I:Inv X pins σ H s):X.s₀.heap.objs.size<=s.heap.objs.size:=Aw I.ok.above (B0 I.lt)
theorem Inv.nofs(I:Inv X pins σ H s){a:HW}(h:s.heap.objs.size<=a):a∉X.fs:=fun hb=>by
 obtain⟨_,o,ho,_⟩:=I.ok.funs.mem hb;exact absurd (AH (AC ho) (Aw I.sz h)) (Bt _)
theorem Inv.cne(I:Inv X pins σ H s):∀x c,X.env.cells.lookup x=some c->c≠X.env.locals:=fun x c e z=>by
 obtain⟨v,o,ho,hd⟩:=I.cell x c e;obtain⟨m,⟨o',es,ep,ho',hd',_⟩,_⟩:=I.loc;rw[z,ho'] at ho;cases ho;rw[hd'] at hd;cases hd
theorem Inv.funs(I:Inv X pins σ H s):s.heap.FunFrames X.base X.outer:=by
 have all:∀(l:List Env),(∀b∈frs l,b∈X.fs)->X.s₀.heap.FunFrames X.base l->s.heap.FunFrames X.base l:=by
  intro l;induction l with
  | nil=>intro _ _;trivial
  | cons env r ih =>
   intro hs hl;obtain⟨hk,⟨L,o,hf,hn,ho,hd⟩,hr⟩:=hl;have hL:L∈X.fs:=hs L (by unfold frs;rw[CO,hf];exact By);obtain⟨sl,e⟩:=I.base.slot L o ho (I.ok.frf L hL) hL fun z=>I.ok.exfs L z hL;exact⟨hk,⟨L,_,hf,hn,e,hd⟩,ih (fun b hb=>hs b (by unfold frs;rw[CO,hf];exact Bl _ hb)) hr⟩
 exact all X.outer (fun _ hb=>hb) I.ok.funs
theorem Inv.stack(I:Inv X pins σ H s):s.heap.FunFrames X.base X.stack:=by
 rcases I.ok.stk with e|⟨e,hf⟩
 . rw[e];exact I.funs
 . rw[e];obtain⟨m,hn,_⟩:=I.loc;refine .cons (by rw[I.ok.kind];decide) hf hn ?_ I.funs;exact DQ (Aw I.ok.bsz I.ok.above)
theorem Inv.stkSub(I:Inv X pins σ H s):∀b∈frs X.stack,b∈X.env.locals::X.fs:=fun b hb=>by
 rcases I.ok.stk with e|⟨e,hf⟩
 . rw[e] at hb;exact Bl _ hb
 . rw[e] at hb;unfold frs at hb;rw[CO,hf] at hb;exact hb
theorem Inv.stkFree(I:Inv X pins σ H s):∀b∈frs X.stack,H b=none:=fun b hb=>by
 rcases Am.mp (I.stkSub b hb) with e|hb
 . rw[e];exact I.free
 . obtain⟨_,o,ho,_⟩:=I.ok.funs.mem hb;exact I.base.free b o ho (I.ok.frf b hb) fun z=>I.ok.exfs b z hb
theorem Inv.step{g':Array GenState}{t':Nat}{d':Drawn}{ch:List HW}(I:Inv X pins σ H s)(hch:∀b∈ch,(b∈X.ex\/X.s₀.heap.objs.size<=b)/\b≠X.env.locals/\(∀x c,X.env.cells.lookup x=some c->c≠b)/\∀p∈X.pn++pins,p.1≠b)(keep:∀b o,b≠X.env.locals->b∉X.fs->b∉ch->s.heap.get? b=some o->H b=none->h'.get? b=some o)(slot:∀b o,b≠X.env.locals->b∈X.fs->b∉ch->s.heap.get? b=some o->H b=none->∃sl,h'.get? b=some {o with slots:=sl})(free:∀b o,b∉ch->s.heap.get? b=some o->H b=none->H' b=none)(there:∀b o,b∉ch->s.heap.get? b=some o->∃o',h'.get? b=some o')(tups:∀b xs,H b=some (.tup xs)->H' b=some (.tup xs))(frzs:∀b o u,H b=some (.frz o u)->H' b=some (.frz o u))(tbls:∀b ps,H b=some (.tbl ps)->∃more,H' b=some (.tbl (ps++more)))(ns:∀m,s.heap.Ns X.env.locals m->h'.Ns X.env.locals m)(hok:HOk X.prog X.w H' h')(hg:AllBare g'):
 Inv X pins σ H' {s with heap:=h',gens:=g',drawn:=d',toks:=t'}:=by
 have neL:∀b o,X.s₀.heap.get? b=some o->b≠X.env.locals:=fun b o e=>AL (AH (AC e) I.ok.above);have neC:∀b o,X.s₀.heap.get? b=some o->b∉X.ex->b∉ch:=fun b o e hx hb=>by
  rcases (hch b hb).1 with z|z
  . exact hx z
  . exact absurd (AH (AC e) z) (Bt _)
 have cellK:∀x c,X.env.cells.lookup x=some c->∀v,s.heap.IsCell c v->h'.IsCell c v:=fun x c e v ⟨o,ho,hd⟩=>by
  have nch:c∉ch:=fun z=>(hch c z).2.2.1 x c e rfl;by_cases hc:c∈X.fs
  . obtain⟨sl,q⟩:=slot c o (I.cne x c e) hc nch ho (I.freeC x c e);exact⟨_,q,hd⟩
  . exact⟨o,keep c o (I.cne x c e) hc nch ho (I.freeC x c e),hd⟩
 refine⟨I.ok,I.os,hg,⟨fun b o e n hb hx=>?_,fun b o e n hb hx=>?_,fun b o e n hx=>?_,fun b o e hx=>?_,fun b xs e=>tups b xs (I.base.tups b xs e),fun b o xs e=>frzs b o xs (I.base.frzs b o xs e),fun b ps e=>?_⟩,?_,fun x c e=>?_,?_,fun x c e=>?_,fun p hp=>?_,hok,I.len⟩
 . exact keep b o (neL b o e) hb (neC b o e hx) (I.base.keep b o e n hb hx) (I.base.free b o e n hx)
 . obtain⟨sl,e1⟩:=I.base.slot b o e n hb hx;obtain⟨sl',e2⟩:=slot b _ (neL b o e) hb (neC b o e hx) e1 (I.base.free b o e n hx);exact⟨sl',e2⟩
 . obtain⟨o',e1⟩:=I.base.there b o e hx;exact free b o' (neC b o e hx) e1 (I.base.free b o e n hx)
 . obtain⟨o',e1⟩:=I.base.there b o e hx;exact there b o' (neC b o e hx) e1
 . obtain⟨m1,e1⟩:=I.base.tbls b ps e;obtain⟨m2,e2⟩:=tbls b _ e1;exact⟨m1++m2,by rw[e2,FR]⟩
 . obtain⟨m,hn,hl⟩:=I.loc;refine⟨m,ns m hn,fun i x v e1 e2 e3=>?_⟩;obtain⟨u,r,l⟩:=hl i x v e1 e2 e3;refine⟨u,r,?_⟩;rcases l with l|⟨k,c,e,z⟩
   . exact .inl l
   . exact .inr ⟨k,c,e,cellK x c e _ z⟩
 . obtain⟨v,z⟩:=I.cell x c e;exact⟨v,cellK x c e v z⟩
 . obtain⟨m,⟨o,_,_,ho,_⟩,_⟩:=I.loc;exact free _ o (fun z=>(hch _ z).2.1 rfl) ho I.free
 . obtain⟨v,o,ho,hd⟩:=I.cell x c e;exact free c o (fun z=>(hch c z).2.2.1 x c e rfl) ho (I.freeC x c e)
 . obtain⟨e,n,ne,nf,d⟩:=I.pin p hp;have nch:p.1∉ch:=fun z=>(hch p.1 z).2.2.2 p hp rfl;exact⟨keep p.1 p.2 ne nf nch e n,free p.1 p.2 nch e n,ne,nf,d⟩
theorem Inv.un{t':Nat}(I:Inv X pins σ H s)(u:Un X.fs [] H H' s.heap h')(hok:HOk X.prog X.w H' h'):Inv X pins σ H' {s with heap:=h',toks:=t'}:=by
 obtain⟨m,⟨o,es,ep,ho,r⟩,_⟩:=id I.loc;obtain⟨sl,hL⟩:=u.any ho I.free (by simp);exact I.step (g':=s.gens) (d':=s.drawn) (ch:=[]) (fun _ z=>nomatch z) (fun b o _ hb _ e n=>u.keep b o e n hb (by simp)) (fun b o _ hb _ e n=>u.slot b o e n hb (by simp)) (fun b o _ e n=>u.free b o e n (by simp)) (fun b o _ e=>u.there b o e (by simp)) u.tups u.frzs u.tbls (fun m' hm=>by
  obtain⟨o',es',ep',ho',r'⟩:=hm;rw[ho] at ho';cases ho';exact⟨_,es',ep',hL,r'⟩) hok I.bare
theorem Inv.call{g':Array GenState}{t':Nat}{d':Drawn}{ch:List HW}(I:Inv X pins σ H s)(u:Un (frs X.stack) ch H H' s.heap h')(hok:HOk X.prog X.w H' h')(hg:AllBare g')(hch:∀b∈ch,(b∈X.ex\/X.s₀.heap.objs.size<=b)/\b≠X.env.locals/\(∀x c,X.env.cells.lookup x=some c->c≠b)/\∀p∈X.pn++pins,p.1≠b):
 Inv X pins σ H' {s with heap:=h',gens:=g',drawn:=d',toks:=t'}:=by
 obtain⟨m,⟨o,es,ep,ho,r⟩,_⟩:=id I.loc;obtain⟨sl,hL⟩:=u.any ho I.free fun z=>(hch _ z).2.1 rfl;exact I.step (ch:=ch) hch (fun b o hL hb hc e n=>u.keep b o e n (fun z=>(Am.mp (I.stkSub b z)).elim hL hb) hc) (fun b o _ _ hc e n=>u.any e n hc) (fun b o hc e n=>u.free b o e n hc) (fun b o hc e=>u.there b o e hc) u.tups u.frzs u.tbls (fun m' hm=>by
  obtain⟨o',es',ep',ho',r'⟩:=hm;rw[ho] at ho';cases ho';exact⟨_,es',ep',hL,r'⟩) hok hg
theorem Inv.turned{t':Nat}{it:HW}(I:Inv X pins σ H s)(k:∀b o,b≠it->s.heap.get? b=some o->h'.get? b=some o)(hn:H it=none)(hL:it≠X.env.locals)(h1:it∈X.ex\/X.s₀.heap.objs.size<=it)(h2:∀x c,X.env.cells.lookup x=some c->c≠it)(h3:∀p∈X.pn++pins,p.1≠it):Inv X pins σ H {s with heap:=h',toks:=t'}:=by
 have nit:∀b u,H b=some u->b≠it:=fun b u e z=>by rw[z,hn] at e;cases e
 refine I.step (g':=s.gens) (d':=s.drawn) (ch:=[it]) (fun b hb=>?_) (fun b o _ _ hc e _=>k b o (fun z=>hc (by simp[z])) e) (fun b o _ _ hc e _=>⟨o.slots,k b o (fun z=>hc (by simp[z])) e⟩) (fun _ _ _ _ n=>n)
  (fun b o hc e=>⟨o,k b o (fun z=>hc (by simp[z])) e⟩) (fun _ _ e=>e) (fun _ _ _ e=>e) (fun b ps e=>⟨#[],by rw[e];simp⟩) (fun m hm=>?_) (fun b u e=>?_) I.bare
 . have e:b=it:=by simpa using hb
   subst e;exact⟨h1,hL,h2,h3⟩
 . obtain⟨o,es,ep,ho,r⟩:=hm;exact⟨o,es,ep,k _ o (BY hL) ho,r⟩
 . refine (I.hok b u e).stay (fun c v hc q=>k c v ?_ q) (fun _ q=>q) fun _ _ q=>q;rcases hc with z|z
   . rw[z];exact nit b u e
   . exact nit c _ z
theorem Inv.tok(I:Inv X pins σ H s)(t:Nat):Inv X pins σ H {s with toks:=t}:=I.un (h':=s.heap) (t':=t) Un.refl I.hok
theorem Inv.kept{t':Nat}(I:Inv X pins σ H s)(k:∀b u,s.heap.get? b=some u->h'.get? b=some u):Inv X pins σ H {s with heap:=h',toks:=t'}:=I.un (Un.kept k) (I.hok.kept k)
theorem Inv.laid{a:HW}{o:HO}{t':Nat}(I:Inv X pins σ H s)(k:∀b u,s.heap.get? b=some u->h'.get? b=some u)(hp:s.heap.objs.size<=a)(new:ObjOk X.prog X.w (upd H a o) h' a o):
 Inv X pins σ (upd H a o) {s with heap:=h',toks:=t'}:=I.un (Un.laid k hp (I.hok.fresh hp)) (I.hok.laid k hp new)
theorem Inv.write{x e:HW}{o:HO}{t':Nat}(I:Inv X pins σ H s)(mu:Mut (H x))(he:e=x\/H e=some (.own x))(k:∀b u,b≠e->s.heap.get? b=some u->h'.get? b=some u)(heo:∃u,h'.get? e=some u)(new:ObjOk X.prog X.w (upd H x o) h' x o):Inv X pins σ (upd H x o) {s with heap:=h',toks:=t'}:=I.un (Un.write mu he k heo) (I.hok.write mu he k heo new)
theorem Inv.pins_of{pins':List (HW×Obj)}(I:Inv X pins σ H s)(h:∀p∈pins',s.heap.get? p.1=some p.2/\H p.1=none/\p.1≠X.env.locals/\p.1∉X.fs/\∀v,p.2.data≠.cell v):Inv X pins' σ H s :=
 ⟨I.ok,I.os,I.bare,I.base,I.loc,I.cell,I.free,I.freeC,fun p hp=>(Aq.mp hp).elim (fun z=>I.pin p (CC _ z)) (h p),I.hok,I.len⟩
theorem zb{N:List Str}(hN:N.Nodup){i j:Nat}{x:Str}(a:N[i]?=some x)(b:N[j]?=some x):i=j:=by
 obtain⟨h1,e1⟩:=Av.mp a;obtain⟨h2,e2⟩:=Av.mp b;exact (Gy hN).mp (e1.trans e2.symm)
theorem xt{M:Model}{A:IK}{E:HX->HZ->Prop}{i:Nat}{x:Str}{v:V}{u:HX}{Q:Unit->HZ->Prop}(I:Inv X pins σ H s)(hN:X.N.Nodup)(hi:X.N[i]?=some x)(hx:Loc X.env.scope x)(r:RelV v u)(h:∀s',Inv X pins (σ.set i (some v)) H s'->(∃a,CZ a s.heap s'.heap/\(a=X.env.locals\/X.env.cells.lookup x=some a))->Q () s')(hf:X.fn x=true\/X.env.scope.names.lookup x=some .local:=by first|exact .inl rfl|exact .inr rfl|assumption):IB M A (storeName X.env x u) Q E s:=by
 obtain⟨m,hn,hl⟩:=id I.loc;have hcls:(X.env.scope.kind==.class || (X.env.scope.kind==.module && X.env.locals != X.env.globals))=false:=by rw[I.ok.kind];rfl
 have hiσ:i<σ.length:=by rw[I.len];exact (Av.mp hi).1
 have cne:=I.cne;have tracked:∀{a:HW} {h':IJ},(∃o,s.heap.get? a=some o/\H a=none)->CZ a s.heap h'->HOk X.prog X.w H h':=fun {a h'} ha hs b ob e=>by
  obtain⟨_,_,hfree⟩:=ha;refine (I.hok b ob e).stay (fun c w' hc q=>(hs.2 c ?_).trans q) (fun _ q=>q) fun _ _ q=>q;rintro rfl;rcases hc with rfl|hc
  . rw[hfree] at e;cases e
  . rw[hfree] at hc;cases hc
 rcases hx with hk|hk
 . refine wpAny_storeName_local hk hn (fun h' hn' hs=>?_) hcls;obtain⟨oL,_,_,hoL,_⟩:=id hn;refine h _ ⟨I.ok,I.os,I.bare,⟨fun b o e n hb hx=>?_,fun b o e n hb hx=>?_,I.base.free,fun b o e hx=>?_,I.base.tups,I.base.frzs,I.base.tbls⟩,⟨_,hn',fun j y v' e1 e2 e3=>?_⟩,fun y c e=>?_,I.free,I.freeC,fun p hp=>?_,tracked ⟨oL,hoL,I.free⟩ hs,by simpa using I.len⟩ ⟨_,hs,.inl rfl⟩
   . exact (hs.2 b (AL (AH (AC e) I.ok.above))).trans (I.base.keep b o e n hb hx)
   . obtain⟨sl,e1⟩:=I.base.slot b o e n hb hx;exact⟨sl,(hs.2 b (AL (AH (AC e) I.ok.above))).trans e1⟩
   . obtain⟨o',e1⟩:=I.base.there b o e hx;exact⟨o',(hs.2 b (AL (AH (AC e) I.ok.above))).trans e1⟩
   . by_cases hj:j=i
     . subst hj;rw[hi] at e1;cases e1;rw[DF hiσ] at e2;cases e2;exact⟨u,r,.inl ⟨hk,by simp⟩⟩
     . rw[DR (BY hj)] at e2;obtain⟨u',r',q⟩:=hl j y v' e1 e2 e3;refine⟨u',r',?_⟩;rcases q with⟨k,e⟩|⟨k,c,e,z⟩
       . refine .inl ⟨k,?_⟩;have:y≠x:=fun e=>hj (zb hN e1 (e ▸ hi));simp[this,e]
       . exact .inr ⟨k,c,e,z.sameBut hs (cne y c e)⟩
   . obtain⟨w',z⟩:=I.cell y c e;exact⟨w',z.sameBut hs (cne y c e)⟩
   . obtain⟨e,n,ne,nf,d⟩:=I.pin p hp;exact⟨(hs.2 p.1 ne).trans e,n,ne,nf,d⟩
 . have hfn:X.fn x=true:=by
    rcases hf with z|z
    . exact z
    . rw[z] at hk;cases hk
   obtain⟨c,hc⟩:=I.ok.has x (.inl hk);obtain⟨w',z⟩:=I.cell x c hc;refine wpAny_storeName_cell I.ok.kind hk hc z (fun h' hc' hs=>?_);obtain⟨oc,hoc,hocd⟩:=id z;refine h {s with heap:=h'} ⟨I.ok,I.os,I.bare,⟨fun b o e n hb hx=>?_,fun b o e n hb hx=>?_,I.base.free,fun b o e hx=>?_,I.base.tups,I.base.frzs,I.base.tbls⟩,⟨m,hn.sameBut hs (BY (cne x c hc)),fun j y v' e1 e2 e3=>?_⟩,fun y c' e=>?_,I.free,I.freeC,fun p hp=>?_,tracked ⟨oc,hoc,I.freeC x c hc⟩ hs,by simpa using I.len⟩ ⟨c,hs,.inr hc⟩
   . exact (hs.2 b (AL (AH (AC e) (I.ok.cab x c hfn hc)))).trans (I.base.keep b o e n hb hx)
   . obtain⟨sl,e1⟩:=I.base.slot b o e n hb hx;exact⟨sl,(hs.2 b (AL (AH (AC e) (I.ok.cab x c hfn hc)))).trans e1⟩
   . obtain⟨o',e1⟩:=I.base.there b o e hx;exact⟨o',(hs.2 b (AL (AH (AC e) (I.ok.cab x c hfn hc)))).trans e1⟩
   . by_cases hj:j=i
     . subst hj;rw[hi] at e1;cases e1;rw[DF hiσ] at e2;cases e2;exact⟨u,r,.inr ⟨.inl hk,c,hc,hc'⟩⟩
     . rw[DR (BY hj)] at e2;obtain⟨u',r',q⟩:=hl j y v' e1 e2 e3;refine⟨u',r',?_⟩;rcases q with q|⟨k,c',e,z'⟩
       . exact .inl q
       . refine .inr ⟨k,c',e,z'.sameBut hs ?_⟩;rintro rfl;exact hj (zb hN e1 (I.ok.inj _ _ _ e hc ▸ hi))
   . by_cases hcc:c'=c
     . subst hcc;exact⟨_,hc'⟩
     . obtain⟨w2,z2⟩:=I.cell y c' e;exact⟨w2,z2.sameBut hs hcc⟩
   . obtain⟨e,n,ne,nf,d⟩:=I.pin p hp;refine⟨(hs.2 p.1 ?_).trans e,n,ne,nf,d⟩;intro q;rw[q,hoc] at e;have q':oc=p.2:=Ay e;exact d w' (by rw[<- q'];exact hocd)
theorem uf{M:Model}{A:IK}{E:HX->HZ->Prop}{i:Nat}{x:Str}{v:V}{u:HX}{Q:Unit->HZ->Prop}(I:Inv X pins σ H s)(hN:X.N.Nodup)(hi:X.N[i]?=some x)(hx:Loc X.env.scope x)(r:RelV v u)(h:∀s',Inv X pins (σ.set i (some v)) H s'->Q () s')(hf:X.fn x=true\/X.env.scope.names.lookup x=some .local:=by first|exact .inl rfl|exact .inr rfl|assumption):IB M A (storeName X.env x u) Q E s :=
 xt I hN hi hx r (fun s' I' _=>h s' I') hf
theorem Inv.call'{s':HZ}{ch:List HW}(I:Inv X pins σ H s)(ho:s'.os=s.os)(u:Un (frs X.stack) ch H H' s.heap s'.heap)(hok:HOk X.prog X.w H' s'.heap)(hg:AllBare s'.gens)(hch:∀b∈ch,(b∈X.ex\/X.s₀.heap.objs.size<=b)/\b≠X.env.locals/\(∀x c,X.env.cells.lookup x=some c->c≠b)/\∀p∈X.pn++pins,p.1≠b):Inv X pins σ H' s':=by
 obtain⟨h',g',d',t',o'⟩:=s';have e:o'=s.os:=ho;subst e;exact I.call (g':=g') (t':=t') (d':=d') u hok hg hch
end
abbrev XK:=HX->Option HW->Hp->Prop
abbrev St:=List (Option V)
abbrev VK:=V->Hp->Prop
abbrev TE:=St->Hp->VK->Prop
abbrev TT:=St->Hp->(Bool->Hp->Prop)->Prop
abbrev TA:=St->Hp->(List V->Hp->Prop)->Prop
structure Ends where
 nx:St->Hp->Prop
 rt:VK
 bk:St->Hp->Prop:=fun _ _=>False
 ct:St->Hp->Prop:=fun _ _=>False
abbrev TS:=Ends->St->Hp->Prop
def EP(X:Cx)(pins:List (HW×Obj))(σ:St)(Q:VK)(u:HX)(s':HZ):Prop:=∃v H',Inv X pins σ H' s'/\RelV v u/\Q v H'
def TP(X:Cx)(pins:List (HW×Obj))(σ:St)(Q:Bool->Hp->Prop)(b:Bool)(s':HZ):Prop:=∃H',Inv X pins σ H' s'/\Q b H'
def AP(X:Cx)(pins:List (HW×Obj))(σ:St)(Q:List V->Hp->Prop)(us:List HX)(s':HZ):Prop:=∃vs H',Inv X pins σ H' s'/\Vals vs us/\Q vs H'
def SP(X:Cx)(pins:List (HW×Obj))(D:Ends)(f:Flow)(s':HZ):Prop :=
 match f with
 | .next=>∃σ' H',Inv X pins σ' H' s'/\D.nx σ' H'
 | .brk=>∃σ' H',Inv X pins σ' H' s'/\D.bk σ' H'
 | .cont=>∃σ' H',Inv X pins σ' H' s'/\D.ct σ' H'
 | .ret u=>∃v σ' H',Inv X pins σ' H' s'/\RelV v u/\D.rt v H'
def PE(X:Cx)(e:Expr)(t:TE):Prop :=
 ∀(pins:List (HW×Obj)) (s:HZ) (σ:St) (H:Hp) (Q:VK),Inv X pins σ H s->t σ H Q->IB (ID X.prog X.w) X.A (eval e X.env) (EP X pins σ Q) X.xe s
def PT(X:Cx)(e:Expr)(t:TT):Prop :=
 ∀(pins:List (HW×Obj)) (s:HZ) (σ:St) (H:Hp) (Q:Bool->Hp->Prop),Inv X pins σ H s->t σ H Q->IB (ID X.prog X.w) X.A (isTrue e X.env (eval e X.env)) (TP X pins σ Q) X.xe s
def PW(X:Cx)(e:Expr)(t:TT):Prop :=
 ∀(whole:Sem HX) (pins:List (HW×Obj)) (s:HZ) (σ:St) (H:Hp) (Q:Bool->Hp->Prop),Inv X pins σ H s->t σ H Q->IB (ID X.prog X.w) X.A (isTrue e X.env whole) (TP X pins σ Q) X.xe s
theorem PW.pt{X:Cx}{e:Expr}{t:TT}(h:PW X e t):PT X e t:=h _
def PA(X:Cx)(es:List Expr)(t:TA):Prop :=
 ∀(pos:Pos) (pins:List (HW×Obj)) (s:HZ) (σ:St) (H:Hp) (Q:List V->Hp->Prop),Inv X pins σ H s->t σ H Q->IB (ID X.prog X.w) X.A (spliced (IU pos (IH es X.env))) (AP X pins σ Q) X.xe s
def PS(X:Cx)(st:IP)(t:TS):Prop :=
 ∀(pins:List (HW×Obj)) (s:HZ) (σ:St) (H:Hp) (D:Ends),Inv X pins σ H s->t D σ H->IB (ID X.prog X.w) X.A (exec st X.env) (SP X pins D) X.xe s
def PSs(X:Cx)(st:List IP)(t:TS):Prop :=
 ∀(pins:List (HW×Obj)) (s:HZ) (σ:St) (H:Hp) (D:Ends),Inv X pins σ H s->t D σ H->IB (ID X.prog X.w) X.A (execs st X.env) (SP X pins D) X.xe s
theorem thn{α:Type}{t:Sem α}{Q Q':α->HZ->Prop}{M:Model}{A:IK}{E:HX->HZ->Prop}{s:HZ}(h:IB M A t Q E s)(hQ:∀a s,Q a s->Q' a s):IB M A t Q' E s:=BH h hQ fun _ _ x=>x
section
variable{X:Cx}
def tVar(i:Nat):TE:=fun σ H Q=>∃v,σ[i]?=some (some v)/\Q v H
def tC(v:V):TE:=fun _ H Q=>Q v H
theorem a9u{i:Nat}{x:Str}{pos:Pos}(hN:X.N[i]?=some x)(hv:Vis X.env.scope x)(hd:(x==("__debug__":Str))=false:=by decide)(hcd:(x==("__classdict__":Str))=false:=by decide):PE X (.Name x pos) (tVar i):=by
 intro pins s σ H Q I h;obtain⟨v,e,h⟩:=h;obtain⟨m,hn,hl⟩:=I.loc;obtain⟨u,r,l⟩:=hl i x v hN e hv;have fin:EP X pins σ Q u s:=⟨v,H,I,r,h⟩
 rcases l with⟨hk,hm⟩|⟨hk,c,hc,hcell⟩
 . exact He (wpAny_loadName_local I.ok.kind hk hn hm fin) hd
 . rcases hk with hk|hk
   . exact He (wpAny_loadName_cell I.ok.kind hk hc hcell fin) hd
   . exact He (wpAny_loadName_free I.ok.kind hk hc hcell fin hcd) hd
theorem ev{i j pos}:PE X (.Constant (.int i) j pos) (tC (.int i)):=fun _ _ _ H _ I h=>wpAny_Constant_int ⟨.int i,H,I.tok _,⟨_,rfl⟩,h⟩
theorem kl{b j pos}:PE X (.Constant (.bool b) j pos) (tC (.bl b)):=fun _ _ _ H _ I h=>Constant_bool ⟨.bl b,H,I,rfl,h⟩
theorem aa2{j pos}:PE X (.Constant .none j pos) (tC .non):=fun _ _ _ H _ I h=>Constant_none ⟨.non,H,I,rfl,h⟩
theorem oj{x j pos}:PE X (.Constant (.str x) j pos) (tC (.str x)):=fun _ _ _ H _ I h=>Calls.Constant_str ⟨.str x,H,I.tok _,⟨_,rfl⟩,h⟩
def Gl(X:Cx)(x:Str):Prop:=X.env.kindOf x=some .globalImplicit
theorem a1w{E:HX->HZ->Prop}{pins:List (HW×Obj)}{s:HZ}{σ:St}{H:Hp}{x:Str}{u:HX}{pos:Pos}{Q:HX->HZ->Prop}(I:Inv X pins σ H s)(hg:Gl X x)(hm:X.mg x=some u)(h:Q u s)(hd:(x==("__debug__":Str))=false:=by decide):IB (ID X.prog X.w) X.A (eval (.Name x pos) X.env) Q E s :=
 Es I.ok.kind hg (Calls.loadGlobal_global (by rw[I.ok.glob];exact I.mod.glob.keeps I.bk) hm h) hd
theorem r8{E:HX->HZ->Prop}{pins:List (HW×Obj)}{s:HZ}{σ:St}{H:Hp}{x:Str}{u:HX}{pos:Pos}{Q:HX->HZ->Prop}(I:Inv X pins σ H s)(hg:Gl X x)(hm:X.mg x=none)(hv:bootBuiltins x=some u)(h:Q u s)(hn:x≠"__name__" := by decide)(hd:(x==("__debug__":Str))=false:=by decide):IB (ID X.prog X.w) X.A (eval (.Name x pos) X.env) Q E s:=by
 obtain⟨mb,h1,h2⟩:=I.mod.blt;exact Es I.ok.kind hg (Calls.loadGlobal_builtin (by rw[I.ok.glob];exact I.mod.glob.keeps I.bk) hm (by rw[I.ok.blt];exact h1.keeps I.bk) ((h2 x hn).trans hv) h) hd
theorem a8l{x:Str}{v:V}{u:HX}{pos:Pos}(hg:Gl X x)(hm:X.mg x=some u)(r:RelV v u)(hd:(x==("__debug__":Str))=false:=by decide):PE X (.Name x pos) (tC v) :=
 fun _ _ _ H _ I h=>a1w I hg hm ⟨v,H,I,r,h⟩ hd
theorem a7y{x:Str}{v:V}{u:HX}{pos:Pos}(hg:Gl X x)(hm:X.mg x=none)(hv:bootBuiltins x=some u)(r:RelV v u)(hn:x≠"__name__" := by decide)(hd:(x==("__debug__":Str))=false:=by decide):PE X (.Name x pos) (tC v) :=
 fun _ _ _ H _ I h=>r8 I hg hm hv ⟨v,H,I,r,h⟩ hn hd
variable{a b:Expr}{ta tb:TE}{pos:Pos}
def PC(X:Cx)(op:CmpOp)(a b:Expr)(t:TE):Prop :=
 ∀(pins:List (HW×Obj)) (s:HZ) (σ:St) (H:Hp) (Q:VK),Inv X pins σ H s->t σ H Q->
   IB (ID X.prog X.w) X.A (eval a X.env) (fun v s₁=>IB (ID X.prog X.w) X.A (eval b X.env) (fun u s₂=>IB (ID X.prog X.w) X.A (IM op v u) (EP X pins σ Q) X.xe s₂) X.xe s₁) X.xe s
def tB(t:TE):TT:=fun σ H Q=>t σ H fun x H1=>∃c,x=.bl c/\Q c H1
theorem a95{op:CmpOp}{t:TE}(h:PC X op a b t)(h1:IS op b=false:=by first|exact nobehind _ (by decide) (by decide)|rfl):PE X (.Compare a [op] [b] pos) t:=fun pins s σ H Q I hw=>wpAny_Compare1 (h pins s σ H Q I hw) h1
theorem lq{e:Expr}{t:TE}(h:PE X e t)(he:∀whole,isTrue e X.env whole=(do let v<-whole;standAt e.pos;holding [v] (truthy v)):=by intro _;rfl):PT X e (tB t):=by
 intro pins s σ H Q I hw;refine isTrue_plain (thn (h pins s σ H _ I hw) fun v s1 ⟨x,H1,I1,r1,q1⟩=>?_) (he _);obtain⟨d,rfl,q⟩:=q1;cases r1;exact Cd ⟨H1,I1,q⟩
variable{tA tB':TT}{rest:List Expr}
def tAnd(t u:TT):TT:=fun σ H Q=>t σ H fun c H1=>if c=true then u σ H1 Q else Q false H1
def tOr(t u:TT):TT:=fun σ H Q=>t σ H fun c H1=>if c=true then Q true H1 else u σ H1 Q
def tNot(t:TT):TT:=fun σ H Q=>t σ H fun c H1=>Q (!c) H1
theorem a8f(ha:PT X a tA):PW X (.BoolOp .And [a] pos) tA:=by
 intro wh pins s σ H Q I h;refine isTrue_and (thn (ha pins s σ H Q I h) fun c s1 e=>?_);cases c with
 | true=>exact isTrue_and_nil e
 | false=>exact e
theorem lg(ha:PT X a tA):PW X (.BoolOp .Or [a] pos) tA:=by
 intro wh pins s σ H Q I h;refine isTrue_or (thn (ha pins s σ H Q I h) fun c s1 e=>?_);cases c with
 | false=>exact isTrue_or_nil e
 | true=>exact e
theorem a94(ha:PT X a tA)(hb:PW X (.BoolOp .And (b::rest) pos) tB'):PW X (.BoolOp .And (a::b::rest) pos) (tAnd tA tB'):=by
 intro wh pins s σ H Q I h;refine isTrue_and (thn (ha pins s σ H _ I h) fun c s1 ⟨H1,I1,q1⟩=>?_);cases c with
 | true=>exact hb wh pins s1 σ H1 Q I1 q1
 | false=>exact⟨H1,I1,q1⟩
theorem lz(ha:PT X a tA)(hb:PW X (.BoolOp .Or (b::rest) pos) tB'):PW X (.BoolOp .Or (a::b::rest) pos) (tOr tA tB'):=by
 intro wh pins s σ H Q I h;refine isTrue_or (thn (ha pins s σ H _ I h) fun c s1 ⟨H1,I1,q1⟩=>?_);cases c with
 | true=>exact⟨H1,I1,q1⟩
 | false=>exact hb wh pins s1 σ H1 Q I1 q1
theorem ln(ha:PT X a tA):PT X (.UnaryOp .Not a pos) (tNot tA):=by
 intro pins s σ H Q I h;exact isTrue_not (ha pins s σ H (fun c H1=>Q (!c) H1) I h)
def a7s(ta tb:TE):TE:=fun σ H Q=>ta σ H fun x H1=>∃c,x=.bl c/\if c=true then tb σ H1 Q else Q (.bl false) H1
def tOrV(ta tb:TE):TE:=fun σ H Q=>ta σ H fun x H1=>∃c,x=.bl c/\if c=true then Q (.bl true) H1 else tb σ H1 Q
theorem pg{op}{t:TE}(h:PE X a t):PE X (.BoolOp op [a] pos) t:=fun pins s σ H Q I hw=>BoolOp_one (h pins s σ H Q I hw)
theorem a0c(ha:PE X a ta)(hb:PE X (.BoolOp .And (b::rest) pos) tb):PE X (.BoolOp .And (a::b::rest) pos) (a7s ta tb):=by
 intro pins s σ H Q I h;refine BoolOp_and (thn (ha pins s σ H _ I h) fun v s1 ⟨x,H1,I1,r1,q1⟩=>?_);obtain⟨c,rfl,q1⟩:=q1;cases r1;refine Cd ?_;cases c with
 | true=>exact hb pins s1 σ H1 Q I1 q1
 | false=>exact⟨.bl false,H1,I1,rfl,q1⟩
theorem a3z(ha:PE X a ta)(hb:PE X (.BoolOp .Or (b::rest) pos) tb):PE X (.BoolOp .Or (a::b::rest) pos) (tOrV ta tb):=by
 intro pins s σ H Q I h;refine BoolOp_or (thn (ha pins s σ H _ I h) fun v s1 ⟨x,H1,I1,r1,q1⟩=>?_);obtain⟨c,rfl,q1⟩:=q1;cases r1;refine Cd ?_;cases c with
 | false=>exact hb pins s1 σ H1 Q I1 q1
 | true=>exact⟨.bl true,H1,I1,rfl,q1⟩
def tIf(t:TT)(ta tb:TE):TE:=fun σ H Q=>t σ H fun c H1=>if c=true then ta σ H1 Q else tb σ H1 Q
theorem a6k{c:Expr}(hc:PT X c tA)(ha:PE X a ta)(hb:PE X b tb):PE X (.IfExp c a b pos) (tIf tA ta tb):=by
 intro pins s σ H Q I h;refine wpAny_IfExp (thn (hc pins s σ H _ I h) fun d s1 ⟨H1,I1,q1⟩=>?_);cases d with
 | true=>exact ha pins s1 σ H1 Q I1 q1
 | false=>exact hb pins s1 σ H1 Q I1 q1
end
def SqL(K:Ac)(H:Hp)(a:HW)(xs:List V):Prop :=
 Rd H a (.lst xs)\/
  ∃(o:Obj) (its:Array HX) (n:Nat),K.lookup a=some o/\o.cls=.type "list" /\ o.dict=none/\o.data=.seq its n/\its.size<=HY/\Vals xs its.toList
def SqT(K:Ac)(H:Hp)(a:HW)(xs:List V):Prop :=
 Rd H a (.tup xs)\/
  ∃(o:Obj) (its:Array HX) (n:Nat),K.lookup a=some o/\o.cls=.type "tuple" /\ o.data=.seq its n/\its.size<=HY/\Vals xs its.toList
def absV:HX->Option V
 | .none=>some .non
 | .bool b=>some (.bl b)
 | .int i _=>some (.int i)
 | .str x _=>some (.str x)
 | .bytes b _=>some (.byt b)
 | .float b _=>some (.flt b)
 | .ref a=>some (.ref a)
 | .type n=>some (.ty n)
 | _=>none
theorem RelV.abs{x:V}{u:HX}(r:RelV x u):absV u=some x:=by
 cases x with
 | non=>cases r;rfl
 | bl _=>cases r;rfl
 | int _=>obtain⟨t,rfl⟩:=r;rfl
 | str _=>obtain⟨t,rfl⟩:=r;rfl
 | byt _=>obtain⟨t,rfl⟩:=r;rfl
 | flt _=>obtain⟨t,rfl⟩:=r;rfl
 | ref _=>cases r;rfl
 | ty _=>cases r;rfl
theorem RelV.inj{x y:V}{u:HX}(r:RelV x u)(q:RelV y u):x=y:=Ay (r.abs.symm.trans q.abs)
theorem Vals.inj:∀{xs ys:List V}{us:List HX},Vals xs us->Vals ys us->xs=ys
 | _,_,_,.nil,.nil=>rfl
 | _,_,_,.cons r t,.cons r' t'=>by rw[r.inj r',Vals.inj t t']
section
variable{X:Cx}{pins:List (HW×Obj)}{σ:St}{H:Hp}{s:HZ}{a:HW}{xs ys:List V}
theorem SqL.of{K:Ac}(h:H a=some (.lst xs)):SqL K H a xs:=.inl (.inl h)
theorem SqT.of{K:Ac}(h:H a=some (.tup xs)):SqT K H a xs:=.inl (.inl h)
theorem Inv.list(I:Inv X pins σ H s)(h:SqL X.K H a xs):∃its:List HX,Vals xs its/\PlainL s.heap a its.toArray/\xs.length<=HY:=by
 rcases h with h|⟨o,its,n,hk,hc,hd,hs,hz,r⟩
 . obtain⟨z,its,n,r,e⟩:=h.ok I.hok;exact⟨its,r,⟨_,n,e,rfl,rfl,rfl⟩,z⟩
 . refine⟨its.toList,r,⟨o,n,I.kIn a o hk,hc,hd,by simpa using hs⟩,?_⟩;have e:=r.length;simp only[Bp] at e;omega
theorem Inv.tuple(I:Inv X pins σ H s)(h:SqT X.K H a xs):∃its:List HX,Vals xs its/\IsTup s.heap a its.toArray/\xs.length<=HY:=by
 rcases h with h|⟨o,its,n,hk,hc,hs,hz,r⟩
 . obtain⟨z,its,r,p⟩:=h.ok I.hok;exact⟨its,r,p,z⟩
 . refine⟨its.toList,r,⟨o,I.kIn a o hk,hc,n,by simpa using hs⟩,?_⟩;have e:=r.length;simp only[Bp] at e;omega
theorem Inv.list_inj(I:Inv X pins σ H s)(h:SqL X.K H a xs)(h':SqL X.K H a ys):xs=ys:=by
 obtain⟨its,r,⟨o,n,e,_,_,d⟩,_⟩:=I.list h;obtain⟨its',r',⟨o',n',e',_,_,d'⟩,_⟩:=I.list h';rw[e] at e';cases e';rw[d] at d';injection d' with d1 _;have:its=its':=by simpa using congrArg HF d1
 subst this;exact r.inj r'
theorem Inv.tuple_inj(I:Inv X pins σ H s)(h:SqT X.K H a xs)(h':SqT X.K H a ys):xs=ys:=by
 obtain⟨its,r,⟨o,e,_,n,d⟩,_⟩:=I.tuple h;obtain⟨its',r',⟨o',e',_,n',d'⟩,_⟩:=I.tuple h';rw[e] at e';cases e';rw[d] at d';injection d' with d1 _;have:its=its':=by simpa using congrArg HF d1
 subst this;exact r.inj r'
end
abbrev Cx.wish(X:Cx)(E:HX->HZ->Prop):Cx:={X with xe:=E}
abbrev Cx.nox(X:Cx):Cx:=X.wish fun _ _=>False
theorem Cx.Ok.wish{X:Cx}(ok:X.Ok)(E:HX->HZ->Prop):(X.wish E).Ok :=
 ⟨ok.mod,ok.kind,ok.glob,ok.blt,ok.above,ok.inj,ok.has,ok.cab,ok.hd,ok.frames,ok.stk,ok.exf,ok.bs,ok.bsz,ok.noex,ok.exfs,ok.funs,ok.frf⟩
theorem Cx.Ok.unwish{X:Cx}{E:HX->HZ->Prop}(ok:(X.wish E).Ok):X.Ok :=
 ⟨ok.mod,ok.kind,ok.glob,ok.blt,ok.above,ok.inj,ok.has,ok.cab,ok.hd,ok.frames,ok.stk,ok.exf,ok.bs,ok.bsz,ok.noex,ok.exfs,ok.funs,ok.frf⟩
section
variable{X:Cx}{pins:List (HW×Obj)}{σ:St}{H:Hp}{s:HZ}{E:HX->HZ->Prop}
theorem Inv.wish(I:Inv X pins σ H s)(E:HX->HZ->Prop):Inv (X.wish E) pins σ H s:=⟨I.ok.wish E,I.os,I.bare,I.base,I.loc,I.cell,I.free,I.freeC,I.pin,I.hok,I.len⟩
theorem Inv.unwish(I:Inv (X.wish E) pins σ H s):Inv X pins σ H s:=⟨I.ok.unwish,I.os,I.bare,I.base,I.loc,I.cell,I.free,I.freeC,I.pin,I.hok,I.len⟩
theorem SP.unwish{D:Ends}{f:Flow}{s':HZ}(h:SP (X.wish E) pins D f s'):SP X pins D f s':=by
 cases f with
 | next=>obtain⟨σ',H',I,q⟩:=h;exact⟨σ',H',I.unwish,q⟩
 | brk=>obtain⟨σ',H',I,q⟩:=h;exact⟨σ',H',I.unwish,q⟩
 | cont=>obtain⟨σ',H',I,q⟩:=h;exact⟨σ',H',I.unwish,q⟩
 | ret u=>obtain⟨v,σ',H',I,r,q⟩:=h;exact⟨v,σ',H',I.unwish,r,q⟩
theorem PSs.nox{st:List IP}{t:TS}(h:PSs X.nox st t):PSs X st t:=fun pins s σ H D I hw =>
 BH (h pins s σ H D (I.wish _) hw) (fun _ _ q=>q.unwish) fun _ _ z=>CD z
end
section
variable{X:Cx}{st:IP}{rest:List IP}{t u:TS}{e:Expr}{te:TE}{pos:Pos}
def a3e:TS:=fun D σ H=>D.nx σ H
def tSeq(t u:TS):TS:=fun D σ H=>t {D with nx:=u D} σ H
theorem i7:PSs X [] a3e:=fun _ _ σ H _ I h=>EV ⟨σ,H,I,h⟩
theorem fq(h1:PS X st t)(h2:PSs X rest u):PSs X (st::rest) (tSeq t u):=by
 intro pins s σ H D I h;refine Gz (thn (h1 pins s σ H {D with nx:=u D} I h) fun f s1 q=>?_);cases f with
 | next =>
  obtain⟨σ',H',I',q⟩:=q;exact h2 pins s1 σ' H' D I' q
 | ret v=>exact q
 | brk=>exact q
 | cont=>exact q
theorem dk(h1:PS X st t):PSs X [st] t:=by
 intro pins s σ H D I h;refine Gz (thn (h1 pins s σ H D I h) fun f s1 q=>?_);cases f with
 | next=>exact EV q
 | ret v=>exact q
 | brk=>exact q
 | cont=>exact q
theorem Inv.quiet{pins:List (HW×Obj)}{σ:St}{H:Hp}{s:HZ}(I:Inv X pins σ H s):interactive X.env=false:=by simp[interactive,I.ok.kind]
def a2w(te:TE):TS:=fun D σ H=>te σ H fun _ H1=>D.nx σ H1
theorem a1q(he:PE X e te)(hs:Ie e none pos.line X.env=pure false:=by rfl):PS X (.Expr e pos) (a2w te):=by
 intro pins s σ H D I h;exact wpAny_Expr_any (thn (he pins s σ H _ I h) fun v s1 ⟨x,H1,I1,r1,q1⟩=>⟨σ,H1,I1,q1⟩) I.quiet hs
def tRet(te:TE):TS:=fun D σ H=>te σ H D.rt
theorem fk(he:PE X e te):PS X (.Return (some e) pos) (tRet te):=by
 intro pins s σ H D I h;exact wpAny_Return_some (thn (he pins s σ H _ I h) fun v s1 ⟨x,H1,I1,r1,q1⟩=>⟨x,σ,H1,I1,r1,q1⟩)
def tIfS(c:TT)(t u:TS):TS:=fun D σ H=>c σ H fun b H1=>if b=true then t D σ H1 else u D σ H1
theorem kj{c:Expr}{a b:List IP}{tc:TT}(hc:PT X c tc)(ha:PSs X a t)(hb:PSs X b u):PS X (.If c a b pos) (tIfS tc t u):=by
 intro pins s σ H D I h;refine wpAny_If (thn (hc pins s σ H _ I h) fun d s1 ⟨H1,I1,q1⟩=>?_);cases d with
 | true=>exact ha pins s1 σ H1 D I1 q1
 | false=>exact hb pins s1 σ H1 D I1 q1
end
abbrev TG:=V->St->Hp->(St->Hp->Prop)->Prop
abbrev TGs:=List V->St->Hp->(St->Hp->Prop)->Prop
def PG(X:Cx)(target:Expr)(t:TG):Prop :=
 ∀(pins:List (HW×Obj)) (s:HZ) (σ:St) (H:Hp) (v:V) (u:HX) (Q:St->Hp->Prop),Inv X pins σ H s->RelV v u->t v σ H Q->
   IB (ID X.prog X.w) X.A (assign target X.env u) (fun _ s'=>∃σ' H',Inv X pins σ' H' s'/\Q σ' H') X.xe s
def PGs(X:Cx)(ts:List Expr)(t:TGs):Prop :=
 ∀(pins:List (HW×Obj)) (s:HZ) (σ:St) (H:Hp) (vs:List V) (us:List HX) (Q:St->Hp->Prop),Inv X pins σ H s->Vals vs us->t vs σ H Q->
   IB (ID X.prog X.w) X.A (assignInOrder ((IG ts X.env).map (·.2)) us) (fun _ s'=>∃σ' H',Inv X pins σ' H' s'/\Q σ' H') X.xe s
abbrev TSet:=V->V->V->Hp->(Hp->Prop)->Prop
def PSet(X:Cx)(t:TSet):Prop :=
 ∀(pins:List (HW×Obj)) (s:HZ) (σ:St) (H:Hp) (o i v:V) (ov iv u:HX) (Q:Hp->Prop),Inv X pins σ H s->RelV o ov->RelV i iv->RelV v u->t o i v H Q->
   IB (ID X.prog X.w) X.A (setItem ov iv u) (fun _ s'=>∃H',Inv X pins σ H' s'/\Q H') X.xe s
section
variable{X:Cx}{pos:Pos}
def bp(i:Nat):TG:=fun v σ H Q=>Q (σ.set i (some v)) H
theorem pf{i:Nat}{x:Str}(hN:X.N.Nodup)(hi:X.N[i]?=some x)(hx:Loc X.env.scope x)(hf:X.fn x=true\/X.env.scope.names.lookup x=some .local:=by first|exact .inl rfl|exact .inr rfl|assumption):PG X (.Name x pos) (bp i):=by
 intro pins s σ H v u Q I r h;exact E1 (uf I hN hi hx r (fun s' I'=>⟨_,H,I',h⟩) hf)
def gNil:TGs:=fun vs σ H Q=>vs=[]/\Q σ H
def il(t:TG)(u:TGs):TGs:=fun vs σ H Q=>∃v r,vs=v::r/\t v σ H fun σ' H'=>u r σ' H' Q
theorem sf:PGs X [] gNil:=by
 intro pins s σ H vs us Q I r h;obtain⟨e,h⟩:=h;subst e;cases r;exact assignInOrder_nil ⟨σ,H,I,h⟩
theorem fc{e:Expr}{es:List Expr}{t:TG}{u:TGs}(h1:PG X e t)(h2:PGs X es u)(hs:(IG (e::es) X.env).map (·.2)=assign e X.env::(IG es X.env).map (·.2):=by rfl):PGs X (e::es) (il t u):=by
 intro pins s σ H vs us Q I r h;obtain⟨v,vr,e1,h⟩:=h;subst e1;cases r with
 | cons r rr =>
  rw[hs];refine assignInOrder_cons (thn (h1 pins s σ H _ _ _ I r h) fun _ s1 ⟨σ1,H1,I1,q1⟩=>?_);exact h2 pins s1 σ1 H1 _ _ Q I1 rr q1
def gTup(K:Ac)(n:Nat)(t:TGs):TG:=fun v σ H Q=>∃a xs,v=.ref a/\SqT K H a xs/\xs.length=n/\t xs σ H Q
theorem v7{es:List Expr}{k:Nat}{t:TGs}{n:Nat}(hc:X.calm=true)(h:PGs X es t)(hn:(IG es X.env).length=n:=by rfl)(hst:(IG es X.env).findIdx? (·.1)=none:=by rfl):PG X (.Tuple es k pos) (gTup X.K n t):=by
 intro pins s σ H v u Q I r hw;obtain⟨a,xs,e1,hq,hl,hw⟩:=hw;subst e1;cases r;obtain⟨its,rv,ht,hz⟩:=I.tuple hq;refine assign_Tuple_tuple (I.ok.hd hc) ht (by simp[hn,<- hl,rv.length]) hst fun h' hx=>?_;have I1:Inv X pins σ H {s with heap:=h'}:=I.kept (t':=s.toks) fun b o e=>hx b o (AL (AC e)) e;exact h pins _ σ H xs _ Q I1 (by simpa using rv) hw
def gSub(to ti:TE)(t:TSet):TG:=fun v σ H Q=>to σ H fun o H1=>ti σ H1 fun i H2=>t o i v H2 fun H3=>Q σ H3
theorem a9l{o i:Expr}{to ti:TE}{t:TSet}(ho:PE X o to)(hi:PE X i ti)(hs:PSet X t)(ha:∀v,assign (.Subscript o i pos) X.env v=(do
 let ov<-holding [v] (eval o X.env);let iv<-holding [v,ov] (eval i X.env)
 standAt pos
 holding [v,ov,iv] (setItem ov iv v)
 release [v,ov,iv] []):=by intro _;rfl):PG X (.Subscript o i pos) (gSub to ti t):=by
 intro pins s σ H v u Q I r h;rw[ha];refine Ad (BO (thn (ho pins s σ H _ I h) fun ov s1 ⟨x,H1,I1,r1,q1⟩=>?_));refine Ad (BO (thn (hi pins s1 σ H1 _ I1 q1) fun iv s2 ⟨y,H2,I2,r2,q2⟩=>?_));refine Ad (FI (Ad (BO (thn (hs pins s2 σ H2 x y v ov iv u _ I2 r1 r2 r q2) fun _ s3 ⟨H3,I3,q3⟩=>?_))));exact wpAny_release ⟨σ,H3,I3,q3⟩
def tAsg(te:TE)(g:TG):TS:=fun D σ H=>te σ H fun x H1=>g x σ H1 D.nx
theorem a9n{tg e:Expr}{te:TE}{g:TG}(he:PE X e te)(hg:PG X tg g)(hs:swapsWithSole [tg] e pos.line X.env=pure false:=by rfl)(hw:swappedStores [tg] e X.env=pure none:=by rfl)(h1:(IG [tg] X.env).map (·.2)=[assign tg X.env]:=by rfl):PS X (.Assign [tg] e pos) (tAsg te g):=by
 intro pins s σ H D I h;refine wpAny_Assign_stores (thn (he pins s σ H _ I h) fun v s1 ⟨x,H1,I1,r1,q1⟩=>?_) hs hw;rw[h1];exact thn (hg pins s1 σ H1 x v _ I1 r1 q1) fun _ s2 q=>q
theorem a5c{i:Nat}{x:Str}{e:Expr}{te:TE}{pos':Pos}(hN:X.N.Nodup)(hi:X.N[i]?=some x)(hx:Loc X.env.scope x)(he:PE X e te)(hs:Ie e (some (.Name x pos')) pos.line X.env=pure false:=by rfl)(hf:X.fn x=true\/X.env.scope.names.lookup x=some .local:=by first|exact .inl rfl|exact .inr rfl|assumption):
 PS X (.Assign [.Name x pos'] e pos) (tAsg te (bp i)):=by
 intro pins s σ H D I h;refine wpAny_Assign_Name (thn (he pins s σ H _ I h) fun v s1 ⟨y,H1,I1,r1,q1⟩=>?_) hs;exact uf I1 hN hi hx r1 (fun s2 I2=>⟨_,H1,I2,q1⟩) hf
end
section
variable{X:Cx}{pos:Pos}
end
structure It where
 go:Nat->Hp->Prop
 yld:Nat->Hp->V->Hp->Prop
 stop:Nat->Hp->Prop
def FpOk(X:Cx)(pins:List (HW×Obj))(H:Hp)(b:HW):Prop :=
 H b=none/\b≠X.env.locals/\b∉X.fs/\(b∈X.ex\/X.s₀.heap.objs.size<=b)/\(∀x c,X.env.cells.lookup x=some c->c≠b)/\∀p∈X.pn++pins,p.1≠b
theorem Inv.fpOk{X:Cx}{pins:List (HW×Obj)}{σ:St}{H H':Hp}{s:HZ}{b:HW}(I:Inv X pins σ H s)(hb:s.heap.objs.size<=b)(hn:H' b=none):FpOk X pins H' b:=by
 refine⟨hn,BW (AH I.lt hb),I.nofs hb,.inr (Aw I.sz hb),fun x c e z=>?_,fun p hp z=>?_⟩
 . obtain⟨v,q⟩:=I.cell x c e;exact absurd (AH q.lt (by rw[z];exact hb)) (Bt _)
 . exact absurd (AH (AC (I.pin p hp).1) (by rw[z];exact hb)) (Bt _)
structure Turn(P:IC)(w:IF)(K:Ac)(tg:Expr)(J:It)(fp:List HW)(it:HW)(tn:Nat->IJ->Prop):Prop where
 mem:it∈fp
 obj:∀i h,tn i h->∀b∈fp,∃o,h.get? b=some o/\∀v,o.data≠.cell v
 keep:∀i h h',tn i h->(∀b∈fp,∀o,h.get? b=some o->h'.get? b=some o)->tn i h'
 item:∀(X:Cx),X.prog=P->X.w=w->X.K=K->X.calm=true->∀(i:Nat) (pins:List (HW×Obj)) (s:HZ) (σ:St) (H:Hp) (E:HX->HZ->Prop),Inv X pins σ H s->(∀b∈fp,FpOk X pins H b)->tn i s.heap->J.go i H->
  IB (ID P w) X.A (Ib (.ref it)) (fun r s1=>∃u,r=some u/\
   IB (ID P w) X.A (letOwnedTupleGo tg (.ref it) u) (fun _ s2=>∃x H',Inv X pins σ H' s2/\RelV x u/\J.yld i H x H'/\tn (i+1) s2.heap/\∀b∈fp,H' b=none) E s1) E s
 done:∀(X:Cx),X.prog=P->X.w=w->X.K=K->X.calm=true->∀(i:Nat) (pins:List (HW×Obj)) (s:HZ) (σ:St) (H:Hp) (E:HX->HZ->Prop),Inv X pins σ H s->(∀b∈fp,FpOk X pins H b)->tn i s.heap->J.stop i H->
  IB (ID P w) X.A (Ib (.ref it)) (fun r s1=>r=none/\Inv X pins σ H s1) E s
 self:∀(A:IK) (i:Nat) (s:HZ) (Q:HX->HZ->Prop) (E:HX->HZ->Prop),tn i s.heap->Q (.ref it) s->IB (ID P w) A (pyIter (.ref it)) Q E s
abbrev TI:=St->Hp->(It->Hp->Prop)->Prop
def PIE(X:Cx)(pins:List (HW×Obj))(σ:St)(tg:Expr)(R:It->Hp->Prop)(itv:HX)(s2:HZ):Prop :=
 ∃(it:HW) (fp:List HW) (tn:Nat->IJ->Prop) (J:It) (H':Hp),itv=.ref it/\Inv X pins σ H' s2/\Turn X.prog X.w X.K tg J fp it tn/\tn 0 s2.heap/\(∀b∈fp,FpOk X pins H' b)/\R J H'
def PI(X:Cx)(tg iter:Expr)(wi:TI):Prop :=
 ∀(pins:List (HW×Obj)) (s:HZ) (σ:St) (H:Hp) (R:It->Hp->Prop),Inv X pins σ H s->wi σ H R->
   IB (ID X.prog X.w) X.A (eval iter X.env) (fun v s1=>IB (ID X.prog X.w) X.A (pyIter v) (PIE X pins σ tg R) X.xe s1) X.xe s
theorem yp{M:Model}{A:IK}{E:HX->HZ->Prop}{s:HZ}{tg:Expr}{it:HW}{u:HX}{o:Obj}{n:String}{vs:Array HX}{Q:Unit->HZ->Prop}(ho:s.heap.get? it=some o)(hc:o.cls=.type n)(hd:o.data=.fields vs)(hn:["enumerate","zip","dict_itemiterator","dict_reverseitemiterator","odict_iterator","itertools.zip_longest","itertools.pairwise"].contains n=false)(hQ:Q () s):IB M A (letOwnedTupleGo tg (.ref it) u) Q E s:=by
 unfold letOwnedTupleGo;cases tg<;>first
  | exact Ai hQ
  | (cases u<;>first
   | exact Ai hQ
   | (refine Ad (Hf ho ?_)
      rw[hc,hd];show IB M A (if (["enumerate","zip","dict_itemiterator","dict_reverseitemiterator","odict_iterator","itertools.zip_longest","itertools.pairwise"].contains n && vs[0]?==some (Ih _))=true then _ else _) Q E s;rw[if_neg (by intro h;rw[hn,Fl] at h;cases h)];exact Ai hQ))
def Itl(K:Ac)(a:HW):It :=
 ⟨fun i H=>∃xs x,SqL K H a xs/\xs[i]?=some x,fun i H x H'=>H'=H/\∀xs,SqL K H a xs->xs[i]?=some x,fun i H=>∃xs,SqL K H a xs/\xs.length<=i⟩
def Itt(K:Ac)(a:HW):It :=
 ⟨fun i H=>∃xs x,SqT K H a xs/\xs[i]?=some x,fun i H x H'=>H'=H/\∀xs,SqT K H a xs->xs[i]?=some x,fun i H=>∃xs,SqT K H a xs/\xs.length<=i⟩
def Itr(lo:Int)(n:Nat):It:=⟨fun i _=>i<n,fun i H x H'=>H'=H/\x=.int (lo+i),fun i _=>n<=i⟩
theorem a5q{P:IC}{w:IF}{K:Ac}{tg:Expr}(a it:HW):Turn P w K tg (Itl K a) [it] it (fun i h=>h.IsListIter it a i) where
 mem:=by simp
 obj:=fun i h st b hb=>by
  have e:b=it:=by simpa using hb
  subst e;obtain⟨o,e,c,d⟩:=st;exact⟨o,e,fun v z=>by rw[d] at z;cases z⟩
 keep:=fun i h h' st k=>st.at fun o e=>k it (by simp) o e
 item:=by
  intro X hP hw hK hc i pins s σ H E I hf st hg;subst hP hw hK;obtain⟨xs,x,hq,hx⟩:=hg;obtain⟨its,rv,p,hz⟩:=I.list hq;obtain⟨u,hu,ru⟩:=rv.get hx;obtain⟨f0,f1,f2,f3,f4,f5⟩:=hf it (by simp);refine Fe st p.isList (x:=u) (by simpa using hu) fun h' st' sb=>?_;have I1:Inv X pins σ H {s with heap:=h'}:=I.turned (t':=s.toks) (fun b o hb e=>(sb.2 b hb).trans e) f0 f1 f3 f4 f5;obtain⟨o,e,c,d⟩:=id st';exact⟨u,rfl,yp (s:={s with heap:=h'}) e c d (by decide) ⟨x,H,I1,ru,⟨rfl,fun ys hy=>by rw[I.list_inj hy hq];exact hx⟩,st',fun b hb=>(hf b hb).1⟩⟩
 done:=by
  intro X hP hw hK hc i pins s σ H E I hf st hg;subst hP hw hK;obtain⟨xs,hq,hx⟩:=hg;obtain⟨its,rv,p,hz⟩:=I.list hq;obtain⟨f0,f1,f2,f3,f4,f5⟩:=hf it (by simp);have hl:=rv.length;exact Fm (I.ok.hd hc) st p.isList (by simp;omega) fun h' eb=>⟨rfl,I.turned (t':=s.toks) (fun b o hb e=>eb b o hb e) f0 f1 f3 f4 f5⟩
 self:=fun _ _ _ _ _ st h=>wpAny_pyIter_listiter st h
theorem a3v{P:IC}{w:IF}{K:Ac}{tg:Expr}(a it:HW):Turn P w K tg (Itt K a) [it] it (fun i h=>h.IsTupleIter it a i) where
 mem:=by simp
 obj:=fun i h st b hb=>by
  have e:b=it:=by simpa using hb
  subst e;obtain⟨o,e,c,d⟩:=st;exact⟨o,e,fun v z=>by rw[d] at z;cases z⟩
 keep:=fun i h h' st k=>st.at fun o e=>k it (by simp) o e
 item:=by
  intro X hP hw hK hc i pins s σ H E I hf st hg;subst hP hw hK;obtain⟨xs,x,hq,hx⟩:=hg;obtain⟨its,rv,p,hz⟩:=I.tuple hq;obtain⟨u,hu,ru⟩:=rv.get hx;obtain⟨f0,f1,f2,f3,f4,f5⟩:=hf it (by simp);refine wpAny_pyNext_tuple_item st (show s.heap.IsTuple a its.toArray from p) (x:=u) (by simpa using hu) fun h' st' sb=>?_;have I1:Inv X pins σ H {s with heap:=h'}:=I.turned (t':=s.toks) (fun b o hb e=>(sb.2 b hb).trans e) f0 f1 f3 f4 f5;obtain⟨o,e,c,d⟩:=id st';exact⟨u,rfl,yp (s:={s with heap:=h'}) e c d (by decide) ⟨x,H,I1,ru,⟨rfl,fun ys hy=>by rw[I.tuple_inj hy hq];exact hx⟩,st',fun b hb=>(hf b hb).1⟩⟩
 done:=by
  intro X hP hw hK hc i pins s σ H E I hf st hg;subst hP hw hK;obtain⟨xs,hq,hx⟩:=hg;obtain⟨its,rv,p,hz⟩:=I.tuple hq;obtain⟨f0,f1,f2,f3,f4,f5⟩:=hf it (by simp);have hl:=rv.length;exact wpAny_pyNext_tuple_end (I.ok.hd hc) st (show s.heap.IsTuple a its.toArray from p) (by simp;omega) fun h' eb=>⟨rfl,I.turned (t':=s.toks) (fun b o hb e=>eb b o hb e) f0 f1 f3 f4 f5⟩
 self:=fun _ _ _ _ _ st h=>wpAny_pyIter_tupleiter st h
theorem a2u{P:IC}{w:IF}{K:Ac}{tg:Expr}(it:HW)(lo:Int)(n:Nat):Turn P w K tg (Itr lo n) [it] it (fun i h=>IsRangeIter h it (lo+(i:Nat)*1) ((n:Int)-(i:Nat)) 1) where
 mem:=by simp
 obj:=fun i h st b hb=>by
  have e:b=it:=by simpa using hb
  subst e;exact⟨_,st,fun v z=>by
   have z':Data.fields _=Data.cell v:=z;cases z'⟩
 keep:=fun i h h' st k=>k it (by simp) _ st
 item:=by
  intro X hP hw hK hc i pins s σ H E I hf st hg;subst hP hw hK;obtain⟨f0,f1,f2,f3,f4,f5⟩:=hf it (by simp);have W:=Walks.range (prog:=X.prog) (w:=X.w) (I.ok.hd hc) it lo 1 n;refine W.item i s _ _ hg st fun v h' tk hv st' kk=>?_;obtain⟨t,rfl⟩:=hv;have I1:Inv X pins σ H {s with heap:=h',toks:=tk}:=I.turned (fun b o hb e=>kk b o (by simpa using hb) e) f0 f1 f3 f4 f5;refine⟨_,rfl,yp (s:={s with heap:=h',toks:=tk}) (n := "range_iterator") st' rfl rfl (by decide) ⟨.int (lo+i),H,I1,⟨t,?_⟩,⟨rfl,rfl⟩,st',fun b hb=>(hf b hb).1⟩⟩;rw[Int.mul_one]
 done:=by
  intro X hP hw hK hc i pins s σ H E I hf st hg;subst hP hw hK;obtain⟨f0,f1,f2,f3,f4,f5⟩:=hf it (by simp);exact wpAny_pyNext_range_end (I.ok.hd hc) st (by have:n<=i:=hg;omega) fun h' eb=>⟨rfl,I.turned (t':=s.toks) (fun b o hb e=>eb b o hb e) f0 f1 f3 f4 f5⟩
 self:=fun _ _ _ _ _ st h=>wpAny_pyIter_rangeiter st h
section
variable{X:Cx}{tg:Expr}
def a7e(K:Ac)(tl:TE):TI:=fun σ H R=>tl σ H fun x H1=>∃a,x=.ref a/\(∃xs,SqL K H1 a xs)/\R (Itl K a) H1
def iTup(K:Ac)(tl:TE):TI:=fun σ H R=>tl σ H fun x H1=>∃a,x=.ref a/\(∃xs,SqT K H1 a xs)/\R (Itt K a) H1
theorem p6{l:Expr}{tl:TE}(hl:PE X l tl):PI X tg l (a7e X.K tl):=by
 intro pins s σ H R I h;refine thn (hl pins s σ H _ I h) fun v s1 ⟨x,H1,I1,r1,q1⟩=>?_;obtain⟨a,e,⟨xs,hq⟩,q⟩:=q1;subst e;cases r1;obtain⟨its,rv,p,hz⟩:=I1.list hq;refine DC p.isList ?_;refine⟨s1.heap.objs.size,[s1.heap.objs.size],_,_,H1,rfl,I1.kept (t':=s1.toks) fun b o e=>Af _ e,a5q a _,⟨_,AE _ rfl,rfl,rfl⟩,fun b hb=>?_,q⟩;have e:b=s1.heap.objs.size:=by simpa using hb
 subst e;exact I1.fpOk (Ar _) (I1.hok.fresh (Ar _))
theorem mz{l:Expr}{tl:TE}(hl:PE X l tl):PI X tg l (iTup X.K tl):=by
 intro pins s σ H R I h;refine thn (hl pins s σ H _ I h) fun v s1 ⟨x,H1,I1,r1,q1⟩=>?_;obtain⟨a,e,⟨xs,hq⟩,q⟩:=q1;subst e;cases r1;obtain⟨its,rv,p,hz⟩:=I1.tuple hq;refine Ds (show s1.heap.IsTuple a its.toArray from p) ?_;refine⟨s1.heap.objs.size,[s1.heap.objs.size],_,_,H1,rfl,I1.kept (t':=s1.toks) fun b o e=>Af _ e,a3v a _,⟨_,AE _ rfl,rfl,rfl⟩,fun b hb=>?_,q⟩;have e:b=s1.heap.objs.size:=by simpa using hb
 subst e;exact I1.fpOk (Ar _) (I1.hok.fresh (Ar _))
theorem a6t{pins:List (HW×Obj)}{σ:St}{H:Hp}{s:HZ}{R:It->Hp->Prop}{E:HX->HZ->Prop}{lo hi:Int}{t u v:Tok}{tk:Nat}(I:Inv X pins σ H s)(h1 : -(2 ^ 62)<=lo)(h2:lo<2 ^ 62)(h3 : -(2 ^ 62)<=hi)(h4:hi<2 ^ 62)(q:R (Itr lo (hi-lo).toNat) H):IB (ID X.prog X.w) X.A (pyIter (.ref s.heap.objs.size)) (PIE X pins σ tg R) E {s with heap:=s.heap.push {cls:=.type "range",data:=.fields #[.int lo t,.int hi u,.int 1 v]},toks:=tk}:=by
 refine wpAny_pyIter_range (IsRange.new ..) (small_one h1 h2 h3 h4) ?_;have I1:Inv X pins σ H {s with heap:=s.heap.push {cls:=.type "range",data:=.fields #[.int lo t,.int hi u,.int 1 v]},toks:=tk}:=I.kept fun b o e=>Af _ e;refine⟨(s.heap.push {cls:=.type "range",data:=.fields #[.int lo t,.int hi u,.int 1 v]}).objs.size,[(s.heap.push {cls:=.type "range",data:=.fields #[.int lo t,.int hi u,.int 1 v]}).objs.size],_,_,H,rfl,
  I1.kept (t':=tk) fun b o e=>Af _ e,a2u _ lo (hi-lo).toNat,?_,fun b hb=>?_,q⟩
 . have e1:lo+((0:Nat):Int)*1=lo:=by simp
   have e2:(((hi-lo).toNat:Nat):Int)-((0:Nat):Int)=Builtin.Range.rangeSize lo hi 1:=by rw[rangeSize_one];split<;>omega
   show IsRangeIter _ _ (lo+((0:Nat):Int)*1) ((((hi-lo).toNat:Nat):Int)-((0:Nat):Int)) 1;rw[e1,e2];exact AE _ rfl
 . have e:b=(s.heap.push {cls:=.type "range",data:=.fields #[.int lo t,.int hi u,.int 1 v]}).objs.size:=by simpa using hb
   subst e;exact I1.fpOk (Ar _) (I1.hok.fresh (Ar _))
def a7u(ta:TA):TI:=fun σ H R=>ta σ H fun vs H1=>∃j:Int,vs=[.int j] /\ -(2 ^ 62)<=j/\j<2 ^ 62/\R (Itr 0 j.toNat) H1
theorem a4d{a:Expr}{ta:TA}{p pos:Pos}(hg:Gl X "range")(hm:X.mg "range"=none)(ha:PA X [a] ta)(hs:IH [a] X.env=[(false,eval a X.env)]:=by rfl):PI X tg (.Call (.Name "range" p) [a] [] pos) (a7u ta):=by
 intro pins s σ H R I h;refine Call_ (r8 I hg hm boot_range (Df (thn (ha pos pins s σ H _ I h) fun us s1 ⟨vs,H1,I1,r1,q1⟩=>?_) hs rfl));obtain⟨j,e,q1,q2,q⟩:=q1;subst e;cases r1 with
 | cons r rr =>
  cases rr;obtain⟨t,rfl⟩:=r;exact call_range_1 (a6t I1 (by omega) (by omega) q1 q2 (by simpa using q))
def tFor(wi:TI)(g:TG)(tb:TS):TS:=fun D σ H=>wi σ H fun J H1=>∃W:Nat->Nat->St->Hp->Prop,(∃m,W 0 m σ H1)/\∀i m σ H,W i m σ H->
 (J.stop i H/\D.nx σ H)\/(J.go i H/\∃N:St->Hp->Prop,(∀σ' H',N σ' H'->∃m',m'<m/\W (i+1) m' σ' H')/\∀x H',J.yld i H x H'->g x σ H' fun σ2 H2=>tb {D with nx:=N,ct:=N,bk:=D.nx} σ2 H2)
def ng(fp:List HW)(h:IJ):List (HW×Obj):=fp.filterMap fun b=>(h.get? b).map fun o=>(b,o)
theorem jj{fp:List HW}{h:IJ}{b:HW}{o:Obj}(hb:b∈fp)(e:h.get? b=some o):(b,o)∈ng fp h:=List.mem_filterMap.mpr ⟨b,hb,by rw[e];rfl⟩
theorem a56{fp:List HW}{h:IJ}{p:HW×Obj}(hp:p∈ng fp h):p.1∈fp/\h.get? p.1=some p.2:=by
 obtain⟨b,hb,e⟩:=List.mem_filterMap.mp hp;cases q:h.get? b with
 | none=>rw[q] at e;cases e
 | some o =>
  rw[q] at e;have e':(b,o)=p:=Ay e;subst e';exact⟨hb,q⟩
theorem Inv.pinned{pins:List (HW×Obj)}{σ:St}{H:Hp}{s:HZ}{fp:List HW}(I:Inv X pins σ H s)(hf:∀b∈fp,FpOk X pins H b)(ho:∀b∈fp,∃o,s.heap.get? b=some o/\∀v,o.data≠.cell v):Inv X (pins++ng fp s.heap) σ H s :=
 I.pins_of fun p hp=>(Aq.mp hp).elim (fun z=>I.pin p (AU _ z)) fun z=>by
  obtain⟨hb,e⟩:=a56 z;obtain⟨f0,f1,f2,_⟩:=hf p.1 hb;obtain⟨o,e',d⟩:=ho p.1 hb;rw[e] at e';cases e';exact⟨e,f0,f1,f2,d⟩
theorem Inv.unpinned{pins pl:List (HW×Obj)}{σ:St}{H:Hp}{s:HZ}(I:Inv X (pins++pl) σ H s):Inv X pins σ H s:=I.pins_of fun p hp=>I.pin p (AU _ (CC _ hp))
theorem zi{iter:Expr}{body:List IP}{wi:TI}{g:TG}{tb:TS}{pos:Pos}(hp:PassesOwn (ID X.prog X.w) X.A X.env X.xe)(hc:X.calm=true)(hi:PI X tg iter wi)(hg:PG X tg g)(hb:PSs X body tb)(hs:∀x,IL iter X.env x=pure x:=by intro _;rfl):PS X (.For tg iter body [] pos) (tFor wi g tb):=by
 intro pins s σ H D I h;refine wpAny_For (thn (hi pins s σ H _ I h) fun v s1 h1=>thn h1 fun itv s2 h2=>?_) hs;obtain⟨it,fp,tn,J,H2,e,I2,T,st2,f2,W,⟨m0,w0⟩,turn⟩:=h2;subst e;have stat:∀{H':Hp},(∀b∈fp,H' b=none)->∀b∈fp,FpOk X pins H' b:=fun hn b hb=>⟨hn b hb,(f2 b hb).2⟩
 refine codeAny_forLoop_any (fun n s'=>∃i σ' H',Inv X pins σ' H' s'/\tn i s'.heap/\(∀b∈fp,H' b=none)/\W i n σ' H') ?_ m0 ⟨0,σ,H2,I2,st2,fun b hb=>(f2 b hb).1,w0⟩;rintro n s3 ⟨i,σ3,H3,I3,st3,fr3,w3⟩;rcases turn i n σ3 H3 w3 with⟨stop,qn⟩|⟨go,N,hN,step⟩
 . refine Dm hp (thn (T.done X rfl rfl rfl hc i pins s3 σ3 H3 X.xe I3 (stat fr3) st3 stop) fun r s4 ⟨hr,I4⟩=>?_);subst hr;exact EV ⟨σ3,H3,I4,qn⟩
 . refine Dm hp (thn (T.item X rfl rfl rfl hc i pins s3 σ3 H3 X.xe I3 (stat fr3) st3 go) fun r s4 ⟨u,hr,h4⟩=>?_);subst hr;refine Dm hp (thn h4 fun _ s5 ⟨x,H5,I5,r5,y5,st5,fr5⟩=>?_);have I5':=I5.pinned (stat fr5) (T.obj _ _ st5);refine Dm hp (thn (hg _ s5 σ3 H5 x u _ I5' r5 (step x H5 y5)) fun _ s6 ⟨σ6,H6,I6,q6⟩=>?_);refine Dm hp (thn (hb _ s6 σ6 H6 _ I6 q6) fun f s7 q7=>?_);have again:∀{σ7:St} {H7:Hp},Inv X (pins++ng fp s5.heap) σ7 H7 s7->N σ7 H7->∃m,m<n/\∃i σ' H',Inv X pins σ' H' s7/\tn i s7.heap/\(∀b∈fp,H' b=none)/\W i m σ' H':=fun {σ7 H7} I7 n7=>by
    obtain⟨m',hm,w7⟩:=hN σ7 H7 n7;refine⟨m',hm,i+1,σ7,H7,I7.unpinned,T.keep _ _ _ st5 fun b hb o e=>(I7.pin (b,o) (AU _ (AU _ (jj hb e)))).1,fun b hb=>?_,w7⟩;obtain⟨o,e,d⟩:=T.obj _ _ st5 b hb;exact (I7.pin (b,o) (AU _ (AU _ (jj hb e)))).2.1
   cases f with
   | next=>obtain⟨σ7,H7,I7,n7⟩:=q7;exact again I7 n7
   | cont=>obtain⟨σ7,H7,I7,n7⟩:=q7;exact again I7 n7
   | brk=>obtain⟨σ7,H7,I7,q7⟩:=q7;exact⟨σ7,H7,I7.unpinned,q7⟩
   | ret v=>obtain⟨x7,σ7,H7,I7,r7,q7⟩:=q7;exact⟨x7,σ7,H7,I7.unpinned,r7,q7⟩
end
theorem et{K:Ac}{a:HW}{xs:List V}{g:TG}{tb:TS}{D:Ends}{σ:St}{H:Hp}(Pv:Nat->St->Hp->Prop)(h0:Pv 0 σ H)(hl:∀i σ H,i<=xs.length->Pv i σ H->SqL K H a xs)(hs:∀i x σ H,xs[i]?=some x->Pv i σ H->g x σ H fun σ2 H2=>tb {D with nx:=Pv (i+1),ct:=Pv (i+1),bk:=D.nx} σ2 H2)(hd:∀σ H,Pv xs.length σ H->D.nx σ H):
 ∃W:Nat->Nat->St->Hp->Prop,(∃m,W 0 m σ H)/\∀i m σ H,W i m σ H->
  ((Itl K a).stop i H/\D.nx σ H)\/((Itl K a).go i H/\∃N:St->Hp->Prop,(∀σ' H',N σ' H'->∃m',m'<m/\W (i+1) m' σ' H')/\∀x H',(Itl K a).yld i H x H'->g x σ H' fun σ2 H2=>tb {D with nx:=N,ct:=N,bk:=D.nx} σ2 H2):=by
 refine⟨fun i m σ H=>m=xs.length-i/\i<=xs.length/\Pv i σ H,⟨xs.length,by simp,AG _,h0⟩,?_⟩;rintro i m σ H ⟨rfl,hi,p⟩;have q:=hl i σ H hi p;by_cases hlt:i<xs.length
 . refine .inr ⟨⟨xs,xs[i],q,by simp[hlt]⟩,Pv (i+1),fun σ' H' p'=>⟨xs.length-(i+1),by omega,rfl,hlt,p'⟩,fun x H' y=>?_⟩;obtain⟨e,y⟩:=y;subst e;exact hs i x σ _ (y xs q) p
 . have e:i=xs.length:=by omega
   subst e;exact .inl ⟨⟨xs,q,Ar _⟩,hd σ H p⟩
theorem gi{lo:Int}{n:Nat}{g:TG}{tb:TS}{D:Ends}{σ:St}{H:Hp}(Pv:Nat->St->Hp->Prop)(h0:Pv 0 σ H)(hs:∀i σ H,i<n->Pv i σ H->g (.int (lo+i)) σ H fun σ2 H2=>tb {D with nx:=Pv (i+1),ct:=Pv (i+1),bk:=D.nx} σ2 H2)(hd:∀σ H,Pv n σ H->D.nx σ H):
 ∃W:Nat->Nat->St->Hp->Prop,(∃m,W 0 m σ H)/\∀i m σ H,W i m σ H->
  ((Itr lo n).stop i H/\D.nx σ H)\/((Itr lo n).go i H/\∃N:St->Hp->Prop,(∀σ' H',N σ' H'->∃m',m'<m/\W (i+1) m' σ' H')/\∀x H',(Itr lo n).yld i H x H'->g x σ H' fun σ2 H2=>tb {D with nx:=N,ct:=N,bk:=D.nx} σ2 H2):=by
 refine⟨fun i m σ H=>m=n-i/\i<=n/\Pv i σ H,⟨n,by simp,AG _,h0⟩,?_⟩;rintro i m σ H ⟨rfl,hi,p⟩;by_cases hlt:i<n
 . refine .inr ⟨hlt,Pv (i+1),fun σ' H' p'=>⟨n-(i+1),by omega,rfl,hlt,p'⟩,fun x H' y=>?_⟩;obtain⟨e,y⟩:=y;subst e y;exact hs i σ _ hlt p
 . have e:i=n:=by omega
   subst e;exact .inl ⟨Ar _,hd σ H p⟩
abbrev R2:=V->V->Hp->VK->Prop
def OpR(X:Cx)(f:HX->HX->Sem HX)(r:R2):Prop :=
 ∀(pins:List (HW×Obj)) (s:HZ) (σ:St) (H:Hp) (x y:V) (v u:HX) (Q:VK),Inv X pins σ H s->RelV x v->RelV y u->r x y H Q->
   IB (ID X.prog X.w) X.A (f v u) (EP X pins σ Q) X.xe s
def UnR(X:Cx)(f:HX->Sem HX)(r:V->Hp->VK->Prop):Prop :=
 ∀(pins:List (HW×Obj)) (s:HZ) (σ:St) (H:Hp) (x:V) (v:HX) (Q:VK),Inv X pins σ H s->RelV x v->r x H Q->
   IB (ID X.prog X.w) X.A (f v) (EP X pins σ Q) X.xe s
def dz(X:Cx)(f:HX)(r:List V->Hp->VK->Prop):Prop :=
 ∀(pins:List (HW×Obj)) (s:HZ) (σ:St) (H:Hp) (xs:List V) (us:List HX) (Q:VK),Inv X pins σ H s->Vals xs us->r xs H Q->
   IB (ID X.prog X.w) X.A (call f us) (EP X pins σ Q) X.xe s
def TruR(X:Cx)(r:V->Hp->(Bool->Hp->Prop)->Prop):Prop :=
 ∀(pins:List (HW×Obj)) (s:HZ) (σ:St) (H:Hp) (x:V) (v:HX) (Q:Bool->Hp->Prop),Inv X pins σ H s->RelV x v->r x H Q->
   IB (ID X.prog X.w) X.A (truthy v) (TP X pins σ Q) X.xe s
def tOp(r:R2)(ta tb:TE):TE:=fun σ H Q=>ta σ H fun x H1=>tb σ H1 fun y H2=>r x y H2 Q
def tUn(r:V->Hp->VK->Prop)(ta:TE):TE:=fun σ H Q=>ta σ H fun x H1=>r x H1 Q
def rI(C:Int->Int->Prop)(g:Int->Int->V):R2:=fun x y H Q=>∃i j,x=.int i/\y=.int j/\C i j/\Q (g i j) H
def rI0(g:Int->Int->V):R2:=fun x y H Q=>∃i j,x=.int i/\y=.int j/\Q (g i j) H
def rU(g:Int->V):V->Hp->VK->Prop:=fun x H Q=>∃i,x=.int i/\Q (g i) H
section
variable{X:Cx}{a b c:Expr}{ta tb tc:TE}{pos:Pos}
theorem binT(ha:PE X a ta)(hb:PE X b tb){pins:List (HW×Obj)}{s:HZ}{σ:St}{H:Hp}{R:V->V->Hp->Prop}(I:Inv X pins σ H s)(h:ta σ H fun x H1=>tb σ H1 fun y H2=>R x y H2){Q:HX->HZ->Prop}{f:HX->HX->Sem HX}(hf:∀v u s2 x y H2,Inv X pins σ H2 s2->RelV x v->RelV y u->R x y H2->IB (ID X.prog X.w) X.A (f v u) Q X.xe s2):
 IB (ID X.prog X.w) X.A (eval a X.env) (fun v s₁=>IB (ID X.prog X.w) X.A (eval b X.env) (fun u s₂=>IB (ID X.prog X.w) X.A (f v u) Q X.xe s₂) X.xe s₁) X.xe s:=by
 refine thn (ha pins s σ H _ I h) fun v s1 ⟨x,H1,I1,r1,q1⟩=>?_;refine thn (hb pins s1 σ H1 _ I1 q1) fun u s2 ⟨y,H2,I2,r2,q2⟩=>?_;exact hf v u s2 x y H2 I2 r1 r2 q2
theorem a7r{op:Operator}{r:R2}(ho:OpR X (IW op) r)(ha:PE X a ta)(hb:PE X b tb):PE X (.BinOp a op b pos) (tOp r ta tb):=by
 intro pins s σ H Q I h;exact wpAny_BinOp (binT ha hb I h fun v u s2 x y H2 I2 rx ry q=>ho pins s2 σ H2 x y v u Q I2 rx ry q)
theorem aar{op:UnaryOp}{r:V->Hp->VK->Prop}(ho:UnR X (unaryOp op) r)(ha:PE X a ta):PE X (.UnaryOp op a pos) (tUn r ta):=by
 intro pins s σ H Q I h;exact UnaryOp_ (thn (ha pins s σ H _ I h) fun v s1 ⟨x,H1,I1,r1,q1⟩=>ho pins s1 σ H1 x v Q I1 r1 q1)
theorem opI{f:HX->HX->Sem HX}{C:Int->Int->Prop}{g:Int->Int->Int}(rule:∀(i j:Int) (t u:Tok) (s:HZ) (Q:HX->HZ->Prop) (E:HX->HZ->Prop),C i j->Q (.int (g i j) s.toks) {s with toks:=s.toks+1}->IB (ID X.prog X.w) X.A (f (.int i t) (.int j u)) Q E s):
 OpR X f (rI C fun i j=>.int (g i j)):=by
 intro pins s σ H x y v u Q I rx ry h;obtain⟨i,j,rfl,rfl,hc,q⟩:=h;obtain⟨t,rfl⟩:=rx;obtain⟨t',rfl⟩:=ry;exact rule i j t t' s _ _ hc ⟨.int (g i j),H,I.tok _,⟨_,rfl⟩,q⟩
theorem opI0{f:HX->HX->Sem HX}{g:Int->Int->Int}(rule:∀(i j:Int) (t u:Tok) (s:HZ) (Q:HX->HZ->Prop) (E:HX->HZ->Prop),Q (.int (g i j) s.toks) {s with toks:=s.toks+1}->IB (ID X.prog X.w) X.A (f (.int i t) (.int j u)) Q E s):
 OpR X f (rI0 fun i j=>.int (g i j)):=by
 intro pins s σ H x y v u Q I rx ry h;obtain⟨i,j,rfl,rfl,q⟩:=h;obtain⟨t,rfl⟩:=rx;obtain⟨t',rfl⟩:=ry;exact rule i j t t' s _ _ ⟨.int (g i j),H,I.tok _,⟨_,rfl⟩,q⟩
theorem opB0{f:HX->HX->Sem HX}{g:Int->Int->Bool}(rule:∀(i j:Int) (t u:Tok) (s:HZ) (Q:HX->HZ->Prop) (E:HX->HZ->Prop),Q (.bool (g i j)) s->IB (ID X.prog X.w) X.A (f (.int i t) (.int j u)) Q E s):
 OpR X f (rI0 fun i j=>.bl (g i j)):=by
 intro pins s σ H x y v u Q I rx ry h;obtain⟨i,j,rfl,rfl,q⟩:=h;obtain⟨t,rfl⟩:=rx;obtain⟨t',rfl⟩:=ry;exact rule i j t t' s _ _ ⟨.bl (g i j),H,I,rfl,q⟩
def CDiv(i j:Int):Prop:=0<j/\j<1073741824
def CMul(i j:Int):Prop:=(-(2 ^ 64)<i/\i<2 ^ 64)\/(-(2 ^ 64)<j/\j<2 ^ 64)
theorem CMul.ok{i j:Int}(h:CMul i j):IntMulOk i j:=by
 rcases h with⟨h1,h2⟩|⟨h1,h2⟩
 . exact .of_left (intBits_le_64 h1 h2)
 . exact .of_right (intBits_le_64 h1 h2)
theorem cw:OpR X (IW .Add) (rI0 fun i j=>.int (i+j)):=opI0 fun _ _ _ _ _ _ _ q=>add_int q
theorem ja:OpR X (IW .Sub) (rI0 fun i j=>.int (i-j)):=opI0 fun _ _ _ _ _ _ _ q=>sub_int q
theorem pi:OpR X (IW .Mult) (rI CMul fun i j=>.int (i*j)):=opI fun _ _ _ _ _ _ _ hc q=>mul_int q hc.ok
theorem bt:OpR X (IW .FloorDiv) (rI CDiv fun i j=>.int (i / j)):=opI fun i j _ _ _ _ _ hc q=>by
 have h1:(0:Int)<j:=hc.1;have h2:j<1073741824:=hc.2;exact floordiv_int (by omega) (by rw[Int.fdiv_eq_ediv_of_nonneg i (by omega)];exact q) (.inl (PyProof.noPylong_small (by omega)))
theorem br:OpR X (IW .Mod) (rI (fun _ j=>0<j) fun i j=>.int (i % j)):=opI fun i j _ _ _ _ _ hc q=>by
 have h1:(0:Int)<j:=hc;exact mod_int' (by omega) (by rw[Int.fmod_eq_emod_of_nonneg i (by omega)];exact q)
theorem unI{f:HX->Sem HX}{g:Int->Int}(rule:∀(i:Int) (t:Tok) (s:HZ) (Q:HX->HZ->Prop) (E:HX->HZ->Prop),Q (.int (g i) s.toks) {s with toks:=s.toks+1}->IB (ID X.prog X.w) X.A (f (.int i t)) Q E s):
 UnR X f (rU fun i=>.int (g i)):=by
 intro pins s σ H x v Q I rx h;obtain⟨i,rfl,q⟩:=h;obtain⟨t,rfl⟩:=rx;exact rule i t s _ _ ⟨.int (g i),H,I.tok _,⟨_,rfl⟩,q⟩
theorem a4l:UnR X (unaryOp .USub) (rU fun i=>.int (-i)):=unI fun _ _ _ _ _ q=>neg_int q
end
def scal:V->V->Bool
 | .non,.non=>true|.non,.int _=>true|.int _,.non=>true|.non,.bl _=>true|.bl _,.non=>true|.non,.str _=>true|.str _,.non=>true
 | .int _,.int _=>true|.bl _,.bl _=>true|.str _,.str _=>true|.byt _,.byt _=>true
 | .int _,.str _=>true|.str _,.int _=>true|.bl _,.str _=>true|.str _,.bl _=>true
 | _,_=>false
def rEq:R2:=fun x y H Q=>scal x y=true/\Q (.bl (decide (x=y))) H
def rNe:R2:=fun x y H Q=>scal x y=true/\Q (.bl (!decide (x=y))) H
theorem a1v{i j:Int}:decide (V.int i=V.int j)=(i==j):=by
 rw[Cm];simp
theorem a4u{i j:Bool}:decide (V.bl i=V.bl j)=(i==j):=by
 rw[Cm];simp
theorem a1l{i j:Str}:decide (V.str i=V.str j)=(i==j):=by
 rw[Cm];simp
theorem a1r{i j:Array UInt8}:decide (V.byt i=V.byt j)=(i.toList==j.toList):=by
 rw[Cm];cases i;cases j;simp
section
variable{X:Cx}{a b c:Expr}{ta tb tc:TE}{pos:Pos}
theorem cm{pins:List (HW×Obj)}{σ:St}{H:Hp}{s:HZ}{Q:VK}{k k':Bool}(I:Inv X pins σ H s)(q:Q (.bl k) H)(e:k=k'):EP X pins σ Q (.bool k') s:=by
 subst e;exact⟨.bl k,H,I,rfl,q⟩
theorem bo:OpR X (IM .Eq) rEq:=by
 intro pins s σ H x y v u Q I rx ry h;obtain⟨hs,q⟩:=h;cases x with
 | non =>
  cases rx;cases y with
  | non=>cases ry;exact PySem.EqNone.eq_none_none (cm I q (by simp))
  | bl j=>cases ry;exact PySem.EqNone.eq_none_bool (cm I q (by simp))
  | int j=>obtain⟨t',rfl⟩:=ry;exact PySem.EqNone.eq_none_int (cm I q (by simp))
  | str j=>obtain⟨t',rfl⟩:=ry;exact PySem.EqNone.eq_none_str (cm I q (by simp))
  | _=>exact absurd (show false=true from hs) An
 | bl i =>
  cases rx;cases y with
  | non=>cases ry;exact PySem.EqNone.eq_bool_none (cm I q (by simp))
  | bl j=>cases ry;exact eq_bool (cm I q a4u)
  | str j=>obtain⟨t',rfl⟩:=ry;exact PySem.EqMixed.eq_bool_str (cm I q (by simp))
  | _=>exact absurd (show false=true from hs) An
 | int i =>
  obtain⟨t,rfl⟩:=rx;cases y with
  | non=>cases ry;exact PySem.EqNone.eq_int_none (cm I q (by simp))
  | int j=>obtain⟨t',rfl⟩:=ry;exact eq_int (cm I q a1v)
  | str j=>obtain⟨t',rfl⟩:=ry;exact PySem.EqMixed.eq_int_str (cm I q (by simp))
  | _=>exact absurd (show false=true from hs) An
 | str i =>
  obtain⟨t,rfl⟩:=rx;cases y with
  | non=>cases ry;exact PySem.EqNone.eq_str_none (cm I q (by simp))
  | bl j=>cases ry;exact PySem.EqMixed.eq_str_bool (cm I q (by simp))
  | int j=>obtain⟨t',rfl⟩:=ry;exact PySem.EqMixed.eq_str_int (cm I q (by simp))
  | str j=>obtain⟨t',rfl⟩:=ry;exact eq_str (cm I q a1l)
  | _=>exact absurd (show false=true from hs) An
 | byt i =>
  obtain⟨t,rfl⟩:=rx;cases y with
  | byt j=>obtain⟨t',rfl⟩:=ry;exact PySem.W.eq_bytes (cm I q a1r)
  | _=>exact absurd (show false=true from hs) An
 | _=>cases y<;>exact absurd (show false=true from hs) An
theorem jq:OpR X (IM .NotEq) rNe:=by
 intro pins s σ H x y v u Q I rx ry h;obtain⟨hs,q⟩:=h;cases x with
 | non =>
  cases rx;cases y with
  | non=>cases ry;exact PySem.EqNone.ne_none_none (cm I q (by simp))
  | bl j=>cases ry;exact PySem.EqNone.ne_none_bool (cm I q (by simp))
  | int j=>obtain⟨t',rfl⟩:=ry;exact PySem.EqNone.ne_none_int (cm I q (by simp))
  | str j=>obtain⟨t',rfl⟩:=ry;exact PySem.EqNone.ne_none_str (cm I q (by simp))
  | _=>exact absurd (show false=true from hs) An
 | bl i =>
  cases rx;cases y with
  | non=>cases ry;exact PySem.EqNone.ne_bool_none (cm I q (by simp))
  | bl j=>cases ry;exact ne_bool (cm I q (congrArg not a4u))
  | str j=>obtain⟨t',rfl⟩:=ry;exact PySem.EqMixed.ne_bool_str (cm I q (by simp))
  | _=>exact absurd (show false=true from hs) An
 | int i =>
  obtain⟨t,rfl⟩:=rx;cases y with
  | non=>cases ry;exact PySem.EqNone.ne_int_none (cm I q (by simp))
  | int j=>obtain⟨t',rfl⟩:=ry;exact ne_int (cm I q (congrArg not a1v))
  | str j=>obtain⟨t',rfl⟩:=ry;exact PySem.EqMixed.ne_int_str (cm I q (by simp))
  | _=>exact absurd (show false=true from hs) An
 | str i =>
  obtain⟨t,rfl⟩:=rx;cases y with
  | non=>cases ry;exact PySem.EqNone.ne_str_none (cm I q (by simp))
  | bl j=>cases ry;exact PySem.EqMixed.ne_str_bool (cm I q (by simp))
  | int j=>obtain⟨t',rfl⟩:=ry;exact PySem.EqMixed.ne_str_int (cm I q (by simp))
  | str j=>obtain⟨t',rfl⟩:=ry;exact ne_str (cm I q (congrArg not a1l))
  | _=>exact absurd (show false=true from hs) An
 | byt i =>
  obtain⟨t,rfl⟩:=rx;cases y with
  | byt j=>obtain⟨t',rfl⟩:=ry;exact PySem.W.ne_bytes (cm I q (congrArg not a1r))
  | _=>exact absurd (show false=true from hs) An
 | _=>cases y<;>exact absurd (show false=true from hs) An
theorem o8:OpR X (IM .Lt) (rI0 fun i j=>.bl (decide (i<j))):=opB0 fun _ _ _ _ _ _ _ q=>lt_int q
theorem yg:OpR X (IM .LtE) (rI0 fun i j=>.bl (decide (i<=j))):=opB0 fun _ _ _ _ _ _ _ q=>le_int q
theorem kg:OpR X (IM .Gt) (rI0 fun i j=>.bl (decide (j<i))):=opB0 fun _ _ _ _ _ _ _ q=>gt_int q
theorem a5k:OpR X (IM .In) (fun x y H Q=>∃i j,x=.str i/\y=.str j/\Q (.bl (!(Builtin.Str.occurrences j i 0 j.length 1).isEmpty)) H):=by
 intro pins s σ H x y v u Q I rx ry h;obtain⟨i,j,rfl,rfl,q⟩:=h;obtain⟨t,rfl⟩:=rx;obtain⟨t',rfl⟩:=ry;exact in_str (cm I q rfl)
theorem a9g:OpR X (IM .Is) (fun x y H Q=>y=.non/\Q (.bl (decide (x=.non))) H):=by
 intro pins s σ H x y v u Q I rx ry h;obtain⟨rfl,q⟩:=h;cases ry;refine is_none_gen (cm I q ?_);cases x<;>first
  | (cases rx;rfl)
  | (obtain⟨t,rfl⟩:=rx;rfl)
theorem vp:OpR X (IM .IsNot) (fun x y H Q=>y=.non/\Q (.bl (!decide (x=.non))) H):=by
 intro pins s σ H x y v u Q I rx ry h;obtain⟨rfl,q⟩:=h;cases ry;refine isnot_none_gen (cm I q ?_);cases x<;>first
  | (cases rx;rfl)
  | (obtain⟨t,rfl⟩:=rx;rfl)
theorem ay(b:Expr){op:CmpOp}(h:op≠.In:=by decide)(h2:op≠.NotIn:=by decide):IS op b=false:=by
 have e1:(op==CmpOp.In)=false:=by cases op<;>first|rfl|exact absurd rfl h
 have e2:(op==CmpOp.NotIn)=false:=by cases op<;>first|rfl|exact absurd rfl h2
 cases b<;>simp[IS,e1,e2]
theorem ku{op:CmpOp}{r:R2}(ho:OpR X (IM op) r)(ha:PE X a ta)(hb:PE X b tb)(hm:IS op b=false):PE X (.Compare a [op] [b] pos) (tOp r ta tb):=by
 intro pins s σ H Q I h;exact wpAny_Compare1 (binT ha hb I h fun v u s2 x y H2 I2 rx ry q=>ho pins s2 σ H2 x y v u Q I2 rx ry q) hm
def kq(t:TE):TT:=fun σ H Q=>t σ H fun x H'=>∃k,x=.bl k/\Q k H'
theorem gm{op:CmpOp}{r:R2}(ho:OpR X (IM op) r)(ha:PE X a ta)(hb:PE X b tb)(hm:IS op b=false):PT X (.Compare a [op] [b] pos) (kq (tOp r ta tb)):=by
 intro pins s σ H Q I h;refine wpAny_isTrue_Compare1 (thn (ha pins s σ H _ I h) fun v s1 ⟨x,H1,I1,r1,q1⟩=>thn (hb pins s1 σ H1 _ I1 q1) fun u s2 ⟨y,H2,I2,r2,q2⟩ =>
  thn (ho pins s2 σ H2 x y v u _ I2 r1 r2 q2) fun c s3 ⟨z,H3,I3,r3,k,e,q3⟩=>?_) hm
 subst e;cases r3;exact Cd ⟨H3,I3,q3⟩
def a5d(r r':R2)(ta tb tc:TE):TE:=fun σ H Q=>ta σ H fun x H1=>tb σ H1 fun y H2=>r x y H2 fun z H3=>∃k,z=.bl k/\
 (if k=true then tc σ H3 fun w' H4=>r' y w' H4 Q else Q (.bl false) H3)
theorem a77{op op':CmpOp}{r r':R2}(ho:OpR X (IM op) r)(ho':OpR X (IM op') r')(ha:PE X a ta)(hb:PE X b tb)(hc:PE X c tc)(hm:lastMarks [op,op'] [b,c]=false:=by with_unfolding_all rfl):PT X (.Compare a [op,op'] [b,c] pos) (kq (a5d r r' ta tb tc)):=by
 intro pins s σ H Q I h;refine isTrue_chain (thn (ha pins s σ H _ I h) fun v s1 ⟨x,H1,I1,r1,q1⟩=>test_link (thn (hb pins s1 σ H1 _ I1 q1) fun u s2 ⟨y,H2,I2,r2,q2⟩ =>
  thn (ho pins s2 σ H2 x y v u _ I2 r1 r2 q2) fun d s3 ⟨z,H3,I3,r3,k,e,q3⟩=>?_)) hm
 subst e;cases r3;refine Cd ?_;cases k with
 | false =>
  obtain⟨k',e',q'⟩:=q3;cases e';exact ite_ff ⟨H3,I3,q'⟩
 | true =>
  refine ite_tt (test_last (thn (hc pins s3 σ H3 _ I3 q3) fun w' s4 ⟨z',H4,I4,r4,q4⟩=>thn (ho' pins s4 σ H4 y z' u w' _ I4 r2 r4 q4) fun d' s5 ⟨z2,H5,I5,r5,k2,e2,q5⟩=>?_));subst e2;cases r5;exact Cd ⟨H5,I5,q5⟩
def TruV(K:Ac)(x:V)(H:Hp)(k:Bool):Prop :=
 match x with
 | .non=>k=false
 | .bl b=>k=b
 | .int i=>k=(i != 0)
 | .str y=>y.length<=HY/\k=((y.length:Int) != 0)
 | .byt y=>y.size<=HY/\k=((y.size:Int) != 0)
 | .ref p=>(∃xs,SqL K H p xs/\k = !xs.isEmpty)\/(∃xs,SqT K H p xs/\k = !xs.isEmpty)\/∃kvs,H p=some (.dK kvs)/\k = !kvs.isEmpty
 | _=>False
theorem a3r{κ:Type}{kvs:List (κ×V)}{vs:List (κ×HX)}(r:KV kvs vs):(!vs.isEmpty) = !kvs.isEmpty:=by
 cases r<;>rfl
theorem ut{xs:List V}{its:List HX}(r:Vals xs its):(!its.toArray.isEmpty) = !xs.isEmpty:=by
 cases r<;>simp
theorem nk:(HY:Nat)<2 ^ 63:=by rw[DH];decide
theorem a99:TruR X (fun x H Q=>∃k,TruV X.K x H k/\Q k H):=by
 intro pins s σ H x v Q I rx h;obtain⟨k,e,q⟩:=h;have hl:=nk;have hs:HY=16777216:=DH;cases x with
 | non =>
  cases rx;have e':k=false:=e;subst e';exact truthy_none ⟨H,I,q⟩
 | bl b =>
  cases rx;have e':k=b:=e;subst e';exact Cd ⟨H,I,q⟩
 | int i =>
  obtain⟨t,rfl⟩:=rx;have e':k=(i != 0):=e;subst e';exact PySem.P.truthy_int ⟨H,I,q⟩
 | str y =>
  obtain⟨t,rfl⟩:=rx;obtain⟨hy,e'⟩:y.length<=HY/\k=((y.length:Int) != 0):=e;subst e';exact PySem.P.truthy_str (by omega) ⟨H,I.tok _,q⟩
 | byt y =>
  obtain⟨t,rfl⟩:=rx;obtain⟨hy,e'⟩:y.size<=HY/\k=((y.size:Int) != 0):=e;subst e';exact PySem.W.truthy_bytes (by omega) ⟨H,I.tok _,q⟩
 | ref p =>
  cases rx;have e':(∃xs,SqL X.K H p xs/\k = !xs.isEmpty)\/(∃xs,SqT X.K H p xs/\k = !xs.isEmpty)\/∃kvs,H p=some (.dK kvs)/\k = !kvs.isEmpty:=e;rcases e' with⟨xs,hx,e'⟩|⟨xs,hx,e'⟩|⟨kvs,hx,e'⟩
  . subst e';obtain⟨its,r,pl,hz⟩:=I.list hx;have hlen:=r.length;exact wpAny_truthy_list pl.isList (by simp only[AB];omega) ⟨H,I.tok _,by rw[ut r];exact q⟩
  . subst e';obtain⟨its,r,pl,hz⟩:=I.tuple hx;have hlen:=r.length;exact truthy_tuple pl (by simp only[AB];omega) ⟨H,I.tok _,by rw[ut r];exact q⟩
  . subst e';obtain⟨hz,hS,vs,r,m⟩:kvs.length<=HY/\(p==IR)=false/\∃vs,KV kvs vs/\s.heap.DictOf (gj X.prog X.w) p vs:=I.hok p _ hx;have hlen:kvs.length=vs.length:=Ao r;exact wpAny_truthy_dict hS m (by omega) ⟨H,I.tok _,by rw[a3r r];exact q⟩
 | _=>exact (show False from e).elim
theorem a72(ha:PE X a ta)(he:∀whole,isTrue a X.env whole=(do let v<-whole;standAt a.pos;holding [v] (truthy v))):
 PT X a (fun σ H Q=>ta σ H fun x H'=>∃k,TruV X.K x H' k/\Q k H'):=by
 intro pins s σ H Q I h;exact isTrue_plain (thn (ha pins s σ H _ I h) fun v s1 ⟨x,H1,I1,r1,q1⟩=>a99 pins s1 σ H1 x v Q I1 r1 q1) (he _)
theorem ji:OpR X (IW .Add) (fun x y H Q=>∃i j,x=.str i/\y=.str j/\i.length+j.length<=HY/\Q (.str (i++j)) H):=by
 intro pins s σ H x y v u Q I rx ry h;obtain⟨i,j,rfl,rfl,hz,q⟩:=h;obtain⟨t,rfl⟩:=rx;obtain⟨t',rfl⟩:=ry;exact add_str (fun t' tk=>⟨.str (i++j),H,I.tok _,⟨_,rfl⟩,q⟩) hz
theorem qh{x:V}{us:List HX}(r:Vals [x] us):∃u,us=[u]/\RelV x u:=by
 cases r with
 | cons r1 r2=>cases r2;exact⟨_,rfl,r1⟩
theorem a7f{x y:V}{us:List HX}(r:Vals [x,y] us):∃u w',us=[u,w']/\RelV x u/\RelV y w':=by
 cases r with
 | cons r1 r2 =>
  cases r2 with
  | cons r3 r4=>cases r4;exact⟨_,_,rfl,r1,r3⟩
theorem a50(hc:X.calm=true):dz X (.builtin "max") (fun xs H Q=>∃i j,xs=[.int i,.int j]/\Q (.int (if j>i then j else i)) H):=by
 intro pins s σ H xs us Q I r h;obtain⟨i,j,rfl,q⟩:=h;obtain⟨u,w',rfl,⟨t,rfl⟩,⟨t',rfl⟩⟩:=a7f r;refine max_two_ints (I.ok.hd hc) fun h' tk k=>⟨_,H,I.kept k,?_,q⟩
 by_cases hj:j>i
 . rw[if_pos hj,if_pos hj];exact⟨_,rfl⟩
 . rw[if_neg hj,if_neg hj];exact⟨_,rfl⟩
theorem rl(hc:X.calm=true):dz X (.builtin "min") (fun xs H Q=>∃i j,xs=[.int i,.int j]/\Q (.int (if j<i then j else i)) H):=by
 intro pins s σ H xs us Q I r h;obtain⟨i,j,rfl,q⟩:=h;obtain⟨u,w',rfl,⟨t,rfl⟩,⟨t',rfl⟩⟩:=a7f r;refine min_two_ints (I.ok.hd hc) fun h' tk k=>⟨_,H,I.kept k,?_,q⟩
 by_cases hj:j<i
 . rw[if_pos hj,if_pos hj];exact⟨_,rfl⟩
 . rw[if_neg hj,if_neg hj];exact⟨_,rfl⟩
theorem zx:dz X (.type "str") (fun xs H Q=>∃i,xs=[.int i]/\i.natAbs.log2<1920/\Q (.str (toString i)) H):=by
 intro pins s σ H xs us Q I r h;obtain⟨i,rfl,hz,q⟩:=h;obtain⟨u,rfl,t,rfl⟩:=qh r;exact PySem.P.str_of_int hz ⟨.str _,H,I.tok _,⟨_,rfl⟩,q⟩
end
section
variable{prog:IC}{w:IF}{A:IK}{E:HX->HZ->Prop}{s:HZ}{K:Ac}{x dx C f:HW}{mA:Str->Option HX}{name:Str}{v:HX}
end
theorem RelO.some_of{v:V}{o:Option HX}(r:RelO (some v) o):∃u,o=some u/\RelV v u:=by
 cases o with
 | none=>exact (show False from r).elim
 | some u=>exact⟨u,rfl,r⟩
section
variable{P:IC}{w:IF}{H H':Hp}{h h':IJ}{a C dx:HW}{fs fs':List (Str×V)}
end
structure Con(K:Ac)(C:HW)(f:Str)(v:V)(u:HX):Prop where
 at_:PySem.W.findIn K (.ref C) f=some (some u)
 rel:RelV v u
 get:PySem.W.specialIn K u "__get__"=some none
 cp:PySem.W.copiedNames.contains f=false
section
variable{X:Cx}{pins:List (HW×Obj)}{σ:St}{H:Hp}{s:HZ}{a C dx:HW}{fs:List (Str×V)}{f:Str}{v:V}{A:IK}{E:HX->HZ->Prop}
end
section
variable{X:Cx}{o e value:Expr}{f:Str}{pos pos' tpos:Pos}{ta tv:TE}
end
section
variable{X:Cx}{pins:List (HW×Obj)}{σ:St}{H:Hp}{s:HZ}{A:IK}{E:HX->HZ->Prop}{Q:HX->HZ->Prop}{c:HX}{b:Bool}
end
structure Room(k:Nat)(A:IK):Prop where
 hd:A.handled=none
 dp:A.depth+3*k+5<recursionLimit
 un:A.units+16*k+200<cLine
theorem Room.mono{j k:Nat}{A:IK}(r:Room k A)(h:j<=k):Room j A:=⟨r.hd,by have:=r.dp;omega,by have:=r.un;omega⟩
theorem Room.deeper{k:Nat}{A:IK}(r:Room (k+1) A)(env:Env):Room k (A.deeper env) :=
 ⟨r.hd,by have:=r.dp;show A.depth+1+3*k+5<_;omega,by have:=r.un;show A.units+3+16*k+200<_;omega⟩
theorem Room.depth{k:Nat}{A:IK}(r:Room k A):A.depth<recursionLimit:=by have:=r.dp;omega
theorem Room.units{k:Nat}{A:IK}(r:Room k A):A.units+64<cLine:=by have:=r.un;omega
def tNil:TA:=fun _ H Q=>Q [] H
def gf(ta:TE)(tr:TA):TA:=fun σ H Q=>ta σ H fun x H1=>tr σ H1 fun xs H2=>Q (x::xs) H2
section
variable{X:Cx}{e:Expr}{es:List Expr}{te:TE}{t:TA}{pos:Pos}
theorem cf:PA X [] tNil:=fun _ _ _ _ H Q I h=>Calls.spliced_nil ⟨[],H,I,.nil,h⟩
theorem bi(ha:PE X e te)(hr:PA X es t)(hs:IH (e::es) X.env=(false,eval e X.env)::IH es X.env:=by rfl):PA X (e::es) (gf te t):=by
 intro pos pins s σ H Q I h;rw[hs];show IB _ _ (spliced ((false,eval e X.env)::IU pos (IH es X.env))) _ _ s;refine Calls.spliced_cons (thn (ha pins s σ H _ I h) fun u s1 ⟨x,H1,I1,r1,q1⟩=>?_);exact thn (hr pos pins s1 σ H1 _ I1 q1) fun us s2 ⟨xs,H2,I2,r2,q2⟩=>⟨x::xs,H2,I2,.cons r1 r2,q2⟩
def tTup(t:TA):TE:=fun σ H Q=>t σ H fun xs H1=>xs.length<=HY/\∀p,H1 p=none->Q (.ref p) (upd H1 p (.tup xs))
def tLst(t:TA):TE:=fun σ H Q=>t σ H fun xs H1=>xs.length<=HY/\∀p,H1 p=none->Q (.ref p) (upd H1 p (.lst xs))
theorem a5j{x1}(h:PA X es t):PE X (.Tuple es x1 pos) (tTup t):=by
 intro pins s σ H Q I hq;refine wpAny_Tuple_spliced (thn (h pos pins s σ H _ I hq) fun us s1 ⟨xs,H1,I1,r,z,q⟩=>⟨by rw[<- r.length];exact z,?_⟩);have hf:H1 s1.heap.objs.size=none:=I1.hok.fresh (Ar _);refine⟨.ref s1.heap.objs.size,upd H1 s1.heap.objs.size (.tup xs),I1.laid (t':=s1.toks) (fun b u e=>Af _ e) (Ar _) ?_,rfl,q _ hf⟩;exact⟨z,us,r,⟨_,AE _ rfl,rfl,_,rfl⟩⟩
theorem a09(h:PA X es t):PE X (.List es pos) (tLst t):=by
 intro pins s σ H Q I hq;refine wpAny_List_spliced (thn (h pos pins s σ H _ I hq) fun us s1 ⟨xs,H1,I1,r,z,q⟩=>⟨by rw[<- r.length];exact z,?_⟩);have hf:H1 s1.heap.objs.size=none:=I1.hok.fresh (Ar _);refine⟨.ref s1.heap.objs.size,upd H1 s1.heap.objs.size (.lst xs),I1.laid (t':=s1.toks) (fun b u e=>Af _ e) (Ar _) ?_,rfl,q _ hf⟩;exact⟨z,us,0,r,AE _ rfl⟩
end
abbrev Sp:=List V->Hp->VK->XK->Prop
abbrev CXT:=List Env->Hp->HZ->XK->HX->HZ->Prop
structure Env0(P:IC)(w:IF)(K:Ac)(mg:Str->Option HX)(base:IJ)(A:IK)(outer:List Env)(s:HZ)(H:Hp):Prop where
 frames:A.frames=some outer
 mod:Mod K mg base
 bs:∀b o,base.get? b=some o->s.heap.get? b=some o/\H b=none
 bsz:base.objs.size<=s.heap.objs.size
 funs:s.heap.FunFrames base outer
 frf:∀b∈frs outer,H b=none
 hok:HOk P w H s.heap
 bare:AllBare s.gens
def CE(outer:List Env)(P:IC)(w:IF)(H:Hp)(s:HZ)(Q:VK)(u:HX)(s':HZ):Prop :=
 ∃v H',s'.os=s.os/\AllBare s'.gens/\Un (frs outer) [] H H' s.heap s'.heap/\HOk P w H' s'.heap/\RelV v u/\Q v H'
def CR(CX:CXT)(outer:List Env)(P:IC)(w:IF)(H:Hp)(s:HZ)(Q:VK)(E:XK)(r:Result)(s':HZ):Prop :=
 match r with
 | .ok (.ret u)=>CE outer P w H s Q u s'
 | .ok _=>False
 | .error e=>CX outer H s E e s'
structure FnOk(P:IC)(w:IF)(K:Ac)(mg:Str->Option HX)(base:IJ)(CX:CXT)(k:Nat)(f:HW)(fd:II)(ps:List Str)(sp:Sp):Prop where
 len:∀vs H Q E,sp vs H Q E->vs.length=ps.length
 run:∀(A:IK) (outer:List Env) (s:HZ) (H:Hp) (args:Args) (us:List HX) (vs:List V) (Q:VK) (E:XK),Room k A->Env0 P w K mg base A outer s H->BindsTo s fd args (ps.zip us)->Vals vs us->sp vs H Q E->
  IY (ID P w) A (.call (.ref f) args) (CR CX outer P w H s Q E) s
theorem FnOk.mono{P:IC}{w:IF}{K:Ac}{mg:Str->Option HX}{base:IJ}{CX:CXT}{j k:Nat}{f:HW}{fd:II}{ps:List Str}{sp:Sp}(F:FnOk P w K mg base CX j f fd ps sp)(h:j<=k):
 FnOk P w K mg base CX k f fd ps sp:=⟨F.len,fun A outer s H args us vs Q E hr=>F.run A outer s H args us vs Q E (hr.mono h)⟩
section
variable{X:Cx}{pins:List (HW×Obj)}{σ:St}{H:Hp}{s s':HZ}
theorem Inv.env0(I:Inv X pins σ H s):Env0 X.prog X.w X.K X.mg X.base X.A X.stack s H :=
 ⟨I.ok.frames,I.ok.mod,I.bs,Aw I.ok.bsz I.sz,I.stack,I.stkFree,I.hok,I.bare⟩
theorem Inv.after{Q:VK}{u:HX}(I:Inv X pins σ H s)(h:CE X.stack X.prog X.w H s Q u s'):EP X pins σ Q u s':=by
 obtain⟨v,H',os,bare,un,hok,r,q⟩:=h;obtain⟨hh,g,d,t,os'⟩:=s';obtain rfl:os'=s.os:=os;exact⟨v,H',I.call (h':=hh) (g':=g) (d':=d) (t':=t) (ch:=[]) un hok bare (fun b z=>absurd z (by simp)),r,q⟩
end
def a3b(sp:Sp)(dvs:List V)(E:XK)(t:TA):TE:=fun σ H Q=>t σ H fun vs H1=>sp (vs++dvs) H1 Q E
def Binds(K:Ac)(fd:II)(ps:List Str)(ds:List HX):Prop :=
 ∀(s:HZ) (us:List HX),K.In s.heap->(us++ds).length=ps.length->BindsTo s fd ⟨us,[]⟩ (ps.zip (us++ds))
theorem Binds.all{K:Ac}{fd:II}{ps:List Str}(h:∀us:List HX,us.length=ps.length->bindArgs fd ⟨us,[]⟩=pure (ps.zip us)):Binds K fd ps []:=fun s us _ hl=>by
 rw[Cy] at hl |-;exact .of_eq (h us hl)
def vi(CX:CXT)(X:Cx)(E:XK):Prop:=∀(pins:List (HW×Obj)) (σ:St) (H:Hp) (s:HZ) (e:HX) (s':HZ),Inv X pins σ H s->CX X.stack H s E e s'->X.xe e s'
section
variable{X:Cx}{CX:CXT}{k:Nat}{f C:HW}{fd:II}{ps:List Str}{sp:Sp}{dvs:List V}{ds:List HX}{E:XK}{x m:Str}{p pos apos:Pos}{e o:Expr}{es:List Expr}{ta:TE}{t:TA}
theorem a9e{pins:List (HW×Obj)}{σ:St}{H:Hp}{s:HZ}{Q:VK}{us:List HX}{vs:List V}(F:FnOk X.prog X.w X.K X.mg X.base CX k f fd ps sp)(hr:Room k X.A)(hb:Binds X.K fd ps ds)(hd:Vals dvs ds)(hx:vi CX X E)(I:Inv X pins σ H s)(r:Vals vs us)(h:sp (vs++dvs) H Q E):IB (ID X.prog X.w) X.A (call (.ref f) us) (EP X pins σ Q) X.xe s:=by
 have r2:Vals (vs++dvs) (us++ds):=r.append hd;have hl:(us++ds).length=ps.length:=by rw[<- r2.length];exact F.len _ _ _ _ h
 refine Hg (CH (F.run X.A X.stack s H ⟨us,[]⟩ (us++ds) (vs++dvs) Q E hr I.env0 (hb s us I.kIn hl) r2 h) fun r s' hq=>?_);cases r with
 | error e=>exact hx pins σ H s e s' I hq
 | ok fl =>
  cases fl with
  | ret u=>exact I.after hq
  | next=>exact CD hq
  | brk=>exact CD hq
  | cont=>exact CD hq
theorem ir(F:FnOk X.prog X.w X.K X.mg X.base CX k f fd ps sp)(hr:Room k X.A)(hg:Gl X x)(hm:X.mg x=some (.ref f))(hk:Cs X.K (.ref f)=true)(hb:Binds X.K fd ps ds)(hd:Vals dvs ds)(hx:vi CX X E)(ha:PA X (e::es) t)(hdb:(x==("__debug__":Str))=false:=by decide)(he:IH (e::es) X.env=(false,eval e X.env)::IH es X.env:=by rfl)(hpl:(IU pos (IH es X.env)).any (·.1)=false:=by rfl):
 PE X (.Call (.Name x p) (e::es) [] pos) (a3b sp dvs E t):=by
 intro pins s σ H Q I h;refine En (a1w I hg hm ?_ hdb);refine PySem.W.callWith_K (h₀:=X.base) I.ok.mod.kin hk (thn (ha pos pins s σ H _ I h) fun us s1 ⟨vs,H1,I1,r,q⟩=>⟨I1.kIn,?_⟩) he hpl;exact a9e F hr hb hd hx I1 r q
end
def PK(X:Cx)(kws:List Keyword)(t:TA):Prop :=
 ∀(pos:Pos) (pins:List (HW×Obj)) (s:HZ) (σ:St) (H:Hp) (Q:List V->Hp->Prop),Inv X pins σ H s->t σ H Q->IB (ID X.prog X.w) X.A (evalAll ((Ig pos (Ic kws X.env)).map (·.2))) (AP X pins σ Q) X.xe s
section
variable{X:Cx}{CX:CXT}{k:Nat}{f C:HW}{fd:II}{ps ks:List Str}{sp:Sp}{E:XK}{x m:Str}{p pos apos kpos:Pos}{e o:Expr}{es:List Expr}{kws:List Keyword}{te ta:TE}{t tk:TA}{nm:Option Str}
variable{g:List HX->List HX->List HX}{gV:List V->List V->List V}
end
structure FnScope(N P:List Str)(sc:Scope):Prop where
 kind:sc.kind=.function
 co:sc.isCoroutine=false
 gen:sc.isGenerator=false
 nd:N.Nodup
 pre:N.take P.length=P
 par:∀x∈P,sc.names.lookup x=some .local\/sc.names.lookup x=some .cell
 nofree:∀y∈sc.names,y.2≠.free
theorem xc{kindOf:Str->Option NameKind}{x:Str}:∀{binds:List (Str×HX)}{m:Str->Option HX},(∀v,(x,v)∉binds)->bindL kindOf binds m x=m x
 | [],_,_=>rfl
 | (n,v)::r,m,h=>by
  unfold bindL;rw[xc fun w hw=>h w (Bl _ hw)];split
  . have:x≠n:=by rintro rfl;exact h v By
    simp[this]
  . rfl
theorem xx{kindOf:Str->Option NameKind}{x:Str}:∀{binds:List (Str×HX)}{m:Str->Option HX},(∀v,(x,v)∉binds)->bindC kindOf binds m x=m x
 | [],_,_=>rfl
 | (n,v)::r,m,h=>by
  unfold bindC;rw[xx fun w hw=>h w (Bl _ hw)];split
  . rfl
  . have:x≠n:=by rintro rfl;exact h v By
    simp[this]
theorem xp{kindOf:Str->Option NameKind}{x:Str}{v:HX}:∀{P:List Str}{vs:List HX}{i:Nat}{m:Str->Option HX},P.Nodup->P[i]?=some x->vs[i]?=some v->kindOf x=some .local->
 bindL kindOf (P.zip vs) m x=some v
 | [],_,_,_,_,h,_,_=>by simp at h
 | _::_,[],_,_,_,_,h,_=>by simp at h
 | p::P,w::vs,0,m,nd,h1,h2,hk=>by
  simp at h1 h2;subst h1;subst h2;show bindL kindOf ((p,w)::P.zip vs) m p=_;unfold bindL;rw[xc fun v hv=>(Cn.mp nd).1 (DS hv).1,if_pos hk];simp
 | p::P,w::vs,i+1,m,nd,h1,h2,hk=>by
  show bindL kindOf ((p,w)::P.zip vs) m x=_;unfold bindL;exact xp (i:=i) (Cn.mp nd).2 (by simpa using h1) (by simpa using h2) hk
theorem xr{kindOf:Str->Option NameKind}{x:Str}{v:HX}:∀{P:List Str}{vs:List HX}{i:Nat}{m:Str->Option HX},P.Nodup->P[i]?=some x->vs[i]?=some v->kindOf x≠some .local->
 bindC kindOf (P.zip vs) m x=some v
 | [],_,_,_,_,h,_,_=>by simp at h
 | _::_,[],_,_,_,_,h,_=>by simp at h
 | p::P,w::vs,0,m,nd,h1,h2,hk=>by
  simp at h1 h2;subst h1;subst h2;show bindC kindOf ((p,w)::P.zip vs) m p=_;unfold bindC;rw[xx fun v hv=>(Cn.mp nd).1 (DS hv).1,if_neg hk];simp
 | p::P,w::vs,i+1,m,nd,h1,h2,hk=>by
  show bindC kindOf ((p,w)::P.zip vs) m x=_;unfold bindC;exact xr (i:=i) (Cn.mp nd).2 (by simpa using h1) (by simpa using h2) hk
def me(N:List Str)(vs:List V):St:=vs.map some++AD (N.length-vs.length) none
def cxOf(CX:CXT)(P:IC)(w:IF)(K:Ac)(mg:Str->Option HX)(base:IJ)(N:List Str)(qual:Str)(scope:Scope)(f:HW)(cd:HX)(A:IK)(outer:List Env)(s:HZ)(H:Hp)(E:XK):Cx where
 prog:=P
 w:=w
 K:=K
 mg:=mg
 base:=base
 A:=A.deeper (envOfC qual scope s.heap.objs.size f cd)
 N:=N
 s₀:=s
 H₀:=H
 env:=envOfC qual scope s.heap.objs.size f cd
 outer:=outer
 stack:=envOfC qual scope s.heap.objs.size f cd::outer
 ex:=[]
 calm:=true
 fn:=fun _=>true
 pn:=[]
 xe:=fun e s'=>IB (ID P w) (A.deeper (envOfC qual scope s.heap.objs.size f cd)) (leaving (envOfC qual scope s.heap.objs.size f cd) e) (fun _ s''=>CX outer H s E e s'') (fun e' s''=>CX outer H s E e' s'') s'
theorem a04{sc:Scope}{n:Nat}{x:Str}(h:sc.names.lookup x=some .cell):∃c,(cellsFrom n sc.names []).lookup x=some c:=by
 have q:=Ff sc.names n [] (.inl h);exact Option.isSome_iff_exists.mp q
theorem a4h{CX:CXT}{P:IC}{w:IF}{K:Ac}{mg:Str->Option HX}{base:IJ}{N ps:List Str}{qual:Str}{scope:Scope}{f:HW}{cd:HX}{A:IK}{outer:List Env}{s s1:HZ}{H:Hp}{E:XK}{us:List HX}{vs:List V}(S:FnScope N ps scope)(hd:A.handled=none)(e0:Env0 P w K mg base A outer s H)(hl:vs.length=ps.length)(r:Vals vs us)(x:InCallC s s.heap.objs.size (bindL (envOfC qual scope s.heap.objs.size f cd).kindOf (ps.zip us) fun _=>none) (cellsFrom (s.heap.objs.size+1) scope.names []) (bindC (envOfC qual scope s.heap.objs.size f cd).kindOf (ps.zip us) fun _=>none) s1):
 Inv (cxOf CX P w K mg base N qual scope f cd A outer s H E) [] (me N vs) H s1:=by
 have hpl:ps.length<=N.length:=by have:=congrArg List.length S.pre;rw[AX] at this;omega
 obtain⟨h1,tk,rfl,hk⟩:=x.done;have noA:∀b:HW,b∉(cxOf CX P w K mg base N qual scope f cd A outer s H E).ex:=fun b z=>absurd (show b∈([]:List HW) from z) (by simp);refine⟨⟨e0.mod,S.kind,rfl,rfl,Ar _,fun y z c h1 h2=>?_,fun y hy=>?_,fun y c _ h=>?_,fun _=>hd,Around.frames_deeper e0.frames,.inr ⟨rfl,rfl⟩,fun b z=>absurd z (noA b),e0.bs,e0.bsz,fun b _ _=>noA b,fun b z=>absurd z (noA b),e0.funs,e0.frf⟩,
  rfl,e0.bare,Un.kept hk,⟨_,x.toInCall.ns,fun i y v h1 h2 h3=>?_⟩,fun y c h=>⟨_,x.cell y c h⟩,e0.hok.fresh (Ar _),fun y c h=>?_,fun p hp=>absurd (show p∈([]:List (HW×Obj)) from hp) (by simp),e0.hok.kept hk,?_⟩
 . exact name_of_addr x.apart (BF h1) (BF h2)
 . have hy:scope.names.lookup y=some .cell\/scope.names.lookup y=some .free:=hy;rcases hy with hy|hy
   . exact a04 hy
   . exact absurd rfl (S.nofree _ (BF hy))
 . exact B0 (x.above y c (BF h))
 . have hi:i<vs.length:=by
    unfold me at h2;by_cases hi:i<vs.length
    . exact hi
    . rw[Bw (by simpa using hi)] at h2;rw[List.getElem?_replicate] at h2;split at h2<;>cases h2
   have ha:vs[i]?=some v:=by
    unfold me at h2;rw[Bo (by simpa using hi),Ah] at h2;cases e:vs[i]? with
    | none=>rw[e] at h2;cases h2
    | some a=>rw[e] at h2;cases h2;rfl
   obtain⟨u,hu,rv⟩:=r.get ha;have hp:ps[i]?=some y:=by
    rw[<- S.pre,Dt (by omega)];exact h1
   have ndP:ps.Nodup:=by rw[<- S.pre];exact S.nd.sublist (Gh _ _)
   refine⟨u,rv,?_⟩;rcases S.par y (Ak hp) with k|k
   . exact .inl ⟨k,xp ndP hp hu k⟩
   . obtain⟨c,e⟩:=a04 (n:=s.heap.objs.size+1) k;refine .inr ⟨.inl k,c,e,?_⟩;have q:=x.cell y c e;rw[xr ndP hp hu (by show scope.names.lookup y≠_;rw[k];decide)] at q;exact q
 . exact e0.hok.fresh (B0 (x.above y c (BF h)))
 . unfold me;show _=N.length;rw[Ae,Ab,BS];omega
theorem aad{CX:CXT}{P:IC}{w:IF}{K:Ac}{mg:Str->Option HX}{base:IJ}{k:Nat}{f:HW}{name qual:Str}{params:Arguments}{body:List IP}{scope:Scope}{dV kV doc pm cdv ct oc:HX}{an od:Option HW}{osl:Array (Option HX)}{N ps:List Str}{sp:Sp}(lk:K.lookup f=some ⟨oc,od,.func (CK name qual params body scope dV kV doc pm an cdv ct),osl⟩)(hcd:Fn K cdv qual=true)(S:FnScope N ps scope)(len:∀vs H Q E,sp vs H Q E->vs.length=ps.length)(hbody:∀(A:IK) (outer:List Env) (s:HZ) (H:Hp) (vs:List V) (Q:VK) (E:XK),Room k (A.deeper (envOfC qual scope s.heap.objs.size f cdv))->sp vs H Q E->
 ∃t,PSs (cxOf CX P w K mg base N qual scope f cdv A outer s H E) body t/\t {nx:=fun _ H'=>Q .non H',rt:=Q} (me N vs) H):
 FnOk P w K mg base CX (k+1) f (CK name qual params body scope dV kV doc pm an cdv ct) ps sp:=by
 refine⟨len,fun A outer s H args us vs Q E hr e0 hb r hsp=>?_⟩;have hl:=len _ _ _ _ hsp;have KX:K.In s.heap:=e0.mod.kin.keeps fun b o e=>(e0.bs b o e).1;have lim:s.heap.NoLimit:=e0.mod.nolimit.keeps fun b o e=>(e0.bs b o e).1;have hkind:∀y∈ps.zip us,scope.names.lookup y.1=some .local\/(scope.names.lookup y.1=some .cell/\((cellsFrom (s.heap.objs.size+1) scope.names []).lookup y.1).isSome=true):=fun⟨n,v⟩ hy=>by
  rcases S.par n (DS hy).1 with q|q
  . exact .inl q
  . exact .inr ⟨q,Ff _ _ _ (.inl q)⟩
 refine codeAny_call_function hr.depth (KX _ _ lk) rfl S.co S.gen rfl (PySem.W.codeRec_of KX hcd) (hb _ _ _ _ ?_);refine wpAny_newFunctionEnv_cells S.kind hkind fun env he s1 x=>?_;subst he;refine⟨lim.keeps x.toInCall.keep,codeAny_func ?_⟩;obtain⟨t,ht,hq⟩:=hbody A outer s H vs Q E (hr.deeper _) hsp;have I:Inv (cxOf CX P w K mg base N qual scope f cdv A outer s H E) [] (me N vs) H s1:=a4h S hr.hd e0 hl r x;refine BH (ht [] s1 (me N vs) H _ I hq) (fun fl s' hs=>?_) fun e s' hs=>hs;have fin:∀{σ':St} {H':Hp} {v:V} {u:HX},Inv (cxOf CX P w K mg base N qual scope f cdv A outer s H E) [] σ' H' s'->RelV v u->Q v H'->CE outer P w H s Q u s' :=
  fun {σ' H' v u} J rv q=>⟨v,H',J.os,J.bare,J.base,J.hok,rv,q⟩
 cases fl with
 | ret u =>
  obtain⟨v,σ',H',J,rv,q⟩:=hs;exact fin J rv q
 | next =>
  obtain⟨σ',H',J,q⟩:=hs;exact fin (v:=V.non) (u:=Value.none) J rfl q
 | brk =>
  obtain⟨_,_,_,q⟩:=hs;exact CD q
 | cont =>
  obtain⟨_,_,_,q⟩:=hs;exact CD q
section
variable{X:Cx}{x:Str}{p pos:Pos}{e:Expr}{es:List Expr}{t:TA}{id T:String}{r:List V->Hp->VK->Prop}
def tCB(r:List V->Hp->VK->Prop)(t:TA):TE:=fun σ H Q=>t σ H fun vs H1=>r vs H1 Q
theorem cu(hc:dz X (.builtin id) r)(hg:Gl X x)(hm:X.mg x=none)(hv:bootBuiltins x=some (.builtin id))(ha:PA X (e::es) t)(hn:x≠"__name__" := by decide)(hdb:(x==("__debug__":Str))=false:=by decide)(he:IH (e::es) X.env=(false,eval e X.env)::IH es X.env:=by rfl)(hpl:(IU pos (IH es X.env)).any (·.1)=false:=by rfl):PE X (.Call (.Name x p) (e::es) [] pos) (tCB r t):=by
 intro pins s σ H Q I h;refine En (r8 I hg hm hv ?_ hn hdb);exact PyProof.Rows.callWith_builtin1 (thn (ha pos pins s σ H _ I h) fun us s1 ⟨vs,H1,I1,r1,q1⟩=>hc pins s1 σ H1 vs us Q I1 r1 q1) he hpl
theorem xq(hc:dz X (.type T) r)(hg:Gl X x)(hm:X.mg x=none)(hv:bootBuiltins x=some (.type T))(ha:PA X (e::es) t)(hn:x≠"__name__" := by decide)(hdb:(x==("__debug__":Str))=false:=by decide)(he:IH (e::es) X.env=(false,eval e X.env)::IH es X.env:=by rfl)(hpl:(IU pos (IH es X.env)).any (·.1)=false:=by rfl):PE X (.Call (.Name x p) (e::es) [] pos) (tCB r t):=by
 intro pins s σ H Q I h;refine En (r8 I hg hm hv ?_ hn hdb);exact Df (thn (ha pos pins s σ H _ I h) fun us s1 ⟨vs,H1,I1,r1,q1⟩=>hc pins s1 σ H1 vs us Q I1 r1 q1) he hpl
end
end L2
namespace HT
open PySem PyProof.Rows
section
open PySem.SeqAt
open PySem.AutoSeq1 (wpAny_loadPart')
open PySem.MeetsSeq PySem.MeetsSeq2 PySem.MeetsSeq3
end
section
variable{prog:IC}{w:IF}{A:IK}{E:HX->HZ->Prop}{s:HZ}
def sIx(n d:Nat):Option Int->Nat
 | none=>d
 | some v=>if v<0 then (v+(n:Int)).toNat else min v.toNat n
theorem sIx_none(n d:Nat):sIx n d none=d:=rfl
theorem sIx_nat(n d k:Nat):sIx n d (some (k:Int))=min k n:=by
 show (if (k:Int)<0 then ((k:Int)+(n:Int)).toNat else min (k:Int).toNat n)=min k n;rw[if_neg (by omega),Bh]
theorem uk(n d:Nat)(hd:d<=n)(o:Option Int):sIx n d o<=n:=by
 cases o with
 | none=>exact hd
 | some v =>
  show (if v<0 then (v+(n:Int)).toNat else min v.toNat n)<=n;by_cases hv:v<0
  . rw[if_pos hv];omega
  . rw[if_neg hv];exact Nat.min_le_right _ _
theorem a2e(v:Int)(n d:Nat):(if v<0 then max (v+(n:Int)) 0 else min v (n:Int))=((sIx n d (some v):Nat):Int):=by
 show (if v<0 then max (v+(n:Int)) 0 else min v (n:Int))=(((if v<0 then (v+(n:Int)).toNat else min v.toNat n):Nat):Int)
 by_cases hv:v<0
 . simp only[if_pos hv];omega
 . simp only[if_neg hv];omega
theorem a2x(lo hi:Option Int)(n:Nat):Do lo hi 1 (n:Int)=(((sIx n 0 lo:Nat):Int),((sIx n n hi:Nat):Int)):=by
 have h1:¬ ((1:Int)<0):=by omega
 unfold Do;simp only[h1,if_false];refine Prod.ext ?_ ?_
 . cases lo with
   | none=>rfl
   | some v=>exact a2e v n 0
 . cases hi with
   | none=>rfl
   | some v=>exact a2e v n n
theorem a3f(i j:Nat):CF (i:Int) (j:Int) 1=j-i:=by
 unfold CF;have h1:(1:Int)>0:=by omega
 simp only[h1,if_true,Int.ediv_one];split<;>omega
theorem va{v:HX}{o:Option Int}{Q:Option Int->HZ->Prop}(p:IsPart v o)(h:Q o s):IB (ID prog w) A (Builtin.Slice.slicePartIndex v) Q E s:=by
 cases p with
 | none=>exact slicePart_none h
 | int i t=>exact slicePart_int h
theorem ni{sl:HW}{vl vu:HX}{lo hi:Option Int}{n:Nat}{Q:Int×Int×Nat->HZ->Prop}(hs:s.heap.IsSliceOf sl vl vu .none)(pl:IsPart vl lo)(pu:IsPart vu hi)(h:Q (((sIx n 0 lo:Nat):Int),1,sIx n n hi-sIx n 0 lo) s):IB (ID prog w) A (Et (.ref sl) (pure (n:Int))) Q E s:=by
 obtain⟨os,hos,hcs,hds⟩:=id hs;unfold Et Builtin.Slice.sliceFields;refine Ad (Ad (BL hos hds (x:=vl) rfl (Ad (BL hos hds (x:=vu) rfl (Ad (BL hos hds (x:=.none) rfl (Ai ?_)))))));refine Ad (slicePart_none ?_);show IB _ _ (if ((1:Int)==0)=true then _ else _) _ _ s;rw[if_neg (by decide)];refine Ad (va pl (Ad (va pu (Ad (Ai ?_)))));show IB _ _ (match Do lo hi 1 (n:Int) with|(lo,hi)=>pure (lo,(1:Int),CF lo hi 1)) _ _ s;rw[a2x lo hi n];show IB _ _ (pure (((sIx n 0 lo:Nat):Int),(1:Int),CF ((sIx n 0 lo:Nat):Int) ((sIx n n hi:Nat):Int) 1)) _ _ s;rw[a3f];exact Ai h
theorem a6i(xs:Array HX)(i k:Nat):((Bg k).filterMap fun (m:Nat)=>xs[((i:Int)+(m:Int)*1).toNat]?).toArray=((xs.toList.drop i).take k).toArray:=by
 have e:(fun (m:Nat)=>xs[((i:Int)+(m:Int)*1).toNat]?)=fun m=>xs[i+m]?:=by
  funext m
  have:((i:Int)+(m:Int)*1).toNat=i+m:=by omega
  rw[this]
 rw[e];have:=pick_run xs i k;rw[FT] at this;have e2:((fun x=>xs[x]?)∘fun x=>i+x)=fun m=>xs[i+m]?:=rfl;rw[e2] at this;rw[this]
theorem getItem_tuple_cut{t sl:HW}{items:Array HX}{vl vu:HX}{lo hi:Option Int}{Q:HX->HZ->Prop}(ht:IsTup s.heap t items)(hs:s.heap.IsSliceOf sl vl vu .none)(pl:IsPart vl lo)(pu:IsPart vu hi)(hw:¬ (sIx items.size 0 lo=0/\sIx items.size items.size hi=items.size))(h:Q (.ref s.heap.objs.size) {s with heap:=s.heap.push {cls:=.type "tuple",data:=.seq ((items.toList.drop (sIx items.size 0 lo)).take (sIx items.size items.size hi-sIx items.size 0 lo)).toArray}})(hsz:items.size<=HY):IB (ID prog w) A (getItem (.ref t) (.ref sl)) Q E s:=by
 have htake:sizeOk (.seq ((items.toList.drop (sIx items.size 0 lo)).take (sIx items.size items.size hi-sIx items.size 0 lo)).toArray):=by
  show ((items.toList.drop (sIx items.size 0 lo)).take (sIx items.size items.size hi-sIx items.size 0 lo)).toArray.size<=HY;rw[AB,AX,Bi,Bp];omega
 have hj:sIx items.size items.size hi<=items.size:=uk _ _ (Ar _) hi;obtain⟨os,hos,hcs,hds⟩:=id hs;have hTs:s.TypeIs (.ref sl) "slice" := ⟨os,hos,hcs⟩
 unfold getItem
 try with_reducible refine BO ?_
 first|refine Ad (Ai ?_)|skip
 refine Ad (Gi ht.typeIs (by decide) ?_);refine Ad (B8 (name:=BP "__getitem__") ht.typeIs B7
  (BB B7 ht.typeIs entry_tuple_getitem ?_ (args_tuple_getitem _ _)))
 show IB _ _ (Eu (.ref t)>>=_) _ _ s;refine Ad (tupleItemsOf_ ht ?_);refine Ad (Da hTs ?_);rw[if_pos (by decide)];refine Ad (ni hs pl pu ?_);have hno:¬ ((((sIx items.size 0 lo:Nat):Int)==0 && (1:Int)==1 && (sIx items.size items.size hi-sIx items.size 0 lo)==items.size)=true):=by
  intro q;rw[BC,BC] at q;have q1:((sIx items.size 0 lo:Nat):Int)=0:=eq_of_beq q.1.1;have q2:sIx items.size items.size hi-sIx items.size 0 lo=items.size:=eq_of_beq q.2;exact hw ⟨by omega,by omega⟩
 show IB _ _ (if (((sIx items.size 0 lo:Nat):Int)==0 && (1:Int)==1 && (sIx items.size items.size hi-sIx items.size 0 lo)==items.size)=true then _ else _) _ _ s;rw[if_neg hno,a6i]
 first
  | exact Ad (m:=CL _) (Bm (Ai ⟨_,rfl,Ai h⟩) htake)
  | exact Ad (m:=CL _) (Bm (Ad (Ai (Ai ⟨_,rfl,Ai h⟩))) htake)
  | exact Ad (Ad (m:=CL _) (Bm (Ai (Ai ⟨_,rfl,Ai h⟩)) htake))
  | exact Ad (Ad (m:=CL _) (Bm (Ai ⟨_,rfl,Ai h⟩) htake))
end
end HT
namespace L2
open PyProof.Rows
abbrev TO:=St->Hp->(Option Int->Hp->Prop)->Prop
def PO(X:Cx)(e:Option Expr)(t:TO):Prop :=
 ∀(pins:List (HW×Obj)) (s:HZ) (σ:St) (H:Hp) (Q:Option Int->Hp->Prop),Inv X pins σ H s->t σ H Q->
   IB (ID X.prog X.w) X.A (evalPart e X.env) (fun u s'=>∃o H',Inv X pins σ H' s'/\IsPart u o/\Q o H') X.xe s
def a1m:TO:=fun _ H Q=>Q none H
def a7c(t:TE):TO:=fun σ H Q=>t σ H fun x H1=>∃i,x=.int i/\Q (some i) H1
theorem a2v{ns:List Int}:∀{us:List HX},Vals (ns.map V.int) us->IntsAre us ns:=by
 induction ns with
 | nil=>intro us r;rw[FU] at r;cases r;exact .nil
 | cons n ns ih =>
  intro us r;rw[Be] at r;cases r with
  | cons r1 r2 =>
   obtain⟨t,e⟩:=r1;subst e;exact .cons n t (ih r2)
section
variable{X:Cx}{e:Expr}{te:TE}{lo hi:Option Expr}{tl th:TO}{pos p2:Pos}
theorem pe:PO X none a1m:=by
 intro pins s σ H Q I h;rw[evalPart_none];exact Ai ⟨none,H,I,.none,h⟩
theorem pc(h:PE X e te):PO X (some e) (a7c te):=by
 intro pins s σ H Q I hw;rw[evalPart_some];refine thn (h pins s σ H _ I hw) fun u s1 ⟨x,H1,I1,r1,q1⟩=>?_;obtain⟨i,rfl,q⟩:=q1;obtain⟨t,rfl⟩:=r1;exact⟨some i,H1,I1,.int i t,q⟩
def SlR(X:Cx)(r:V->Option Int->Option Int->Hp->VK->Prop):Prop :=
 ∀(pins:List (HW×Obj)) (s:HZ) (σ:St) (H:Hp) (x:V) (v vl vu:HX) (lo hi:Option Int) (sl:HW) (Q:VK),Inv X pins σ H s->RelV x v->s.heap.IsSliceOf sl vl vu .none->IsPart vl lo->IsPart vu hi->r x lo hi H Q->
   ∃T id,typeLookup (.type T) "__getitem__"=pure (some (.builtin id))/\s.TypeIs v T/\IB (ID X.prog X.w) X.A (getItem v (.ref sl)) (EP X pins σ Q) X.xe s
def tSl(r:V->Option Int->Option Int->Hp->VK->Prop)(te:TE)(tl th:TO):TE:=fun σ H Q=>te σ H fun x H1=>tl σ H1 fun l H2=>th σ H2 fun u H3=>r x l u H3 Q
theorem nv{r:V->Option Int->Option Int->Hp->VK->Prop}(hr:SlR X r)(he:PE X e te)(hl:PO X lo tl)(hu:PO X hi th):PE X (.Subscript e (.Slice lo hi none p2) pos) (tSl r te tl th):=by
 intro pins s σ H Q I h;refine Subscript_ (thn (he pins s σ H _ I h) fun v s1 ⟨x,H1,I1,r1,q1⟩=>?_);refine wpAny_Slice (thn (hl pins s1 σ H1 _ I1 q1) fun vl s2 ⟨l,H2,I2,pl,q2⟩=>thn (hu pins s2 σ H2 _ I2 q2) fun vu s3 ⟨u,H3,I3,pu,q3⟩=>?_);rw[evalPart_none];refine Ai ?_;have I4:Inv X pins σ H3 {s3 with heap:=s3.heap.push {cls:=.type "slice",data:=.fields #[vl,vu,.none]}}:=I3.kept (t':=s3.toks) fun b ob q=>Af _ q;obtain⟨T,id,hT,ht,hg⟩:=hr pins {s3 with heap:=s3.heap.push {cls:=.type "slice",data:=.fields #[vl,vu,.none]}} σ H3 x v vl vu l u s3.heap.objs.size Q I4 r1 (Heap.IsSliceOf.new ..) pl pu q3;show IB (ID X.prog X.w) X.A (subscriptTail e (.Slice lo hi none p2) v (.ref s3.heap.objs.size)) (EP X pins σ Q) X.xe {s3 with heap:=s3.heap.push {cls:=.type "slice",data:=.fields #[vl,vu,.none]}};exact tail_any (ops:=[.ref s3.heap.objs.size,v]) ht hT hg (by with_unfolding_all rfl)
def cutV(xs:List V)(lo hi:Option Int):List V:=(xs.drop (HT.sIx xs.length 0 lo)).take (HT.sIx xs.length xs.length hi-HT.sIx xs.length 0 lo)
theorem sx(xs:List V)(lo hi:Option Int):(cutV xs lo hi).length<=xs.length:=by
 unfold cutV;rw[AX,Bi];omega
def rSlT(K:Ac):V->Option Int->Option Int->Hp->VK->Prop:=fun x lo hi H Q=>∃a xs,x=.ref a/\SqT K H a xs/\
 ¬ (HT.sIx xs.length 0 lo=0/\HT.sIx xs.length xs.length hi=xs.length)/\∀p,H p=none->Q (.ref p) (upd H p (.tup (cutV xs lo hi)))
theorem qy:SlR X (rSlT X.K):=by
 intro pins s σ H x v vl vu lo hi sl Q I rx hs pl pu h;obtain⟨a,xs,rfl,hx,hw,q⟩:=h;cases rx;obtain⟨its,r,ht,hz⟩:=I.tuple hx;have hlen:its.toArray.size=xs.length:=by rw[AB];exact r.length.symm
 refine⟨"tuple",_,B7.lookup,ht.typeIs,?_⟩;refine HT.getItem_tuple_cut ht hs pl pu (by rw[hlen];exact hw) ?_ (by rw[hlen];exact hz);rw[hlen];refine⟨.ref s.heap.objs.size,_,I.laid (t':=s.toks) (o:=.tup (cutV xs lo hi)) (fun b ob q=>Af _ q) (Ar _) ?_,rfl,q _ (I.hok.fresh (Ar _))⟩;exact⟨Aw (sx xs lo hi) hz,_,(r.drop (HT.sIx xs.length 0 lo)).take (HT.sIx xs.length xs.length hi-HT.sIx xs.length 0 lo),IsTup.new _ _⟩
end
def ixN(n:Nat)(i:Int):Option Nat:=if 0<=i then (if i<n then some i.toNat else none) else if -(n:Int)<=i then some (i+n).toNat else none
def atI{α:Type}(xs:List α)(i:Int):Option α:=(ixN xs.length i).bind fun j=>xs[j]?
theorem a1u{n:Nat}{i:Int}{j:Nat}(h:ixN n i=some j):seqIndex? i n=some j/\j<n /\ -(n:Int)<=i/\i<n:=by
 unfold ixN at h;by_cases h0:0<=i
 . rw[if_pos h0] at h;by_cases h1:i<n
   . rw[if_pos h1] at h;have e:i.toNat=j:=Ay h;exact⟨by rw[Gw h0 h1,e],by omega,by omega,h1⟩
   . rw[if_neg h1] at h;cases h
 . rw[if_neg h0] at h;by_cases h1 : -(n:Int)<=i
   . rw[if_pos h1] at h;have e:(i+n).toNat=j:=Ay h;exact⟨by rw[FV (by omega) h1,e],by omega,h1,by omega⟩
   . rw[if_neg h1] at h;cases h
theorem vw{α:Type}{xs:List α}{i:Int}{v:α}(h:atI xs i=some v):∃j,seqIndex? i xs.length=some j/\xs[j]?=some v/\j<xs.length /\ -(xs.length:Int)<=i/\i<xs.length:=by
 unfold atI at h;cases e:ixN xs.length i with
 | none=>rw[e] at h;cases h
 | some j =>
  rw[e] at h;obtain⟨h1,h2,h3,h4⟩:=a1u e;exact⟨j,h1,h,h2,h3,h4⟩
theorem dv{α:Type}{xs:List α}{j:Nat}{v:α}(h:xs[j]?=some v):atI xs (j:Int)=some v:=by
 have hj:j<xs.length:=(Av.mp h).1;have e:ixN xs.length (j:Int)=some j:=by
  unfold ixN;rw[if_pos (by omega),if_pos (by omega)];simp
 unfold atI;rw[e];exact h
def a2f(b:Expr):Prop:=∀o i,subscripted b false o i=operate [o,i] (getItem o i)
def IxR(X:Cx)(r:R2):Prop :=
 ∀(value slice:Expr) (pins:List (HW×Obj)) (s:HZ) (σ:St) (H:Hp) (x y:V) (v u:HX) (Q:VK),Inv X pins σ H s->RelV x v->RelV y u->r x y H Q->
   subscripted slice false v u=operate [v,u] (getItem v u)->IB (ID X.prog X.w) X.A (subscriptTail value slice v u) (EP X pins σ Q) X.xe s
def MtR(X:Cx)(id:String)(r:V->List V->Hp->VK->Prop):Prop :=
 ∀(pins:List (HW×Obj)) (s:HZ) (σ:St) (H:Hp) (x:V) (xs:List V) (v:HX) (us:List HX) (Q:VK),Inv X pins σ H s->RelV x v->Vals xs us->r x xs H Q->
   IB (ID X.prog X.w) X.A (call (.builtin id) (v::us)) (EP X pins σ Q) X.xe s
section
variable{X:Cx}{a b:Expr}{ta tb:TE}{pos:Pos}
theorem jr{r:R2}(hr:IxR X r)(ha:PE X a ta)(hb:PE X b tb)(hs:a2f b):PE X (.Subscript a b pos) (tOp r ta tb):=by
 intro pins s σ H Q I h;exact Subscript_ (binT ha hb I h fun v u s2 x y H2 I2 rx ry q=>hr a b pins s2 σ H2 x y v u Q I2 rx ry q (hs _ _))
def rIxL(K:Ac):R2:=fun x y H Q=>∃p xs i v,x=.ref p/\y=.int i/\SqL K H p xs/\atI xs i=some v/\Q v H
def rIxT(K:Ac):R2:=fun x y H Q=>∃p xs i v,x=.ref p/\y=.int i/\SqT K H p xs/\atI xs i=some v/\Q v H
def rIxS:R2:=fun x y H Q=>∃z i c,x=.str z/\y=.int i/\z.length<=HY/\atI z.cps.toList i=some c/\Q (.str ⟨#[c]⟩) H
theorem bc:IxR X (rIxL X.K):=by
 intro value slice pins s σ H x y v u Q I rx ry h hs;obtain⟨p,xs,i,z,rfl,rfl,hq,he,q⟩:=h;cases rx;obtain⟨t,rfl⟩:=ry;obtain⟨its,r,pl,hz⟩:=I.list hq;obtain⟨j,h1,h2,h3,h4,h5⟩:=vw he;obtain⟨w,ew,rw'⟩:=r.get h2;have hl:=r.length;have hn:=nk;have fin:EP X pins σ Q w s:=⟨z,H,I,rw',q⟩
 by_cases h0:0<=i
 . have hj:i.toNat=j:=by
    rw[Gw h0 h5] at h1;exact Ay h1
   exact item_listR pl.isList h0 (by omega) (by rw[hj];simpa using ew) fin hs
 . have hj:(i+(its.toArray.size:Int)).toNat=j:=by
    rw[FV (by omega) h4] at h1;rw[AB,<- hl];exact Ay h1
   exact subscriptTail_builtinR (x:=w) pl.isList.typeIs Gj.lookup
    (wpAny_getItem_list_neg (Q:=fun r s'=>r=w/\EP X pins σ Q r s') pl.isList (by omega) (by rw[AB]<;>omega) (by omega) (by rw[hj];simpa using ew) ⟨rfl,fin⟩) hs
theorem ao:IxR X (rIxT X.K):=by
 intro value slice pins s σ H x y v u Q I rx ry h hs;obtain⟨p,xs,i,z,rfl,rfl,hq,he,q⟩:=h;cases rx;obtain⟨t,rfl⟩:=ry;obtain⟨its,r,pl,hz⟩:=I.tuple hq;obtain⟨j,h1,h2,h3,h4,h5⟩:=vw he;obtain⟨w,ew,rw'⟩:=r.get h2;have hl:=r.length;have hn:=nk;have fin:EP X pins σ Q w s:=⟨z,H,I,rw',q⟩
 exact subscriptTail_builtinR (x:=w) pl.typeIs slot_tuple_getitem.lookup
  (getItem_tuple (j:=j) (Q:=fun r s'=>r=w/\EP X pins σ Q r s') pl (by omega) (by omega) (by rw[AB,<- hl];exact h1) (by simpa using ew) ⟨rfl,fin⟩) hs
theorem qq:IxR X rIxS:=by
 intro value slice pins s σ H x y v u Q I rx ry h hs;obtain⟨z,i,c,rfl,rfl,hz,he,q⟩:=h;obtain⟨t,rfl⟩:=rx;obtain⟨t',rfl⟩:=ry;obtain⟨j,h1,h2,h3,h4,h5⟩:=vw he;have hl:z.cps.toList.length=z.length:=by simp[FB]
 rw[hl] at h1 h4 h5;have hn:=nk;exact tail_any (FC s z t) slot_str_getitem.lookup (getItem_str (c:=c) (by
  have e1:decide (i < -(2 ^ 63:Int))=false:=decide_eq_false (by omega);have e2:decide (i >= 2 ^ 63)=false:=decide_eq_false (by omega);rw[e1,e2,Hz]) (by rw[h1];simpa using h2) ⟨.str ⟨#[c]⟩,H,I.tok _,⟨_,rfl⟩,q⟩) hs
theorem a4a(its:List HX)(n j:Nat)(u:HX):Dy (·.setIfInBounds j u) {cls:=.type "list",data:=.seq its.toArray n}={cls:=.type "list",data:=.seq (its.set j u).toArray n}:=by
 simp[Dy]
theorem Inv.lst{pins:List (HW×Obj)}{σ:St}{H:Hp}{s:HZ}{p:HW}{xs:List V}(I:Inv X pins σ H s)(h:H p=some (.lst xs)):
 ∃(its:List HX) (n:Nat),Vals xs its/\s.heap.get? p=some {cls:=.type "list",data:=.seq its.toArray n}/\xs.length<=HY:=by
 obtain⟨z,its,n,r,e⟩:=I.hok p _ h;exact⟨its,n,r,e,z⟩
theorem Inv.lstUpd{pins:List (HW×Obj)}{σ:St}{H:Hp}{s:HZ}{p:HW}{xs ys:List V}{its its':List HX}{n n':Nat}{f:Obj->Obj}(I:Inv X pins σ H s)(h:H p=some (.lst xs))(ho:s.heap.get? p=some {cls:=.type "list",data:=.seq its.toArray n})(hf:f {cls:=.type "list",data:=.seq its.toArray n}={cls:=.type "list",data:=.seq its'.toArray n'})(r:Vals ys its')(hz:ys.length<=HY)(t:Nat):
 Inv X pins σ (upd H p (.lst ys)) {s with heap:=s.heap.update p f,toks:=t}:=by
 have e:(s.heap.update p f).get? p=some {cls:=.type "list",data:=.seq its'.toArray n'}:=by
  rw[BU f ho (by rw[hf]<;>rfl),hf]
 refine I.write (x:=p) (e:=p) (by rw[h];trivial) (.inl rfl) (fun b u hb q=>(Cg _ _ (BY hb)).trans q) ⟨_,e⟩ ?_;exact⟨hz,its',n',r,e⟩
def aaj:V->V->V->Hp->(Hp->Prop)->Prop:=fun o i v H Q=>∃p xs k j,o=.ref p/\i=.int k/\H p=some (.lst xs)/\ixN xs.length k=some j/\Q (upd H p (.lst (xs.set j v)))
theorem a63:PSet X aaj:=by
 intro pins s σ H o i v ov iv u Q I ro ri rv h;obtain⟨p,xs,k,j,rfl,rfl,hp,hj,q⟩:=h;cases ro;obtain⟨t,rfl⟩:=ri;obtain⟨its,n,r,ho,hz⟩:=I.lst hp;obtain⟨h1,h2,h3,h4⟩:=a1u hj;have hl:=r.length;have hn:=nk;have I':Inv X pins σ (upd H p (.lst (xs.set j v))) {s with heap:=s.heap.update p (Dy (·.setIfInBounds j u))} :=
  I.lstUpd hp ho (a4a its n j u) (r.set rv j) (by rw[List.length_set];exact hz) s.toks
 by_cases h0:0<=k
 . have hk:k.toNat=j:=by
    rw[Gw h0 h4] at h1;exact Ay h1
   exact PySem.W.ki_setAt ho h0 (by omega) (by rw[AB,<- hl];exact h4) (by rw[hk];exact⟨_,I',q⟩)
 . have hk:(k+(its.toArray.size:Int)).toNat=j:=by
    rw[FV (by omega) h3] at h1;rw[AB,<- hl];exact Ay h1
   exact PySem.W.ki_setBack ho (by omega) (by rw[AB,<- hl];exact h3) (by omega) (by rw[hk];exact⟨_,I',q⟩)
theorem a02(lo hi:Option Int)(n:Nat):(IX lo hi none n).1=((HT.sIx n 0 lo:Nat):Int)/\(IX lo hi none n).2.1=((HT.sIx n n hi:Nat):Int)/\(IX lo hi none n).2.2=1:=by
 refine⟨?_,?_,rfl⟩
 . cases lo with
   | none=>simp[IX,HT.sIx]
   | some i =>
    simp only[IX,HT.sIx,G0,show (1:Int)>0 by decide,if_true];by_cases h:i<0
    . simp only[h,if_true]<;>omega
    . simp only[h,if_false]<;>omega
 . cases hi with
   | none=>simp[IX,HT.sIx]
   | some i =>
    simp only[IX,HT.sIx,G0,show (1:Int)>0 by decide,if_true];by_cases h:i<0
    . simp only[h,if_true]<;>omega
    . simp only[h,if_false]<;>omega
theorem y9(its:List HX)(lo hi:Option Int):slicePick its.toArray lo hi none=((its.drop (HT.sIx its.length 0 lo)).take (HT.sIx its.length its.length hi-HT.sIx its.length 0 lo)).toArray:=by
 obtain⟨h1,h2,h3⟩:=a02 lo hi its.toArray.size;unfold slicePick;rw[h1,h2,h3];simp only[sliceRange_one,pick_run,AB]<;>rfl
def rSlL(K:Ac):V->Option Int->Option Int->Hp->VK->Prop:=fun x lo hi H Q=>∃a xs,x=.ref a/\SqL K H a xs/\∀p,H p=none->Q (.ref p) (upd H p (.lst (cutV xs lo hi)))
theorem kc:SlR X (rSlL X.K):=by
 intro pins s σ H x v vl vu lo hi sl Q I rx hs pl pu h;obtain⟨a,xs,rfl,hx,q⟩:=h;cases rx;obtain⟨its,r,ht,hz⟩:=I.list hx;have hlen:=r.length;refine⟨"list",_,Gj.lookup,ht.isList.typeIs,?_⟩;refine wpAny_getItem_list_slice ht.isList hs pl pu .none (by simp) ?_ (by rw[AB]<;>omega);rw[y9,<- hlen];refine⟨.ref s.heap.objs.size,_,I.laid (t':=s.toks) (o:=.lst (cutV xs lo hi)) (fun b ob q=>Af _ q) (Ar _) ?_,rfl,q _ (I.hok.fresh (Ar _))⟩;exact⟨Aw (sx xs lo hi) hz,_,0,(r.drop (HT.sIx xs.length 0 lo)).take (HT.sIx xs.length xs.length hi-HT.sIx xs.length 0 lo),AE _ rfl⟩
def ma:V->Bool
 | .non=>true
 | .bl _=>true
 | .int _=>true
 | .str _=>true
 | _=>false
def eqV:V->V->Bool
 | .non,.non=>true
 | .bl a,.bl b=>a==b
 | .bl a,.int b=>(if a then 1 else 0)==b
 | .int a,.bl b=>a==(if b then 1 else 0)
 | .int a,.int b=>a==b
 | .str a,.str b=>a==b
 | _,_=>false
theorem a97{A:IK}{s:HZ}{y x:V}{u v:HX}(ry:RelV y u)(rx:RelV x v)(fy:ma y=true)(fx:ma x=true):HU A s u v (eqV y x):=by
 cases y with
 | non =>
  cases ry;cases x with
  | non=>cases rx;exact SeqAt.EqAt.same _
  | bl b=>cases rx;exact SeqAt.EqAt.none_bool b
  | int b=>obtain⟨t,rfl⟩:=rx;exact SeqAt.EqAt.none_int b t
  | str b=>obtain⟨t,rfl⟩:=rx;exact SeqAt.EqAt.none_str b t
  | _=>exact absurd (show false=true from fx) An
 | bl a =>
  cases ry;cases x with
  | non=>cases rx;exact SeqAt.EqAt.bool_none a
  | bl b=>cases rx;exact SeqAt.EqAt.bool_bool a b
  | int b=>obtain⟨t,rfl⟩:=rx;exact SeqAt.EqAt.bool_int a b t
  | str b=>obtain⟨t,rfl⟩:=rx;exact SeqAt.EqAt.bool_str a b t
  | _=>exact absurd (show false=true from fx) An
 | int a =>
  obtain⟨t',rfl⟩:=ry;cases x with
  | non=>cases rx;exact SeqAt.EqAt.int_none a t'
  | bl b=>cases rx;exact SeqAt.EqAt.int_bool a t' b
  | int b=>obtain⟨t,rfl⟩:=rx;exact SeqAt.EqAt.int_int a t' b t
  | str b=>obtain⟨t,rfl⟩:=rx;exact FP a t' b t
  | _=>exact absurd (show false=true from fx) An
 | str a =>
  obtain⟨t',rfl⟩:=ry;cases x with
  | non=>cases rx;exact SeqAt.EqAt.str_none a t'
  | bl b=>cases rx;exact SeqAt.EqAt.str_bool a t' b
  | int b=>obtain⟨t,rfl⟩:=rx;exact FQ a t' b t
  | str b=>obtain⟨t,rfl⟩:=rx;exact SeqAt.EqAt.str_str a t' b t
  | _=>exact absurd (show false=true from fx) An
 | _=>exact absurd (show false=true from fy) An
def eqU(x:V)(u:HX):Bool:=match u with
 | .none=>eqV .non x
 | .bool b=>eqV (.bl b) x
 | .int i _=>eqV (.int i) x
 | .str z _=>eqV (.str z) x
 | _=>false
theorem a5y{x y:V}{u:HX}(r:RelV y u)(f:ma y=true):eqU x u=eqV y x:=by
 cases y with
 | non=>cases r;rfl
 | bl b=>cases r;rfl
 | int i=>obtain⟨t,rfl⟩:=r;rfl
 | str z=>obtain⟨t,rfl⟩:=r;rfl
 | _=>exact absurd (show false=true from f) An
theorem ph{x:V}:∀{xs:List V}{us:List HX},Vals xs us->xs.all ma=true->us.any (eqU x)=xs.any fun y=>eqV y x
 | _,_,.nil,_=>rfl
 | y::xs,u::us,.cons r t,f=>by
  rw[Di,BC] at f;rw[DJ,DJ,a5y r f.1,ph t f.2]
theorem nc{A:IK}{s:HZ}{x:V}{v:HX}(rx:RelV x v)(fx:ma x=true):∀{xs:List V}{us:List HX},Vals xs us->xs.all ma=true->∀u∈us,HU A s u v (eqU x u)
 | _,_,.nil,_=>fun u hu=>by cases hu
 | y::xs,u::us,.cons r t,f=>fun u' hu=>by
  rw[Di,BC] at f;rcases Am.mp hu with rfl|hu
  . rw[a5y r f.1];exact a97 r rx f.1 fx
  . exact nc rx fx t f.2 u' hu
def inV(x:V)(xs:List V):Bool:=xs.any fun y=>eqV y x
def rIn(K:Ac)(neg:Bool):R2:=fun x y H Q=>∃p xs,y=.ref p/\(SqL K H p xs\/SqT K H p xs)/\ma x=true/\xs.all ma=true/\Q (.bl (if neg then !inV x xs else inV x xs)) H
theorem gw:OpR X (IM .In) (rIn X.K false):=by
 intro pins s σ H x y v u Q I rx ry h;obtain⟨p,xs,rfl,hq,fx,fs,q⟩:=h;cases ry;rcases hq with hq|hq
 . obtain⟨its,r,pl,hz⟩:=I.list hq;refine SeqAt.in_listAt (eqU x) pl.isList (fun w hw=>nc rx fx r fs w (by simpa using hw)) ⟨.bl _,H,I,rfl,?_⟩;rw[show its.toArray.any (eqU x)=its.any (eqU x) by simp,ph r fs];exact q
 . obtain⟨its,r,pl,hz⟩:=I.tuple hq;refine SeqAt.in_tupleAt (eqU x) pl (fun w hw=>nc rx fx r fs w (by simpa using hw)) ⟨.bl _,H,I,rfl,?_⟩;rw[show its.toArray.any (eqU x)=its.any (eqU x) by simp,ph r fs];exact q
theorem ko:OpR X (IM .NotIn) (rIn X.K true):=by
 intro pins s σ H x y v u Q I rx ry h;obtain⟨p,xs,rfl,hq,fx,fs,q⟩:=h;cases ry;rcases hq with hq|hq
 . obtain⟨its,r,pl,hz⟩:=I.list hq;refine SeqAt.notIn_listAt (eqU x) pl.isList (fun w hw=>nc rx fx r fs w (by simpa using hw)) ⟨.bl _,H,I,rfl,?_⟩;rw[show its.toArray.any (eqU x)=its.any (eqU x) by simp,ph r fs];exact q
 . obtain⟨its,r,pl,hz⟩:=I.tuple hq;refine SeqAt.notIn_tupleAt (eqU x) pl (fun w hw=>nc rx fx r fs w (by simpa using hw)) ⟨.bl _,H,I,rfl,?_⟩;rw[show its.toArray.any (eqU x)=its.any (eqU x) by simp,ph r fs];exact q
theorem ap:dz X (.builtin "len") (fun xs H Q=>∃p ys,xs=[.ref p]/\(SqL X.K H p ys\/SqT X.K H p ys)/\Q (.int ys.length) H):=by
 intro pins s σ H xs us Q I r h;obtain⟨p,ys,rfl,hq,q⟩:=h;obtain⟨u,rfl,rx⟩:=qh r;cases rx;have hn:=nk;rcases hq with hq|hq
 . obtain⟨its,r',pl,hz⟩:=I.list hq;have hlen:=r'.length;exact Calls.call_len_list pl.isList (by simp only[AB]<;>omega) ⟨.int ys.length,H,I.tok _,⟨s.toks+1,by rw[AB,hlen]⟩,q⟩
 . obtain⟨its,r',pl,hz⟩:=I.tuple hq;have hlen:=r'.length;exact len_tuple pl (by simp only[AB]<;>omega) ⟨.int ys.length,H,I.tok _,⟨s.toks+1,by rw[AB,hlen]⟩,q⟩
theorem re:dz X (.builtin "len") (fun xs H Q=>∃z,xs=[.str z]/\z.length<=HY/\Q (.int z.length) H):=by
 intro pins s σ H xs us Q I r h;obtain⟨z,rfl,hz,q⟩:=h;obtain⟨u,rfl,t,rfl⟩:=qh r;have hn:=nk;exact len_str (by omega) ⟨.int z.length,H,I.tok _,⟨_,rfl⟩,q⟩
theorem de:dz X (.type "list") (fun xs H Q=>∃p ys,xs=[.ref p]/\(SqL X.K H p ys\/SqT X.K H p ys)/\∀l,H l=none->Q (.ref l) (upd H l (.lst ys))):=by
 intro pins s σ H xs us Q I r h;obtain⟨p,ys,rfl,hq,q⟩:=h;obtain⟨u,rfl,rx⟩:=qh r;cases rx;have fin:∀(its:List HX),Vals ys its->ys.length<=HY->∀(h':IJ) (c':Nat),(∀b o',s.heap.get? b=some o'->h'.get? b=some o')->
  h'.get? s.heap.objs.size=some {cls:=.type "list",dict:=none,data:=.seq its.toArray c',slots := #[]}->EP X pins σ Q (.ref s.heap.objs.size) {s with heap:=h'}:=fun its r' hz h' c' kp e =>
  ⟨.ref s.heap.objs.size,_,I.laid (t':=s.toks) kp (Ar _) (show ObjOk X.prog X.w _ h' _ (.lst ys) from⟨hz,its,c',r',e⟩),rfl,q _ (I.hok.fresh (Ar _))⟩
 rcases hq with hq|hq
 . obtain⟨its,r',pl,hz⟩:=I.list hq;have hlen:=r'.length;obtain⟨o,ho,hc,n,hd⟩:=pl.isList;exact call_list_seq p (.inl rfl) ho hc hd (fun h' c' kp e=>fin its r' hz h' c' kp e) (by simp only[AB]<;>omega)
 . obtain⟨its,r',pl,hz⟩:=I.tuple hq;have hlen:=r'.length;obtain⟨o,ho,hc,n,hd⟩:=pl;exact call_list_seq p (.inr rfl) ho hc hd (fun h' c' kp e=>fin its r' hz h' c' kp e) (by simp only[AB]<;>omega)
theorem ju:dz X (.type "tuple") (fun xs H Q=>∃p ys,xs=[.ref p]/\((SqL X.K H p ys/\∀l,H l=none->Q (.ref l) (upd H l (.tup ys)))\/(SqT X.K H p ys/\Q (.ref p) H))):=by
 intro pins s σ H xs us Q I r h;obtain⟨p,ys,rfl,h⟩:=h;obtain⟨u,rfl,rx⟩:=qh r;cases rx;rcases h with⟨hq,q⟩|⟨hq,q⟩
 . obtain⟨its,r',pl,hz⟩:=I.list hq;have hlen:=r'.length;refine call_tuple_list pl.isList (fun h' kp=>?_) (by simp only[AB]<;>omega);have I1:Inv X pins σ H {s with heap:=h'}:=I.kept (t':=s.toks) kp;have I2:Inv X pins σ (upd H h'.objs.size (.tup ys)) {s with heap:=h'.push {cls:=.type "tuple",data:=.seq its.toArray}} :=
    I1.laid (t':=s.toks) (fun b o e=>Af _ e) (Ar _) (show ObjOk X.prog X.w _ _ _ (.tup ys) from⟨hz,its,r',IsTup.new _ _⟩)
   exact⟨.ref h'.objs.size,_,I2,rfl,q _ (I1.hok.fresh (Ar _))⟩
 . obtain⟨its,r',pl,hz⟩:=I.tuple hq;exact call_tuple_same pl ⟨.ref p,H,I,rfl,q⟩
def tyV(K:Ac)(T:String)(x:V)(H:Hp):Prop:=match x with
 | .str _=>T="str"
 | .int _=>T="int"
 | .ref p=>(T="list" /\ ∃xs,SqL K H p xs)\/(T="tuple" /\ ∃o,K.lookup p=some o/\o.cls=.type "tuple" /\ o.dict=none)\/
  (T="dict" /\ ((∃kvs,H p=some (.dK kvs))\/∃kvs,H p=some (.dT kvs)))\/(T="set" /\ ∃S n,H p=some (.set S n))
 | _=>False
theorem a55{pins:List (HW×Obj)}{σ:St}{H:Hp}{s:HZ}{T:String}{x:V}{v:HX}(I:Inv X pins σ H s)(r:RelV x v)(ty:tyV X.K T x H):
 s.TypeIs v T/\∀a,v=.ref a->∃ob,s.heap.get? a=some ob/\ob.dict=none:=by
 cases x with
 | str z =>
  obtain⟨t,rfl⟩:=r;cases (show T="str" from ty);exact⟨FC s z t,fun _ e=>nomatch e⟩
 | int i =>
  obtain⟨t,rfl⟩:=r;cases (show T="int" from ty);exact⟨Hh s i t,fun _ e=>nomatch e⟩
 | ref p =>
  cases r;rcases ty with⟨rfl,xs,hq⟩|⟨rfl,o,hk,hc,hd⟩|⟨rfl,hk⟩|⟨rfl,S,n,hk⟩
  . obtain⟨its,_,pl,_⟩:=I.list hq;refine⟨pl.isList.typeIs,fun a e=>?_⟩;cases e;obtain⟨o,n,e,c,hd,_⟩:=pl;exact⟨o,e,hd⟩
  . refine⟨⟨o,I.kIn p o hk,hc⟩,fun a e=>?_⟩;cases e;exact⟨o,I.kIn _ o hk,hd⟩
  . have z:∃o,s.heap.get? p=some o/\o.ExactDict:=by
     rcases hk with⟨kvs,hk⟩|⟨kvs,hk⟩
     . obtain⟨_,_,_,_,o,_,_,e,ex,_⟩:=I.hok p _ hk;exact⟨o,e,ex⟩
     . obtain⟨_,_,_,_,o,_,_,e,ex,_⟩:=I.hok p _ hk;exact⟨o,e,ex⟩
    obtain⟨o,e,ex⟩:=z;refine⟨⟨o,e,ex.1⟩,fun a e2=>?_⟩;cases e2;exact⟨o,e,ex.2.1⟩
  . obtain⟨o,_,_,_,e,ex,_⟩:=I.hok p _ hk;refine⟨⟨o,e,ex.1⟩,fun a e2=>?_⟩;cases e2;exact⟨o,e,ex.2.1⟩
 | _=>exact CD ty
def tBM0(K:Ac)(T:String)(r:V->List V->Hp->VK->Prop)(to:TE):TE:=fun σ H Q=>to σ H fun x H1=>tyV K T x H1/\r x [] H1 Q
def tBM(K:Ac)(T:String)(r:V->List V->Hp->VK->Prop)(to:TE)(t:TA):TE:=fun σ H Q=>to σ H fun x H1=>tyV K T x H1/\t σ H1 fun xs H2=>r x xs H2 Q
variable{o e:Expr}{es:List Expr}{to:TE}{t:TA}{name:Str}{apos cpos:Pos}{T id:String}{r:V->List V->Hp->VK->Prop}
theorem a9f(pa:PlainAttrs T)(slot:Slot T name id)(hty:typeOf (.builtin id)=pure (.type "method_descriptor"))(hm:MtR X id r)(ho:PE X o to)(hbase:IV o name X.env (eval o X.env)=eval o X.env:=by rfl)(hline:(apos.endLine==cpos.line)=true:=by rfl):PE X (.Call (.Attribute o name apos) [] [] cpos) (tBM0 X.K T r to):=by
 intro pins s σ H Q I h;refine wpAny_Call_method0_late hbase hline (thn (ho pins s σ H _ I h) fun v s1 ⟨x,H1,I1,r1,ty,q1⟩=>?_);obtain⟨h1,h2⟩:=a55 I1 r1 ty;exact⟨T,id,pa,slot,hty,h1,h2,DI rfl (PySem.evalArgs_none (hm pins s1 σ H1 x [] v [] Q I1 r1 .nil q1))⟩
theorem a7q(pa:PlainAttrs T)(slot:Slot T name id)(hty:typeOf (.builtin id)=pure (.type "method_descriptor"))(hm:MtR X id r)(ho:PE X o to)(ha:PA X (e::es) t)(hbase:IV o name X.env (eval o X.env)=eval o X.env:=by rfl)(hfew:((IU cpos (IH (e::es) X.env)).all (fun x => !x.1) && (Ig cpos (Ic [] X.env)).all (fun x=>x.1.isSome)
 && decide ((e::es).length+([]:List Keyword).length+(if ([]:List Keyword).isEmpty then 0 else 1)<30))=true:=by rfl)(hline:(apos.endLine==cpos.line)=true:=by rfl)(hs:IH (e::es) X.env=(false,eval e X.env)::IH es X.env:=by rfl)(hplain:(IU cpos (IH es X.env)).any (·.1)=false:=by rfl):
 PE X (.Call (.Attribute o name apos) (e::es) [] cpos) (tBM X.K T r to t):=by
 intro pins s σ H Q I h;refine Fg hbase hfew hline rfl (thn (ho pins s σ H _ I h) fun v s1 ⟨x,H1,I1,r1,ty,q1⟩=>?_);obtain⟨h1,h2⟩:=a55 I1 r1 ty;refine⟨T,id,pa,slot,hty,h1,h2,?_⟩;have hA:=ha cpos pins s1 σ H1 _ I1 q1;rw[hs] at hA |-;refine DI (by show (false || (IU cpos (IH es X.env)).any (·.1))=false;rw[hplain]<;>rfl) (FD ?_);exact thn hA fun us s2 ⟨vs,H2,I2,r2,q2⟩=>hm pins s2 σ H2 x vs v us Q I2 r1 r2 q2
/- xs.append(e),list.index on a module's tuple .. are MtR facts of 06m -/
end
def MtM(X:Cx)(id:String)(r:V->List V->Hp->VK->Prop):Prop :=
 ∀(pins:List (HW×Obj)) (s:HZ) (σ:St) (H:Hp) (x:V) (xs:List V) (v:HX) (us:List HX) (Q:VK),Inv X pins σ H s->RelV x v->Vals xs us->r x xs H Q->
   IB (ID X.prog X.w) X.A (call (.builtin id) (v::us)) (EP X pins σ Q) X.xe s
theorem Vals.one:∀{x:V}{us:List HX},Vals [x] us->∃u,us=[u]/\RelV x u
 | _,_,.cons r .nil=>⟨_,rfl,r⟩
theorem Vals.zero:∀{us:List HX},Vals [] us->us=[]
 | _,.nil=>rfl
theorem Vals.dropLast{xs:List V}{us:List HX}(h:Vals xs us):Vals xs.dropLast us.dropLast:=by
 induction h with
 | nil=>exact .nil
 | cons r t ih =>
  cases t with
  | nil=>exact .nil
  | cons q t'=>exact .cons r ih
theorem Vals.eraseIdx:∀{xs:List V}{us:List HX}(i:Nat),Vals xs us->Vals (xs.eraseIdx i) (us.eraseIdx i)
 | _,_,_,.nil=>.nil
 | _,_,0,.cons _ t=>t
 | _,_,i+1,.cons r t=>.cons r (Vals.eraseIdx i t)
theorem Vals.rep{xs:List V}{us:List HX}(h:Vals xs us):∀k:Nat,Vals (AD k xs).flatten (AD k us).flatten
 | 0=>.nil
 | k+1=>by
  rw[BG,BG,DD,DD];exact Vals.append h (Vals.rep h k)
theorem a3j{α:Type}(l:List α):l.eraseIdx (l.length-1)=l.dropLast:=by
 induction l with
 | nil=>rfl
 | cons a r ih =>
  cases r with
  | nil=>rfl
  | cons b r =>
   have e:(a::b::r).length-1=((b::r).length-1)+1:=by
    have h1:(a::b::r).length=r.length+2:=rfl;have h2:(b::r).length=r.length+1:=rfl;omega
   rw[e,Dz,ih]
   all_goals rfl
theorem xl{α:Type}:∀(l:List α) (i:Nat),(l.eraseIdx i).length<=l.length
 | [],_=>Ar _
 | _::_,0=>CU _
 | _::r,i+1=>G1 (xl r i)
theorem xa(its:List HX):∀(k:Nat) (acc:List HX),
 Hi (fun x1 x2=>x1++x2) acc.toArray (AD k its.toArray)=(acc++(AD k its).flatten).toArray
 | 0,acc=>by simp
 | k+1,acc=>by
  have e:acc.toArray++its.toArray=(acc++its).toArray:=by simp
  have e2:(acc++its)++(AD k its).flatten=acc++(AD (k+1) its).flatten:=by
   rw[BG,DD,B5]
  rw[<- e2,<- xa its k (acc++its),<- e,BG,Hj]
section
variable{X:Cx}{pins:List (HW×Obj)}{σ:St}{H:Hp}{s:HZ}{l b:HW}{xs ys zs:List V}
theorem Inv.lset{its its':List HX}{n:Nat}{f:Array HX->Array HX}{t':Nat}(I:Inv X pins σ H s)(hH:H l=some (.lst xs))(e:s.heap.get? l=some {cls:=.type "list",data:=.seq its.toArray n})(hf:f its.toArray=its'.toArray)(hv:Vals ys its')(hz:ys.length<=HY):
 Inv X pins σ (upd H l (.lst ys)) {s with heap:=s.heap.update l (Dy f),toks:=t'}:=by
 have q:=PySem.IsL.update e f;rw[hf] at q;refine I.write (x:=l) (e:=l) (by rw[hH];exact trivial) (.inl rfl) (fun b' u hb hu=>(Cg s.heap (Dy f) (BY hb)).trans hu) ⟨_,q⟩ ?_;exact⟨hz,its',_,hv,q⟩
theorem Inv.lnew{its:List HX}{t':Nat}(I:Inv X pins σ H s)(hv:Vals ys its)(hz:ys.length<=HY):
 Inv X pins σ (upd H s.heap.objs.size (.lst ys)) {s with heap:=s.heap.push {cls:=.type "list",data:=.seq its.toArray},toks:=t'} :=
 I.laid (fun _ _ q=>Af _ q) (Ar _) ⟨hz,its,0,hv,AE _ rfl⟩
theorem Inv.fresh(I:Inv X pins σ H s):H s.heap.objs.size=none:=I.hok.fresh (Ar _)
theorem Inv.lstM(I:Inv X pins σ H s)(hH:H l=some (.lst xs)):xs.length<=HY/\∃(its:List HX) (n:Nat),Vals xs its/\xs.length=its.length/\s.heap.get? l=some {cls:=.type "list",data:=.seq its.toArray n}:=by
 obtain⟨z,its,n,r,e⟩:=I.hok l _ hH;exact⟨z,its,n,r,r.length,e⟩
theorem a00{n:Nat}(h:n<=HY):CM n=false:=by
 unfold CM;exact decide_eq_false (by omega)
end
section
variable{X:Cx}
def a7w:V->List V->Hp->VK->Prop:=fun x vs H Q=>∃l xs y,x=.ref l/\vs=[y]/\H l=some (.lst xs)/\xs.length<HY/\Q .non (upd H l (.lst (xs++[y])))
theorem bq:MtM X "list.append" a7w:=by
 intro pins s σ H x vs v us Q I rx rv h;obtain⟨l,xs,y,rfl,rfl,hH,hz,q⟩:=h;cases rx;obtain⟨u,rfl,ru⟩:=rv.one;obtain⟨z,its,n,r,hl,e⟩:=I.lstM hH;refine DT F.slot_list_append ⟨_,e,rfl⟩ F.entry_list_append (F.args_list_append_2 _ _) (PySem.list_append l its.toArray n u (by rw[AB];omega)) ⟨e,?_⟩;refine⟨.non,_,I.lset (its':=its++[u]) hH e (by simp) (r.append (.cons ru .nil)) ?_,rfl,q⟩;rw[Ae,AN];omega
def a8o:V->List V->Hp->VK->Prop:=fun x vs H Q=>∃l b xs zs,x=.ref l/\vs=[.ref b]/\H l=some (.lst xs)/\H b=some (.lst zs)/\xs.length+zs.length<=HY/\Q .non (upd H l (.lst (xs++zs)))
theorem lm:MtM X "list.extend" a8o:=by
 intro pins s σ H x vs v us Q I rx rv h;obtain⟨l,b,xs,zs,rfl,rfl,hH,hB,hz,q⟩:=h;cases rx;obtain⟨u,rfl,ru⟩:=rv.one;cases ru;obtain⟨z,its,n,r,hl,e⟩:=I.lstM hH;obtain⟨z2,its2,n2,r2,hl2,e2⟩:=I.lstM hB;have hsz:its.toArray.size+its2.toArray.size<=HY:=by rw[AB,AB];omega
 have hlong:¬ (!its.toArray.isEmpty && CM (its.toArray.size+its2.toArray.size))=true:=by
  rw[a00 hsz,Hu];exact An
 refine DT F.slot_list_extend ⟨_,e,rfl⟩ F.entry_list_extend (F.args_list_extend_2 _ _)
  (AutoSeq1.list_extend_list_list_0 l its.toArray n b its2.toArray n2 hlong (by rw[AB];omega) (by omega)) ⟨e,e2,?_⟩
 refine⟨.non,_,I.lset (its':=its++its2) hH e (by simp) (r.append r2) ?_,rfl,q⟩;rw[Ae];omega
def rPop:V->List V->Hp->VK->Prop:=fun x vs H Q=>∃l xs y,x=.ref l/\vs=[]/\H l=some (.lst xs)/\xs[xs.length-1]?=some y/\Q y (upd H l (.lst xs.dropLast))
theorem a4v:MtM X "list.pop" rPop:=by
 intro pins s σ H x vs v us Q I rx rv h;obtain⟨l,xs,y,rfl,rfl,hH,hy,q⟩:=h;cases rx;have hus:=rv.zero;subst hus;obtain⟨z,its,n,r,hl,e⟩:=I.lstM hH;obtain⟨u,hu,ru⟩:=r.get hy;have hy':its.toArray[its.toArray.size-1]?=some u:=by
  show its.toArray[its.length-1]?=some u;rw[<- BK,<- hl];exact hu
 refine DT CP ⟨_,e,rfl⟩ GE (F.args_list_pop_1 _) (MeetsSeq.list_pop_last l its.toArray n u hy' (by rw[AB];omega)) ⟨e,?_⟩;refine⟨y,_,I.lset (its':=its.dropLast) hH e ?_ r.dropLast ?_,ru,q⟩
 . show its.toArray.eraseIdxIfInBounds (its.toArray.size-1)=its.dropLast.toArray;rw[AB,DP,a3j]
 . rw[List.length_dropLast];omega
def a9c:V->List V->Hp->VK->Prop:=fun x vs H Q=>∃l xs i k y,x=.ref l/\vs=[.int i]/\H l=some (.lst xs) /\ -(2 ^ 63)<=i/\i<2 ^ 63/\seqIndex? i xs.length=some k/\xs[k]?=some y/\Q y (upd H l (.lst (xs.eraseIdx k)))
theorem a73:MtM X "list.pop" a9c:=by
 intro pins s σ H x vs v us Q I rx rv h;obtain⟨l,xs,i,k,y,rfl,rfl,hH,h1,h2,hk,hy,q⟩:=h;cases rx;obtain⟨u,rfl,ru⟩:=rv.one;obtain⟨t,rfl⟩:=ru;obtain⟨z,its,n,r,hl,e⟩:=I.lstM hH;obtain⟨w,hw,rw'⟩:=r.get hy;refine DT CP ⟨_,e,rfl⟩ GE (F.args_list_pop_2 _ _)
  (MeetsSeq.list_pop_at l its.toArray n i t k w (fitsIndex_both h1 h2) (by rw[AB,<- hl];exact hk) (by rw[<- BK];exact hw) (by rw[AB];omega)) ⟨e,?_⟩
 refine⟨y,_,I.lset (its':=its.eraseIdx k) hH e ?_ (r.eraseIdx k) ?_,rw',q⟩
 . show its.toArray.eraseIdxIfInBounds k=(its.eraseIdx k).toArray;rw[DP]
 . have:=xl xs k;omega
def rCat:R2:=fun x y H Q=>∃l b xs zs,x=.ref l/\y=.ref b/\H l=some (.lst xs)/\H b=some (.lst zs)/\xs.length+zs.length<=HY/\∀p,H p=none->Q (.ref p) (upd H p (.lst (xs++zs)))
theorem ce:OpR X (IW .Add) rCat:=by
 intro pins s σ H x y v u Q I rx ry h;obtain⟨l,b,xs,zs,rfl,rfl,hH,hB,hz,q⟩:=h;cases rx;cases ry;obtain⟨z,its,n,r,hl,e⟩:=I.lstM hH;obtain⟨z2,its2,n2,r2,hl2,e2⟩:=I.lstM hB;refine PySem.P.add_list e e2 ?_ (by rw[AB,AB];omega);have ea:its.toArray++its2.toArray=(its++its2).toArray:=by simp
 rw[ea];exact⟨.ref _,_,I.lnew (t':=s.toks) (r.append r2) (by rw[Ae];omega),rfl,q _ I.fresh⟩
def rRep:R2:=fun x y H Q=>∃l k xs,x=.ref l/\y=.int k/\H l=some (.lst xs) /\ -(2 ^ 63)<=k/\k<2 ^ 63/\xs.length*k.toNat<=HY/\
 ∀p,H p=none->Q (.ref p) (upd H p (.lst (AD k.toNat xs).flatten))
theorem a83{α:Type}(xs:List α)(k:Nat):(AD k xs).flatten.length=k*xs.length:=by
 induction k with
 | zero=>simp
 | succ k ih=>rw[BG,DD,Ae,ih,FW,Nat.add_comm]
theorem a8y:OpR X (IW .Mult) rRep:=by
 intro pins s σ H x y v u Q I rx ry h;obtain⟨l,k,xs,rfl,rfl,hH,h1,h2,hz,q⟩:=h;cases rx;obtain⟨t,rfl⟩:=ry;obtain⟨z,its,n,r,hl,e⟩:=I.lstM hH;have hlen:its.toArray.size*k.toNat<=HY:=by rw[AB,<- hl];exact hz
 have hcap:¬ its.toArray.size*k.toNat>(2 ^ 63-1) / 8:=by
  have:(HY:Nat)<=(2 ^ 63-1) / 8:=by decide
  omega
 have hfit:¬ (!Builtin.List.listFitsIndex k)=true:=by
  rw[fitsIndex_both h1 h2];exact An
 have hlong:¬ CM (its.toArray.size*k.toNat)=true:=by
  rw[a00 hlen];exact An
 have hnew:Hi (fun x1 x2=>x1++x2) #[] (AD (if its.toArray.isEmpty=true then 0 else k.toNat) its.toArray)=(AD k.toNat its).flatten.toArray:=by
  have f0:∀m:Nat,Hi (fun x1 x2=>x1++x2) #[] (AD m its.toArray)=(AD m its).flatten.toArray:=fun m=>by
   have:=xa its m [];rw[Hk] at this;exact this
  rw[f0];cases its with
  | nil=>simp
  | cons a r'=>rw[if_neg (by simp)]
 refine wpAny_binaryOp_repeat_ref (T := "list") (U := "int") (by decide) ⟨_,e,rfl⟩ (fun s'=>Hh s' k t) noFill_list_mul F.fills_int_mul Hl repeat_list F.slot_int_index.lookup
  (DT Hl (Hh s k t) F.entry_int_rmul (F.args_int_rmul_2 _ _) (int___rmul___int_list k t l its.toArray n)
   ⟨e,rfl,⟨_,e,rfl⟩,DT F.slot_list_mul ⟨_,e,rfl⟩ F.entry_list_mul (F.args_list_mul_2 _ _) (AutoListH.list___mul___list_int_3 l its.toArray n k t hfit hcap hlong) ⟨e,?_⟩⟩)
 rw[hnew];exact⟨.ref _,_,I.lnew (t':=s.toks) (r.rep k.toNat) (by rw[a83,Nat.mul_comm];exact hz),rfl,q _ I.fresh⟩
end
section
variable{prog:IC}{w:IF}{A:IK}{E:HX->HZ->Prop}{s:HZ}
end
section
variable{X:Cx}
end
end L2
namespace Att
open PySem PySem.W PySem.Calls PyProof.Rows
theorem uw{P:Params}{h:IJ}:∀(ns:List Int) (vs:List HX),WellAll P h vs (ns.map WData.int)->IntsAre vs ns:=by
 intro ns;induction ns with
 | nil =>
  intro vs w;rw[FU] at w;cases w;exact .nil
 | cons n ns ih =>
  intro vs w;rw[Be] at w;cases w with
  | cons a b =>
   cases a;exact .cons _ _ (ih _ b)
theorem a5p{l:OpenLaw}{n:Nat}(hn:l.most=some n){P:Params}{h:IJ}{args:List WData}{vals:List HX}(hpre:l.row.toRowW.claim.pre args=true)(hwl:WellAll P h vals args):
 ∃a vs ns,vals=[Value.ref a]/\args=[WData.list (ns.map WData.int)]/\h.get? a=some {cls:=.type "list",data:=.seq vs.toArray}/\IntsAre vs ns/\ns.length<=n:=by
 have hsh:WShape.hasAll [] args [.list .int]=true:=(pre_splitW hpre).1;have hc:l.pre.holds [] {args:=args}=true:=(pre_splitW hpre).2;obtain⟨d,r,rfl,h1,h2⟩:=hasAllW_cons hsh;obtain rfl:=hasAllW_nil h2;obtain⟨xs,rfl,h3⟩:=hasW_list h1;obtain⟨ns,rfl⟩:=items_int h3;have hlen:ns.length<=n:=by
  unfold OpenLaw.pre at hc;have h4:(WTm.not (.lt (.lit (.int (n:Int))) (.len (.arg 0)))).holds [] {args:=[.list (ns.map .int)]}=true:=by
   have h4:=(holds_andW hc).1;rw[hn] at h4;exact h4
  have h5:=condW_of h4 (w_not (w_lt w_lit (w_len_list (w_arg rfl))));rw[Ab] at h5;refine Nat.le_of_not_lt fun q=>?_;have q':(n:Int)<((ns.length:Nat):Int):=by omega
  first
   | (rw[decide_eq_true q'] at h5;exact absurd h5 (by decide))
   | (simp at h5;omega)
 cases hwl with
 | cons w1 w2 =>
  cases w2;cases w1 with
  | list ho hall=>exact⟨_,_,ns,rfl,rfl,ho,uw ns _ hall,hlen⟩
theorem a51(l:OpenLaw)(args:List WData):l.row.toRowW.claim.post args (.bool true) args=true :=
 postW_of (r:=l.row.toRowW) (X:=(true==true))
  (show WShape.has [] (.bool true) .bool=true by first|rfl|decide|simp[WShape.has,WShape.arms,WShape.armsAll])
  (show (WTm.eq .res (.lit (.bool true))).value [] {args:=args,res:=some (.bool true),after:=args}=some (.bool (true==true)) from w_eq_bool (w_res rfl) w_lit) rfl
theorem attach_call{l:OpenLaw}{n:Nat}{q:IC}{loose:List Str}{XP:(Str->Option HX)->IJ->Prop}{YP:IF->IJ->Prop}{d:DefRec}(hn:l.most=some n)(hdf:d.params.defaults=[])(call:∀(w:IF) (s₀ s₁:HZ) (mg mb:Str->Option HX) (fa:HW) (o:Obj) (pm cd doc:HX) (a:HW) (vs:List HX) (ns:List Int),
 Ground q loose [] XP w s₀ mg mb s₁.heap->YP w s₁.heap->
 s₁.heap.get? fa=some o->o.data=.func (docDef d.name d.params d.body d.scope pm cd doc)->s₁.heap.CodeRec cd d.name->mg d.name=some (.ref fa)->
 s₁.heap.get? a=some {cls:=.type "list",data:=.seq vs.toArray}->IntsAre vs ns->ns.length<=n->s₁.gens = #[]->
 IY (ID l.prog w) callerA (.call (.ref fa) ⟨[.ref a],[]⟩) (fun r s'=>r=.ok (.ret (.bool true))/\OldK s₁.heap s'.heap/\s'.os=s₁.os/\AllBare s'.gens) s₁):
 WalkO q loose XP YP l.row.toRowW d [] (fun f vs=>Hm f vs):=by
 intro w s₀ s₁ mg mb G Y fa o pm cd doc dV kV ho hd hcd hD hmg hg args vals as hpre hlay hrd hwl hlo;obtain rfl:dV=.none:=Dflts.none hD hdf;obtain rfl:kV=.none:=Dflts.noKw hD;obtain⟨a,vs,ns,rfl,rfl,hobj,hints,hlen⟩:=a5p hn hpre hwl;refine enter_call (CH (call w s₀ s₁ mg mb fa o pm cd doc a vs ns G Y ho (fd_plain hd) hcd hmg hobj hints hlen hg) fun r s' hq=>?_);obtain⟨rfl,h2,h3,h4⟩:=hq;exact⟨.inl ⟨.bool true,.bool true,[],rfl,fun _=>rfl,.bool true,a51 l _,fun _=>⟨List.Pairwise.nil,fun _ hm=>(nomatch hm)⟩⟩,h2,h3,h4⟩
section
variable{prog:IC}{w:IF}{A:IK}{E:HX->HZ->Prop}{s:HZ}{K:Frag}
end
end Att
namespace L2
open PyProof.Rows
theorem xk:∀{vs:List HX}{ns:List Int},IntsAre vs ns->Vals (ns.map V.int) vs
 | _,_,.nil=>.nil
 | _,_,.cons n t h=>.cons ⟨t,rfl⟩ (xk h)
def Only(H:Hp):Prop:=∀b,H b=none\/∃o xs,H b=some (.frz o (.lst xs))
theorem a6r{P:IC}{w:IF}{K:Ac}{mg mb:Str->Option HX}{CX:CXT}{k:Nat}{fa a:HW}{fd:II}{x:Str}{sp:Sp}{s₁:HZ}{vs:List HX}{ns:List Int}(KX:K.In s₁.heap)(hns:s₁.heap.Ns IA mg)(hb:s₁.heap.Ns builtinsNs mb)(hbb:∀x:Str,x≠"__name__" -> mb x=bootBuiltins x)(hlim:s₁.heap.NoLimit)(hg:s₁.gens = #[])(ha:s₁.heap.get? a=some {cls:=.type "list",data:=.seq vs.toArray})(hi:IntsAre vs ns)(hl:ns.length<=HY)(hr:Room k callerA)(F:∀base:IJ,K.In base->base.Ns IA mg->FnOk P w K mg base CX k fa fd [x] sp)(hbind:∀(s:HZ) (u:HX),BindsTo s fd ⟨[u],[]⟩ [(x,u)])(hsp:∀H:Hp,Only H->SqL K H a (ns.map V.int)->sp [.ref a] H (fun v _=>v=.bl true) fun _ _ _=>False)(hCX:∀H e s',CX [] H s₁ (fun _ _ _=>False) e s'->False):
 IY (ID P w) callerA (.call (.ref fa) ⟨[.ref a],[]⟩) (fun r s'=>r=.ok (.ret (.bool true))/\OldK s₁.heap s'.heap/\s'.os=s₁.os/\AllBare s'.gens) s₁:=by
 have rv:=xk hi;have lenV:=hi.length;have core:∀H:Hp,Only H->SqL K H a (ns.map V.int)->HOk P w H s₁.heap->(∀b,H b≠none->b=a)->(H a≠none->K.lookup a=none)->
  IY (ID P w) callerA (.call (.ref fa) ⟨[.ref a],[]⟩) (fun r s'=>r=.ok (.ret (.bool true))/\OldK s₁.heap s'.heap/\s'.os=s₁.os/\AllBare s'.gens) s₁:=by
  intro H hO hS hok hA hK;have base_of:∀{b:HW} {o:Obj},s₁.heap.get? b=some o->H b=none->(hidT s₁.heap H).get? b=some o:=fun e n=>a6v e n;have noA:∀{b:HW} {o:Obj} {es:Array DictEntry} {ep:Nat},s₁.heap.get? b=some o->o.data=.dict es ep->H b=none:=fun {b o es ep} e d=>by
   cases q:H b with
   | none=>rfl
   | some u =>
    have e':b=a:=hA b (by rw[q];simp);subst e';rw[ha] at e;cases e;have d':Data.seq vs.toArray _=Data.dict es ep:=d;cases d'
  have nsK:∀{b:HW} {m:Str->Option HX},s₁.heap.Ns b m->(hidT s₁.heap H).Ns b m:=fun {b m} ⟨o,es,ep,e,d,r⟩=>⟨o,es,ep,base_of e (noA e d),d,r⟩
  have hKb:K.In (hidT s₁.heap H):=fun b o e=>base_of (KX b o e) (by
   cases q:H b with
   | none=>rfl
   | some u =>
    have e':b=a:=hA b (by rw[q];simp);subst e';rw[hK (by rw[q];simp)] at e;cases e)
  have hM:Mod K mg (hidT s₁.heap H):=⟨hKb,nsK hns,⟨mb,nsK hb,hbb⟩,let ⟨mc,h1,h2⟩:=hlim;⟨mc,nsK h1,h2⟩⟩
  have e0:Env0 P w K mg (hidT s₁.heap H) callerA [] s₁ H:=⟨rfl,hM,fun b o e=>a8k e,HG (a4m _ _),trivial,fun b hb=>absurd (show b∈([]:List HW) from hb) (by simp),hok,.of_eq hg⟩
  refine CH ((F _ hKb (nsK hns)).run callerA [] s₁ H ⟨[.ref a],[]⟩ [.ref a] [.ref a] _ _ hr e0 (hbind s₁ (.ref a)) (.cons rfl .nil) (hsp H hO hS)) fun r s' h=>?_;cases r with
  | error e=>exact (hCX H e s' h).elim
  | ok fl =>
   cases fl with
   | next=>exact CD h
   | brk=>exact CD h
   | cont=>exact CD h
   | ret u =>
    obtain⟨v,H',os,bare,un,hok',r',q⟩:=h;have q':v=.bl true:=q;subst q';obtain rfl:u=Value.bool true:=r';refine⟨rfl,OldK.of_keep fun b o e=>?_,os,bare⟩;cases q:H b with
    | none=>exact un.keep b o e q (by intro z;exact absurd (show b∈([]:List HW) from z) (by simp)) (by simp)
    | some u =>
     rcases hO b with z|⟨ob,xs,z⟩
     . rw[q] at z;cases z
     . have z2:=un.frzs b ob _ z;obtain⟨e1,_⟩:=hok b _ z;obtain⟨e2,_⟩:=hok' b _ z2;rw[e] at e1;cases e1;exact e2
 cases hk:K.lookup a with
 | some o =>
  have e:=KX a o hk;rw[ha] at e;cases e;refine core (fun _=>none) (fun _=>.inl rfl) (.inr ⟨_,vs.toArray,_,hk,rfl,rfl,rfl,by rw[AB,lenV];exact hl,by simpa using rv⟩) (fun b u z=>by have z':(none:Option HO)=some u:=z;cases z') (fun b z=>absurd rfl z) fun z=>absurd rfl z
 | none =>
  refine core (fun b=>if b=a then some (.frz {cls:=.type "list",data:=.seq vs.toArray} (.lst (ns.map V.int))) else none) (fun b=>?_) (.inl (.inr ⟨{cls:=.type "list",data:=.seq vs.toArray},if_pos rfl⟩)) (fun b u z=>?_) (fun b z=>?_) fun _=>hk
  . by_cases hb:b=a
    . exact .inr ⟨_,_,if_pos hb⟩
    . exact .inl (if_neg hb)
  . by_cases hb:b=a
    . have z':=(if_pos hb).symm.trans z;cases z';subst hb;exact⟨ha,by rw[Ab];exact hl,vs,_,rv,ha⟩
    . have z':=(if_neg hb).symm.trans z;cases z'
  . by_cases hb:b=a
    . exact hb
    . exact absurd (if_neg hb) z
theorem walk_of{l:EW}{n k:Nat}{q:IC}{loose:List Str}{XP:(Str->Option HX)->IJ->Prop}{YP:IF->IJ->Prop}{d:DefRec}{K:Params->Ac}{CX:IF->CXT}{sp:IF->Sp}{x:Str}(hn:l.most=some n)(hn2:n<=HY)(hdf:d.params.defaults=[])(hr:Room k callerA)(hY:∀(w:IF) (h:IJ),YP w h->(K w.params).In h)(F:∀(w:IF) (mg:Str->Option HX) (fa:HW) (h:IJ),(K w.params).In h->h.Ns IA mg->mg d.name=some (.ref fa)->
 ∃fd:II,(∀(s:HZ) (u:HX),BindsTo s fd ⟨[u],[]⟩ [(x,u)])/\
  ∀base:IJ,(K w.params).In base->base.Ns IA mg->FnOk l.prog w (K w.params) mg base (CX w) k fa fd [x] (sp w))(hsp:∀(w:IF) (H:Hp) (a:HW) (ns:List Int),ns.length<=n->Only H->SqL (K w.params) H a (ns.map V.int)->sp w [.ref a] H (fun v _=>v=.bl true) fun _ _ _=>False)(hCX:∀(w:IF) (H:Hp) (s:HZ) (e:HX) (s':HZ),CX w [] H s (fun _ _ _=>False) e s'->False):
 HA q loose XP YP l.row.toRowW d [] (fun f vs=>Hm f vs):=by
 refine Att.attach_call hn hdf fun w s₀ s₁ mg mb fa o pm cd doc a vs ns G Y ho hd hcd hmg hobj hints hlen hg=>?_;have KX:=hY w _ Y;obtain⟨fd,hb,hF⟩:=F w mg fa _ KX G.T.g hmg;exact a6r KX G.T.g G.T.b G.T.builtins G.T.nolimit hg hobj hints (Aw hlen hn2) hr hF hb (fun H hO hS=>hsp w H a ns hlen hO hS) fun H e s'=>hCX w H s₁ e s'
end L2
/- THE LAST THEOREM (shape;LID,My.* are yours):
 My.Adr: a structure of the addresses that your layer names (classes,functions);My.Txt K t: a structure (Prop) of the equations over K;
 My.txt_mk:{K} {implicit addresses ..} (e1:nsIn K IA "law"=some (some (.ref f))) (e2:K.lookup f=some ⟨oc,od,.func (fnOf "law" "law" params body scope dV kV doc pm an cdv ct),sl⟩) (e3:codeIn K cdv "law"=true) .. : ∃t,My.Txt K t
(the tactic k_is has no namespace: write k_is) -/
namespace L2
open PyProof.Rows
def mr(s:IP):Arguments:=match s with
 | .FunctionDef _ a _ _ _ _ _ _ _ _=>a
 | _=>{posonlyargs:=[],args:=[],vararg:=none,kwonlyargs:=[],kw_defaults:=[],kwarg:=none,defaults:=[]}
def jw(s:IP):List IP:=match s with
 | .FunctionDef _ _ b _ _ _ _ _ _ _=>b
 | _=>[]
def b7(s:IP):Scope:=match s with
 | .FunctionDef _ _ _ _ _ _ sc _ _ _=>sc
 | _=>{kind:=.function,names:=[],isGenerator:=false,isCoroutine:=false}
abbrev CX0:CXT:=fun _ _ _ _ _ _=>False
abbrev E0:XK:=fun _ _ _=>False
theorem au{X:Cx}:vi CX0 X E0:=fun _ _ _ _ _ _ _ h=>h.elim
structure Fun(K:Ac)(x qual:Str)(st:IP)(f:HW)(fd:II):Prop where
 ex:∃(oc:HX) (od:Option HW) (kV doc pm:HX) (an:Option HW) (cdv ct:HX) (osl:Array (Option HX)),
  fd=CK x qual (mr st) (jw st) (b7 st) .none kV doc pm an cdv ct/\K.lookup f=some ⟨oc,od,.func fd,osl⟩/\Fn K cdv qual=true
 kp:Cs K (.ref f)=true
section
variable{P:IC}{w:IF}{K:Ac}{mg:Str->Option HX}{base:IJ}
theorem Fun.ok{x qual:Str}{st:IP}{f:HW}{fd:II}{N ps:List Str}{k:Nat}{sp:Sp}(F:Fun K x qual st f fd)(S:FnScope N ps (b7 st))(len:∀vs H Q E,sp vs H Q E->vs.length=ps.length)(hbody:∀(cdv:HX) (A:IK) (outer:List Env) (s:HZ) (H:Hp) (vs:List V) (Q:VK) (E:XK),Room k (A.deeper (envOfC qual (b7 st) s.heap.objs.size f cdv))->sp vs H Q E->
 ∃t,PSs (cxOf CX0 P w K mg base N qual (b7 st) f cdv A outer s H E).nox (jw st) t/\t {nx:=fun _ H'=>Q .non H',rt:=Q} (me N vs) H):FnOk P w K mg base CX0 (k+1) f fd ps sp:=by
 obtain⟨oc,od,kV,doc,pm,an,cdv,ct,osl,rfl,lk,hcd⟩:=F.ex;refine aad lk hcd S len fun A outer s H vs Q E hr hsp=>?_;obtain⟨t,h,q⟩:=hbody cdv A outer s H vs Q E hr hsp;exact⟨t,h.nox,q⟩
theorem Fun.binds{x qual:Str}{st:IP}{f:HW}{fd:II}{ps:List Str}(F:Fun K x qual st f fd)(h:∀(kV doc pm:HX) (an:Option HW) (cdv ct:HX) (us:List HX),us.length=ps.length->bindArgs (CK x qual (mr st) (jw st) (b7 st) .none kV doc pm an cdv ct) ⟨us,[]⟩=pure (ps.zip us)):Binds K fd ps []:=by
 obtain⟨oc,od,kV,doc,pm,an,cdv,ct,osl,rfl,lk,hcd⟩:=F.ex;exact .all (h kV doc pm an cdv ct)
theorem fun_mk{x qual:Str}{st:IP}{f:HW}{oc:HX}{od an:Option HW}{osl:Array (Option HX)}{kV doc pm cdv ct:HX}(l:K.lookup f=some ⟨oc,od,.func (CK x qual (mr st) (jw st) (b7 st) .none kV doc pm an cdv ct),osl⟩)(c:Fn K cdv qual=true)(k:Cs K (.ref f)=true):Fun K x qual st f (CK x qual (mr st) (jw st) (b7 st) .none kV doc pm an cdv ct):=⟨⟨oc,od,kV,doc,pm,an,cdv,ct,osl,rfl,l,c⟩,k⟩
end
theorem aas{A:IK}{k:Nat}(hr:Room k A):A.units+1<cLine:=AO (FL (by decide:1<=64) _) hr.units
theorem ga{n:Nat}(h:n<=1000):n<HY:=AO h (by decide)
section
variable{X:Cx}
theorem pv(i:Nat){x:Str}{pos:Pos}(hN:X.N[i]?=some x:=by rfl)(hv:Vis X.env.scope x:=by first|exact Or.inl rfl|exact Or.inr (Or.inl rfl)|exact Or.inr (Or.inr rfl))(hd:(x==("__debug__":Str))=false:=by decide)(hcd:(x==("__classdict__":Str))=false:=by decide):PE X (.Name x pos) (tVar i):=a9u hN hv hd hcd
end
theorem iteF{A B:Prop}(h:B):if false=true then A else B:=by
 rw[if_neg An];exact h
def Same(H H':Hp):Prop:=∀b o,H b=some o->H' b=some o
theorem Same.refl(H:Hp):Same H H:=fun _ _ h=>h
theorem Same.trans{H H1 H2:Hp}(a:Same H H1)(b:Same H1 H2):Same H H2:=fun c o h=>b c o (a c o h)
theorem Same.free{H H':Hp}(e:Same H H'){l:HW}(h:H' l=Option.none):H l=Option.none:=by
 cases q:H l with
 | none=>rfl
 | some o =>
  rw[e l o q] at h;cases h
theorem Same.seq{K:Ac}{H H':Hp}{a:HW}{xs:List V}(e:Same H H')(h:SqL K H a xs):SqL K H' a xs:=by
 rcases h with (h|⟨o,h⟩)|h
 . exact .inl (.inl (e _ _ h))
 . exact .inl (.inr ⟨o,e _ _ h⟩)
 . exact .inr h
set_option maxHeartbeats 16000000
def blk(X:Cx)(N:List Str)(s:HZ)(H:Hp)(sc:Scope)(cl:List (Str×HW))(C:HW)(ex:List HW):Cx where
 prog:=X.prog
 w:=X.w
 K:=X.K
 mg:=X.mg
 base:=X.base
 A:=X.A
 N:=N
 s₀:=s
 H₀:=H
 env:=compEnvC sc cl C X.env
 outer:=X.stack
 stack:=X.stack
 ex:=ex
 fn:=fun _=>false
 calm:=X.calm
 pn:=[]
 xe:=fun _ _=>False
section
variable{prog:IC}{w:IF}{A:IK}{R:Result->HZ->Prop}{s:HZ}
theorem sw{elt target iter:Expr}{ifs:List Expr}{scope:Scope}{pos:Pos}{it acc:HX}{env:Env}(I:Nat->HZ->Prop)(turn:∀n s,I n s->IB (ID prog w) A (Ib it) (fun r s₁=>match r with
 | none=>R (.ok .next) s₁
 | some v=>IB (ID prog w) A (letOwnedTupleGo target it v) (fun _ s₁'=>IB (ID prog w) A (assign target env v) (fun _ s₂ =>
  IB (ID prog w) A (forIn ifs true fun c r=>if r=true then do let ok<-isTrue c env (eval c env);pure (ForInStep.yield ok) else pure (ForInStep.yield r)) (fun ok s₃ =>
   if ok=true then IB (ID prog w) A (eval elt env) (fun x s₄ =>
    IB (ID prog w) A (call (.builtin "list.append") [acc,x]) (fun _ s₅=>∃m,m<n/\I m s₅) (fun _ _=>False) s₄) (fun _ _=>False) s₃
   else ∃m,m<n/\I m s₃) (fun _ _=>False) s₂) (fun _ _=>False) s₁') (fun _ _=>False) s₁) (fun _ _=>False) s)(n:Nat)(h:I n s):
 IY (ID prog w) A (.compLoop (.ListComp elt [⟨target,iter,ifs,0⟩] scope pos) 0 it acc env) R s:=by
 refine codeAny_loop rfl I (fun n s hI=>?_) n h;show IB _ A ((compTurn (.ListComp elt [⟨target,iter,ifs,0⟩] scope pos) 0 it acc env).onRaise (fun x=>do noteFrame x env;theTreesLotGoes x)) _ _ s;refine wpAny_noted ?_;rw[compTurn_list];refine Ad (FI (Ad (BH (turn n s hI) (fun r s₁ h₁=>?_) fun _ _ h'=>h'.elim)));cases r with
 | none=>exact Ai h₁
 | some v =>
  refine Ad (BH h₁ (fun _ s₁' h₁'=>?_) fun _ _ h'=>h'.elim);refine Ad (BH h₁' (fun _ s₂ h₂=>Ad (BH h₂ (fun ok s₃ h₃=>?_) fun _ _ h'=>h'.elim)) fun _ _ h'=>h'.elim);cases ok with
  | false=>exact Ai ⟨rfl,h₃⟩
  | true =>
   exact Ad (Ad (BH h₃ (fun x s₄ h₄=>Ad (BH h₄ (fun _ s₅ h₅=>Ai (Ai ⟨rfl,h₅⟩)) fun _ _ h'=>h'.elim)) fun _ _ h'=>h'.elim))
end
def PTs(X:Cx)(ifs:List Expr)(t:TT):Prop :=
 ∀(pins:List (HW×Obj)) (s:HZ) (σ:St) (H:Hp) (Q:Bool->Hp->Prop),Inv X pins σ H s->t σ H Q->
   IB (ID X.prog X.w) X.A (forIn ifs true fun c r=>if r=true then do let ok<-isTrue c X.env (eval c X.env);pure (ForInStep.yield ok) else pure (ForInStep.yield r)) (TP X pins σ Q) X.xe s
def tYes:TT:=fun _ H Q=>Q true H
theorem jg{X:Cx}:PTs X [] tYes:=fun _ _ _ H _ I h=>wpAny_tests_nil ⟨H,I,h⟩
theorem a2a{X:Cx}{c:Expr}{t:TT}(h:PT X c t):PTs X [c] t:=fun pins s σ H Q I q=>wpAny_tests_one (h pins s σ H Q I q)
def cr(σ:St)(ix:List Nat):St:=ix.map fun j=>(σ[j]?).getD none
def i8(J:It)(H1:Hp)(σ:St)(ix:List Nat)(tc:TT)(te:TE)(Q:VK):Prop:=∀D,H1 D=none->
 ∃W:Nat->Nat->Hp->Prop,(∃m,W 0 m (upd H1 D (.lst [])))/\∀i m H,W i m H->
  (J.stop i H/\Q (.ref D) H)\/(J.go i H/\∀x H',J.yld i H x H'->tc (some x::cr σ ix) H' fun b H2 =>
   if b=true then te (some x::cr σ ix) H2 fun y H3=>∃ys,H3 D=some (.lst ys)/\ys.length<HY/\∃m',m'<m/\W (i+1) m' (upd H3 D (.lst (ys++[y])))
   else ∃m',m'<m/\W (i+1) m' H2)
def o7(ix:List Nat)(wi:TI)(tc:TT)(te:TE):TE:=fun σ H Q=>wi σ H fun J H1=>i8 J H1 σ ix tc te Q
section
variable{X:Cx}
theorem a8b{pins:List (HW×Obj)}{σ:St}{H:Hp}{s:HZ}{N:List Str}{x:Str}{sc:Scope}{cl:List (Str×HW)}{fp:List HW}{ix:List Nat}{h1:IJ}{m:Str->Option HX}{tk:Nat}(I:Inv X pins σ H s)(hkind:sc.kind=.function)(hN:N=x::ix.map fun j=>(X.N[j]?).getD "")(hsub:∀y c,cl.lookup y=some c->X.env.cells.lookup y=some c)(hhas:∀y,((IQ sc X.env).names.lookup y=some .cell\/(IQ sc X.env).names.lookup y=some .free)->∃c,cl.lookup y=some c)(hix:∀j∈ix,∃y,X.N[j]?=some y/\X.env.kindOf y=some .cell/\(IQ sc X.env).names.lookup y=some .cell)(hfp:∀b∈fp,FpOk X pins H b)(hlt:∀b∈fp,b<s.heap.objs.size)(hns:h1.Ns s.heap.objs.size m)(hk:∀b o,s.heap.get? b=some o->h1.get? b=some o):
 Inv (blk X N s H sc cl s.heap.objs.size fp) [] (none::cr σ ix) H {s with heap:=h1,toks:=tk}:=by
 have fresh:H s.heap.objs.size=none:=I.hok.fresh (Ar _);refine⟨⟨I.ok.mod,hkind,I.ok.glob,I.ok.blt,Ar _,fun y z c h1 h2=>I.ok.inj y z c (hsub y c h1) (hsub z c h2),fun y hy=>hhas y hy,fun y c z _=>absurd (show false=true from z) (by decide),I.ok.hd,I.ok.frames,.inl rfl,
  fun b hb=>⟨AL (hlt b hb),fun y c e=>(hfp b hb).2.2.2.2.1 y c (hsub y c e)⟩,I.bs,Aw I.ok.bsz I.sz,fun b o e hb=>?_,fun b hb z=>?_,I.stack,I.stkFree⟩,
  rfl,I.bare,Un.kept hk,⟨m,hns,fun i y v e1 e2 e3=>?_⟩,fun y c e=>?_,fresh,fun y c e=>I.freeC y c (hsub y c e),fun p hp=>absurd (show p∈([]:List (HW×Obj)) from hp) (by simp),I.hok.kept hk,?_⟩
 . rcases (hfp b hb).2.2.2.1 with z|z
   . exact I.ok.noex b o e z
   . exact absurd (AH (AC e) (Aw I.ok.bsz z)) (Bt _)
 . rcases Am.mp (I.stkSub b z) with q|q
   . exact (hfp b hb).2.1 q
   . exact (hfp b hb).2.2.1 q
 . cases i with
   | zero =>
    have e2':(some none:Option (Option V))=some (some v):=e2;cases e2'
   | succ i =>
    have e2':(cr σ ix)[i]?=some (some v):=by simpa using e2
    unfold cr at e2';rw[Ah] at e2';cases q:ix[i]? with
    | none=>rw[q] at e2';cases e2'
    | some j =>
     rw[q] at e2';have e3':(σ[j]?).getD none=some v:=by simpa using e2'
     have e4:σ[j]?=some (some v):=by
      cases q2:σ[j]? with
      | none=>rw[q2] at e3';cases e3'
      | some w=>rw[q2] at e3';simpa using e3'
     obtain⟨y',hy,hc,hr⟩:=hix j (Ak q);have ey:y'=y:=by
      have e1':N[i+1]?=some y:=e1;rw[hN,DA,Ah,q] at e1';have:=Ay e1';simpa [hy] using this
     subst ey;obtain⟨m0,hn0,hl0⟩:=I.loc;obtain⟨u,r,l⟩:=hl0 j y' v hy e4 (.inr (.inl hc));refine⟨u,r,.inr ⟨.inl hr,?_⟩⟩;rcases l with⟨k,_⟩|⟨_,c,ec,ic⟩
     . rw[hc] at k;cases k
     . obtain⟨c',ec'⟩:=hhas y' (.inl hr);have:=hsub y' c' ec';rw[ec] at this;cases this;obtain⟨o,ho,hd⟩:=ic;exact⟨c,ec',o,hk c o ho,hd⟩
 . obtain⟨v,o,ho,hd⟩:=I.cell y c (hsub y c e);exact⟨v,o,hk c o ho,hd⟩
 . show (none::cr σ ix).length=N.length;rw[hN];simp[cr]
theorem xw{elt iter:Expr}{x:Str}{px pos p0:Pos}{ifs:List Expr}{sc:Scope}{cl:List (Str×HW)}{ix:List Nat}{wi:TI}{tc:TT}{te:TE}(N:List Str)(hc:X.calm=true)(hi:PI X (.Name x px) iter wi)(hif:∀s H C ex,PTs (blk X N s H sc cl C ex) ifs tc)(he:∀s H C ex,PE (blk X N s H sc cl C ex) elt te)(hkind:sc.kind=.function)(hN:N=x::ix.map fun j=>(X.N[j]?).getD "")(hnd:N.Nodup)(hx:sc.names.lookup x=some .local)(hcl:closureFor sc X.env=pure cl)(hcell:∀y∈sc.names,y.2≠.cell)(hnames:∀y∈sc.names,y.2=.local->sc.names.lookup y.1=some .local)(hsub:∀y c,cl.lookup y=some c->X.env.cells.lookup y=some c)(hhas:∀y,((IQ sc X.env).names.lookup y=some .cell\/(IQ sc X.env).names.lookup y=some .free)->∃c,cl.lookup y=some c)(hix:∀j∈ix,∃y,X.N[j]?=some y/\X.env.kindOf y=some .cell/\(IQ sc X.env).names.lookup y=some .cell)(hs:∀x,IL iter X.env x=pure x){use:Option (HX->Sem Unit)}{RP:HX->HZ->Prop}{Q:VK}{pins:List (HW×Obj)}{s:HZ}{σ:St}{H:Hp}(I:Inv X pins σ H s)(h:o7 ix wi tc te σ H Q)(hfin:∀(D C:HW) (s6:HZ) (H5:Hp) (mm:Str->Option HX),Inv X pins σ H5 s6->s6.heap.Ns C mm->H5 C=none->C≠X.env.locals->(∀z c,X.env.cells.lookup z=some c->c≠C)->X.s₀.heap.objs.size<=C->(∀p∈X.pn++pins,p.1≠C)->Q (.ref D) H5->compPost (ID X.prog X.w) X.A X.xe use RP (.ref D) C (.ok .next) s6):
 IB (ID X.prog X.w) X.A (comprehension (.ListComp elt [⟨.Name x px,iter,ifs,0⟩] sc pos) sc X.env p0 (newList []) false (eval iter X.env) use) RP X.xe s:=by
 refine ED (use:=use) rfl hs hcl hkind hnames (thn (hi pins s σ H _ I h) fun v s1 h1=>thn h1 fun itv s2 h2=>?_);obtain⟨it,fp,tn,J,H2,e,I2,T,st2,f2,q2⟩:=h2;subst e;have fr2:H2 s2.heap.objs.size=none:=I2.hok.fresh (Ar _);obtain⟨W,⟨m0,w0⟩,turn⟩:=q2 s2.heap.objs.size fr2;refine Bm ?_;have I3:Inv X pins σ (upd H2 s2.heap.objs.size (.lst [])) {s2 with heap:=s2.heap.push {cls:=.type "list",dict:=none,data:=.seq ([]:List HX).toArray}}:=by
  exact I2.lnew (its:=[]) (ys:=[]) (t':=s2.toks) .nil (AG _)
 have lt2:∀b∈fp,b<s2.heap.objs.size:=fun b hb=>by
  obtain⟨o,ho,_⟩:=T.obj _ _ st2 b hb;exact AC ho
 have f3:∀b∈fp,FpOk X pins (upd H2 s2.heap.objs.size (.lst [])) b:=fun b hb=>⟨by rw[ai (AL (lt2 b hb))];exact (f2 b hb).1,(f2 b hb).2⟩
 generalize hs3:({s2 with heap:=s2.heap.push {cls:=.type "list",dict:=none,data:=.seq ([]:List HX).toArray}}:HZ)=s3 at I3;have hsz3:s2.heap.objs.size<=s3.heap.objs.size:=by rw[<- hs3];show _<=(s2.heap.push _).objs.size;rw[Bs];exact CU _
 have tn3:tn 0 s3.heap:=T.keep _ _ _ st2 fun b _ o e=>by rw[<- hs3];exact Af _ e
 have lt3:∀b∈fp,b<s3.heap.objs.size:=fun b hb=>AH (lt2 b hb) hsz3;refine FE hcell (by intro y hy;simp at hy) (fun h4 hns4 hsb4=>?_) hkind;have old:∀b o,s3.heap.get? b=some o->h4.get? b=some o:=fun b o e=>hsb4.extBut b o (AL (AC e)) (Af _ e);have I4:=a8b (m:=_) (tk:=s3.toks+([]:List (Str×HX)).length) (N:=N) I3 hkind hN hsub hhas hix f3 lt3 hns4 old;have tn4:tn 0 h4:=T.keep _ _ _ tn3 fun b _ o e=>old b o e;have fpB:∀{H':Hp},(∀b∈fp,H' b=none)->∀b∈fp,FpOk (blk X N s3 (upd H2 s2.heap.objs.size (.lst [])) sc cl s3.heap.objs.size fp) [] H' b:=fun {H'} hn b hb =>
  ⟨hn b hb,AL (lt3 b hb),I4.ok.exfs b hb,.inl hb,fun y c e=>(I4.ok.exf b hb).2 y c e,fun p hp=>absurd (show p∈([]:List (HW×Obj)) from hp) (by simp)⟩
 have loop:IY (ID X.prog X.w) X.A (.compLoop (.ListComp elt [⟨.Name x px,iter,ifs,0⟩] sc pos) 0 (.ref it) (.ref s2.heap.objs.size) (compEnvC sc cl s3.heap.objs.size X.env))
  (compPost (ID X.prog X.w) X.A X.xe use RP (.ref s2.heap.objs.size) s3.heap.objs.size) {s3 with heap:=h4,toks:=s3.toks+([]:List (Str×HX)).length}:=by
  refine sw (fun n s'=>∃i v0 H',Inv (blk X N s3 (upd H2 s2.heap.objs.size (.lst [])) sc cl s3.heap.objs.size fp) [] (v0::cr σ ix) H' s'/\tn i s'.heap/\(∀b∈fp,H' b=none)/\W i n H') ?_ m0
   ⟨0,none,_,I4,tn4,fun b hb=>(f3 b hb).1,w0⟩
  rintro n s5 ⟨i,v0,H5,I5,st5,fr5,w5⟩;rcases turn i n H5 w5 with⟨stop,qn⟩|⟨go,step⟩
  . refine thn (T.done (blk X N s3 (upd H2 s2.heap.objs.size (.lst [])) sc cl s3.heap.objs.size fp) rfl rfl rfl hc i [] s5 _ H5 _ I5 (fpB fr5) st5 stop) fun r s6 ⟨hr,I6⟩=>?_;subst hr;obtain⟨mm,hm,_⟩:=I6.loc;have I7:Inv X pins σ H5 s6:=by
     have hC:H5 s3.heap.objs.size=none:=I6.free;have hc3:s3.heap.get? s3.heap.objs.size=none:=DQ (Ar _);have up:∀b o,b≠s3.heap.objs.size->s6.heap.get? b=some o->s6.heap.get? b=some o:=fun b o hb e=>e;have neC:∀b o,s3.heap.get? b=some o->b≠s3.heap.objs.size:=fun b o e=>AL (AC e);have u:=I6.base;refine I3.call' (s':=s6) (ch:=fp) I6.os ⟨fun b o e n hb hx=>?_,fun b o e n hb hx=>?_,fun b o e n hx=>u.free b o e n hx,fun b o e hx=>?_,u.tups,u.frzs,u.tbls⟩ (fun b o e=>?_) I6.bare fun b hb=>⟨(f3 b hb).2.2.2.1,(f3 b hb).2.1,(f3 b hb).2.2.2.2.1,(f3 b hb).2.2.2.2.2⟩
     . exact up b o (neC b o e) (u.keep b o e n hb hx)
     . obtain⟨sl,e1⟩:=u.slot b o e n hb hx;exact⟨sl,up b _ (neC b o e) e1⟩
     . obtain⟨o',e1⟩:=u.there b o e hx;exact⟨o',up b _ (neC b o e) e1⟩
     . refine (I6.hok b o e).stay (fun c v hc' q=>up c v ?_ q) (fun _ q=>q) fun _ _ q=>q;rintro rfl;rcases hc' with z|z
       . rw[<- z,hC] at e;cases e
       . rw[hC] at z;cases z
    have hCn:H5 s3.heap.objs.size=none:=I6.free;have hCl:s3.heap.objs.size≠X.env.locals:=BW I3.lt;have hCc:∀z c,X.env.cells.lookup z=some c->c≠s3.heap.objs.size:=fun z c e e2=>by
     obtain⟨v',q⟩:=I3.cell z c e;exact absurd (e2 ▸ q.lt) (Bt _)
    exact hfin _ _ s6 H5 mm I7 hm hCn hCl hCc I3.sz (fun p hp e2=>absurd (e2 ▸ AC (I3.pin p hp).1) (Bt _)) qn
  . refine thn (T.item (blk X N s3 (upd H2 s2.heap.objs.size (.lst [])) sc cl s3.heap.objs.size fp) rfl rfl rfl hc i [] s5 _ H5 _ I5 (fpB fr5) st5 go) fun r s6 ⟨u,hr,h6⟩=>?_;subst hr;refine thn h6 fun _ s7 ⟨y,H7,I7,r7,y7,st7,fr7⟩=>?_;have I7':=I7.pinned (fpB fr7) (T.obj _ _ st7);refine E1 (uf (i:=0) I7' hnd (by show N[0]?=some x;rw[hN];rfl) (.inl (Co hx)) r7 (fun s8 I8=>?_) (.inr (Co hx)));have I8':Inv (blk X N s3 (upd H2 s2.heap.objs.size (.lst [])) sc cl s3.heap.objs.size fp) ([]++ng fp s7.heap) (some y::cr σ ix) H7 s8:=I8;refine thn (hif _ _ _ _ _ s8 _ H7 _ I8' (step y H7 y7)) fun ok s9 ⟨H9,I9,q9⟩=>?_;have again:∀{H':Hp} {s':HZ} {m':Nat},Inv (blk X N s3 (upd H2 s2.heap.objs.size (.lst [])) sc cl s3.heap.objs.size fp) ([]++ng fp s7.heap) (some y::cr σ ix) H' s'->m'<n->W (i+1) m' H'->
     ∃m,m<n/\∃i v0 H',Inv (blk X N s3 (upd H2 s2.heap.objs.size (.lst [])) sc cl s3.heap.objs.size fp) [] (v0::cr σ ix) H' s'/\tn i s'.heap/\(∀b∈fp,H' b=none)/\W i m H':=fun {H' s' m'} Ia hm wa=>by
     refine⟨m',hm,i+1,some y,H',Ia.unpinned,T.keep _ _ _ st7 fun b hb o e=>(Ia.pin (b,o) (AU _ (AU _ (jj hb e)))).1,fun b hb=>?_,wa⟩;obtain⟨o,e,d⟩:=T.obj _ _ st7 b hb;exact (Ia.pin (b,o) (AU _ (AU _ (jj hb e)))).2.1
    cases ok with
    | false =>
     rw[if_neg An] at q9 |-;obtain⟨m',hm,wa⟩:=q9;exact again I9 hm wa
    | true =>
     rw[if_pos rfl] at q9 |-;refine thn (he _ _ _ _ _ s9 _ H9 _ I9 q9) fun v10 s10 ⟨z,H10,I10,r10,ys,hD,hl,m',hm,wa⟩=>?_;exact thn (bq _ s10 _ H10 (.ref s2.heap.objs.size) [z] (.ref s2.heap.objs.size) [v10] (fun _ H'=>H'=upd H10 s2.heap.objs.size (.lst (ys++[z]))) I10 rfl (.cons r10 .nil) ⟨_,ys,z,rfl,rfl,hD,hl,rfl⟩)
      fun _ s11 ⟨_,H11,I11,_,e11⟩=>again I11 hm (by rw[e11];exact wa)
 subst hs3;exact Fh loop (T.self _ 0 _ _ _ tn4 loop)
theorem wn{elt iter:Expr}{x:Str}{px pos:Pos}{ifs:List Expr}{sc:Scope}{cl:List (Str×HW)}{ix:List Nat}{wi:TI}{tc:TT}{te:TE}(N:List Str)(hc:X.calm=true)(hi:PI X (.Name x px) iter wi)(hif:∀s H C ex,PTs (blk X N s H sc cl C ex) ifs tc)(he:∀s H C ex,PE (blk X N s H sc cl C ex) elt te)(hkind:sc.kind=.function)(hN:N=x::ix.map fun j=>(X.N[j]?).getD "")(hnd:N.Nodup)(hx:sc.names.lookup x=some .local)(hcl:closureFor sc X.env=pure cl)(hcell:∀y∈sc.names,y.2≠.cell)(hnames:∀y∈sc.names,y.2=.local->sc.names.lookup y.1=some .local)(hsub:∀y c,cl.lookup y=some c->X.env.cells.lookup y=some c)(hhas:∀y,((IQ sc X.env).names.lookup y=some .cell\/(IQ sc X.env).names.lookup y=some .free)->∃c,cl.lookup y=some c)(hix:∀j∈ix,∃y,X.N[j]?=some y/\X.env.kindOf y=some .cell/\(IQ sc X.env).names.lookup y=some .cell)(hs:∀x,IL iter X.env x=pure x:=by intro _;rfl):
 PE X (.ListComp elt [⟨.Name x px,iter,ifs,0⟩] sc pos) (o7 ix wi tc te):=by
 intro pins s σ H Q I h;rw[eval_ListComp];exact xw N hc hi hif he hkind hN hnd hx hcl hcell hnames hsub hhas hix hs I h fun D C s6 H5 mm I7 hm hCn hCl hCc hsz hpin qn =>
  ⟨mm,hm,fun h7 sb7=>⟨.ref D,H5,I7.turned (t':=s6.toks) (it:=C) (fun b o hb e=>sb7.extBut b o hb e) hCn hCl (.inr hsz) hCc hpin,rfl,qn⟩⟩
end
def Its(x:Str):It:=⟨fun i _=>i<x.cps.size,fun i H v H'=>H'=H/\∃c,x.cps[i]?=some c/\v=.str ⟨#[c]⟩,fun i _=>x.cps.size<=i⟩
theorem a6q{P:IC}{w:IF}{K:Ac}{tg:Expr}{x:Str}{t:Tok}(it:HW)(T:String)(hT:T="str_ascii_iterator" \/ T="str_iterator"):Turn P w K tg (Its x) [it] it (fun i h=>h.IsStrIter it T x t i/\i<=x.cps.size) where
 mem:=by simp
 obj:=fun i h st b hb=>by
  have e:b=it:=by simpa using hb
  subst e;obtain⟨⟨o,e,c,d⟩,_⟩:=st;exact⟨o,e,fun v z=>by rw[d] at z;cases z⟩
 keep:=fun i h h' st k=>⟨let ⟨o,ho,r⟩:=st.1;⟨o,k it (by simp) o ho,r⟩,st.2⟩
 item:=by
  intro X hP hw hK hc i pins s σ H E I hf st hg;subst hP hw hK;obtain⟨f0,f1,f2,f3,f4,f5⟩:=hf it (by simp);have hi:i<x.cps.size:=hg;have fin:∀h',h'.IsStrIter it T x t (i+1)->(∀b o,b≠it->s.heap.get? b=some o->h'.get? b=some o)->∀u:Tok,∃uv,some (Value.str ⟨#[x.cps[i]]⟩ u)=some uv/\
   IB (ID X.prog X.w) X.A (letOwnedTupleGo tg (.ref it) uv) (fun _ s2=>∃v H',Inv X pins σ H' s2/\RelV v uv/\(Its x).yld i H v H'/\(s2.heap.IsStrIter it T x t (i+1)/\i+1<=x.cps.size)/\∀b∈[it],H' b=none) E {s with heap:=h',toks:=s.toks+1}:=fun h' st' kk u=>by
   have I1:Inv X pins σ H {s with heap:=h',toks:=s.toks+1}:=I.turned (fun b o hb e=>kk b o hb e) f0 f1 f3 f4 f5;obtain⟨o,e,c,d⟩:=id st';refine⟨_,rfl,yp (s:={s with heap:=h',toks:=s.toks+1}) e c d (by rcases hT with rfl|rfl<;>decide) ⟨.str ⟨#[x.cps[i]]⟩,H,I1,⟨u,rfl⟩,⟨rfl,_,by simp[hi],rfl⟩,⟨st',hi⟩,fun b hb=>?_⟩⟩;exact (hf b hb).1
  rcases hT with rfl|rfl
  . exact wpAny_pyNext_ascii_item st.1 (c:=x.cps[i]) (by simp[hi]) fun h' hit' hs'=>fin h' hit' (fun b o hb e=>hs'.extBut b o hb e) _
  . exact wpAny_pyNext_wide_item st.1 (c:=x.cps[i]) (by simp[hi]) fun h' hit' hs'=>fin h' hit' (fun b o hb e=>hs'.extBut b o hb e) _
 done:=by
  intro X hP hw hK hc i pins s σ H E I hf st hg;subst hP hw hK;obtain⟨f0,f1,f2,f3,f4,f5⟩:=hf it (by simp);have hi:x.cps.size<=i:=hg;rcases hT with rfl|rfl
  . exact wpAny_pyNext_ascii_end (I.ok.hd hc) st.1 (by simp;omega) fun h' eb=>⟨rfl,I.turned (t':=s.toks) (fun b o hb e=>eb b o hb e) f0 f1 f3 f4 f5⟩
  . exact wpAny_pyNext_wide_end (I.ok.hd hc) st.1 (by simp;omega) fun h' eb=>⟨rfl,I.turned (t':=s.toks) (fun b o hb e=>eb b o hb e) f0 f1 f3 f4 f5⟩
 self:=fun _ _ _ _ _ st h=>by
  rcases hT with rfl|rfl
  . exact wpAny_pyIter_striter_ascii st.1 h
  . exact wpAny_pyIter_striter_wide st.1 h
section
variable{X:Cx}{tg:Expr}
def iStr(tl:TE):TI:=fun σ H R=>tl σ H fun x H1=>∃z,x=.str z/\R (Its z) H1
theorem aa0{l:Expr}{tl:TE}(hl:PE X l tl):PI X tg l (iStr tl):=by
 intro pins s σ H R I h;refine thn (hl pins s σ H _ I h) fun v s1 ⟨x,H1,I1,r1,q1⟩=>?_;obtain⟨z,e,q⟩:=q1;subst e;obtain⟨t,rfl⟩:=r1;have fin:∀(o:Obj) (T:String),(T="str_ascii_iterator" \/ T="str_iterator")->(s1.heap.push o).IsStrIter s1.heap.objs.size T z t 0->PIE X pins σ tg R (.ref s1.heap.objs.size) {s1 with heap:=s1.heap.push o}:=fun o T hT hs=>by
  refine⟨s1.heap.objs.size,[s1.heap.objs.size],_,_,H1,rfl,I1.kept (t':=s1.toks) fun b o e=>Af _ e,a6q (x:=z) (t:=t) _ T hT,⟨hs,AG _⟩,fun b hb=>?_,q⟩;have e:b=s1.heap.objs.size:=by simpa using hb
  subst e;exact I1.fpOk (Ar _) (I1.hok.fresh (Ar _))
 cases ha:z.cps.all (· < 128)
 . exact wpAny_pyIter_wide ha (fin _ _ (.inr rfl) ⟨_,AE _ rfl,rfl,rfl⟩)
 . exact wpAny_pyIter_ascii ha (fin _ _ (.inl rfl) ⟨_,AE _ rfl,rfl,rfl⟩)
theorem du(hc:X.calm=true):dz X (.builtin "all") (fun xs H Q=>∃(a:HW) (bs:List Bool),xs=[.ref a]/\SqL X.K H a (bs.map V.bl)/\Q (.bl (bs.all id)) H):=by
 intro pins s σ H xs us Q I r h;obtain⟨a,bs,rfl,hq,q⟩:=h;obtain⟨u,rfl,ru⟩:=r.one;cases ru;obtain⟨its,rv,p,hz⟩:=I.list hq;have hlt:a<s.heap.objs.size:=by obtain⟨o,n,e,_⟩:=p;exact AC e
 refine call_all_walk (DC p.isList ?_);have len:bs.length=its.length:=by have:=rv.length;simpa using this
 refine⟨s.heap.objs.size,_,_,_,_,_,fun i=>(bs[i]?).getD false,rfl,HV (A:=X.A.in1) (show X.A.in1.handled=none from I.ok.hd hc) s.heap.objs.size a (AL hlt) its.toArray,⟨⟨_,AE _ rfl,rfl,rfl⟩,p.isList.at fun o e=>Af _ e⟩,?_,?_⟩
 . intro i v s' Q' E' hv hQ;have hv':its[i]?=some v:=by simpa using hv
   cases hb:bs[i]? with
   | none =>
    have h1:=List.getElem?_eq_none_iff.mp hb;have h2:=(Av.mp hv').1;omega
   | some b =>
    obtain⟨u,hu,ru⟩:=rv.get (i:=i) (x:=V.bl b) (by rw[Ah,hb]<;>rfl);rw[hv'] at hu;cases hu;cases ru;simp only[hb,EE] at hQ;exact Cd hQ
 . intro h' tk hk;have e:(Bg its.toArray.size).all (fun i=>(bs[i]?).getD false)=bs.all id:=by
    rw[AB,<- len];rw[Cm];simp only[BD,List.mem_range,id];constructor
    . intro h b hb;obtain⟨i,hi,e⟩:=List.mem_iff_getElem.mp hb;have:=h i hi;rw[Ag hi,EE,e] at this;exact this
    . intro h i hi;rw[Ag hi,EE];exact h _ (Ci hi)
   have fr:FpOk X pins H s.heap.objs.size:=I.fpOk (Ar _) (I.hok.fresh (Ar _));refine⟨.bl (bs.all id),H,?_,by rw[e];rfl,q⟩;have I1:Inv X pins σ H {s with heap:=h',toks:=tk}:=I.kept (h':=h') (t':=tk) fun b o e=>hk b o (fun z=>by
    have:b=s.heap.objs.size:=by simpa using z
    exact absurd (AC e) (by rw[this];exact Bt _)) (Af _ e)
   exact I1
theorem jt:dz X (.builtin "isinstance") (fun xs H Q=>∃a ys,xs=[.ref a,.ty "list"]/\SqL X.K H a ys/\Q (.bl true) H):=by
 intro pins s σ H xs us Q I r h;obtain⟨a,ys,rfl,hq,q⟩:=h;cases r with
 | cons r1 r =>
  cases r with
  | cons r2 r =>
   cases r;cases r1;cases r2;obtain⟨its,rv,p,hz⟩:=I.list hq;obtain⟨o,n,e,hc,_⟩:=p;exact IsiPair.list_list e hc ⟨.bl true,H,I,rfl,q⟩
theorem ib:dz X (.builtin "isinstance") (fun xs H Q=>∃a ys,xs=[.ref a,.ty "tuple"]/\SqT X.K H a ys/\Q (.bl true) H):=by
 intro pins s σ H xs us Q I r h;obtain⟨a,ys,rfl,hq,q⟩:=h;cases r with
 | cons r1 r =>
  cases r with
  | cons r2 r =>
   cases r;cases r1;cases r2;obtain⟨its,rv,p,hz⟩:=I.tuple hq;obtain⟨o,e,hc,_⟩:=p;exact IsiPair.tuple_tuple e hc ⟨.bl true,H,I,rfl,q⟩
theorem nh:dz X (.builtin "isinstance") (fun xs H Q=>∃z,xs=[.str z,.ty "str"]/\Q (.bl true) H):=by
 intro pins s σ H xs us Q I r h;obtain⟨z,rfl,q⟩:=h;cases r with
 | cons r1 r =>
  cases r with
  | cons r2 r =>
   cases r;obtain⟨t,rfl⟩:=r1;cases r2;exact IsiPair.str_str ⟨.bl true,H,I,rfl,q⟩
end
theorem a3q(t:SetTable)(es:Array (Int×HX))(h:Int)(x:HX):(layNew t es h x).2.1.led=t.led:=by
 unfold layNew;split
 . dsimp only;unfold SetTable.orStandIn;split<;>rfl
 . rfl
theorem rg{t t':SetTable}{hs:Array Int}{n:Nat}{o:Array Nat}(h:t.relaid hs n=some (t',o)):t'.led=t.led/\t'.plain=t.plain:=by
 unfold SetTable.relaid SetTable.laid at h;cases e:SetTable.layClean (SetTable.sizeAbove n-1) hs with
 | none=>rw[e] at h;cases h
 | some ow =>
  rw[e] at h;have h':=Ay h;cases h';exact⟨rfl,rfl⟩
theorem ze(t:SetTable)(es:Array (Int×HX))(n:Nat):(relayAll t es n).2.1.led=t.led:=by
 unfold relayAll;split
 . rename_i t' o e;dsimp only;split
   . exact (rg e).1
   . rfl
 . rfl
theorem w9(t:SetTable)(es:Array (Int×HX))(n:Nat)(hp:(relayAll t es n).2.1.plain=true):t.plain=true:=by
 unfold relayAll at hp;split at hp
 . rename_i t' o e;dsimp only at hp;split at hp
   . rw[<- (rg e).2];exact hp
   . cases hp
 . cases hp
def js:HX->Str
 | .str x _=>x
 | _=>⟨#[]⟩
def SSet(P:IC)(w:IF)(h:IJ)(a:HW)(ss:List Str):Prop :=
 ∃o es ep t,h.get? a=some o/\o.ExactSet/\o.data=.set es ep t/\ElemsOf (IT P w) es.toList/\es.toList.map (fun e=>js e.2)=ss/\ss.Nodup/\es.size<scanBound/\t.fits es.size=true/\
  t.led = !w.params.followText "set-order" /\ (1<=es.size->t.plain=false)
theorem a5s{P:IC}{w:IF}{x:Str}{v:HX}(h:(IT P w).is x v=true):∃u,v=.str x u:=FK h
theorem xb{P:IC}{w:IF}{l:List (Int×HX)}(h:ElemsOf (IT P w) l){e:Int×HX}(he:e∈l):∃u,e.2=.str (js e.2) u:=by
 obtain⟨⟨k,hk,_⟩,_⟩:=h e he;obtain⟨u,hu⟩:=a5s hk;exact⟨u,by rw[hu];rfl⟩
theorem a6x{P:IC}{w:IF}{l:List (Int×HX)}(h:ElemsOf (IT P w) l)(x:Str):(l.findIdx? (fun e=>(IT P w).is x e.2)).isSome=decide (x∈l.map fun e=>js e.2):=by
 rw[Cm,List.findIdx?_isSome,GJ,decide_eq_true_eq,List.mem_map];constructor
 . rintro⟨e,he,hk⟩;obtain⟨u,hu⟩:=a5s hk;exact⟨e,he,by rw[hu];rfl⟩
 . rintro⟨e,he,rfl⟩;obtain⟨u,hu⟩:=xb h he;refine⟨e,he,?_⟩;rw[hu];exact E9 _ _ _ _
section
variable{P:IC}{w:IF}{A:IK}{E:HX->HZ->Prop}{s:HZ}
theorem a6h{a:HW}{ss:List Str}{x:Str}{u:Tok}{Q:Bool->HZ->Prop}(hS:SSet P w s.heap a ss)(hroom:ss.length+1<scanBound)(h:∀h' ss' b,CZ a s.heap h'->SSet P w h' a ss'->(if x∈ss then ss'=ss else ss'.Perm (ss++[x]))->Q b {s with heap:=h'}):
 IB (ID P w) A (setAddHashed a (.str x u) (hashStr w x)) Q E s:=by
 obtain⟨o,es,ep,t,ho,hex,hd,hel,hss,hnd,hb,hf,hled,hpl⟩:=hS;have hkey:(IT P w).is x (.str x u)=true:=E9 _ _ _ _;have hn:es.size=ss.length:=by rw[<- hss,Ab,Bp]
 unfold setAddHashed setAddHashedIn;refine BO (Ad (CW ho hd hf ?_));dsimp only;rw[byScan_of (knd:=IT P w) rfl hb hel];simp only[↓reduceIte];unfold setAddByScan;refine Ad ?_;refine Ad (CG ?_);refine Ad (wpAny_setScan_of (knd:=IT P w) hkey ho hd hf hel ?_);have hfm:=a6x hel x;rw[hss] at hfm;cases hr:List.findIdx? (fun e=>(IT P w).is x e.2) es.toList with
 | some j =>
  dsimp only;rw[hr] at hfm;have hx:x∈ss:=of_decide_eq_true (Eq.symm hfm);refine Ai (Ai ?_);have:=h s.heap ss false (Heap.SameBut.refl a s.heap) ⟨o,es,ep,t,ho,hex,hd,hel,hss,hnd,hb,hf,hled,hpl⟩ (by rw[if_pos hx]);exact this
 | none =>
  dsimp only;rw[hr] at hfm;have hx:x∉ss:=of_decide_eq_false (Eq.symm hfm);have hgw:∀(b:Bool) {s₁:HZ} {Q':Unit->HZ->Prop},Q' () s₁->IB (ID P w) A (match b with|true=>rule "set.scan.the-table-gave-way" | false=>pure ()) Q' E s₁ :=
   fun b s₁ Q' hq=>by cases b<;>first|exact Ai hq|exact CG hq
  have hperm:=layNew_perm t es (hashStr w x) (.str x u);have hfits:=layNew_fits t es (hashStr w x) (.str x u);have hled1:=a3q t es (hashStr w x) (.str x u);show IB (ID P w) A _ _ E s;have hash:(IT P w).hash x=hashStr w x:=rfl
  try rw[hash]
  generalize hL:layNew t es (hashStr w x) (.str x u)=L at hperm hfits hled1 |-;obtain⟨es1,t1,wasDummy,gave⟩:=L;dsimp only at hperm hfits hled1 |-;rw[Gk] at hperm;have hel1:ElemsOf (IT P w) es1.toList:=(ElemsOf.push (knd:=IT P w) hel hkey rfl).perm hperm;have hss1:(es1.toList.map fun e=>js e.2).Perm (ss++[x]):=by
   have:=hperm.map (fun e:Int×HX=>js e.2);rw[Al,hss] at this;exact this
  have hsz1:es1.size=ss.length+1:=by rw[<- Bp,hperm.length_eq,Ae,Bp,hn];rfl
  have hb1:es1.size<scanBound:=by rw[hsz1];exact hroom
  have hnd1:(es1.toList.map fun e=>js e.2).Nodup:=by
   refine hss1.nodup_iff.mpr ?_;rw[Ce];exact⟨hnd,by simp,fun y hy z hz e=>by rw[Ax.mp hz] at e;exact hx (e ▸ hy)⟩
  refine Ad (hgw _ ?_);have tail:∀t2:SetTable,t2.fits es1.size=true->t2.led=t.led->t2.plain=false->∀(g:Bool->Sem Unit),(∀(b:Bool) (s₁:HZ) (Q':Unit->HZ->Prop),Q' () s₁->IB (ID P w) A (g b) Q' E s₁)->
   IB (ID P w) A (do
    storeSet a es1 t2
    if (!wasDummy && t2.tooFull)=true then do
        g (relayAll t2 es1 (Ct es1.size)).2.2
        storeSet a (relayAll t2 es1 (Ct es1.size)).1 (relayAll t2 es1 (Ct es1.size)).2.1
        pure (some true)
     else pure (some true)) (fun r s'=>r=some true/\∃h' ss',s'={s with heap:=h'}/\CZ a s.heap h'/\SSet P w h' a ss'/\ss'.Perm (ss++[x])) E s:=by
   intro t2 hf2 hl2 hp2 g hg;refine Ad (Gm ho hd ?_ (E2 hb1));have ho1:(s.heap.update a (DU es1 t2)).get? a=some {o with data:=.set es1 (ep+1) t2}:=by
    have:=BU (DU es1 t2) ho (by rw[FX es1 t2 hd];rfl);rw[FX es1 t2 hd] at this;exact this
   have hsb1:=Dl s.heap a (DU es1 t2);split
   . have hp:=relayAll_perm t2 es1 (Ct es1.size);have hfr:=relayAll_fits t2 es1 (Ct es1.size);have hlr:=ze t2 es1 (Ct es1.size);have hpr:=w9 t2 es1 (Ct es1.size);generalize hRl:relayAll t2 es1 (Ct es1.size)=Rl at hp hfr hlr hpr |-;obtain⟨es2,t3,gave2⟩:=Rl;dsimp only at hp hfr hlr hpr |-;have hsz:es2.size=es1.size:=by rw[<- Bp,hp.length_eq,Bp]
     have hb2:es2.size<scanBound:=by rw[hsz];exact hb1
     refine Ad (hg _ _ _ ?_);refine Ad (Gm ho1 rfl ?_ (E2 hb2));have ho2:((s.heap.update a (DU es1 t2)).update a (DU es2 t3)).get? a=some {o with data:=.set es2 (ep+1+1) t3}:=by
      have:=BU (DU es2 t3) ho1 (by rw[FX es2 t3 rfl];rfl);rw[FX (o:={o with data:=.set es1 (ep+1) t2}) es2 t3 rfl] at this;exact this
     have hss2:=hp.map (fun e:Int×HX=>js e.2);refine Ai ⟨rfl,_,es2.toList.map (fun e=>js e.2),rfl,hsb1.trans (Dl _ a _),⟨_,es2,ep+1+1,t3,ho2,hex,rfl,hel1.perm hp,rfl,hss2.nodup_iff.mpr hnd1,hb2,hfr,hlr.trans (hl2.trans hled),fun _=>?_⟩,hss2.trans hss1⟩;cases hq:t3.plain with
     | false=>rfl
     | true=>rw[hpr hq] at hp2;cases hp2
   . exact Ai ⟨rfl,_,es1.toList.map (fun e=>js e.2),rfl,hsb1,⟨_,es1,ep+1,t2,ho1,hex,rfl,hel1,rfl,hnd1,hb1,hf2,hl2.trans hled,fun _=>hp2⟩,hss1⟩
  have fin:∀s':HZ,(∃h' ss',s'={s with heap:=h'}/\CZ a s.heap h'/\SSet P w h' a ss'/\ss'.Perm (ss++[x]))->Q true s':=by
   rintro s' ⟨h',ss',rfl,hsb,hS',hp'⟩;exact h h' ss' true hsb hS' (by rw[if_neg hx];exact hp')
  split
  . refine Ad ?_;rw[hashByValue_scannable 8 (x:=.str x u) rfl];refine Ai ?_;dsimp only[plainKind];simp only[BX,if_false];refine BH (tail {t1 with plain:=false} (SetTable.fits_plain_off hfits) hled1 rfl _ ?_) (fun r s' hq=>?_) fun _ _ e=>e
    . intro b s₁ Q' hq;cases b<;>first|exact Ai hq|exact CG hq
    . obtain⟨rfl,hq⟩:=hq;exact Ai (fin s' hq)
  . rename_i hnp;refine Ad (Ai ?_);simp only[↓reduceIte];refine BH (tail t1 hfits hled1 (by simpa using hnp) _ ?_) (fun r s' hq=>?_) fun _ _ e=>e
    . intro b s₁ Q' hq;cases b<;>first|exact Ai hq|exact CG hq
    . obtain⟨rfl,hq⟩:=hq;exact Ai (fin s' hq)
end
inductive Dd:List Str->List Str->Prop
 | nil:Dd [] []
 | old{xs ss:List Str}{x:Str}:Dd xs ss->x∈ss->Dd (xs++[x]) ss
 | new{xs ss ss':List Str}{x:Str}:Dd xs ss->x∉ss->ss'.Perm (ss++[x])->Dd (xs++[x]) ss'
theorem Dd.mem{xs ss:List Str}(h:Dd xs ss):∀y,y∈ss↔y∈xs:=by
 induction h with
 | nil=>intro y;exact Hv
 | old d hx ih =>
  rename_i zs ss x;intro y;rw[ih y,Aq,Ax];constructor
  . exact .inl
  . rintro (q|rfl)
    . exact q
    . exact (ih y).mp hx
 | new d hx hp ih =>
  rename_i zs ss ss' x;intro y;rw[hp.mem_iff,Aq,Aq,ih y]
theorem Dd.nodup{xs ss:List Str}(h:Dd xs ss):ss.Nodup:=by
 induction h with
 | nil=>exact Fo
 | old d hx ih=>exact ih
 | new d hx hp ih =>
  rename_i zs ss ss' x;refine hp.nodup_iff.mpr (Ce.mpr ⟨ih,by simp,fun y hy z hz e=>?_⟩);rw[Ax.mp hz] at e;exact hx (e ▸ hy)
theorem Dd.len{xs ss:List Str}(h:Dd xs ss):ss.length<=xs.length:=by
 induction h with
 | nil=>exact Ar _
 | old d hx ih=>rw[Ae];exact Aw ih (CN _ _)
 | new d hx hp ih=>rw[hp.length_eq,Ae,Ae];exact DV ih _
theorem wj:∀{vs:List HX}{xs:List Str},StrsAre vs xs->∀(i:Nat) (v:HX),vs[i]?=some v->∃x t,xs[i]?=some x/\v=.str x t
 | _,_,.nil,i,v,h=>by simp at h
 | _,_,.cons x t r,0,v,h=>by simp at h;exact⟨x,t,rfl,h.symm⟩
 | _,_,.cons x t r,i+1,v,h=>by
  obtain⟨y,u,e1,e2⟩:=wj r i v (by simpa using h);exact⟨y,u,by simpa using e1,e2⟩
section
variable{P:IC}{w:IF}{A:IK}{R:Result->HZ->Prop}{I:HW}{fp wr:List HW}{G:Array GenState->Array GenState->Prop}{n:Nat}{Pv:Nat->HX->Prop}{St:Nat->HZ->Prop}
theorem SSet.at{h h':IJ}{a:HW}{ss:List Str}(hS:SSet P w h a ss)(k:∀o,h.get? a=some o->h'.get? a=some o):SSet P w h' a ss:=by
 obtain⟨o,es,ep,tb,ho,rest⟩:=hS;exact⟨o,es,ep,tb,k o ho,rest⟩
theorem o0(W:WalksS P w A.in1 I fp wr G n Pv St)(S:HW)(hSf:S∉fp)(xs:List Str)(hn:xs.length=n)(hval:∀i v,Pv i v->∃x t,xs[i]?=some x/\v=.str x t)(hb:n+1<scanBound):
 ∀(k i:Nat) (s:HZ) (ss:List Str),n-i=k->i<=n->St i s->SSet P w s.heap S ss->Dd (xs.take i) ss->
   (∀s' ss',Moved (S::wr) G s s'->SSet P w s'.heap S ss'->Dd xs ss'->R (.ok (.ret .none)) s')->
   IY (ID P w) A (.builtin "set.update.loop" ⟨[.ref S,.ref I],[]⟩) R s:=by
 have hSw:S∉wr:=fun h=>hSf (W.sub _ h);have hsub:∀b∈wr,b∈S::wr:=fun b hb=>Bl _ hb;intro k;induction k with
 | zero =>
  intro i s ss hk hi hst hS hd hR;have hin:i=n:=by omega
  subst hin;refine Cf Du ?_;rw[BZ Cv _];show IB _ A.in1 (Ib (.ref I)>>=_) _ _ s;refine Ad (W.done s _ _ hst fun s' hm=>?_);show IB _ A.in1 (ret Value.none) _ _ s';refine Ai (hR s' ss (hm.mono hsub) (hS.at fun o e=>hm.heap S _ hSw e) ?_);rw[Bf (HG hn)] at hd;exact hd
 | succ k ih =>
  intro i s ss hk hi hst hS hd hR;have hlt:i<n:=by omega
  refine Cf Du ?_;rw[BZ Cv _];show IB _ A.in1 (Ib (.ref I)>>=_) _ _ s;refine Ad (W.item i s _ _ hlt hst fun v s' hP hst' hm=>?_);obtain⟨x,t,hx,rfl⟩:=hval i v hP;have hS':SSet P w s'.heap S ss:=hS.at fun o e=>hm.heap S _ hSw e;show IB _ A.in1 (holding [Value.str x t] (setAdd S (.str x t))>>=_) _ _ s';refine Ad (BO ?_);unfold setAdd;refine BO ?_;refine Ad ((IT P w).pyHash (k:=x) (E9 _ _ _ _) ?_);have hl:ss.length<=i:=by have:=hd.len;rw[AX] at this;omega
  refine a6h (s:={s' with toks:=s'.toks+1}) hS' (by omega) fun h' ss' b hsb hS2 hss=>?_;have hd':Dd (xs.take (i+1)) ss':=by
   have e:xs.take (i+1)=xs.take i++[x]:=by rw[Bn,hx];rfl
   rw[e];by_cases hm:x∈ss
   . rw[if_pos hm] at hss;rw[hss];exact .old hd hm
   . rw[if_neg hm] at hss;exact .new hd hm hss
  refine Ai ⟨CQ Cv _,ih (i+1) _ ss' (by omega) hlt (W.frame _ s' _ _ hst' (CU _) fun b hb o e=>?_) hS2 hd' fun s'' ss'' hm'' hS'' hd''=>?_⟩
  . rw[hsb.2 b (fun h:b=S=>hSf (by rw[<- h];exact hb))];exact e
  . refine hR s'' ss'' (Moved.trans W.gtrans ((hm.mono hsub).then_heap (CU _) fun b o hb e=>?_) hm'') hS'' hd'';rw[hsb.2 b (fun h:b=S=>hb (by rw[h];exact By))];exact e
end
section
variable{P:IC}{w:IF}{A:IK}{E:HX->HZ->Prop}{s:HZ}
theorem nj(a:HX){Q₁:HX->HZ->Prop}(h:Q₁ (.ref s.heap.objs.size) {s with heap:=s.heap.push {cls:=.type "set",dict:=none,data:=.set #[] 0 (.fresh 0 0 (!w.params.followText "set-order"))}}):
 IY (ID P w) A (.call (.builtin "set.__new__") ⟨[.type "set",a],[]⟩) (wants Q₁ E) s:=by
 refine EX ?_;show IB _ A.in1 (do checkBuiltinCall "set.__new__" ⟨[.type "set",a],[]⟩;again (.builtin "set.__new__" ⟨[.type "set",a],[]⟩)) _ _ s;refine Ad (Gx (PySem.F.newCall_set_1 a) (Ai ⟨CQ Fp _,Cf PySem.F.entry_set_new ?_⟩));rw[BZ Fp _];unfold Builtin.«set.__new__» Builtin.Frozenset.newClass;have hsub:=sub_set_self;obtain⟨hp,g,d,tk,os⟩:=s;dsimp only
 wp_walk
 refine EF (Ai ?_);dsimp only;simp only[newObj];refine Ad (wpAny_alloc (Ai ?_));exact Ai h
set_option maxHeartbeats 16000000 in
theorem yd{l:HW}{items:Array HX}{xs:List Str}{Q:HX->HZ->Prop}(hh:A.handled=none)(hl:s.heap.IsList l items)(hi:StrsAre items.toList xs)(hb:items.size+1<scanBound)(h:∀(h':IJ) (tk:Nat) (ss:List Str),SSet P w h' s.heap.objs.size ss->Dd xs ss->(∀b o,b<s.heap.objs.size->s.heap.get? b=some o->h'.get? b=some o)->Q (.ref s.heap.objs.size) {s with heap:=h',toks:=tk}):
 IB (ID P w) A (call (.type "set") [.ref l]) Q E s:=by
 obtain⟨c,tl,hmro⟩:=Bj.mro;have hmade:=Bj.made;have hsub:=Bj.sub;refine Hg (EX ?_);show IB _ _ (callAny (.type "set") _) _ _ _;refine Ai ⟨FY _ (by decide),Cf ER ?_⟩;rw[FZ (Fq "set" [.ref l] []) rfl];have h1:=Bj.notType;have h2:=Bj.canCreate;have hct:=Fi (.ref l)
 repeat (any_goals (first|assumption|wp_step))
 refine CH (nj (.ref l) (E:=E) (Q₁:=fun obj s₁=>obj=.ref s.heap.objs.size/\s₁={s with heap:=s.heap.push {cls:=.type "set",dict:=none,data:=.set #[] 0 (.fresh 0 0 (!w.params.followText "set-order"))}}) ⟨rfl,rfl⟩) fun r s₁ hr=>?_;cases r with
 | error e=>exact hr
 | ok fl =>
  cases fl with
  | ret obj =>
   obtain⟨rfl,rfl⟩:=hr;generalize hled:(!w.params.followText "set-order")=led;have hS:(s.heap.push {cls:=.type "set",dict:=none,data:=.set #[] 0 (.fresh 0 0 led)}).get? s.heap.objs.size=some {cls:=.type "set",dict:=none,data:=.set #[] 0 (.fresh 0 0 led)}:=AE _ rfl;have hT:Ew {s with heap:=s.heap.push {cls:=.type "set",dict:=none,data:=.set #[] 0 (.fresh 0 0 led)}} (.ref s.heap.objs.size) "set" := ⟨_,hS,rfl⟩
   have hli:=Bj.init.lookup;have hbi:=Bj.init.bind (.ref s.heap.objs.size)
   repeat (any_goals (first|assumption|wp_step))
   refine CH (DW (R:=wants (fun r s₂=>r=.none/\∃h' tk ss,s₂={s with heap:=h',toks:=tk}/\SSet P w h' s.heap.objs.size ss/\Dd xs ss/\
    (∀b o,b<s.heap.objs.size->s.heap.get? b=some o->h'.get? b=some o)) E) Bj.init.plain Fj (GO hT ?_)) fun r₂ s₂ hr₂=>?_
   . obtain⟨ol,hol,hcl,nl,hdl⟩:=hl;obtain⟨ocls,odict,odata,oslots⟩:=ol;simp only at hcl hdl;subst hcl;subst hdl;have hol':(s.heap.push {cls:=.type "set",dict:=none,data:=.set #[] 0 (.fresh 0 0 led)}).get? l=some {cls:=.type "list",dict:=odict,data:=.seq items nl,slots:=oslots}:=Af _ hol;have hsls:=PySem.F.sub_list_set;have hslf:=PySem.F.sub_list_frozenset;have hne:(Value.type "list"==Value.type "dict")=false:=by decide
     have hl1:(s.heap.push {cls:=.type "set",dict:=none,data:=.set #[] 0 (.fresh 0 0 led)}).IsList l items:=⟨_,hol',rfl,nl,rfl⟩
     unfold Builtin.«set.__init__» noKeywords Eg;generalize hPI:pyIter=PI
     wp_walk
     subst hPI;refine DC hl1 ?_;refine Ad (Ft ?_);have hlS:l<s.heap.objs.size:=AC hol;have hh3:A.in1.in1.in1.handled=none:=by simp[hh]
     have hneI:l≠(s.heap.push {cls:=.type "set",dict:=none,data:=.set #[] 0 (.fresh 0 0 led)}).objs.size:=by
      rw[Bs];exact AL (BR hlS)
     have hSf:s.heap.objs.size∉[(s.heap.push {cls:=.type "set",dict:=none,data:=.set #[] 0 (.fresh 0 0 led)}).objs.size,l]:=by
      rw[Bs];simp only[Am,Ax,Au,or_false,not_or];exact⟨AL (Dh _),BW hlS⟩
     have hlen:xs.length=items.size:=by have:=hi.length;simpa using this.symm
     have hval:∀(i:Nat) (v:HX),items[i]?=some v->∃x t,xs[i]?=some x/\v=.str x t:=fun i v hv=>wj hi i v (by rw[BK];exact hv);refine o0 ((HV hh3 _ l hneI items).toS) s.heap.objs.size hSf xs hlen hval hb (items.size-0) 0 _ [] (by omega) (AG _)
      ⟨⟨_,AE _ rfl,rfl,rfl⟩,(hl1.push _)⟩ ?hS0 (by rw[Eh];exact .nil) ?hR
     case hS0 =>
      have hget:((s.heap.push {cls:=.type "set",dict:=none,data:=.set #[] 0 (.fresh 0 0 led)}).push {cls:=.type "list_iterator",data:=.fields #[.ref l,.int 0 0]}).get? s.heap.objs.size
       =some {cls:=.type "set",dict:=none,data:=.set #[] 0 (.fresh 0 0 led)}:=Af _ hS
      exact⟨_,#[],0,_,hget,⟨rfl,rfl,rfl⟩,rfl,fun e he=>by simp at he,rfl,Fo,by decide,by rfl,hled.symm,fun q=>absurd q (by simp)⟩
     case hR =>
      intro s' ss' hm hS' hd';obtain⟨h',g',d',tk',os'⟩:=s';have eg:g'=s.gens:=hm.gens;have ed:d'=s.drawn:=hm.drawn;have eo:os'=s.os:=hm.os;subst eg;subst ed;subst eo;show IB _ _ _ _ _ _;refine Ai ?_;show IB _ _ (ret Value.none) _ _ _;refine Ai ⟨rfl,h',tk',ss',rfl,hS',hd',fun b o hb e=>?_⟩;have hb1:b≠s.heap.objs.size:=AL hb;have hb2:b≠(s.heap.push {cls:=.type "set",dict:=none,data:=.set #[] 0 (.fresh 0 0 led)}).objs.size:=by
       rw[Bs];exact AL (BR hb)
      exact hm.heap b o (by simp only[Am,Ax,Au,or_false,not_or];exact⟨hb1,hb2⟩) (Af _ (Af _ e))
   . cases r₂ with
     | error e=>exact hr₂
     | ok fl₂ =>
      cases fl₂ with
      | ret r =>
       obtain⟨rfl,h',tk,ss,rfl,hS',hd',hk'⟩:=hr₂
       repeat (any_goals (first|assumption|wp_step))
       exact h _ _ ss hS' hd' hk'
      | _=>exact hr₂.elim
  | _=>exact hr.elim
end
namespace SF
theorem entry_set_iter:entryFor table "set.__iter__"=some Builtin.«frozenset.__iter__» := entryFor_alias (id' := "frozenset.__iter__") (by kernel_rfl) rfl (by decide) (by kernel_rfl)
theorem slot_next:Slot "set_iterator" "__next__" "set_iterator.__next__" :=
 .of (owner := "set_iterator") (n := "__next__") (by rw[Dq,Cz];kernel_rfl) (by decide) (by decide) (by decide)
  (by first|exact .inl (by decide)|exact .inr (by decide)) (by rw[Ei];kernel_rfl)
theorem entry_next:entryFor table "set_iterator.__next__"=some Builtin.«set_iterator.__next__» := entryFor_of_tree (by kernel_rfl)
theorem args_next(a:HX):argsOk "set_iterator.__next__" ⟨[a],[]⟩:=by unfold argsOk;kernel_rfl
theorem slot_self:Slot "set_iterator" "__iter__" "set_iterator.__iter__" :=
 .of (owner := "set_iterator") (n := "__iter__") (by rw[Dq,Cz];kernel_rfl) (by decide) (by decide) (by decide)
  (by first|exact .inl (by decide)|exact .inr (by decide)) (by rw[Ei];kernel_rfl)
theorem entry_self:entryFor table "set_iterator.__iter__"=some Builtin.«dict_keyiterator.__iter__» :=
 entryFor_alias (id' := "dict_keyiterator.__iter__") (by kernel_rfl) rfl (by decide) (by kernel_rfl)
theorem args_self(a:HX):argsOk "set_iterator.__iter__" ⟨[a],[]⟩:=by unfold argsOk;kernel_rfl
theorem set_len:typeLookup (.type "set") "__len__"=pure (some (.builtin "set.__len__")):=by rw[Dq,Cz];kernel_rfl
theorem sub_set:isSubtype (.type "set") (.type "set")=pure true:=by rw[Ei];kernel_rfl
end SF
open PyProof.Rows
theorem qe{α:Type}:∀(l:List α) (i:Nat) (h:i<l.length),(l[i]::l.eraseIdx i).Perm l
 | x::r,0,_=>Ej _
 | x::r,i+1,h=>by
  have h':i<r.length:=by simpa using h
  exact (List.Perm.swap x r[i] (r.eraseIdx i)).trans ((qe r i h').cons x)
theorem t7{α:Type}(next:Nat->Nat):∀(fuel k:Nat) (left:List α) (out:Array α),left.length=fuel->(Ga next fuel k left out).toList.Perm (out.toList++left)
 | 0,k,left,out,h=>by
  have e:left=[]:=CV h;subst e;simp[Ga]
 | fuel+1,k,left,out,h=>by
  have hlt:next k % left.length<left.length:=Nat.mod_lt _ (by omega)
  unfold Ga;rw[Ag hlt];dsimp only;refine (t7 next fuel (k+1) _ _ (by rw[Dj hlt];omega)).trans ?_;rw[Gk,B5];refine List.Perm.append_left _ ?_;rw[Fu];exact qe _ _ hlt
theorem xo{α:Type}(next:Nat->Nat)(xs:Array α):(pickOrder next xs).toList.Perm xs.toList:=by
 have:=t7 next xs.size 0 xs.toList #[] (by simp)
 simpa [pickOrder] using this
section
variable{P:IC}{w:IF}{A:IK}{E:HX->HZ->Prop}
theorem a49{src:Source}{n:Nat}{s:HZ}{Q:Nat->HZ->Prop}(hn:n≠0)(h:∀i d,i<n->Q i {s with drawn:=d}):IB (ID P w) A (choose src n) Q E s:=by
 intro Γ p hΓ;unfold choose;rw[Sem.wp_choose];exact⟨hn,h _ _ (Nat.mod_lt _ (Nat.pos_of_ne_zero hn))⟩
theorem pj{α:Type}:∀(n:Nat) (xs:List α) (s:HZ) (Q:List α->HZ->Prop),xs.length=n->(∀ys d,ys.Perm xs->Q ys {s with drawn:=d})->IB (ID P w) A (drawOrder n xs) Q E s
 | 0,xs,s,Q,hl,h=>by
  have e:xs=[]:=CV hl;subst e;exact Ai (h [] s.drawn (Ej _))
 | n+1,[],s,Q,hl,h=>by simp at hl
 | n+1,x::r,s,Q,hl,h=>by
  unfold drawOrder;refine Ad (a49 (by rw[hl];exact Nat.succ_ne_zero n) fun i d hi=>?_);rw[Ag hi];dsimp only;refine Ad (pj n _ _ _ (by rw[Dj hi];omega) fun ys d' hp=>?_);refine Ai (h _ d' ?_);exact (hp.cons _).trans (qe _ _ hi)
end
theorem xz{α:Type}:∀l:List α,(Bg l.length).filterMap (fun i=>l[i]?)=l
 | []=>rfl
 | x::r=>by
  rw[AY,List.range_succ_eq_map,CO];simp only[ES];rw[FT];exact congrArg (x :: ·) (xz r)
def yq(first:HX)(i:Nat)(S:HW)(n ep:Nat):Obj:={cls:=.type "set_iterator",dict:=none,data:=.fields #[first,.int i 0,.ref S,.int n 0,.int ep 0],slots := #[]}
inductive Ord(w:IF)(S:HW)(es:Array (Int×HX))(ep:Nat)(t:SetTable)(h:IJ):HX->Nat->List HX->Prop
 | text (i:Nat):w.params.followText "set-order"=true->Ord w S es ep t h (.int 0 0) i ((pickOrder (w.params.setOrder S ep) es).toList.map (·.2))
 | drawn (i:Nat)(T:HW)(ps:List Nat):w.params.followText "set-order"=false->IsTup h T (ps.map fun (p:Nat)=>Value.int p 0).toArray->(∀p∈ps,p<es.size)->Ord w S es ep t h (.ref T) i (ps.filterMap fun p=>(es[p]?).map (·.2))
 | none (k i:Nat):w.params.followText "set-order"=false->es.size=0->Ord w S es ep t h (.int k 0) i []
 | one0 (e:Int×HX):w.params.followText "set-order"=false->es = #[e]->Ord w S es ep t h (.int 0 0) 0 [e.2]
 | one1 (e:Int×HX)(j:Nat):w.params.followText "set-order"=false->es = #[e]->t.place = #[j]->Ord w S es ep t h (.int (j+1:Nat) 0) 1 [e.2]
def a7i(P:IC)(w:IF)(S I T0:HW)(es:Array (Int×HX))(ep:Nat)(t:SetTable)(ord:List HX)(i:Nat)(h:IJ):Prop :=
 ∃first o,h.get? I=some (yq first i S es.size ep)/\h.get? S=some o/\o.data=.set es ep t/\Ord w S es ep t h first i ord/\∀T,first=.ref T->T=T0
section
variable{P:IC}{w:IF}{A:IK}{E:HX->HZ->Prop}{s:HZ}
theorem a9q(j:Nat):Ek #[j] (j+1)=1:=by
 simp[Ek,Gn]
theorem aaa(j:Nat):Ek #[j] 0=0:=by
 simp[Ek,Gn]
theorem rc{Q:Bool->HZ->Prop}(h:Q (w.params.followText "set-order") s):IB (ID P w) A setsByText Q E s:=by
 unfold setsByText;exact Ad (EF (Ai h))
theorem ur{S:HW}{es:Array (Int×HX)}{ep i k:Nat}{t:SetTable}{ord:List HX}{o:Obj}{Q:Option (HX×Nat)->HZ->Prop}(ho:s.heap.get? S=some o)(hd:o.data=.set es ep t)(hf:t.fits es.size=true)(hled:t.led = !w.params.followText "set-order")(od:Ord w S es ep t s.heap (.int (k:Int) 0) i ord)(h:∀k':Nat,(∀v,ord[i]?=some v->Ord w S es ep t s.heap (.int (k':Int) 0) (i+1) ord)->Q ((ord[i]?).map fun v=>(v,k')) s):IB (ID P w) A (setNext S k i ep) Q E s:=by
 unfold setNext;refine Ad (CW ho hd hf ?_);dsimp only;refine Ad (rc ?_);generalize hk:(k:Int)=ki at od;generalize hfst:Value.int ki 0=first at od
 cases od with
 | text i ht =>
  cases hfst;obtain rfl:k=0:=by omega
  rw[ht];simp only[if_true,bne_self_eq_false,BX,if_false];unfold setWalk;refine Ad ?_;refine Ad (CW ho hd hf ?_);dsimp only;refine Ad (rc ?_);rw[ht];simp only[if_true];refine Ad (EF (Ai ?_));refine Ai ?_;have:=h 0 fun v _=>Ord.text (i+1) ht;rw[Ah,BK] at this;rw[Option.map_map] at this;exact this
 | drawn=>cases hfst
 | none k' i ht h0 =>
  cases hfst;rw[ht];have e0:es = #[]:=DX h0;subst e0;have hl:t.led=true:=by rw[hled,ht];rfl
  rw[if_neg An];split
  . rename_i hdr;have hdr':(!t.plain && decide ((#[]:Array (Int×HX)).size>1))=true:=hdr;simp at hdr'
  . refine Ad (show IB (ID P w) A (if (!t.led && !(#[]:Array (Int×HX)).isEmpty)=true then unsupported "set:maker-not-led" else pure ()) _ _ _ from ?_);rw[hl];refine Ai (Ai ?_);have:=h k fun v e=>by simp at e
    simpa using this
 | one0 e ht he =>
  cases hfst;obtain rfl:k=0:=by omega
  rw[ht];subst he;have hl:t.led=true:=by rw[hled,ht];rfl
  have hpz:t.place.size=1:=by
   simp only[SetTable.fits,BC,beq_iff_eq] at hf;exact hf.1
  obtain⟨j,hj⟩:∃j,t.place = #[j]:=by
   generalize t.place=pl at hpz;obtain⟨l⟩:=pl
   match l,hpz with
   | [j],_=>exact⟨j,rfl⟩
  rw[if_neg An];split
  . rename_i hdr;have hdr':(!t.plain && decide ((#[e]:Array (Int×HX)).size>1))=true:=hdr;simp at hdr'
  . refine Ad (show IB (ID P w) A (if (!t.led && !(#[e]:Array (Int×HX)).isEmpty)=true then unsupported "set:maker-not-led" else pure ()) _ _ _ from ?_);rw[hl];refine Ai (Ai ?_);rw[hj,aaa];exact h (j+1) fun v _=>Ord.one1 e j ht rfl hj
 | one1 e j ht he hp =>
  cases hfst;obtain rfl:k=j+1:=by omega
  rw[ht];subst he;have hl:t.led=true:=by rw[hled,ht];rfl
  rw[if_neg An];split
  . rename_i hdr;have hdr':(!t.plain && decide ((#[e]:Array (Int×HX)).size>1))=true:=hdr;simp at hdr'
  . refine Ad (show IB (ID P w) A (if (!t.led && !(#[e]:Array (Int×HX)).isEmpty)=true then unsupported "set:maker-not-led" else pure ()) _ _ _ from ?_);rw[hl];refine Ai (Ai ?_);rw[hp,a9q];exact h 0 fun v e=>by simp at e
theorem Ord.keep{S:HW}{es:Array (Int×HX)}{ep i:Nat}{t:SetTable}{ord:List HX}{first:HX}{h h':IJ}(od:Ord w S es ep t h first i ord)(k:∀T o,first=.ref T->h.get? T=some o->h'.get? T=some o):Ord w S es ep t h' first i ord:=by
 cases od with
 | text i ht=>exact .text i ht
 | drawn i T ps ht hT hp =>
  obtain⟨o,e,c⟩:=hT;exact .drawn i T ps ht ⟨o,k T o rfl e,c⟩ hp
 | none kk i ht h0=>exact .none kk i ht h0
 | one0 e ht he=>exact .one0 e ht he
 | one1 e j ht he hp=>exact .one1 e j ht he hp
theorem Ord.kind{S:HW}{es:Array (Int×HX)}{ep i:Nat}{t:SetTable}{ord:List HX}{first:HX}{h:IJ}(od:Ord w S es ep t h first i ord):
 (∃k:Nat,first=.int (k:Int) 0)\/∃(T:HW) (ps:List Nat),first=.ref T/\w.params.followText "set-order"=false/\IsTup h T (ps.map fun (p:Nat)=>Value.int p 0).toArray/\(∀p∈ps,p<es.size)/\ord=ps.filterMap fun p=>(es[p]?).map (·.2):=by
 cases od with
 | text i ht=>exact .inl ⟨0,rfl⟩
 | drawn i T ps ht hT hp=>exact .inr ⟨T,ps,rfl,ht,hT,hp,rfl⟩
 | none k i ht h0=>exact .inl ⟨k,rfl⟩
 | one0 e ht he=>exact .inl ⟨0,rfl⟩
 | one1 e j ht he hp=>exact .inl ⟨j+1,rfl⟩
theorem Ord.step{S:HW}{es:Array (Int×HX)}{ep i:Nat}{t:SetTable}{ord:List HX}{T:HW}{h:IJ}(od:Ord w S es ep t h (.ref T) i ord):Ord w S es ep t h (.ref T) (i+1) ord:=by
 cases od with
 | drawn i T ps ht hT hp=>exact .drawn (i+1) T ps ht hT hp
end
theorem a0b{es:Array (Int×HX)}:∀{ps:List Nat},(∀p∈ps,p<es.size)->∀(i:Nat),(ps.filterMap fun p=>(es[p]?).map (·.2))[i]?=(ps[i]?).bind fun p=>(es[p]?).map (·.2)
 | [],_,i=>by simp
 | p::r,hp,i=>by
  have h1:p<es.size:=hp p (by simp);have e:es[p]?=some es[p]:=by simp[h1]
  rw[CO,e];cases i with
  | zero=>simp[e]
  | succ i=>simpa using a0b (fun q hq=>hp q (Bl _ hq)) i
section
variable{P:IC}{w:IF}{A:IK}
theorem a5l(hh:A.handled=none){S I:HW}{es:Array (Int×HX)}{ep:Nat}{t:SetTable}{ord:List HX}(fp:List HW)(hI:I∈fp)(hS:S∈fp)(hne:S≠I)(hf:t.fits es.size=true)(hled:t.led = !w.params.followText "set-order"){T0:HW}(hT:T0∈fp)(hTI:T0≠I):
 Walks P w A I fp [I] ord.length (fun i v=>ord[i]?=some v) (a7i P w S I T0 es ep t ord) where
 sub:=fun b hb=>by rw[Ax.mp hb];exact hI
 frame:=fun i h h' st hk=>by
  obtain⟨first,o,h1,h2,h3,h4,h5⟩:=st;exact⟨first,o,hk I hI _ h1,hk S hS _ h2,h3,h4.keep (fun T o e q=>hk T (by rw[h5 T e];exact hT) o q),h5⟩
 item:=fun i s Q E hi st hQ=>by
  obtain⟨first,o,h1,h2,h3,h4,h5⟩:=st;have ty:s.TypeIs (.ref I) "set_iterator" := ⟨_,h1,rfl⟩
  unfold Ib;refine Ad (Ex (B8 (name:=BP "__next__") ty SF.slot_next (BB SF.slot_next ty SF.entry_next ?_ (SF.args_next _))));show IB _ _ (fieldsOf (.ref I)>>=_) _ _ s;refine Ad (wpAny_fieldsOf h1 rfl ?_);show IB _ _ (setEntries S>>=_) _ _ s;refine Ad (Ed h2 h3 hf ?_);simp only[bne_self_eq_false,BX,if_false];have hv:ord[i]?=some ord[i]:=Ag hi;rcases h4.kind with⟨k,rfl⟩|⟨T,ps,rfl,ht,hTt,hps,hord⟩
  . show IB _ _ (setNext S (CS (k:Int)) (CS (i:Int)) (CS (ep:Int))>>=_) _ _ s;simp only[Bh];refine Ad (ur h2 h3 hf hled h4 fun k' hk'=>?_);rw[hv];show IB _ _ (setField (.ref I) 0 (Ih k')>>=_) _ _ s;refine Ad (Bz h1 (by simp) fun ha ha1 ha2=>?_);refine Ad (Bz ha1 (by simp) fun hb hb1 hb2=>?_);refine Ai ⟨_,rfl,Ai (hQ _ hb s.toks hv ⟨.int (k':Int) 0,o,hb1,?_,h3,(hk' _ hv).keep (fun T o e=>by cases e),(fun T e=>by cases e)⟩ fun b o hb' e=>?_)⟩
    . rw[hb2.2 S hne,ha2.2 S hne];exact h2
    . have:b≠I:=fun z=>hb' (by simp[z]);rw[hb2.2 b this,ha2.2 b this];exact e
  . have hTne:T≠I:=by rw[h5 T rfl];exact hTI
    have hg:=a0b hps i;rw[<- hord,hv] at hg;cases hpi:ps[i]? with
    | none=>rw[hpi] at hg;cases hg
    | some p =>
     rw[hpi] at hg;have hp:p<es.size:=hps p (Ak hpi);have hep:es[p]?=some es[p]:=by simp[hp]
     have hg':some ord[i]=(es[p]?).map (·.2):=hg;rw[hep] at hg';have hval:ord[i]=es[p].2:=Ay hg';show IB _ _ (seqItems? (.ref T)>>=_) _ _ s;obtain⟨oT,eT,cT,nT,dT⟩:=hTt;refine Ad (Ca eT dT ?_);dsimp only;have hpl:((ps.map fun (p:Nat)=>Value.int p 0).toArray)[CS (i:Int)]?=some (.int (p:Int) 0):=by
      rw[Bh,C0,Ah,hpi];rfl
     rw[hpl];show IB _ _ (setNextDrawn S (CS (p:Int)) (CS (ep:Int))>>=_) _ _ s;simp only[Bh];unfold setNextDrawn;refine Ad (Ad (CW h2 h3 hf ?_));simp only[bne_self_eq_false,BX,if_false];rw[hep];refine Ai ?_;refine Ad (Bz h1 (by simp) fun hb hb1 hb2=>?_);refine Ai ⟨_,rfl,Ai (hQ _ hb s.toks (by rw[hv,hval];rfl) ⟨.ref T,o,hb1,?_,h3,h4.step.keep (fun T' o e q=>?_),h5⟩ fun b o hb' e=>?_)⟩
     . rw[hb2.2 S hne];exact h2
     . cases e;rw[hb2.2 T hTne];exact q
     . have:b≠I:=fun z=>hb' (by simp[z]);rw[hb2.2 b this];exact e
 done:=fun s Q E st hQ=>by
  obtain⟨first,o,h1,h2,h3,h4,h5⟩:=st;have ty:s.TypeIs (.ref I) "set_iterator" := ⟨_,h1,rfl⟩
  have hv:ord[ord.length]?=none:=Cj (Ar _);have stop:∀h':IJ,(∀b o,b≠I->s.heap.get? b=some o->h'.get? b=some o)->IB (ID P w) A.in1 (do raiseNew (<- newExc (.type "StopIteration") []):Sem Fin) (fun _ _=>False)
   (fun x s'=>IB (ID P w) A (do let b<-isInstance x (.type "StopIteration");if b=true then pure Option.none else throw x) Q E s') {s with heap:=h'}:=by
   intro h' hk;refine Ad ?_;simp only[newExc,newTuple];refine Ad (Bm ?_ (by size_fits));refine Ad (m:=firstArgMember _ _) (Gx (a:=Value.none) (by first|rfl|(simp only[firstArgMember];rfl)) ?_);refine Bm ?_ (by size_fits);simp only[raiseNew];refine Ad (wpAny_handled ?_);rw[show A.in1.handled=none from hh];refine Ad (Ai (wpAny_throw ?_));refine Ad (EG (T := "StopIteration") (b:=true) ⟨_,AE _ rfl,rfl⟩ isSubtype_stop ?_);exact Ai (hQ _ _ fun b o hb e=>Af _ (Af _ (hk b o (fun z=>hb (by simp[z])) e)))
  unfold Ib;refine Ad (Ex (B8 (name:=BP "__next__") ty SF.slot_next (BB SF.slot_next ty SF.entry_next ?_ (SF.args_next _))));show IB _ _ (fieldsOf (.ref I)>>=_) _ _ s;refine Ad (wpAny_fieldsOf h1 rfl ?_);show IB _ _ (setEntries S>>=_) _ _ s;refine Ad (Ed h2 h3 hf ?_);simp only[bne_self_eq_false,BX,if_false];rcases h4.kind with⟨k,rfl⟩|⟨T,ps,rfl,ht,hTt,hps,hord⟩
  . show IB _ _ (setNext S (CS (k:Int)) (CS (ord.length:Int)) (CS (ep:Int))>>=_) _ _ s;simp only[Bh];refine Ad (ur h2 h3 hf hled h4 fun k' hk'=>?_);rw[hv];show IB _ _ (setField (.ref I) 2 .none>>=_) _ _ s;refine Ad (Bz h1 (by simp) fun ha ha1 ha2=>?_);refine BH (stop ha fun b o hb e=>by rw[ha2.2 b hb];exact e) (fun _ _ z=>z.elim) fun x s' z=>?_;exact z
  . have hpi:ps[ord.length]?=none:=by
     have hg:=a0b hps ord.length;rw[<- hord,hv] at hg;cases hpi:ps[ord.length]? with
     | none=>rfl
     | some p =>
      rw[hpi] at hg;have hp:p<es.size:=hps p (Ak hpi);have hep:es[p]?=some es[p]:=by simp[hp]
      have hg':(none:Option HX)=(es[p]?).map (·.2):=hg;rw[hep] at hg';cases hg'
    show IB _ _ (seqItems? (.ref T)>>=_) _ _ s;obtain⟨oT,eT,cT,nT,dT⟩:=hTt;refine Ad (Ca eT dT ?_);dsimp only;have hpl:((ps.map fun (p:Nat)=>Value.int p 0).toArray)[CS (ord.length:Int)]?=none:=by
     rw[Bh,C0,Ah,hpi];rfl
    rw[hpl];show IB _ _ (setField (.ref I) 0 (Ih 0)>>=_) _ _ s;refine Ad (Bz h1 (by simp) fun ha ha1 ha2=>?_);refine Ad (Bz ha1 (by simp) fun hb hb1 hb2=>?_);refine BH (stop hb fun b o hb' e=>by rw[hb2.2 b hb',ha2.2 b hb'];exact e) (fun _ _ z=>z.elim) fun x s' z=>?_;exact z
 self:=fun i s Q E st hQ=>by
  obtain⟨first,o,h1,h2,h3,h4,h5⟩:=st;have ty:s.TypeIs (.ref I) "set_iterator" := ⟨_,h1,rfl⟩
  refine Gp ty SF.slot_self (BB SF.slot_self ty SF.entry_self ?_ (SF.args_self _));show IB _ _ (ret (.ref I)) _ _ s;exact Ai ⟨_,rfl,"set_iterator",_,ty,SF.slot_next.lookup,hQ⟩
theorem a0u{E:HX->HZ->Prop}{s:HZ}{S:HW}{ss:List Str}{Q:HX->HZ->Prop}(hS:SSet P w s.heap S ss)(h:∀(h':IJ) (d':Drawn) (I:HW) (fp:List HW) (ord:List HX) (St:Nat->IJ->Prop),(∀b o,s.heap.get? b=some o->h'.get? b=some o)->s.heap.objs.size<=I->I∈fp->(∀b∈fp,b<h'.objs.size/\(b=S\/s.heap.objs.size<=b))->
 (∀A':IK,A'.handled=none->Walks P w A' I fp [I] ord.length (fun i v=>ord[i]?=some v) St)->St 0 h'->(∃ys,StrsAre ord ys/\ys.Perm ss)->Q (.ref I) {s with heap:=h',drawn:=d'}):
 IB (ID P w) A (pyIter (.ref S)) Q E s:=by
 obtain⟨o,es,ep,t,ho,hex,hd,hel,hss,hnd,hb,hf,hled,hpl⟩:=hS;have ty:s.TypeIs (.ref S) "set" := ⟨o,ho,hex.1⟩
 have hlt:S<s.heap.objs.size:=AC ho;have hstr:∀l:List (Int×HX),(∀e∈l,e∈es.toList)->StrsAre (l.map (·.2)) (l.map fun e=>js e.2):=by
  intro l;induction l with
  | nil=>intro _;exact .nil
  | cons e r ih =>
   intro hm;obtain⟨u,hu⟩:=xb hel (hm e (by simp));have:=StrsAre.cons (js e.2) u (ih fun x hx=>hm x (Bl _ hx));rw[<- hu] at this;exact this
 refine Gp ty Fv (BB Fv ty SF.entry_set_iter ?_ (PySem.F.args_set_iter_1 _));show IB _ _ (EH S>>=_) _ _ s;unfold EH;refine Ad (Ad (Ed ho hd hf (Ai ?_)));unfold setDrawn;refine Ad (Ad (CW ho hd hf ?_));dsimp only;refine Ad (rc (Ai ?_));have make:∀(first:HX) (T0:HW) (ord:List HX) (h1:IJ) (d1:Drawn),(∀b ob,s.heap.get? b=some ob->h1.get? b=some ob)->s.heap.objs.size<=h1.objs.size->(∀T,first=.ref T->T=T0)->T0<h1.objs.size->(T0=S\/s.heap.objs.size<=T0)->Ord w S es ep t h1 first 0 ord->(∃ys,StrsAre ord ys/\ys.Perm ss)->
  Q (.ref h1.objs.size) {s with heap:=h1.push (yq first 0 S es.size ep),drawn:=d1}:=by
  intro first T0 ord h1 d1 hk hsz hT hT1 hT2 od hord
  have hne:S≠h1.objs.size:=AL (AH hlt hsz);have szp:(h1.push (yq first 0 S es.size ep)).objs.size=h1.objs.size+1:=Bs ..;refine h _ d1 h1.objs.size [h1.objs.size,S,T0] ord (a7i P w S h1.objs.size T0 es ep t ord) (fun b ob e=>Af _ (hk b ob e)) hsz (by simp) (fun b hb=>?_) (fun A' hA=>?_) ⟨first,o,AE _ rfl,Af _ (hk S o ho),hd,od.keep (fun T ob _ e=>Af _ e),hT⟩ hord
  . rw[szp];have hb':b=h1.objs.size\/b=S\/b=T0:=by simpa using hb
    rcases hb' with rfl|rfl|rfl
    . exact⟨Dh _,.inr hsz⟩
    . exact⟨BR (AH hlt hsz),.inl rfl⟩
    . exact⟨BR hT1,hT2⟩
  . exact a5l hA _ (by simp) (by simp) hne hf hled (by simp) (AL hT1)
 have plain0:∀(ord:List HX),Ord w S es ep t s.heap (.int 0 0) 0 ord->(∃ys,StrsAre ord ys/\ys.Perm ss)->Q (.ref s.heap.objs.size) {s with heap:=s.heap.push (yq (.int 0 0) 0 S es.size ep)}:=fun ord od hord =>
  make (.int 0 0) S ord s.heap s.drawn (fun _ _ e=>e) (Ar _) (fun T e=>by cases e) hlt (.inl rfl) od hord
 cases hbt:w.params.followText "set-order" with
 | true =>
  simp only[Bool.not_true,Fl,BX,if_false];refine Ad (Ai (Ad (E3 ho hd hf ?_)));refine Ad (Bm (Ai ⟨_,rfl,"set_iterator",_,⟨_,AE _ rfl,rfl⟩,SF.slot_next.lookup,?_⟩));refine plain0 _ (.text 0 hbt) ⟨_,hstr _ (fun e he=>(xo _ es).mem_iff.mp he),?_⟩;rw[<- hss];exact (xo _ es).map _
 | false =>
  show IB _ _ (if (!false && (!t.plain && decide (es.size>1)))=true then _ else _) _ _ s;by_cases h2:es.size>1
  . have hp0:t.plain=false:=hpl (by omega);rw[if_pos (by simp[hp0,h2])];refine Ad (pj es.size (Bg es.size) s _ (by simp) fun ps d hps=>?_);have hpsl:ps.length=es.size:=by rw[hps.length_eq,Bu]
    refine Ad (Bm ?_ ?_)
    . refine (Ad (E3 (s:={s with heap:=s.heap.push _,drawn:=d}) (Af _ ho) hd hf ?_));refine Ad (Bm (Ai ⟨_,rfl,"set_iterator",_,⟨_,AE _ rfl,rfl⟩,SF.slot_next.lookup,?_⟩));have hlp:∀p∈ps,p<es.size:=fun p hp=>CY.mp (hps.mem_iff.mp hp);refine make (.ref s.heap.objs.size) s.heap.objs.size (ps.filterMap fun p=>(es[p]?).map (·.2)) (s.heap.push _) d (fun b ob e=>Af _ e) (by rw[Bs];exact CU _) (fun T e=>by cases e;rfl) (by rw[Bs];exact Dh _) (.inr (Ar _))
       (.drawn 0 _ ps hbt ⟨_,AE _ rfl,rfl,_,rfl⟩ hlp) ?_
      have e1:(ps.filterMap fun p=>(es[p]?).map (·.2))=(ps.filterMap fun p=>es[p]?).map (·.2):=by rw[List.map_filterMap]
      have hpm:(ps.filterMap fun p=>es[p]?).Perm es.toList:=by
       have:=hps.filterMap (fun p=>es[p]?);have e2:=xz es.toList;simp only[BK,Bp] at e2;rw[e2] at this;exact this
      refine⟨_,by rw[e1];exact hstr _ (fun e he=>hpm.mem_iff.mp he),?_⟩;rw[<- hss];exact hpm.map _
    . have hz:ps.length<=HY:=by rw[hpsl];exact E2 hb
      show (ps.map _).toArray.size<=HY;rw[AB,Ab];exact hz
  . rw[if_neg (by simp[h2])];refine Ad (Ai (Ad (E3 ho hd hf ?_)));refine Ad (Bm (Ai ⟨_,rfl,"set_iterator",_,⟨_,AE _ rfl,rfl⟩,SF.slot_next.lookup,?_⟩));by_cases h1:es.size=0
    . refine plain0 [] (.none 0 0 hbt h1) ⟨[],.nil,?_⟩;rw[<- hss,DX h1];exact Ej _
    . obtain⟨e,he⟩:∃e,es = #[e]:=by
       obtain⟨l⟩:=es;have hl:l.length=1:=by
        have a1:¬ l.length>1:=h2;have a2:¬ l.length=0:=h1;omega
       obtain⟨e,rfl⟩:=List.length_eq_one_iff.mp hl;exact⟨e,rfl⟩
      refine plain0 [e.2] (.one0 e hbt he) ⟨[js e.2],hstr [e] (fun x hx=>by rw[he];exact hx),?_⟩;rw[<- hss,he];exact Ej _
theorem zk{E:HX->HZ->Prop}{s:HZ}{S:HW}{ss:List Str}{Q:List HX->HZ->Prop}(hh:A.handled=none)(hS:SSet P w s.heap S ss)(hl:ss.length<=HY)(h:∀(h':IJ) (d':Drawn) (tk:Nat) (ord:List HX) (ys:List Str),(∀b o,s.heap.get? b=some o->h'.get? b=some o)->s.heap.objs.size<=h'.objs.size->StrsAre ord ys->ys.Perm ss->Q ord {s with heap:=h',drawn:=d',toks:=tk}):
 IB (ID P w) A (collect (.ref S)) Q E s:=by
 obtain⟨o,es,ep,t,ho,hex,hd,hrest⟩:=id hS;have hlt:S<s.heap.objs.size:=AC ho;unfold collect;refine Ad (Ft (Cf entry_proto_collect' ?_));rw[BZ PySem.F.plain_proto_collect _];show IB _ A.in1 (newList []>>=fun l=>again (.builtin "list.__iadd__" ⟨[l,.ref S],[]⟩)) _ _ s;refine Ad (Bm ?_);refine Ai ⟨CQ ET _,Cf entry_list_iadd' ?_⟩;rw[BZ ET _];generalize hH:s.heap.push {cls:=.type "list",data:=.seq ([]:List HX).toArray}=H;have hHs:H.objs.size=s.heap.objs.size+1:=by rw[<- hH,Bs]
 have old:∀b ob,s.heap.get? b=some ob->H.get? b=some ob:=fun b ob e=>by rw[<- hH];exact Af _ e
 have hS1:SSet P w H S ss:=hS.at fun o e=>old S o e;have hD:H.get? s.heap.objs.size=some {cls:=.type "list",data:=.seq #[]}:=by rw[<- hH];exact AE _ rfl
 show IB _ A.in1 (Eo (.ref s.heap.objs.size) (.ref S) (.ref s.heap.objs.size)) _ _ {s with heap:=H};unfold Eo;refine Ad (Da (T := "set") (v:=.ref S) (show Ew {s with heap:=H} (.ref S) "set" from⟨o,old S o ho,hex.1⟩) ?_);have h1:EI (.ref s.heap.objs.size) (.ref S)=false:=by simp[EI,BW hlt]
 have h2:(Value.type "set"==Value.type "list")=false:=by decide
 have h3:(Value.type "set"==Value.type "tuple")=false:=by decide
 simp only[h1,h2,h3,Hz,BX,if_false];refine Ad (a0u (s:={s with heap:=H}) hS1 fun h' d' I fp ord St hk hI hIf hfp W st ⟨ys,hys,hp⟩=>?_);have ty':Ew {s with heap:=h',drawn:=d'} (.ref S) "set" := ⟨o,hk S o (old S o ho),hex.1⟩
 refine Ad (BO ?_);unfold Builtin.List.listLengthHint;refine Ad (wpAny_specialOf (T := "set") (v:=.ref S) ty' SF.set_len ?_)
 wp_delta
 refine Ad (EG (T := "set") (v:=.ref S) (b:=true) ty' SF.sub_set ?_);show IB _ A.in1 (typeOf (Value.ref S)>>=_) _ _ _;refine Ad (Da (T := "set") (v:=.ref S) ty' ?_);refine Ai ?_;have hDI:s.heap.objs.size≠I:=fun z=>by
  have:H.objs.size<=I:=hI;rw[hHs] at this;omega
 have hSf:s.heap.objs.size∉fp:=fun hb=>by
  rcases (hfp _ hb).2 with z|z
  . exact absurd z (BW hlt)
  . have:H.objs.size<=s.heap.objs.size:=z;rw[hHs] at this;omega
 have hlen:ord.length=ss.length:=by
  have a1:ord.length=ys.length:=hys.length;rw[a1,hp.length_eq]
 have key:∀(h1:IJ) (c₁:Nat),St 0 h1->(∀b ob,b≠s.heap.objs.size->h'.get? b=some ob->h1.get? b=some ob)->h1.get? s.heap.objs.size=some {cls:=.type "list",data:=.seq #[] c₁}->
  IY (ID P w) A (.builtin "list.extend.loop" ⟨[.ref s.heap.objs.size,.ref I,.ref s.heap.objs.size],[]⟩)
   (fun r s'=>r=.ok (.ret (.ref s.heap.objs.size))/\∃acc' c',s'.heap.get? s.heap.objs.size=some {cls:=.type "list",data:=.seq acc' c'}/\Q acc'.toList s') {s with heap:=h1,drawn:=d'}:=by
  intro h1 c₁ st1 hk1 hD1;refine codeAny_extend_loopS (W A.in1 hh).toS (by rw[hlen];exact hl) _ hSf _ ord.length 0 _ #[] c₁ rfl (AG _) st1 hD1 (ItemsOf.nil _) fun s' acc' c' hm hS' hacc=>?_;refine⟨rfl,acc',c',hS',?_⟩;have eacc:acc'.toList=ord:=by
   refine Gq fun i=>?_;rw[BK];by_cases hi:i<acc'.size
   . have e:acc'[i]?=some acc'[i]:=by simp[hi]
     rw[e,hacc.2 i _ e]
   . have hi':ord.length<=i:=by have:=hacc.1;omega
     rw[Cj hi'];simp;omega
  have heq:s'={s with heap:=s'.heap,drawn:=d',toks:=s'.toks}:=Moved.eq_with hm;rw[eacc,heq];refine h s'.heap d' s'.toks ord ys (fun b ob e=>?_) (B0 (AC hS')) hys hp;have hb1:b≠s.heap.objs.size:=AL (AC e);have hb2:b≠I:=fun z=>by
   have hz:H.objs.size<=b:=by rw[z];exact hI
   rw[hHs] at hz;exact Bt _ (AH (BR (AC e)) hz)
  exact hm.heap b ob (by simp[hb1,hb2]) (hk1 b ob hb1 (hk b ob (old b ob e)))
 have hD':h'.get? s.heap.objs.size=some {cls:=.type "list",data:=.seq #[]}:=hk _ _ hD;have fin:∀(h1:IJ) (c₁:Nat),St 0 h1->(∀b ob,b≠s.heap.objs.size->h'.get? b=some ob->h1.get? b=some ob)->h1.get? s.heap.objs.size=some {cls:=.type "list",data:=.seq #[] c₁}->∀(R:Result->HZ->Prop),
  (∀s' acc' c',s'.heap.get? s.heap.objs.size=some {cls:=.type "list",data:=.seq acc' c'}->Q acc'.toList s'->R (.ok (.ret (.ref s.heap.objs.size))) s')->
  IY (ID P w) A (.builtin "list.extend.loop" ⟨[.ref s.heap.objs.size,.ref I,.ref s.heap.objs.size],[]⟩) R {s with heap:=h1,drawn:=d'}:=by
  intro h1 c₁ a1 a2 a3 R hR;refine CH (key h1 c₁ a1 a2 a3) fun r s' ⟨e,acc',c',q1,q2⟩=>?_;subst e;exact hR s' acc' c' q1 q2
 have last:∀(R:Result->HZ->Prop),R=R->True:=fun _ _=>trivial;refine wpAny_ite_split (fun _=>?_) (fun _=>Ai ⟨CQ EA _,fin h' 0 st (fun b ob _ e=>e) hD' _ fun s' acc' c' q1 q2=>?_⟩)
 . refine Ad (CG ?_);refine Ad ?_;show IB _ _ (updateSeq s.heap.objs.size (·.push .none)>>=fun _=>updateSeq s.heap.objs.size (·.pop)) _ _ _;refine Ad (wpAny_updateSeq hD' rfl ?_);have hS₂:=BU (Dy (·.push Value.none)) hD' rfl;refine wpAny_updateSeq (hz:=by seq_fits) hS₂ rfl ?_;have hS₃:=BU (Dy (·.pop)) hS₂ rfl;refine Ai ⟨CQ EA _,fin _ _ ?_ (fun b ob hb e=>?_) hS₃ _ fun s' acc' c' q1 q2=>?_⟩
   . refine (W A.in1 hh).frame 0 _ _ st fun b hb o e=>?_;have hbS:b≠s.heap.objs.size:=fun z=>hSf (z ▸ hb);exact (Cg _ _ (BY hbS)).trans ((Cg _ _ (BY hbS)).trans e)
   . exact (Cg _ _ (BY hb)).trans ((Cg _ _ (BY hb)).trans e)
   . show IB _ A (load s.heap.objs.size>>=_) _ _ _;exact Ad (Hf q1 (Ai q2))
 . show IB _ A (load s.heap.objs.size>>=_) _ _ _;exact Ad (Hf q1 (Ai q2))
theorem a1a{E:HX->HZ->Prop}{s:HZ}{S:HW}{ss:List Str}{Q:HX->HZ->Prop}(hh:A.handled=none)(hS:SSet P w s.heap S ss)(h64:ss.length<64)(h:∀(h':IJ) (d':Drawn) (tk:Nat) (l:HW) (vs:List HX) (zs:List Str) (e:Nat),(∀b o,s.heap.get? b=some o->h'.get? b=some o)->s.heap.objs.size<=l->h'.get? l=some {cls:=.type "list",data:=.seq vs.toArray e}->StrsAre vs zs->zs.Perm ss->sortedS zs=true->
 Q (.ref l) {s with heap:=h',drawn:=d',toks:=tk}):
 IB (ID P w) A (call (.builtin "sorted") [.ref S]) Q E s:=by
 refine Calls.call_function_entry kind_sorted plain_sorted entry_sorted (args_sorted1 _) ?_;unfold Builtin.«sorted»;refine Ad (m:=checkCount "sorted" 1 1 _) (Ai ?_);refine Ad (zk (A:=A.in1) (show A.in1.handled=none from hh) hS (by rw[DH];omega) fun h1 d1 tk1 ord ys hk1 hsz1 hys hp1=>?_);have hn:ord.length<64:=by
  have:ord.length=ys.length:=hys.length;rw[this,hp1.length_eq];exact h64
 refine Ad (wpAny_newList ?_ (by rw[DH];omega));have hoL:(h1.push (seqObj "list" ord.toArray 0)).get? h1.objs.size=some (seqObj "list" ord.toArray 0):=AE _ rfl;show IB _ _ _ _ _ {s with heap:=h1.push (seqObj "list" ord.toArray 0),drawn:=d1,toks:=tk1};refine Ad (BO (BB slot_list_sort ⟨_,hoL,rfl⟩ entry_list_sort (list_sort_treeK strKind_oneLt hoL hys.keysOf (fun v₁ v₂ rest e=>keyKind_strs (by rw[<- e];exact hys)) hn fun st' a1 a2=>⟨_,rfl,?_⟩) (args_list_sort _)));obtain⟨zs,q1,q2,q3⟩:=sorted_out_str hys a1 a2;refine Ai ⟨_,rfl,?_⟩;obtain⟨e,he⟩:=sortedHeap_at (out:=(arrOf st').map (·.2)) hoL;refine h _ d1 tk1 h1.objs.size ((arrOf st').map (·.2)).toList zs e (fun b o q=>?_) hsz1 he q1 (q2.trans hp1) q3;have hb:=AC (hk1 b o q);rw[sortedHeap_old (AL hb) (by rw[Bs];exact BR hb)];exact Af _ (hk1 b o q)
end
section
variable{X:Cx}
def SetO(P:IC)(w:IF)(a:HW)(ss:List Str):HO:=.ext fun h=>SSet P w h a ss
theorem qw:∀{xs:List Str}{us:List HX},Vals (xs.map V.str) us->StrsAre us xs
 | [],_,h=>by cases h;exact .nil
 | x::r,_,h=>by
  cases h with
  | cons h1 h2=>obtain⟨t,rfl⟩:=h1;exact .cons x t (qw h2)
theorem xg:∀{us:List HX}{xs:List Str},StrsAre us xs->Vals (xs.map V.str) us
 | _,_,.nil=>.nil
 | _,_,.cons x t r=>.cons ⟨t,rfl⟩ (xg r)
theorem ua(hc:X.calm=true):dz X (.type "set") (fun vs H Q=>∃(a:HW) (xs:List Str),vs=[.ref a]/\SqL X.K H a (xs.map V.str)/\xs.length+1<scanBound/\
 ∀p ss,H p=none->Dd xs ss->Q (.ref p) (upd H p (SetO X.prog X.w p ss))):=by
 intro pins s σ H vs us Q I r h;obtain⟨a,xs,rfl,hq,hz,q⟩:=h;obtain⟨u,rfl,ru⟩:=r.one;cases ru;obtain⟨its,rv,p,_⟩:=I.list hq;have hs:=qw rv;have hl:its.length=xs.length:=hs.length;refine yd (I.ok.hd hc) p.isList (by simpa using hs) (by rw[AB,hl];exact hz) fun h' tk ss hS hd hk=>?_;have fr:H s.heap.objs.size=none:=I.hok.fresh (Ar _);refine⟨.ref s.heap.objs.size,upd H s.heap.objs.size (SetO X.prog X.w s.heap.objs.size ss),I.laid (t':=tk) (fun b o e=>hk b o (AC e) e) (Ar _) ⟨hS,?_,fun h1 h2 h3 k=>?_⟩,rfl,q _ ss fr hd⟩
 . obtain⟨o,_,_,_,ho,_⟩:=hS;exact⟨o,ho⟩
 . exact SSet.at h3 k
theorem kn(hc:X.calm=true):dz X (.builtin "sorted") (fun vs H Q=>∃(a:HW) (ss:List Str),vs=[.ref a]/\H a=some (SetO X.prog X.w a ss)/\ss.length<64/\
 ∀p zs,H p=none->zs.Perm ss->sortedS zs=true->Q (.ref p) (upd H p (.lst (zs.map V.str)))):=by
 intro pins s σ H vs us Q I r h;obtain⟨a,ss,rfl,hq,hz,q⟩:=h;obtain⟨u,rfl,ru⟩:=r.one;cases ru;have hS:SSet X.prog X.w s.heap a ss:=(I.hok a _ hq).1;refine a1a (I.ok.hd hc) hS hz fun h' d' tk l ws zs e hk hl hget hs hp hso=>?_;have fr:H l=none:=I.hok.fresh hl;have hzl:zs.length<64:=by rw[hp.length_eq];exact hz
 have ok':HOk X.prog X.w (upd H l (.lst (zs.map V.str))) h':=I.hok.laid (a:=l) (o:=.lst (zs.map V.str)) hk hl ⟨by rw[Ab];exact B0 (ga (by omega)),ws,e,xg hs,hget⟩;have un:Un (frs X.stack) [] H (upd H l (.lst (zs.map V.str))) s.heap h':=Un.laid hk hl fr;exact⟨.ref l,_,I.call (g':=s.gens) (d':=d') (t':=tk) (ch:=[]) un ok' I.bare (fun b z=>absurd z (by simp)),rfl,q l zs fr hp hso⟩
end
section
variable{P:IC}{w:IF}{K:Ac}{mg:Str->Option HX}{base:IJ}{N:List Str}{qual:Str}{scope:Scope}{f:HW}{cd:HX}{A:IK}{outer:List Env}{s₀:HZ}{H₀:Hp}{E:XK}
end
section
variable{P:IC}{w:IF}{K:Ac}{mg:Str->Option HX}{base:IJ}{N:List Str}{qual:Str}{scope:Scope}{f:HW}{cd:HX}{A:IK}{outer:List Env}{s₀:HZ}{H₀:Hp}{E:XK}
end
section
variable{X:Cx}{E:XK}{x:Str}{C:HW}{B newId initId:String}{bmB:List HX}{np cpos pos:Pos}{e:Expr}{es:List Expr}{t:TA}
end
section
variable{X:Cx}{pins₀:List (HW×Obj)}{E:XK}
theorem Inv.track{Y:Cx}{pins:List (HW×Obj)}{σ:St}{H:Hp}{s:HZ}{a:HW}{o:HO}(I:Inv Y pins σ H s)(hn:H a=none)(h0:Y.s₀.heap.get? a=none)(hL:a≠Y.env.locals)(hc:∀x c,Y.env.cells.lookup x=some c->c≠a)(hp:∀p∈Y.pn++pins,p.1≠a)(ho:ObjOk Y.prog Y.w (upd H a o) s.heap a o):Inv Y pins σ (upd H a o) s:=by
 have keep:∀b u,H b=some u->upd H a o b=some u:=fun b u e=>by rw[ai (aq e hn)];exact e
 refine⟨I.ok,I.os,I.bare,⟨I.base.keep,I.base.slot,fun b ob e n hx=>?_,I.base.there,fun b xs e=>keep b _ (I.base.tups b xs e),fun b ob xs e=>keep b _ (I.base.frzs b ob xs e),fun b ps e=>?_⟩,I.loc,I.cell,?_,fun x c e=>?_,fun p q=>?_,fun b u e=>?_,I.len⟩
 . have:b≠a:=fun z=>by rw[z,h0] at e;cases e
   rw[ai this];exact I.base.free b ob e n hx
 . obtain⟨m,e'⟩:=I.base.tbls b ps e;exact⟨m,keep b _ e'⟩
 . rw[ai (BY hL)];exact I.free
 . rw[ai (hc x c e)];exact I.freeC x c e
 . obtain⟨p1,p2,p3⟩:=I.pin p q;exact⟨p1,by rw[ai (hp p q)];exact p2,p3⟩
 . by_cases hb:b=a
   . subst hb;rw[ab] at e;cases e;exact ho
   . rw[ai hb] at e;exact (I.hok b u e).stay (fun _ _ _ q=>q) (fun c q=>keep c _ q) fun c xs q=>keep c _ q
end
section
variable{X:Cx}{E:XK}{c n:Str}{C:HW}{i:Nat}{body suite:List IP}{b₀:IP}{tb ts:TS}{np hpos pos:Pos}
end
open PySem.Builtin PySem.Builtin.ObjectAttr PySem.Builtin.Getset_descriptor
section
variable{prog:IC}{w:IF}{A:IK}{E:HX->HZ->Prop}{h:IJ}{g:Array GenState}{d:Drawn}{t:Nat}{os:OsState}{K:Ac}{a C:HW}{o:Obj}
end
section
variable{X:Cx}
end
mutual
inductive Dp(K:Ac)(H:Hp):V->PyData->Prop
 | non:Dp K H .non .none
 | bl (b:Bool):Dp K H (.bl b) (.bool b)
 | int (i:Int):Dp K H (.int i) (.int i)
 | str (x:Str):Dp K H (.str x) (.str x)
 | lst{a:HW}{xs:List V}{ds:List PyData}:SqL K H a xs->DpAll K H xs ds->Dp K H (.ref a) (.list ds)
 | tup{a:HW}{xs:List V}{ds:List PyData}:SqT K H a xs->DpAll K H xs ds->Dp K H (.ref a) (.tuple ds)
inductive DpAll(K:Ac)(H:Hp):List V->List PyData->Prop
 | nil:DpAll K H [] []
 | cons{v:V}{vs:List V}{d:PyData}{ds:List PyData}:Dp K H v d->DpAll K H vs ds->DpAll K H (v::vs) (d::ds)
end
section
variable{X:Cx}{pins:List (HW×Obj)}{σ:St}{H:Hp}{s:HZ}
mutual
theorem Dp.reads(I:Inv X pins σ H s):∀{v:V}{d:PyData},Dp X.K H v d->∀{u:HX},RelV v u->∃as,Reads s.heap u d as
 | _,_,.non,_,r=>by cases r;exact⟨_,.none⟩
 | _,_,.bl b,_,r=>by cases r;exact⟨_,.bool b⟩
 | _,_,.int i,_,r=>by obtain⟨t,rfl⟩:=r;exact⟨_,.int i t⟩
 | _,_,.str x,_,r=>by obtain⟨t,rfl⟩:=r;exact⟨_,.str x t⟩
 | _,_,.lst hs ha,_,r=>by
  cases r;obtain⟨its,rv,⟨o,n,e,hc,_,hd⟩,_⟩:=I.list hs;obtain⟨as,ra⟩:=DpAll.reads I ha rv;exact⟨_,.list e hc hd (by simpa using ra)⟩
 | _,_,.tup hs ha,_,r=>by
  cases r;obtain⟨its,rv,⟨o,e,hc,n,hd⟩,_⟩:=I.tuple hs;obtain⟨as,ra⟩:=DpAll.reads I ha rv;exact⟨_,.tuple e hc hd (by simpa using ra)⟩
theorem DpAll.reads(I:Inv X pins σ H s):∀{vs:List V}{ds:List PyData},DpAll X.K H vs ds->∀{us:List HX},Vals vs us->∃as,ReadsAll s.heap us ds as
 | _,_,.nil,_,r=>by cases r;exact⟨_,.nil⟩
 | _,_,.cons h1 h2,_,r=>by
  cases r with
  | cons r1 r2 =>
   obtain⟨as,q1⟩:=Dp.reads I h1 r1;obtain⟨bs,q2⟩:=DpAll.reads I h2 r2;exact⟨_,.cons q1 q2⟩
end
end
def EqOk(d:PyData):Prop:=d.canLay0=true/\d.depth<=16
section
variable{X:Cx}
def rEqD(K:Ac):R2:=fun x y H Q=>∃dx dy,Dp K H x dx/\Dp K H y dy/\EqOk dx/\EqOk dy/\Q (.bl (PyData.eqv dx dy)) H
def rNeD(K:Ac):R2:=fun x y H Q=>∃dx dy,Dp K H x dx/\Dp K H y dy/\EqOk dx/\EqOk dy/\Q (.bl (!PyData.eqv dx dy)) H
theorem a92(hu:X.A.units+32<cLine):OpR X (IM .Eq) (rEqD X.K):=by
 intro pins s σ H x y v u Q I rx ry h;obtain⟨dx,dy,h1,h2,o1,o2,q⟩:=h;obtain⟨as,ra⟩:=Dp.reads I h1 rx;obtain⟨bs,rb⟩:=Dp.reads I h2 ry;exact SeqAt.compareEq_reads ra rb o1.1 o2.1 (by have:=o1.2;have:=Hn dx.depth dy.depth;omega) ⟨.bl _,H,I,rfl,q⟩
theorem a05(hu:X.A.units+32<cLine):OpR X (IM .NotEq) (rNeD X.K):=by
 intro pins s σ H x y v u Q I rx ry h;obtain⟨dx,dy,h1,h2,o1,o2,q⟩:=h;obtain⟨as,ra⟩:=Dp.reads I h1 rx;obtain⟨bs,rb⟩:=Dp.reads I h2 ry;exact SeqAt.compareNe_reads ra rb o1.1 o2.1 (by have:=o1.2;have:=Hn dx.depth dy.depth;omega) ⟨.bl _,H,I,rfl,q⟩
end
def yf(r:List Str):List PyData:=r.map .str
def dRow(r:List Str):PyData:=.tuple (yf r)
def RowAt(K:Ac)(H:Hp)(a:HW)(r:List Str):Prop:=SqT K H a (r.map V.str)
def RowsAt(K:Ac)(H:Hp)(a:HW)(rs:List (List Str)):Prop:=∃as:List HW,H a=some (.lst (as.map V.ref))/\IE (fun b r=>RowAt K H b r) as rs
def TellAt(K:Ac)(H:Hp)(a:HW)(rss:List (List (List Str))):Prop:=∃as:List HW,SqT K H a (as.map V.ref)/\IE (fun b rs=>RowsAt K H b rs) as rss
theorem Same.seqT{K:Ac}{H H':Hp}{a:HW}{xs:List V}(e:Same H H')(h:SqT K H a xs):SqT K H' a xs:=by
 rcases h with (h|⟨o,h⟩)|h
 . exact .inl (.inl (e _ _ h))
 . exact .inl (.inr ⟨o,e _ _ h⟩)
 . exact .inr h
theorem RowAt.same{K:Ac}{H H':Hp}{a:HW}{r:List Str}(h:RowAt K H a r)(e:Same H H'):RowAt K H' a r:=e.seqT h
theorem RowsAt.same{K:Ac}{H H':Hp}{a:HW}{rs:List (List Str)}(h:RowsAt K H a rs)(e:Same H H'):RowsAt K H' a rs:=by
 obtain⟨as,h1,h2⟩:=h;exact⟨as,e _ _ h1,Paired.mapP h2 fun b r z=>z.same e⟩
theorem TellAt.same{K:Ac}{H H':Hp}{a:HW}{rss:List (List (List Str))}(h:TellAt K H a rss)(e:Same H H'):TellAt K H' a rss:=by
 obtain⟨as,h1,h2⟩:=h;exact⟨as,e.seqT h1,Paired.mapP h2 fun b r z=>z.same e⟩
theorem mw{K:Ac}{H:Hp}:∀r:List Str,DpAll K H (r.map V.str) (yf r)
 | []=>.nil
 | x::r=>.cons (.str x) (mw r)
theorem RowAt.dp{K:Ac}{H:Hp}{a:HW}{r:List Str}(h:RowAt K H a r):Dp K H (.ref a) (dRow r):=.tup h (mw r)
theorem a1k{K:Ac}{H:Hp}:∀{as:List HW}{rs:List (List Str)},IE (fun b r=>RowAt K H b r) as rs->DpAll K H (as.map V.ref) (rs.map dRow)
 | _,_,.nil=>.nil
 | _,_,.cons h1 h2=>.cons h1.dp (a1k h2)
theorem RowsAt.dp{K:Ac}{H:Hp}{a:HW}{rs:List (List Str)}(h:RowsAt K H a rs):Dp K H (.ref a) (.list (rs.map dRow)):=by
 obtain⟨as,h1,h2⟩:=h;exact .lst (SqL.of h1) (a1k h2)
theorem ad{H:Hp}{p:HW}(h:H p=none)(o:HO):Same H (upd H p o):=fun b u q=>by rw[ai (aq q h)];exact q
def yi(K:Ac)(w:IF)(a:HW)(kvs:List (Str×V)):Prop :=
 ∃es n,K.lookup a=some ⟨.type "dict",none,.dict es n,#[]⟩/\EY w.params es.toList/\(a==IR)=false/\∀x,RelO (kvs.lookup x) (findBy BN es x)
def a7j(X:Cx)(to:TE)(t:TA):TE:=fun σ H Q=>to σ H fun x H1=>∃a kvs,x=.ref a/\yi X.K X.w a kvs/\t σ H1 fun ys H2=>∃z,ys=[.str z]/\Q ((kvs.lookup z).getD .non) H2
section
variable{X:Cx}{o e:Expr}{to:TE}{t:TA}{apos cpos:Pos}
theorem a1s(ho:PE X o to)(ha:PA X [e] t)(hbase:IV o "get" X.env (eval o X.env)=eval o X.env:=by rfl)(hfew:((IU cpos (IH [e] X.env)).all (fun x => !x.1) && (Ig cpos (Ic [] X.env)).all (fun x=>x.1.isSome)
 && decide ([e].length+([]:List Keyword).length+(if ([]:List Keyword).isEmpty then 0 else 1)<30))=true:=by rfl)(hline:(apos.endLine==cpos.line)=true:=by rfl)(hs:IH [e] X.env=(false,eval e X.env)::IH [] X.env:=by rfl)(hplain:(IU cpos (IH [] X.env)).any (·.1)=false:=by rfl):
 PE X (.Call (.Attribute o "get" apos) [e] [] cpos) (a7j X to t):=by
 intro pins s σ H Q I h;refine Fg hbase hfew hline rfl (thn (ho pins s σ H _ I h) fun v s1 ⟨x,H1,I1,r1,a,kvs,ex,hd,q1⟩=>?_);subst ex;cases r1;obtain⟨es,n,hl,hk,hno,hv⟩:=hd;have mp:∀s':HZ,X.K.In s'.heap->s'.heap.MapOf (IT X.prog X.w) a (fun k=>findBy BN es k):=fun s' kin=>Ho kin hl hk;have mp1:=mp s1 I1.kIn;refine⟨"dict","dict.get",PySem.F.plainAttrs_dict,Fw,PySem.F.type_dict_get,mp1.typeIs,mp1.noDict,?_⟩;have hA:=ha cpos pins s1 σ H1 _ I1 q1;rw[hs] at hA |-;refine DI (by show (false || (IU cpos (IH [] X.env)).any (·.1))=false;rw[hplain]<;>rfl) (FD ?_);refine thn hA fun us s2 ⟨vs,H2,I2,r2,z,ez,q2⟩=>?_;subst ez;obtain⟨u,rfl,ru⟩:=r2.one;obtain⟨t',rfl⟩:=ru;have mp2:=mp s2 I2.kIn;refine call_meetsIn Fw mp2.typeIs PySem.F.entry_dict_get (PySem.F.args_dict_get_2 _ _) (meets_dict_get (IT X.prog X.w) a (E9 _ _ z t') hno) ⟨_,mp2,?_⟩;have hz:=hv z;refine⟨(kvs.lookup z).getD .non,H2,I2.tok _,?_,q2⟩;cases e1:kvs.lookup z with
 | none =>
  rw[e1] at hz;cases e2:findBy BN es z with
  | none=>rfl
  | some u=>rw[e2] at hz;exact hz.elim
 | some v =>
  rw[e1] at hz;cases e2:findBy BN es z with
  | none=>rw[e2] at hz;exact hz.elim
  | some u=>rw[e2] at hz;exact hz
end
open PySem.Builtin.Str
def cutS(z:Str)(lo hi:Option Int):Str:=⟨((z.cps.toList.drop (HT.sIx z.length 0 lo)).take (HT.sIx z.length z.length hi-HT.sIx z.length 0 lo)).toArray⟩
theorem uk(n d:Nat)(hd:d<=n)(v:Option Int)(hv:∀i,v=some i -> -(n:Int)<=i\/0<=i\/True):HT.sIx n d v<=n:=by
 cases v with
 | none=>exact hd
 | some i =>
  show (if i<0 then (i+(n:Int)).toNat else min i.toNat n)<=n;split<;>omega
theorem yu(n d:Nat)(hd:d<=n)(v:Option Int):(match v with|none=>(d:Int)|some i=>max 0 (min (if i<0 then i+(n:Int) else i) (n:Int)))=((HT.sIx n d v:Nat):Int):=by
 cases v with
 | none=>rfl
 | some i =>
  show max 0 (min (if i<0 then i+(n:Int) else i) (n:Int))=((if i<0 then (i+(n:Int)).toNat else min i.toNat n:Nat):Int)
  split<;>omega
theorem a1h(lo hi:Option Int)(n:Nat):strSliceIndices lo hi 1 n=(Bg (HT.sIx n n hi-HT.sIx n 0 lo)).map (fun k=>HT.sIx n 0 lo+k):=by
 have e1:=yu n 0 (AG _) lo;have e2:=yu n n (Ar _) hi;have key:strSliceIndices lo hi 1 n=sliceRange ((HT.sIx n 0 lo:Nat):Int) ((HT.sIx n n hi:Nat):Int) 1:=by
  rw[<- e1,<- e2];cases lo<;>cases hi<;>rfl
 rw[key];generalize HT.sIx n 0 lo=a;generalize HT.sIx n n hi=b;unfold sliceRange;simp only[show ((1:Int)>0)=True from by simp,if_true];by_cases h:(a:Int)<b
 . rw[if_pos h];have e3:(((b:Int)-a+1-1) / 1).toNat=b-a:=by omega
   rw[e3];refine List.map_congr_left fun k _=>?_;omega
 . rw[if_neg h];have e4:b-a=0:=by omega
   rw[e4];rfl
theorem a61(z:Str)(lo hi:Option Int):((strSliceIndices lo hi 1 z.length).filterMap (z.cps[·]?))=(z.cps.toList.drop (HT.sIx z.length 0 lo)).take (HT.sIx z.length z.length hi-HT.sIx z.length 0 lo):=by
 rw[a1h];have hz:z.length=z.cps.toList.length:=by simp[FB]
 have hb:HT.sIx z.length z.length hi<=z.length:=uk _ _ (Ar _) hi fun _ _=>.inr (.inr trivial);generalize HT.sIx z.length 0 lo=a at*;generalize HT.sIx z.length z.length hi=b at*;by_cases h:a<=b
 . have:=StrLaws.picks z.cps.toList (b-a) a (by omega);simpa using this
 . have e:b-a=0:=by omega
   rw[e];simp
section
variable{X:Cx}
def rSlS:V->Option Int->Option Int->Hp->VK->Prop:=fun x lo hi H Q=>∃z,x=.str z/\z.length<=HY/\Q (.str (cutS z lo hi)) H
theorem a5x:SlR X rSlS:=by
 intro pins s σ H x v vl vu lo hi sl Q I rx hs pl pu h;obtain⟨z,rfl,hz,q⟩:=h;obtain⟨t,rfl⟩:=rx;refine⟨"str",_,PySem.F.slot_str_getitem.lookup,FC s z t,?_⟩;obtain⟨l,hl,el⟩:∃l:Option (Int×Tok),partValue l=vl/\l.map (·.1)=lo:=by
  cases pl with
  | none=>exact⟨none,rfl,rfl⟩
  | int i t=>exact⟨some (i,t),rfl,rfl⟩
 obtain⟨u,hu,eu⟩:∃u:Option (Int×Tok),partValue u=vu/\u.map (·.1)=hi:=by
  cases pu with
  | none=>exact⟨none,rfl,rfl⟩
  | int i t=>exact⟨some (i,t),rfl,rfl⟩
 have hS:s.heap.IsSlice sl l u none:=by
  obtain⟨o,ho,hc,hd⟩:=hs;exact⟨o,ho,hc,by rw[hd,hl,hu];rfl⟩
 refine getItem_meets (FC s z t) (by decide) PySem.F.slot_str_getitem PySem.F.entry_str_getitem (PySem.F.args_str_getitem_2 _ _) (meets_str_getitem_slice z t sl l u none (by decide)) ⟨hS,?_⟩;have epick:slicePicked z l u none=strSliceIndices lo hi 1 z.length:=by
  unfold slicePicked;rw[el,eu];rfl
 have ecut:((slicePicked z l u none).filterMap (z.cps[·]?))=(z.cps.toList.drop (HT.sIx z.length 0 lo)).take (HT.sIx z.length z.length hi-HT.sIx z.length 0 lo):=by rw[epick];exact a61 z lo hi
 unfold sliceMade;split
 . rename_i hw;have hlen:(slicePicked z l u none).length=z.length:=by simpa using hw
   have eq:cutS z lo hi=z:=by
    have e1:((z.cps.toList.drop (HT.sIx z.length 0 lo)).take (HT.sIx z.length z.length hi-HT.sIx z.length 0 lo))=z.cps.toList:=by
     rw[epick,a1h,Ab,Bu] at hlen;have hb:HT.sIx z.length z.length hi<=z.length:=uk _ _ (Ar _) hi fun _ _=>.inr (.inr trivial);rcases Nat.eq_zero_or_pos z.length with h0|h0
     . have:z.cps.toList=[]:=by
        have:z.cps.toList.length=0:=by simpa [FB] using h0
        exact CV this
       rw[this];simp
     . have ea:HT.sIx z.length 0 lo=0:=by omega
       have eb:HT.sIx z.length z.length hi=z.length:=by omega
       rw[ea,eb,B9,Gb];exact Bf (by simp[FB])
    unfold cutS;rw[e1]
   rw[eq] at q;exact⟨.str z,H,I,⟨t,rfl⟩,q⟩
 . show (Made.str _).post _ s;rw[ecut];refine⟨?_,.str (cutS z lo hi),H,I.tok _,⟨_,rfl⟩,q⟩;refine Aw ?_ hz;show ((z.cps.toList.drop (HT.sIx z.length 0 lo)).take (HT.sIx z.length z.length hi-HT.sIx z.length 0 lo)).toArray.size<=z.cps.size;rw[AB,AX,Bi,Bp];omega
theorem q8:OpR X (IM .In) (fun x y H Q=>∃(c:Nat) (z:Str),x=.str ⟨#[c]⟩/\y=.str z/\Q (.bl (decide (c∈z.cps.toList))) H):=by
 intro pins s σ H x y v u Q I rx ry h;obtain⟨c,z,rfl,rfl,q⟩:=h;refine a5k pins s σ H _ _ v u Q I rx ry ⟨_,_,rfl,rfl,?_⟩;rw[StrLaws.found_one];exact q
end
def Glob(mg:Str->Option HX)(x:Str)(v:V):Prop:=∃u,mg x=some u/\RelV v u
theorem pe_g{X:Cx}{x:Str}{v:V}{pos:Pos}(h:Glob X.mg x v)(hg:Gl X x:=by rfl)(hd:(x==("__debug__":Str))=false:=by decide):PE X (.Name x pos) (tC v):=by
 obtain⟨u,hm,r⟩:=h;exact a8l hg hm r hd
theorem yx{sc:Scope}{env:Env}(hfree:∀y∈sc.names,y.2≠.free)(hcell:∀y∈sc.names,y.2≠.cell)(y:Str)(h:(IQ sc env).names.lookup y=some .cell\/(IQ sc env).names.lookup y=some .free):False:=by
 have key:∀k,(IQ sc env).names.lookup y=some k->∃z∈sc.names,z.2=k\/z.2=.free:=fun k e=>by
  have hm:=BF e;obtain⟨z,hz,ez⟩:=AF.mp hm;refine⟨z,hz,?_⟩;obtain⟨n,kk⟩:=z;dsimp only at ez;split at ez
  . rename_i hc;simp only[BC,beq_iff_eq] at hc;exact .inr hc.1.1
  . exact .inl (congrArg Prod.snd ez)
 rcases h with h|h
 . obtain⟨z,hz,q|q⟩:=key _ h
   . exact hcell z hz q
   . exact hfree z hz q
 . obtain⟨z,hz,q|q⟩:=key _ h
   . exact hfree z hz q
   . exact hfree z hz q
theorem gx{X:Cx}{elt iter:Expr}{x:Str}{px pos:Pos}{ifs:List Expr}{sc:Scope}{wi:TI}{tc:TT}{te:TE}(hi:PI X (.Name x px) iter wi)(hif:∀s H C ex,PTs (blk X [x] s H sc [] C ex) ifs tc)(he:∀s H C ex,PE (blk X [x] s H sc [] C ex) elt te)(hc:X.calm=true:=by rfl)(hkind:sc.kind=.function:=by rfl)(hx:sc.names.lookup x=some .local:=by decide)(hfree:∀y∈sc.names,y.2≠.free:=by decide)(hcell:∀y∈sc.names,y.2≠.cell:=by decide)(hnames:∀y∈sc.names,y.2=.local->sc.names.lookup y.1=some .local:=by decide)(hs:∀x,IL iter X.env x=pure x:=by intro _;rfl):
 PE X (.ListComp elt [⟨.Name x px,iter,ifs,0⟩] sc pos) (o7 [] wi tc te) :=
 wn [x] hc hi hif he hkind rfl (by simp) hx (PySem.closureFor_none hfree) hcell hnames (fun y c e=>by simp at e) (fun y h=>(yx hfree hcell y h).elim) (fun j hj=>by simp at hj) hs
structure JSeq(J:It)(I0:Hp->Prop)(xs:List V):Prop where
 go:∀i H,I0 H->i<xs.length->J.go i H
 stop:∀i H,I0 H->xs.length<=i->J.stop i H
 yld:∀i H x H',i<xs.length->I0 H->J.yld i H x H'->H'=H/\xs[i]?=some x
 stay:∀H H',I0 H->Same H H'->I0 H'
theorem jb{K:Ac}{a:HW}{xs:List V}:JSeq (Itt K a) (fun H=>SqT K H a xs) xs where
 go:=fun i H h hi=>⟨xs,xs[i],h,by simp[hi]⟩
 stop:=fun i H h hi=>⟨xs,h,hi⟩
 yld:=fun i H x H' _ h y=>⟨y.1,y.2 xs h⟩
 stay:=fun H H' h e=>e.seqT h
theorem cs{K:Ac}{a:HW}{xs:List V}:JSeq (Itl K a) (fun H=>SqL K H a xs) xs where
 go:=fun i H h hi=>⟨xs,xs[i],h,by simp[hi]⟩
 stop:=fun i H h hi=>⟨xs,h,hi⟩
 yld:=fun i H x H' _ h y=>⟨y.1,y.2 xs h⟩
 stay:=fun H H' h e=>e.seq h
def pk(z:Str):List V:=z.cps.toList.map fun c=>V.str ⟨#[c]⟩
theorem a68{z:Str}:JSeq (Its z) (fun _=>True) (pk z) where
 go:=fun i H _ hi=>by simpa [pk,Its] using hi
 stop:=fun i H _ hi=>by simpa [pk,Its] using hi
 yld:=fun i H x H' _ _ y=>by
  obtain⟨e,c,hc,rfl⟩:=y;refine⟨e,?_⟩;unfold pk;rw[Ah,BK,hc];rfl
 stay:=fun _ _ _ _=>trivial
def nums(lo:Int)(n:Nat):List V:=(Bg n).map fun i=>V.int (lo+(i:Nat))
theorem pq{lo:Int}{n:Nat}:JSeq (Itr lo n) (fun _=>True) (nums lo n) where
 go:=fun i H _ hi=>by simpa [nums,Itr] using hi
 stop:=fun i H _ hi=>by simpa [nums,Itr] using hi
 yld:=fun i H x H' hi _ y=>by
  refine⟨y.1,?_⟩;have hi':i<n:=by simpa [nums] using hi
  have e:x=.int (lo+i):=y.2;unfold nums;rw[Ah,FM hi',e];rfl
 stay:=fun _ _ _ _=>trivial
theorem Paired.snocP{α β:Type}{F:α->β->Prop}{x:α}{y:β}:∀{l₁:List α}{l₂:List β},IE F l₁ l₂->F x y->IE F (l₁++[x]) (l₂++[y])
 | _,_,.nil,h=>.cons h .nil
 | _,_,.cons h₁ t,h=>.cons h₁ (Paired.snocP t h)
def md(D:HW)(H H':Hp):Prop:=∀b u,H b=some u->b≠D->H' b=some u
theorem Same.x{H H':Hp}(e:Same H H')(D:HW):md D H H':=fun b u q _=>e b u q
theorem a7b{J:It}{H1:Hp}{σ:St}{ix:List Nat}{tc:TT}{te:TE}{Q:VK}{I0:Hp->Prop}(xs:List V)(p:V->Bool)(R:HW->V->V->Hp->Prop)(hJ:JSeq J I0 xs)(h0:I0 H1)(hz:xs.length<=HY)(hR:∀D x y H H',R D x y H->md D H H'->R D x y H')(hc:∀x∈xs,∀H2,Same H1 H2->∀Q':Bool->Hp->Prop,(∀H3,Same H2 H3->Q' (p x) H3)->tc (some x::cr σ ix) H2 Q')(he:∀D,∀x∈xs,p x=true->∀H2,Same H1 H2->H2 D≠none->∀Q':VK,(∀y H3,Same H2 H3->R D x y H3->Q' y H3)->te (some x::cr σ ix) H2 Q')(hQ:∀D H' ys,H1 D=none->Same H1 H'->H' D=some (.lst ys)->IE (fun x y=>R D x y H') (xs.filter p) ys->Q (.ref D) H'):
 i8 J H1 σ ix tc te Q:=by
 intro D hD;have put:∀H ys,Same H1 H->Same H1 (upd H D (.lst ys)):=fun H ys e b u q=>by rw[ai (aq q hD)];exact e b u q
 refine⟨fun i m H=>i<=xs.length/\m=xs.length-i/\Same H1 H/\∃ys,H D=some (.lst ys)/\IE (fun x y=>R D x y H) ((xs.take i).filter p) ys,⟨xs.length,AG _,rfl,put _ _ (Same.refl _),[],ab,by simpa using Paired.nil⟩,?_⟩;rintro i m H ⟨hi,rfl,e,ys,hy,hp⟩;have hI:=hJ.stay _ _ h0 e;by_cases hlt:i<xs.length
 . refine .inr ⟨hJ.go i H hI hlt,fun x H' hy'=>?_⟩;obtain⟨rfl,hx⟩:=hJ.yld i H x H' hlt hI hy';have hm:x∈xs:=Ak hx;have ht:xs.take (i+1)=xs.take i++[x]:=by rw[Bn,hx];rfl
   have hlen:ys.length<=i:=by
    have h1:=Ao hp;have h2:=Bd p (xs.take i);rw[AX] at h2;omega
   refine hc x hm _ e _ fun H3 e3=>?_;cases hpx:p x with
   | false =>
    rw[if_neg An];refine⟨xs.length-(i+1),by omega,hlt,rfl,e.trans e3,ys,e3 _ _ hy,?_⟩;rw[ht,CT];simp only[GQ,hpx,Hq,Cy,BX,if_false];exact Paired.mapP hp fun x y z=>hR _ _ _ _ _ z (e3.x D)
   | true =>
    rw[if_pos rfl];refine he D x hm hpx _ (e.trans e3) (by rw[e3 _ _ hy];simp) _ fun y H4 e4 hr=>?_;have e5:md D H4 (upd H4 D (.lst (ys++[y]))):=fun b u q hb=>by rw[ai hb];exact q
    refine⟨ys,e4 _ _ (e3 _ _ hy),by omega,xs.length-(i+1),by omega,hlt,rfl,put _ _ (e.trans (e3.trans e4)),ys++[y],ab,?_⟩;rw[ht,CT];simp only[GQ,hpx,Hq,if_true];exact Paired.snocP (Paired.mapP hp fun x y z=>hR _ _ _ _ _ (hR _ _ _ _ _ z ((e3.trans e4).x D)) e5) (hR _ _ _ _ _ hr e5)
 . have hi':i=xs.length:=by omega
   subst hi';refine .inl ⟨hJ.stop _ H hI (Ar _),?_⟩;rw[B3] at hp;exact hQ D H ys hD e hy hp
theorem v8{α β:Type}{f:α->β}:∀{l:List α}{l':List β},IE (fun x y=>y=f x) l l'->l'=l.map f
 | _,_,.nil=>rfl
 | _,_,.cons h t=>by rw[h,v8 t];rfl
theorem ii{J:It}{H1:Hp}{σ:St}{ix:List Nat}{tc:TT}{te:TE}{Q:VK}{I0:Hp->Prop}(xs:List V)(p:V->Bool)(f:V->V)(hJ:JSeq J I0 xs)(h0:I0 H1)(hz:xs.length<=HY)(hc:∀x∈xs,∀H2,Same H1 H2->∀Q':Bool->Hp->Prop,(∀H3,Same H2 H3->Q' (p x) H3)->tc (some x::cr σ ix) H2 Q')(he:∀x∈xs,p x=true->∀H2,Same H1 H2->∀Q':VK,(∀H3,Same H2 H3->Q' (f x) H3)->te (some x::cr σ ix) H2 Q')(hQ:∀D H',H1 D=none->Same H1 H'->H' D=some (.lst ((xs.filter p).map f))->Q (.ref D) H'):
 i8 J H1 σ ix tc te Q :=
 a7b xs p (fun _ x y _=>y=f x) hJ h0 hz (fun _ _ _ _ _ h _=>h) hc (fun _ x hx hp H2 e _ Q' q=>he x hx hp H2 e Q' fun H3 e3=>q _ H3 e3 rfl) fun D H' ys hD e hy hp=>hQ D H' hD e (by rw[hy,v8 hp])
theorem vo{J:It}{H1:Hp}{σ:St}{ix:List Nat}{te:TE}{Q:VK}{I0:Hp->Prop}(xs:List V)(ws:List V)(hJ:JSeq J I0 xs)(h0:I0 H1)(hz:xs.length<=HY)(hl:ws.length=xs.length)(he:∀(i:Nat) (x y:V),xs[i]?=some x->ws[i]?=some y->∀H2,Same H1 H2->∀Q':VK,(∀H3,Same H2 H3->Q' y H3)->te (some x::cr σ ix) H2 Q')(hQ:∀D H',H1 D=none->Same H1 H'->H' D=some (.lst ws)->Q (.ref D) H'):i8 J H1 σ ix tYes te Q:=by
 intro D hD;have put:∀H ys,Same H1 H->Same H1 (upd H D (.lst ys)):=fun H ys e b u q=>by rw[ai (aq q hD)];exact e b u q
 refine⟨fun i m H=>i<=xs.length/\m=xs.length-i/\Same H1 H/\H D=some (.lst (ws.take i)),⟨xs.length,AG _,rfl,put _ _ (Same.refl _),by rw[ab,Eh]⟩,?_⟩;rintro i m H ⟨hi,rfl,e,hy⟩;have hI:=hJ.stay _ _ h0 e;by_cases hlt:i<xs.length
 . refine .inr ⟨hJ.go i H hI hlt,fun x H' hy'=>?_⟩;obtain⟨rfl,hx⟩:=hJ.yld i H x H' hlt hI hy';have hw:ws[i]?=some ws[i]:=Ag (by omega);unfold tYes;dsimp only;rw[if_pos rfl];refine he i x ws[i] hx hw _ e _ fun H3 e3=>?_;refine⟨ws.take i,e3 _ _ hy,by rw[AX];omega,xs.length-(i+1),by omega,hlt,rfl,put _ _ (e.trans e3),?_⟩;rw[ab,Bn,hw];rfl
 . have hi':i=xs.length:=by omega
   subst hi';refine .inl ⟨hJ.stop _ H hI (Ar _),hQ D H hD e ?_⟩;rw[hy,Bf (by omega)]
theorem gq{α:Type}{J:It}{H1:Hp}{σ:St}{ix:List Nat}{te:TE}{Q:VK}{I0:Hp->Prop}(xs:List V)(rs:List α)(p:α->Bool)(hJ:JSeq J I0 xs)(h0:I0 H1)(hz:xs.length<=1000)(hl:rs.length=xs.length)(he:∀(i:Nat) (x:V) (r:α),xs[i]?=some x->rs[i]?=some r->∀H2,Same H1 H2->∀Q':VK,(∀H3,Same H2 H3->Q' (.bl (p r)) H3)->te (some x::cr σ ix) H2 Q')(hQ:∀D H',H1 D=none->Same H1 H'->H' D=some (.lst ((rs.map p).map V.bl))->Q (.ref D) H'):i8 J H1 σ ix tYes te Q :=
 vo xs ((rs.map p).map V.bl) hJ h0 (B0 (ga hz)) (by simp[hl]) (fun i x y hx hy H2 e Q' q=>by
  rw[Ah,Ah] at hy;cases hr:rs[i]? with
  | none=>rw[hr] at hy;cases hy
  | some r =>
   rw[hr] at hy;have:y=.bl (p r):=(Ay hy).symm;subst this;exact he i x r hx hr H2 e Q' q) hQ
theorem vk{α:Type}(l:List α)(p:α->Bool):(l.map p).all id=l.all p:=by rw[DY];rfl
theorem a9x{l:List Str}{i:Nat}{x:V}{r:Str}(hx:(l.map V.str)[i]?=some x)(hr:l[i]?=some r):x=.str r:=by
 rw[Ah,hr] at hx;exact (Ay hx).symm
section
variable{κ:Type}[DecidableEq κ]
def valV(kvs:List (κ×V))(k:κ):Option V:=(kvs.find? fun kv=>decide (kv.1=k)).map (·.2)
def putK(kvs:List (κ×V))(k:κ)(v:V):List (κ×V) :=
 if (kvs.any fun kv=>decide (kv.1=k))=true then kvs.map (fun kv=>if kv.1=k then (kv.1,v) else kv) else kvs++[(k,v)]
theorem u8{p:κ×V}{r:List (κ×V)}{k:κ}(e:p.1=k):valV (p::r) k=some p.2:=by simp[valV,Cp,e]
theorem qc{p:κ×V}{r:List (κ×V)}{k:κ}(e:¬ p.1=k):valV (p::r) k=valV r k:=by simp[valV,Cp,e]
theorem zt(k:κ):∀kvs:List (κ×V),(kvs.any fun kv=>decide (kv.1=k))=(valV kvs k).isSome
 | []=>rfl
 | p::r=>by
  rw[DJ];by_cases e:p.1=k
  . simp only[u8 e,decide_eq_true e,HH,Option.isSome_some]
  . rw[qc e,decide_eq_false e,Bool.false_or];exact zt k r
theorem a1b(kvs:List (κ×V))(k:κ)(v:V):(putK kvs k v).length<=kvs.length+1:=by
 unfold putK;split
 . rw[Ab];omega
 . rw[Ae,AY,EZ];omega
theorem a71{kvs:List (κ×V)}{k:κ}(v:V)(h:valV kvs k=none):putK kvs k v=kvs++[(k,v)]:=by
 unfold putK;rw[zt,h];exact if_neg (by decide)
theorem RelO.isSome_eq{o:Option V}{u:Option HX}(r:RelO o u):o.isSome=u.isSome:=by
 cases o with
 | none=>cases u with
  | none=>rfl
  | some _=>exact (show False from r).elim
 | some _=>cases u with
  | none=>exact (show False from r).elim
  | some _=>rfl
theorem KV.val{kvs:List (κ×V)}{vs:List (κ×HX)}(r:KV kvs vs)(k:κ):RelO (valV kvs k) (valueAt vs k):=by
 unfold KV at r;induction r with
 | nil=>exact True.intro
 | @cons p q ps qs h t ih =>
  obtain⟨h1,h2⟩:=h;by_cases e:p.1=k
  . have e':q.1=k:=h1.symm.trans e;have b:valueAt (q::qs) k=some q.2:=by simp[valueAt,Cp,e']
    rw[u8 e,b];exact h2
  . have e':¬ q.1=k:=fun z=>e (h1.trans z);have b:valueAt (q::qs) k=valueAt qs k:=by simp[valueAt,Cp,e']
    rw[qc e,b];exact ih
theorem KV.any{kvs:List (κ×V)}{vs:List (κ×HX)}(r:KV kvs vs)(k:κ):(kvs.any fun kv=>decide (kv.1=k))=vs.any fun kv=>decide (kv.1=k):=by
 unfold KV at r;induction r with
 | nil=>rfl
 | cons h t ih=>rw[DJ,DJ,ih,h.1]
theorem KV.repl{kvs:List (κ×V)}{vs:List (κ×HX)}(r:KV kvs vs)(k:κ){y:V}{u:HX}(ry:RelV y u):
 KV (kvs.map fun kv=>if kv.1=k then (kv.1,y) else kv) (vs.map fun kv=>if kv.1=k then (kv.1,u) else kv):=by
 unfold KV at r |-;induction r with
 | nil=>exact .nil
 | @cons p q ps qs h t ih =>
  rw[Be,Be];refine .cons ?_ ih;obtain⟨h1,h2⟩:=h;by_cases e:p.1=k
  . rw[if_pos e,if_pos (h1.symm.trans e)];exact⟨h1,ry⟩
  . rw[if_neg e,if_neg (fun z=>e (h1.trans z))];exact⟨h1,h2⟩
theorem KV.put{kvs:List (κ×V)}{vs:List (κ×HX)}(r:KV kvs vs)(k:κ){y:V}{u:HX}(ry:RelV y u):KV (putK kvs k y) (stored vs k u):=by
 unfold putK stored;rw[r.any k];by_cases e:(vs.any fun kv=>decide (kv.1=k))=true
 . rw[if_pos e,if_pos e];exact r.repl k ry
 . rw[if_neg e,if_neg e];exact Paired.snoc r ⟨rfl,ry⟩
theorem KV.length{kvs:List (κ×V)}{vs:List (κ×HX)}(r:KV kvs vs):kvs.length=vs.length:=Ao r
end
theorem yn{P:IC}{w:IF}{k:Key}{u:HX}(r:RelV (kV k) u):(gj P w).is k u=true:=by
 cases k with
 | inl i=>obtain⟨t,e⟩:=(show ∃t,u=Value.int i t from r);subst e;exact a0y P w i t
 | inr x=>obtain⟨t,e⟩:=(show ∃t,u=Value.str x t from r);subst e;exact a0s P w x t
theorem xm{P:IC}{w:IF}:∀{ks:List Key}{us:List HX},Vals (ks.map kV) us->ItemsAre (gj P w) ks us
 | [],_,r=>by rw[FU] at r;cases r;exact .nil
 | k::ks,_,r=>by
  rw[Be] at r;cases r with
  | cons h t=>exact .cons (yn h) (xm t)
abbrev KT(H:Hp):List (List Key×V)->List (List Key×HW×HX)->Prop:=IE fun p q=>p.1=q.1/\H q.2.1=some (.tup (p.1.map kV))/\RelV p.2 q.2.2
theorem KT.val{H:Hp}{kvs:List (List Key×V)}{xs:List (List Key×HW×HX)}(r:KT H kvs xs)(k:List Key):RelO (valV kvs k) ((atKey xs k).map (·.2)):=by
 induction r with
 | nil=>exact True.intro
 | @cons p q ps qs h t ih =>
  obtain⟨h1,_,h2⟩:=h;by_cases e:p.1=k
  . have e':q.1=k:=h1.symm.trans e;have b:atKey (q::qs) k=some q.2:=by simp[atKey,Cp,e']
    rw[u8 e,b];exact h2
  . have e':¬ q.1=k:=fun z=>e (h1.trans z);have b:atKey (q::qs) k=atKey qs k:=by simp[atKey,Cp,e']
    rw[qc e,b];exact ih
section
variable{P:IC}{w:IF}{H:Hp}{h:IJ}{a:HW}
theorem a7k{u:HO}(ok:HOk P w H h)(e:Rd H a u):ObjOk P w H h a u:=e.ok ok
theorem vj{kvs:List (Key×V)}(ok:HOk P w H h)(e:Rd H a (.dK kvs)):kvs.length<=HY/\(a==IR)=false/\∃vs,KV kvs vs/\h.DictOf (gj P w) a vs :=
 show ObjOk P w H h a (.dK kvs) from a7k ok e
theorem aai{kvs:List (Key×V)}(ok:HOk P w H h)(e:H a=some (.dK kvs)):kvs.length<=HY/\(a==IR)=false/\∃vs,KV kvs vs/\h.DictOf (gj P w) a vs:=vj ok (.inl e)
theorem zw{ks:List Key}(ok:HOk P w H h)(e:H a=some (.tup (ks.map kV))):(tupleKind (gj P w)).is h ks a:=by
 obtain⟨_,its,r,o,h1,h2,n,h3⟩:=(show ObjOk P w H h a (.tup (ks.map kV)) from ok a _ e)
 exact⟨o,its.toArray,n,h1,h2,h3,by simpa using xm r⟩
theorem a2j{kvs:List (List Key×V)}(ok:HOk P w H h)(e:Rd H a (.dT kvs)):kvs.length<=HY/\(a==IR)=false/\
 ∃xs,KT H kvs xs/\h.DictOfH (tupleKind (gj P w)) a xs:=by
 obtain⟨z,y,xs,r,o,es,ep,h1,h2,h3,h4,h5⟩:=(show ObjOk P w H h a (.dT kvs) from a7k ok e)
 refine⟨z,y,xs,r,o,es,ep,h1,h2,h3,h4,fun x hx=>?_,h5⟩;have all:∀{l:List (List Key×V)} {m:List (List Key×HW×HX)},KT H l m->∀x∈m,(tupleKind (gj P w)).is h x.1 x.2.1:=by
  intro l m q;induction q with
  | nil=>intro x hx;exact nomatch hx
  | @cons p q ps qs hq t ih =>
   intro x hx;rcases Am.mp hx with e|hx
   . subst e;exact zw ok (by rw[<- hq.1];exact hq.2.1)
   . exact ih x hx
 exact all r x hx
end
def DGet(H:Hp)(a:HW)(y:V)(r:Option V):Prop :=
 (∃kvs k,Rd H a (.dK kvs)/\y=kV k/\r=valV kvs k)\/∃kvs k b,Rd H a (.dT kvs)/\y=.ref b/\H b=some (.tup (k.map kV))/\r=valV kvs k
section
variable{X:Cx}{pins:List (HW×Obj)}{σ:St}{H:Hp}{s:HZ}{a:HW}{y v:V}{u r:HX}{o:Option V}{A:IK}{E:HX->HZ->Prop}
theorem Inv.big(I:Inv X pins σ H s):IR<s.heap.objs.size:=by
 have h:IA<s.heap.objs.size:=(I.mod.glob.keeps I.bk).lt;exact Nat.lt_trans (by decide) h
theorem a4j{Q:HX->HZ->Prop}(hu:A.units+1<cLine)(I:Inv X pins σ H s)(g:DGet H a y (some v))(ry:RelV y u)(h:∀w' s',Inv X pins σ H s'->RelV v w'->Q w' s'):
 IB (ID X.prog X.w) A (getItem (.ref a) u) Q E s:=by
 rcases g with⟨kvs,k,e,ey,l⟩|⟨kvs,k,b,e,ey,eb,l⟩
 . subst ey;obtain⟨z,hd,vs,rel,dd⟩:=vj I.hok e;obtain⟨w',hw,rw'⟩:=RelO.some_of (v:=v) (o:=valueAt vs k) (by rw[l];exact rel.val k);exact GU (yn ry) dd.mapOf hw (h w' _ (I.tok _) rw')
 . subst ey;cases (show u=Value.ref b from ry);obtain⟨z,hd,xs,rel,dd⟩:=a2j I.hok e;obtain⟨w',hw,rw'⟩:=RelO.some_of (v:=v) (o:=(atKey xs k).map (·.2)) (by rw[l];exact rel.val k);obtain⟨p,hp,hp2⟩:=AK.mp hw;refine wpAny_getItem_heap (Gc hu) (zw I.hok eb) dd hp ?_;rw[hp2];exact h w' _ (I.tok _) rw'
theorem d_in{Q:HX->HZ->Prop}(hu:A.units+1<cLine)(I:Inv X pins σ H s)(g:DGet H a y o)(ry:RelV y u)(h:∀s',Inv X pins σ H s'->Q (.bool o.isSome) s'):
 IB (ID X.prog X.w) A (IM .In u (.ref a)) Q E s:=by
 rcases g with⟨kvs,k,e,ey,l⟩|⟨kvs,k,b,e,ey,eb,l⟩
 . subst ey;obtain⟨z,hd,vs,rel,dd⟩:=vj I.hok e;refine wpAny_in_of (yn ry) hd dd.mapOf ?_;rw[<- (rel.val k).isSome_eq,<- l];exact h _ (I.tok _)
 . subst ey;cases (show u=Value.ref b from ry);obtain⟨z,hd,xs,rel,dd⟩:=a2j I.hok e;refine wpAny_in_heap (Gc hu) (zw I.hok eb) hd dd ?_;have q:=(rel.val k).isSome_eq;rw[Option.isSome_map] at q;rw[<- q,<- l];exact h _ (I.tok _)
theorem a8e{h':IJ}{t':Nat}{ob:HO}(I:Inv X pins σ H s)(mu:Mut (H a))(hs:CZ a s.heap h')(he:∃q,h'.get? a=some q)(new:ObjOk X.prog X.w (upd H a ob) h' a ob):
 Inv X pins σ (upd H a ob) {s with heap:=h',toks:=t'} :=
 I.write (x:=a) (e:=a) mu (.inl rfl) (fun b q hb z=>(hs.2 b hb).trans z) he new
theorem a9y{P:IC}{w:IF}{H':Hp}{h':IJ}{kvs:List (Key×V)}{vs:List (Key×HX)}(z:kvs.length<=HY)(hd:(a==IR)=false)(rel:KV kvs vs)(dd:h'.DictOf (gj P w) a vs):
 ObjOk P w H' h' a (.dK kvs):=⟨z,hd,vs,rel,dd⟩
end
section
variable{X:Cx}{pins:List (HW×Obj)}{σ:St}{H:Hp}{s:HZ}{a:HW}{kvs:List (Key×V)}{k:Key}{u:HX}{A:IK}{E:HX->HZ->Prop}
theorem aaf{Q:HX->HZ->Prop}(I:Inv X pins σ H s)(e:Rd H a (.dK kvs))(h:∀t s',Inv X pins σ H s'->Q (.int kvs.length t) s'):IB (ID X.prog X.w) A (call (.builtin "len") [.ref a]) Q E s:=by
 obtain⟨z,hd,vs,rel,dd⟩:=vj I.hok e;refine call_len_dict hd dd (by rw[<- rel.length];rw[DH] at z;omega) ?_;rw[<- rel.length];exact h _ _ (I.tok _)
end
def NoSl(i:Expr):Prop:=∀ov iv,subscripted i false ov iv=operate [ov,iv] (getItem ov iv)
theorem a1i{prog:IC}{w:IF}{A:IK}{E:HX->HZ->Prop}{s:HZ}{env:Env}{value slice:Expr}{pos:Pos}{T id:String}{Q:HX->HZ->Prop}(hl:typeLookup (.type T) "__getitem__"=pure (some (.builtin id)))(hs:NoSl slice)(h:IB (ID prog w) A (eval value env) (fun o s₁=>IB (ID prog w) A (eval slice env) (fun i s₂=>s₂.TypeIs o T/\IB (ID prog w) A (getItem o i) Q E s₂) E s₁) E s):
 IB (ID prog w) A (eval (.Subscript value slice pos) env) Q E s:=by
 refine Subscript_ (BH h (fun o s₁ h₁=>BH h₁ (fun i s₂ h₂=>?_) fun _ _ x=>x) fun _ _ x=>x);obtain⟨hT,h₂⟩:=h₂;unfold subscriptTail;refine Ad ?_;rw[getitemInPython_of_ne hT.not_modules];refine Ad (wpAny_specialOf hT hl ?_);have fin:IB (ID prog w) A (subscripted slice false o i) (fun r s₃=>IB (ID prog w) A (letTemporaryGo value o r>>=fun _=>pure r) Q E s₃) E s₂:=by
  rw[hs o i];exact wpAny_operating (BH h₂ (fun r s₃ h₃=>Ad (wpAny_letTemporaryGo (Ai h₃))) fun _ _ x=>x)
 first
  | exact Ai (Ad fin)
  | exact Ad (Ai (Ad fin))
  | exact Ad fin
theorem a0v{X:Cx}{pins:List (HW×Obj)}{σ:St}{H:Hp}{s:HZ}{a:HW}{y:V}{o:Option V}(I:Inv X pins σ H s)(g:DGet H a y o):s.TypeIs (.ref a) "dict" := by
 rcases g with⟨kvs,k,e,_,_⟩|⟨kvs,k,b,e,_,_,_⟩
 . obtain⟨_,_,vs,_,dd⟩:=vj I.hok e;exact dd.typeIs
 . obtain⟨_,_,xs,_,dd⟩:=a2j I.hok e;exact dd.typeIs
def a7g(td ty:TE):TE:=fun σ H Q=>td σ H fun x H1=>ty σ H1 fun y H2=>∃a v,x=.ref a/\DGet H2 a y (some v)/\Q v H2
def tDIn(ty td:TE):TE:=fun σ H Q=>ty σ H fun y H1=>td σ H1 fun x H2=>∃a o,x=.ref a/\DGet H2 a y o/\Q (.bl o.isSome) H2
section
variable{X:Cx}{o i e value:Expr}{pos pos' tpos:Pos}{td ty tv:TE}
theorem a8j(hu:X.A.units+1<cLine)(ho:PE X o td)(hi:PE X i ty)(hs:NoSl i):PE X (.Subscript o i pos) (a7g td ty):=by
 intro pins s σ H Q I h;refine a1i EB.lookup hs (thn (ho pins s σ H _ I h) fun u s1 ⟨x,H1,I1,rx,q1⟩=>thn (hi pins s1 σ H1 _ I1 q1) fun iv s2 ⟨y,H2,I2,ry,a,v,ex,g,q2⟩=>?_);subst ex;obtain rfl:u=Value.ref a:=rx;exact⟨a0v I2 g,a4j hu I2 g ry fun w' s3 I3 rw'=>⟨v,H2,I3,rw',q2⟩⟩
theorem a9j(hu:X.A.units+1<cLine)(hi:PE X i ty)(ho:PE X o td):PC X .In i o (tDIn ty td):=by
 intro pins s σ H Q I h;refine thn (hi pins s σ H _ I h) fun iv s1 ⟨y,H1,I1,ry,q1⟩=>thn (ho pins s1 σ H1 _ I1 q1) fun u s2 ⟨x,H2,I2,rx,a,ov,ex,g,q2⟩=>?_;subst ex;obtain rfl:u=Value.ref a:=rx;exact d_in hu I2 g ry fun s3 I3=>⟨.bl ov.isSome,H2,I3,rfl,q2⟩
end
theorem a66{P:IC}{w:IF}{H:Hp}(h:IJ)(hb:IR<h.objs.size):ObjOk P w H (h.push {cls:=.type "dict",data:=.dict #[]}) h.objs.size (.dK []) :=
 ⟨AG _,beq_eq_false_iff_ne.mpr (BY (AL hb)),[],.nil,Heap.DictOf.new h⟩
section
variable{X:Cx}{pos:Pos}
end
section
variable{X:Cx}{pins:List (HW×Obj)}{σ:St}{H:Hp}{s:HZ}{a:HW}{y d:V}{u r:HX}{o:Option V}{A:IK}{E:HX->HZ->Prop}
end
section
variable{X:Cx}{o e f:Expr}{apos cpos:Pos}{td ty tx:TE}
end
section
variable{X:Cx}{pins:List (HW×Obj)}{σ:St}{H:Hp}{s:HZ}{a:HW}{kvs:List (Key×V)}{A:IK}{E:HX->HZ->Prop}
end
section
variable{X:Cx}{pins:List (HW×Obj)}{σ:St}{H:Hp}{s:HZ}{a:HW}{y:V}{u:HX}{A:IK}{E:HX->HZ->Prop}
end
section
variable{X:Cx}
theorem a4c:dz X (.builtin "len") (fun xs H Q=>∃a kvs,xs=[V.ref a]/\H a=some (.dK kvs)/\Q (.int kvs.length) H):=by
 intro pins s σ H xs us Q I r h;obtain⟨a,kvs,rfl,ha,q⟩:=h;obtain⟨u,rfl,ru⟩:=qh r;cases ru;exact aaf I (.inl ha) fun t s' I'=>⟨.int kvs.length,H,I',⟨t,rfl⟩,q⟩
end
section
variable{κ:Type}[DecidableEq κ]
end
section
variable{X:Cx}
end
section
variable{X:Cx}{es es1:List Expr}{t t1:TA}{te:TE}{x:Str}{j:Nat}{pos pos2:Pos}
theorem a8z{j}(hr:PA X es t):PA X (.Constant (.str x) j pos::es) (gf (tC (.str x)) t):=bi oj hr rfl
theorem a90{i:Int}{j}(hr:PA X es t):PA X (.Constant (.int i) j pos::es) (gf (tC (.int i)) t):=bi ev hr rfl
theorem aal(h:PE X (.Name x pos) te)(hr:PA X es t):PA X (.Name x pos::es) (gf te t):=bi h hr rfl
theorem aat{x1}(h:PA X es1 t1)(hr:PA X es t):PA X (.Tuple es1 x1 pos::es) (gf (tTup t1) t):=bi (a5j h) hr rfl
theorem aaq(h:PA X es1 t1)(hr:PA X es t):PA X (.List es1 pos::es) (gf (tLst t1) t):=bi (a09 h) hr rfl
theorem aa3{a b:Expr}(h:PE X (.Subscript a b pos) te)(hr:PA X es t):PA X (.Subscript a b pos::es) (gf te t):=bi h hr rfl
theorem a7z{f:Expr}{as:List Expr}{ks:List Keyword}(h:PE X (.Call f as ks pos) te)(hr:PA X es t):PA X (.Call f as ks pos::es) (gf te t):=bi h hr rfl
theorem a9v{a b:Expr}{op:Operator}(h:PE X (.BinOp a op b pos) te)(hr:PA X es t):PA X (.BinOp a op b pos::es) (gf te t):=bi h hr rfl
end
structure QE(X:Cx)(e:Expr)(t:TE):Prop where
 run:PE X e t
structure QT(X:Cx)(e:Expr)(t:TT):Prop where
 run:PT X e t
structure QW(X:Cx)(e:Expr)(t:TT):Prop where
 run:PW X e t
structure QA(X:Cx)(es:List Expr)(t:TA):Prop where
 run:PA X es t
structure QS(X:Cx)(st:IP)(t:TS):Prop where
 run:PS X st t
structure QB(X:Cx)(st:List IP)(t:TS):Prop where
 run:PSs X st t
structure QI(X:Cx)(tg iter:Expr)(wi:TI):Prop where
 run:PI X tg iter wi
structure QG(X:Cx)(target:Expr)(t:TG):Prop where
 run:PG X target t
structure QO(X:Cx)(e:Option Expr)(t:TO):Prop where
 run:PO X e t
structure QTs(X:Cx)(ifs:List Expr)(t:TT):Prop where
 run:PTs X ifs t
theorem QW.qt{X:Cx}{e:Expr}{t:TT}(h:QW X e t):QT X e t:=⟨PW.pt h.run⟩
section
variable{st:IP}{id:String}{lo hi:Option Expr}
set_option autoImplicit true
set_option relaxedAutoImplicit true
theorem bm  : QB X [] a3e:=⟨i7 ⟩
theorem ae{rest:List IP}(h1:QS X st t)(h2:QB X rest u):QB X (st::rest) (tSeq t u):=⟨fq h1.run h2.run⟩
theorem aj(h1:QS X st t):QB X [st] t:=⟨dk h1.run⟩
theorem bf{c:Expr}{a b:List IP}{tc:TT}(hc:QT X c tc)(ha:QB X a t)(hb:QB X b u):QS X (.If c a b pos) (tIfS tc t u):=⟨kj hc.run ha.run hb.run⟩
theorem av{i:Nat}{x:Str}{e:Expr}{te:TE}{pos':Pos}(hN:X.N.Nodup)(hi:X.N[i]?=some x)(hx:Loc X.env.scope x)(he:QE X e te)(hs:Ie e (some (.Name x pos')) pos.line X.env=pure false:=by rfl)(hf:X.fn x=true\/X.env.scope.names.lookup x=some .local:=by first|exact .inl rfl|exact .inr rfl|assumption):     QS X (.Assign [.Name x pos'] e pos) (tAsg te (bp i)):=⟨a5c hN hi hx he.run hs hf⟩
theorem az(he:QE X e te):QS X (.Return (some e) pos) (tRet te):=⟨fk he.run⟩
theorem bu(he:QE X e te)(hs:Ie e none pos.line X.env=pure false:=by rfl):QS X (.Expr e pos) (a2w te):=⟨a1q he.run hs⟩
theorem dq{iter:Expr}{body:List IP}{wi:TI}{g:TG}{tb:TS}{pos:Pos}(hp:PassesOwn (ID X.prog X.w) X.A X.env X.xe)(hc:X.calm=true)(hi:QI X tg iter wi)(hg:QG X tg g)(hb:QB X body tb)(hs:∀x,IL iter X.env x=pure x:=by intro _;rfl):QS X (.For tg iter body [] pos) (tFor wi g tb):=⟨zi hp hc hi.run hg.run hb.run hs⟩
theorem om{tg e:Expr}{te:TE}{g:TG}(he:QE X e te)(hg:QG X tg g)(hs:swapsWithSole [tg] e pos.line X.env=pure false:=by rfl)(hw:swappedStores [tg] e X.env=pure none:=by rfl)(h1:(IG [tg] X.env).map (·.2)=[assign tg X.env]:=by rfl):QS X (.Assign [tg] e pos) (tAsg te g):=⟨a9n he.run hg.run hs hw h1⟩
theorem ac{i j pos}:QE X (.Constant (.int i) j pos) (tC (.int i)):=⟨ev ⟩
theorem ge{b j pos}:QE X (.Constant (.bool b) j pos) (tC (.bl b)):=⟨kl ⟩
theorem jl{j pos}:QE X (.Constant .none j pos) (tC .non):=⟨aa2 ⟩
theorem bv{x j pos}:QE X (.Constant (.str x) j pos) (tC (.str x)):=⟨oj ⟩
theorem qv(i:Nat){x:Str}{pos:Pos}(hN:X.N[i]?=some x:=by rfl)(hv:Vis X.env.scope x:=by first|exact Or.inl rfl|exact Or.inr (Or.inl rfl)|exact Or.inr (Or.inr rfl))(hd:(x==("__debug__":Str))=false:=by decide)(hcd:(x==("__classdict__":Str))=false:=by decide):QE X (.Name x pos) (tVar i):=⟨pv i hN hv hd hcd⟩
theorem qe_g{X:Cx}{x:Str}{v:V}{pos:Pos}(h:Glob X.mg x v)(hg:Gl X x:=by rfl)(hd:(x==("__debug__":Str))=false:=by decide):QE X (.Name x pos) (tC v):=⟨pe_g h hg hd⟩
theorem am{op:Operator}{r:R2}(ho:OpR X (IW op) r)(ha:QE X a ta)(hb:QE X b tb):QE X (.BinOp a op b pos) (tOp r ta tb):=⟨a7r ho ha.run hb.run⟩
theorem gr{op:CmpOp}{r:R2}(ho:OpR X (IM op) r)(ha:QE X a ta)(hb:QE X b tb)(hm:IS op b=false):QE X (.Compare a [op] [b] pos) (tOp r ta tb):=⟨ku ho ha.run hb.run hm⟩
theorem ax{op:CmpOp}{r:R2}(ho:OpR X (IM op) r)(ha:QE X a ta)(hb:QE X b tb)(hm:IS op b=false):QT X (.Compare a [op] [b] pos) (kq (tOp r ta tb)):=⟨gm ho ha.run hb.run hm⟩
theorem fm{e:Expr}{t:TE}(h:QE X e t)(he:∀whole,isTrue e X.env whole=(do let v<-whole;standAt e.pos;holding [v] (truthy v)):=by intro _;rfl):QT X e (tB t):=⟨lq h.run he⟩
theorem fh(ha:QT X a tA):QT X (.UnaryOp .Not a pos) (tNot tA):=⟨ln ha.run⟩
theorem ie(ha:QT X a tA):QW X (.BoolOp .And [a] pos) tA:=⟨a8f ha.run⟩
theorem je(ha:QT X a tA):QW X (.BoolOp .Or [a] pos) tA:=⟨lg ha.run⟩
theorem ia{rest:List Expr}(ha:QT X a tA)(hb:QW X (.BoolOp .And (b::rest) pos) tB'):QW X (.BoolOp .And (a::b::rest) pos) (tAnd tA tB'):=⟨a94 ha.run hb.run⟩
theorem jk{rest:List Expr}(ha:QT X a tA)(hb:QW X (.BoolOp .Or (b::rest) pos) tB'):QW X (.BoolOp .Or (a::b::rest) pos) (tOr tA tB'):=⟨lz ha.run hb.run⟩
theorem kr{op}{t:TE}(h:QE X a t):QE X (.BoolOp op [a] pos) t:=⟨pg h.run⟩
theorem jm{rest:List Expr}(ha:QE X a ta)(hb:QE X (.BoolOp .And (b::rest) pos) tb):QE X (.BoolOp .And (a::b::rest) pos) (a7s ta tb):=⟨a0c ha.run hb.run⟩
theorem qg{c:Expr}(hc:QT X c tA)(ha:QE X a ta)(hb:QE X b tb):QE X (.IfExp c a b pos) (tIf tA ta tb):=⟨a6k hc.run ha.run hb.run⟩
theorem ag{r:R2}(hr:IxR X r)(ha:QE X a ta)(hb:QE X b tb)(hs:a2f b):QE X (.Subscript a b pos) (tOp r ta tb):=⟨jr hr ha.run hb.run hs⟩
theorem dr{r:V->Option Int->Option Int->Hp->VK->Prop}(hr:SlR X r)(he:QE X e te)(hl:QO X lo tl)(hu:QO X hi th):QE X (.Subscript e (.Slice lo hi none p2) pos) (tSl r te tl th):=⟨nv hr he.run hl.run hu.run⟩
theorem ft  : QO X none a1m:=⟨pe ⟩
theorem ek(h:QE X e te):QO X (some e) (a7c te):=⟨pc h.run⟩
theorem er{x1}(h:QA X es t):QE X (.Tuple es x1 pos) (tTup t):=⟨a5j h.run⟩
theorem bb(h:QA X es t):QE X (.List es pos) (tLst t):=⟨a09 h.run⟩
theorem ak(F:FnOk X.prog X.w X.K X.mg X.base CX k f fd ps sp)(hr:Room k X.A)(hg:Gl X x)(hm:X.mg x=some (.ref f))(hk:Cs X.K (.ref f)=true)(hb:Binds X.K fd ps ds)(hd:Vals dvs ds)(hx:vi CX X E)(ha:QA X (e::es) t)(hdb:(x==("__debug__":Str))=false:=by decide)(he:IH (e::es) X.env=(false,eval e X.env)::IH es X.env:=by rfl)(hpl:(IU pos (IH es X.env)).any (·.1)=false:=by rfl):     QE X (.Call (.Name x p) (e::es) [] pos) (a3b sp dvs E t):=⟨ir F hr hg hm hk hb hd hx ha.run hdb he hpl⟩
theorem aw(hc:dz X (.builtin id) r)(hg:Gl X x)(hm:X.mg x=none)(hv:bootBuiltins x=some (.builtin id))(ha:QA X (e::es) t)(hn:x≠"__name__" := by decide)(hdb:(x==("__debug__":Str))=false:=by decide)(he:IH (e::es) X.env=(false,eval e X.env)::IH es X.env:=by rfl)(hpl:(IU pos (IH es X.env)).any (·.1)=false:=by rfl):QE X (.Call (.Name x p) (e::es) [] pos) (tCB r t):=⟨cu hc hg hm hv ha.run hn hdb he hpl⟩
theorem cg(hc:dz X (.type T) r)(hg:Gl X x)(hm:X.mg x=none)(hv:bootBuiltins x=some (.type T))(ha:QA X (e::es) t)(hn:x≠"__name__" := by decide)(hdb:(x==("__debug__":Str))=false:=by decide)(he:IH (e::es) X.env=(false,eval e X.env)::IH es X.env:=by rfl)(hpl:(IU pos (IH es X.env)).any (·.1)=false:=by rfl):QE X (.Call (.Name x p) (e::es) [] pos) (tCB r t):=⟨xq hc hg hm hv ha.run hn hdb he hpl⟩
theorem a57(pa:PlainAttrs T)(slot:Slot T name id)(hty:typeOf (.builtin id)=pure (.type "method_descriptor"))(hm:MtR X id r)(ho:QE X o to)(hbase:IV o name X.env (eval o X.env)=eval o X.env:=by rfl)(hline:(apos.endLine==cpos.line)=true:=by rfl):QE X (.Call (.Attribute o name apos) [] [] cpos) (tBM0 X.K T r to):=⟨a9f pa slot hty hm ho.run hbase hline⟩
theorem ik{X:Cx}{elt iter:Expr}{x:Str}{px pos:Pos}{ifs:List Expr}{sc:Scope}{wi:TI}{tc:TT}{te:TE}(hi:QI X (.Name x px) iter wi)(hif:∀s H C ex,QTs (blk X [x] s H sc [] C ex) ifs tc)(he:∀s H C ex,QE (blk X [x] s H sc [] C ex) elt te)(hc:X.calm=true:=by rfl)(hkind:sc.kind=.function:=by rfl)(hx:sc.names.lookup x=some .local:=by decide)(hfree:∀y∈sc.names,y.2≠.free:=by decide)(hcell:∀y∈sc.names,y.2≠.cell:=by decide)(hnames:∀y∈sc.names,y.2=.local->sc.names.lookup y.1=some .local:=by decide)(hs:∀x,IL iter X.env x=pure x:=by intro _;rfl):     QE X (.ListComp elt [⟨.Name x px,iter,ifs,0⟩] sc pos) (o7 [] wi tc te):=⟨gx hi.run (fun z0 z1 z2 z3=>(hif z0 z1 z2 z3).run) (fun z0 z1 z2 z3=>(he z0 z1 z2 z3).run) hc hkind hx hfree hcell hnames hs⟩
theorem a86(ho:QE X o to)(ha:QA X [e] t)(hbase:IV o "get" X.env (eval o X.env)=eval o X.env:=by rfl)(hfew:((IU cpos (IH [e] X.env)).all (fun x => !x.1) && (Ig cpos (Ic [] X.env)).all (fun x=>x.1.isSome)       && decide ([e].length+([]:List Keyword).length+(if ([]:List Keyword).isEmpty then 0 else 1)<30))=true:=by rfl)(hline:(apos.endLine==cpos.line)=true:=by rfl)(hs:IH [e] X.env=(false,eval e X.env)::IH [] X.env:=by rfl)(hplain:(IU cpos (IH [] X.env)).any (·.1)=false:=by rfl):     QE X (.Call (.Attribute o "get" apos) [e] [] cpos) (a7j X to t):=⟨a1s ho.run ha.run hbase hfew hline hs hplain⟩
theorem bz{l:Expr}{tl:TE}(hl:QE X l tl):QI X tg l (a7e X.K tl):=⟨p6 hl.run⟩
theorem a4o{l:Expr}{tl:TE}(hl:QE X l tl):QI X tg l (iTup X.K tl):=⟨mz hl.run⟩
theorem cz{a:Expr}{ta:TA}{p pos:Pos}(hg:Gl X "range")(hm:X.mg "range"=none)(ha:QA X [a] ta)(hs:IH [a] X.env=[(false,eval a X.env)]:=by rfl):QI X tg (.Call (.Name "range" p) [a] [] pos) (a7u ta):=⟨a4d hg hm ha.run hs⟩
theorem bj{i:Nat}{x:Str}(hN:X.N.Nodup)(hi:X.N[i]?=some x)(hx:Loc X.env.scope x)(hf:X.fn x=true\/X.env.scope.names.lookup x=some .local:=by first|exact .inl rfl|exact .inr rfl|assumption):QG X (.Name x pos) (bp i):=⟨pf hN hi hx hf⟩
theorem aa  : QA X [] tNil:=⟨cf ⟩
theorem dh(ha:QE X e te)(hr:QA X es t)(hs:IH (e::es) X.env=(false,eval e X.env)::IH es X.env:=by rfl):QA X (e::es) (gf te t):=⟨bi ha.run hr.run hs⟩
theorem ba{j}(hr:QA X es t):QA X (.Constant (.str x) j pos::es) (gf (tC (.str x)) t):=⟨a8z hr.run⟩
theorem ci{i:Int}{j}(hr:QA X es t):QA X (.Constant (.int i) j pos::es) (gf (tC (.int i)) t):=⟨a90 hr.run⟩
theorem af(h:QE X (.Name x pos) te)(hr:QA X es t):QA X (.Name x pos::es) (gf te t):=⟨aal h.run hr.run⟩
theorem di{x1}(h:QA X es1 t1)(hr:QA X es t):QA X (.Tuple es1 x1 pos::es) (gf (tTup t1) t):=⟨aat h.run hr.run⟩
theorem a3a(h:QA X es1 t1)(hr:QA X es t):QA X (.List es1 pos::es) (gf (tLst t1) t):=⟨aaq h.run hr.run⟩
theorem ar{a b:Expr}(h:QE X (.Subscript a b pos) te)(hr:QA X es t):QA X (.Subscript a b pos::es) (gf te t):=⟨aa3 h.run hr.run⟩
theorem be{f:Expr}{as:List Expr}{ks:List Keyword}(h:QE X (.Call f as ks pos) te)(hr:QA X es t):QA X (.Call f as ks pos::es) (gf te t):=⟨a7z h.run hr.run⟩
theorem da{a b:Expr}{op:Operator}(h:QE X (.BinOp a op b pos) te)(hr:QA X es t):QA X (.BinOp a op b pos::es) (gf te t):=⟨a9v h.run hr.run⟩
theorem db{X:Cx}:QTs X [] tYes:=⟨jg ⟩
theorem ke{X:Cx}{c:Expr}{t:TT}(h:QT X c t):QTs X [c] t:=⟨a2a h.run⟩
end
theorem aa9{X:Cx}{o i:Expr}{to ti:TE}{t:TSet}{pos:Pos}(ho:QE X o to)(hi:QE X i ti)(hs:PSet X t)(ha:∀v,assign (.Subscript o i pos) X.env v=(do
 let ov<-holding [v] (eval o X.env);let iv<-holding [v,ov] (eval i X.env)
 standAt pos
 holding [v,ov,iv] (setItem ov iv v)
 release [v,ov,iv] []):=by intro _;rfl):QG X (.Subscript o i pos) (gSub to ti t):=⟨a9l ho.run hi.run hs ha⟩
theorem Fun.okQ{P:IC}{w:IF}{K:Ac}{mg:Str->Option HX}{base:IJ}{x qual:Str}{st:IP}{f:HW}{fd:II}{N ps:List Str}{k:Nat}{sp:Sp}(F:Fun K x qual st f fd)(S:FnScope N ps (b7 st))(len:∀vs H Q E,sp vs H Q E->vs.length=ps.length)(hbody:∀(cdv:HX) (A:IK) (outer:List Env) (s:HZ) (H:Hp) (vs:List V) (Q:VK) (E:XK),Room k (A.deeper (envOfC qual (b7 st) s.heap.objs.size f cdv))->sp vs H Q E->
 ∃t,QB (cxOf CX0 P w K mg base N qual (b7 st) f cdv A outer s H E).nox (jw st) t/\t {nx:=fun _ H'=>Q .non H',rt:=Q} (me N vs) H):FnOk P w K mg base CX0 (k+1) f fd ps sp :=
 F.ok S len fun cdv A outer s H vs Q E hr h=>by
  obtain⟨t,h1,h2⟩:=hbody cdv A outer s H vs Q E hr h;exact⟨t,h1.run,h2⟩
section
variable{X:Cx}{st:IP}{t:TS}{e:Expr}{te:TE}
def a96(K:Ac)(ta:TE):TT:=fun σ H Q=>ta σ H fun x H'=>∃k,TruV K x H' k/\Q k H'
theorem a70{K:Ac}(ha:QE X e te)(hK:X.K=K:=by rfl)(he:∀whole,isTrue e X.env whole=(do let v<-whole;standAt e.pos;holding [v] (truthy v)):=by intro _;rfl):QT X e (a96 K te):=by
 subst hK;exact⟨a72 ha.run he⟩
end
theorem qd{α:Type}{J:It}{H1:Hp}{σ:St}{ix:List Nat}{te:TE}{Q:VK}{I0:Hp->Prop}(xs:List V)(rs:List α)(f:α->Str)(hJ:JSeq J I0 xs)(h0:I0 H1)(hz:xs.length<=1000)(hl:rs.length=xs.length)(he:∀(i:Nat) (x:V) (r:α),xs[i]?=some x->rs[i]?=some r->∀H2,Same H1 H2->∀Q':VK,(∀H3,Same H2 H3->Q' (.str (f r)) H3)->te (some x::cr σ ix) H2 Q')(hQ:∀D H',H1 D=none->Same H1 H'->H' D=some (.lst ((rs.map f).map V.str))->Q (.ref D) H'):i8 J H1 σ ix tYes te Q :=
 vo xs ((rs.map f).map V.str) hJ h0 (B0 (ga hz)) (by simp[hl]) (fun i x y hx hy H2 e Q' q=>by
  rw[Ah,Ah] at hy;cases hr:rs[i]? with
  | none=>rw[hr] at hy;cases hy
  | some r =>
   rw[hr] at hy;have:y=.str (f r):=(Ay hy).symm;subst this;exact he i x r hx hr H2 e Q' q) hQ
section
variable{id:String}
set_option relaxedAutoImplicit true
theorem cq{K:Ac}(hK:X.K=K)(pa:PlainAttrs T)(slot:Slot T name id)(hty:typeOf (.builtin id)=pure (.type "method_descriptor"))(hm:MtR X id r)(ho:QE X o to)(ha:QA X (e::es) t)(hbase:IV o name X.env (eval o X.env)=eval o X.env:=by rfl)(hfew:((IU cpos (IH (e::es) X.env)).all (fun x => !x.1) && (Ig cpos (Ic [] X.env)).all (fun x=>x.1.isSome)       && decide ((e::es).length+([]:List Keyword).length+(if ([]:List Keyword).isEmpty then 0 else 1)<30))=true:=by rfl)(hline:(apos.endLine==cpos.line)=true:=by rfl)(hs:IH (e::es) X.env=(false,eval e X.env)::IH es X.env:=by rfl)(hplain:(IU cpos (IH es X.env)).any (·.1)=false:=by rfl):QE X (.Call (.Attribute o name apos) (e::es) [] cpos) (tBM K T r to t):=by
 subst hK;exact⟨a7q pa slot hty hm ho.run ha.run hbase hfew hline hs hplain⟩
end
theorem a8i{x y:Str}{c:HW}{names:List (Str×NameKind)}(hn:names=[((".0":Str),NameKind.local),(x,NameKind.local),(y,NameKind.cell)])(z:Str)(h:names.lookup z=some .cell\/names.lookup z=some .free):∃c',([(y,c)]:List (Str×HW)).lookup z=some c':=by
 subst hn;simp only[Cu,List.lookup_nil] at h |-;cases h1:z==(".0":Str) with
 | true=>rw[h1] at h;simp at h
 | false =>
  cases h2:z==x with
  | true=>rw[h1,h2] at h;simp at h
  | false =>
   cases h3:z==y with
   | true=>exact⟨c,rfl⟩
   | false=>rw[h1,h2,h3] at h;simp at h
theorem a0j{X:Cx}{elt iter:Expr}{x y:Str}{px pos:Pos}{ifs:List Expr}{sc:Scope}{c:HW}{wi:TI}{tc:TT}{te:TE}(j:Nat)(hi:QI X (.Name x px) iter wi)(hif:∀s H C ex,QTs (blk X [x,y] s H sc [(y,c)] C ex) ifs tc)(he:∀s H C ex,QE (blk X [x,y] s H sc [(y,c)] C ex) elt te)(hn:sc.names=[((".0":Str),NameKind.local),(x,NameKind.local),(y,NameKind.free)]:=by rfl)(hrel:(IQ sc X.env).names=[((".0":Str),NameKind.local),(x,NameKind.local),(y,NameKind.cell)]:=by rfl)(hcl:closureFor sc X.env=pure [(y,c)]:=by rfl)(hcs:X.env.cells=[(y,c)]:=by rfl)(hk:X.env.kindOf y=some .cell:=by rfl)(hj:X.N[j]?=some y:=by rfl)(hnd:([x,y]:List Str).Nodup:=by decide)(hx:sc.names.lookup x=some .local:=by decide)(hcell:∀z∈sc.names,z.2≠.cell:=by decide)(hnames:∀z∈sc.names,z.2=.local->sc.names.lookup z.1=some .local:=by decide)(hy:([((".0":Str),NameKind.local),(x,NameKind.local),(y,NameKind.cell)]:List (Str×NameKind)).lookup y=some .cell:=by decide)(hc:X.calm=true:=by rfl)(hkind:sc.kind=.function:=by rfl)(hs:∀x,IL iter X.env x=pure x:=by intro _;rfl):
 QE X (.ListComp elt [⟨.Name x px,iter,ifs,0⟩] sc pos) (o7 [j] wi tc te):=by
 have hN:([x,y]:List Str)=x::[j].map fun j=>(X.N[j]?).getD "" := by simp[hj]
 exact⟨wn [x,y] hc hi.run (fun s H C ex=>(hif s H C ex).run) (fun s H C ex=>(he s H C ex).run) hkind hN hnd hx hcl hcell hnames (fun z c' e=>by rw[hcs];exact e)
  (fun z h=>a8i hrel z h) (fun j' hj'=>by
   have:j'=j:=by simpa using hj'
   subst this;exact⟨y,hj,hk,by rw[hrel];exact hy⟩) hs⟩
theorem a0f(c:Nat):∀(k:Nat) (acc:Array Nat),(AD k (#[c]:Array Nat)).foldl (· ++ ·) acc=acc++(AD k c).toArray
 | 0,acc=>by simp
 | k+1,acc=>by
  rw[BG,Hj,a0f c k (acc ++ #[c]),BG,FR]
  congr 1
  apply GX.mp;simp
def reps(c:Nat)(n:Int):Str:=⟨(AD n.toNat c).toArray⟩
theorem t8{X:Cx}:OpR X (IW .Mult) (fun x y H Q=>∃(c:Nat) (n:Int),x=.str ⟨#[c]⟩/\y=.int n/\0<=n/\n<=1000/\Q (.str (reps c n)) H):=by
 intro pins s σ H x y v u Q I rx ry h;obtain⟨c,n,rfl,rfl,h0,h1,q⟩:=h;obtain⟨t,rfl⟩:=rx;obtain⟨t2,rfl⟩:=ry;have hl:(⟨#[c]⟩:Str).length=1:=rfl;refine PySem.P.mul_str (by
  have h2:¬ n < -(2 ^ 63:Int):=by omega
  have h3:¬ n >= 2 ^ 63:=by omega
  rw[decide_eq_false h2,decide_eq_false h3];rfl) (fun _ _=>?_) (fun _ _=>?_) ?_
 . rw[hl];have:(1:Int)<=(2 ^ 63-1) / n:=by
    rw[Int.le_ediv_iff_mul_le (by omega)];omega
   show ¬ ((1:Nat):Int)>_;omega
 . rw[hl,Nat.one_mul];unfold Builtin.Str.tooLong;exact decide_eq_false (by have:HY=16777216:=DH;omega)
 . by_cases hn:n<1
   . rw[if_pos hn];have e:n=0:=by omega
     subst e;exact⟨by decide,.str (reps c 0),H,I.tok _,⟨_,rfl⟩,q⟩
   . rw[if_neg hn];by_cases hn1:n=1
     . subst hn1;rw[if_pos (by rfl)];exact⟨.str (reps c 1),H,I,⟨_,rfl⟩,q⟩
     . have e:(n==1 || (⟨#[c]⟩:Str).length==0)=false:=by
        rw[hl];simp[hn1]
       rw[if_neg (by rw[e];exact An)];have e2:(⟨(AD n.toNat (#[c]:Array Nat)).foldl (· ++ ·) #[]⟩:Str)=reps c n:=by
        rw[a0f,Array.empty_append];rfl
       rw[e2];refine⟨?_,.str (reps c n),H,I.tok _,⟨_,rfl⟩,q⟩;show (HI _).size<=_;rw[AB,BS];exact Aw (show n.toNat<=1000 by omega) (by decide)
section
variable{X:Cx}{pins:List (HW×Obj)}{σ:St}{H:Hp}{s:HZ}{h':IJ}
theorem Inv.turnedL{t':Nat}{ch:List HW}(I:Inv X pins σ H s)(k:∀b o,b∉ch->s.heap.get? b=some o->h'.get? b=some o)(hc:∀b∈ch,FpOk X pins H b):Inv X pins σ H {s with heap:=h',toks:=t'}:=by
 have nit:∀b u,H b=some u->b∉ch:=fun b u e z=>by rw[(hc b z).1] at e;cases e
 refine I.step (g':=s.gens) (d':=s.drawn) (ch:=ch) (fun b hb=>⟨(hc b hb).2.2.2.1,(hc b hb).2.1,(hc b hb).2.2.2.2.1,(hc b hb).2.2.2.2.2⟩) (fun b o _ _ hn e _=>k b o hn e) (fun b o _ _ hn e _=>⟨o.slots,k b o hn e⟩) (fun _ _ _ _ n=>n)
  (fun b o hn e=>⟨o,k b o hn e⟩) (fun _ _ e=>e) (fun _ _ _ e=>e) (fun b ps e=>⟨#[],by rw[e];simp⟩) (fun m hm=>?_) (fun b u e=>?_) I.bare
 . obtain⟨o,es,ep,ho,r⟩:=hm;exact⟨o,es,ep,k _ o (fun z=>(hc _ z).2.1 rfl) ho,r⟩
 . refine (I.hok b u e).stay (fun c v hcv q=>k c v ?_ q) (fun _ q=>q) fun _ _ q=>q;rcases hcv with z|z
   . rw[z];exact nit b u e
   . exact nit c _ z
end
def fv(n:HW):List HW:=[n+4,n+2,n+3,n,n+1]
theorem sy{n l1 l2:Nat}(h1:l1∉fv n)(h2:l2∉fv n):ZipApart (n+4) (n+2) (n+3) n (n+1) l1 l2:=by
 unfold fv at h1 h2;simp only[Am,Au,or_false,not_or] at h1 h2;have nn:∀a b:Nat,a≠b->n+a≠n+b:=fun a b h=>by omega
 have n0:∀a:Nat,a≠0->n≠n+a:=fun a h=>by omega
 exact⟨nn 2 4 (by decide),nn 3 4 (by decide),n0 4 (by decide),nn 1 4 (by decide),nn 2 3 (by decide),(n0 2 (by decide)).symm,nn 2 1 (by decide),(n0 3 (by decide)).symm,nn 3 1 (by decide),n0 1 (by decide),h1.1,h1.2.2.1,h1.2.2.2.1,h1.2.2.2.2,h2.1,h2.2.2.1,h2.2.2.2.1,h2.2.2.2.2⟩
section
variable{X:Cx}
end
section
variable{X:Cx}
theorem a2t{elt iter:Expr}{x yv:Str}{px pos py pos2:Pos}{iy:Nat}{ifs:List Expr}{sc:Scope}{cl:List (Str×HW)}{ix:List Nat}{wi:TI}{tc:TT}{te:TE}(N:List Str)(hNd:X.N.Nodup)(hiy:X.N[iy]?=some yv)(hyv:Loc X.env.scope yv)(hsw:Ie (.ListComp elt [⟨.Name x px,iter,ifs,0⟩] sc pos) (some (.Name yv py)) pos2.line X.env=pure true)(hfy:X.fn yv=true\/X.env.scope.names.lookup yv=some .local)(hc:X.calm=true)(hi:PI X (.Name x px) iter wi)(hif:∀s H C ex,PTs (blk X N s H sc cl C ex) ifs tc)(he:∀s H C ex,PE (blk X N s H sc cl C ex) elt te)(hkind:sc.kind=.function)(hN:N=x::ix.map fun j=>(X.N[j]?).getD "")(hnd:N.Nodup)(hx:sc.names.lookup x=some .local)(hcl:closureFor sc X.env=pure cl)(hcell:∀y∈sc.names,y.2≠.cell)(hnames:∀y∈sc.names,y.2=.local->sc.names.lookup y.1=some .local)(hsub:∀y c,cl.lookup y=some c->X.env.cells.lookup y=some c)(hhas:∀y,((IQ sc X.env).names.lookup y=some .cell\/(IQ sc X.env).names.lookup y=some .free)->∃c,cl.lookup y=some c)(hix:∀j∈ix,∃y,X.N[j]?=some y/\X.env.kindOf y=some .cell/\(IQ sc X.env).names.lookup y=some .cell)(hs:∀x,IL iter X.env x=pure x:=by intro _;rfl):
 PS X (.Assign [.Name yv py] (.ListComp elt [⟨.Name x px,iter,ifs,0⟩] sc pos) pos2) (tAsg (o7 ix wi tc te) (bp iy)):=by
 intro pins s σ H D0 I h;rw[exec_Assign_Name_used _ _ _ _ hsw];refine Ad (FI (Ad ?_));show IB _ _ (comprehension _ _ _ _ _ _ _ _>>=_) _ _ _;refine Ad (BH (Q:=fun _ s'=>SP X pins D0 .next s') (xw N hc hi hif he hkind hN hnd hx hcl hcell hnames hsub hhas hix hs (use:=some (assign (.Name yv py) X.env)) I h fun D C s6 H5 mm I7 hm hCn hCl hCc hsz hpin qn=>?_) (fun _ s' q=>Ai (Ai q)) fun _ _ y=>y);refine E1 (xt I7 hNd hiy hyv (show RelV (V.ref D) (Value.ref D) from rfl) (fun s8 I8 hsb=>?_) hfy);obtain⟨a8,sb8,ha8⟩:=hsb;have hna:C≠a8:=by
  rcases ha8 with z|z
  . rw[z];exact hCl
  . exact BY (hCc _ _ z)
 obtain⟨oC,esC,epC,hoC,rC⟩:=hm;refine⟨mm,⟨oC,esC,epC,sb8.extBut _ _ hna hoC,rC⟩,fun h9 sb9=>?_⟩;exact⟨_,H5,I8.turned (t':=s8.toks) (it:=C) (fun b o hb e=>sb9.extBut b o hb e) hCn hCl (.inr hsz) hCc hpin,qn⟩
end
section
variable{X:Cx}
theorem a84{o i:Expr}{pos:Pos}{td ty:TE}(hu:X.A.units+1<cLine)(ho:QE X o td)(hi:QE X i ty)(hs:NoSl i):QE X (.Subscript o i pos) (a7g td ty):=⟨a8j hu ho.run hi.run hs⟩
theorem a9h{o i:Expr}{pos:Pos}{td ty:TE}(hu:X.A.units+1<cLine)(hi:QE X i ty)(ho:QE X o td)(hm:IS .In o=false:=by with_unfolding_all rfl):QE X (.Compare i [.In] [o] pos) (tDIn ty td):=⟨a95 (a9j hu hi.run ho.run) hm⟩
end
section
variable{X:Cx}
end
theorem a0l{L:List (Str×NameKind)}{cl:List (Str×HW)}{ks:List Str}(hkm:cl.map (·.1)=ks)(hkB:(L.all fun y=>(match y.2 with|.cell=>false|.free=>false|_=>true) || decide (y.1∈ks))=true)(z:Str)(h:L.lookup z=some .cell\/L.lookup z=some .free):∃c,cl.lookup z=some c:=by
 have hm:z∈cl.map (·.1):=by
  rw[hkm];rcases h with h|h
  . have:=BD.mp hkB _ (BF h);simpa using this
  . have:=BD.mp hkB _ (BF h);simpa using this
 clear hkm hkB;induction cl with
 | nil=>simp at hm
 | cons p r ih =>
  rw[Cu];cases hb:z==p.1 with
  | true=>exact⟨_,rfl⟩
  | false =>
   rw[Be,Am] at hm;rcases hm with h1|h1
   . rw[h1] at hb;simp at hb
   . exact ih h1
section
variable{X:Cx}
theorem ye(hc:X.calm=true):dz X (.builtin "sum") (fun vs H Q=>∃(a:HW) (ns:List Int),vs=[.ref a]/\SqL X.K H a (ns.map V.int)/\(∀n∈ns,0<=n/\n<=10000)/\ns.length<=1000/\Q (.int ns.sum) H):=by
 intro pins s σ H vs us Q I r h;obtain⟨a,ns,rfl,hq,hb,hn,q⟩:=h;obtain⟨u,rfl,ru⟩:=r.one;cases ru;obtain⟨its,rv,p,_⟩:=I.list hq;have hs:=a2v rv;have hall:=hs.allInts;have hnum:=hs.numsOf;obtain⟨xs,hxs⟩:=hall.items;have hpl:s.heap.IsList a (intItems xs):=by rw[<- hxs];exact p.isList
 have hnn:numsOf (intItems xs).toList=ns:=by rw[<- hxs];simpa using hnum
 have hlen:xs.size=ns.length:=by
  have:=congrArg Array.size hxs;have h1:its.length=ns.length:=hs.length;simp[intItems] at this;omega
 rw[nums_intItems] at hnn;have bnd:∀(l:List Int),(∀n∈l,0<=n/\n<=10000)->0<=l.sum/\l.sum<=10000*(l.length:Int):=by
  intro l;induction l with
  | nil=>intro _;simp
  | cons x l ih =>
   intro h;have h1:=ih fun n hn=>h n (Bl _ hn);have h2:=h x (By ..);rw[BJ,AY];constructor
   . omega
   . have:((l.length+1:Nat):Int)=(l.length:Int)+1:=by omega
     rw[this];omega
 have hfit:PySem.SumFits ns:=fun j hj=>by
  have hm:ns[j]∈ns:=Ci hj;have h1:=hb _ hm;have h2:=bnd (ns.take (j+1)) fun n hn=>hb n (BA hn);have h3:((ns.take (j+1)).length:Int)<=1000:=by rw[AX];omega
  have e1:ns.getD j 0=ns[j]:=by rw[BQ,Ag hj];rfl
  unfold InLong;constructor
  . rw[e1];omega
  . omega
 refine sum_intList (I.ok.hd hc) hpl (fun j hj=>?_) fun h' tk t' hk=>?_
 . rw[numAt_eq,preSum_eq,hnn];exact hfit j (by omega)
 . refine⟨.int ns.sum,H,I.kept (t':=tk) hk,⟨t',?_⟩,q⟩;rw[preSum_eq,hnn,Bf (by omega)]
end
theorem a0g{cl cells:List (Str×HW)}(h:∀p∈cl,cells.lookup p.1=some p.2)(y:Str)(c:HW)(e:cl.lookup y=some c):cells.lookup y=some c:=h (y,c) (BF e)
inductive ClIn(cells:List (Str×HW)):List (Str×HW)->Prop
 | nil:ClIn cells []
 | cons{x:Str}{a:HW}{r:List (Str×HW)}:cells.lookup x=some a->ClIn cells r->ClIn cells ((x,a)::r)
theorem ClIn.all{cells cl:List (Str×HW)}(h:ClIn cells cl):∀p∈cl,cells.lookup p.1=some p.2:=by
 induction h with
 | nil=>intro p hp;cases hp
 | cons h _ ih =>
  intro p hp;rcases Am.mp hp with rfl|z
  . exact h
  . exact ih p z
inductive IxIn(X:Cx)(sc:Scope):List Nat->Prop
 | nil:IxIn X sc []
 | cons{j:Nat}{y:Str}{r:List Nat}:X.N[j]?=some y->X.env.kindOf y=some .cell->(IQ sc X.env).names.lookup y=some .cell->IxIn X sc r->IxIn X sc (j::r)
theorem IxIn.all{X:Cx}{sc:Scope}{ix:List Nat}(h:IxIn X sc ix):∀j∈ix,∃y,X.N[j]?=some y/\X.env.kindOf y=some .cell/\(IQ sc X.env).names.lookup y=some .cell:=by
 induction h with
 | nil=>intro p hp;cases hp
 | cons h1 h2 h3 _ ih =>
  intro p hp;rcases Am.mp hp with rfl|z
  . exact⟨_,h1,h2,h3⟩
  . exact ih p z
theorem ij{X:Cx}{elt iter:Expr}{x:Str}{px pos:Pos}{ifs:List Expr}{sc:Scope}{cl:List (Str×HW)}{wi:TI}{tc:TT}{te:TE}(N:List Str)(ix:List Nat)(hi:QI X (.Name x px) iter wi)(hif:∀s H C ex,QTs (blk X N s H sc cl C ex) ifs tc)(he:∀s H C ex,QE (blk X N s H sc cl C ex) elt te)(hcl:closureFor sc X.env=pure cl:=by rfl)(hcs:ClIn X.env.cells cl:=by repeat' first|with_unfolding_all rfl|constructor)(hN:N=x::ix.map (fun j=>(X.N[j]?).getD ""):=by rfl)(hnd:N.Nodup:=by decide)(hkm:cl.map (·.1)=N.tail:=by rfl)(hkB:((IQ sc X.env).names.all fun y=>(match y.2 with|.cell=>false|.free=>false|_=>true) || decide (y.1∈N.tail))=true:=by with_unfolding_all rfl)(hix:IxIn X sc ix:=by repeat' first|with_unfolding_all rfl|constructor)(hx:sc.names.lookup x=some .local:=by decide)(hcell:∀z∈sc.names,z.2≠.cell:=by decide)(hnames:∀z∈sc.names,z.2=.local->sc.names.lookup z.1=some .local:=by decide)(hc:X.calm=true:=by rfl)(hkind:sc.kind=.function:=by rfl)(hs:∀x,IL iter X.env x=pure x:=by intro _;rfl):
 QE X (.ListComp elt [⟨.Name x px,iter,ifs,0⟩] sc pos) (o7 ix wi tc te) :=
 ⟨wn N hc hi.run (fun s H C ex=>(hif s H C ex).run) (fun s H C ex=>(he s H C ex).run) hkind hN hnd hx hcl hcell hnames (a0g hcs.all) (a0l hkm hkB) hix.all hs⟩
theorem jc{X:Cx}{elt iter:Expr}{x yv:Str}{px pos py pos2:Pos}{i:Nat}{ifs:List Expr}{sc:Scope}{cl:List (Str×HW)}{wi:TI}{tc:TT}{te:TE}(N:List Str)(ix:List Nat)(hNd:X.N.Nodup)(hiy:X.N[i]?=some yv)(hyv:Loc X.env.scope yv)(hi:QI X (.Name x px) iter wi)(hif:∀s H C ex,QTs (blk X N s H sc cl C ex) ifs tc)(he:∀s H C ex,QE (blk X N s H sc cl C ex) elt te)(hsw:Ie (.ListComp elt [⟨.Name x px,iter,ifs,0⟩] sc pos) (some (.Name yv py)) pos2.line X.env=pure true:=by rfl)(hfy:X.fn yv=true\/X.env.scope.names.lookup yv=some .local:=by first|exact .inl rfl|exact .inr rfl|assumption)(hcl:closureFor sc X.env=pure cl:=by rfl)(hcs:ClIn X.env.cells cl:=by repeat' first|with_unfolding_all rfl|constructor)(hN:N=x::ix.map (fun j=>(X.N[j]?).getD ""):=by rfl)(hnd:N.Nodup:=by decide)(hkm:cl.map (·.1)=N.tail:=by rfl)(hkB:((IQ sc X.env).names.all fun y=>(match y.2 with|.cell=>false|.free=>false|_=>true) || decide (y.1∈N.tail))=true:=by with_unfolding_all rfl)(hix:IxIn X sc ix:=by repeat' first|with_unfolding_all rfl|constructor)(hx:sc.names.lookup x=some .local:=by decide)(hcell:∀z∈sc.names,z.2≠.cell:=by decide)(hnames:∀z∈sc.names,z.2=.local->sc.names.lookup z.1=some .local:=by decide)(hc:X.calm=true:=by rfl)(hkind:sc.kind=.function:=by rfl)(hs:∀x,IL iter X.env x=pure x:=by intro _;rfl):
 QS X (.Assign [.Name yv py] (.ListComp elt [⟨.Name x px,iter,ifs,0⟩] sc pos) pos2) (tAsg (o7 ix wi tc te) (bp i)) :=
 ⟨a2t N hNd hiy hyv hsw hfy hc hi.run (fun s H C ex=>(hif s H C ex).run) (fun s H C ex=>(he s H C ex).run) hkind hN hnd hx hcl hcell hnames (a0g hcs.all) (a0l hkm hkB) hix.all hs⟩
theorem a6l{α β:Type}{J:It}{H1:Hp}{σ:St}{ix:List Nat}{te:TE}{Q:VK}{I0:Hp->Prop}(xs:List V)(rs:List α)(R:HW->Hp->V->β->Prop)(f:α->β)(hJ:JSeq J I0 xs)(h0:I0 H1)(hz:xs.length<=1000)(hl:rs.length=xs.length)(hR:∀D H H' y r,R D H y r->md D H H'->R D H' y r)(he:∀(D:HW) (i:Nat) (x:V) (r:α),xs[i]?=some x->rs[i]?=some r->∀H2,Same H1 H2->H2 D≠none->∀Q':VK,(∀y H3,Same H2 H3->R D H3 y (f r)->Q' y H3)->te (some x::cr σ ix) H2 Q')(hQ:∀D H' ys,H1 D=none->Same H1 H'->H' D=some (.lst ys)->IE (fun y r=>R D H' y r) ys (rs.map f)->Q (.ref D) H'):i8 J H1 σ ix tYes te Q:=by
 intro D hD;have put:∀H ys,Same H1 H->Same H1 (upd H D (.lst ys)):=fun H ys e b u q=>by rw[ai (aq q hD)];exact e b u q
 refine⟨fun i m H=>i<=xs.length/\m=xs.length-i/\Same H1 H/\∃ys:List V,H D=some (.lst ys)/\IE (fun y r=>R D H y r) ys ((rs.take i).map f),⟨xs.length,AG _,rfl,put _ _ (Same.refl _),[],ab,by simpa using Paired.nil⟩,?_⟩;rintro i m H ⟨hi,rfl,e,ys,hy,hp⟩;have hI:=hJ.stay _ _ h0 e;by_cases hlt:i<xs.length
 . refine .inr ⟨hJ.go i H hI hlt,fun x H' hy'=>?_⟩;obtain⟨rfl,hx⟩:=hJ.yld i H x H' hlt hI hy';have hri:i<rs.length:=by omega
   have hr:rs[i]?=some rs[i]:=Ag hri;have ht:rs.take (i+1)=rs.take i++[rs[i]]:=by rw[Bn,hr];rfl
   have hlen:ys.length=i:=by
    have h1:=Ao hp;rw[Ab,AX] at h1;omega
   dsimp only[tYes];rw[if_pos rfl];refine he D i x rs[i] hx hr _ e (by rw[hy];simp) _ fun y H4 e4 hR4=>?_;have hput:md D H4 (upd H4 D (.lst (ys++[y]))):=fun b u q hn=>by rw[ai hn];exact q
   refine⟨ys,e4 _ _ hy,by rw[hlen];exact AH hlt (Aw hz (by decide)),xs.length-(i+1),by omega,hlt,rfl,put _ _ (e.trans e4),ys++[y],ab,?_⟩;rw[ht,Al];exact Paired.snocP (Paired.mapP hp fun a r z=>hR _ _ _ _ _ (hR _ _ _ _ _ z (e4.x D)) hput) (hR _ _ _ _ _ hR4 hput)
 . have hi':i=xs.length:=by omega
   subst hi';refine .inl ⟨hJ.stop _ H hI (Ar _),?_⟩;rw[<- hl,B3] at hp;exact hQ D H ys hD e hy hp
section
variable{X:Cx}{CX:CXT}{k:Nat}{f C:HW}{fd:II}{ps:List Str}{ds:List HX}{dvs:List V}{sp:Sp}{E:XK}{x m fl:Str}{p pos pos' apos:Pos}{e o value:Expr}{es:List Expr}{ta tv:TE}{t:TA}
end
section
variable{X:Cx}{pins:List (HW×Obj)}{σ:St}{H:Hp}{s:HZ}{a:HW}{y d:V}{u r:HX}{A:IK}{E:HX->HZ->Prop}
end
section
variable{X:Cx}{o e f:Expr}{apos cpos:Pos}{td ty tx:TE}
end
section
variable{prog:IC}{w:IF}{A:IK}{E:HX->HZ->Prop}{s:HZ}{J d:HW}{n ep:Nat}{es:Array DictEntry}{od:Obj}
end
section
variable{X:Cx}
end
section
variable{X:Cx}{pins:List (HW×Obj)}{σ:St}{H:Hp}{s:HZ}{a:HW}{u:HO}{o:Obj}
end
end L2
namespace HT
open PyProof.Rows L2
variable{prog:IC}{w:IF}{A:IK}{E:HX->HZ->Prop}{s:HZ}
theorem getItem_tuple_whole{t sl:HW}{items:Array HX}{vl vu:HX}{lo hi:Option Int}{Q:HX->HZ->Prop}(ht:IsTup s.heap t items)(hs:s.heap.IsSliceOf sl vl vu .none)(pl:IsPart vl lo)(pu:IsPart vu hi)(h1:sIx items.size 0 lo=0)(h2:sIx items.size items.size hi=items.size)(h:Q (.ref t) s):IB (ID prog w) A (getItem (.ref t) (.ref sl)) Q E s:=by
 obtain⟨os,hos,hcs,hds⟩:=id hs;have hTs:s.TypeIs (.ref sl) "slice" := ⟨os,hos,hcs⟩
 unfold getItem
 try with_reducible refine BO ?_
 first|refine Ad (Ai ?_)|skip
 refine Ad (Gi ht.typeIs (by decide) ?_);refine Ad (B8 (name:=BP "__getitem__") ht.typeIs B7
  (BB B7 ht.typeIs entry_tuple_getitem ?_ (args_tuple_getitem _ _)))
 show IB _ _ (Eu (.ref t)>>=_) _ _ s;refine Ad (tupleItemsOf_ ht ?_);refine Ad (Da hTs ?_);rw[if_pos (by decide)];refine Ad (ni hs pl pu ?_);have hyes:((((sIx items.size 0 lo:Nat):Int)==0 && (1:Int)==1 && (sIx items.size items.size hi-sIx items.size 0 lo)==items.size)=true):=by
  rw[h1,h2];simp
 show IB _ _ (if (((sIx items.size 0 lo:Nat):Int)==0 && (1:Int)==1 && (sIx items.size items.size hi-sIx items.size 0 lo)==items.size)=true then _ else _) _ _ s;rw[if_pos hyes];unfold Builtin.Tuple.tupleIsExact;refine Ad (Ad (Da ht.typeIs (Ai ?_)));rw[if_pos (by decide)];refine Ad (CG ?_);exact Ai ⟨_,rfl,Ai h⟩
end HT
namespace L2
open PyProof.Rows
section
variable{X:Cx}
theorem a3l{xs:List V}{lo hi:Option Int}(h1:HT.sIx xs.length 0 lo=0)(h2:HT.sIx xs.length xs.length hi=xs.length):cutV xs lo hi=xs:=by
 unfold cutV;rw[h1,h2,B9,Gb,B3]
def aap(K:Ac):V->Option Int->Option Int->Hp->VK->Prop:=fun x lo hi H Q=>∃a xs,x=.ref a/\SqT K H a xs/\∀p H',Same H H'->SqT K H' p (cutV xs lo hi)->Q (.ref p) H'
theorem mv:SlR X (aap X.K):=by
 intro pins s σ H x v vl vu lo hi sl Q I rx hs pl pu h;obtain⟨a,xs,rfl,hx,q⟩:=h;by_cases hw:HT.sIx xs.length 0 lo=0/\HT.sIx xs.length xs.length hi=xs.length
 . cases rx;obtain⟨its,r,ht,hz⟩:=I.tuple hx;have hlen:its.toArray.size=xs.length:=by rw[AB];exact r.length.symm
   refine⟨"tuple",_,B7.lookup,ht.typeIs,?_⟩;refine HT.getItem_tuple_whole ht hs pl pu (by rw[hlen];exact hw.1) (by rw[hlen];exact hw.2) ?_;refine⟨.ref a,H,I,rfl,q a H (Same.refl _) ?_⟩;rw[a3l hw.1 hw.2];exact hx
 . exact qy pins s σ H (.ref a) v vl vu lo hi sl Q I rx hs pl pu ⟨a,xs,rfl,hx,hw,fun p hp=>q p _ (ad hp _) (SqT.of ab)⟩
end
section
variable{X:Cx}{tg:Expr}
end
open PySem.Builtin
section
variable{prog:IC}{w:IF}{d:HW}{es:Array DictEntry}{ep:Nat}{od:Obj}
end
section
variable{X:Cx}
end
section
variable{prog:IC}{w:IF}{A:IK}{E:HX->HZ->Prop}{s:HZ}{d:HW}{es:Array DictEntry}{ep:Nat}{od:Obj}
end
def wz(K:Ac)(J:It)(H1:Hp)(σ:St)(ix:List Nat)(tc:TT)(te:TE)(Q:VK):Prop:=∀D,H1 D=none->
 ∃W:Nat->Nat->Hp->Prop,(∃m,W 0 m (upd H1 D (.lst [])))/\∀i m H,W i m H->
  (J.stop i H/\Q (.ref D) H)\/(J.go i H/\∀x H',J.yld i H x H'->∃p a b,x=.ref p/\SqT K H' p [a,b]/\tc (some a::some b::cr σ ix) H' fun c H2 =>
   if c=true then te (some a::some b::cr σ ix) H2 fun y H3=>∃ys,H3 D=some (.lst ys)/\ys.length<HY/\∃m',m'<m/\W (i+1) m' (upd H3 D (.lst (ys++[y])))
   else ∃m',m'<m/\W (i+1) m' H2)
def a54(K:Ac)(ix:List Nat)(wi:TI)(tc:TT)(te:TE):TE:=fun σ H Q=>wi σ H fun J H1=>wz K J H1 σ ix tc te Q
section
variable{X:Cx}
end
section
variable{X:Cx}
theorem a6j{pins:List (HW×Obj)}{σ:St}{H:Hp}{s:HZ}{N:List Str}{x x2:Str}{sc:Scope}{cl:List (Str×HW)}{fp:List HW}{ix:List Nat}{h1:IJ}{m:Str->Option HX}{tk:Nat}(I:Inv X pins σ H s)(hkind:sc.kind=.function)(hN:N=x::x2::ix.map fun j=>(X.N[j]?).getD "")(hsub:∀y c,cl.lookup y=some c->X.env.cells.lookup y=some c)(hhas:∀y,((IQ sc X.env).names.lookup y=some .cell\/(IQ sc X.env).names.lookup y=some .free)->∃c,cl.lookup y=some c)(hix:∀j∈ix,∃y,X.N[j]?=some y/\X.env.kindOf y=some .cell/\(IQ sc X.env).names.lookup y=some .cell)(hfp:∀b∈fp,FpOk X pins H b)(hlt:∀b∈fp,b<s.heap.objs.size)(hns:h1.Ns s.heap.objs.size m)(hk:∀b o,s.heap.get? b=some o->h1.get? b=some o):
 Inv (blk X N s H sc cl s.heap.objs.size fp) [] (none::none::cr σ ix) H {s with heap:=h1,toks:=tk}:=by
 have fresh:H s.heap.objs.size=none:=I.hok.fresh (Ar _);refine⟨⟨I.ok.mod,hkind,I.ok.glob,I.ok.blt,Ar _,fun y z c h1 h2=>I.ok.inj y z c (hsub y c h1) (hsub z c h2),fun y hy=>hhas y hy,fun y c z _=>absurd (show false=true from z) (by decide),I.ok.hd,I.ok.frames,.inl rfl,
  fun b hb=>⟨AL (hlt b hb),fun y c e=>(hfp b hb).2.2.2.2.1 y c (hsub y c e)⟩,I.bs,Aw I.ok.bsz I.sz,fun b o e hb=>?_,fun b hb z=>?_,I.stack,I.stkFree⟩,
  rfl,I.bare,Un.kept hk,⟨m,hns,fun i y v e1 e2 e3=>?_⟩,fun y c e=>?_,fresh,fun y c e=>I.freeC y c (hsub y c e),fun p hp=>absurd (show p∈([]:List (HW×Obj)) from hp) (by simp),I.hok.kept hk,?_⟩
 . rcases (hfp b hb).2.2.2.1 with z|z
   . exact I.ok.noex b o e z
   . exact absurd (AH (AC e) (Aw I.ok.bsz z)) (Bt _)
 . rcases Am.mp (I.stkSub b z) with q|q
   . exact (hfp b hb).2.1 q
   . exact (hfp b hb).2.2.1 q
 . cases i with
   | zero =>
    have e2':(some none:Option (Option V))=some (some v):=e2;cases e2'
   | succ i =>
    cases i with
    | zero =>
     have e2':(some none:Option (Option V))=some (some v):=e2;cases e2'
    | succ i =>
     have e2':(cr σ ix)[i]?=some (some v):=by simpa using e2
     unfold cr at e2';rw[Ah] at e2';cases q:ix[i]? with
     | none=>rw[q] at e2';cases e2'
     | some j =>
      rw[q] at e2';have e3':(σ[j]?).getD none=some v:=by simpa using e2'
      have e4:σ[j]?=some (some v):=by
       cases q2:σ[j]? with
       | none=>rw[q2] at e3';cases e3'
       | some w=>rw[q2] at e3';simpa using e3'
      obtain⟨y',hy,hc,hr⟩:=hix j (Ak q);have ey:y'=y:=by
       have e1':N[i+1+1]?=some y:=e1;rw[hN,DA,DA,Ah,q] at e1';have:=Ay e1';simpa [hy] using this
      subst ey;obtain⟨m0,hn0,hl0⟩:=I.loc;obtain⟨u,r,l⟩:=hl0 j y' v hy e4 (.inr (.inl hc));refine⟨u,r,.inr ⟨.inl hr,?_⟩⟩;rcases l with⟨k,_⟩|⟨_,c,ec,ic⟩
      . rw[hc] at k;cases k
      . obtain⟨c',ec'⟩:=hhas y' (.inl hr);have:=hsub y' c' ec';rw[ec] at this;cases this;obtain⟨o,ho,hd⟩:=ic;exact⟨c,ec',o,hk c o ho,hd⟩
 . obtain⟨v,o,ho,hd⟩:=I.cell y c (hsub y c e);exact⟨v,o,hk c o ho,hd⟩
 . show (none::none::cr σ ix).length=N.length;rw[hN];simp[cr]
theorem a6s{elt iter:Expr}{x x2:Str}{px px2 ptt pos:Pos}{kt:Nat}{ifs:List Expr}{sc:Scope}{cl:List (Str×HW)}{ix:List Nat}{wi:TI}{tc:TT}{te:TE}(N:List Str)(hc:X.calm=true)(hi:PI X (.Tuple [.Name x px,.Name x2 px2] kt ptt) iter wi)(hif:∀s H C ex,PTs (blk X N s H sc cl C ex) ifs tc)(he:∀s H C ex,PE (blk X N s H sc cl C ex) elt te)(hkind:sc.kind=.function)(hN:N=x::x2::ix.map fun j=>(X.N[j]?).getD "")(hnd:N.Nodup)(hx:sc.names.lookup x=some .local)(hx2:sc.names.lookup x2=some .local)(hcl:closureFor sc X.env=pure cl)(hcell:∀y∈sc.names,y.2≠.cell)(hnames:∀y∈sc.names,y.2=.local->sc.names.lookup y.1=some .local)(hsub:∀y c,cl.lookup y=some c->X.env.cells.lookup y=some c)(hhas:∀y,((IQ sc X.env).names.lookup y=some .cell\/(IQ sc X.env).names.lookup y=some .free)->∃c,cl.lookup y=some c)(hix:∀j∈ix,∃y,X.N[j]?=some y/\X.env.kindOf y=some .cell/\(IQ sc X.env).names.lookup y=some .cell)(hs:∀x,IL iter X.env x=pure x:=by intro _;rfl):
 PE X (.ListComp elt [⟨.Tuple [.Name x px,.Name x2 px2] kt ptt,iter,ifs,0⟩] sc pos) (a54 X.K ix wi tc te):=by
 intro pins s σ H Q I h;rw[eval_ListComp];refine ED (use:=none) rfl hs hcl hkind hnames (thn (hi pins s σ H _ I h) fun v s1 h1=>thn h1 fun itv s2 h2=>?_);obtain⟨it,fp,tn,J,H2,e,I2,T,st2,f2,q2⟩:=h2;subst e;have fr2:H2 s2.heap.objs.size=none:=I2.hok.fresh (Ar _);obtain⟨W,⟨m0,w0⟩,turn⟩:=q2 s2.heap.objs.size fr2;refine Bm ?_;have I3:Inv X pins σ (upd H2 s2.heap.objs.size (.lst [])) {s2 with heap:=s2.heap.push {cls:=.type "list",dict:=none,data:=.seq ([]:List HX).toArray}}:=by
  exact I2.lnew (its:=[]) (ys:=[]) (t':=s2.toks) .nil (AG _)
 have lt2:∀b∈fp,b<s2.heap.objs.size:=fun b hb=>by
  obtain⟨o,ho,_⟩:=T.obj _ _ st2 b hb;exact AC ho
 have f3:∀b∈fp,FpOk X pins (upd H2 s2.heap.objs.size (.lst [])) b:=fun b hb=>⟨by rw[ai (AL (lt2 b hb))];exact (f2 b hb).1,(f2 b hb).2⟩
 generalize hs3:({s2 with heap:=s2.heap.push {cls:=.type "list",dict:=none,data:=.seq ([]:List HX).toArray}}:HZ)=s3 at I3;have hsz3:s2.heap.objs.size<=s3.heap.objs.size:=by rw[<- hs3];show _<=(s2.heap.push _).objs.size;rw[Bs];exact CU _
 have tn3:tn 0 s3.heap:=T.keep _ _ _ st2 fun b _ o e=>by rw[<- hs3];exact Af _ e
 have lt3:∀b∈fp,b<s3.heap.objs.size:=fun b hb=>AH (lt2 b hb) hsz3;refine FE hcell (by intro y hy;simp at hy) (fun h4 hns4 hsb4=>?_) hkind;have old:∀b o,s3.heap.get? b=some o->h4.get? b=some o:=fun b o e=>hsb4.extBut b o (AL (AC e)) (Af _ e);have I4:=a6j (m:=_) (tk:=s3.toks+([]:List (Str×HX)).length) (N:=N) I3 hkind hN hsub hhas hix f3 lt3 hns4 old;have tn4:tn 0 h4:=T.keep _ _ _ tn3 fun b _ o e=>old b o e;have fpB:∀{H':Hp},(∀b∈fp,H' b=none)->∀b∈fp,FpOk (blk X N s3 (upd H2 s2.heap.objs.size (.lst [])) sc cl s3.heap.objs.size fp) [] H' b:=fun {H'} hn b hb =>
  ⟨hn b hb,AL (lt3 b hb),I4.ok.exfs b hb,.inl hb,fun y c e=>(I4.ok.exf b hb).2 y c e,fun p hp=>absurd (show p∈([]:List (HW×Obj)) from hp) (by simp)⟩
 have loop:IY (ID X.prog X.w) X.A (.compLoop (.ListComp elt [⟨.Tuple [.Name x px,.Name x2 px2] kt ptt,iter,ifs,0⟩] sc pos) 0 (.ref it) (.ref s2.heap.objs.size) (compEnvC sc cl s3.heap.objs.size X.env))
  (compPost (ID X.prog X.w) X.A X.xe none (EP X pins σ Q) (.ref s2.heap.objs.size) s3.heap.objs.size) {s3 with heap:=h4,toks:=s3.toks+([]:List (Str×HX)).length}:=by
  refine sw (fun n s'=>∃i v0 v1 H',Inv (blk X N s3 (upd H2 s2.heap.objs.size (.lst [])) sc cl s3.heap.objs.size fp) [] (v0::v1::cr σ ix) H' s'/\tn i s'.heap/\(∀b∈fp,H' b=none)/\W i n H') ?_ m0
   ⟨0,none,none,_,I4,tn4,fun b hb=>(f3 b hb).1,w0⟩
  rintro n s5 ⟨i,v0,v1,H5,I5,st5,fr5,w5⟩;rcases turn i n H5 w5 with⟨stop,qn⟩|⟨go,step⟩
  . refine thn (T.done (blk X N s3 (upd H2 s2.heap.objs.size (.lst [])) sc cl s3.heap.objs.size fp) rfl rfl rfl hc i [] s5 _ H5 _ I5 (fpB fr5) st5 stop) fun r s6 ⟨hr,I6⟩=>?_;subst hr;obtain⟨mm,hm,_⟩:=I6.loc;refine⟨mm,hm,fun h7 sb7=>?_⟩;have I7:Inv X pins σ H5 {s6 with heap:=h7}:=by
     have hC:H5 s3.heap.objs.size=none:=I6.free;have hc3:s3.heap.get? s3.heap.objs.size=none:=DQ (Ar _);have up:∀b o,b≠s3.heap.objs.size->s6.heap.get? b=some o->h7.get? b=some o:=fun b o hb e=>sb7.extBut b o hb e;have neC:∀b o,s3.heap.get? b=some o->b≠s3.heap.objs.size:=fun b o e=>AL (AC e);have u:=I6.base;refine I3.call' (s':={s6 with heap:=h7}) (ch:=fp) I6.os ⟨fun b o e n hb hx=>?_,fun b o e n hb hx=>?_,fun b o e n hx=>u.free b o e n hx,fun b o e hx=>?_,u.tups,u.frzs,u.tbls⟩ (fun b o e=>?_) I6.bare fun b hb=>⟨(f3 b hb).2.2.2.1,(f3 b hb).2.1,(f3 b hb).2.2.2.2.1,(f3 b hb).2.2.2.2.2⟩
     . exact up b o (neC b o e) (u.keep b o e n hb hx)
     . obtain⟨sl,e1⟩:=u.slot b o e n hb hx;exact⟨sl,up b _ (neC b o e) e1⟩
     . obtain⟨o',e1⟩:=u.there b o e hx;exact⟨o',up b _ (neC b o e) e1⟩
     . refine (I6.hok b o e).stay (fun c v hc' q=>up c v ?_ q) (fun _ q=>q) fun _ _ q=>q;rintro rfl;rcases hc' with z|z
       . rw[<- z,hC] at e;cases e
       . rw[hC] at z;cases z
    exact⟨.ref s2.heap.objs.size,H5,I7,rfl,qn⟩
  . refine thn (T.item (blk X N s3 (upd H2 s2.heap.objs.size (.lst [])) sc cl s3.heap.objs.size fp) rfl rfl rfl hc i [] s5 _ H5 _ I5 (fpB fr5) st5 go) fun r s6 ⟨u,hr,h6⟩=>?_;subst hr;refine thn h6 fun _ s7 ⟨y,H7,I7,r7,y7,st7,fr7⟩=>?_;have I7':=I7.pinned (fpB fr7) (T.obj _ _ st7);obtain⟨pp,ya,yb,rfl,hpp,step7⟩:=step y H7 y7;have hPG:PG (blk X N s3 (upd H2 s2.heap.objs.size (.lst [])) sc cl s3.heap.objs.size fp) (.Tuple [.Name x px,.Name x2 px2] kt ptt) (gTup X.K 2 (il (bp 0) (il (bp 1) gNil))) :=
     v7 hc (fc (pf (i:=0) hnd (by show N[0]?=some x;rw[hN];rfl) (.inl (Co hx)) (.inr (Co hx))) (fc (pf (i:=1) hnd (by show N[1]?=some x2;rw[hN];rfl) (.inl (Co hx2)) (.inr (Co hx2))) sf))
    refine thn (hPG _ s7 _ H7 (.ref pp) _ (fun σ' H'=>σ'=some ya::some yb::cr σ ix/\H'=H7) I7' r7 ⟨pp,_,rfl,hpp,rfl,_,_,rfl,_,_,rfl,rfl,rfl,rfl⟩) fun _ s8 ⟨σ8,H8,I8,eσ,eH⟩=>?_;subst eσ eH;refine thn (hif _ _ _ _ _ s8 _ H8 _ I8 step7) fun ok s9 ⟨H9,I9,q9⟩=>?_;have again:∀{H':Hp} {s':HZ} {m':Nat},Inv (blk X N s3 (upd H2 s2.heap.objs.size (.lst [])) sc cl s3.heap.objs.size fp) ([]++ng fp s7.heap) (some ya::some yb::cr σ ix) H' s'->m'<n->W (i+1) m' H'->
     ∃m,m<n/\∃i v0 v1 H',Inv (blk X N s3 (upd H2 s2.heap.objs.size (.lst [])) sc cl s3.heap.objs.size fp) [] (v0::v1::cr σ ix) H' s'/\tn i s'.heap/\(∀b∈fp,H' b=none)/\W i m H':=fun {H' s' m'} Ia hm wa=>by
     refine⟨m',hm,i+1,some ya,some yb,H',Ia.unpinned,T.keep _ _ _ st7 fun b hb o e=>(Ia.pin (b,o) (AU _ (AU _ (jj hb e)))).1,fun b hb=>?_,wa⟩;obtain⟨o,e,d⟩:=T.obj _ _ st7 b hb;exact (Ia.pin (b,o) (AU _ (AU _ (jj hb e)))).2.1
    cases ok with
    | false =>
     rw[if_neg An] at q9 |-;obtain⟨m',hm,wa⟩:=q9;exact again I9 hm wa
    | true =>
     rw[if_pos rfl] at q9 |-;refine thn (he _ _ _ _ _ s9 _ H9 _ I9 q9) fun v10 s10 ⟨z,H10,I10,r10,ys,hD,hl,m',hm,wa⟩=>?_;exact thn (bq _ s10 _ H10 (.ref s2.heap.objs.size) [z] (.ref s2.heap.objs.size) [v10] (fun _ H'=>H'=upd H10 s2.heap.objs.size (.lst (ys++[z]))) I10 rfl (.cons r10 .nil) ⟨_,ys,z,rfl,rfl,hD,hl,rfl⟩)
      fun _ s11 ⟨_,H11,I11,_,e11⟩=>again I11 hm (by rw[e11];exact wa)
 subst hs3;exact Fh loop (T.self _ 0 _ _ _ tn4 loop)
theorem xh{X:Cx}{elt iter:Expr}{x x2:Str}{px px2 ptt pos:Pos}{kt:Nat}{ifs:List Expr}{sc:Scope}{cl:List (Str×HW)}{wi:TI}{tc:TT}{te:TE}{K:Ac}(hK:X.K=K)(N:List Str)(ix:List Nat)(hi:QI X (.Tuple [.Name x px,.Name x2 px2] kt ptt) iter wi)(hif:∀s H C ex,QTs (blk X N s H sc cl C ex) ifs tc)(he:∀s H C ex,QE (blk X N s H sc cl C ex) elt te)(hcl:closureFor sc X.env=pure cl:=by rfl)(hcs:ClIn X.env.cells cl:=by repeat' first|with_unfolding_all rfl|constructor)(hN:N=x::x2::ix.map (fun j=>(X.N[j]?).getD ""):=by rfl)(hnd:N.Nodup:=by decide)(hkm:cl.map (·.1)=N.tail.tail:=by rfl)(hkB:((IQ sc X.env).names.all fun y=>(match y.2 with|.cell=>false|.free=>false|_=>true) || decide (y.1∈N.tail.tail))=true:=by with_unfolding_all rfl)(hix:IxIn X sc ix:=by repeat' first|with_unfolding_all rfl|constructor)(hx:sc.names.lookup x=some .local:=by decide)(hx2:sc.names.lookup x2=some .local:=by decide)(hcell:∀z∈sc.names,z.2≠.cell:=by decide)(hnames:∀z∈sc.names,z.2=.local->sc.names.lookup z.1=some .local:=by decide)(hc:X.calm=true:=by rfl)(hkind:sc.kind=.function:=by rfl)(hs:∀x,IL iter X.env x=pure x:=by intro _;rfl):
 QE X (.ListComp elt [⟨.Tuple [.Name x px,.Name x2 px2] kt ptt,iter,ifs,0⟩] sc pos) (a54 K ix wi tc te):=by
 subst hK;exact⟨a6s N hc hi.run (fun s H C ex=>(hif s H C ex).run) (fun s H C ex=>(he s H C ex).run) hkind hN hnd hx hx2 hcl hcell hnames (a0g hcs.all) (a0l hkm hkB) hix.all hs⟩
end
end L2
namespace L2
abbrev rQ(a:HW):Option V:=some (.ref a)
abbrev iQ(a:Int):Option V:=some (.int a)
abbrev nQ:Option V:=none
end L2
namespace Ka
open PySem PyProof.Rows
theorem a81:typeLookup (.type "list") "keys"=pure none:=by rw[Dq,Cz];kernel_rfl
theorem aak:typeLookup (.type "list") "__getattr__"=pure none:=by rw[Dq,Cz];kernel_rfl
theorem a1x:isSubtype (.type "AttributeError") (.type "AttributeError")=pure true:=by rw[Ei];kernel_rfl
section
variable{prog:IC}{w:IF}{A:IK}{E:HX->HZ->Prop}{h:IJ}{g:Array GenState}{d:Drawn}{t:Nat}{os:OsState}{a:HW}{o:Obj}
set_option maxHeartbeats 16000000 in
theorem aac{tk:Tok}{Q:Fin->HZ->Prop}(hh:A.handled=none){xs:Array HX}{n:Nat}{sl:Array (Option HX)}(hx:h.get? a=some {cls:=.type "list",dict:=none,data:=.seq xs n,slots:=sl})(hq:∀h' e t',(∀b u,h.get? b=some u->h'.get? b=some u)->(∃oe,h'.get? e=some oe/\oe.cls=.type "AttributeError")->h.objs.size<=h'.objs.size->E (.ref e) ⟨h',g,d,t',os⟩):
 IB (ID prog w) A (Builtin.«object.__getattribute__» ⟨[.ref a,.str "keys" tk],[]⟩) Q E ⟨h,g,d,t,os⟩:=by
 have hT:(⟨h,g,d,t,os⟩:HZ).TypeIs (.ref a) "list" := ⟨_,hx,rfl⟩
 have f4:=a81
 repeat (any_goals (first|assumption|wp_step))
 have hm:(BP (toString "'" ++ toString ((Hw "list").elim "list" fun x=>x.tpName)++toString "' object has no attribute '")++BP "keys" ++ BP "'").length<=HY:=by decide
 generalize (BP (toString "'" ++ toString ((Hw "list").elim "list" fun x=>x.tpName)++toString "' object has no attribute '")++BP "keys" ++ BP "'")=msg at hm |-;unfold raiseAttrError
 repeat (any_goals (first|assumption|wp_step))
 have f5:isSubtype (.type "AttributeError") (.type "AttributeError")=pure true:=a1x;dsimp only
 repeat (any_goals (first|assumption|wp_step))
 generalize hO:({cls:=Value.type "AttributeError",data:=_}:Obj)=oe;generalize hT2:({cls:=Value.type "tuple",data:=Data.seq #[Value.str msg t]}:Obj)=ot;have hoc:oe.cls=.type "AttributeError" := by rw[<- hO]
 have hof:∃vs,oe.data=.fields vs:=⟨_,by rw[<- hO]⟩
 obtain⟨vs,hvs⟩:=hof;have e1:((h.push ot).push oe).get? (h.push ot).objs.size=some oe:=AE _ (by rw[<- hO];rfl);refine FN hh (hq _ _ _ (fun b u hb=>?_) ⟨_,BU _ e1 (Fx (Ep hvs _)),(Gr ..).trans hoc⟩ ?_)
 . have hlt:=AC (Af ot hb);rw[Heap.get?_update_ne _ _ _ _ (AL hlt)];exact Af _ (Af _ hb)
 . rw[Heap.size_update,size_push',size_push'];omega
set_option maxHeartbeats 16000000 in
theorem attr{Q:Option HX->HZ->Prop}(hh:A.handled=none){xs:Array HX}{n:Nat}{sl:Array (Option HX)}(hx:h.get? a=some {cls:=.type "list",dict:=none,data:=.seq xs n,slots:=sl})(hq:∀h' t',(∀b u,h.get? b=some u->h'.get? b=some u)->h.objs.size<=h'.objs.size->Q none ⟨h',g,d,t',os⟩):IB (ID prog w) A (getAttr? (.ref a) "keys") Q E ⟨h,g,d,t,os⟩:=by
 have hT:(⟨h,g,d,t,os⟩:HZ).TypeIs (.ref a) "list" := ⟨_,hx,rfl⟩
 have hT1:(⟨h,g,d,t+1,os⟩:HZ).TypeIs (.ref a) "list" := ⟨_,hx,rfl⟩
 have f2:=F.slot_list_getattribute.lookup;have f3:=F.slot_list_getattribute.bind (.ref a);have f5:isSubtype (.type "AttributeError") (.type "AttributeError")=pure true:=a1x;unfold getAttr? getAttrBy?
 repeat (any_goals (first|assumption|wp_step))
 refine DW F.slot_list_getattribute.plain F.entry_list_ga (F.slot_list_getattribute.check _ _ _ _ _ _ _ _ hT1 (F.args_list_getattribute_2 _ _) (aac ?_ hx fun h' e t' k he hs=>?_))
 . exact hh
 obtain⟨oe,he1,he2⟩:=he;have hTe:(⟨h',g,d,t',os⟩:HZ).TypeIs (.ref e) "AttributeError" := ⟨_,he1,he2⟩
 have f6:=aak;have hfin:=hq h' t' k hs;show IB (ID prog w) A (getattributeRaised (Value.ref a) (Value.str (BP "keys") t) (Value.type "list") (.ref e) none false false) _ _ _
 repeat (any_goals (first|assumption|wp_step))
end
end Ka
namespace Ka
open PySem
theorem plain_loop:plainId "dict.update.loop"=true:=by decide
theorem entry_loop:entryFor table "dict.update.loop"=some Builtin.«dict.update.loop» := entryFor_of_fast (by kernel_rfl)
end Ka
namespace L2
open PyProof.Rows
def kk(kv:Str×V):Key×V:=(Sum.inr kv.1,kv.2)
section
variable{X:Cx}{pins:List (HW×Obj)}{σ:St}{H:Hp}{a p it:HW}{ts:List HW}{kvs:List (Str×V)}
def Hd(H:Hp)(p:HW)(kvs:List (Str×V))(i:Nat):Hp:=upd H p (.dK ((kvs.take i).map kk))
theorem a2h:∀{kvs:List (Str×V)}{x:Str},¬ x∈kvs.map (·.1)->valV (kvs.map kk) (Sum.inr x)=none
 | [],_,_=>rfl
 | kv::kvs,x,h=>by
  rw[Be,qc (fun e=>h (by rw[Be];exact List.mem_cons.mpr (.inl (Gv e).symm)))];exact a2h fun z=>h (Bl _ z)
theorem a9t(hn:(kvs.map (·.1)).Nodup){i:Nat}{kv:Str×V}(hi:kvs[i]?=some kv):putK ((kvs.take i).map kk) (Sum.inr kv.1) kv.2=(kvs.take (i+1)).map kk:=by
 rw[Bn,hi,Al,a71]
 . rfl
 . refine a2h fun z=>?_;obtain⟨hlt,rfl⟩:=Av.mp hi;rw[CA] at z;obtain⟨j,hj⟩:=Bk z;have hj':=(Av.mp hj).1;rw[AX,Ab] at hj';rw[Dt (by omega)] at hj;have e:(kvs.map (·.1))[i]?=some kvs[i].1:=by rw[Ah,hi];rfl
   have:=(E6 (by rw[Ab];omega) hn).mp (hj.trans e.symm);omega
theorem tm{K:Ac}{H H':Hp}{l:HW}{xs:List V}(e:Same H H')(h:SqL K H l xs):SqL K H' l xs:=by
 rcases h with (h|⟨o,h⟩)|h
 . exact .inl (.inl (e _ _ h))
 . exact .inl (.inr ⟨o,e _ _ h⟩)
 . exact .inr h
theorem a7p{α β:Type}{F:α->β->Prop}:∀{l₁:List α}{l₂:List β}{i:Nat}{a:α}{b:β},IE F l₁ l₂->l₁[i]?=some a->l₂[i]?=some b->F a b
 | _,_,0,_,_,.cons h r,e1,e2=>by cases e1;cases e2;exact h
 | _,_,i+1,_,_,.cons h r,e1,e2=>a7p (i:=i) r (by simpa using e1) (by simpa using e2)
theorem a4p{A:IK}{R:Result->HZ->Prop}(hh:A.handled=none)(hp:H p=none)(hl:SqL X.K H a (ts.map V.ref))(hts:IE (fun t (kv:Str×V)=>SqT X.K H t [.str kv.1,kv.2]) ts kvs)(hn:(kvs.map (·.1)).Nodup)(hz:ts.length<=1000)(hip:it≠p):
 ∀(k i:Nat) (s:HZ),kvs.length-i=k->i<=kvs.length->Inv X pins σ (Hd H p kvs i) s->s.heap.IsListIter it a i->(∀b∈[it],FpOk X pins (Hd H p kvs i) b)->
   (∀s',Inv X pins σ (Hd H p kvs kvs.length) s'->R (.ok (.ret .none)) s')->IY (ID X.prog X.w) A (.builtin "dict.update.loop" ⟨[.ref p,.ref it,.int i 0,.none],[]⟩) R s:=by
 have hSame:∀i,Same H (Hd H p kvs i):=fun i=>ad hp _;have hlen:=Ao hts;intro k;induction k with
 | zero =>
  intro i s hk hi I hit hf q;have e:i=kvs.length:=by omega
  obtain⟨its,rv,pl,_⟩:=I.list (tm (hSame i) hl);have hil:=rv.length;rw[Ab] at hil;refine Cf Ka.entry_loop ?_;rw[BZ Ka.plain_loop _];show IB _ A.in1 (Ib (.ref it)>>=_) _ _ s;refine Ad (Fm hh hit pl.isList (by rw[C0,Cj (by omega)]) fun h' hk'=>?_);have I':Inv X pins σ (Hd H p kvs i) {s with heap:=h'}:=I.turnedL (ch:=[it]) (t':=s.toks) (fun b o hb e=>hk' b o (by simpa using hb) e) hf;refine Ad (Ai (Ai (q _ ?_)));rw[<- e];exact I'
 | succ k ih =>
  intro i s hk hi I hit hf q;have hlt:i<kvs.length:=by omega
  have hkv:kvs[i]?=some kvs[i]:=Ag hlt;have ht:ts[i]?=some (ts[i]'(by omega)):=Ag _;generalize ts[i]'(by omega)=t at ht;generalize hg:kvs[i]=kv at hkv;have hsq:=a7p hts ht hkv;obtain⟨its,rv,pl,_⟩:=I.list (tm (hSame i) hl);have hx:its[i]?=some (.ref t):=by
   obtain⟨u,hu,ru⟩:=rv.get (x:=.ref t) (i:=i) (by rw[Ah,ht];rfl);cases ru;exact hu
  refine Cf Ka.entry_loop ?_;rw[BZ Ka.plain_loop _];show IB _ A.in1 (Ib (.ref it)>>=_) _ _ s;refine Ad (Fe hit pl.isList (by rw[C0];exact hx) fun h' hit' hs'=>?_);have I':Inv X pins σ (Hd H p kvs i) {s with heap:=h'}:=I.turnedL (ch:=[it]) (t':=s.toks) (fun b o hb e=>(hs'.2 b (by simpa using hb)).trans e) hf;obtain⟨jts,rj,tp,_⟩:=I'.tuple ((hSame i).seqT hsq);obtain⟨u1,u2,rfl,r1,r2⟩:∃u1 u2,jts=[u1,u2]/\RelV (.str kv.1) u1/\RelV kv.2 u2:=by
   cases rj with
   | cons a1 b1=>cases b1 with
    | cons a2 b2=>cases b2;exact⟨_,_,rfl,a1,a2⟩
  obtain⟨⟨c3,d3,dt3,sl3⟩,ho3,hc3,n3,hd3⟩:=id tp;dsimp only at hc3 hd3;subst hc3 hd3;dsimp only;refine Ad (BO ?_);refine Ad (wpAny_tryCatch ?_);unfold Builtin.Dict.pairItems;refine Ad (Da (T := "tuple") ⟨_,ho3,rfl⟩ ?_);rw[if_pos (by decide)];refine Ad (Ca ho3 rfl (Ai ?_));refine BO ?_;obtain⟨z,hd,vs,rel,dd⟩:=aai I'.hok (show (Hd H p kvs i) p=some (.dK ((kvs.take i).map kk)) from ab);have hvz:vs.length<=HY:=by rw[<- rel.length];exact z
  refine wpAny_dictSet_pairs (s:={s with heap:=h'}) (hsz:=hvz) (yn (k:=Sum.inr kv.1) r1) dd fun h2 dd2 hs2=>?_;have hmu:Mut ((Hd H p kvs i) p):=by rw[show (Hd H p kvs i) p=some (.dK ((kvs.take i).map kk)) from ab];exact True.intro
  have he:∃q,h2.get? p=some q:=let ⟨q,_,_,hq,_⟩:=dd2;⟨q,hq⟩;have hpl:(putK ((kvs.take i).map kk) (Sum.inr kv.1) kv.2).length<=HY:=by
   have:=a1b ((kvs.take i).map kk) (Sum.inr kv.1) kv.2;rw[Ab,AX] at this;exact B0 (ga (by omega))
  have I2:Inv X pins σ (Hd H p kvs (i+1)) {s with heap:=h2,toks:=s.toks+1}:=by
   have:=a8e (t':=s.toks+1) (ob:=.dK (putK ((kvs.take i).map kk) (Sum.inr kv.1) kv.2)) I' hmu hs2 he (a9y hpl hd (rel.put (Sum.inr kv.1) r2) dd2);rw[a9t hn hkv] at this;have e:upd (Hd H p kvs i) p (.dK ((kvs.take (i+1)).map kk))=Hd H p kvs (i+1):=by
    funext b;unfold Hd
    by_cases c:b=p
    . rw[c,ab,ab]
    . rw[ai c,ai c,ai c]
   rw[e] at this;exact this
  refine Ai ⟨CQ Ka.plain_loop _,ih (i+1) _ (by omega) hlt I2 ?_ (fun b hb=>?_) q⟩
  . obtain⟨o,g1,g2⟩:=hit';exact⟨o,(hs2.2 it hip).trans g1,g2⟩
  . have hb':b=it:=by simpa using hb
    subst hb';have f0:=hf b hb;refine⟨?_,f0.2⟩;have:=f0.1;unfold Hd at this |-;rw[ai hip] at this |-;exact this
def a9m(K:Ac):List V->Hp->VK->Prop:=fun xs H Q=>∃(a:HW) (ts:List HW) (kvs:List (Str×V)),xs=[V.ref a]/\SqL K H a (ts.map V.ref)/\IE (fun t (kv:Str×V)=>SqT K H t [.str kv.1,kv.2]) ts kvs/\(kvs.map (·.1)).Nodup/\ts.length<=1000/\∀p,H p=none->Q (.ref p) (upd H p (.dK (kvs.map kk)))
theorem a3c{K:Ac}(hK:X.K=K)(hc:X.calm=true):dz X (.type "dict") (a9m K):=by
 subst hK;intro pins s σ H xs us Q I r h;obtain⟨a,ts,kvs,rfl,hl,hts,hn,hz,q⟩:=h;obtain⟨u,rfl,ru⟩:=qh r;cases ru;have hlen:=Ao hts;refine callType_codes (Q₁:=fun obj s₁=>obj=.ref s.heap.objs.size/\s₁={s with heap:=s.heap.push {cls:=.type "dict",data:=.dict #[]}}) F.kt_called_dict (F.kt_typeCall_dict_1 _) F.entry_dict_init (kt_code_dict_new _ ⟨rfl,rfl⟩) ?_;rintro obj s₁ ⟨rfl,rfl⟩;have fr:H s.heap.objs.size=none:=I.hok.fresh (Ar _);have I1:Inv X pins σ (upd H s.heap.objs.size (.dK [])) {s with heap:=s.heap.push {cls:=.type "dict",data:=.dict #[]}}:=I.laid (t':=s.toks) (fun b o e=>Af _ e) (Ar _) (a66 _ I.big);have hnew:(s.heap.push {cls:=.type "dict",data:=.dict #[]}).get? s.heap.objs.size=some {cls:=.type "dict",data:=.dict #[]}:=AE _ rfl;refine⟨⟨_,hnew,rfl⟩,F.args_dict_init_2 _ _,?_⟩;unfold Builtin.«dict.__init__»;refine Ad ?_;unfold Builtin.Dict.selfAndRest;refine Ad (wpAny_notOrdered_dict ⟨_,hnew,rfl⟩ ?_);show IB _ _ (pure (s.heap.objs.size,[Value.ref a])) _ _ _;refine Ai ?_;show IB _ _ (EU "dict.__init__" s.heap.objs.size (.ref a) [] .none) _ _ _;obtain⟨its,rv,⟨⟨oc,od,odt,osl⟩,n,e1,e2,e3,e4⟩,_⟩:=I1.list (tm (ad fr _) hl);dsimp only at e2 e3 e4;subst e2 e3 e4;unfold EU;refine Ad (Da (T := "list") ⟨_,e1,rfl⟩ ?_);rw[if_pos (by decide)];refine Ad (Ka.attr (A:=X.A.in1.in1) (show X.A.in1.in1.handled=none from I1.ok.hd hc) e1 fun h2 t2 k2 z2=>?_);rw[if_pos (show (none:Option HX).isNone=true from rfl)];refine Ad (CG ?_);have e1':=k2 _ _ e1;have I2:Inv X pins σ (upd H s.heap.objs.size (.dK [])) {s with heap:=h2,toks:=t2}:=I1.kept (t':=t2) fun b o e=>k2 b o e;refine Ad (DC (s:={s with heap:=h2,toks:=t2}) (items:=its.toArray) ⟨_,e1',rfl,_,rfl⟩ ?_);have hge:s.heap.objs.size<h2.objs.size:=AC (k2 _ _ hnew);have I3:Inv X pins σ (upd H s.heap.objs.size (.dK [])) {s with heap:=h2.push {cls:=.type "list_iterator",data:=.fields #[.ref a,.int 0 0]},toks:=t2}:=I2.kept (t':=t2) fun b o e=>Af _ e;have hit:(h2.push {cls:=.type "list_iterator",data:=.fields #[.ref a,.int 0 0]}).IsListIter h2.objs.size a 0:=⟨_,AE _ rfl,rfl,rfl⟩
 refine Ai ⟨CQ Ka.plain_loop _,a4p (kvs:=kvs) (show X.A.in1.handled=none from I1.ok.hd hc) fr hl hts hn hz (BW hge) kvs.length 0 _ rfl (AG _) I3 hit (fun b hb=>?_) fun s' I'=>?_⟩
 . have hb':b=h2.objs.size:=by simpa using hb
   subst hb';exact I2.fpOk (Ar _) (by show (upd H s.heap.objs.size (.dK [])) h2.objs.size=none;rw[ai (BW hge)];exact I2.hok.fresh (Ar _) |> fun z=>by rw[ai (BW hge)] at z;exact z)
 . refine⟨rfl,.ref s.heap.objs.size,_,I',rfl,?_⟩;have:=q s.heap.objs.size fr;unfold Hd;rw[B3];exact this
end
end L2
namespace TS
open PySem PySem.W PyProof.Rows
section
variable{α β:Type}{N:Nat}{lt:Nat->Nat->Bool}{p:Array Nat}
structure Ord(N:Nat)(lt:Nat->Nat->Bool):Prop where
 tr:∀i j k,lt i j=true->lt j k=true->lt i k=true
 tot:∀i j,i<N->j<N->i≠j->lt i j=false->lt j i=true
abbrev gt(p:Array Nat)(i:Nat):Nat:=p.getD i 0
end
section
open L2 HT
variable{prog:IC}{w:IF}{A:IK}{E:HX->HZ->Prop}{s:HZ}
end
end TS
namespace L2
open PyProof.Rows TS
section
variable{X:Cx}
end
theorem mf{J:It}{H1:Hp}{σ:St}{ix:List Nat}{tc:TT}{te:TE}{Q:VK}{I0:Hp->Prop}(ws:List Str)(p:Str->Bool)(hJ:JSeq J I0 (ws.map V.str))(h0:I0 H1)(hz:ws.length<=1000)(hc:∀n∈ws,∀H2,Same H1 H2->∀Q':Bool->Hp->Prop,(∀H3,Same H2 H3->Q' (p n) H3)->tc (some (.str n)::cr σ ix) H2 Q')(he:∀(n:Str) H2 (Q':VK),Q' (.str n) H2->te (some (.str n)::cr σ ix) H2 Q')(hQ:∀D H',H1 D=none->Same H1 H'->H' D=some (.lst ((ws.filter p).map V.str))->Q (.ref D) H'):i8 J H1 σ ix tc te Q:=by
 have pv:∀n:Str,(fun v:V=>match v with|.str i=>p i|_=>false) (V.str n)=p n:=fun n=>rfl;refine ii (ws.map V.str) (fun v=>match v with|.str i=>p i|_=>false) id hJ h0 (by rw[Ab];exact Aw hz (by decide)) ?_ ?_ ?_
 . intro x hx H2 e2 Q' q';obtain⟨n,hn,rfl⟩:=AF.mp hx;exact hc n hn H2 e2 Q' fun H3 e3=>q' H3 e3
 . intro x hx _ H2 e2 Q' q';obtain⟨n,hn,rfl⟩:=AF.mp hx;exact he n H2 Q' (q' H2 (Same.refl _))
 . intro D H' hD e hd;refine hQ D H' hD e ?_;rw[hd,Ck,DZ];rfl
theorem b9{a b:TS}{D:Ends}{σ:St}{H:Hp}(h:∀D':Ends,(∀σ H,b D σ H->D'.nx σ H)->(∀v H,D.rt v H->D'.rt v H)->(∀σ H,D.ct σ H->D'.ct σ H)->a D' σ H):tSeq a b D σ H:=h {D with nx:=b D} (fun _ _ z=>z) (fun _ _ z=>z) (fun _ _ z=>z)
open PySem.SeqAt
open AutoSeq1 (wpAny_loadPart')
open MeetsSeq MeetsSeq2 MeetsSeq3
section
variable{prog:IC}{w:IF}
end
section
variable{X:Cx}
end
section
variable{X:Cx}
set_option relaxedAutoImplicit true
end
section
variable{X:Cx}{pins:List (HW×Obj)}{σ:St}{H:Hp}{s:HZ}{a b:HW}{A:IK}{E:HX->HZ->Prop}
end
section
variable{X:Cx}{o e f:Expr}{apos cpos:Pos}{td ty tx:TE}
end
end L2
namespace Mir
open PySem L2
def letters:Str := "abcdefghijklmnopqrstuvwxyz"
def figures:Str := "0123456789"
def noNames:List Str:=["nil","any","is","not","cell","stretch","tree","nothing","then","with"]
def df(c:Nat):Bool:=decide (c∈letters.cps.toList) || decide (c∈figures.cps.toList)
def vb:List Nat->Bool
 | []=>false
 | c::_=>decide (c∈letters.cps.toList)
def b8(x:Str):Bool:=if x="" \/ 8<x.length\/x∈noNames then false else vb x.cps.toList && x.cps.toList.all df
def bh(x:Str):Bool:=decide (x="nil") || b8 x
theorem a1o(a b:Str):eqV (.str a) (.str b)=decide (a=b):=by
 show (a==b)=decide (a=b);by_cases h:a=b
 . subst h;simp
 . rw[decide_eq_false h];exact beq_eq_false_iff_ne.mpr h
theorem dm(x:Str)(l:List Str):inV (.str x) (l.map V.str)=decide (x∈l):=by
 unfold inV;rw[Cm,GJ,decide_eq_true_eq];constructor
 . rintro⟨y,hy,e⟩;obtain⟨z,hz,rfl⟩:=AF.mp hy;rw[a1o,decide_eq_true_eq] at e;exact e ▸ hz
 . intro h;exact⟨.str x,AF.mpr ⟨x,h,rfl⟩,by rw[a1o];simp⟩
theorem ee(l:List Str):(l.map V.str).all ma=true:=by
 rw[BD];intro v hv;obtain⟨z,_,rfl⟩:=AF.mp hv;rfl
end Mir
namespace K40
open L2 Mir
variable{P:IC}{w:IF}{K:Ac}{mg:Str->Option HX}{base:IJ}{f g gA gF gP gN gS gW gI gV gM gR gT gC gB gD gH gK gG gY:HW}{fd gd dA dF dP dN dS dW dI dV dM dR dT dC dB dD dH dK dG dY:II}
def top(i:Nat):IP:=PySem.Challenge.pw_apart_k40_programs.main.body.getD i (.Pass ⟨0,0,0,0⟩)
def forms:List (Str×List Str):=[("set",["name","value"]),("read",["name","name","field"]),("write",["name","field","value"]),("new",["name","value","value"]),("free",["name"])]
structure Con(K:Ac)(mg:Str->Option HX)(w:IF):Prop where
 len:mg "len"=none
 all:mg "all"=none
 any:mg "any"=none
 isi:mg "isinstance"=none
 list:mg "list"=none
 int:mg "int"=none
 bool:mg "bool"=none
 str:mg "str"=none
 dict:mg "dict"=none
 sorted:mg "sorted"=none
 set:mg "set"=none
 sum:mg "sum"=none
 range:mg "range"=none
 tuple:mg "tuple"=none
 max:mg "max"=none
 zip:mg "zip"=none
 min:mg "min"=none
 enumerate:mg "enumerate"=none
 letters:Glob mg "LETTERS" (.str Mir.letters)
 figures:Glob mg "FIGURES" (.str Mir.figures)
 noNames:∃a,Glob mg "NO_NAMES" (.ref a)/\∀H,SqT K H a (Mir.noNames.map V.str)
 mostSigns:Glob mg "MOST_SIGNS" (.int 8)
 forms:∃(a:HW) (ts:List (Str×HW)),Glob mg "PLAIN_FORMS" (.ref a)/\yi K w a (ts.map fun x=>(x.1,V.ref x.2))/\ts.map (·.1)=forms.map (·.1)/\∀w t r,(w,t)∈ts->(w,r)∈forms->∀H,SqT K H t (r.map V.str)
 fields:∃a,Glob mg "FIELDS" (.ref a)/\(∀H,SqT K H a (([("first":Str),"second"]:List Str).map V.str))/\∃o,K.lookup a=some o/\o.cls=.type "tuple" /\ o.dict=none
 factWords:∃a,Glob mg "FACT_WORDS" (.ref a)/\∀H,SqT K H a (([("is":Str),"not"]:List Str).map V.str)
 factLen:Glob mg "FACT_LENGTH" (.int 3)
 partLens:∃a,Glob mg "PART_LENGTHS" (.ref a)/\yi K w a [("cell",.int 4),("stretch",.int 3),("tree",.int 2)]
 mostFacts:Glob mg "MOST_FACTS" (.int 8)
 mostParts:Glob mg "MOST_PARTS" (.int 6)
 mostNames:Glob mg "MOST_NAMES_tellings" (.int 8)
 giving:∃a,Glob mg "GIVING_WORDS" (.ref a)/\∀H,SqT K H a (([("set":Str),"read","new","call"]:List Str).map V.str)
 mostProcs:Glob mg "MOST_PROCEDURES" (.int 4)
 mostParams:Glob mg "MOST_PARAMS" (.int 4)
 mostNamesP:Glob mg "MOST_NAMES_programs" (.int 6)
 mostDeeds:Glob mg "MOST_DEEDS" (.int 30)
 mostAround:Glob mg "MOST_AROUND" (.int 4)
theorem iteB{b:Bool}{A B:Prop}(h1:b=true->A)(h2:b=false->B):if b=true then A else B:=by
 cases b with
 | true=>rw[if_pos rfl];exact h1 rfl
 | false=>rw[if_neg An];exact h2 rfl
def Short(x:Str):Prop:=x.length<=1000
theorem Short.line{x:Str}(h:Short x):x.length<=HY:=B0 (ga h)
def spB1(f:Str->Bool):Sp:=fun vs H Q _=>∃x,vs=[.str x]/\Short x/\∀H',Same H H'->Q (.bl (f x)) H'
def ql(r:List Str):Prop:=r.length<=1000/\∀x∈r,Short x
theorem iu{r:List Str}{k:Nat}:cutV (r.map V.str) (some (k:Int)) none=(r.drop k).map V.str:=by
 unfold cutV;rw[HT.sIx_nat,HT.sIx_none,Ab];rw[List.map_drop.symm];by_cases h:k<=r.length
 . rw[Fb h,Bf (by simp)]
 . rw[EJ (by omega),Ea,Eh,Fk (by omega)];rfl
def ShortRows(rs:List (List Str)):Prop:=rs.length<=200/\∀r∈rs,r.length<=5/\∀x∈r,Short x
theorem ShortRows.row{rs:List (List Str)}(h:ShortRows rs){r:List Str}(hr:r∈rs):ql r:=⟨by have:=(h.2 r hr).1;omega,(h.2 r hr).2⟩
theorem Paired.nth{α β:Type}{F:α->β->Prop}:∀{l₁:List α}{l₂:List β}{i:Nat}{a:α},IE F l₁ l₂->l₁[i]?=some a->∃b,l₂[i]?=some b/\F a b
 | _,_,_,_,.nil,e=>by simp at e
 | _,_,0,_,.cons h _,e=>by simp at e;subst e;exact⟨_,rfl,h⟩
 | _,_,i+1,_,.cons _ t,e=>by
  obtain⟨b,e1,e2⟩:=Paired.nth (i:=i) t (by simpa using e);exact⟨b,by simpa using e1,e2⟩
theorem gty{X:Cx}{x:Str}{n:String}{pos:Pos}(hm:X.mg x=none)(hv:bootBuiltins x=some (.type n))(hg:Gl X x:=by rfl)(hn:x≠"__name__" := by decide)(hdb:(x==("__debug__":Str))=false:=by decide):PE X (.Name x pos) (tC (.ty n)):=a7y hg hm hv rfl hn hdb
structure Cal(K:Ac)(mg:Str->Option HX)(x:Str)(f:HW)(fd:II)(ps:List Str):Prop where
 name:mg x=some (.ref f)
 keep:Cs K (.ref f)=true
 bind:Binds K fd ps []
theorem a01{l:List HW}{i:Nat}{x:V}(hx:(l.map V.ref)[i]?=some x):∃a,l[i]?=some a/\x=.ref a:=by
 rw[Ah] at hx;cases h:l[i]? with
 | none=>rw[h] at hx;cases hx
 | some a=>rw[h] at hx;exact⟨a,rfl,(Ay hx).symm⟩
theorem Paired.at2{α β:Type}{F:α->β->Prop}{l₁:List α}{l₂:List β}{i:Nat}{a:α}{b:β}(h:IE F l₁ l₂)(h1:l₁[i]?=some a)(h2:l₂[i]?=some b):F a b:=by
 obtain⟨b',e1,e2⟩:=Paired.nth h h1;rw[h2] at e1;cases e1;exact e2
def gn(r:List Str):List Str:=(r.drop 1).filter fun x => !decide (x∈Mir.noNames)
def words(rs:List (List Str)):List Str:=(rs.map gn).flatten
theorem a5f(a b:List (List Str)):words (a++b)=words a++words b:=by unfold words;rw[Al,List.flatten_append]
theorem a3y(a:List (List Str))(r:List Str):words (a++[r])=words a++gn r:=by rw[a5f];unfold words;simp
theorem lj:∀{rs:List (List Str)}{m:Nat},(∀r∈rs,r.length<=m)->(words rs).length<=rs.length*m
 | [],m,_=>by simp[words]
 | r::rs,m,h=>by
  have h1:=lj (rs:=rs) (m:=m) (fun x hx=>h x (Bl _ hx));have h2:(gn r).length<=m:=by
   unfold gn;have:=Bd (fun x => !decide (x∈Mir.noNames)) (r.drop 1);have:=h r (By ..);have e:=Bi (i:=1) (l:=r);omega
  have e:words (r::rs)=gn r++words rs:=by simp[words]
  rw[e,Ae,AY,FW];omega
theorem Paired.app{α β:Type}{F:α->β->Prop}:∀{l₁:List α}{l₂:List β}{m₁:List α}{m₂:List β},IE F l₁ l₂->IE F m₁ m₂->IE F (l₁++m₁) (l₂++m₂)
 | _,_,_,_,.nil,h=>h
 | _,_,_,_,.cons h t,h2=>.cons h (Paired.app t h2)
def p8(K:Ac):Sp:=fun vs H Q _=>∃a fs ps,vs=[.ref a]/\TellAt K H a [fs,ps]/\ShortRows fs/\ShortRows ps/\(∀r∈fs++ps,r≠[])/\(∀ss:List Str,ss.Nodup->(∀y∈ss,y∈words (fs++ps))->ss.length<64)/\
 ∀(p:HW) (zs:List Str) (H':Hp),H p=none->Same H H'->H' p=some (.lst (zs.map V.str))->zs.Nodup->(∀y,y∈zs↔y∈words (fs++ps))->Eb zs=true->Q (.ref p) H'
abbrev wv:IP:=top 14
abbrev tj:IP:=top 20
theorem a79:FnScope ["text"] ["text"] (b7 wv):=⟨rfl,rfl,rfl,by decide,rfl,by decide,by decide⟩
theorem a53(C:Con K mg w)(F:Fun K "is_name" "is_name" wv f fd):FnOk P w K mg base CX0 1 f fd ["text"] (spB1 b8):=by
 refine F.ok a79 (fun vs H Q E h=>?_) (fun cdv A outer s H vs Q E hr h=>?_)
 . obtain⟨x,rfl,_⟩:=h;rfl
 obtain⟨x,rfl,hx,q⟩:=h;obtain⟨aN,gN,tN⟩:=C.noNames;refine⟨_,fq (kj (PW.pt (lz (gm bo (pv 0) oj (ay _)) (lz (gm kg (cu re rfl C.len Ap (bi (pv 0) cf)) (pe_g C.mostSigns) (ay _))
  (lg (gm gw (pv 0) (pe_g gN) (by with_unfolding_all rfl)))))) (dk (fk kl)) i7)
  (dk (fk (a0c (ku q8 (jr qq (pv 0) ev (fun _ _=>rfl)) (pe_g C.letters) (by with_unfolding_all rfl))
   (pg (cu (du rfl) rfl C.all AZ (bi (gx (aa0 (pv 0)) (fun _ _ _ _=>jg)
    (fun _ _ _ _=>a3z (ku q8 (pv 0) (pe_g C.letters) (by with_unfolding_all rfl)) (pg (ku q8 (pv 0) (pe_g C.figures) (by with_unfolding_all rfl))))) cf)))))),?_⟩
 have hf:(x="" \/ 8<x.length\/x∈Mir.noNames)->Q (.bl false) H:=fun h=>by
  have e:b8 x=false:=by unfold b8;rw[if_pos h]
  rw[<- e];exact q H (Same.refl H)
 refine⟨_,rfl,rfl,_,rfl,iteB (fun c=>hf (.inl (by simpa using c))) fun c=>?_⟩;refine⟨_,rfl,x,rfl,hx.line,_,_,rfl,rfl,_,rfl,iteB (fun c2=>hf (.inr (.inl (by have:=of_decide_eq_true c2;omega)))) fun c2=>?_⟩;refine⟨_,rfl,aN,_,rfl,.inr (tN _),rfl,ee _,_,rfl,iteB (fun c3=>hf (.inr (.inr (by
  have c3':inV (.str x) (Mir.noNames.map V.str)=true:=c3;rw[dm] at c3';exact of_decide_eq_true c3')))) fun c3=>?_⟩
 have c1':¬ x="" := by simpa using c
 have c2':¬ 8<x.length:=by have:=of_decide_eq_false c2;omega
 have c3':¬ x∈Mir.noNames:=by
  have c3':inV (.str x) (Mir.noNames.map V.str)=false:=c3;rw[dm] at c3';exact of_decide_eq_false c3'
 have e:b8 x=(vb x.cps.toList && x.cps.toList.all df):=by unfold b8;rw[if_neg (fun h=>h.elim c1' (fun h=>h.elim c2' c3'))]
 rw[e] at q;cases hl:x.cps.toList with
 | nil =>
  exfalso;apply c1';obtain⟨a⟩:=x;have:a = #[]:=by simpa using hl
  rw[this];rfl
 | cons c0 r =>
  refine⟨_,rfl,x,0,c0,rfl,rfl,hx.line,(dv (j:=0) (by rw[hl];rfl)),c0,_,rfl,rfl,_,rfl,?_⟩;have eh:vb x.cps.toList=decide (c0∈Mir.letters.cps.toList):=by rw[hl];rfl
  refine iteB (fun ch=>?_) (fun ch=>?_)
  . rw[eh,ch,HB] at q;refine⟨_,rfl,x,rfl,?_⟩;refine ii (pk x) (fun _=>true) (fun v=>match v with|.str z=>.bl (df (z.cps.toList.headD 0))|_=>.bl false) a68 trivial ?_ ?_ ?_ ?_
    . unfold pk;rw[Ab,Bp];exact hx.line
    . intro v hv H2 e2 Q' q';exact q' H2 (Same.refl _)
    . intro v hv _ H2 e2 Q' q';obtain⟨cc,hcc,rfl⟩:=AF.mp hv;have q'':=q' H2 (Same.refl _);refine⟨_,rfl,cc,_,rfl,rfl,_,rfl,iteB (fun z=>?_) (fun z=>?_)⟩
      . have:df cc=true:=by unfold df;rw[show decide (cc∈Mir.letters.cps.toList)=true from z];rfl
        have q3:Q' (.bl (df cc)) H2:=q'';rw[this] at q3;exact q3
      . refine⟨_,rfl,cc,_,rfl,rfl,?_⟩;have:df cc=decide (cc∈Mir.figures.cps.toList):=by unfold df;rw[show decide (cc∈Mir.letters.cps.toList)=false from z];rfl
        have q3:Q' (.bl (df cc)) H2:=q'';rw[this] at q3;exact q3
    . intro D H' hD e' hd;refine⟨D,x.cps.toList.map df,rfl,SqL.of ?_,?_⟩
      . rw[hd]
        congr 1
        congr 1
        unfold pk;rw[FO.mpr (fun _ _=>rfl),Cw,Cw];rfl
      . have e3:(x.cps.toList.map df).all id=x.cps.toList.all df:=by rw[DY];rfl
        rw[e3];exact q H' e'
  . rw[eh,ch] at q;exact q H (Same.refl _)
theorem scNamesOf:FnScope ["telling","names","row"] ["telling"] (b7 tj):=⟨rfl,rfl,rfl,by decide,rfl,by decide,by decide⟩
theorem a3k(C:Con K mg w)(F:Fun K "names_of" "names_of" tj f fd):FnOk P w K mg base CX0 1 f fd ["telling"] (p8 K):=by
 refine F.ok scNamesOf (fun vs H Q E h=>?_) (fun cdv A outer s H vs Q E hr h=>?_)
 . obtain⟨a,fs,ps,rfl,_⟩:=h;rfl
 obtain⟨a,fs,ps,rfl,ht,hf,hp,hne,h64,q⟩:=h;obtain⟨aN,gN,tN⟩:=C.noNames;obtain⟨as,t1,t2⟩:=ht;cases t2 with
 | @cons fa _ _ _ t3 t4 =>
 cases t4 with
 | @cons pa _ _ _ t5 t6 =>
 cases t6;obtain⟨fas,f1,f2⟩:=t3;obtain⟨pas,p1,p2⟩:=t5;refine⟨_,fq (a5c scNamesOf.nd (i:=1) rfl (Or.inl rfl) (a09 cf))
  (fq (zi AS rfl (p6 (a7r ce (jr ao (pv 0) ev (fun _ _=>rfl)) (jr ao (pv 0) ev (fun _ _=>rfl)))) (pf (i:=2) scNamesOf.nd rfl (Or.inl rfl))
   (dk (a1q (a7q As Cq Cr lm (pv 1)
    (bi (gx (mz (nv qy (pv 2) (pc ev) pe)) (fun _ _ _ _=>a2a (gm (show OpR _ _ (rIn K true) from ko) (pv 0) (pe_g gN) (by with_unfolding_all rfl))) (fun _ _ _ _=>pv 0)) cf)))))
   (dk (fk (cu (kn rfl) rfl C.sorted Dv (bi (xq (ua rfl) rfl C.set Dc (bi (pv 1) cf)) cf))))),?_⟩
 refine⟨AG _,fun n hn=>?_⟩;have s1:Same H (upd H n (.lst [])):=ad hn _;have fl:fas.length=fs.length:=Ao f2;have pl:pas.length=ps.length:=Ao p2;have b1:=hf.1;have b2:=hp.1;refine⟨_,rfl,a,_,0,.ref fa,rfl,rfl,s1.seqT t1,rfl,_,rfl,a,_,1,.ref pa,rfl,rfl,s1.seqT t1,rfl,?_⟩;refine⟨fa,pa,_,_,rfl,rfl,s1 _ _ f1,s1 _ _ p1,?_,fun c hc=>?_⟩
 . rw[Ab,Ab];exact B0 (ga (by omega))
 have hcn:c≠n:=fun e=>by rw[e,ab] at hc;cases hc
 rw[<- Al];have s2:=ad hc (.lst ((fas++pas).map V.ref));refine⟨c,rfl,⟨_,SqL.of ab⟩,?_⟩;have pr:IE (fun b r=>RowAt K H b r) (fas++pas) (fs++ps):=Paired.app f2 p2;have pl2:(fas++pas).length=(fs++ps).length:=Ao pr;have hall:∀r∈fs++ps,r.length<=5:=fun r hr=>by
  rcases Aq.mp hr with h|h
  . exact (hf.2 r h).1
  . exact (hp.2 r h).1
 refine et (xs:=(fas++pas).map V.ref) (fun i σ H'=>Same H H'/\H' c=some (.lst ((fas++pas).map V.ref))/\H' n=some (.lst ((words ((fs++ps).take i)).map V.str))/\∃z,σ=[some (.ref a),some (.ref n),z]) ⟨s1.trans s2,ab,?_,_,rfl⟩ (fun i σ H' _ p=>SqL.of p.2.1) ?_ ?_
 . rw[ai (BY hcn),ab];rfl
 . rintro i v σ H' hi ⟨e,hc',hn',z,rfl⟩;rw[Ah] at hi;cases hb:(fas++pas)[i]? with
   | none=>rw[hb] at hi;cases hi
   | some b =>
    rw[hb] at hi;have hv:v=.ref b:=(Ay hi).symm;subst hv;obtain⟨r,hr1,hr2⟩:=Paired.nth pr hb;have hrm:r∈fs++ps:=Ak hr1;have hrow:RowAt K H' b r:=hr2.same e;have hr5:=hall r hrm;have hr0:r.length≠0:=fun h=>hne r hrm (List.length_eq_zero_iff.mp h);refine⟨_,rfl,.inl ⟨rfl,_,SqL.of hn'⟩,_,rfl,_,rfl,b,_,rfl,hrow,?_,fun t hT=>?_⟩
    . rw[Ab,show (some (1:Int))=some ((1:Nat):Int) from rfl,HT.sIx_nat];omega
    have e1:cutV (r.map V.str) (some 1) none=(r.drop 1).map V.str:=iu (k:=1);rw[e1];have s3:Same H' (upd H' t (.tup ((r.drop 1).map V.str))):=ad hT _;refine⟨t,rfl,⟨_,SqT.of ab⟩,?_⟩;refine ii ((r.drop 1).map V.str) (fun v => !inV v (Mir.noNames.map V.str)) id jb (SqT.of ab) ?_ ?_ ?_ ?_
    . rw[Ab,Bi];exact B0 (ga (by omega))
    . intro v hv H2 e2 Q' q';obtain⟨y,hy,rfl⟩:=AF.mp hv;exact⟨_,rfl,aN,_,rfl,.inr (tN _),rfl,ee _,_,rfl,q' H2 (Same.refl _)⟩
    . intro v hv hpv H2 e2 Q' q';obtain⟨y,hy,rfl⟩:=AF.mp hv;exact⟨_,rfl,q' H2 (Same.refl _)⟩
    . intro D H2 hD e' hd;have hw:(((r.drop 1).map V.str).filter (fun v => !inV v (Mir.noNames.map V.str))).map id=(gn r).map V.str:=by
       rw[Ck,DZ];unfold gn
       congr 1
       apply E7;intro x _;show (!inV (.str x) (Mir.noNames.map V.str))=_;rw[dm]
      rw[hw] at hd;have s4:Same H H2:=(e.trans s3).trans e';have ht1:(fs++ps).take (i+1)=(fs++ps).take i++[r]:=by rw[Bn,hr1];rfl
      have wl:=lj hall;have wl2:(words ((fs++ps).take i)).length<=200*5+200*5:=by
       have h1:=lj (rs:=(fs++ps).take i) (m:=5) (fun r hr=>hall r (BA hr));have h2:=List.length_take_le' i (fs++ps);rw[Ae] at h2;omega
      have wl3:(gn r).length<=5:=by
       unfold gn;have h1:=Bd (fun x => !decide (x∈Mir.noNames)) (r.drop 1);have h2:=Bi (i:=1) (l:=r);omega
      refine⟨n,D,_,_,rfl,rfl,e' _ _ (s3 _ _ hn'),hd,?_,?_⟩
      . rw[Ab,Ab];exact Aw (by omega) (show (2005:Nat)<=HY by decide)
      refine⟨fun b' u q'=>?_,?_,?_,_,rfl⟩
      . rw[ai (aq q' hn)];exact s4 _ _ q'
      . rw[ai hcn];exact e' _ _ (s3 _ _ hc')
      . rw[ab,ht1,a3y,Al]
 . rintro σ H' ⟨e,hc',hn',z,rfl⟩;rw[Ab,pl2,B3] at hn';refine⟨_,rfl,n,_,rfl,SqL.of hn',?_,fun S ss hS hd=>?_⟩
   . have wl:=lj hall;rw[Ae] at wl;show _<4096;omega
   have s5:=ad hS (SetO P w S ss);refine⟨S,ss,rfl,ab,h64 ss hd.nodup (fun y hy=>(hd.mem y).mp hy),fun p zs hp' hzs hso=>?_⟩;have s6:=ad hp' (.lst (zs.map V.str));refine q p zs _ ?_ (e.trans (s5.trans s6)) ab (hzs.nodup_iff.mpr hd.nodup) (fun y=>(hzs.mem_iff).trans (hd.mem y)) hso;cases hH:H p with
   | none=>rfl
   | some u=>exact nomatch (s5 _ _ (e _ _ hH)).symm.trans hp'
theorem kx{H H':Hp}{l:HW}(hl:H l=none)(e:Same H H')(o:HO):Same H (upd H' l o):=fun b u q=>by rw[ai (aq q hl)];exact e b u q
theorem a2d{ws:List Str}{i:Nat}(h:i<ws.length):atI (ws.map V.str) (i:Int)=some (.str (ws.getD i "")):=dv (by rw[Ah,BQ,Ag h];rfl)
section
variable{K:Ac}
theorem sg{H:Hp}{l b:HW}{xs ys:List V}{r:List Str}(hl:H l=some (.lst xs))(h:RowAt K H b r):RowAt K (upd H l (.lst ys)) b r:=by
 rcases h with (h|⟨o,h⟩)|h
 . have hne:b≠l:=fun e=>by rw[e,hl] at h;cases h
   exact .inl (.inl (by show upd H l _ b=_;rw[ai hne];exact h))
 . have hne:b≠l:=fun e=>by rw[e,hl] at h;cases h
   exact .inl (.inr ⟨o,by show upd H l _ b=_;rw[ai hne];exact h⟩)
 . exact .inr h
end
def bw(ns:List Int)(k:Nat):Int:=(ns[k]?).getD 0
def qo(K:Ac):Sp:=fun vs H Q _=>∃(a:HW) (ns:List Int) (k:Nat),vs=[.ref a,.int (k:Int)]/\SqL K H a (ns.map V.int)/\Q (.int (bw ns k)) H
theorem jn{α:Type}{xs:List α}{m:Int}{i:Int}(hl:(xs.length:Int)=m)(hm:0<m):∃v,atI xs (i % m)=some v/\v∈xs:=by
 have h0:=AM i (EK hm);have h1:=AW i hm;generalize i % m=j at h0 h1;obtain⟨k,rfl⟩:=Cc h0;have hk:k<xs.length:=by omega
 exact⟨xs[k],dv (Ag hk),Ci hk⟩
theorem a8a{X:Cx}{e:Expr}{t t':TT}(h:QT X e t)(w:∀σ H Q,t' σ H Q->t σ H Q):QT X e t':=⟨fun pins s σ H Q I q=>h.run pins s σ H Q I (w σ H Q q)⟩
abbrev a3d:IP:=top 50
theorem a9s:FnScope ["_law_script","_law_k"] ["_law_script","_law_k"] (b7 a3d):=⟨rfl,rfl,rfl,by decide,rfl,by decide,by decide⟩
theorem a4r(C:Con K mg w)(F:Fun K "_law_cell_at" "_law_cell_at" a3d f fd):FnOk P w K mg base CX0 1 f fd ["_law_script","_law_k"] (qo K):=by
 refine F.okQ a9s (fun vs H Q E h=>?_) (fun cdv A outer s H vs Q E hr h=>?_)
 . obtain⟨a,ns,k,rfl,_⟩:=h;rfl
 obtain⟨a,ns,k,rfl,hS,q⟩:=h;refine⟨_,ae (bf (ax o8 (qv 1) (aw ap rfl C.len Ap (af (qv 0) aa)) (ay _)) (aj (az (ag bc (qv 0) (qv 1) (fun _ _=>rfl)))) bm)
  (aj (az ac)),?_⟩
 have hl:(ns.map V.int).length=ns.length:=Ab _;refine⟨_,rfl,_,rfl,a,_,rfl,.inl hS,_,_,rfl,rfl,_,rfl,iteB (fun c=>?_) (fun c=>?_)⟩
 . have c':=of_decide_eq_true c;rw[hl] at c';have hk:k<ns.length:=by omega
   have e:bw ns k=ns[k]:=by unfold bw;rw[Ag hk];rfl
   rw[e] at q;exact⟨_,rfl,_,rfl,a,_,_,_,rfl,rfl,hS,dv (by rw[Ah,Ag hk];rfl),q⟩
 . have c':=of_decide_eq_false c;rw[hl] at c';have hk:ns.length<=k:=by omega
   have e:bw ns k=0:=by unfold bw;rw[Cj hk];rfl
   rw[e] at q;exact q
def yo(K:Ac):Sp:=fun vs H Q _=>∃(a:HW) (ns:List Int),vs=[.ref a]/\SqL K H a (ns.map V.int)/\∀H',Q (.bl true) H'
theorem a69(ns:List Int)(lo hi:Option Int):∃ms:List Int,cutV (ns.map V.int) lo hi=ms.map V.int:=by
 refine⟨(ns.drop (HT.sIx ns.length 0 lo)).take (HT.sIx ns.length ns.length hi-HT.sIx ns.length 0 lo),?_⟩;unfold cutV;rw[Ab,CA,HC]
theorem a1t{X:Cx}{i j:Nat}{x y:Str}{px py pos:Pos}{k:Nat}(h1:QG X (.Name x px) (bp i))(h2:QG X (.Name y py) (bp j))(hc:X.calm=true:=by rfl)(a1:(IG [.Name x px,.Name y py] X.env).map (·.2)=assign (.Name x px) X.env::(IG [.Name y py] X.env).map (·.2):=by rfl)(a2:(IG [.Name y py] X.env).map (·.2)=assign (.Name y py) X.env::(IG [] X.env).map (·.2):=by rfl)(hn:(IG [.Name x px,.Name y py] X.env).length=2:=by rfl)(hst:(IG [.Name x px,.Name y py] X.env).findIdx? (·.1)=none:=by rfl):QG X (.Tuple [.Name x px,.Name y py] k pos) (gTup X.K 2 (il (bp i) (il (bp j) gNil))) :=
 ⟨v7 hc (fc h1.run (fc h2.run sf a2) a1) hn hst⟩
theorem vm{X:Cx}{st:IP}{t t':TS}(h:QS X st t)(w:∀D σ H,t' D σ H->t D σ H):QS X st t':=⟨fun pins s σ H D I q=>h.run pins s σ H D I (w D σ H q)⟩
theorem a7m{X:Cx}{a:Expr}{ta:TE}{pos:Pos}{op:UnaryOp}{r:V->Hp->VK->Prop}(ho:UnR X (unaryOp op) r)(ha:QE X a ta):QE X (.UnaryOp op a pos) (tUn r ta):=⟨aar ho ha.run⟩
theorem zf{α:Type}{xs:List α}{v:α}:atI (xs++[v]) (-1)=some v:=by
 unfold atI ixN;have h1:¬ (0:Int) <= -1:=by decide
 have h2 : -(((xs++[v]).length:Nat):Int) <= -1:=by rw[Ae,AN];omega
 rw[if_neg h1,if_pos h2];have h3:((-1:Int)+(((xs++[v]).length:Nat):Int)).toNat=xs.length:=by rw[Ae,AN];omega
 rw[h3];simp
def a7h(t:TS):TS:=fun D σ H=>t {D with nx:=fun σ' H'=>∀τ,τ=σ'->D.nx τ H'} σ H
theorem si{X:Cx}{st:IP}{t:TS}(h:QS X st t):QS X st (a7h t):=vm h fun D σ H h=>by
 have e:(fun σ' H'=>∀τ,τ=σ'->D.nx τ H')=D.nx:=by
  funext σ' H'
  exact propext ⟨fun h=>h _ rfl,fun h τ e=>e ▸ h⟩
 unfold a7h at h;rw[e] at h;exact h
end K40
namespace L2
open PyProof.Rows
section
variable{prog:IC}{w:IF}{A:IK}{E:HX->HZ->Prop}{u:HZ}
theorem a7l{j q:HW}{k:Nat}{vals:Array HX}{v:HX}{R:HX->HZ->Prop}(a1:u.heap.IsTupleIter j q k)(a2:u.heap.IsTuple q vals)(a3:vals[k]?=some v)(hR:∀g,g.IsTupleIter j q (k+1)->CZ j u.heap g->R v {u with heap:=g}):IB (ID prog w) A (BE (.ref j)) R E u:=by
 obtain⟨o,b1,b2,b3⟩:=id a1;obtain⟨p,c1,c0,m,c2⟩:=a2;have ty:=a1.typeIs;unfold BE;refine Ad (B8 ty CB (BB CB ty Er ?_ (El _)));show IB (ID prog w) _ (field (.ref j) 0>>=_) _ _ u;refine Ad (BL b1 b3 (x:=.ref q) rfl ?_);have nn:¬ (Value.ref q==Value.none)=true:=An;show IB (ID prog w) _ (if (Value.ref q==Value.none)=true then _ else _) _ _ u;rw[if_neg nn];show IB (ID prog w) _ (field (.ref j) 1>>=_) _ _ u;refine Ad (BL b1 b3 (x:=.int k 0) rfl ?_);show IB (ID prog w) _ (seqItems? (.ref q)>>=_) _ _ u;refine Ad (Ca c1 c2 ?_);simp only[Bh,a3];have kept:∀f:Array HX->Array HX,(u.heap.update j (HD f)).get? j=some (HD f o):=fun f=>BU _ b1 (Fx (Ep b3 _));refine Ad (wpAny_setField b1 b3 (by simp) (Ai ⟨v,rfl,Ai (hR _ ⟨_,kept _,?_,?_⟩ (Dl ..))⟩))
 . rw[Gr];exact b2
 . rw[Ep b3];simp[Ih]
theorem a4k{j q:HW}{k:Nat}{vals:Array HX}{R:HX->HZ->Prop}(hh:A.handled=none)(a1:u.heap.IsTupleIter j q k)(a2:u.heap.IsTuple q vals)(a3:vals[k]?=none)(hE:∀g e,Heap.ExtBut j u.heap g->(∃o,g.get? e=some o/\o.cls=.type "StopIteration")->E (.ref e) {u with heap:=g}):IB (ID prog w) A (BE (.ref j)) R E u:=by
 obtain⟨o,b1,b2,b3⟩:=id a1;obtain⟨p,c1,c0,m,c2⟩:=a2;have ty:=a1.typeIs;unfold BE;refine Ad (B8 ty CB (BB CB ty Er ?_ (El _)));show IB (ID prog w) _ (field (.ref j) 0>>=_) _ _ u;refine Ad (BL b1 b3 (x:=.ref q) rfl ?_);have nn:¬ (Value.ref q==Value.none)=true:=An;show IB (ID prog w) _ (if (Value.ref q==Value.none)=true then _ else _) _ _ u;rw[if_neg nn];show IB (ID prog w) _ (field (.ref j) 1>>=_) _ _ u;refine Ad (BL b1 b3 (x:=.int k 0) rfl ?_);show IB (ID prog w) _ (seqItems? (.ref q)>>=_) _ _ u;refine Ad (Ca c1 c2 ?_);simp only[Bh,a3];refine Ad (CG (Ad (wpAny_setField b1 b3 (by simp) ?_)));show IB (ID prog w) _ (newExc (.type "StopIteration") []>>=_) _ _ _;refine Ad ?_;unfold newExc newTuple;refine Ad (Bm ?_ (by size_fits));refine Ad (m:=firstArgMember _ _) (Gx (a:=Value.none) (by simp only[firstArgMember];rfl) (Bm ?_ (by size_fits)));refine FN ?_ ?_
 . exact hh
 . exact hE _ _ (((Dl ..).extBut.push _).push _) ⟨_,AE _ rfl,rfl⟩
theorem a60{z ti to j1 j2 q1 q2:HW}{k1 k2:Nat}{xs ys:Array HX}{x y a b:HX}{R:Option HX->HZ->Prop}(D:ZipApart z ti to j1 j2 q1 q2)(g1:IsZip u.heap z ti to .none)(g2:IZ u.heap ti (.ref j1) (.ref j2))(g3:IZ u.heap to a b)(t1:u.heap.IsTupleIter j1 q1 k1)(t2:u.heap.IsTupleIter j2 q2 k2)(v1:u.heap.IsTuple q1 xs)(v2:u.heap.IsTuple q2 ys)(hx:xs[k1]?=some x)(hy:ys[k2]?=some y)(hR:∀g,IsZip g z ti to (Ih u.heap.objs.size)->IZ g to x y->g.IsTupleIter j1 q1 (k1+1)->g.IsTupleIter j2 q2 (k2+1)->IZ g u.heap.objs.size x y->
 (∀c o,c≠z->c≠to->c≠j1->c≠j2->u.heap.get? c=some o->g.get? c=some o)->R (some (.ref u.heap.objs.size)) {u with heap:=g}):IB (ID prog w) A (Ib (.ref z)) R E u:=by
 have ty:u.TypeIs (.ref z) "zip" := ⟨_,g1,rfl⟩
 unfold Ib;refine Ad (Ex (B8 ty Ec (BB Ec ty GZ ?_ (Gs _))));show IB (ID prog w) _ (field (.ref z) 2>>=_) _ _ u;refine Ad (BL g1 rfl (x:=.bool false) rfl ?_);show IB (ID prog w) _ (field (.ref z) 3>>=_) _ _ u;refine Ad (BL g1 rfl (x:=.ref ti) rfl (Ad (Ca g2 rfl ?_)));show IB (ID prog w) _ (Cb (.ref z)>>=_) _ _ u;refine Ad ?_;unfold Cb;refine Ad (BL g1 rfl (x:=.none) rfl (Ai ?_));simp only[if_true];refine Ad (CG (Ad (BL g1 rfl (x:=.ref to) rfl (Ad (Bz g1 (by simp) fun m1 y1 d1=>?_)))));have z1:IsZip m1 z ti to .ellipsis:=y1;refine Ad ?_;simp only[Hb,Hr,Hs,Hy];refine Ad (Ad (FJ ?_));show IB (ID prog w) _ (BE (.ref j1)>>=_) _ _ _;refine Ad (a7l (t1.extBut d1.extBut D.i1z) (v1.extBut d1.extBut D.l1z) hx fun m2 y2 d2=>Ai ?_);have o2:IZ m2 to a b:=d2.extBut _ _ D.TOi1 (d1.extBut _ _ D.TOz g3);refine Ad (Ca o2 rfl (Ad (FG o2 fun m3 y3 d3=>Ad (wpAny_letGo (Ai ?_)))));have o3:IZ m3 to x b:=y3;refine Ad (Ad (FJ ?_));show IB (ID prog w) _ (BE (.ref j2)>>=_) _ _ _;have w2:=((t2.extBut d1.extBut D.i2z).extBut d2.extBut D.i12.symm).extBut d3.extBut D.TOi2.symm;have x2:=((v2.extBut d1.extBut D.l2z).extBut d2.extBut D.l2i1).extBut d3.extBut D.l2TO;refine Ad (a7l w2 x2 hy fun m4 y4 d4=>Ai ?_);have o4:IZ m4 to x b:=d4.extBut _ _ D.TOi2 o3;refine Ad (Ca o4 rfl (Ad (FG o4 fun m5 y5 d5=>Ad (wpAny_letGo (Ai (Ai ?_))))));have o5:IZ m5 to x y:=y5;refine Ad (Ca o5 rfl (Ad (wpAny_newTuple ?_)));have sz:m5.objs.size=u.heap.objs.size:=by rw[d5.1,d4.1,d3.1,d2.1,d1.1]
 have z5:IsZip m5 z ti to .ellipsis:=d5.extBut _ _ D.TOz.symm (d4.extBut _ _ D.i2z.symm (d3.extBut _ _ D.TOz.symm (d2.extBut _ _ D.i1z.symm z1)));have kp:∀c o,c≠z->c≠to->c≠j1->c≠j2->u.heap.get? c=some o->m5.get? c=some o:=fun c o n1 n2 n3 n4 e=>d5.extBut _ _ n2 (d4.extBut _ _ n4 (d3.extBut _ _ n2 (d2.extBut _ _ n3 (d1.extBut _ _ n1 e))));have p1:m5.IsTupleIter j1 q1 (k1+1):=((y2.extBut d3.extBut D.TOi1.symm).extBut d4.extBut D.i12).extBut d5.extBut D.TOi1.symm;have p2:m5.IsTupleIter j2 q2 (k2+1):=y4.extBut d5.extBut D.TOi2.symm;show IB (ID prog w) _ (Dw (.ref z) (.ref m5.objs.size)>>=_) _ _ _;refine Ad ?_;unfold Dw;have z6:IsZip (m5.push {cls:=.type "tuple",data:=.seq #[x,y]}) z ti to .ellipsis:=Af _ z5;refine Ad (Bz z6 (by simp) fun m7 y7 d7=>?_);have z7:IsZip m7 z ti to (Ih m5.objs.size):=y7;refine Bz z7 (by simp) fun m8 y8 d8=>?_;have z8:IsZip m8 z ti to (Ih m5.objs.size):=y8;have lift:∀c o,c≠z->m5.get? c=some o->m8.get? c=some o:=fun c o n1 e=>d8.extBut _ _ n1 (d7.extBut _ _ n1 (Af _ e));have nz:m5.objs.size≠z:=BW (AC z5);have np:IZ m8 m5.objs.size x y:=d8.extBut _ _ nz (d7.extBut _ _ nz (AE _ rfl));rw[sz] at z8 np;refine Ai ⟨_,rfl,Ai ?_⟩;show R (some (.ref m5.objs.size)) _;rw[sz];exact hR m8 z8 (lift _ _ D.TOz o5) (p1.at fun o e=>lift _ o D.i1z e) (p2.at fun o e=>lift _ o D.i2z e) np fun c o n1 n2 n3 n4 e=>lift c o n1 (kp c o n1 n2 n3 n4 e)
theorem a6z{z ti to j1 j2 q1 q2:HW}{k1:Nat}{xs:Array HX}{R:Option HX->HZ->Prop}(hh:A.handled=none)(D:ZipApart z ti to j1 j2 q1 q2)(g1:IsZip u.heap z ti to .none)(g2:IZ u.heap ti (.ref j1) (.ref j2))(t1:u.heap.IsTupleIter j1 q1 k1)(v1:u.heap.IsTuple q1 xs)(hx:xs[k1]?=none)(hR:∀g,(∀c o,c≠z->c≠j1->u.heap.get? c=some o->g.get? c=some o)->R none {u with heap:=g}):IB (ID prog w) A (Ib (.ref z)) R E u:=by
 have ty:u.TypeIs (.ref z) "zip" := ⟨_,g1,rfl⟩
 unfold Ib;refine Ad (Ex (B8 ty Ec (BB Ec ty GZ ?_ (Gs _))));show IB (ID prog w) _ (field (.ref z) 2>>=_) _ _ u;refine Ad (BL g1 rfl (x:=.bool false) rfl ?_);show IB (ID prog w) _ (field (.ref z) 3>>=_) _ _ u;refine Ad (BL g1 rfl (x:=.ref ti) rfl (Ad (Ca g2 rfl ?_)));show IB (ID prog w) _ (Cb (.ref z)>>=_) _ _ u;refine Ad ?_;unfold Cb;refine Ad (BL g1 rfl (x:=.none) rfl (Ai ?_));simp only[if_true];refine Ad (CG (Ad (BL g1 rfl (x:=.ref to) rfl (Ad (Bz g1 (by simp) fun m1 y1 d1=>?_)))));have z1:IsZip m1 z ti to .ellipsis:=y1;refine Ad ?_;simp only[Hb,Hr,Hs,Hy];refine Ad (Ad (FJ ?_));show IB (ID prog w) _ (BE (.ref j1)>>=_) _ _ _;refine Ad (a4k hh (t1.extBut d1.extBut D.i1z) (v1.extBut d1.extBut D.l1z) hx fun m2 e d2 he=>?_);obtain⟨oe,e1,e2⟩:=he;have z2:IsZip m2 z ti to .ellipsis:=d2 _ _ D.i1z.symm z1;have ne:e≠z:=fun q=>by
  subst q;rw[z2] at e1;cases e1;simp at e2
 refine Bz z2 (by simp) fun m3 _ d3=>?_;refine Ad (EG (T := "StopIteration") (b:=true) ⟨oe,d3.extBut _ _ ne e1,e2⟩ isSubtype_stop ?_);exact Ai (hR m3 fun c o n1 n3 q=>d3.extBut _ _ n1 (d2 _ _ n3 (d1.extBut _ _ n1 q)))
end
def Ity(K:Ac)(l1 l2:HW):It where
 go:=fun i H=>∃xs ys x y,SqT K H l1 xs/\SqT K H l2 ys/\xs[i]?=some x/\ys[i]?=some y
 yld:=fun i H v H'=>∃x y p,(∀xs,SqT K H l1 xs->xs[i]?=some x)/\(∀ys,SqT K H l2 ys->ys[i]?=some y)/\H p=none/\H'=upd H p (.tup [x,y])/\v=.ref p
 stop:=fun i H=>∃xs ys,SqT K H l1 xs/\SqT K H l2 ys/\xs.length<=i
theorem ym{X:Cx}{pins:List (HW×Obj)}{σ:St}{H:Hp}{s:HZ}{l:HW}{xs:List V}(I:Inv X pins σ H s)(h:SqT X.K H l xs)(f:FpOk X pins H l):False:=by
 rcases h with (q|⟨o,q⟩)|⟨o,its,n,q,_⟩
 . rw[f.1] at q;cases q
 . rw[f.1] at q;cases q
 . have e:=I.ok.mod.kin _ _ q;rcases f.2.2.2.1 with z|z
   . exact I.ok.noex l o e z
   . exact absurd (AH (AC e) (Aw I.ok.bsz z)) (Bt _)
def a7o(n l1 l2:HW)(i:Nat)(h:IJ):Prop:=IsZip h (n+4) (n+2) (n+3) .none/\IZ h (n+2) (.ref n) (.ref (n+1))/\(∃a b,IZ h (n+3) a b)/\h.IsTupleIter n l1 i/\h.IsTupleIter (n+1) l2 i
theorem a5m{P:IC}{w:IF}{K:Ac}{elts:List Expr}{x1}{pos:Pos}(n l1 l2:HW):Turn P w K (.Tuple elts x1 pos) (Ity K l1 l2) (fv n) (n+4) (a7o n l1 l2) where
 mem:=by simp[fv]
 obj:=fun i h st b hb=>by
  obtain⟨hz,hTI,⟨a,c,hTO⟩,⟨o1,e1,c1,d1⟩,⟨o2,e2,c2,d2⟩⟩:=st;unfold fv at hb;simp only[Am,Au,or_false] at hb;rcases hb with rfl|rfl|rfl|rfl|rfl
  . exact⟨_,hz,fun v z=>by cases z⟩
  . exact⟨_,hTI,fun v z=>by cases z⟩
  . exact⟨_,hTO,fun v z=>by cases z⟩
  . exact⟨o1,e1,fun v z=>by rw[d1] at z;cases z⟩
  . exact⟨o2,e2,fun v z=>by rw[d2] at z;cases z⟩
 keep:=fun i h h' st k=>by
  obtain⟨hz,hTI,⟨a,c,hTO⟩,h1,h2⟩:=st;exact⟨k _ (by simp[fv]) _ hz,k _ (by simp[fv]) _ hTI,⟨a,c,k _ (by simp[fv]) _ hTO⟩,h1.at fun o e=>k _ (by simp[fv]) o e,h2.at fun o e=>k _ (by simp[fv]) o e⟩
 item:=by
  intro X hP hw hK hc i pins s σ H E I hf st hg;subst hP hw hK;obtain⟨hz,hTI,⟨a,c,hTO⟩,h1,h2⟩:=st;obtain⟨xs,ys,x,y,q1,q2,hx,hy⟩:=hg;obtain⟨its1,r1,L1,_⟩:=I.tuple q1;obtain⟨its2,r2,L2,_⟩:=I.tuple q2;obtain⟨u,hu,ru⟩:=r1.get hx;obtain⟨v,hv,rv⟩:=r2.get hy;have D:ZipApart (n+4) (n+2) (n+3) n (n+1) l1 l2:=sy (fun z=>ym I q1 (hf _ z)) (fun z=>ym I q2 (hf _ z));refine a60 D hz hTI hTO h1 h2 (show s.heap.IsTuple l1 its1.toArray from L1) (show s.heap.IsTuple l2 its2.toArray from L2) (x:=u) (y:=v) (by simpa using hu) (by simpa using hv) fun h' a1 a2 a3 a4 a5 hk=>?_;have I1:Inv X pins σ H {s with heap:=h'}:=I.turnedL (ch:=fv n) (t':=s.toks) (fun b o hb e=>by
   unfold fv at hb;simp only[Am,Au,or_false,not_or] at hb;exact hk b o hb.1 hb.2.2.1 hb.2.2.2.1 hb.2.2.2.2 e) hf
  refine⟨.ref s.heap.objs.size,rfl,wpAny_letOwnedTupleGo_zip a1 fun h2' hz' hs'=>?_⟩;have I2:Inv X pins σ H {s with heap:=h2'}:=I1.turnedL (s:={s with heap:=h'}) (ch:=fv n) (t':=s.toks) (fun b o hb e=>by
   unfold fv at hb;simp only[Am,Au,or_false,not_or] at hb;exact hs'.extBut _ _ hb.1 e) hf
  have fresh:H s.heap.objs.size=none:=I.hok.fresh (Ar _);have pz:s.heap.objs.size≠n+4:=BW (AC hz);have I3:Inv X pins σ (upd H s.heap.objs.size (.tup [x,y])) {s with heap:=h2'}:=by
   refine I2.track fresh ?_ (BW I.lt) (fun z c' e e2'=>?_) (fun p hp e2'=>?_) ?_
   . cases q:X.s₀.heap.get? s.heap.objs.size with
     | none=>rfl
     | some o=>exact absurd (AH (AC q) I.sz) (Bt _)
   . obtain⟨v',q⟩:=I.cell z c' e;exact absurd (e2' ▸ q.lt) (Bt _)
   . exact absurd (e2' ▸ AC (I.pin p hp).1) (Bt _)
   . exact⟨by show 2<=HY;decide,[u,v],.cons ru (.cons rv .nil),⟨_,hs'.extBut _ _ pz a5,rfl,_,rfl⟩⟩
  have hpn:∀b∈fv n,b≠s.heap.objs.size:=fun b hb e=>by
   have q3:∃o,s.heap.get? b=some o:=by
    unfold fv at hb;simp only[Am,Au,or_false] at hb;obtain⟨o1,g1,_⟩:=h1;obtain⟨o2,g2,_⟩:=h2;rcases hb with rfl|rfl|rfl|rfl|rfl
    . exact⟨_,hz⟩
    . exact⟨_,hTI⟩
    . exact⟨_,hTO⟩
    . exact⟨_,g1⟩
    . exact⟨_,g2⟩
   obtain⟨o,q3⟩:=q3;exact absurd (e ▸ AC q3) (Bt _)
  have hTI':IZ h' (n+2) (.ref n) (.ref (n+1)):=hk _ _ D.TIz D.TITO D.TIi1 D.TIi2 hTI;refine⟨.ref s.heap.objs.size,_,I3,rfl,⟨x,y,_,fun zs hz2=>by rw[I.tuple_inj hz2 q1];exact hx,fun zs hz2=>by rw[I.tuple_inj hz2 q2];exact hy,fresh,rfl,rfl⟩,⟨hz',hs'.extBut _ _ D.TIz hTI',⟨_,_,hs'.extBut _ _ D.TOz a2⟩,a3.extBut hs'.extBut D.i1z,a4.extBut hs'.extBut D.i2z⟩,fun b hb=>?_⟩;rw[ai (hpn b hb)];exact (hf b hb).1
 done:=by
  intro X hP hw hK hc i pins s σ H E I hf st hg;subst hP hw hK;obtain⟨hz,hTI,⟨a,c,hTO⟩,h1,h2⟩:=st;obtain⟨xs,ys,q1,q2,hl⟩:=hg;obtain⟨its1,r1,L1,_⟩:=I.tuple q1;have hlen:=r1.length;have D:ZipApart (n+4) (n+2) (n+3) n (n+1) l1 l2:=sy (fun z=>ym I q1 (hf _ z)) (fun z=>ym I q2 (hf _ z));refine a6z (I.ok.hd hc) D hz hTI h1 (show s.heap.IsTuple l1 its1.toArray from L1) (by rw[C0,Cj (by omega)]) fun h' hk=>⟨rfl,I.turnedL (ch:=fv n) (t':=s.toks) (fun b o hb e=>?_) hf⟩
  unfold fv at hb;simp only[Am,Au,or_false,not_or] at hb;exact hk b o hb.1 hb.2.2.2.1 e
 self:=fun _ _ _ _ _ st h=>Hc st.1 h
theorem a5v(l1 l2:HW)(xs ys:Array HX):Meets (Builtin.«zip.__new__» ⟨[.type "zip",.ref l1,.ref l2],[]⟩) (fun _ R s=>s.heap.IsTuple l1 xs/\s.heap.IsTuple l2 ys/\
 R (.ok (.ret (.ref (s.heap.objs.size+4)))) {s with heap:=((((s.heap.push {cls:=.type "tuple_iterator",data:=.fields #[.ref l1,.int 0 0]}).push {cls:=.type "tuple_iterator",data:=.fields #[.ref l2,.int 0 0]}).push {cls:=.type "tuple",data:=.seq #[.ref s.heap.objs.size,.ref (s.heap.objs.size+1)]}).push {cls:=.type "tuple",data:=.seq #[.none,.none]}).push {cls:=.type "zip",data:=.fields #[.none,.bool false,.bool false,.ref (s.heap.objs.size+2),.ref (s.heap.objs.size+3)]}}) :=
 .of_wp fun prog w A R s h=>by
  obtain⟨m,g,d,tk,os⟩:=s;obtain⟨a1,a2,h⟩:=h;have sub:=sub_zip;have b1:HJ (HS ⟨m,g,d,tk,os⟩) l1 xs:=a1;have b2:HJ (HS ⟨m.push {cls:=.type "tuple_iterator",data:=.fields #[.ref l1,.int 0 0]},g,d,tk,os⟩) l2 ys:=by
   obtain⟨o,e,r⟩:=a2;exact⟨o,Af _ e,r⟩
  have z1:(m.push {cls:=.type "tuple_iterator",data:=.fields #[.ref l1,.int 0 0]}).objs.size=m.objs.size+1:=Bs ..
  wp_walk using Ds b1,Ds b2
  refine⟨_,rfl,?_⟩;simp only[Bs];exact h
section
variable{X:Cx}
def a7t(K:Ac)(ta:TA):TI:=fun σ H R=>ta σ H fun vs H1=>∃l1 l2 xs ys,vs=[.ref l1,.ref l2]/\SqT K H1 l1 xs/\SqT K H1 l2 ys/\R (Ity K l1 l2) H1
theorem a8t{a b:Expr}{ta:TA}{p pos tpos:Pos}{elts:List Expr}{x1}(hg:Gl X "zip")(hm:X.mg "zip"=none)(ha:PA X [a,b] ta)(hs:IH [a,b] X.env=[(false,eval a X.env),(false,eval b X.env)])(hs2:IH [b] X.env=[(false,eval b X.env)]):
 PI X (.Tuple elts x1 tpos) (.Call (.Name "zip" p) [a,b] [] pos) (a7t X.K ta):=by
 intro pins s σ H R I h;refine Call_ (r8 I hg hm boot_zip (Df (thn (ha pos pins s σ H _ I h) fun us s1 ⟨vs,H1,I1,r1,q1⟩=>?_) (by rw[hs,hs2]) (by rw[hs2];rfl)));obtain⟨l1,l2,xs,ys,e,q1,q2,q⟩:=q1;subst e;cases r1 with
 | cons r rr =>
  cases rr with
  | cons r' rr =>
   cases rr;cases r;cases r';obtain⟨its1,v1,e1,_⟩:=I1.tuple q1;obtain⟨its2,v2,e2,_⟩:=I1.tuple q2;have T1:s1.heap.IsTuple l1 its1.toArray:=e1;have T2:s1.heap.IsTuple l2 its2.toArray:=e2;refine callType_new F.called_zip (by decide) (F.typeCall_zip_2 _ _) (F.newCall_zip_2 _ _) (fun obj=>F.args_object_init_3 obj _ _) F.entry_zip_new (a5v l1 l2 its1.toArray its2.toArray) ⟨T1,T2,?_⟩;have z1:∀(m:IJ) (o:Obj),(m.push o).objs.size=m.objs.size+1:=fun m o=>Bs ..;have hk:∀b o,s1.heap.get? b=some o->∀o1 o2 o3 o4 o5,(((((s1.heap.push o1).push o2).push o3).push o4).push o5).get? b=some o:=fun b o e o1 o2 o3 o4 o5=>Af _ (Af _ (Af _ (Af _ (Af _ e))));have at0:∀o1 o2 o3 o4 o5:Obj,o1.isFreed=false->(((((s1.heap.push o1).push o2).push o3).push o4).push o5).get? s1.heap.objs.size=some o1:=fun o1 o2 o3 o4 o5 f=>Af _ (Af _ (Af _ (Af _ (AE _ f))));have at1:∀o1 o2 o3 o4 o5:Obj,o2.isFreed=false->(((((s1.heap.push o1).push o2).push o3).push o4).push o5).get? (s1.heap.objs.size+1)=some o2:=fun o1 o2 o3 o4 o5 f=>by rw[<- z1 s1.heap o1];exact Af _ (Af _ (Af _ (AE _ f)))
   have at2:∀o1 o2 o3 o4 o5:Obj,o3.isFreed=false->(((((s1.heap.push o1).push o2).push o3).push o4).push o5).get? (s1.heap.objs.size+2)=some o3:=fun o1 o2 o3 o4 o5 f=>by
    have e:s1.heap.objs.size+2=((s1.heap.push o1).push o2).objs.size:=by rw[z1,z1]
    rw[e];exact Af _ (Af _ (AE _ f))
   have at3:∀o1 o2 o3 o4 o5:Obj,o4.isFreed=false->(((((s1.heap.push o1).push o2).push o3).push o4).push o5).get? (s1.heap.objs.size+3)=some o4:=fun o1 o2 o3 o4 o5 f=>by
    have e:s1.heap.objs.size+3=(((s1.heap.push o1).push o2).push o3).objs.size:=by rw[z1,z1,z1]
    rw[e];exact Af _ (AE _ f)
   have at4:∀o1 o2 o3 o4 o5:Obj,o5.isFreed=false->(((((s1.heap.push o1).push o2).push o3).push o4).push o5).get? (s1.heap.objs.size+4)=some o5:=fun o1 o2 o3 o4 o5 f=>by
    have e:s1.heap.objs.size+4=((((s1.heap.push o1).push o2).push o3).push o4).objs.size:=by rw[z1,z1,z1,z1]
    rw[e];exact AE _ f
   have g1:=at4 {cls:=.type "tuple_iterator",data:=.fields #[.ref l1,.int 0 0]} {cls:=.type "tuple_iterator",data:=.fields #[.ref l2,.int 0 0]} {cls:=.type "tuple",data:=.seq #[.ref s1.heap.objs.size,.ref (s1.heap.objs.size+1)]} {cls:=.type "tuple",data:=.seq #[.none,.none]} {cls:=.type "zip",data:=.fields #[.none,.bool false,.bool false,.ref (s1.heap.objs.size+2),.ref (s1.heap.objs.size+3)]} rfl;refine⟨⟨_,g1,rfl⟩,?_⟩;refine Hc (s:={s1 with heap:=_}) g1 ?_;refine⟨s1.heap.objs.size+4,fv s1.heap.objs.size,a7o s1.heap.objs.size l1 l2,Ity X.K l1 l2,H1,rfl,I1.kept (t':=s1.toks) fun b o e=>hk b o e _ _ _ _ _,a5m _ _ _,⟨g1,at2 _ _ _ _ _ rfl,⟨_,_,at3 _ _ _ _ _ rfl⟩,⟨_,at0 _ _ _ _ _ rfl,rfl,rfl⟩,⟨_,at1 _ _ _ _ _ rfl,rfl,rfl⟩⟩,fun b hb=>?_,q⟩;have hge:s1.heap.objs.size<=b:=by
    unfold fv at hb;simp only[Am,Au,or_false] at hb;rcases hb with rfl|rfl|rfl|rfl|rfl
    . exact CN _ 4
    . exact CN _ 2
    . exact CN _ 3
    . exact Ar _
    . exact CN _ 1
   exact I1.fpOk (H':=H1) hge (I1.hok.fresh hge)
theorem a2c{a b:Expr}{ta:TA}{p pos tpos:Pos}{elts:List Expr}{x1}(hg:Gl X "zip")(hm:X.mg "zip"=none)(ha:QA X [a,b] ta)(hs:IH [a,b] X.env=[(false,eval a X.env),(false,eval b X.env)]:=by rfl)(hs2:IH [b] X.env=[(false,eval b X.env)]:=by rfl):
 QI X (.Tuple elts x1 tpos) (.Call (.Name "zip" p) [a,b] [] pos) (a7t X.K ta):=⟨a8t hg hm ha.run hs hs2⟩
end
section
variable{X:Cx}
def aan(K:Ac)(w:IF)(td ty:TE):TE:=fun σ H Q=>td σ H fun x H1=>ty σ H1 fun y H2=>∃a kvs z v,x=.ref a/\y=.str z/\yi K w a kvs/\kvs.lookup z=some v/\Q v H2
theorem a82{K:Ac}{w:IF}{o i:Expr}{pos:Pos}{td ty:TE}(hK:X.K=K)(hw:X.w=w)(ho:QE X o td)(hi:QE X i ty)(hs:NoSl i):QE X (.Subscript o i pos) (aan K w td ty):=by
 subst hK hw;refine⟨fun pins s σ H Q I h=>?_⟩;refine a1i EB.lookup hs (thn (ho.run pins s σ H _ I h) fun u s1 ⟨x,H1,I1,rx,q1⟩=>thn (hi.run pins s1 σ H1 _ I1 q1) fun iv s2 ⟨y,H2,I2,ry,a,kvs,z,v,ex,ey,hd,hv,q2⟩=>?_);subst ex ey;obtain rfl:u=Value.ref a:=rx;obtain⟨t',rfl⟩:=ry;obtain⟨es,n,hl,hk,hno,hr⟩:=hd;have mp2:s2.heap.MapOf (IT X.prog X.w) a (fun k=>findBy BN es k):=Ho I2.kIn hl hk;have hz:=hr z;rw[hv] at hz;obtain⟨w',hw',rw'⟩:=RelO.some_of (v:=v) (o:=findBy BN es z) hz;exact⟨mp2.typeIs,GU (E9 _ _ z t') mp2 hw' ⟨v,H2,I2.tok _,rw',q2⟩⟩
end
end L2
namespace K40
open L2 Mir
variable{P:IC}{w:IF}{K:Ac}{mg:Str->Option HX}{base:IJ}{f g gA gF gP gN gS gW gI gV gM gR gT gC gB gD gH gK gG gY:HW}{fd gd dA dF dP dN dS dW dI dV dM dR dT dC dB dD dH dK dG dY:II}
theorem lenK{X:Cx}{K:Ac}(h:X.K=K):dz X (.builtin "len") (fun xs H Q=>∃p ys,xs=[.ref p]/\(SqL K H p ys\/SqT K H p ys)/\Q (.int ys.length) H):=by subst h;exact ap
theorem ixTK{X:Cx}{K:Ac}(h:X.K=K):IxR X (rIxT K):=by subst h;exact ao
theorem ixK{X:Cx}{K:Ac}(h:X.K=K):IxR X (rIxL K):=by subst h;exact bc
theorem cy{n:Nat}(h:n<=1000):n<HY:=ga h
theorem bx{n:Nat}(h:n<=1000):n<=HY:=B0 (ga h)
theorem at0{α:Type}{x:α}{xs:List α}:atI (x::xs) 0=some x:=dv (xs:=x::xs) (v:=x) (j:=0) rfl
def Ok(x:Str):Prop:=(PyData.str x).canLay0=true
theorem a6u(xs:List V)(n:Nat):cutV xs (some (n:Int)) none=xs.drop n:=by
 unfold cutV;rw[HT.sIx_nat,show HT.sIx xs.length xs.length none=xs.length from rfl];by_cases h:n<=xs.length
 . rw[Fb h,Bf (by rw[Bi];omega)]
 . rw[EJ (by omega),List.drop_length,Fk (by omega),List.take_nil]
inductive Pl
 | row (r:List Str)
 | call (x c:Str)(vs:List Str)
def PlAt(H:Hp)(t:HW):Pl->Prop
 | .row r=>H t=some (.tup (r.map V.str))
 | .call x c vs=>∃v,H t=some (.tup [.str "call",.str x,.str c,.ref v])/\H v=some (.tup (vs.map V.str))
theorem PlAt.same{H H':Hp}{t:HW}{p:Pl}(h:PlAt H t p)(e:Same H H'):PlAt H' t p:=by
 cases p with
 | row r=>exact e _ _ h
 | call x c vs=>obtain⟨v,h1,h2⟩:=h;exact⟨v,e _ _ h1,e _ _ h2⟩
def PlOk:Pl->Prop
 | .row r=>(∃h r' fs,r=h::r'/\(h,fs)∈forms/\fs.length=r'.length)/\∀y∈r,Ok y
 | .call x c vs=>Ok x/\Ok c/\∀y∈vs,Ok y
theorem zu:∀c∈Mir.letters.cps.toList++Mir.figures.cps.toList,c<128:=by decide
theorem kd{y:Str}(h:b8 y=true):Ok y:=by
 have h2:y.cps.toList.all df=true:=by
  unfold b8 at h;split at h
  . cases h
  . rw[BC] at h;exact h.2
 unfold Ok;simp only[Fy];unfold PyData.strOk;rw[<- Array.all_toList,BD];intro c hc;have h3:=BD.mp h2 c hc;unfold df at h3;rw[Bool.or_eq_true] at h3;have:c<128:=zu c (List.mem_append.mpr (h3.imp of_decide_eq_true of_decide_eq_true));simp only[decide_eq_true_eq];omega
theorem gz:∀y∈([("set":Str),"read","write","new","free","first","second","nil","any","","is","not","if","while","call","cell","stretch","tree"]:List Str),(PyData.str y).canLay0=true:=by decide
theorem jv:∀x∈forms,x.1≠"if" /\ x.1≠"while" /\ x.1≠"call" := by decide
theorem kz{H:Hp}{t:HW}{p:Pl}(h:PlAt H t p)(ok:PlOk p):∃(w:Str) (vs:List V),H t=some (.tup (.str w::vs))/\w≠"if" /\ w≠"while" := by
 cases p with
 | row r=>obtain⟨⟨w,r',fs,rfl,h1,h2⟩,_⟩:=ok;exact⟨w,r'.map V.str,h,(jv _ h1).1,(jv _ h1).2.1⟩
 | call x c vs=>obtain⟨v,h1,h2⟩:=h;exact⟨"call",_,h1,by decide,by decide⟩
structure Dn(n:Nat)(d:PyData):Prop where
 lay:d.canLay0=true
 dep:d.depth<=n
theorem Dn.ok{n:Nat}{d:PyData}(h:Dn n d)(hn:n<=16):EqOk d:=⟨h.lay,Aw h.dep hn⟩
theorem Dn.mono{m n:Nat}{d:PyData}(h:Dn m d)(hn:m<=n):Dn n d:=⟨h.lay,Aw h.dep hn⟩
theorem yw{n:Nat}:∀{ds:List PyData},(∀d∈ds,Dn n d)->E8 ds=true/\Fc ds<=n
 | [],_=>⟨by simp only[E8],by simp only[Fc];omega⟩
 | d::ds,h=>by
  obtain⟨h1,h2⟩:=yw (ds:=ds) fun x hx=>h x (Bl _ hx);have h3:=h d (By ..);refine⟨?_,?_⟩
  . simp only[E8,BC];exact⟨h3.lay,h1⟩
  . simp only[Fc];exact Nat.max_le.mpr ⟨h3.dep,h2⟩
theorem Dn.lst{n:Nat}{ds:List PyData}(h:∀d∈ds,Dn n d):Dn (n+1) (.list ds):=by
 obtain⟨h1,h2⟩:=yw h;refine⟨?_,?_⟩
 . simp only[Fy];exact h1
 . simp only[Gd];omega
theorem Dn.tup{n:Nat}{ds:List PyData}(h:∀d∈ds,Dn n d):Dn (n+1) (.tuple ds):=by
 obtain⟨h1,h2⟩:=yw h;refine⟨?_,?_⟩
 . simp only[Fy];exact h1
 . simp only[Gd];omega
theorem Dn.str{n:Nat}{x:Str}(h:Ok x):Dn n (.str x):=⟨h,by simp only[Gd];exact AG _⟩
theorem oz{r:List Str}(h:∀y∈r,Ok y):Dn 1 (dRow r):=by
 refine Dn.tup fun e he=>?_;obtain⟨y,hy,rfl⟩:=AF.mp he;exact Dn.str (h y hy)
theorem sk{rs:List (List Str)}(h:∀r∈rs,∀y∈r,Ok y):Dn 2 (.list (rs.map dRow)):=by
 refine Dn.lst fun d hd=>?_;obtain⟨r,hr,rfl⟩:=AF.mp hd;exact oz (h r hr)
inductive Deed
 | plain (p:Pl)
 | cond (r:List Str)(a b:List Deed)
 | loop (r:List Str)(F P:List (List Str))(a:List Deed)
def plD:Pl->PyData
 | .row r=>dRow r
 | .call x c vs=>.tuple [.str "call",.str x,.str c,dRow vs]
def vc(F P:List (List Str)):PyData:=.tuple [.list (F.map dRow),.list (P.map dRow)]
def a3p(f:List Deed->PyData):Deed->PyData
 | .plain p=>plD p
 | .cond r a b=>.tuple [.str "if",dRow r,f a,f b]
 | .loop r F P a=>.tuple [.str "while",dRow r,vc F P,f a]
def yk:List Nat->List Deed->PyData
 | [],_=>.none
 | _::bs,ds=>.list (ds.map (a3p (yk bs)))
inductive DeedX(K:Ac)(H:Hp)(L:HW->List Deed->Prop)(t:HW):Deed->Prop
 | plain (p:Pl)(h1:PlAt H t p)(h2:PlOk p):DeedX K H L t (.plain p)
 | cond (c i o:HW)(r:List Str)(a b:List Deed)(h:H t=some (.tup [.str "if",.ref c,.ref i,.ref o]))(hc:H c=some (.tup (r.map V.str)))(okr:∀y∈r,Ok y)(hi:L i a)(ho:L o b):DeedX K H L t (.cond r a b)
 | loop (c td i fa pa:HW)(r:List Str)(F P:List (List Str))(a:List Deed)(h:H t=some (.tup [.str "while",.ref c,.ref td,.ref i]))(hc:H c=some (.tup (r.map V.str)))(okr:∀y∈r,Ok y)(htd:H td=some (.tup [.ref fa,.ref pa]))(hF:RowsAt K H fa F)(hP:RowsAt K H pa P)(okF:∀r∈F,∀y∈r,Ok y)(okP:∀r∈P,∀y∈r,Ok y)(lF:F.length<=10)(lP:P.length<=10)(hi:L i a):DeedX K H L t (.loop r F P a)
def ListX(K:Ac)(H:Hp):List Nat->HW->List Deed->Prop
 | [],_,_=>False
 | b::bs,l,ds=>∃ts:List HW,H l=some (.lst (ts.map V.ref))/\IE (DeedX K H (ListX K H bs)) ts ds/\ts.length<=b
section
variable{K:Ac}{H H':Hp}
theorem DeedX.same{L L':HW->List Deed->Prop}{t:HW}{d:Deed}(h:DeedX K H L t d)(e:Same H H')(hL:∀l ds,L l ds->L' l ds):DeedX K H' L' t d:=by
 cases h with
 | plain p h1 h2=>exact .plain p (h1.same e) h2
 | cond c i o r a b h hc okr hi ho=>exact .cond c i o r a b (e _ _ h) (e _ _ hc) okr (hL _ _ hi) (hL _ _ ho)
 | loop c td i fa pa r F P a h hc okr htd hF hP okF okP lF lP hi=>exact .loop c td i fa pa r F P a (e _ _ h) (e _ _ hc) okr (e _ _ htd) (hF.same e) (hP.same e) okF okP lF lP (hL _ _ hi)
theorem ListX.same:∀{bs:List Nat}{l:HW}{ds:List Deed},ListX K H bs l ds->Same H H'->ListX K H' bs l ds
 | [],_,_,h,_=>h.elim
 | b::bs,l,ds,h,e=>by
  obtain⟨ts,h1,h2,h3⟩:=h;exact⟨ts,e _ _ h1,Paired.mapP h2 fun _ _ z=>z.same e fun _ _ y=>ListX.same y e,h3⟩
theorem PlAt.dp{t:HW}{p:Pl}(h:PlAt H t p):Dp K H (.ref t) (plD p):=by
 cases p with
 | row r=>exact RowAt.dp (SqT.of h)
 | call x c vs =>
  obtain⟨v,h1,h2⟩:=h;exact .tup (SqT.of h1) (.cons (.str _) (.cons (.str _) (.cons (.str _) (.cons (RowAt.dp (SqT.of h2)) .nil))))
theorem DeedX.dp{L:HW->List Deed->Prop}{f:List Deed->PyData}{t:HW}{d:Deed}(h:DeedX K H L t d)(hL:∀l ds,L l ds->Dp K H (.ref l) (f ds)):Dp K H (.ref t) (a3p f d):=by
 cases h with
 | plain p h1 h2=>exact h1.dp
 | cond c i o r a b h hc okr hi ho=>exact .tup (SqT.of h) (.cons (.str _) (.cons (RowAt.dp (SqT.of hc)) (.cons (hL _ _ hi) (.cons (hL _ _ ho) .nil))))
 | loop c td i fa pa r F P a h hc okr htd hF hP okF okP lF lP hi=>exact .tup (SqT.of h) (.cons (.str _) (.cons (RowAt.dp (SqT.of hc)) (.cons (.tup (SqT.of htd) (.cons hF.dp (.cons hP.dp .nil))) (.cons (hL _ _ hi) .nil))))
theorem PlOk.dn{p:Pl}(h:PlOk p):Dn 2 (plD p):=by
 cases p with
 | row r=>exact (oz h.2).mono (by decide)
 | call x c vs =>
  obtain⟨h1,h2,h3⟩:=h;refine Dn.tup fun d hd=>?_;simp only[Am,Au,or_false] at hd;rcases hd with rfl|rfl|rfl|rfl
  . exact Dn.str (gz "call" (by simp))
  . exact Dn.str h1
  . exact Dn.str h2
  . exact oz h3
theorem DeedX.dn{L:HW->List Deed->Prop}{f:List Deed->PyData}{t:HW}{d:Deed}{n:Nat}(h:DeedX K H L t d)(hL:∀l ds,L l ds->Dn n (f ds))(hn:3<=n):Dn (n+1) (a3p f d):=by
 cases h with
 | plain p h1 h2=>exact h2.dn.mono (by omega)
 | cond c i o r a b h hc okr hi ho =>
  refine Dn.tup fun d hd=>?_;simp only[Am,Au,or_false] at hd;rcases hd with rfl|rfl|rfl|rfl
  . exact Dn.str (gz "if" (by simp))
  . exact (oz okr).mono (by omega)
  . exact hL _ _ hi
  . exact hL _ _ ho
 | loop c td i fa pa r F P a h hc okr htd hF hP okF okP lF lP hi =>
  refine Dn.tup fun d hd=>?_;simp only[Am,Au,or_false] at hd;rcases hd with rfl|rfl|rfl|rfl
  . exact Dn.str (gz "while" (by simp))
  . exact (oz okr).mono (by omega)
  . refine (Dn.tup (n:=2) fun d hd=>?_).mono hn;simp only[Am,Au,or_false] at hd;rcases hd with rfl|rfl
    . exact sk okF
    . exact sk okP
  . exact hL _ _ hi
theorem rz{α:Type}{R:HW->α->Prop}{g:α->PyData}:∀{ts:List HW}{ds:List α},IE R ts ds->(∀t d,R t d->Dp K H (.ref t) (g d))->DpAll K H (ts.map V.ref) (ds.map g)
 | _,_,.nil,_=>.nil
 | _,_,.cons h1 h2,f=>.cons (f _ _ h1) (rz h2 f)
theorem ListX.dp:∀{bs:List Nat}{l:HW}{ds:List Deed},ListX K H bs l ds->Dp K H (.ref l) (yk bs ds)
 | [],_,_,h=>h.elim
 | b::bs,l,ds,h=>by
  obtain⟨ts,h1,h2,h3⟩:=h;exact .lst (SqL.of h1) (rz h2 fun t d z=>z.dp fun _ _ y=>ListX.dp y)
theorem ListX.dn:∀{bs:List Nat}{l:HW}{ds:List Deed},ListX K H bs l ds->Dn (3+2*bs.length) (yk bs ds)
 | [],_,_,h=>h.elim
 | b::bs,l,ds,h=>by
  obtain⟨ts,h1,h2,h3⟩:=h;have:3+2*(b::bs).length=(3+2*bs.length+1)+1:=by rw[AY];omega
  rw[this];refine Dn.lst fun x hx=>?_;obtain⟨d,hd,rfl⟩:=AF.mp hx;obtain⟨i,hi⟩:=Bk hd;have hlt:i<ts.length:=by rw[Ao h2];exact (Av.mp hi).1
  obtain⟨d',hd',hx'⟩:=Paired.nth h2 (Ag hlt);rw[hi] at hd';cases hd';exact hx'.dn (fun _ _ y=>ListX.dn y) (by omega)
structure Prc where
 name:Str
 res:Str
 ps:List Str
 F1:List (List Str)
 P1:List (List Str)
 F2:List (List Str)
 P2:List (List Str)
 body:List Deed
def prcD(bs:List Nat)(p:Prc):PyData:=.tuple [.str p.name,dRow p.ps,.str p.res,vc p.F1 p.P1,vc p.F2 p.P2,yk bs p.body]
structure PrcX(K:Ac)(H:Hp)(bs:List Nat)(t pt t1 t2 f1 p1 f2 p2 bd:HW)(p:Prc):Prop where
 tup:H t=some (.tup [.str p.name,.ref pt,.str p.res,.ref t1,.ref t2,.ref bd])
 pt:H pt=some (.tup (p.ps.map V.str))
 t1:H t1=some (.tup [.ref f1,.ref p1])
 t2:H t2=some (.tup [.ref f2,.ref p2])
 f1:RowsAt K H f1 p.F1
 p1:RowsAt K H p1 p.P1
 f2:RowsAt K H f2 p.F2
 p2:RowsAt K H p2 p.P2
 body:ListX K H bs bd p.body
 okn:Ok p.name
 okr:Ok p.res
 okp:∀y∈p.ps,Ok y
 ok1:(∀r∈p.F1,∀y∈r,Ok y)/\∀r∈p.P1,∀y∈r,Ok y
 ok2:(∀r∈p.F2,∀y∈r,Ok y)/\∀r∈p.P2,∀y∈r,Ok y
 l1:p.F1.length<=10/\p.P1.length<=10
 l2:p.F2.length<=10/\p.P2.length<=10
def PrcAt(K:Ac)(H:Hp)(bs:List Nat)(t:HW)(p:Prc):Prop:=∃pt t1 t2 f1 p1 f2 p2 bd,PrcX K H bs t pt t1 t2 f1 p1 f2 p2 bd p
theorem PrcAt.same{bs:List Nat}{t:HW}{p:Prc}(h:PrcAt K H bs t p)(e:Same H H'):PrcAt K H' bs t p:=by
 obtain⟨pt,t1,t2,f1,p1,f2,p2,bd,x⟩:=h;exact⟨pt,t1,t2,f1,p1,f2,p2,bd,e _ _ x.tup,e _ _ x.pt,e _ _ x.t1,e _ _ x.t2,x.f1.same e,x.p1.same e,x.f2.same e,x.p2.same e,x.body.same e,x.okn,x.okr,x.okp,x.ok1,x.ok2,x.l1,x.l2⟩
theorem a1f{t f1 p1:HW}{F P:List (List Str)}(h:H t=some (.tup [.ref f1,.ref p1]))(hF:RowsAt K H f1 F)(hP:RowsAt K H p1 P):Dp K H (.ref t) (vc F P):=.tup (SqT.of h) (.cons hF.dp (.cons hP.dp .nil))
theorem a1e{F P:List (List Str)}(h:(∀r∈F,∀y∈r,Ok y)/\∀r∈P,∀y∈r,Ok y):Dn 3 (vc F P):=by
 refine Dn.tup fun d hd=>?_;simp only[Am,Au,or_false] at hd;rcases hd with rfl|rfl
 . exact sk h.1
 . exact sk h.2
theorem PrcAt.dp{bs:List Nat}{t:HW}{p:Prc}(h:PrcAt K H bs t p):Dp K H (.ref t) (prcD bs p):=by
 obtain⟨pt,t1,t2,f1,p1,f2,p2,bd,x⟩:=h;exact .tup (SqT.of x.tup) (.cons (.str _) (.cons (RowAt.dp (SqT.of x.pt)) (.cons (.str _) (.cons (a1f x.t1 x.f1 x.p1) (.cons (a1f x.t2 x.f2 x.p2) (.cons x.body.dp .nil))))))
theorem PrcAt.dn{bs:List Nat}{t:HW}{p:Prc}(h:PrcAt K H bs t p):Dn (3+2*bs.length+1) (prcD bs p):=by
 obtain⟨pt,t1,t2,f1,p1,f2,p2,bd,x⟩:=h;refine Dn.tup fun d hd=>?_;simp only[Am,Au,or_false] at hd;rcases hd with rfl|rfl|rfl|rfl|rfl|rfl
 . exact Dn.str x.okn
 . exact (oz x.okp).mono (by omega)
 . exact Dn.str x.okr
 . exact (a1e x.ok1).mono (by omega)
 . exact (a1e x.ok2).mono (by omega)
 . exact x.body.dn
end
def innL:Deed->List (List Deed)
 | .plain _=>[]
 | .cond _ a b=>[a,b]
 | .loop _ _ _ a=>[a]
inductive spLists(vs:List V)(H:Hp)(Q:VK)(E:XK):Prop
 | cond (t i o:HW)(c:V)(h0:vs=[.ref t])(h:H t=some (.tup [.str "if",c,.ref i,.ref o]))(q:∀l,H l=none->Q (.ref l) (upd H l (.lst [.ref i,.ref o])))
 | loop (t i:HW)(c d:V)(h0:vs=[.ref t])(h:H t=some (.tup [.str "while",c,d,.ref i]))(q:∀l,H l=none->Q (.ref l) (upd H l (.lst [.ref i])))
 | none (t:HW)(w:Str)(vs':List V)(h0:vs=[.ref t])(h:H t=some (.tup (.str w::vs')))(n1:w≠"if")(n2:w≠"while")(q:∀l,H l=none->Q (.ref l) (upd H l (.lst [])))
theorem a6d{K:Ac}{bs:List Nat}{H H0:Hp}{t:HW}{d:Deed}{vs:List V}{Q:VK}{E:XK}(h:DeedX K H0 (ListX K H0 bs) t d)(e:Same H0 H)(h0:vs=[.ref t])(q:∀l as,H l=none->IE (ListX K H0 bs) as (innL d)->Q (.ref l) (upd H l (.lst (as.map V.ref)))):spLists vs H Q E:=by
 cases h with
 | plain p h1 h2 =>
  obtain⟨w,vs',hw,n1,n2⟩:=kz h1 h2;exact .none t w vs' h0 (e _ _ hw) n1 n2 fun l hl=>q l [] hl .nil
 | cond c i o r a b h hc okr hi ho=>exact .cond t i o _ h0 (e _ _ h) fun l hl=>q l [i,o] hl (.cons hi (.cons ho .nil))
 | loop c td i fa pa r F P a h hc okr htd hF hP okF okP lF lP hi=>exact .loop t i _ _ h0 (e _ _ h) fun l hl=>q l [i] hl (.cons hi .nil)
end K40
namespace Spl
open PySem PySem.StrLaws PySem.Builtin PySem.Builtin.Str
section
variable(x y:Str)
end
end Spl
namespace K40
open L2 Mir
variable{P:IC}{w:IF}{K:Ac}{mg:Str->Option HX}{base:IJ}{f g gA gF gP gN gS gW gI gV gM gR gT gC gB gD gH gK gG gY:HW}{fd gd dA dF dP dN dS dW dI dV dM dR dT dC dB dD dH dK dG dY:II}
abbrev uc:IP:=top 15
abbrev wq:IP:=top 16
abbrev w8:IP:=top 17
def fj(r:List Str):Bool:=decide (r.length=3) && decide (r.headD "" ∈ [("is":Str),"not"]) && (r.drop 1).all bh
def ef(x:Str):Option Nat:=if x="cell" then some 4 else if x="stretch" then some 3 else if x="tree" then some 2 else none
def ip:List Str->Bool
 | []=>false
 | k::r=>decide (ef k=some (r.length+1)) && (if k="cell" then bh (r.headD "") && (r.drop 1).all (fun w=>decide (w="any") || bh w) else r.all bh)
def v6(K:Ac)(f:List Str->Bool):Sp:=fun vs H Q _=>∃a r,vs=[.ref a]/\RowAt K H a r/\ql r/\∀H',Same H H'->Q (.bl (f r)) H'
theorem a52:FnScope ["text"] ["text"] (b7 uc):=⟨rfl,rfl,rfl,by decide,rfl,by decide,by decide⟩
theorem a3i(C:Con K mg w)(F:Fun K "is_value" "is_value" uc f fd)(G:FnOk P w K mg base CX0 1 g gd ["text"] (spB1 b8))(bG:Binds K gd ["text"] [])(kG:Cs K (.ref g)=true)(mG:mg "is_name"=some (.ref g)):
 FnOk P w K mg base CX0 2 f fd ["text"] (spB1 bh):=by
 refine F.ok a52 (fun vs H Q E h=>?_) (fun cdv A outer s H vs Q E hr h=>?_)
 . obtain⟨x,rfl,_⟩:=h;rfl
 obtain⟨x,rfl,hx,q⟩:=h;refine⟨_,dk (fk (a3z (ku bo (pv 0) oj (ay _)) (pg (ir G hr rfl mG kG bG .nil au (bi (pv 0) cf))))),?_⟩;refine⟨_,rfl,rfl,_,rfl,iteB (fun c=>?_) (fun c=>?_)⟩
 . have e:bh x=true:=by
    unfold bh;have:x="nil" := by simpa using c
    rw[decide_eq_true this];rfl
   rw[e] at q;exact q H (Same.refl _)
 . have e:bh x=b8 x:=by
    unfold bh;have:¬ x="nil" := by simpa using c
    rw[decide_eq_false this];rfl
   rw[e] at q;exact⟨_,rfl,x,rfl,hx,q⟩
theorem t9{l:List Str}{p:Str->Bool}:((l.map V.str).filter (fun _=>true)).map (fun v=>match v with|.str z=>V.bl (p z)|_=>V.bl false)=(l.map p).map V.bl:=by
 rw[FO.mpr (fun _ _=>rfl),Cw,Cw];rfl
theorem a76:FnScope ["row"] ["row"] (b7 wq):=⟨rfl,rfl,rfl,by decide,rfl,by decide,by decide⟩
theorem a4q(C:Con K mg w)(F:Fun K "is_fact" "is_fact" wq f fd)(G:FnOk P w K mg base CX0 2 g gd ["text"] (spB1 bh))(bG:Binds K gd ["text"] [])(kG:Cs K (.ref g)=true)(mG:mg "is_value"=some (.ref g)):
 FnOk P w K mg base CX0 3 f fd ["row"] (v6 K fj):=by
 refine F.ok a76 (fun vs H Q E h=>?_) (fun cdv A outer s H vs Q E hr h=>?_)
 . obtain⟨a,r,rfl,_⟩:=h;rfl
 obtain⟨a,r,rfl,hr0,hs,q⟩:=h;obtain⟨aN,gN,tN⟩:=C.factWords;refine⟨_,fq (kj (PW.pt (lz (gm jq (cu ap rfl C.len Ap (bi (pv 0) cf)) (pe_g C.factLen) (ay _))
  (lg (gm ko (jr ao (pv 0) ev (fun _ _=>rfl)) (pe_g gN) (by with_unfolding_all rfl))))) (dk (fk kl)) i7)
  (dk (fk (cu (du rfl) rfl C.all AZ (bi (gx (mz (nv qy (pv 0) (pc ev) pe)) (fun _ _ _ _=>jg)
   (fun _ _ _ _=>ir G hr rfl mG kG bG .nil au (bi (pv 0) cf))) cf)))),?_⟩
 have hf:fj r=false->Q (.bl false) H:=fun e=>by rw[<- e];exact q H (Same.refl H)
 refine⟨_,rfl,a,_,rfl,.inr hr0,rfl,_,rfl,iteB (fun c=>?_) (fun c=>?_)⟩
 . refine hf ?_;have:¬ r.length=3:=by
    have c':(!decide (V.int (((r.map V.str).length:Nat):Int)=V.int 3))=true:=c;simp at c';omega
   unfold fj;rw[decide_eq_false this];rfl
 have h3:r.length=3:=by
  have c':(!decide (V.int (((r.map V.str).length:Nat):Int)=V.int 3))=false:=c;simp at c';omega
 obtain⟨k,r1,hr1⟩:∃k r1,r=k::r1:=by
  cases r with
  | nil=>simp at h3
  | cons k r1=>exact⟨k,r1,rfl⟩
 refine⟨_,rfl,a,_,0,.str k,rfl,rfl,hr0,dv (j:=0) (by rw[hr1];rfl),aN,_,rfl,.inr (tN _),rfl,ee _,_,rfl,iteB (fun c2=>?_) (fun c2=>?_)⟩
 . refine hf ?_;have c2':(!inV (.str k) ([("is":Str),"not"].map V.str))=true:=c2;rw[dm] at c2';unfold fj;rw[hr1];have:¬ k∈[("is":Str),"not"]:=by simpa using c2'
   show (_ && decide (k∈[("is":Str),"not"]) && _)=false;rw[decide_eq_false this,Hu,Fl]
 have hk:k∈[("is":Str),"not"]:=by
  have c2':(!inV (.str k) ([("is":Str),"not"].map V.str))=false:=c2;rw[dm] at c2';exact of_decide_eq_true (by simpa only[Bool.not_eq_false'] using c2')
 have e:fj r=(r.drop 1).all bh:=by
  unfold fj;rw[decide_eq_true h3];have:decide (r.headD "" ∈ [("is":Str),"not"])=true:=by rw[hr1];exact decide_eq_true hk
  rw[this];rfl
 rw[e] at q;refine⟨_,rfl,_,rfl,a,_,rfl,hr0,?_,fun p hp=>?_⟩
 . rw[Ab,h3];decide
 have e1:cutV (r.map V.str) (some 1) none=(r.drop 1).map V.str:=iu (k:=1);rw[e1];have sm:Same H (upd H p (.tup ((r.drop 1).map V.str))):=ad hp _;refine⟨p,rfl,⟨_,SqT.of ab⟩,?_⟩;refine ii ((r.drop 1).map V.str) (fun _=>true) (fun v=>match v with|.str z=>.bl (bh z)|_=>.bl false) jb (SqT.of ab) ?_ ?_ ?_ ?_
 . rw[Ab,Bi,h3];decide
 . intro v hv H2 e2 Q' q';exact q' H2 (Same.refl _)
 . intro v hv _ H2 e2 Q' q';obtain⟨z,hz,rfl⟩:=AF.mp hv;exact⟨_,rfl,z,rfl,hs.2 z (Bq hz),q'⟩
 . intro D H' hD e' hd;rw[t9] at hd;refine⟨D,_,rfl,SqL.of hd,?_⟩;have e3:((r.drop 1).map bh).all id=(r.drop 1).all bh:=by rw[DY];rfl
   rw[e3];exact q H' (sm.trans e')
theorem a75:FnScope ["row"] ["row"] (b7 w8):=⟨rfl,rfl,rfl,by decide,rfl,by decide,by decide⟩
theorem rf(k:Str):((([("cell",V.int 4),("stretch",V.int 3),("tree",V.int 2)]:List (Str×V)).lookup k).getD .non)=match ef k with|some n=>V.int n|none=>.non:=by
 unfold ef;by_cases h1:k="cell"
 . subst h1;rfl
 by_cases h2:k="stretch"
 . subst h2;rfl
 by_cases h3:k="tree"
 . subst h3;rfl
 have b:∀x:Str,¬ k=x->(k==x)=false:=fun x h=>beq_eq_false_iff_ne.mpr h;rw[if_neg h1,if_neg h2,if_neg h3];rw[Cu,b _ h1,Cu,b _ h2,Cu,b _ h3];rfl
theorem a59(C:Con K mg w)(F:Fun K "is_part" "is_part" w8 f fd)(G:FnOk P w K mg base CX0 2 g gd ["text"] (spB1 bh))(bG:Binds K gd ["text"] [])(kG:Cs K (.ref g)=true)(mG:mg "is_value"=some (.ref g)):
 FnOk P w K mg base CX0 3 f fd ["row"] (v6 K ip):=by
 refine F.ok a75 (fun vs H Q E h=>?_) (fun cdv A outer s H vs Q E hr h=>?_)
 . obtain⟨a,r,rfl,_⟩:=h;rfl
 obtain⟨a,r,rfl,hr0,hs,q⟩:=h;obtain⟨aN,gN,tN⟩:=C.partLens;refine⟨_,fq (kj (PW.pt (lz (gm bo (cu ap rfl C.len Ap (bi (pv 0) cf)) ev (ay _))
  (lg (gm jq (cu ap rfl C.len Ap (bi (pv 0) cf)) (a1s (pe_g gN) (bi (jr ao (pv 0) ev (fun _ _=>rfl)) cf)) (ay _))))) (dk (fk kl)) i7)
  (fq (kj (gm bo (jr ao (pv 0) ev (fun _ _=>rfl)) oj (ay _))
   (dk (fk (a0c (ir G hr rfl mG kG bG .nil au (bi (jr ao (pv 0) ev (fun _ _=>rfl)) cf))
    (pg (cu (du rfl) rfl C.all AZ (bi (gx (mz (nv qy (pv 0) (pc ev) pe)) (fun _ _ _ _=>jg)
     (fun _ _ _ _=>a3z (ku bo (pv 0) oj (ay _)) (pg (ir G hr rfl mG kG bG .nil au (bi (pv 0) cf))))) cf)))))) i7)
  (dk (fk (cu (du rfl) rfl C.all AZ (bi (gx (mz (nv qy (pv 0) (pc ev) pe)) (fun _ _ _ _=>jg)
   (fun _ _ _ _=>ir G hr rfl mG kG bG .nil au (bi (pv 0) cf))) cf))))),?_⟩
 have hf:ip r=false->Q (.bl false) H:=fun e=>by rw[<- e];exact q H (Same.refl H)
 refine⟨_,rfl,a,_,rfl,.inr hr0,rfl,_,rfl,iteB (fun c=>?_) (fun c=>?_)⟩
 . have:r=[]:=by
    have c':decide (V.int (((r.map V.str).length:Nat):Int)=V.int 0)=true:=c;simp at c';exact c'
   exact hf (by rw[this];rfl)
 obtain⟨k,r1,hr1⟩:∃k r1,r=k::r1:=by
  cases r with
  | nil =>
   exfalso;have c':decide (V.int (((([]:List Str).map V.str).length:Nat):Int)=V.int 0)=false:=c;simp at c'
  | cons k r1=>exact⟨k,r1,rfl⟩
 have at0:atI (r.map V.str) 0=some (.str k):=dv (j:=0) (by rw[hr1];rfl);have eP:ip r=(decide (ef k=some (r1.length+1)) && (if k="cell" then bh (r1.headD "") && (r1.drop 1).all (fun w=>decide (w="any") || bh w) else r1.all bh)):=by rw[hr1];rfl
 have hlen:r.length=r1.length+1:=by rw[hr1];rfl
 refine⟨_,rfl,a,_,rfl,.inr hr0,aN,_,rfl,tN,_,rfl,a,_,0,.str k,rfl,rfl,hr0,at0,k,rfl,?_⟩;have sc:scal (.int (((r.map V.str).length:Nat):Int)) ((([("cell",V.int 4),("stretch",V.int 3),("tree",V.int 2)]:List (Str×V)).lookup k).getD .non)=true:=by
  rw[rf];cases ef k<;>rfl
 have eqd:decide (V.int (((r.map V.str).length:Nat):Int)=((([("cell",V.int 4),("stretch",V.int 3),("tree",V.int 2)]:List (Str×V)).lookup k).getD .non))=decide (ef k=some (r1.length+1)):=by
  rw[rf,Ab,hlen];cases ef k with
  | none=>simp
  | some n =>
   rw[Cm];simp only[decide_eq_true_eq,V.int.injEq,Option.some.injEq];omega
 refine⟨sc,_,rfl,iteB (fun c2=>?_) (fun c2=>?_)⟩
 . have c2':(!decide (ef k=some (r1.length+1)))=true:=by rw[<- eqd];exact c2
   refine hf ?_;rw[eP];have:decide (ef k=some (r1.length+1))=false:=by simpa using c2'
   rw[this];rfl
 have c2':decide (ef k=some (r1.length+1))=true:=by
  have c2':(!decide (ef k=some (r1.length+1)))=false:=by rw[<- eqd];exact c2
  simpa using c2'
 have hpl:ef k=some (r1.length+1):=of_decide_eq_true c2';rw[c2',HB] at eP;refine⟨_,rfl,a,_,0,.str k,rfl,rfl,hr0,at0,rfl,_,rfl,iteB (fun c3=>?_) (fun c3=>?_)⟩
 . -- a cell
   have hk:k="cell" := by simpa using c3
   rw[if_pos hk] at eP;have h4:r1.length=3:=by rw[hk] at hpl;have:(4:Nat)=r1.length+1:=Ay hpl;omega
   obtain⟨x1,r2,hr2⟩:∃x1 r2,r1=x1::r2:=by
    cases r1 with
    | nil=>simp at h4
    | cons x1 r2=>exact⟨x1,r2,rfl⟩
   have at1:atI (r.map V.str) 1=some (.str x1):=dv (j:=1) (by rw[hr1,hr2];rfl);have hx1:Short x1:=hs.2 x1 (by rw[hr1,hr2];simp);have ed:r.drop 2=r2:=by rw[hr1,hr2];rfl
   rw[hr2] at eP;refine⟨_,rfl,a,_,1,.str x1,rfl,rfl,hr0,at1,x1,rfl,hx1,fun H1 e1=>⟨_,rfl,iteB (fun cv=>?_) (fun cv=>?_)⟩⟩
   . have eP':ip r=r2.all (fun w=>decide (w="any") || bh w):=by
      rw[eP];show (bh x1 && _)=_;rw[cv];rfl
     rw[eP'] at q;refine⟨_,rfl,_,rfl,a,_,rfl,hr0.same e1,?_,fun p hp=>?_⟩
     . rw[Ab,hlen,h4];decide
     have e2:cutV (r.map V.str) (some 2) none=r2.map V.str:=by rw[<- ed];exact iu (k:=2)
     rw[e2];have sm:Same H (upd H1 p (.tup (r2.map V.str))):=e1.trans (ad hp _);refine⟨p,rfl,⟨_,SqT.of ab⟩,?_⟩;refine ii (r2.map V.str) (fun _=>true) (fun v=>match v with|.str z=>.bl (decide (z="any") || bh z)|_=>.bl false) jb (SqT.of ab) ?_ ?_ ?_ ?_
     . rw[Ab];have:r2.length<=1000:=by have:=hs.1;rw[hr1,hr2] at this;simp at this;omega
       exact B0 (ga this)
     . intro v hv H2 e2 Q' q';exact q' H2 (Same.refl _)
     . intro v hv _ H2 e2 Q' q';obtain⟨z,hz,rfl⟩:=AF.mp hv;refine⟨_,rfl,rfl,_,rfl,iteB (fun ca=>?_) (fun ca=>?_)⟩
       . have:z="any" := by simpa using ca
         have q3:Q' (.bl (decide (z="any") || bh z)) H2:=q' H2 (Same.refl _);rw[decide_eq_true this] at q3;exact q3
       . have:¬ z="any" := by simpa using ca
         refine⟨_,rfl,z,rfl,hs.2 z (by rw[hr1,hr2];simp[hz]),fun H3 e3=>?_⟩;have q3:Q' (.bl (decide (z="any") || bh z)) H3:=q' H3 e3;rw[decide_eq_false this] at q3;exact q3
     . intro D H' hD e' hd;rw[t9 (p:=fun z:Str=>decide (z="any") || bh z)] at hd;refine⟨D,_,rfl,SqL.of hd,?_⟩;have e3:(r2.map (fun z:Str=>decide (z="any") || bh z)).all id=r2.all (fun w=>decide (w="any") || bh w):=by rw[DY];rfl
       rw[e3];exact q H' (sm.trans e')
   . have eP':ip r=false:=by
      rw[eP];show (bh x1 && _)=_;rw[cv];rfl
     rw[eP'] at q;exact q H1 e1
 . have hk:¬ k="cell" := by simpa using c3
   rw[if_neg hk] at eP;rw[eP] at q;have h1:1<=r1.length:=by
    unfold ef at hpl;rw[if_neg hk] at hpl;split at hpl
    . have:(3:Nat)=r1.length+1:=Ay hpl;omega
    . split at hpl
      . have:(2:Nat)=r1.length+1:=Ay hpl;omega
      . cases hpl
   refine⟨_,rfl,_,rfl,a,_,rfl,hr0,?_,fun p hp=>?_⟩
   . rw[Ab,hlen,show (some (1:Int))=some ((1:Nat):Int) from rfl,HT.sIx_nat];omega
   have ed:r.drop 1=r1:=by rw[hr1];rfl
   have e2:cutV (r.map V.str) (some 1) none=r1.map V.str:=by rw[<- ed];exact iu (k:=1)
   rw[e2];have sm:Same H (upd H p (.tup (r1.map V.str))):=ad hp _;refine⟨p,rfl,⟨_,SqT.of ab⟩,?_⟩;refine ii (r1.map V.str) (fun _=>true) (fun v=>match v with|.str z=>.bl (bh z)|_=>.bl false) jb (SqT.of ab) ?_ ?_ ?_ ?_
   . rw[Ab];have:r1.length<=1000:=by have:=hs.1;omega
     exact B0 (ga this)
   . intro v hv H2 e2 Q' q';exact q' H2 (Same.refl _)
   . intro v hv _ H2 e2 Q' q';obtain⟨z,hz,rfl⟩:=AF.mp hv;exact⟨_,rfl,z,rfl,hs.2 z (by rw[hr1];simp[hz]),q'⟩
   . intro D H' hD e' hd;rw[t9] at hd;refine⟨D,_,rfl,SqL.of hd,?_⟩;have e3:(r1.map bh).all id=r1.all bh:=by rw[DY];rfl
     rw[e3];exact q H' (sm.trans e')
abbrev ui:IP:=top 18
abbrev qf:IP:=top 19
def a0a(K:Ac):Sp:=fun vs H Q _=>∃a rs,vs=[.ref a]/\RowsAt K H a rs/\ShortRows rs/\∀H',Same H H'->Q (.bl true) H'
theorem scAreRows:FnScope ["rows","row"] ["rows"] (b7 ui):=⟨rfl,rfl,rfl,by decide,rfl,by decide,by decide⟩
theorem a3w(C:Con K mg w)(F:Fun K "are_rows" "are_rows" ui f fd):FnOk P w K mg base CX0 1 f fd ["rows"] (a0a K):=by
 refine F.ok scAreRows (fun vs H Q E h=>?_) (fun cdv A outer s H vs Q E hr h=>?_)
 . obtain⟨a,rs,rfl,_⟩:=h;rfl
 obtain⟨a,rs,rfl,hr0,hs,q⟩:=h;obtain⟨as,h1,h2⟩:=id hr0;refine⟨_,fq (kj (ln (lq (cu jt rfl C.isi Ba (bi (pv 0) (bi (gty C.list AQ) cf))))) (dk (fk kl)) i7)
  (fq (zi AS rfl (p6 (pv 0)) (pf (i:=1) scAreRows.nd rfl (Or.inl rfl))
   (dk (kj (PW.pt (lz (ln (lq (cu ib rfl C.isi Ba (bi (pv 1) (bi (gty C.tuple Bx) cf)))))
    (lg (ln (lq (cu (du rfl) rfl C.all AZ (bi (gx (mz (pv 1)) (fun _ _ _ _=>jg)
     (fun _ _ _ _=>cu nh rfl C.isi Ba (bi (pv 0) (bi (gty C.str De) cf)))) cf))))))) (dk (fk kl)) i7)))
   (dk (fk kl))),?_⟩
 refine⟨_,rfl,a,_,rfl,SqL.of h1,_,rfl,iteF ?_⟩;refine⟨_,rfl,a,rfl,⟨_,SqL.of h1⟩,?_⟩;refine et (xs:=as.map V.ref) (fun i σ H'=>Same H H'/\∃z,σ=[some (.ref a),z]) ⟨Same.refl _,_,rfl⟩ (fun i σ H' _ p=>p.1.seq (SqL.of h1)) ?_ ?_
 . rintro i v σ H' hi ⟨e,z,rfl⟩;rw[Ah] at hi;cases hb:as[i]? with
   | none=>rw[hb] at hi;cases hi
   | some b =>
    rw[hb] at hi;have hv:v=.ref b:=(Ay hi).symm;subst hv;obtain⟨r,hr1,hr2⟩:=Paired.nth h2 hb;have hrow:RowAt K H' b r:=hr2.same e;refine⟨_,rfl,b,_,rfl,hrow,_,rfl,iteF ?_⟩;refine⟨_,rfl,b,rfl,⟨_,hrow⟩,?_⟩;refine gq (r.map V.str) r (fun _=>true) jb hrow ?_ (by simp) ?_ ?_
    . rw[Ab];have:=(hs.2 r (Ak hr1)).1;omega
    . intro i x z hx hz H2 e2 Q' q';cases a9x hx hz;exact⟨_,rfl,z,rfl,q' H2 (Same.refl _)⟩
    . intro D H2 hD e' hd;refine⟨D,_,rfl,SqL.of hd,?_⟩;rw[vk,show r.all (fun _=>true)=true by simp];exact⟨_,rfl,iteF ⟨e.trans e',_,rfl⟩⟩
 . rintro σ H' ⟨e,z,rfl⟩;exact q H' e
def Few(rs:List (List Str)):Prop:=∃zs:List Str,zs.Nodup/\(∀y,y∈zs↔y∈words rs)/\zs.length<=8
def fz:List (List (List Str))->Prop
 | [fs,ps]=>fs.length<=8/\ps.length<=6/\fs.all fj=true/\ps.all ip=true/\Few (fs++ps)
 | _=>False
def ig(rss:List (List (List Str))):Bool := @decide (fz rss) (DB _)
theorem jp{rss:List (List (List Str))}(h:fz rss):ig rss=true:=by unfold ig;exact @decide_eq_true _ (DB _) h
theorem my{rss:List (List (List Str))}(h:¬ fz rss):ig rss=false:=by unfold ig;exact @decide_eq_false _ (DB _) h
theorem a4w{rs:List (List Str)}{zs:List Str}(hn:zs.Nodup)(hm:∀y,y∈zs↔y∈words rs):Few rs↔zs.length<=8:=by
 constructor
 . rintro⟨ys,h1,h2,h3⟩;have:=((Dk hn h1).mpr fun a=>(hm a).trans (h2 a).symm).length_eq;omega
 . exact fun h=>⟨zs,hn,hm,h⟩
theorem a2m{r:List Str}(h:fj r=true):r.length=3:=by
 unfold fj at h;simp only[BC,decide_eq_true_eq] at h;exact h.1.1
theorem a2y{r:List Str}(h:ip r=true):2<=r.length/\r.length<=4:=by
 cases r with
 | nil=>cases h
 | cons k r =>
  unfold ip at h;simp only[BC,decide_eq_true_eq] at h;have h1:=h.1;unfold ef at h1;rw[AY];split at h1
  . have:=Ay h1;omega
  . split at h1
    . have:=Ay h1;omega
    . split at h1
      . have:=Ay h1;omega
      . cases h1
def jd(rss:List (List (List Str))):Prop:=rss.length<=1000/\∀rs∈rss,ShortRows rs
def zz(K:Ac)(f:List (List (List Str))->Bool):Sp:=fun vs H Q _=>∃a rss,vs=[.ref a]/\TellAt K H a rss/\jd rss/\∀H',Same H H'->Q (.bl (f rss)) H'
theorem a0w:FnScope ["telling"] ["telling"] (b7 qf):=⟨rfl,rfl,rfl,by decide,rfl,by decide,by decide⟩
theorem a0q(C:Con K mg w)(F:Fun K "is_telling" "is_telling" qf f fd)(GA:FnOk P w K mg base CX0 1 gA dA ["rows"] (a0a K))(cA:Cal K mg "are_rows" gA dA ["rows"])(GF:FnOk P w K mg base CX0 3 gF dF ["row"] (v6 K fj))(cF:Cal K mg "is_fact" gF dF ["row"])(GP:FnOk P w K mg base CX0 3 gP dP ["row"] (v6 K ip))(cP:Cal K mg "is_part" gP dP ["row"])(GN:FnOk P w K mg base CX0 1 gN dN ["telling"] (p8 K))(cN:Cal K mg "names_of" gN dN ["telling"]):FnOk P w K mg base CX0 4 f fd ["telling"] (zz K ig):=by
 refine F.ok a0w (fun vs H Q E h=>?_) (fun cdv A outer s H vs Q E hr h=>?_)
 . obtain⟨a,rss,rfl,_⟩:=h;rfl
 obtain⟨a,rss,rfl,ht,hs,q⟩:=h;have hr1:=hr.mono (j:=1) (by omega);refine⟨_,fq (kj (PW.pt (lz (ln (lq (cu ib rfl C.isi Ba (bi (pv 0) (bi (gty C.tuple Bx) cf)))))
  (lg (gm jq (cu ap rfl C.len Ap (bi (pv 0) cf)) ev (ay _))))) (dk (fk kl)) i7)
  (fq (kj (ln (lq (cu (du rfl) rfl C.all AZ (bi (gx (mz (pv 0)) (fun _ _ _ _=>jg) (fun _ _ _ _=>ir GA hr1 rfl cA.name cA.keep cA.bind .nil au (bi (pv 0) cf))) cf)))) (dk (fk kl)) i7)
  (fq (kj (PW.pt (lz (gm kg (cu ap rfl C.len Ap (bi (jr ao (pv 0) ev (fun _ _=>rfl)) cf)) (pe_g C.mostFacts) (ay _))
   (lg (gm kg (cu ap rfl C.len Ap (bi (jr ao (pv 0) ev (fun _ _=>rfl)) cf)) (pe_g C.mostParts) (ay _))))) (dk (fk kl)) i7)
  (fq (kj (PW.pt (lz (ln (lq (cu (du rfl) rfl C.all AZ (bi (gx (p6 (jr ao (pv 0) ev (fun _ _=>rfl))) (fun _ _ _ _=>jg) (fun _ _ _ _=>ir GF hr rfl cF.name cF.keep cF.bind .nil au (bi (pv 0) cf))) cf))))
   (lg (ln (lq (cu (du rfl) rfl C.all AZ (bi (gx (p6 (jr ao (pv 0) ev (fun _ _=>rfl))) (fun _ _ _ _=>jg) (fun _ _ _ _=>ir GP hr rfl cP.name cP.keep cP.bind .nil au (bi (pv 0) cf))) cf))))))) (dk (fk kl)) i7)
  (dk (fk (ku yg (cu ap rfl C.len Ap (bi (ir GN hr1 rfl cN.name cN.keep cN.bind .nil au (bi (pv 0) cf)) cf)) (pe_g C.mostNames) (ay _))))))),?_⟩
 obtain⟨as,t1,t2⟩:=id ht;have hl:as.length=rss.length:=Ao t2;refine⟨_,rfl,a,_,rfl,t1,_,rfl,iteF ?_⟩;refine⟨_,rfl,a,_,rfl,.inr t1,rfl,_,rfl,iteB (fun c=>?_) (fun c=>?_)⟩
 . have h2:rss.length≠2:=by
    have c':(!decide (V.int (((as.map V.ref).length:Nat):Int)=V.int 2))=true:=c;simp at c';omega
   have e:ig rss=false:=my (fun h=>by
    unfold fz at h;split at h
    . exact h2 rfl
    . exact h)
   rw[e] at q;exact q H (Same.refl _)
 have h2:rss.length=2:=by
  have c':(!decide (V.int (((as.map V.ref).length:Nat):Int)=V.int 2))=false:=c;simp at c';omega
 obtain⟨fs,ps,rfl⟩:∃fs ps,rss=[fs,ps]:=by
  match rss,h2 with
  | [fs,ps],_=>exact⟨fs,ps,rfl⟩
 have hf:=hs.2 fs (by simp);have hp:=hs.2 ps (by simp);refine⟨_,rfl,a,rfl,⟨_,t1⟩,?_⟩;refine gq (as.map V.ref) [fs,ps] (fun _=>true) jb t1 (by rw[Ab,hl];exact hs.1) (by rw[Ab];exact hl.symm) (fun i x rs hx hr' H2 e2 Q' q'=>?_) fun D H1 hD e1 hd=>?_
 . obtain⟨b,hb,rfl⟩:=a01 hx;have hrs:RowsAt K H b rs:=Paired.at2 t2 hb hr';exact⟨_,rfl,b,rs,rfl,hrs.same e2,hs.2 rs (Ak hr'),q'⟩
 refine⟨D,_,rfl,SqL.of hd,?_⟩;rw[vk,show ([fs,ps]:List (List (List Str))).all (fun _=>true)=true by simp];refine⟨_,rfl,iteF ?_⟩;cases t2 with
 | @cons fa _ _ _ t3 t4 =>
 cases t4 with
 | @cons pa _ _ _ t5 t6 =>
 cases t6;have r3:=t3.same e1;have r5:=t5.same e1;obtain⟨fas,f1,f2⟩:=t3;obtain⟨pas,p1,p2⟩:=t5;have t1':=e1.seqT t1;have fl:fas.length=fs.length:=Ao f2;have pl:pas.length=ps.length:=Ao p2;have no:¬ fz [fs,ps]->∀H',Same H H'->Q (.bl false) H':=fun h=>by rw[my h] at q;exact q
 refine⟨_,rfl,a,_,0,.ref fa,rfl,rfl,t1',rfl,fa,_,rfl,.inl (SqL.of (e1 _ _ f1)),_,_,rfl,rfl,_,rfl,iteB (fun c1=>?_) (fun c1=>?_)⟩
 . refine no (fun h=>?_) _ e1;have c1':=of_decide_eq_true c1;have h1:fs.length<=8:=h.1;rw[Ab] at c1';omega
 have c1':fs.length<=8:=by have:=of_decide_eq_false c1;rw[Ab] at this;omega
 refine⟨_,rfl,a,_,1,.ref pa,rfl,rfl,t1',rfl,pa,_,rfl,.inl (SqL.of (e1 _ _ p1)),_,_,rfl,rfl,_,rfl,iteB (fun c2=>?_) (fun c2=>?_)⟩
 . refine no (fun h=>?_) _ e1;have c2':=of_decide_eq_true c2;have h1:ps.length<=6:=h.2.1;rw[Ab] at c2';omega
 have c2':ps.length<=6:=by have:=of_decide_eq_false c2;rw[Ab] at this;omega
 refine⟨_,rfl,a,_,0,.ref fa,rfl,rfl,t1',rfl,fa,rfl,⟨_,SqL.of (e1 _ _ f1)⟩,?_⟩;refine gq (fas.map V.ref) fs fj cs (SqL.of (e1 _ _ f1)) (by rw[Ab];omega) (by rw[Ab];omega) (fun i x r hx hr' H2 e2 Q' q'=>?_) fun D2 H2 hD2 e2 hd2=>?_
 . obtain⟨b,hb,rfl⟩:=a01 hx;have hrs:RowAt K H b r:=Paired.at2 f2 hb hr';exact⟨_,rfl,b,r,rfl,hrs.same (e1.trans e2),hf.row (Ak hr'),q'⟩
 refine⟨D2,_,rfl,SqL.of hd2,?_⟩;rw[vk];refine⟨_,rfl,iteB (fun c3=>?_) (fun c3=>?_)⟩
 . refine no (fun h=>?_) _ (e1.trans e2);rw[h.2.2.1] at c3;cases c3
 have c3':fs.all fj=true:=by simpa using c3
 refine⟨_,rfl,a,_,1,.ref pa,rfl,rfl,e2.seqT t1',rfl,pa,rfl,⟨_,SqL.of (e2 _ _ (e1 _ _ p1))⟩,?_⟩;refine gq (pas.map V.ref) ps ip cs (SqL.of (e2 _ _ (e1 _ _ p1))) (by rw[Ab];omega) (by rw[Ab];omega) (fun i x r hx hr' H3 e3 Q' q'=>?_) fun D3 H3 hD3 e3 hd3=>?_
 . obtain⟨b,hb,rfl⟩:=a01 hx;have hrs:RowAt K H b r:=Paired.at2 p2 hb hr';exact⟨_,rfl,b,r,rfl,hrs.same (e1.trans (e2.trans e3)),hp.row (Ak hr'),q'⟩
 refine⟨D3,_,rfl,SqL.of hd3,?_⟩;rw[vk];have e4:=e1.trans (e2.trans e3);refine⟨_,rfl,iteB (fun c4=>?_) (fun c4=>?_)⟩
 . refine no (fun h=>?_) _ e4;rw[h.2.2.2.1] at c4;cases c4
 have c4':ps.all ip=true:=by simpa using c4
 have hlen:∀r∈fs++ps,2<=r.length/\r.length<=4:=fun r hr=>by
  rcases Aq.mp hr with h|h
  . have:=a2m (BD.mp c3' r h);omega
  . exact a2y (BD.mp c4' r h)
 refine⟨_,rfl,a,fs,ps,rfl,ht.same e4,hf,hp,fun r hr e=>?_,fun ss hn hm=>?_,fun p zs H5 hp0 e5 hz hn hm hso=>?_⟩
 . have:=(hlen r hr).1;rw[e] at this;simp at this
 . have h1:=Bv hn hm;have h2:=lj (rs:=fs++ps) (m:=4) (fun r hr=>(hlen r hr).2);rw[Ae] at h2;omega
 refine⟨p,_,rfl,.inl (SqL.of hz),_,_,rfl,rfl,?_⟩;have e6:=q H5 (e4.trans e5);by_cases hz8:zs.length<=8
 . rw[jp (rss:=[fs,ps]) ⟨c1',c2',c3',c4',(a4w hn hm).mpr hz8⟩] at e6;have:decide (((zs.map V.str).length:Int)<=8)=true:=decide_eq_true (by rw[Ab];omega);show Q (.bl (decide _)) H5;rw[this];exact e6
 . rw[my (rss:=[fs,ps]) (fun h=>hz8 ((a4w hn hm).mp h.2.2.2.2))] at e6;have:decide (((zs.map V.str).length:Int)<=8)=false:=decide_eq_false (by rw[Ab];omega);show Q (.bl (decide _)) H5;rw[this];exact e6
end K40
namespace L2
def zipF(p:Str->Bool)(as bs:List Str):List Str:=((as.zip bs).filter fun x=>p x.1).map (·.2)
theorem a5i{K:Ac}{l1 l2:HW}{H1:Hp}{σ:St}{ix:List Nat}{tc:TT}{te:TE}{Q:VK}(as bs:List Str)(p:Str->Bool)(h1:SqT K H1 l1 (as.map V.str))(h2:SqT K H1 l2 (bs.map V.str))(hl:as.length=bs.length)(hz:as.length<=1000)(ht:∀a b H2,∀Q':Bool->Hp->Prop,Q' (p a) H2->tc (some (.str a)::some (.str b)::cr σ ix) H2 Q')(he:∀a b H2,∀Q':VK,Q' (.str b) H2->te (some (.str a)::some (.str b)::cr σ ix) H2 Q')(hQ:∀D H',H1 D=none->Same H1 H'->H' D=some (.lst ((zipF p as bs).map V.str))->Q (.ref D) H'):wz K (Ity K l1 l2) H1 σ ix tc te Q:=by
 intro D hD;have put:∀H ys,Same H1 H->Same H1 (upd H D (.lst ys)):=fun H ys e b u q=>by rw[ai (aq q hD)];exact e b u q
 have zl:(as.zip bs).length=as.length:=by rw[Dr,<- hl,HK]
 refine⟨fun i m H=>i<=as.length/\m=as.length-i/\Same H1 H/\H D=some (.lst (((((as.zip bs).take i).filter fun x=>p x.1).map (·.2)).map V.str)),⟨as.length,AG _,rfl,put _ _ (Same.refl _),ab⟩,?_⟩;rintro i m H ⟨hi,rfl,e,hD'⟩;by_cases hlt:i<as.length
 . have ha:as[i]?=some as[i]:=Ag hlt;have hb:bs[i]?=some (bs[i]'(by omega)):=Ag (by omega);generalize as[i]=a at ha;generalize bs[i]'(by omega)=b at hb;refine .inr ⟨⟨_,_,.str a,.str b,e.seqT h1,e.seqT h2,by rw[Ah,ha];rfl,by rw[Ah,hb];rfl⟩,fun x H' hy=>?_⟩;obtain⟨x',y',p',g1,g2,g3,rfl,rfl⟩:=hy;have g1':=g1 _ (e.seqT h1);have g2':=g2 _ (e.seqT h2);rw[Ah,ha] at g1';rw[Ah,hb] at g2';cases g1';cases g2';have s1:=ad g3 (.tup [V.str a,V.str b]);have hzi:(as.zip bs)[i]?=some (a,b):=by rw[List.getElem?_zip_eq_some];exact⟨ha,hb⟩
   refine⟨p',_,_,rfl,SqT.of ab,ht a b _ _ ?_⟩;have hD2:=s1 _ _ hD';cases c:p a with
   | true =>
    rw[if_pos rfl];refine he a b _ _ ⟨_,hD2,AO ?_ (show 1000<HY by decide),as.length-(i+1),by omega,hlt,rfl,put _ _ (e.trans s1),?_⟩
    . rw[Ab,Ab];have:=Bd (fun x:Str×Str=>p x.1) ((as.zip bs).take i);rw[AX] at this;omega
    . rw[ab,Bn,hzi,CT,Al,Al];show _=some (HO.lst (_++((([(a,b)].filter fun x:Str×Str=>p x.1).map (·.2)).map V.str)));rw[List.filter_cons_of_pos (by exact c)];rfl
   | false =>
    rw[if_neg An];refine⟨as.length-(i+1),by omega,hlt,rfl,e.trans s1,?_⟩;rw[hD2,Bn,hzi,CT];show _=some (HO.lst (((_++([(a,b)].filter fun x:Str×Str=>p x.1)).map (·.2)).map V.str));rw[List.filter_cons_of_neg (by simp[c])];simp
 . have ei:i=as.length:=by omega
   subst ei;have htk:(as.zip bs).take as.length=as.zip bs:=Bf (by rw[zl];exact Ar _);rw[htk] at hD';exact .inl ⟨⟨_,_,e.seqT h1,e.seqT h2,by rw[Ab];exact Ar _⟩,hQ D H hD e hD'⟩
theorem kb{α β:Type}{l:List α}{g:α->List β}{i:Nat}{x:α}(h:l[i]?=some x):(l.take (i+1)).flatMap g=(l.take i).flatMap g++g x:=by
 rw[Bn,h,Ee];simp
theorem yj{α β:Type}(l:List α)(g:α->List β)(i:Nat):((l.take i).flatMap g).length<=(l.flatMap g).length:=by
 have:l.flatMap g=(l.take i).flatMap g++(l.drop i).flatMap g:=by rw[<- Ee,Fz]
 rw[this,Ae];exact CN _ _
theorem a4s{α β:Type}{l:List α}{g:α->List β}{i:Nat}{x:α}(h:l[i]?=some x):((l.take i).flatMap g).length+(g x).length<=(l.flatMap g).length:=by
 have:=yj l g (i+1);rw[kb h,Ae] at this;exact this
end L2
namespace K40
open L2 Mir
variable{P:IC}{w:IF}{K:Ac}{mg:Str->Option HX}{base:IJ}{f g gA gF gP gN gS gW gI gV gM gR gT gC gB gD gH gK gG gY:HW}{fd gd dA dF dP dN dS dW dI dV dM dR dT dC dB dD dH dK dG dY:II}
abbrev ug:IP:=top 38
abbrev sAll:IP:=top 39
abbrev zc:IP:=top 40
abbrev DeedS(K:Ac)(H:Hp)(t:HW)(d:Deed):Prop:=DeedX K H (fun _ _=>True) t d
theorem DeedS.same{K:Ac}{H H':Hp}{t:HW}{d:Deed}(h:DeedS K H t d)(e:Same H H'):DeedS K H' t d:=DeedX.same h e fun _ _ z=>z
def allD(f:List Deed->List Deed)(d:Deed):List Deed:=d::(innL d).flatMap f
def allL:List Nat->List Deed->List Deed
 | [],_=>[]
 | _::bs,ds=>ds.flatMap (allD (allL bs))
inductive spAll(K:Ac)(bs:List Nat)(vs:List V)(H:Hp)(Q:VK)(E:XK):Prop
 | mk (G:Hp)(l:HW)(ds:List Deed)(h0:vs=[.ref l])(e:Same G H)(h1:ListX K G bs l ds)(h4:(allL bs ds).length<=100)(q:∀fo us H',Same H H'->H fo=none->H' fo=some (.lst (us.map V.ref))->IE (DeedS K G) us (allL bs ds)->Q (.ref fo) H'):spAll K bs vs H Q E
inductive AI(K:Ac)(bs:List Nat)(G H:Hp)(l fo:HW)(ds:List Deed)(i:Nat)(σ:St)(H2:Hp):Prop
 | mk (us:List HW)(z2 z3:Option V)(e:Same H H2)(hf:H2 fo=some (.lst (us.map V.ref)))(hp:IE (DeedS K G) us ((ds.take i).flatMap (allD (allL bs))))(hσ:σ=[rQ l,rQ fo,z2,z3])
inductive AJ(K:Ac)(bs:List Nat)(G H:Hp)(l fo ll:HW)(as:List HW)(pre:List Deed)(is:List (List Deed))(v2:V)(j:Nat)(σ:St)(H2:Hp):Prop
 | mk (us:List HW)(z3:Option V)(e:Same H H2)(hl:H2 ll=some (.lst (as.map V.ref)))(hf:H2 fo=some (.lst (us.map V.ref)))(hp:IE (DeedS K G) us (pre++(is.take j).flatMap (allL bs)))(hσ:σ=[some (.ref l),some (.ref fo),some v2,z3])
theorem scListsIn:FnScope ["deed"] ["deed"] (b7 ug):=⟨rfl,rfl,rfl,by decide,rfl,by decide,by decide⟩
theorem a3o(C:Con K mg w)(F:Fun K "lists_in" "lists_in" ug f fd):FnOk P w K mg base CX0 1 f fd ["deed"] spLists:=by
 refine F.okQ scListsIn (fun vs H Q E h=>?_) (fun cdv A outer s0 H vs Q E hr h=>?_)
 . rcases h with⟨_,_,_,_,rfl,_⟩|⟨_,_,_,_,rfl,_⟩|⟨_,_,_,rfl,_⟩<;>rfl
 have nd:=scListsIn.nd;rcases h with⟨t,i,o,c,rfl,h,q⟩|⟨t,i,c,d,rfl,h,q⟩|⟨t,w',vs',rfl,h,n1,n2,q⟩
 . refine⟨_,ae (bf (ax bo (ag ao (qv 0) ac (fun _ _=>rfl)) bv (ay _)) (aj (az (bb (ar (ag ao (qv 0) ac (fun _ _=>rfl)) (ar (ag ao (qv 0) ac (fun _ _=>rfl)) aa))))) bm)
   (aj (az (qg (ax bo (ag ao (qv 0) ac (fun _ _=>rfl)) bv (ay _)) (bb (ar (ag ao (qv 0) ac (fun _ _=>rfl)) aa)) (bb aa)))),?_⟩
   refine⟨_,rfl,t,_,0,_,rfl,rfl,SqT.of h,rfl,rfl,_,rfl,iteB (fun _=>?_) (fun c=>absurd c (by decide))⟩;exact⟨_,rfl,t,_,2,_,rfl,rfl,SqT.of h,rfl,_,rfl,t,_,3,_,rfl,rfl,SqT.of h,rfl,(show 2<=HY by decide),q⟩
 . refine⟨_,ae (bf (ax bo (ag ao (qv 0) ac (fun _ _=>rfl)) bv (ay _)) (aj (az (bb (ar (ag ao (qv 0) ac (fun _ _=>rfl)) (ar (ag ao (qv 0) ac (fun _ _=>rfl)) aa))))) bm)
   (aj (az (qg (ax bo (ag ao (qv 0) ac (fun _ _=>rfl)) bv (ay _)) (bb (ar (ag ao (qv 0) ac (fun _ _=>rfl)) aa)) (bb aa)))),?_⟩
   refine⟨_,rfl,t,_,0,_,rfl,rfl,SqT.of h,rfl,rfl,_,rfl,iteB (fun c=>absurd c (by decide)) (fun _=>?_)⟩;refine⟨_,rfl,t,_,0,_,rfl,rfl,SqT.of h,rfl,rfl,_,rfl,iteB (fun _=>?_) (fun c=>absurd c (by decide))⟩;exact⟨_,rfl,t,_,3,_,rfl,rfl,SqT.of h,rfl,(show 1<=HY by decide),q⟩
 . refine⟨_,ae (bf (ax bo (ag ao (qv 0) ac (fun _ _=>rfl)) bv (ay _)) (aj (az (bb (ar (ag ao (qv 0) ac (fun _ _=>rfl)) (ar (ag ao (qv 0) ac (fun _ _=>rfl)) aa))))) bm)
   (aj (az (qg (ax bo (ag ao (qv 0) ac (fun _ _=>rfl)) bv (ay _)) (bb (ar (ag ao (qv 0) ac (fun _ _=>rfl)) aa)) (bb aa)))),?_⟩
   refine⟨_,rfl,t,_,0,_,rfl,rfl,SqT.of h,at0,rfl,_,rfl,iteB (fun c=>absurd (V.str.inj (of_decide_eq_true c)) n1) (fun _=>?_)⟩;refine⟨_,rfl,t,_,0,_,rfl,rfl,SqT.of h,at0,rfl,_,rfl,iteB (fun c=>absurd (V.str.inj (of_decide_eq_true c)) n2) (fun _=>?_)⟩;exact⟨AG _,q⟩
theorem scAll:FnScope ["deeds","found","deed","inner"] ["deeds"] (b7 sAll):=⟨rfl,rfl,rfl,by decide,rfl,by decide,by decide⟩
theorem a88:FnOk P w K mg base CX0 1 f fd ["deeds"] (spAll K []) :=
 ⟨fun vs H Q E h=>by obtain⟨G,l,ds,_,_,h1,_⟩:=h;exact h1.elim,fun A outer s H args us vs Q E _ _ _ _ h=>by obtain⟨G,l,ds,_,_,h1,_⟩:=h;exact h1.elim⟩
theorem ou{n b:Nat}{bs:List Nat}(C:Con K mg w)(F:Fun K "all_deeds" "all_deeds" sAll f fd)(GS:FnOk P w K mg base CX0 1 gS dS ["deed"] spLists)(cS:Cal K mg "lists_in" gS dS ["deed"])(GR:FnOk P w K mg base CX0 (n+1) f fd ["deeds"] (spAll K bs))(cR:Cal K mg "all_deeds" f fd ["deeds"]):FnOk P w K mg base CX0 (n+1+1) f fd ["deeds"] (spAll K (b::bs)):=by
 refine F.okQ scAll (fun vs H Q E h=>?_) (fun cdv A outer s0 H vs Q E hr h=>?_)
 . obtain⟨G,l,ds,rfl,_⟩:=h;rfl
 obtain⟨G,l,ds,rfl,eG,hLX,hcnt,q⟩:=h;obtain⟨ts,hl',hp,htl⟩:=hLX;have hl:=eG _ _ hl';have nd:=scAll.nd;have hr1:=hr.mono (j:=1) (by omega);refine⟨_,ae (av (i:=1) nd rfl (Or.inl rfl) (bb aa))
  (ae (dq AS rfl (bz (qv 0)) (bj (i:=2) nd rfl (Or.inl rfl)) (ae (bu (cq (K:=K) rfl As Az AA bq (qv 1) (af (qv 2) aa)))
  (aj (dq AS rfl (bz (ak GS hr1 rfl cS.name cS.keep cS.bind .nil au (af (qv 2) aa))) (bj (i:=3) nd rfl (Or.inl rfl)) (aj (bu (cq (K:=K) rfl As Cq Cr lm (qv 1) (be (ak GR hr rfl cR.name cR.keep cR.bind .nil au (af (qv 3) aa)) aa))))))))
  (aj (az (qv 1)))),?_⟩
 have hpl:=Ao hp;have hcnt':(ds.flatMap (allD (allL bs))).length<=100:=hcnt;refine⟨AG _,fun fo hfo=>?_⟩;have s1:=ad hfo (.lst []);have k1:(upd H fo (.lst [])) fo=some (.lst []):=ab;generalize upd H fo (.lst [])=H1 at s1 k1 |-;dsimp only[bp];refine b9 (a:=tFor _ _ _) fun D1 hN1 hR1 hC1=>?_;refine⟨_,rfl,l,rfl,⟨_,SqL.of (s1 _ _ hl)⟩,?_⟩;refine et (xs:=ts.map V.ref) (AI K bs G H l fo ds) ⟨[],none,none,s1,k1,.nil,rfl⟩ (fun i σ H' _ z=>by obtain⟨us,_,_,e,_⟩:=z;exact SqL.of (e _ _ hl)) ?_ ?_
 . rintro i x σ H2 hx ⟨us,z2,z3,e,hf,hpp,rfl⟩;rw[Ah] at hx;obtain⟨t,ht,rfl⟩:=AK.mp hx;obtain⟨d,hd,hX⟩:=Paired.nth hp ht;have hsz:=a4s (g:=allD (allL bs)) hd;have htk:=kb (g:=allD (allL bs)) hd;have hdF:allD (allL bs) d=d::(innL d).flatMap (allL bs):=rfl;rw[hdF,AY] at hsz;have hul:=Ao hpp;refine⟨_,rfl,(.inl ⟨rfl,_,SqL.of hf⟩),_,rfl,fo,_,_,rfl,rfl,hf,cy (by rw[Ab,hul];omega),?_⟩;have k3:(upd H2 fo (.lst (us.map V.ref++[.ref t]))) fo=some (.lst ((us++[t]).map V.ref)):=by rw[ab,Al];rfl
   have e3:Same H (upd H2 fo (.lst (us.map V.ref++[.ref t]))):=fun b o z=>by rw[ai (aq z hfo)];exact e _ _ z
   have hp3:IE (DeedS K G) (us++[t]) ((ds.take i).flatMap (allD (allL bs))++[d]):=Paired.snocP hpp (DeedX.same hX (Same.refl _) fun _ _ _=>trivial);generalize upd H2 fo (.lst (us.map V.ref++[.ref t]))=H3 at k3 e3 |-;generalize us++[t]=us3 at k3 hp3;dsimp only[bp];refine⟨_,rfl,a6d hX (eG.trans e3) rfl fun ll as hll hin=>?_⟩;have s4:=ad hll (.lst (as.map V.ref));have k4:(upd H3 ll (.lst (as.map V.ref))) ll=some (.lst (as.map V.ref)):=ab;have nll:ll≠fo:=(aq k3 hll).symm;generalize upd H3 ll (.lst (as.map V.ref))=H4 at s4 k4 |-;refine⟨ll,rfl,⟨_,SqL.of k4⟩,?_⟩;refine et (xs:=as.map V.ref) (AJ K bs G H l fo ll as ((ds.take i).flatMap (allD (allL bs))++[d]) (innL d) (.ref t)) ⟨us3,z3,e3.trans s4,k4,s4 _ _ k3,(by simpa using hp3),rfl⟩ (fun j σ H' _ z=>by obtain⟨_,_,_,h,_⟩:=z;exact SqL.of h) ?_ ?_
   . rintro j x σ H5 hx5 ⟨us5,y3,e5,hl5,hf5,hp5,rfl⟩;rw[Ah] at hx5;obtain⟨c,hc,rfl⟩:=AK.mp hx5;obtain⟨a,ha,hLa⟩:=Paired.nth hin hc;have hszj:=a4s (g:=allL bs) ha;have hul5:=Ao hp5;rw[Ae,Ae] at hul5;have h1:[d].length=1:=rfl;refine⟨_,rfl,(.inl ⟨rfl,_,SqL.of hf5⟩),_,rfl,G,c,a,rfl,eG.trans e5,hLa,(by omega),fun fo' us' H6 e6 _ k6 hp6=>?_⟩;have hul6:=Ao hp6;have hf6:=e6 _ _ hf5;refine⟨fo,fo',_,_,rfl,rfl,hf6,k6,bx (by rw[Ab,Ab,hul5,hul6];omega),?_⟩;refine⟨us5++us',_,fun b o z=>by rw[ai (aq z hfo)];exact e6 _ _ (e5 _ _ z),by rw[ai nll];exact e6 _ _ hl5,by rw[ab,Al],?_,rfl⟩;rw[kb (g:=allL bs) ha,<- B5];exact Paired.app hp5 hp6
   . rintro σ H5 ⟨us5,y3,e5,hl5,hf5,hp5,rfl⟩;refine⟨us5,_,_,e5,hf5,?_,rfl⟩;have:(innL d).take (as.map V.ref).length=innL d:=Bf (by rw[Ab,Ao hin];exact Ar _);rw[this] at hp5;rw[htk,hdF,<- Fu,<- B5];exact hp5
 rintro σ H2 ⟨us,z2,z3,e,hf,hpp,rfl⟩;have:ds.take (ts.map V.ref).length=ds:=Bf (by rw[Ab,hpl];exact Ar _);rw[this] at hpp;exact hN1 _ _ ⟨_,rfl,q fo us H2 e hfo hf hpp⟩
abbrev tu:IP:=top 41
abbrev u9:IP:=top 46
def uj(x:Str):Bool := !decide (V.str x=V.str "field")
def jo(h:Str)(r:List Str):List Str:=match forms.lookup h with
 | some fs=>zipF uj fs r
 | none=>[]
def wrdP:Pl->List Str
 | .row (h::r)=>jo h r
 | .row []=>[]
 | .call x _ vs=>x::vs
def wrd:Deed->List Str
 | .plain p=>wrdP p
 | .cond r _ _=>r.drop 1
 | .loop r F P _=>r.drop 1++words (F++P)
structure TOk(xs:List Str)(F P:List (List Str)):Prop where
 f:ShortRows F
 p:ShortRows P
 ne:∀r∈F++P,r≠[]
 sub:∀y∈words (F++P),y∈xs
structure ROk(r:List Str):Prop where
 len:r.length=3
 sh:∀y∈r,Short y
def DOk(xs:List Str):Deed->Prop
 | .plain (.row r)=>∀y∈r,Short y
 | .plain (.call x c vs)=>Short x/\vs.length<=8/\∀y∈vs,Short y
 | .cond r _ _=>ROk r
 | .loop r F P _=>ROk r/\TOk xs F P
theorem TOk.few{xs:List Str}{F P:List (List Str)}(h:TOk xs F P)(hx:xs.length<=20){ss:List Str}(hn:ss.Nodup)(hs:∀y∈ss,y∈words (F++P)):ss.length<=20:=Aw (Bv hn fun y hy=>h.sub y (hs y hy)) hx
theorem t0:∀{rs:List (List Str)}{y:Str},(∀r∈rs,∀x∈r,Short x)->y∈words rs->Short y:=fun {rs y} h hy=>by
 unfold words at hy;obtain⟨l,hl,hy⟩:=EL.mp hy;obtain⟨r,hr,rfl⟩:=AF.mp hl;exact h r hr y (Bq (AV.mp hy).1)
inductive spWords(K:Ac)(vs:List V)(H:Hp)(Q:VK)(E:XK):Prop
 | mk (t:HW)(d:Deed)(xs:List Str)(h0:vs=[.ref t])(h1:DeedS K H t d)(h2:DOk xs d)(h3:xs.length<=20)(q:∀(l:HW) (ws:List Str) (H':Hp),Same H H'->H' l=some (.lst (ws.map V.str))->(∀y,y∈ws↔y∈wrd d)->ws.length<=30->Q (.ref l) H'):spWords K vs H Q E
theorem iz:(forms.map (·.1)).Nodup:=by decide
theorem qm:∀x∈forms,x.2.length<=3:=by decide
theorem im{β:Type}:∀{l:List (Str×β)}{h:Str}{b:β},(l.map (·.1)).Nodup->(h,b)∈l->l.lookup h=some b
 | [],_,_,_,hm=>by cases hm
 | (k,c)::l,h,b,hn,hm=>by
  rw[Be,List.nodup_cons] at hn;by_cases e:h=k
  . subst e;rcases Am.mp hm with z|z
    . cases z;rw[List.lookup_cons_self]
    . exact absurd (AF.mpr ⟨_,z,rfl⟩) hn.1
  . rcases Am.mp hm with z|z
    . cases z;exact absurd rfl e
    . rw[Cu];have:(h==k)=false:=beq_false_of_ne e;rw[this];exact im hn.2 z
theorem za(p:Str->Bool)(as bs:List Str):(zipF p as bs).length<=as.length:=by
 unfold zipF;rw[Ab];have:=Bd (fun x:Str×Str=>p x.1) (as.zip bs);rw[Dr] at this;omega
theorem scWords:FnScope ["deed"] ["deed"] (b7 zc):=⟨rfl,rfl,rfl,by decide,rfl,by decide,by decide⟩
theorem a1c(C:Con K mg w)(F:Fun K "words_of" "words_of" zc f fd)(GN:FnOk P w K mg base CX0 1 gN dN ["telling"] (p8 K))(cN:Cal K mg "names_of" gN dN ["telling"]):FnOk P w K mg base CX0 2 f fd ["deed"] (spWords K):=by
 refine F.okQ scWords (fun vs H Q E h=>?_) (fun cdv A outer s0 H vs Q E hr h=>?_)
 . obtain⟨t,d,xs,rfl,_⟩:=h;rfl
 obtain⟨t,d,xs,rfl,hX,hok,hxs,q⟩:=h;have nd:=scWords.nd;obtain⟨aF,tsF,gF,kF,nF,rF⟩:=C.forms;refine⟨_,ae (bf (ax bo (ag ao (qv 0) ac (fun _ _=>rfl)) bv (ay _)) (aj (az (am ce (bb (ar (ag ao (qv 0) ac (fun _ _=>rfl)) aa)) (cg de rfl C.list AQ (ar (ag ao (qv 0) ac (fun _ _=>rfl)) aa))))) bm)
  (ae (bf (ax bo (ag ao (qv 0) ac (fun _ _=>rfl)) bv (ay _)) (aj (az (cg de rfl C.list AQ (ar (dr mv (ag ao (qv 0) ac (fun _ _=>rfl)) (ek ac) ft) aa)))) bm)
  (ae (bf (ax bo (ag ao (qv 0) ac (fun _ _=>rfl)) bv (ay _)) (aj (az (am ce (cg de rfl C.list AQ (ar (dr mv (ag ao (qv 0) ac (fun _ _=>rfl)) (ek ac) ft) aa)) (ak GN hr rfl cN.name cN.keep cN.bind .nil au (ar (ag ao (qv 0) ac (fun _ _=>rfl)) aa))))) bm)
  (aj (az (xh (K:=K) rfl ["sort","word"] [] (a2c rfl C.zip (ar (a82 (K:=K) (w:=w) rfl rfl (qe_g gF) (ag ao (qv 0) ac (fun _ _=>rfl)) (fun _ _=>rfl)) (ar (dr mv (qv 0) (ek ac) ft) aa))) (fun _ _ _ _=>(ke (ax jq (qv 0) bv (ay _)))) (fun _ _ _ _=>(qv 1))))))),?_⟩
 cases hX with
 | plain p h1 h2 =>
  cases p with
  | call x c vs =>
   obtain⟨v,hv1,hv2⟩:=h1;obtain⟨ox,ol,ov⟩:=hok;refine⟨_,rfl,t,_,0,_,rfl,rfl,SqT.of hv1,rfl,rfl,_,rfl,iteB (fun _=>?_) (fun c=>absurd c (by decide))⟩;refine⟨_,rfl,t,_,1,_,rfl,rfl,SqT.of hv1,rfl,(show 1<=HY by decide),fun l1 hl1=>?_⟩;have s1:=ad hl1 (.lst [.str x]);have k1:(upd H l1 (.lst [.str x])) l1=some (.lst [.str x]):=ab;generalize upd H l1 (.lst [.str x])=H1 at s1 k1 |-;refine⟨_,rfl,t,_,3,_,rfl,rfl,SqT.of (s1 _ _ hv1),rfl,v,_,rfl,.inr (SqT.of (s1 _ _ hv2)),fun l2 hl2=>?_⟩;have s2:=ad hl2 (.lst (vs.map V.str));refine⟨l1,l2,_,_,rfl,rfl,s2 _ _ k1,ab,bx (by rw[Ab];show 1+_<=1000;omega),fun l3 hl3=>?_⟩;have s3:=ad hl3 (.lst ([V.str x]++vs.map V.str));exact q l3 (x::vs) _ ((s1.trans s2).trans s3) ab (fun y=>Hv) (by rw[AY];omega)
  | row r =>
   obtain⟨⟨h,r',fs,rfl,hf,hl⟩,okr⟩:=h2;have h1':H t=some (.tup (.str h::r'.map V.str)):=h1;obtain⟨n1,n2,n3⟩:=jv _ hf;have hf3:fs.length<=3:=qm _ hf;refine⟨_,rfl,t,_,0,_,rfl,rfl,SqT.of h1',at0,rfl,_,rfl,iteB (fun c=>absurd (V.str.inj (of_decide_eq_true c)) n3) (fun _=>?_)⟩;refine⟨_,rfl,t,_,0,_,rfl,rfl,SqT.of h1',at0,rfl,_,rfl,iteB (fun c=>absurd (V.str.inj (of_decide_eq_true c)) n1) (fun _=>?_)⟩;refine⟨_,rfl,t,_,0,_,rfl,rfl,SqT.of h1',at0,rfl,_,rfl,iteB (fun c=>absurd (V.str.inj (of_decide_eq_true c)) n2) (fun _=>?_)⟩;obtain⟨tf,htf,hsq⟩:∃tf,(tsF.map fun x=>(x.1,V.ref x.2)).lookup h=some (.ref tf)/\∀H',SqT K H' tf (fs.map V.str):=by
    have hm:h∈tsF.map (·.1):=by rw[nF];exact AF.mpr ⟨_,hf,rfl⟩
    obtain⟨⟨h',tf⟩,hin,rfl⟩:=AF.mp hm;refine⟨tf,im ?_ (AF.mpr ⟨_,hin,rfl⟩),rF _ _ _ hin hf⟩;rw[Cw];show (tsF.map (·.1)).Nodup;rw[nF];exact iz
   refine⟨_,rfl,t,_,0,_,rfl,rfl,SqT.of h1',at0,aF,_,h,_,rfl,rfl,kF,htf,?_⟩;refine⟨_,rfl,_,rfl,t,_,rfl,SqT.of h1',fun p1 H1 e1 k1=>?_⟩;have hc:cutV (V.str h::r'.map V.str) (some 1) none=r'.map V.str:=by
    have:=iu (r:=h::r') (k:=1);simpa using this
   rw[show cutV (V.str h::r'.map V.str) (some (1:Int)) none=r'.map V.str from hc] at k1;refine⟨tf,p1,_,_,rfl,hsq _,k1,?_⟩;refine a5i fs r' uj (hsq _) k1 hl (by omega) (fun a b H2 Q' q'=>⟨_,rfl,rfl,_,rfl,q'⟩) (fun a b H2 Q' q'=>⟨_,rfl,q'⟩) (fun D H' hD e' hD'=>?_);refine q D _ H' (e1.trans e') hD' (fun y=>?_) (Aw (za _ _ _) (by omega));show _↔y∈jo h r';unfold jo;rw[im iz hf]
 | cond c i o r a b h hc okr hi ho =>
  refine⟨_,rfl,t,_,0,_,rfl,rfl,SqT.of h,rfl,rfl,_,rfl,iteB (fun c=>absurd c (by decide)) (fun _=>?_)⟩;refine⟨_,rfl,t,_,0,_,rfl,rfl,SqT.of h,rfl,rfl,_,rfl,iteB (fun _=>?_) (fun c=>absurd c (by decide))⟩;have hlen:r.length=3:=ROk.len hok;refine⟨_,rfl,t,_,1,_,rfl,rfl,SqT.of h,rfl,_,rfl,c,_,rfl,SqT.of hc,fun p1 H1 e1 k1=>?_⟩;rw[show cutV (r.map V.str) (some (1:Int)) none=(r.drop 1).map V.str from iu (r:=r) (k:=1)] at k1;refine⟨p1,_,rfl,.inr k1,fun l hl=>?_⟩;exact q l (r.drop 1) _ (e1.trans (ad hl _)) ab (fun y=>Hv) (by rw[Bi];omega)
 | loop c td i fa pa r F' P' a h hc okr htd hF hP okF okP lF lP hi =>
  obtain⟨hr',hT⟩:=hok;have hlen:r.length=3:=ROk.len hr';refine⟨_,rfl,t,_,0,_,rfl,rfl,SqT.of h,rfl,rfl,_,rfl,iteB (fun c=>absurd c (by decide)) (fun _=>?_)⟩;refine⟨_,rfl,t,_,0,_,rfl,rfl,SqT.of h,rfl,rfl,_,rfl,iteB (fun c=>absurd c (by decide)) (fun _=>?_)⟩;refine⟨_,rfl,t,_,0,_,rfl,rfl,SqT.of h,rfl,rfl,_,rfl,iteB (fun _=>?_) (fun c=>absurd c (by decide))⟩;refine⟨_,rfl,t,_,1,_,rfl,rfl,SqT.of h,rfl,_,rfl,c,_,rfl,SqT.of hc,fun p1 H1 e1 k1=>?_⟩;rw[show cutV (r.map V.str) (some (1:Int)) none=(r.drop 1).map V.str from iu (r:=r) (k:=1)] at k1;refine⟨p1,_,rfl,.inr k1,fun l hl=>?_⟩;have s2:=ad hl (.lst ((r.drop 1).map V.str));have k2:(upd H1 l (.lst ((r.drop 1).map V.str))) l=some (.lst ((r.drop 1).map V.str)):=ab;generalize upd H1 l (.lst ((r.drop 1).map V.str))=H2 at s2 k2 |-;have e2:=e1.trans s2;refine⟨_,rfl,t,_,2,_,rfl,rfl,SqT.of (e2 _ _ h),rfl,td,F',P',rfl,⟨[fa,pa],SqT.of (e2 _ _ htd),.cons (hF.same e2) (.cons (hP.same e2) .nil)⟩,hT.f,hT.p,hT.ne,fun ss hn hs=>AO (hT.few hxs hn hs) (by decide),fun p zs H3 hp e3 k3 hzn hzm hzs=>?_⟩;have hzl:=hT.few hxs hzn fun y hy=>(hzm y).mp hy;refine⟨l,p,_,_,rfl,rfl,e3 _ _ k2,k3,bx (by rw[Ab,Ab,Bi];omega),fun l4 hl4=>?_⟩;have s4:=ad hl4 (.lst ((r.drop 1).map V.str++zs.map V.str));refine q l4 (r.drop 1++zs) _ ((e2.trans e3).trans s4) (by rw[ab,Al]) (fun y=>?_) (by rw[Ae,Bi];omega);show _↔y∈r.drop 1++words (F'++P');rw[Aq,Aq,hzm y]
def allW(bs:List Nat)(p:Prc):List Str:=p.ps++[p.res]++words (p.F1++p.P1)++words (p.F2++p.P2)++(allL bs p.body).flatMap wrd
structure PrcOk(bs:List Nat)(xs:List Str)(p:Prc):Prop where
 ps:p.ps.length<=8/\∀y∈p.ps,Short y
 res:Short p.res
 t1:TOk xs p.F1 p.P1
 t2:TOk xs p.F2 p.P2
 ds:∀d∈allL bs p.body,DOk xs d
 few:(allL bs p.body).length<=30
 len:xs.length<=20
 names:∀y∈allW bs p,b8 y=true->y∈xs
theorem a67{h:Str}{r:List Str}{y:Str}(hy:y∈jo h r):y∈r:=by
 unfold jo at hy;cases e:forms.lookup h with
 | none=>rw[e] at hy;cases hy
 | some fs =>
  rw[e] at hy;obtain⟨⟨a,b⟩,h1,rfl⟩:=AF.mp hy;exact (DS (AV.mp h1).1).2
theorem DOk.short{xs:List Str}{d:Deed}(h:DOk xs d){y:Str}(hy:y∈wrd d):Short y:=by
 cases d with
 | plain p =>
  cases p with
  | row r =>
   cases r with
   | nil=>cases hy
   | cons h' r=>exact h y (Bl _ (a67 hy))
  | call x c vs =>
   obtain⟨h1,_,h3⟩:=h;rcases Am.mp hy with rfl|z
   . exact h1
   . exact h3 y z
 | cond r a b=>exact ROk.sh h y (Bq hy)
 | loop r F P a =>
  obtain⟨h1,h2⟩:=h;rcases Aq.mp hy with z|z
  . exact h1.sh y (Bq z)
  . refine t0 (fun r hr=>?_) z;rcases Aq.mp hr with z|z
    . exact (h2.f.2 r z).2
    . exact (h2.p.2 r z).2
theorem TOk.short{xs:List Str}{F P:List (List Str)}(h2:TOk xs F P){y:Str}(hy:y∈words (F++P)):Short y:=by
 refine t0 (fun r hr=>?_) hy;rcases Aq.mp hr with z|z
 . exact (h2.f.2 r z).2
 . exact (h2.p.2 r z).2
theorem a3g{bs:List Nat}{xs:List Str}{p:Prc}(h:PrcOk bs xs p){y:Str}(hy:y∈allW bs p):Short y:=by
 unfold allW at hy;simp only[Aq,Ax] at hy;rcases hy with (((z|z)|z)|z)|z
 . exact h.ps.2 y z
 . rw[z];exact h.res
 . exact h.t1.short z
 . exact h.t2.short z
 . obtain⟨d,hd,hy⟩:=Br.mp z;exact (h.ds d hd).short hy
inductive spNamesIn(K:Ac)(bs:List Nat)(vs:List V)(H:Hp)(Q:VK)(E:XK):Prop
 | mk (G:Hp)(t:HW)(p:Prc)(xs:List Str)(h0:vs=[.ref t])(e:Same G H)(h1:PrcAt K G bs t p)(h2:PrcOk bs xs p)(q:∀(l:HW) (zs:List Str) (H':Hp),Same H H'->H l=none->H' l=some (.lst (zs.map V.str))->zs.Nodup->Eb zs=true->(∀y,y∈zs↔b8 y=true/\y∈allW bs p)->Q (.ref l) H'):spNamesIn K bs vs H Q E
inductive NI(H:Hp)(t lo fo:HW)(us:List HW)(ds:List Deed)(pre:List Str)(i:Nat)(σ:St)(H2:Hp):Prop
 | mk (ws:List Str)(z2:Option V)(e:Same H H2)(hl:H2 lo=some (.lst (us.map V.ref)))(hf:H2 fo=some (.lst (ws.map V.str)))(hm:∀y,y∈ws↔y∈pre++(ds.take i).flatMap wrd)(hw:ws.length<=60+30*i)(hσ:σ=[some (.ref t),some (.ref fo),z2])
theorem scNamesIn:FnScope ["procedure","words","deed"] ["procedure"] (b7 tu):=⟨rfl,rfl,rfl,by decide,rfl,by decide,by decide⟩
theorem a3m{n:Nat}{bs:List Nat}(hn1:1<=n)(C:Con K mg w)(F:Fun K "names_in" "names_in" tu f fd)(GN:FnOk P w K mg base CX0 1 gN dN ["telling"] (p8 K))(cN:Cal K mg "names_of" gN dN ["telling"])(GA:FnOk P w K mg base CX0 (n+1) gA dA ["deeds"] (spAll K bs))(cA:Cal K mg "all_deeds" gA dA ["deeds"])(GW:FnOk P w K mg base CX0 2 gW dW ["deed"] (spWords K))(cW:Cal K mg "words_of" gW dW ["deed"])(GI:FnOk P w K mg base CX0 1 gI dI ["text"] (spB1 b8))(cI:Cal K mg "is_name" gI dI ["text"]):FnOk P w K mg base CX0 (n+1+1) f fd ["procedure"] (spNamesIn K bs):=by
 refine F.okQ scNamesIn (fun vs H Q E h=>?_) (fun cdv A outer s0 H vs Q E hr h=>?_)
 . obtain⟨G,t,p,xs,rfl,_⟩:=h;rfl
 obtain⟨G,t,p,xs,rfl,eG,⟨pt,t1,t2,f1,p1,f2,p2,bd,x⟩,ok,q⟩:=h;have nd:=scNamesIn.nd;have hr1:=hr.mono (j:=1) (by omega);have hr2:=hr.mono (j:=2) (by omega);refine⟨_,ae (av (i:=1) nd rfl (Or.inl rfl) (am ce (am ce (am ce (cg de rfl C.list AQ (ar (ag ao (qv 0) ac (fun _ _=>rfl)) aa)) (bb (ar (ag ao (qv 0) ac (fun _ _=>rfl)) aa))) (ak GN hr1 rfl cN.name cN.keep cN.bind .nil au (ar (ag ao (qv 0) ac (fun _ _=>rfl)) aa))) (ak GN hr1 rfl cN.name cN.keep cN.bind .nil au (ar (ag ao (qv 0) ac (fun _ _=>rfl)) aa))))
  (ae (dq AS rfl (bz (ak GA hr rfl cA.name cA.keep cA.bind .nil au (ar (ag ao (qv 0) ac (fun _ _=>rfl)) aa))) (bj (i:=2) nd rfl (Or.inl rfl)) (aj (bu (cq (K:=K) rfl As Cq Cr lm (qv 1) (be (ak GW hr2 rfl cW.name cW.keep cW.bind .nil au (af (qv 2) aa)) aa)))))
  (aj (az (aw (kn rfl) rfl C.sorted Dv (be (cg (ua rfl) rfl C.set Dc (dh (ik (bz (qv 1)) (fun _ _ _ _=>(ke (fm (ak GI hr1 rfl cI.name cI.keep cI.bind .nil au (af (qv 0) aa))))) (fun _ _ _ _=>(qv 0))) aa)) aa))))),?_⟩
 have tp:=eG _ _ x.tup;refine⟨_,rfl,t,_,1,_,rfl,rfl,SqT.of tp,rfl,pt,_,rfl,.inr (SqT.of (eG _ _ x.pt)),fun l1 hl1=>?_⟩;have s1:=ad hl1 (.lst (p.ps.map V.str));have k1:(upd H l1 (.lst (p.ps.map V.str))) l1=some (.lst (p.ps.map V.str)):=ab;generalize upd H l1 (.lst (p.ps.map V.str))=H1 at s1 k1 |-;refine⟨_,rfl,t,_,2,_,rfl,rfl,SqT.of (s1 _ _ tp),rfl,(show 1<=HY by decide),fun l2 hl2=>?_⟩;have s2':=ad hl2 (.lst [.str p.res]);have k2:(upd H1 l2 (.lst [.str p.res])) l2=some (.lst [.str p.res]):=ab;generalize upd H1 l2 (.lst [.str p.res])=H2 at s2' k2 |-;have s2:=s1.trans s2';have hps:=ok.ps.1;refine⟨l1,l2,_,_,rfl,rfl,s2' _ _ k1,k2,bx (by rw[Ab];show _+1<=1000;omega),fun l3 hl3=>?_⟩;have s3':=ad hl3 (.lst (p.ps.map V.str++[.str p.res]));have k3:(upd H2 l3 (.lst (p.ps.map V.str++[.str p.res]))) l3=some (.lst ((p.ps++[p.res]).map V.str)):=by rw[ab,Al];rfl
 generalize upd H2 l3 (.lst (p.ps.map V.str++[.str p.res]))=H3 at s3' k3 |-;have s3:=s2.trans s3';have g3:=eG.trans s3;refine⟨_,rfl,t,_,3,_,rfl,rfl,SqT.of (s3 _ _ tp),rfl,t1,p.F1,p.P1,rfl,⟨[f1,p1],SqT.of (g3 _ _ x.t1),.cons (x.f1.same g3) (.cons (x.p1.same g3) .nil)⟩,ok.t1.f,ok.t1.p,ok.t1.ne,fun ss hn hs=>AO (ok.t1.few ok.len hn hs) (by decide),fun q4 z4 H4 hq4 e4' k4 hzn hzm _=>?_⟩;have hz4:=ok.t1.few ok.len hzn fun y hy=>(hzm y).mp hy;have e4:=s3.trans e4';refine⟨l3,q4,_,_,rfl,rfl,e4' _ _ k3,k4,bx (by rw[Ab,Ab,Ae];show _+1+_<=1000;omega),fun l5 hl5=>?_⟩;have s5':=ad hl5 (.lst ((p.ps++[p.res]).map V.str++z4.map V.str));have k5:(upd H4 l5 (.lst ((p.ps++[p.res]).map V.str++z4.map V.str))) l5=some (.lst ((p.ps++[p.res]++z4).map V.str)):=by rw[ab,Al (l₁:=p.ps++[p.res])]
 generalize upd H4 l5 (.lst ((p.ps++[p.res]).map V.str++z4.map V.str))=H5 at s5' k5 |-;have s5:=e4.trans s5';have g5:=eG.trans s5;refine⟨_,rfl,t,_,4,_,rfl,rfl,SqT.of (s5 _ _ tp),rfl,t2,p.F2,p.P2,rfl,⟨[f2,p2],SqT.of (g5 _ _ x.t2),.cons (x.f2.same g5) (.cons (x.p2.same g5) .nil)⟩,ok.t2.f,ok.t2.p,ok.t2.ne,fun ss hn hs=>AO (ok.t2.few ok.len hn hs) (by decide),fun q6 z6 H6 hq6 e6' k6 hyn hym _=>?_⟩;have hz6:=ok.t2.few ok.len hyn fun y hy=>(hym y).mp hy;have e6:=s5.trans e6';refine⟨l5,q6,_,_,rfl,rfl,e6' _ _ k5,k6,bx (by rw[Ab,Ab,Ae,Ae];show _+1+_+_<=1000;omega),fun fo hfo=>?_⟩;have s7':=ad hfo (.lst ((p.ps++[p.res]++z4).map V.str++z6.map V.str));have k7:(upd H6 fo (.lst ((p.ps++[p.res]++z4).map V.str++z6.map V.str))) fo=some (.lst ((p.ps++[p.res]++z4++z6).map V.str)):=by rw[ab,Al (l₁:=p.ps++[p.res]++z4)]
 have fo0:H fo=none:=e6.free hfo;generalize upd H6 fo (.lst ((p.ps++[p.res]++z4).map V.str++z6.map V.str))=H7 at s7' k7 |-;have s7:=e6.trans s7';have hpre:∀y,y∈p.ps++[p.res]++z4++z6↔y∈p.ps++[p.res]++words (p.F1++p.P1)++words (p.F2++p.P2):=fun y=>by
  simp only[Aq,hzm y,hym y]
 have hprl:(p.ps++[p.res]++z4++z6).length<=60:=by
  rw[Ae,Ae,Ae];show _+1+_+_<=60;omega
 generalize p.ps++[p.res]++z4++z6=w0 at k7 hpre hprl;clear hzm hym hzn hyn hz4 hz6 k6 k5 k4 k3 k2 k1 s7' s5' s3' s2' s2 s3 s5 e4 e6 g3 g5 e4' e6' hl1 hl2 hl3 hl5 hq4 hq6 s1;dsimp only[bp];refine b9 (a:=tFor _ _ _) fun D1 hN1 hR1 hC1=>?_;refine⟨_,rfl,t,_,5,_,rfl,rfl,SqT.of (s7 _ _ tp),rfl,G,bd,p.body,rfl,eG.trans s7,x.body,Aw ok.few (by decide),fun lo us H8 e8 hlo k8 hus=>?_⟩;have hlf:lo≠fo:=(aq k7 hlo).symm;have hul:=Ao hus;have hfew:=ok.few;refine⟨lo,rfl,⟨_,SqL.of k8⟩,?_⟩;refine et (xs:=us.map V.ref) (NI H t lo fo us (allL bs p.body) (p.ps++[p.res]++words (p.F1++p.P1)++words (p.F2++p.P2))) ⟨w0,none,s7.trans e8,k8,e8 _ _ k7,fun y=>by rw[hpre y];simp,by omega,rfl⟩ (fun i σ H' _ z=>by obtain⟨_,_,_,h,_⟩:=z;exact SqL.of h) ?_ ?_
 . rintro i y σ H9 hy ⟨ws,z2,e9,hl9,hf9,hm9,hw9,rfl⟩;rw[Ah] at hy;obtain⟨u,hu,rfl⟩:=AK.mp hy;obtain⟨d,hd,hX⟩:=Paired.nth hus hu;have hi30:i<30:=by have:=(Av.mp hd).1;omega
   refine⟨_,rfl,(.inl ⟨rfl,_,SqL.of hf9⟩),_,rfl,u,d,xs,rfl,DeedS.same hX (eG.trans e9),ok.ds d (Ak hd),ok.len,fun lw vs Ha ea ka hva hla=>?_⟩;have hfa:=ea _ _ hf9;refine⟨fo,lw,_,_,rfl,rfl,hfa,ka,bx (by rw[Ab,Ab];omega),?_⟩;refine⟨ws++vs,_,fun b o z=>by rw[ai (aq z fo0)];exact ea _ _ (e9 _ _ z),by rw[ai hlf];exact ea _ _ hl9,by rw[ab,Al],fun y=>?_,by rw[Ae];omega,rfl⟩;rw[kb (g:=wrd) hd,Aq,<- B5,Aq,hm9 y,hva y]
 rintro σ H9 ⟨ws,z2,e9,hl9,hf9,hm9,hw9,rfl⟩;rw[Ab,hul,B3] at hm9;rw[Ab,hul] at hw9;have hall:∀y,y∈ws↔y∈allW bs p:=hm9;refine hN1 _ _ ?_;clear hN1 hR1 hC1;refine⟨_,rfl,fo,rfl,⟨_,SqL.of hf9⟩,?_⟩;refine mf ws b8 cs (SqL.of hf9) (by omega) (fun y hy H2 e2 Q' q'=>⟨_,rfl,y,rfl,a3g ok ((hall y).mp hy),fun H3 e3=>⟨_,rfl,q' H3 e3⟩⟩) (fun y H2 Q' q'=>⟨_,rfl,q'⟩) (fun D Ha hD ea kD=>?_);have hfl:=Bd b8 ws;have hwl:ws.length<=1000:=by omega
 refine⟨D,_,rfl,SqL.of kD,?_,fun ps ss hps' hdd=>?_⟩
 . exact AO (G1 (Aw hfl hwl)) (by decide)
 have ssub:∀y∈ss,y∈xs:=fun y hy=>by
  obtain⟨h1,h2⟩:=AV.mp ((hdd.mem y).mp hy);exact ok.names y ((hall y).mp h1) h2
 have hsl:ss.length<=20:=Aw (Bv hdd.nodup ssub) ok.len;refine⟨ps,ss,rfl,ab,(by omega),fun l zs hl hperm hs=>?_⟩;have hl0:=(ad hps' _).free hl;refine q l zs _ (((e9.trans ea).trans (ad hps' _)).trans (ad hl _)) ((e9.trans ea).free hl0) ab (hperm.nodup_iff.mpr hdd.nodup) hs fun y=>?_;rw[hperm.mem_iff,hdd.mem y,AV,hall y];exact And.comm
abbrev sMay:IP:=top 30
abbrev a2o:IP:=top 31
abbrev vv:IP:=top 33
abbrev wc:IP:=top 34
abbrev ue:IP:=top 32
def uq(s y:Str):Prop:=(s="field" /\ (y="first" \/ y="second"))\/(s="name" /\ b8 y=true)\/(s="value" /\ bh y=true)
theorem jh{α:Type}:∀(rs:List α),(rs.map fun _=>true).all id=true
 | []=>rfl
 | _::rs=>jh rs
inductive spMay(vs:List V)(H:Hp)(Q:VK)(E:XK):Prop
 | mk (s y:Str)(h0:vs=[.str s,.str y])(hy:Short y)(h:uq s y)(q:∀H',Same H H'->Q (.bl true) H'):spMay vs H Q E
theorem scMay:FnScope ["sort","word"] ["sort","word"] (b7 sMay):=⟨rfl,rfl,rfl,by decide,rfl,by decide,by decide⟩
theorem aa7(C:Con K mg w)(F:Fun K "may_stand" "may_stand" sMay f fd)(GN:FnOk P w K mg base CX0 1 gN dN ["text"] (spB1 b8))(cN:Cal K mg "is_name" gN dN ["text"])(GV:FnOk P w K mg base CX0 2 gV dV ["text"] (spB1 bh))(cV:Cal K mg "is_value" gV dV ["text"]):FnOk P w K mg base CX0 3 f fd ["sort","word"] spMay:=by
 refine F.okQ scMay (fun vs H Q E h=>?_) (fun cdv A outer s0 H vs Q E hr h=>?_)
 . obtain⟨s,y,rfl,_⟩:=h;rfl
 obtain⟨s,y,rfl,hy,hg,q⟩:=h;have nd:=scMay.nd;have hr1:=hr.mono (j:=1) (by omega);obtain⟨aD,gD,tD,_⟩:=C.fields;refine⟨_,ae (bf (fh (fm (aw nh rfl C.isi Ba (af (qv 1) (af ⟨gty C.str De⟩ aa))))) (aj (az ge)) bm)
  (ae (bf (ax bo (qv 0) bv (ay _)) (aj (az (gr gw (qv 1) (qe_g gD) (by with_unfolding_all rfl)))) bm)
  (aj (az (qg (ax bo (qv 0) bv (ay _)) (ak GN hr1 rfl cN.name cN.keep cN.bind .nil au (af (qv 1) aa)) (ak GV hr rfl cV.name cV.keep cV.bind .nil au (af (qv 1) aa)))))),?_⟩
 refine⟨_,rfl,y,rfl,_,rfl,?_⟩;refine (if_neg (by simp)).mpr ?_;refine⟨_,rfl,rfl,_,rfl,iteB (fun c=>?_) (fun c=>?_)⟩
 . have e:=V.str.inj (of_decide_eq_true c);rcases hg with⟨_,h⟩|⟨h,_⟩|⟨h,_⟩
   . refine⟨_,rfl,aD,_,rfl,.inr (tD _),rfl,ee _,?_⟩;have e2:inV (.str y) (([("first":Str),"second"]:List Str).map V.str)=true:=by rw[dm];exact decide_eq_true (by simp[h])
     show Q (.bl (inV (.str y) (([("first":Str),"second"]:List Str).map V.str))) H;rw[e2];exact q H (Same.refl _)
   . rw[e] at h;exact absurd h (by decide)
   . rw[e] at h;exact absurd h (by decide)
 . have e:=of_decide_eq_false c;refine⟨_,rfl,rfl,_,rfl,iteB (fun c2=>?_) (fun c2=>?_)⟩
   . have e2:=V.str.inj (of_decide_eq_true c2);rcases hg with⟨h,_⟩|⟨_,h⟩|⟨h,_⟩
     . exact absurd (by rw[h]) e
     . exact⟨_,rfl,y,rfl,hy,fun H' e'=>by rw[h];exact q H' e'⟩
     . rw[e2] at h;exact absurd h (by decide)
   . have e2:=of_decide_eq_false c2;rcases hg with⟨h,_⟩|⟨h,_⟩|⟨_,h⟩
     . exact absurd (by rw[h]) e
     . exact absurd (by rw[h]) e2
     . exact⟨_,rfl,y,rfl,hy,fun H' e'=>by rw[h];exact q H' e'⟩
inductive spSort(K:Ac)(vs:List V)(H:Hp)(Q:VK)(E:XK):Prop
 | mk (s:Str)(t:HW)(ys:List Str)(h0:vs=[.str s,.ref t])(h1:SqT K H t (ys.map V.str))(hl:ys.length<=100)(hy:∀y∈ys,Short y)(h:∀y∈ys,uq s y)(q:∀H',Same H H'->Q (.bl true) H'):spSort K vs H Q E
theorem scSort:FnScope ["sort","words"] ["sort","words"] (b7 a2o):=⟨rfl,rfl,rfl,by decide,rfl,by decide,by decide⟩
theorem a8x(C:Con K mg w)(F:Fun K "are_of_sort" "are_of_sort" a2o f fd)(GM:FnOk P w K mg base CX0 3 gM dM ["sort","word"] spMay)(cM:Cal K mg "may_stand" gM dM ["sort","word"]):FnOk P w K mg base CX0 4 f fd ["sort","words"] (spSort K):=by
 refine F.okQ scSort (fun vs H Q E h=>?_) (fun cdv A outer s0 H vs Q E hr h=>?_)
 . obtain⟨s,t,ys,rfl,_⟩:=h;rfl
 obtain⟨s,t,ys,rfl,h1,hl,hy,hg,q⟩:=h;have nd:=scSort.nd;refine⟨_,(aj (az (jm (aw ib rfl C.isi Ba (af (qv 1) (af ⟨gty C.tuple Bx⟩ aa))) (kr (aw (du rfl) rfl C.all AZ (dh (ij ["word","sort"] [0] (a4o (qv 1)) (fun _ _ _ _=>db) (fun _ _ _ _=>(ak GM hr rfl cM.name cM.keep cM.bind .nil au (af (qv 1) (af (qv 0) aa))))) aa)))))),?_⟩;refine⟨_,rfl,t,_,rfl,h1,_,rfl,(if_pos rfl).mpr ?_⟩;refine⟨_,rfl,t,rfl,⟨_,h1⟩,?_⟩;refine gq (ys.map V.str) ys (fun _=>true) jb h1 (by rw[Ab];omega) (by rw[Ab]) (fun i x r hx hr' H2 e2 Q' q'=>?_) (fun D H2 hD e2 hd=>?_)
 . rw[Ah,hr'] at hx;cases hx;exact⟨_,rfl,_,rfl,s,r,rfl,hy r (Ak hr'),hg r (Ak hr'),q'⟩
 . exact⟨D,_,rfl,SqL.of hd,by rw[jh];exact q H2 e2⟩
inductive spIsCall(K:Ac)(vs:List V)(H:Hp)(Q:VK)(E:XK):Prop
 | mk (t v:HW)(x c:Str)(ys:List Str)(h0:vs=[.ref t])(h1:H t=some (.tup [.str "call",.str x,.str c,.ref v]))(h2:H v=some (.tup (ys.map V.str)))(hx:Short x)(hx':x="" \/ b8 x=true)(hc:Short c)(hc':b8 c=true)(hl:ys.length<=100)(hy:∀y∈ys,Short y)(h:∀y∈ys,bh y=true)(q:∀H',Same H H'->Q (.bl true) H'):spIsCall K vs H Q E
theorem scIsCall:FnScope ["deed"] ["deed"] (b7 vv):=⟨rfl,rfl,rfl,by decide,rfl,by decide,by decide⟩
theorem a5e(C:Con K mg w)(F:Fun K "is_call" "is_call" vv f fd)(GM:FnOk P w K mg base CX0 3 gM dM ["sort","word"] spMay)(cM:Cal K mg "may_stand" gM dM ["sort","word"])(GS:FnOk P w K mg base CX0 4 gS dS ["sort","words"] (spSort K))(cS:Cal K mg "are_of_sort" gS dS ["sort","words"]):FnOk P w K mg base CX0 5 f fd ["deed"] (spIsCall K):=by
 refine F.okQ scIsCall (fun vs H Q E h=>?_) (fun cdv A outer s0 H vs Q E hr h=>?_)
 . obtain⟨t,v,x,c,ys,rfl,_⟩:=h;rfl
 obtain⟨t,v,x,c,ys,rfl,h1,h2,hx,hx',hc,hc',hl,hy,hg,q⟩:=h;have nd:=scIsCall.nd;have hr3:=hr.mono (j:=3) (by omega);refine⟨_,ae (bf (QW.qt (ia (ax jq (ag ao (qv 0) ac (fun _ _=>rfl)) bv (ay _)) (ie (fh (fm (ak GM hr3 rfl cM.name cM.keep cM.bind .nil au (ba (ar (ag ao (qv 0) ac (fun _ _=>rfl)) aa)))))))) (aj (az ge)) bm)
  (aj (az (jm (ak GM hr3 rfl cM.name cM.keep cM.bind .nil au (ba (ar (ag ao (qv 0) ac (fun _ _=>rfl)) aa))) (kr (ak GS hr rfl cS.name cS.keep cS.bind .nil au (ba (ar (ag ao (qv 0) ac (fun _ _=>rfl)) aa))))))),?_⟩
 refine b9 (a:=tIfS _ _ _) fun D1 hN1 _ _=>?_;have rest:∀H1,Same H H1->D1.nx [some (.ref t)] H1:=fun H1 e1=>by
  refine hN1 _ _ ?_;refine⟨_,rfl,t,_,2,_,rfl,rfl,SqT.of (e1 _ _ h1),rfl,_,_,rfl,hc,.inr (.inl ⟨rfl,hc'⟩),fun H2 e2=>⟨_,rfl,(if_pos rfl).mpr ?_⟩⟩;exact⟨_,rfl,t,_,3,_,rfl,rfl,SqT.of ((e1.trans e2) _ _ h1),rfl,_,v,ys,rfl,SqT.of ((e1.trans e2) _ _ h2),hl,hy,fun y z=>.inr (.inr ⟨rfl,hg y z⟩),fun H3 e3=>q H3 ((e1.trans e2).trans e3)⟩
 refine⟨_,rfl,t,_,1,_,rfl,rfl,SqT.of h1,rfl,rfl,_,rfl,iteB (fun c=>?_) (fun c=>?_)⟩
 . have nx:x≠"" := fun z=>by rw[z] at c;exact absurd c (by decide)
   have hn:b8 x=true:=hx'.resolve_left nx;refine⟨_,rfl,t,_,1,_,rfl,rfl,SqT.of h1,rfl,_,_,rfl,hx,.inr (.inl ⟨rfl,hn⟩),fun H1 e1=>⟨_,rfl,?_⟩⟩;exact (if_neg (by simp)).mpr (rest H1 e1)
 . exact (if_neg (by simp)).mpr (rest H (Same.refl _))
inductive spIsCond(K:Ac)(vs:List V)(H:Hp)(Q:VK)(E:XK):Prop
 | mk (t:HW)(r:List Str)(h0:vs=[.ref t])(h1:H t=some (.tup (r.map V.str)))(hs:ql r)(hl:r.length<=5)(h:fj r=true)(q:∀H',Same H H'->Q (.bl true) H'):spIsCond K vs H Q E
theorem scIsCond:FnScope ["condition"] ["condition"] (b7 wc):=⟨rfl,rfl,rfl,by decide,rfl,by decide,by decide⟩
theorem a4e(C:Con K mg w)(F:Fun K "is_condition" "is_condition" wc f fd)(GR:FnOk P w K mg base CX0 1 gR dR ["rows"] (a0a K))(cR:Cal K mg "are_rows" gR dR ["rows"])(GF:FnOk P w K mg base CX0 3 gF dF ["row"] (v6 K fj))(cF:Cal K mg "is_fact" gF dF ["row"]):FnOk P w K mg base CX0 4 f fd ["condition"] (spIsCond K):=by
 refine F.okQ scIsCond (fun vs H Q E h=>?_) (fun cdv A outer s0 H vs Q E hr h=>?_)
 . obtain⟨t,r,rfl,_⟩:=h;rfl
 obtain⟨t,r,rfl,h1,hs,hl,hg,q⟩:=h;have nd:=scIsCond.nd;have hr1:=hr.mono (j:=1) (by omega);refine⟨_,(aj (az (jm (ak GR hr1 rfl cR.name cR.keep cR.bind .nil au (a3a (af (qv 0) aa) aa)) (kr (ak GF hr rfl cF.name cF.keep cF.bind .nil au (af (qv 0) aa)))))),?_⟩;refine⟨_,rfl,(show 1<=HY by decide),fun l hl'=>?_⟩;have s1:=ad hl' (.lst [.ref t]);have k1:(upd H l (.lst [.ref t])) l=some (.lst [.ref t]):=ab;generalize upd H l (.lst [.ref t])=H1 at s1 k1 |-;refine⟨l,[r],rfl,⟨[t],k1,.cons (SqT.of (s1 _ _ h1)) .nil⟩,⟨by show 1<=200;decide,fun r' hr'=>by rw[Ax.mp hr'];exact⟨hl,hs.2⟩⟩,fun H2 e2=>?_⟩;refine⟨_,rfl,(if_pos rfl).mpr ?_⟩;exact⟨_,rfl,t,r,rfl,SqT.of (e2 _ _ (s1 _ _ h1)),hs,fun H3 e3=>by rw[hg];exact q H3 ((s1.trans e2).trans e3)⟩
theorem a5r{K:Ac}{l1 l2:HW}{H1:Hp}{σ:St}{ix:List Nat}{te:TE}{Q:VK}(as bs:List Str)(h1:SqT K H1 l1 (as.map V.str))(h2:SqT K H1 l2 (bs.map V.str))(hl:as.length=bs.length)(hz:as.length<=1000)(he:∀(i:Nat) (a b:Str),as[i]?=some a->bs[i]?=some b->∀H2,Same H1 H2->∀Q':VK,(∀H3,Same H2 H3->Q' (.bl true) H3)->te (some (.str a)::some (.str b)::cr σ ix) H2 Q')(hQ:∀D H',H1 D=none->Same H1 H'->H' D=some (.lst ((as.map fun _=>true).map V.bl))->Q (.ref D) H'):wz K (Ity K l1 l2) H1 σ ix tYes te Q:=by
 intro D hD;have put:∀H ys,Same H1 H->Same H1 (upd H D (.lst ys)):=fun H ys e b u q=>by rw[ai (aq q hD)];exact e b u q
 refine⟨fun i m H=>i<=as.length/\m=as.length-i/\Same H1 H/\H D=some (.lst (((as.take i).map fun _=>true).map V.bl)),⟨as.length,AG _,rfl,put _ _ (Same.refl _),ab⟩,?_⟩;rintro i m H ⟨hi,rfl,e,hD'⟩;by_cases hlt:i<as.length
 . have ha:as[i]?=some as[i]:=Ag hlt;have hb:bs[i]?=some (bs[i]'(by omega)):=Ag (by omega);generalize as[i]=a at ha;generalize bs[i]'(by omega)=b at hb;refine .inr ⟨⟨_,_,.str a,.str b,e.seqT h1,e.seqT h2,by rw[Ah,ha];rfl,by rw[Ah,hb];rfl⟩,fun x H' hy=>?_⟩;obtain⟨x',y',p',g1,g2,g3,rfl,rfl⟩:=hy;have g1':=g1 _ (e.seqT h1);have g2':=g2 _ (e.seqT h2);rw[Ah,ha] at g1';rw[Ah,hb] at g2';cases g1';cases g2';have s1:=ad g3 (.tup [V.str a,V.str b]);refine⟨p',_,_,rfl,SqT.of ab,?_⟩;dsimp only[tYes];rw[if_pos rfl];refine he i a b ha hb _ (e.trans s1) _ fun H3 e3=>?_;refine⟨_,e3 _ _ (s1 _ _ hD'),AO ?_ (show 1000<HY by decide),as.length-(i+1),by omega,hlt,rfl,put _ _ ((e.trans s1).trans e3),?_⟩
   . rw[Ab,Ab,AX];omega
   . rw[ab,Bn,ha,Al,Al];rfl
 . have ei:i=as.length:=by omega
   subst ei;rw[B3] at hD';exact .inl ⟨⟨_,_,e.seqT h1,e.seqT h2,by rw[Ab];exact Ar _⟩,hQ D H hD e hD'⟩
inductive spIsPlain(K:Ac)(vs:List V)(H:Hp)(Q:VK)(E:XK):Prop
 | mk (t:HW)(k:Str)(r fs:List Str)(h0:vs=[.ref t])(h1:H t=some (.tup ((k::r).map V.str)))(hf:(k,fs)∈forms)(hg:IE uq fs r)(hy:∀y∈r,Short y)(q:∀H',Same H H'->Q (.bl true) H'):spIsPlain K vs H Q E
theorem scIsPlain:FnScope ["deed","sorts"] ["deed"] (b7 ue):=⟨rfl,rfl,rfl,by decide,rfl,by decide,by decide⟩
theorem a2z(C:Con K mg w)(F:Fun K "is_plain_deed" "is_plain_deed" ue f fd)(GM:FnOk P w K mg base CX0 3 gM dM ["sort","word"] spMay)(cM:Cal K mg "may_stand" gM dM ["sort","word"]):FnOk P w K mg base CX0 4 f fd ["deed"] (spIsPlain K):=by
 refine F.okQ scIsPlain (fun vs H Q E h=>?_) (fun cdv A outer s0 H vs Q E hr h=>?_)
 . obtain⟨t,k,r,fs,rfl,_⟩:=h;rfl
 obtain⟨t,k,r,fs,rfl,h1,hf,hg,hy,q⟩:=h;have nd:=scIsPlain.nd;obtain⟨aF,ts,gF,kF,hk,hF⟩:=C.forms;refine⟨_,ae (av (i:=1) nd rfl (Or.inl rfl) (a86 (qe_g gF) (ar (ag ao (qv 0) ac (fun _ _=>rfl)) aa)))
  (ae (bf (QW.qt (jk (ax a9g (qv 1) jl (ay _)) (je (ax jq (aw ap rfl C.len Ap (af (qv 0) aa)) (am cw (aw ap rfl C.len Ap (af (qv 1) aa)) ac) (ay _))))) (aj (az ge)) bm)
  (aj (az (aw (du rfl) rfl C.all AZ (dh (xh (K:=K) rfl ["sort","word"] [] (a2c rfl C.zip (af (qv 1) (ar (dr mv (qv 0) (ek ac) ft) aa))) (fun _ _ _ _=>db) (fun _ _ _ _=>(ak GM hr rfl cM.name cM.keep cM.bind .nil au (af (qv 0) (af (qv 1) aa))))) aa))))),?_⟩
 have h1':H t=some (.tup (.str k::r.map V.str)):=h1;have hl:=Ao hg;have hf3:fs.length<=3:=qm _ hf;obtain⟨tf,htf,hsq⟩:∃tf,(ts.map fun x=>(x.1,V.ref x.2)).lookup k=some (.ref tf)/\∀H',SqT K H' tf (fs.map V.str):=by
  have hm:k∈ts.map (·.1):=by rw[hk];exact AF.mpr ⟨_,hf,rfl⟩
  obtain⟨⟨h',tf⟩,hin,rfl⟩:=AF.mp hm;refine⟨tf,im ?_ (AF.mpr ⟨_,hin,rfl⟩),hF _ _ _ hin hf⟩;rw[Cw];show (ts.map (·.1)).Nodup;rw[hk];exact iz
 refine b9 (a:=tAsg _ _) fun D0 hN0 _ _=>?_;refine⟨aF,_,rfl,kF,_,rfl,t,_,0,_,rfl,rfl,SqT.of h1',at0,k,rfl,?_⟩;rw[htf];refine hN0 [some (.ref t),some (.ref tf)] _ ?_;refine b9 (a:=tIfS _ _ _) fun D1 hN1 _ _=>?_;refine⟨_,rfl,rfl,_,rfl,iteB (fun c=>absurd c (by simp)) (fun _=>?_)⟩;refine⟨_,rfl,t,_,rfl,.inr (SqT.of h1'),_,rfl,tf,_,rfl,.inr (hsq _),_,_,rfl,rfl,?_⟩;refine⟨rfl,_,rfl,iteB (fun c=>?_) (fun _=>?_)⟩
 . have e:(V.int ((V.str k::r.map V.str).length:Int))=V.int (((fs.map V.str).length:Int)+1):=by
    rw[AY,Ab,Ab,hl];rfl
   rw[e,decide_eq_true rfl] at c;cases c
 refine hN1 _ _ ?_;refine⟨_,rfl,_,rfl,_,rfl,t,_,rfl,SqT.of h1',fun p1 H1 e1 k1=>?_⟩;have hc:cutV (V.str k::r.map V.str) (some 1) none=r.map V.str:=by
  have:=iu (r:=k::r) (k:=1);simpa using this
 rw[show cutV (V.str k::r.map V.str) (some (1:Int)) none=r.map V.str from hc] at k1;refine⟨tf,p1,_,_,rfl,hsq _,k1,?_⟩;refine a5r fs r (hsq _) k1 hl (by omega) (fun i a b ha hb H2 e2 Q' q'=>?_) (fun D H2 hD e2 hd=>?_)
 . obtain⟨b',hb',hgw⟩:=Paired.nth hg ha;rw[hb] at hb';cases hb';exact⟨_,rfl,_,rfl,a,b,rfl,hy b (Ak hb),hgw,q'⟩
 . exact⟨D,_,rfl,SqL.of hd,by rw[jh];exact q H2 (e1.trans e2)⟩
abbrev a3u:IP:=top 35
abbrev wm:IP:=top 36
abbrev a2p:IP:=top 37
def CkP:Pl->Prop
 | .row r=>∃k r' fs,r=k::r'/\(k,fs)∈forms/\IE uq fs r'/\∀y∈r',Short y
 | .call x c vs=>Short x/\(x="" \/ b8 x=true)/\Short c/\b8 c=true/\vs.length<=100/\(∀y∈vs,Short y)/\∀y∈vs,bh y=true
inductive CkD:Deed->Prop
 | plain (p:Pl)(h:CkP p):CkD (.plain p)
 | cond (r:List Str)(a b:List Deed)(hs:ql r)(hl:r.length<=5)(hr:fj r=true)(ha:∀d∈a,CkD d)(hb:∀d∈b,CkD d):CkD (.cond r a b)
 | loop (r:List Str)(F P:List (List Str))(a:List Deed)(hs:ql r)(hl:r.length<=5)(hr:fj r=true)(ht:jd [F,P])(hT:fz [F,P])(ha:∀d∈a,CkD d):CkD (.loop r F P a)
inductive spAreD(K:Ac)(bs:List Nat)(vs:List V)(H:Hp)(Q:VK)(E:XK):Prop
 | mk (l:HW)(ds:List Deed)(k:Nat)(h0:vs=[.ref l,.int (k:Int)])(h1:ListX K H bs l ds)(hc:∀d∈ds,CkD d)(hk:k+bs.length<=5)(q:∀H',Same H H'->Q (.bl true) H'):spAreD K bs vs H Q E
inductive spIsDeed(K:Ac)(bs:List Nat)(vs:List V)(H:Hp)(Q:VK)(E:XK):Prop
 | mk (t:HW)(d:Deed)(k:Nat)(h0:vs=[.ref t,.int (k:Int)])(h1:DeedX K H (ListX K H bs) t d)(hc:CkD d)(hk:k+1+bs.length<=5)(q:∀H',Same H H'->Q (.bl true) H'):spIsDeed K bs vs H Q E
inductive spIsBr(K:Ac)(bs:List Nat)(vs:List V)(H:Hp)(Q:VK)(E:XK):Prop
 | mk (t:HW)(d:Deed)(k:Nat)(h0:vs=[.ref t,.int (k:Int)])(h1:DeedX K H (ListX K H bs) t d)(hp:∀p,d≠.plain p)(hc:CkD d)(hk:k+1+bs.length<=5)(q:∀H',Same H H'->Q (.bl true) H'):spIsBr K bs vs H Q E
section
variable{P:IC}{w:IF}{K:Ac}{mg:Str->Option HX}{base:IJ}{f gA gB gC gD gL gP gT:HW}{fd dA dB dC dD dL dP dT:II}{n:Nat}{bs:List Nat}
theorem a6y:FnOk P w K mg base CX0 n f fd ["deeds","around"] (spAreD K []) :=
 ⟨fun vs H Q E h=>by obtain⟨l,ds,k,_,h1,_⟩:=h;exact h1.elim,fun A outer s H args us vs Q E _ _ _ _ h=>by obtain⟨l,ds,k,_,h1,_⟩:=h;exact h1.elim⟩
theorem scIsBr:FnScope ["deed","around"] ["deed","around"] (b7 a3u):=⟨rfl,rfl,rfl,by decide,rfl,by decide,by decide⟩
theorem oy(hn:5<=n)(C:Con K mg w)(F:Fun K "is_branching" "is_branching" a3u f fd)(GC:FnOk P w K mg base CX0 4 gC dC ["condition"] (spIsCond K))(cC:Cal K mg "is_condition" gC dC ["condition"])(GT:FnOk P w K mg base CX0 4 gT dT ["telling"] (zz K ig))(cT:Cal K mg "is_telling" gT dT ["telling"])(GL:FnOk P w K mg base CX0 1 gL dL ["deed"] spLists)(cL:Cal K mg "lists_in" gL dL ["deed"])(GA:FnOk P w K mg base CX0 n gA dA ["deeds","around"] (spAreD K bs))(cA:Cal K mg "are_deeds" gA dA ["deeds","around"]):FnOk P w K mg base CX0 (n+1) f fd ["deed","around"] (spIsBr K bs):=by
 refine F.okQ scIsBr (fun vs H Q E h=>?_) (fun cdv A outer s0 H vs Q E hr h=>?_)
 . obtain⟨t,d,k,rfl,_⟩:=h;rfl
 obtain⟨t,d,k,rfl,hX,hp,hc,hk,q⟩:=h;have nd:=scIsBr.nd;have hr4:=hr.mono (j:=4) (by omega);have hr1:=hr.mono (j:=1) (by omega);refine⟨_,ae (bf (fh (fm (ak GC hr4 rfl cC.name cC.keep cC.bind .nil au (ar (ag ao (qv 0) ac (fun _ _=>rfl)) aa)))) (aj (az ge)) bm)
  (ae (bf (QW.qt (ia (ax bo (ag ao (qv 0) ac (fun _ _=>rfl)) bv (ay _)) (ie (fh (fm (ak GT hr4 rfl cT.name cT.keep cT.bind .nil au (ar (ag ao (qv 0) ac (fun _ _=>rfl)) aa))))))) (aj (az ge)) bm)
  (aj (az (aw (du rfl) rfl C.all AZ (dh (ij ["deeds","around"] [1] (bz (ak GL hr1 rfl cL.name cL.keep cL.bind .nil au (af (qv 0) aa))) (fun _ _ _ _=>db) (fun _ _ _ _=>(ak GA hr rfl cA.name cA.keep cA.bind .nil au (af (qv 0) (da (am cw (qv 1) ac) aa))))) aa))))),?_⟩
 refine b9 (a:=tIfS _ _ _) fun D1 hN1 _ _=>?_;have fin:∀(H2:Hp) (ls:List HW) (dss:List (List Deed)) (l:HW),Same H H2->H2 l=some (.lst (ls.map V.ref))->IE (fun i ds=>ListX K H2 bs i ds/\∀d∈ds,CkD d) ls dss->ls.length<=2->∀(Q2:VK),(∀H3,Same H2 H3->Q2 (.bl true) H3)->i8 (Itl K l) H2 [some (.ref t),some (.int (k:Int))] [1] tYes (a3b (spAreD K bs) [] E0 (gf (tVar 0) (gf (tOp (rI0 fun i j=>.int (i+j)) (tVar 1) (tC (.int 1))) tNil))) (fun v H3=>∃(a:HW) (bs':List Bool),[v]=[.ref a]/\SqL K H3 a (bs'.map V.bl)/\Q2 (.bl (bs'.all id)) H3):=fun H2 ls dss l e2 hl hpp hlen Q2 q2=>by
  refine gq (ls.map V.ref) dss (fun _=>true) cs (SqL.of hl) (by rw[Ab];omega) (by rw[Ab,Ao hpp]) (fun i x r hx hr' H3 e3 Q' q'=>?_) (fun D H3 hD e3 hd=>?_)
  . rw[Ah] at hx;obtain⟨li,hli,rfl⟩:=AK.mp hx;obtain⟨r',hr2,z1,z2⟩:=Paired.nth hpp hli;rw[hr'] at hr2;cases hr2;exact⟨_,rfl,_,rfl,_,_,rfl,rfl,li,r,k+1,(by rw[show ((k+1:Nat):Int)=(k:Int)+1 by omega];rfl),z1.same e3,z2,hk,q'⟩
  . exact⟨D,_,rfl,SqL.of hd,by rw[jh];exact q2 H3 e3⟩
 cases hX with
 | plain p h1 h2=>exact absurd rfl (hp p)
 | cond c i o r a b h hcr okr hi ho =>
  cases hc with
  | cond _ _ _ hs hl hr' ha hb =>
  refine⟨_,rfl,t,_,1,_,rfl,rfl,SqT.of h,rfl,c,r,rfl,hcr,hs,hl,hr',fun H1 e1=>⟨_,rfl,(if_neg (by simp)).mpr (hN1 _ _ ?_)⟩⟩;refine b9 (a:=tIfS _ _ _) fun D2 hN2 _ _=>?_;refine⟨_,rfl,t,_,0,_,rfl,rfl,SqT.of (e1 _ _ h),rfl,rfl,_,rfl,iteB (fun c=>absurd c (by decide)) (fun _=>(if_neg (by simp)).mpr (hN2 _ _ ?_))⟩;refine⟨_,rfl,.cond t i o (.ref c) rfl (e1 _ _ h) fun l hl'=>?_⟩;have s2:=ad hl' (.lst [.ref i,.ref o]);have k2:(upd H1 l (.lst [.ref i,.ref o])) l=some (.lst ([i,o].map V.ref)):=ab;generalize upd H1 l (.lst [.ref i,.ref o])=H2 at s2 k2 |-;have e2:=e1.trans s2;refine⟨l,rfl,⟨_,SqL.of k2⟩,?_⟩;exact fin H2 [i,o] [a,b] l e2 k2 (.cons ⟨hi.same e2,ha⟩ (.cons ⟨ho.same e2,hb⟩ .nil)) (Ar _) _ fun H3 e3=>q H3 (e2.trans e3)
 | loop c td i fa pa r F' P' a h hcr okr htd hF hP okF okP lF lP hi =>
  cases hc with
  | loop _ _ _ _ hs hl hr' ht hT ha =>
  refine⟨_,rfl,t,_,1,_,rfl,rfl,SqT.of h,rfl,c,r,rfl,hcr,hs,hl,hr',fun H1 e1=>⟨_,rfl,(if_neg (by simp)).mpr (hN1 _ _ ?_)⟩⟩;refine b9 (a:=tIfS _ _ _) fun D2 hN2 _ _=>?_;refine⟨_,rfl,t,_,0,_,rfl,rfl,SqT.of (e1 _ _ h),rfl,rfl,_,rfl,iteB (fun _=>?_) (fun c=>absurd c (by decide))⟩;refine⟨_,rfl,t,_,2,_,rfl,rfl,SqT.of (e1 _ _ h),rfl,td,[F',P'],rfl,⟨[fa,pa],SqT.of (e1 _ _ htd),.cons (hF.same e1) (.cons (hP.same e1) .nil)⟩,ht,fun H1' e1'=>⟨_,rfl,?_⟩⟩;rw[jp hT];refine (if_neg (by simp)).mpr (hN2 _ _ ?_);have e1:=e1.trans e1';refine⟨_,rfl,.loop t i (.ref c) (.ref td) rfl (e1 _ _ h) fun l hl'=>?_⟩;have s2:=ad hl' (.lst [.ref i]);have k2:(upd H1' l (.lst [.ref i])) l=some (.lst ([i].map V.ref)):=ab;generalize upd H1' l (.lst [.ref i])=H2 at s2 k2 |-;have e2:=e1.trans s2;refine⟨l,rfl,⟨_,SqL.of k2⟩,?_⟩;exact fin H2 [i] [a] l e2 k2 (.cons ⟨hi.same e2,ha⟩ .nil) (show 1<=2 by decide) _ fun H3 e3=>q H3 (e2.trans e3)
theorem scIsDeed:FnScope ["deed","around"] ["deed","around"] (b7 wm):=⟨rfl,rfl,rfl,by decide,rfl,by decide,by decide⟩
theorem lx(hn:5<=n)(C:Con K mg w)(F:Fun K "is_deed" "is_deed" wm f fd)(GB:FnOk P w K mg base CX0 (n+1) gB dB ["deed","around"] (spIsBr K bs))(cB:Cal K mg "is_branching" gB dB ["deed","around"])(GC:FnOk P w K mg base CX0 5 gC dC ["deed"] (spIsCall K))(cC:Cal K mg "is_call" gC dC ["deed"])(GP:FnOk P w K mg base CX0 4 gP dP ["deed"] (spIsPlain K))(cP:Cal K mg "is_plain_deed" gP dP ["deed"]):FnOk P w K mg base CX0 (n+1+1) f fd ["deed","around"] (spIsDeed K bs):=by
 refine F.okQ scIsDeed (fun vs H Q E h=>?_) (fun cdv A outer s0 H vs Q E hr h=>?_)
 . obtain⟨t,d,k,rfl,_⟩:=h;rfl
 obtain⟨t,d,k,rfl,hX,hc,hk,q⟩:=h;have nd:=scIsDeed.nd;have hr5:=hr.mono (j:=5) (by omega);have hr4:=hr.mono (j:=4) (by omega);refine⟨_,ae (bf (QW.qt (jk (fh (fm (aw ib rfl C.isi Ba (af (qv 0) (af ⟨gty C.tuple Bx⟩ aa))))) (jk (ax bo (aw ap rfl C.len Ap (af (qv 0) aa)) ac (ay _)) (je (fh (fm (aw nh rfl C.isi Ba (ar (ag ao (qv 0) ac (fun _ _=>rfl)) (af ⟨gty C.str De⟩ aa))))))))) (aj (az ge)) bm)
  (ae (bf (ax gw (ag ao (qv 0) ac (fun _ _=>rfl)) (er (ba (ba aa))) (by with_unfolding_all rfl)) (aj (az (jm (gr bo (aw ap rfl C.len Ap (af (qv 0) aa)) ac (ay _)) (kr (ak GB hr rfl cB.name cB.keep cB.bind .nil au (af (qv 0) (af (qv 1) aa))))))) bm)
  (ae (bf (ax bo (ag ao (qv 0) ac (fun _ _=>rfl)) bv (ay _)) (aj (az (jm (gr bo (aw ap rfl C.len Ap (af (qv 0) aa)) ac (ay _)) (kr (ak GC hr5 rfl cC.name cC.keep cC.bind .nil au (af (qv 0) aa)))))) bm)
  (aj (az (ak GP hr4 rfl cP.name cP.keep cP.bind .nil au (af (qv 0) aa)))))),?_⟩
 obtain⟨w',us,hw⟩:∃(w':Str) (us:List V),H t=some (.tup (.str w'::us)):=by
  cases hX with
  | plain p h1 h2=>obtain⟨w',us,z,_⟩:=kz h1 h2;exact⟨w',us,z⟩
  | cond c i o r a b h hcr okr hi ho=>exact⟨_,_,h⟩
  | loop c td i fa pa r F' P' a h hcr okr htd hF hP okF okP lF lP hi=>exact⟨_,_,h⟩
 refine b9 (a:=tIfS _ _ _) fun D1 hN1 _ _=>?_;refine⟨_,rfl,t,_,rfl,SqT.of hw,_,rfl,?_⟩;refine (if_neg (by simp)).mpr ?_;refine⟨_,rfl,t,_,rfl,.inr (SqT.of hw),rfl,_,rfl,iteB (fun c=>?_) (fun _=>?_)⟩
 . have e:V.int ((V.str w'::us).length:Int)=V.int 0:=of_decide_eq_true c;injection e with e;rw[AY] at e;omega
 refine⟨_,rfl,t,_,0,_,rfl,rfl,SqT.of hw,at0,w',rfl,_,rfl,?_⟩;refine (if_neg (by simp)).mpr (hN1 _ _ ?_);refine⟨_,rfl,t,_,0,_,rfl,rfl,SqT.of hw,at0,(show 2<=HY by decide),fun l hl=>?_⟩;have s1:=ad hl (.tup [.str "if",.str "while"]);have k1:(upd H l (.tup [.str "if",.str "while"])) l=some (.tup ([("if":Str),"while"].map V.str)):=ab;generalize upd H l (.tup [.str "if",.str "while"])=H1 at s1 k1 |-;refine⟨l,_,rfl,.inr (SqT.of k1),rfl,ee _,_,rfl,?_⟩;have ein:∀b,decide (w'∈[("if":Str),"while"])=b->inV (.str w') ([("if":Str),"while"].map V.str)=b:=fun b hb=>by rw[dm];exact hb
 cases hX with
 | plain p h1 h2 =>
  obtain⟨w2,us2,z,n1,n2⟩:=kz h1 h2;rw[hw] at z;cases z;rw[ein false (decide_eq_false (by simp[n1,n2]))];refine (if_neg An).mpr ?_;cases hc with
  | plain _ hc =>
  cases p with
  | call x c vs =>
   obtain⟨v,h1,h1'⟩:=h1;rw[hw] at h1;cases h1;obtain⟨c1,c2,c3,c4,c5,c6,c7⟩:=hc;refine⟨_,rfl,t,_,0,_,rfl,rfl,SqT.of (s1 _ _ hw),at0,rfl,_,rfl,iteB (fun _=>?_) (fun c=>absurd c (by decide))⟩;refine⟨_,rfl,t,_,rfl,.inr (SqT.of (s1 _ _ hw)),rfl,_,rfl,(if_pos (decide_eq_true (show V.int (4:Nat)=V.int 4 from rfl))).mpr ?_⟩;exact⟨_,rfl,t,v,x,c,vs,rfl,s1 _ _ hw,s1 _ _ h1',c1,c2,c3,c4,c5,c6,c7,fun H2 e2=>q H2 (s1.trans e2)⟩
  | row r =>
   obtain⟨k',r',fs,rfl,hf,hg,hy⟩:=hc;have n3:=(jv _ hf).2.2;have hw2:H t=some (.tup ((k'::r').map V.str)):=h1;rw[hw] at hw2;cases hw2;refine⟨_,rfl,t,_,0,_,rfl,rfl,SqT.of (s1 _ _ hw),at0,rfl,_,rfl,iteB (fun c=>absurd (V.str.inj (of_decide_eq_true c)) n3) (fun _=>?_)⟩;exact⟨_,rfl,t,_,r',fs,rfl,s1 _ _ hw,hf,hg,hy,fun H2 e2=>q H2 (s1.trans e2)⟩
 | cond c i o r a b h hcr okr hi ho =>
  have hw2:=h;rw[hw] at hw2;cases hw2;rw[ein true (by decide)];refine (if_pos rfl).mpr ?_;refine⟨_,rfl,t,_,rfl,.inr (SqT.of (s1 _ _ hw)),rfl,_,rfl,(if_pos (decide_eq_true (show V.int (4:Nat)=V.int 4 from rfl))).mpr ?_⟩;exact⟨_,rfl,_,rfl,t,.cond r a b,k,rfl,(DeedX.cond c i o r a b h hcr okr hi ho).same s1 fun _ _ y=>y.same s1,(fun p z=>by cases z),hc,hk,fun H2 e2=>q H2 (s1.trans e2)⟩
 | loop c td i fa pa r F' P' a h hcr okr htd hF hP okF okP lF lP hi =>
  have hw2:=h;rw[hw] at hw2;cases hw2;rw[ein true (by decide)];refine (if_pos rfl).mpr ?_;refine⟨_,rfl,t,_,rfl,.inr (SqT.of (s1 _ _ hw)),rfl,_,rfl,(if_pos (decide_eq_true (show V.int (4:Nat)=V.int 4 from rfl))).mpr ?_⟩;exact⟨_,rfl,_,rfl,t,.loop r F' P' a,k,rfl,(DeedX.loop c td i fa pa r F' P' a h hcr okr htd hF hP okF okP lF lP hi).same s1 fun _ _ y=>y.same s1,(fun p z=>by cases z),hc,hk,fun H2 e2=>q H2 (s1.trans e2)⟩
theorem scAreD:FnScope ["deeds","around"] ["deeds","around"] (b7 a2p):=⟨rfl,rfl,rfl,by decide,rfl,by decide,by decide⟩
theorem nw{b:Nat}(hb:b<=900)(C:Con K mg w)(F:Fun K "are_deeds" "are_deeds" a2p f fd)(GD:FnOk P w K mg base CX0 (n+1+1) gD dD ["deed","around"] (spIsDeed K bs))(cD:Cal K mg "is_deed" gD dD ["deed","around"]):FnOk P w K mg base CX0 (n+1+1+1) f fd ["deeds","around"] (spAreD K (b::bs)):=by
 refine F.okQ scAreD (fun vs H Q E h=>?_) (fun cdv A outer s0 H vs Q E hr h=>?_)
 . obtain⟨l,ds,k,rfl,_⟩:=h;rfl
 obtain⟨l,ds,k,rfl,⟨ts,hl,hp,hlen⟩,hc,hk,q⟩:=h;have nd:=scAreD.nd;refine⟨_,ae (bf (QW.qt (jk (fh (fm (aw jt rfl C.isi Ba (af (qv 0) (af ⟨gty C.list AQ⟩ aa))))) (je (QW.qt (ia (a70 (K:=K) (qv 0)) (ie (ax kg (qv 1) (qe_g C.mostAround) (ay _)))))))) (aj (az ge)) bm)
  (aj (az (aw (du rfl) rfl C.all AZ (dh (ij ["deed","around"] [1] (bz (qv 0)) (fun _ _ _ _=>db) (fun _ _ _ _=>(ak GD hr rfl cD.name cD.keep cD.bind .nil au (af (qv 0) (af (qv 1) aa))))) aa)))),?_⟩
 refine b9 (a:=tIfS _ _ _) fun D1 hN1 _ _=>?_;have hpl:=Ao hp;have hk4:k<=4:=by rw[AY] at hk;omega
 have rest:D1.nx [some (.ref l),some (.int (k:Int))] H:=by
  refine hN1 _ _ ?_;refine⟨_,rfl,l,rfl,⟨_,SqL.of hl⟩,?_⟩;refine gq (ts.map V.ref) ds (fun _=>true) cs (SqL.of hl) (by rw[Ab];omega) (by rw[Ab,hpl]) (fun i x r hx hr' H3 e3 Q' q'=>?_) (fun D H3 hD e3 hd=>?_)
  . rw[Ah] at hx;obtain⟨ti,hti,rfl⟩:=AK.mp hx;obtain⟨r',hr2,z⟩:=Paired.nth hp hti;rw[hr'] at hr2;cases hr2;exact⟨_,rfl,_,rfl,ti,r,k,rfl,z.same e3 fun _ _ y=>y.same e3,hc r (Ak hr'),by rw[AY] at hk;omega,q'⟩
  . exact⟨D,_,rfl,SqL.of hd,by rw[jh];exact q H3 e3⟩
 refine⟨_,rfl,l,_,rfl,SqL.of hl,_,rfl,?_⟩;refine (if_neg (by simp)).mpr ?_;refine⟨_,rfl,!(ts.map V.ref).isEmpty,?_,?_⟩
 . exact .inl ⟨_,SqL.of hl,rfl⟩
 refine iteB (fun _=>?_) (fun _=>(if_neg (by simp)).mpr rest);refine⟨_,rfl,_,_,rfl,rfl,_,rfl,?_⟩;rw[decide_eq_false (by omega)];exact (if_neg (by simp)).mpr rest
end
end K40
namespace L2
open PyProof.Rows
section
variable{X:Cx}
end
theorem a0r{X:Cx}:dz X (.type "int") (fun xs H Q=>∃b:Bool,xs=[.bl b]/\Q (.int (if b=true then 1 else 0)) H):=by
 intro pins s σ H xs us Q I r h;obtain⟨b,rfl,q⟩:=h;obtain⟨u,rfl,ru⟩:=r.one;cases ru;exact PySem.call_int_bool ⟨.int _,H,I.tok _,⟨_,rfl⟩,q⟩
theorem a1g{X:Cx}{K:Ac}(hK:X.K=K):OpR X (IM .In) (rIn K false):=by subst hK;exact gw
theorem a8m{X:Cx}{K:Ac}(hK:X.K=K):OpR X (IM .NotIn) (rIn K true):=by subst hK;exact ko
end L2
namespace K40
open L2 Mir
variable{P:IC}{w:IF}{K:Ac}{mg:Str->Option HX}{base:IJ}{f g gA gF gP gN gS gW gI gV gM gR gT gC gB gD gH gK gG gY:HW}{fd gd dA dF dP dN dS dW dI dV dM dR dT dC dB dD dH dK dG dY:II}
abbrev a2l:IP:=top 53
abbrev rn:IP:=top 54
abbrev a0k:IP:=top 51
theorem mi{α:Type}{xs:List α}{y:α}(h:xs.Nodup)(n:¬ y∈xs):(xs++[y]).Nodup:=by
 rw[Ce];refine⟨h,List.Pairwise.cons (by simp) .nil,fun a ha b hb=>?_⟩;rw[Ax.mp hb];exact fun z=>n (z ▸ ha)
theorem a1p{α:Type}{xs:List α}{i j:Int}{d:α}(hn:xs.Nodup)(hi:0<=i)(hj:0<=j)(h1:atI xs i=some d)(h2:atI xs j=some d):i=j:=by
 obtain⟨a,rfl⟩:=Cc hi;obtain⟨b,rfl⟩:=Cc hj;have g:∀{c:Nat},atI xs (c:Int)=some d->xs[c]?=some d:=fun {c} h=>by
  unfold atI ixN at h;rw[if_pos (by omega)] at h;by_cases hc:(c:Int)<xs.length
  . rw[if_pos hc] at h;simpa using h
  . rw[if_neg hc] at h;cases h
 have k1:=g h1;have k2:=g h2;have hlt:=(Av.mp k1).1;have:=(E6 hlt hn).mp (k1.trans k2.symm);omega
def lh:Sp:=fun vs H Q _=>∃(a:HW) (n m:Int),vs=[.ref a,.int m]/\H a=some (.lst [.int n])/\0<m/\m<1073741824/\Q (.int (n % m)) (upd H a (.lst [.int (n / m)]))
def letters36:Str := "abcdefghijklmnopqrstuvwxyz0123456789"
theorem qk:letters36.cps.toList.length=36:=by decide
theorem oq:letters36.length<=HY:=by decide
theorem a03:∀c∈letters36.cps.toList,df c=true:=by decide
theorem a08:∀c∈letters36.cps.toList.take 26,decide (c∈Mir.letters.cps.toList)=true:=by decide
def ul(mg:Str->Option HX)(F:Int->List Str):Sp:=fun vs H Q _=>∃(i:Int),vs=[.int i]/\∀(p:HW) (xs:List Str) (H':Hp),xs=F i->Same H H'->H p=none->H' p=some (.lst (xs.map V.str))->xs.length=8->(∀x∈xs,b8 x=true)->xs.Nodup->Q (.ref p) H'
def Word(n:Nat)(x:Str):Prop:=x.length=n/\vb x.cps.toList=true/\x.cps.toList.all df=true
theorem Word.name{n:Nat}{x:Str}(h:Word n x)(h1:1<=n)(h8:n<=8)(hn:¬ x∈Mir.noNames):b8 x=true:=by
 unfold b8;rw[if_neg,h.2.1,h.2.2]
 . rfl
 . rintro (z|z|z)
   . have:=h.1;rw[z] at this;have e:(("":Str)).length=0:=by decide
     rw[e] at this;omega
   . have:=h.1;omega
   . exact hn z
theorem Word.more{n:Nat}{x:Str}{c:Nat}(h:Word n x)(h1:1<=n)(hc:df c=true):Word (n+1) (x++⟨#[c]⟩):=by
 have e:(x++(⟨#[c]⟩:Str)).cps.toList=x.cps.toList++[c]:=by show (x.cps ++ #[c]).toList=_;rw[Ef]
 have hl:(x++(⟨#[c]⟩:Str)).length=x.length+1:=by show (x.cps ++ #[c]).size=_;rw[Array.size_append];rfl
 refine⟨by rw[hl,h.1],?_,?_⟩
 . rw[e];have h2:=h.2.1;cases e2:x.cps.toList with
   | nil=>rw[e2] at h2;cases h2
   | cons d r=>rw[e2] at h2;exact h2
 . rw[e,Fd,h.2.2];simp[hc]
theorem Word.one{c:Nat}(h:decide (c∈Mir.letters.cps.toList)=true):Word 1 ⟨#[c]⟩:=by
 refine⟨rfl,h,?_⟩;show ([c].all df)=true;unfold df;simp only[Di,List.all_nil,h,HH,Bool.and_true]
theorem a7a{xs:List Nat}{i:Int}(hl:26<=xs.length):∃v,atI xs (i % 26)=some v/\v∈xs.take 26:=by
 have h0:=AM i (show (26:Int)≠0 by decide);have h1:=AW i (show (0:Int)<26 by decide);generalize i % 26=j at h0 h1;obtain⟨k,rfl⟩:=Cc h0;have hk:k<xs.length:=by omega
 refine⟨xs[k],dv (Ag hk),?_⟩;refine Ak (i:=k) ?_;rw[Dt (by omega),Ag hk]
def qn(k:Nat):Str:=("q":Str)++BP (toString ((0:Int)+(k:Nat)))
theorem zd:∀k∈Bg 9,("q":Str).length+(BP (toString ((0:Int)+(k:Nat)))).length<=HY/\b8 (qn k)=true:=by decide
def qs:List Str:=(Bg 9).map qn
theorem a6m:qs.Nodup:=by decide
theorem a87{xs:List Str}(h:xs.length<=8):∃y r,qs.filter (fun x => !decide (x∈xs))=y::r/\b8 y=true/\¬ y∈xs:=by
 cases e:qs.filter (fun x => !decide (x∈xs)) with
 | nil =>
  exfalso;have hs:∀y∈qs,y∈xs:=fun y hy=>by
   apply Classical.byContradiction;intro hn;have:y∈qs.filter (fun x => !decide (x∈xs)):=AV.mpr ⟨hy,by simpa using hn⟩;rw[e] at this;simp at this
  have h1:=Bv a6m hs;have h2:qs.length=9:=by unfold qs;rw[Ab,Bu]
  omega
 | cons y r =>
  refine⟨y,r,rfl,?_⟩;have hm:y∈qs.filter (fun x => !decide (x∈xs)):=by rw[e];exact By ..
  obtain⟨k,hk,rfl⟩:=AF.mp (AV.mp hm).1;exact⟨(zd k hk).2,by simpa using (AV.mp hm).2⟩
def mj{α:Type}(f:α->α):Nat->α->α
 | 0,x=>x
 | n+1,x=>f (mj f n x)
def chF(l:List Nat)(i:Int):Nat:=(atI l i).getD 0
theorem uu{l:List Nat}{i:Int}{d:Nat}(h:atI l i=some d):chF l i=d:=by unfold chF;rw[h];rfl
def wdS(s:Int×Str):Int×Str:=(s.1 / 36,s.2++⟨#[chF letters36.cps.toList (s.1 % 36)]⟩)
def yr(w:Str)(xs:List Str):Str:=if w∈Mir.noNames\/w∈xs then (qs.filter fun x => !decide (x∈xs)).headD "" else w
def nmS(s:Int×List Str):Int×List Str:=((mj wdS (1+s.1 % 8-1).toNat (s.1 / 8 / 26,⟨#[chF letters36.cps.toList (s.1 / 8 % 26)]⟩)).1,s.2++[yr (mj wdS (1+s.1 % 8-1).toNat (s.1 / 8 / 26,⟨#[chF letters36.cps.toList (s.1 / 8 % 26)]⟩)).2 s.2])
def anyF(i:Int):List Str:=(mj nmS 8 (i,[])).2
def a9o:TT:=fun σ H Q=>∃(wd:Str) (tk nl:HW) (xs:List Str),σ[7]?=some (some (.str wd))/\σ[3]?=some (some (.ref tk))/\σ[4]?=some (some (.ref nl))/\H tk=some (.lst (Mir.noNames.map V.str))/\H nl=some (.lst (xs.map V.str))/\∀b:Bool,b=decide (wd∈Mir.noNames\/wd∈xs)->Q b H
theorem a2s{K:Ac}(σ:St)(H:Hp)(Q:Bool->Hp->Prop)(h:a9o σ H Q):tOr (kq (tOp (rIn K false) (tVar 7) (tVar 3))) (kq (tOp (rIn K false) (tVar 7) (tVar 4))) σ H Q:=by
 obtain⟨wd,tk,nl,xs,h7,h3,h4,hT,hN,q⟩:=h;refine⟨_,h7,_,h3,tk,_,rfl,.inl (SqL.of hT),rfl,ee Mir.noNames,_,rfl,iteB (fun c=>q true ?_) (fun c=>?_)⟩
 . have c':inV (.str wd) (Mir.noNames.map V.str)=true:=c;rw[dm] at c';exact (decide_eq_true (.inl (of_decide_eq_true c'))).symm
 have c':inV (.str wd) (Mir.noNames.map V.str)=false:=c;rw[dm] at c';refine⟨_,h7,_,h4,nl,_,rfl,.inl (SqL.of hN),rfl,ee xs,_,rfl,q _ ?_⟩;show inV (.str wd) (xs.map V.str)=_;rw[dm];have c2:=of_decide_eq_false c';exact decide_eq_decide.mpr ⟨.inr,fun z=>z.elim (fun y=>absurd y c2) id⟩
theorem scTake:FnScope ["_law_feed","_law_many","_law_number"] ["_law_feed","_law_many"] (b7 a2l):=⟨rfl,rfl,rfl,by decide,rfl,by decide,by decide⟩
theorem a7x(F:Fun K "_law_take" "_law_take" a2l f fd):FnOk P w K mg base CX0 1 f fd ["_law_feed","_law_many"] lh:=by
 refine F.okQ scTake (fun vs H Q E h=>?_) (fun cdv A outer s H vs Q E hr h=>?_)
 . obtain⟨a,n,m,rfl,_⟩:=h;rfl
 obtain⟨a,n,m,rfl,hA,h0,h1,q⟩:=h;have nd:=scTake.nd;refine⟨_,ae (av (i:=2) nd rfl (Or.inl rfl) (ag bc (qv 0) ac (fun _ _=>rfl)))
  (ae (om (am bt (qv 2) (qv 1)) (aa9 (qv 0) ac a63)) (aj (az (am br (qv 2) (qv 1))))),?_⟩
 refine⟨_,rfl,a,_,0,.int n,rfl,rfl,SqL.of hA,rfl,?_⟩;refine⟨_,rfl,_,rfl,_,_,rfl,rfl,⟨h0,h1⟩,_,rfl,a,_,0,0,rfl,rfl,hA,rfl,?_⟩;exact⟨_,rfl,_,rfl,_,_,rfl,rfl,h0,q⟩
theorem scAnyNames:FnScope ["_law_cell","_law_feed","_law_letters","_law_taken","_law_names_here","_law_k","_law_size","_law_word","_law_j"] ["_law_cell"] (b7 rn):=⟨rfl,rfl,rfl,by decide,rfl,by decide,by decide⟩
theorem a0t(C:Con K mg w)(hrg:mg "range"=none)(F:Fun K "_law_any_names" "_law_any_names" rn f fd)(G:FnOk P w K mg base CX0 1 g gd ["_law_feed","_law_many"] lh)(cG:Cal K mg "_law_take" g gd ["_law_feed","_law_many"]):
 FnOk P w K mg base CX0 2 f fd ["_law_cell"] (ul mg anyF):=by
 refine F.okQ scAnyNames (fun vs H Q E h=>?_) (fun cdv A outer s H vs Q E hr h=>?_)
 . obtain⟨i,rfl,_⟩:=h;rfl
 obtain⟨i,rfl,q⟩:=h;have nd:=scAnyNames.nd;refine⟨_,ae (av (i:=1) nd rfl (Or.inl rfl) (bb (af (qv 0) aa)))
  (ae (av (i:=2) nd rfl (Or.inl rfl) bv)
  (ae (av (i:=3) nd rfl (Or.inl rfl) (bb (ba (ba (ba (ba (ba (ba (ba (ba (ba (ba aa))))))))))))
  (ae (av (i:=4) nd rfl (Or.inr rfl) (bb aa))
  (ae (dq AS rfl (cz rfl hrg (ci aa)) (bj (i:=5) nd rfl (Or.inl rfl))
   (ae (av (i:=6) nd rfl (Or.inl rfl) (am cw ac (ak G hr rfl cG.name cG.keep cG.bind .nil au (af (qv 1) (ci aa)))))
   (ae (av (i:=7) nd rfl (Or.inl rfl) (ag qq (qv 2) (ak G hr rfl cG.name cG.keep cG.bind .nil au (af (qv 1) (ci aa))) (fun _ _=>rfl)))
   (ae (dq AS rfl (cz rfl hrg (da (am ja (qv 6) ac) aa)) (bj (i:=8) nd rfl (Or.inl rfl))
    (aj (av (i:=7) nd rfl (Or.inl rfl) (am ji (qv 7) (ag qq (qv 2) (ak G hr rfl cG.name cG.keep cG.bind .nil au (af (qv 1) (ci aa))) (fun _ _=>rfl))))))
   (ae (bf (a8a (QW.qt (jk (ax gw (qv 7) (qv 3) (by with_unfolding_all rfl)) (je (ax gw (qv 7) (qv 4) (by with_unfolding_all rfl))))) (a2s (K:=K)))
    (aj (av (i:=7) nd rfl (Or.inl rfl) (ag bc (a0j 4 (bz (ik (cz rfl hrg (ci aa)) (fun _ _ _ _=>db) (fun _ _ _ _=>am ji bv (cg zx rfl C.str De (af (qv 0) aa)))))
     (fun _ _ _ _=>ke (ax (show OpR _ _ (rIn K true) from ko) (qv 0) (qv 1) (by with_unfolding_all rfl))) (fun _ _ _ _=>qv 0)) ac (fun _ _=>rfl)))) bm)
   (aj (bu (cq (K:=K) rfl As Az AA bq (qv 4) (af (qv 7) aa)))))))))
  (aj (az (qv 4))))))),?_⟩
 refine⟨_,rfl,(show 1<=HY by decide),fun fe hfe=>?_⟩;have s1:=ad hfe (.lst [.int i]);refine⟨(show 10<=HY by decide),fun tk htk=>?_⟩;have s2:=ad htk (.lst (Mir.noNames.map V.str));refine⟨AG _,fun nl hnl=>?_⟩;have s3:=ad hnl (.lst []);have hft:fe≠tk:=aq ab htk;have hfn:fe≠nl:=aq (s2 _ _ ab) hnl;have htn:tk≠nl:=aq ab hnl;have hn0:H nl=none:=s1.free (s2.free hnl);refine⟨_,rfl,(by decide),(by decide),?_⟩;refine gi (lo:=0) (n:=8) (fun k σ H'=>Same H H'/\∃n xs z5 z6 z7 z8,H' fe=some (.lst [.int n])/\H' tk=some (.lst (Mir.noNames.map V.str))/\H' nl=some (.lst ((xs:List Str).map V.str))/\xs.length=k/\(∀x∈xs,b8 x=true)/\xs.Nodup/\(n,xs)=mj nmS k (i,[])/\
  σ=[iQ i,rQ fe,some (.str letters36),rQ tk,rQ nl,z5,z6,z7,z8]) ⟨s1.trans (s2.trans s3),i,[],none,none,none,none,s3 _ _ (s2 _ _ ab),s3 _ _ ab,ab,rfl,by simp,.nil,rfl,rfl⟩ ?_ ?_
 . rintro k σ H' hk ⟨e,n,xs,z5,z6,z7,z8,hF,hT,hN,hxl,hxs,hnn,hit,rfl⟩;refine⟨_,rfl,fe,n,8,rfl,hF,by decide,by decide,_,_,rfl,rfl,?_⟩;have g0:=AM n (show (8:Int)≠0 by decide);have g1:=AW n (show (0:Int)<8 by decide);obtain⟨c,hc,hcm⟩:=a7a (xs:=letters36.cps.toList) (i:=n / 8) (by rw[qk];decide);refine⟨_,rfl,_,rfl,fe,n / 8,26,rfl,ab,by decide,by decide,letters36,_,c,rfl,rfl,oq,hc,?_⟩;refine⟨_,rfl,_,_,rfl,rfl,_,rfl,(by show -(2 ^ 62)<=1+n % 8-1;omega),(by show 1+n % 8-1<2 ^ 62;omega),?_⟩;have up:∀{Hx:Hp} {b:HW} {o u:HO},b≠fe->Hx b=some o->upd Hx fe u b=some o:=fun hb hq=>by rw[ai hb];exact hq
   refine gi (lo:=0) (n:=(1+n % 8-1).toNat) (fun j σ H2=>Same H H2/\∃n2 wd z8,H2 fe=some (.lst [.int n2])/\H2 tk=some (.lst (Mir.noNames.map V.str))/\H2 nl=some (.lst (xs.map V.str))/\Word (1+j) wd/\(n2,wd)=mj wdS j (n / 8 / 26,⟨#[chF letters36.cps.toList (n / 8 % 26)]⟩)/\
    σ=[iQ i,rQ fe,some (.str letters36),rQ tk,rQ nl,iQ (0+(k:Int)),iQ (1+n % 8),some (.str wd),z8])
    ⟨kx hfe (kx hfe e _) _,n / 8 / 26,⟨#[c]⟩,z8,ab,up (BY hft) (up (BY hft) hT),up (BY hfn) (up (BY hfn) hN),Word.one (a08 c hcm),by rw[uu hc];rfl,rfl⟩ ?_ ?_
   . rintro j σ H2 hj ⟨e2,n2,wd,z8,hF2,hT2,hN2,hW,hwi,rfl⟩;obtain⟨d,hd,hdm⟩:=jn (xs:=letters36.cps.toList) (m:=36) (i:=n2) (by rw[qk];rfl) (by decide);refine⟨_,rfl,_,rfl,_,rfl,fe,n2,36,rfl,hF2,by decide,by decide,letters36,_,d,rfl,rfl,oq,hd,wd,_,rfl,rfl,?_,?_⟩
     . rw[hW.1];exact Aw (show 1+j+1<=1000 by omega) (by decide)
     . exact⟨kx hfe e2 _,_,_,_,ab,up (BY hft) hT2,up (BY hfn) hN2,hW.more (by omega) (a03 d hdm),by show _=wdS (mj wdS j _);rw[<- hwi];unfold wdS;rw[uu hd],rfl⟩
   . rintro σ H2 ⟨e2,n2,wd,z8,hF2,hT2,hN2,hW,hwi,rfl⟩;have hstep:∀w2,yr wd xs=w2->(n2,xs++[w2])=mj nmS (k+1) (i,[]):=fun w2 h2=>by
      show _=nmS (mj nmS k _);rw[<- hit];unfold nmS;dsimp only;rw[<- hwi,h2]
     have hx8:xs.length<=8:=by omega
     have fin:∀(H3:Hp) (w2:Str),Same H H3->H3 fe=some (.lst [.int n2])->H3 tk=some (.lst (Mir.noNames.map V.str))->H3 nl=some (.lst (xs.map V.str))->b8 w2=true->xs.length<HY:=fun _ _ _ _ _ _ _=>AO hx8 (by decide);refine⟨wd,tk,nl,xs,rfl,rfl,rfl,hT2,hN2,fun b hb=>iteB (fun cb=>?_) (fun cb=>?_)⟩;rw[hb] at cb
     . -- another word in its place
       refine⟨_,rfl,(by decide),(by decide),?_⟩;refine qd (nums 0 9) (Bg 9) qn pq trivial (by simp[nums]) (by simp[nums]) (fun i' x r hx hr' H4 e4 Q' q'=>?_) fun D1 H4 hD1 e4 hd1=>?_
       . have hr9:r∈Bg 9:=Ak hr';have hx':x=.int ((0:Int)+(r:Nat)):=by
          unfold nums at hx;rw[Ah,hr'] at hx;exact (Ay hx).symm
         subst hx';have hlt:r<9:=CY.mp hr9;refine⟨_,rfl,_,rfl,?_,_,_,rfl,rfl,(zd r hr9).1,q' H4 (Same.refl _)⟩;exact AO (Nat.log2_le_self _) (by omega)
       refine⟨D1,rfl,⟨_,SqL.of hd1⟩,?_⟩;refine ii (qs.map V.str) (fun v => !inV v (xs.map V.str)) id cs (SqL.of hd1) ?_ ?_ ?_ ?_
       . rw[Ab];exact (by decide:qs.length<=HY)
       . intro v hv H5 e5 Q' q';obtain⟨y,hy,rfl⟩:=AF.mp hv;exact⟨_,rfl,_,rfl,nl,_,rfl,.inl (SqL.of (e5 _ _ (e4 _ _ hN2))),rfl,ee _,_,rfl,q' H5 (Same.refl _)⟩
       . intro v hv hpv H5 e5 Q' q';obtain⟨y,hy,rfl⟩:=AF.mp hv;exact⟨_,rfl,q' H5 (Same.refl _)⟩
       . intro D2 H5 hD2 e5 hd2;have hw:((qs.map V.str).filter (fun v => !inV v (xs.map V.str))).map id=(qs.filter fun x => !decide (x∈xs)).map V.str:=by
          rw[Ck,DZ]
          congr 1
          apply E7;intro x _;show (!inV (.str x) (xs.map V.str))=_;rw[dm]
         rw[hw] at hd2;obtain⟨y,r,ey,hy,hyn⟩:=a87 hx8;rw[ey] at hd2;have e6:=e4.trans e5;refine⟨D2,_,0,.str y,rfl,rfl,SqL.of hd2,dv (j:=0) rfl,?_⟩;refine⟨_,rfl,.inl ⟨rfl,_,SqL.of (e6 _ _ hN2)⟩,_,rfl,nl,_,.str y,rfl,rfl,e6 _ _ hN2,?_,?_⟩
         . rw[Ab];exact AO hx8 (by decide)
         refine⟨kx hn0 (e2.trans e6) _,n2,xs++[y],_,_,_,_,?_,?_,?_,?_,?_,mi hnn hyn,hstep y (by unfold yr;rw[if_pos (of_decide_eq_true cb),ey];rfl),rfl⟩
         . rw[ai hfn];exact e6 _ _ hF2
         . rw[ai htn];exact e6 _ _ hT2
         . rw[ab,Al];rfl
         . rw[Ae,AN,hxl]
         . intro x hx;rcases Aq.mp hx with h|h
           . exact hxs x h
           . simp only[Am,Au,or_false] at h;rw[h];exact hy
     . rw[hb] at cb;have hb2:=of_decide_eq_false cb;have hnm:b8 wd=true:=hW.name (by omega) (by omega) (fun z=>hb2 (.inl z));refine⟨_,rfl,.inl ⟨rfl,_,SqL.of hN2⟩,_,rfl,nl,_,.str wd,rfl,rfl,hN2,?_,?_⟩
       . rw[Ab];exact AO hx8 (by decide)
       refine⟨kx hn0 e2 _,n2,xs++[wd],_,_,_,_,?_,?_,?_,?_,?_,mi hnn (fun z=>hb2 (.inr z)),hstep wd (by unfold yr;rw[if_neg hb2]),rfl⟩
       . rw[ai hfn];exact hF2
       . rw[ai htn];exact hT2
       . rw[ab,Al];rfl
       . rw[Ae,AN,hxl]
       . intro x hx;rcases Aq.mp hx with h|h
         . exact hxs x h
         . simp only[Am,Au,or_false] at h;rw[h];exact hnm
 . rintro σ H' ⟨e,n,xs,z5,z6,z7,z8,hF,hT,hN,hxl,hxs,hnn,hit,rfl⟩;exact⟨_,rfl,q nl xs H' (by unfold anyF;rw[<- hit]) e hn0 hN hxl hxs hnn⟩
def jx:Str := "jx4jx4jx"
def yy:Str := "y"
def ah:Str := "abcdefgh"
def s26:Str := "abcdefghijklmnopqrstuvwxyz"
def fig:Str := "0123456789"
def s36:Str:=s26++fig
def a5h(m:Int):Str:=cutS jx (some m) none++yy
def vh(m:Int)(k:Nat):Str:=cutS (a5h m) none (some (1+(0+(k:Int))))
theorem a74:∀m∈[(0:Int),1],(cutS jx (some m) none).length+yy.length<=HY/\(a5h m).length<=HY/\(∀k∈Bg 8,b8 (vh m k)=true)/\((Bg 8).map (vh m)).Nodup:=by decide
theorem a80:jx.length<=HY:=by decide
theorem a8w:ah.length<=HY:=by decide
theorem aa4:(ah.cps.toList.length:Int)=8:=by decide
theorem a8v:s26.length=26:=by decide
theorem a8h:s36.length=36:=by decide
theorem aao:∀c∈ah.cps.toList,decide (c∈Mir.letters.cps.toList)=true/\df c=true:=by decide
theorem a4f:∀c∈s26.cps.toList,decide (c∈Mir.letters.cps.toList)=true/\df c=true:=by decide
theorem aa8:∀c∈s36.cps.toList,df c=true:=by decide
def far(l:List Nat):Nat:=(l.filter fun c => !decide (c∈ah.cps.toList)).length
theorem a2g(a b:List Nat):far (a++b)=far a+far b:=by unfold far;rw[CT,Ae]
theorem a1n{c:Nat}(h:c∈ah.cps.toList)(n:Nat):far (AD n c)=0:=by
 unfold far;rw[List.filter_eq_nil_iff.mpr]
 . rfl
 . intro x hx;rw[Dx hx];simp[h]
theorem a8c(d:Nat):far [d]<=1:=by unfold far;exact Bd _ _
theorem a9p:∀x∈Mir.noNames,2<=far x.cps.toList:=by decide
def gu(c0 d:Nat)(a b:Int):Str:=reps c0 a++⟨#[d]⟩++reps c0 b
theorem a2r{c0 d:Nat}{a b:Int}(hc:c0∈ah.cps.toList)(ha:0<=a)(hb:0<=b)(hab:a+b<=7)(hd:df d=true)(h0:a=0->decide (d∈Mir.letters.cps.toList)=true):b8 (gu c0 d a b)=true:=by
 have e:(gu c0 d a b).cps.toList=AD a.toNat c0++[d]++AD b.toNat c0:=by
  unfold gu reps;show (((AD a.toNat c0).toArray ++ #[d])++(AD b.toNat c0).toArray).toList=_;rw[Ef,Ef]
 have hl:(gu c0 d a b).length=a.toNat+1+b.toNat:=by
  show (gu c0 d a b).cps.size=_;rw[<- Bp,e,Ae,Ae,BS,BS];rfl
 have hco:=aao c0 hc;have hW:Word (a.toNat+1+b.toNat) (gu c0 d a b):=by
  refine⟨hl,?_,?_⟩
  . rw[e];by_cases ha0:a=0
    . subst ha0;exact h0 rfl
    . obtain⟨n,hn⟩:∃n,a.toNat=n+1:=⟨a.toNat-1,by omega⟩
      rw[hn,BG];exact hco.1
  . rw[e,Fd,Fd];have h1:∀n,(AD n c0).all df=true:=fun n=>by
     rw[BD];intro x hx;rw[Dx hx];exact hco.2
    rw[h1,h1];simp[hd]
 refine hW.name (by omega) (by omega) fun hn=>?_;have h1:=a9p _ hn;rw[e,a2g,a2g,a1n hc,a1n hc] at h1;have h2:=a8c d;omega
theorem a0x{c0 d d':Nat}{a b:Int}(h:gu c0 d a b=gu c0 d' a b):d=d':=by
 have e:∀x,(gu c0 x a b).cps.toList=AD a.toNat c0++[x]++AD b.toNat c0:=fun x=>by
  show ((⟨(AD a.toNat c0).toArray⟩:Str)++⟨#[x]⟩++⟨(AD b.toNat c0).toArray⟩:Str).cps.toList=_;simp[Str.cps_append]
 have h2:=congrArg (fun z:Str=>z.cps.toList) h;simp only[e] at h2;have h3:=List.append_cancel_right h2;have h4:=List.append_cancel_left h3;exact (Ey h4).1
theorem a5w:s26.cps.toList.Nodup:=by decide
theorem a5n:s36.cps.toList.Nodup:=by decide
theorem a6c{σ:St}{i:Nat}{v:Option V}(h:σ[i]?=some v):σ.set i v=σ:=by
 apply Gq;intro j;by_cases hj:i=j
 . subst hj;rw[DF (Av.mp h).1,h]
 . rw[DR hj]
def sa(a:Int):Str:=if 0<a then s36 else s26
def nm1(i:Int)(j:Nat):Str:=gu (chF ah.cps.toList (i / 192 % 8)) (chF (sa (i / 24 % (1+i / 3 % 8))).cps.toList ((i / 1536+(0+(j:Int))*(1+i % 3)) % ((sa (i / 24 % (1+i / 3 % 8))).length:Int))) (i / 24 % (1+i / 3 % 8)) (1+i / 3 % 8-1-i / 24 % (1+i / 3 % 8))
def nmF(i:Int):List Str:=if i % 3=1 then (Bg 8).map (vh (i / 3 % 2)) else (Bg 8).map (nm1 i)
def aam:TS:=fun D σ H=>∃a:Int,σ[4]?=some (some (.int a))/\σ[6]?=some (some (.str s26))/\∀sm:Str,sm=sa a->D.nx (σ.set 6 (some (.str sm))) H
theorem a5b(D:Ends)(σ:St)(H:Hp)(h:aam D σ H):tIfS (kq (tOp (rI0 fun i j=>.bl (decide (j<i))) (tVar 4) (tC (.int 0)))) (tAsg (tOp (fun x y H Q=>∃i j,x=.str i/\y=.str j/\i.length+j.length<=HY/\Q (.str (i++j)) H) (tVar 6) (tC (.str fig))) (bp 6)) a3e D σ H:=by
 obtain⟨a,h4,h6,q⟩:=h;refine⟨_,h4,_,_,rfl,rfl,_,rfl,iteB (fun c=>?_) (fun c=>?_)⟩
 . refine⟨_,h6,s26,fig,rfl,rfl,by decide,?_⟩;exact q s36 (by unfold sa;rw[if_pos (of_decide_eq_true c)])
 . have:=q s26 (by unfold sa;rw[if_neg (of_decide_eq_false c)]);rw[a6c h6] at this;exact this
theorem scNames:FnScope ["_law_cell","_law_word","_law_k","_law_size","_law_at","_law_other","_law_some","_law_names_here","_law_one"] ["_law_cell"] (b7 a0k):=⟨rfl,rfl,rfl,by decide,rfl,by decide,by decide⟩
theorem a64(C:Con K mg w)(hrg:mg "range"=none)(F:Fun K "_law_names" "_law_names" a0k f fd):
 FnOk P w K mg base CX0 1 f fd ["_law_cell"] (ul mg nmF):=by
 refine F.okQ scNames (fun vs H Q E h=>?_) (fun cdv A outer s H vs Q E hr h=>?_)
 . obtain⟨i,rfl,_⟩:=h;rfl
 obtain⟨i,rfl,q⟩:=h;have nd:=scNames.nd;refine⟨_,ae (bf (ax bo (am br (qv 0) ac) ac (ay _))
  (ae (av (i:=1) nd rfl (Or.inr rfl) (am ji (dr a5x bv (ek (am br (am bt (qv 0) ac) ac)) ft) bv))
  (aj (az (a0j 1 (cz rfl hrg (ci aa)) (fun _ _ _ _=>db) (fun _ _ _ _=>dr a5x (qv 1) ft (ek (am cw ac (qv 0)))))))) bm)
  (ae (av (i:=3) nd rfl (Or.inl rfl) (am cw ac (am br (am bt (qv 0) ac) ac)))
  (ae (av (i:=4) nd rfl (Or.inl rfl) (am br (am bt (qv 0) ac) (qv 3)))
  (ae (av (i:=5) nd rfl (Or.inl rfl) (ag qq bv (am br (am bt (qv 0) ac) ac) (fun _ _=>rfl)))
  (ae (av (i:=6) nd rfl (Or.inl rfl) bv)
  (ae (vm (bf (ax kg (qv 4) ac (ay _)) (aj (av (i:=6) nd rfl (Or.inl rfl) (am ji (qv 6) bv))) bm) a5b)
  (ae (av (i:=7) nd rfl (Or.inl rfl) (bb aa))
  (ae (dq AS rfl (cz rfl hrg (ci aa)) (bj (i:=2) nd rfl (Or.inl rfl))
   (ae (av (i:=8) nd rfl (Or.inl rfl) (ag qq (qv 6) (am br (am cw (am bt (qv 0) ac) (am pi (qv 2) (am cw ac (am br (qv 0) ac)))) (aw re rfl C.len Ap (af (qv 6) aa))) (fun _ _=>rfl)))
   (aj (bu (cq (K:=K) rfl As Az AA bq (qv 7)
    (da (am ji (am ji (am t8 (qv 5) (qv 4)) (qv 8)) (am t8 (qv 5) (am ja (am ja (qv 3) ac) (qv 4)))) aa))))))
  (aj (az (qv 7)))))))))),?_⟩
 refine⟨_,rfl,_,_,rfl,rfl,(show (0:Int)<3 by decide),rfl,_,rfl,iteB (fun c2=>?_) (fun c2=>?_)⟩
 . -- beginnings of one another
   have m0:=AM (i / 3) (show (2:Int)≠0 by decide);have m1:=AW (i / 3) (show (0:Int)<2 by decide);have hm:i / 3 % 2∈[(0:Int),1]:=by
    simp only[Am,Au,or_false];omega
   obtain⟨j1,j2,j3,j4⟩:=a74 _ hm;refine⟨_,rfl,_,_,rfl,rfl,(show CDiv _ 3 from⟨by decide,by decide⟩),_,_,rfl,rfl,(show (0:Int)<2 by decide),_,rfl,jx,rfl,a80,_,yy,rfl,rfl,j1,?_⟩;refine⟨_,rfl,(by decide),(by decide),?_⟩;refine qd (nums 0 8) (Bg 8) (vh (i / 3 % 2)) pq trivial (by simp[nums]) (by simp[nums]) (fun i' x r hx hr' H4 e4 Q' q'=>?_) fun D1 H4 hD1 e4 hd1=>?_
   . have hx':x=.int ((0:Int)+(r:Nat)):=by
      unfold nums at hx;rw[Ah,hr'] at hx;exact (Ay hx).symm
     subst hx';exact⟨_,rfl,_,rfl,_,_,rfl,rfl,_,rfl,_,rfl,j2,q' H4 (Same.refl _)⟩
   . refine q D1 _ H4 (by unfold nmF;rw[if_pos (by simpa using c2)]) e4 hD1 hd1 (by simp) (fun x hx=>?_) j4;obtain⟨k,hk,rfl⟩:=AF.mp hx;exact j3 k hk
 have g0:=AM (i / 3) (show (8:Int)≠0 by decide);have g1:=AW (i / 3) (show (0:Int)<8 by decide);have hsz:(0:Int)<1+i / 3 % 8:=by omega
 have a0:=AM (i / 24) (show 1+i / 3 % 8≠0 by omega);have a1:=AW (i / 24) hsz;obtain⟨c0,hc0,hcm⟩:=jn (xs:=ah.cps.toList) (m:=8) (i:=i / 192) aa4 (by decide);refine⟨_,rfl,_,_,rfl,rfl,(show CDiv _ 3 from⟨by decide,by decide⟩),_,_,rfl,rfl,(show (0:Int)<8 by decide),_,_,rfl,rfl,?_⟩;refine⟨_,rfl,_,_,rfl,rfl,(show CDiv _ 24 from⟨by decide,by decide⟩),_,rfl,_,_,rfl,rfl,hsz,?_⟩;refine⟨_,rfl,_,_,rfl,rfl,(show CDiv _ 192 from⟨by decide,by decide⟩),_,_,rfl,rfl,(show (0:Int)<8 by decide),ah,_,c0,rfl,rfl,a8w,hc0,?_⟩;refine⟨_,rfl,rfl,fun sm hsm0=>?_⟩;have hsm:sm=s26\/(0<i / 24 % (1+i / 3 % 8)/\sm=s36):=by
  unfold sa at hsm0;by_cases c:0<i / 24 % (1+i / 3 % 8)
  . rw[if_pos c] at hsm0;exact .inr ⟨c,hsm0⟩
  . rw[if_neg c] at hsm0;exact .inl hsm0
 have hsml:sm.length=26\/sm.length=36:=by
  rcases hsm with h|h
  . exact .inl (by rw[h];exact a8v)
  . exact .inr (by rw[h.2];exact a8h)
 have hsmLine:sm.length<=HY:=by
  rcases hsml with h|h<;>rw[h]<;>decide
 have hsm2:sm.cps.toList.length=sm.length:=Bp ..;refine⟨AG _,fun nl hnl=>?_⟩;have s1:=ad hnl (.lst []);refine⟨_,rfl,(by decide),(by decide),?_⟩;refine gi (lo:=0) (n:=8) (fun k σ H'=>Same H H'/\∃xs z2 z8,H' nl=some (.lst ((xs:List Str).map V.str))/\xs.length=k/\(∀x∈xs,b8 x=true)/\xs.Nodup/\xs=(Bg k).map (nm1 i)/\(∀x∈xs,∃(j:Nat) (d:Nat),j<k/\atI sm.cps.toList ((i / 1536+(0+(j:Int))*(1+i % 3)) % (sm.length:Int))=some d/\x=gu c0 d (i / 24 % (1+i / 3 % 8)) (1+i / 3 % 8-1-i / 24 % (1+i / 3 % 8)))/\
  σ=[some (.int (i)),none,z2,some (.int (1+i / 3 % 8)),some (.int (i / 24 % (1+i / 3 % 8))),some (.str ⟨#[c0]⟩),some (.str sm),some (.ref nl),z8]) ⟨s1,[],none,none,ab,rfl,by simp,.nil,rfl,by simp,rfl⟩ ?_ ?_
 . rintro k σ H' hk ⟨e,xs,z2,z8,hN,hxl,hxs,hnn,hxe,hsrc,rfl⟩;obtain⟨d,hd,hdm⟩:=jn (xs:=sm.cps.toList) (m:=(sm.length:Int)) (i:=i / 1536+(0+(k:Int))*(1+i % 3)) (by rw[hsm2]) (by omega);refine⟨_,rfl,_,rfl,_,_,rfl,rfl,(show CDiv _ 1536 from⟨by decide,by decide⟩),_,rfl,_,rfl,_,_,rfl,rfl,(show (0:Int)<3 by decide),_,_,rfl,rfl,_,_,rfl,rfl,.inl ⟨by omega,by omega⟩,_,_,rfl,rfl,_,rfl,sm,rfl,hsmLine,_,_,rfl,rfl,(by omega),sm,_,d,rfl,rfl,hsmLine,hd,?_⟩;have hdo:df d=true:=by
    rcases hsm with h|h
    . rw[h] at hdm;exact (a4f d hdm).2
    . rw[h.2] at hdm;exact aa8 d hdm
   have hd0:i / 24 % (1+i / 3 % 8)=0->decide (d∈Mir.letters.cps.toList)=true:=fun h0=>by
    rcases hsm with h|h
    . rw[h] at hdm;exact (a4f d hdm).1
    . have:=h.1;omega
   have hnm:=a2r (c0:=c0) (d:=d) (a:=i / 24 % (1+i / 3 % 8)) (b:=1+i / 3 % 8-1-i / 24 % (1+i / 3 % 8)) hcm a0 (by omega) (by omega) hdo hd0;have r1:∀n:Int,(reps c0 n).length=n.toNat:=fun n=>by
    show (HI _).size=_;rw[AB,BS]
   refine⟨_,rfl,.inl ⟨rfl,_,SqL.of hN⟩,_,rfl,_,rfl,c0,_,rfl,rfl,a0,(by omega),_,rfl,_,_,rfl,rfl,?_,?_⟩
   . rw[r1];exact Aw (show (i / 24 % (1+i / 3 % 8)).toNat+1<=1000 by omega) (by decide)
   refine⟨_,rfl,_,rfl,_,_,rfl,rfl,_,rfl,_,_,rfl,rfl,c0,_,rfl,rfl,(by omega),(by omega),_,_,rfl,rfl,?_,?_⟩
   . have hl:(reps c0 (i / 24 % (1+i / 3 % 8))++(⟨#[d]⟩:Str)).length=(i / 24 % (1+i / 3 % 8)).toNat+1:=by
      rw[Str.length_append,r1];rfl
     rw[hl,r1];exact Aw (show (i / 24 % (1+i / 3 % 8)).toNat+1+(1+i / 3 % 8-1-i / 24 % (1+i / 3 % 8)).toNat<=1000 by omega) (by decide)
   refine⟨nl,_,_,rfl,rfl,hN,?_,?_⟩
   . rw[Ab,hxl];exact AO (show k<=1000 by omega) (by decide)
   refine⟨kx hnl e _,xs++[gu c0 d (i / 24 % (1+i / 3 % 8)) (1+i / 3 % 8-1-i / 24 % (1+i / 3 % 8))],_,_,?_,?_,?_,mi hnn ?_,?_,?_,rfl⟩
   . rw[ab,Al];rfl
   . rw[Ae,AN,hxl]
   . intro x hx;rcases Aq.mp hx with h|h
     . exact hxs x h
     . simp only[Am,Au,or_false] at h;rw[h];exact hnm
   . intro hx;obtain⟨j,d',hj,hd',hq⟩:=hsrc _ hx;have hdd:=a0x hq;subst hdd;have hsn:sm.cps.toList.Nodup:=by
      rcases hsm with h|h
      . rw[h];exact a5w
      . rw[h.2];exact a5n
     have hLp:(0:Int)<(sm.length:Int):=by rcases hsml with h|h<;>rw[h]<;>decide
     have hij:=a1p hsn (AM _ (by omega)) (AM _ (by omega)) hd hd';have hi3:i % 3=0\/i % 3=2:=by
      have:¬ i % 3=1:=by simpa using c2
      omega
     rcases hsml with h|h<;>rw[h] at hij<;>rcases hi3 with h3|h3<;>rw[h3] at hij<;>omega
   . rw[List.range_succ,Al,<- hxe]
     congr 1
     show _=[nm1 i k]
     unfold nm1;rw[<- hsm0,uu hd,uu hc0]
   . intro x hx;rcases Aq.mp hx with h|h
     . obtain⟨j,d',hj,z1,z2⟩:=hsrc x h;exact⟨j,d',by omega,z1,z2⟩
     . simp only[Am,Au,or_false] at h;exact⟨k,d,by omega,hd,h⟩
 . rintro σ H' ⟨e,xs,z2,z8,hN,hxl,hxs,hnn,hxe,hsrc,rfl⟩;exact⟨_,rfl,q nl xs H' (by unfold nmF;rw[if_neg (by simpa using c2)];exact hxe) e hnl hN hxl hxs hnn⟩
abbrev a2k:IP:=top 52
abbrev wg:IP:=top 55
abbrev ud:IP:=top 56
abbrev a3t:IP:=top 59
def em(ys:List Str)(r:List Str):Prop:=∃k u v:Str,r=[k,u,v]/\(k="is" \/ k="not")/\u∈ys/\v∈ys
def gc(ys:List Str)(r:List Str):Prop:=(∃a f s:Str,r=[("cell":Str),a,f,s]/\a∈ys/\(f∈ys\/f="any")/\(s∈ys\/s="any"))\/(∃a b:Str,r=[("stretch":Str),a,b]/\a∈ys/\b∈ys)\/∃a:Str,r=[("tree":Str),a]/\a∈ys
theorem cx(ys:List Str)(h0:0<ys.length)(i:Int):∃v:Str,atI (ys.map V.str) (i % (((ys.map V.str).length:Nat):Int))=some (.str v)/\v∈ys:=by
 obtain⟨v,hv,hm⟩:=jn (xs:=ys.map V.str) (m:=(((ys.map V.str).length:Nat):Int)) (i:=i) rfl (by rw[Ab];omega);obtain⟨y,hy,rfl⟩:=AF.mp hm;exact⟨y,hv,hy⟩
theorem a06(ys:List Str){n:Int}(hn:(ys.length:Int)=n)(h0:0<n)(i:Int):∃v:Str,atI (ys.map V.str) (i % n)=some (.str v)/\v∈ys:=by
 obtain⟨v,hv,hm⟩:=jn (xs:=ys.map V.str) (m:=n) (i:=i) (by rw[Ab];exact hn) h0;obtain⟨y,hy,rfl⟩:=AF.mp hm;exact⟨y,hv,hy⟩
theorem uh(i:Int):∃v:Str,atI [V.str "is",V.str "not"] (i % 2)=some (.str v)/\(v="is" \/ v="not"):=by
 obtain⟨v,hv,hm⟩:=jn (xs:=[V.str "is",V.str "not"]) (m:=2) (i:=i) rfl (by decide);simp only[Am,Au,or_false] at hm;rcases hm with rfl|rfl
 . exact⟨_,hv,.inl rfl⟩
 . exact⟨_,hv,.inr rfl⟩
structure NewT(K:Ac)(H H':Hp)(t fa pa:HW)(F P:List (List Str))(ys:List Str)(n:Nat):Prop where
 e:Same H H'
 nf:H fa=none
 np:H pa=none
 tup:H' t=some (.tup [.ref fa,.ref pa])
 facts:RowsAt K H' fa F
 parts:RowsAt K H' pa P
 okF:∀r∈F,em ys r
 okP:∀r∈P,gc ys r
 lf:F.length<=n
 lp:P.length<=n
inductive spTold(K:Ac)(vs:List V)(H:Hp)(Q:VK)(E:XK):Prop
 | mk (c:Int)(l:HW)(xs:List Str)(h0:vs=[.int c,.ref l])(h1:H l=some (.lst (xs.map V.str)))(h2:xs.length<=20)(q:∀t fa pa F P H',NewT K H H' t fa pa F P (xs++[("nil":Str)]) 2->Q (.ref t) H'):spTold K vs H Q E
inductive TI1(K:Ac)(H:Hp)(c:Int)(l sm fa pa:HW)(F:List (List Str))(ys:List Str)(i:Nat)(σ:St)(H5:Hp):Prop
 | mk (as:List HW)(P:List (List Str))(z5 z6 z7 z8:Option V)(e:Same H H5)(hsm:H5 sm=some (.lst (ys.map V.str)))(hF:RowsAt K H5 fa F)(hp:H5 pa=some (.lst (as.map V.ref)))(hpp:IE (fun b r=>RowAt K H5 b r) as P)(hl:P.length=i)(ok:∀r∈P,gc ys r)(hs:σ=[iQ c,rQ l,rQ sm,rQ fa,rQ pa,z5,z6,z7,z8]):TI1 K H c l sm fa pa F ys i σ H5
theorem a65{K:Ac}{H:Hp}{l b:HW}{xs ys:List V}{W:List (List Str)}(hl:H l=some (.lst xs))(h:RowsAt K H b W)(hne:b≠l):RowsAt K (upd H l (.lst ys)) b W:=by
 obtain⟨as,h1,h2⟩:=h;exact⟨as,by rw[ai hne];exact h1,Paired.mapP h2 fun _ _ z=>sg hl z⟩
theorem scTold:FnScope ["_law_cell","_law_names_here","_law_some","_law_facts","_law_parts","_law_k","_law_mixed","_law_place","_law_first"] ["_law_cell","_law_names_here"] (b7 a2k):=⟨rfl,rfl,rfl,by decide,rfl,by decide,by decide⟩
theorem a85(C:Con K mg w)(F:Fun K "_law_told" "_law_told" a2k f fd):FnOk P w K mg base CX0 1 f fd ["_law_cell","_law_names_here"] (spTold K):=by
 refine F.okQ scTold (fun vs H Q E h=>?_) (fun cdv A outer s0 H vs Q E hr h=>?_)
 . obtain⟨c,l,xs,rfl,_⟩:=h;rfl
 obtain⟨c,l,xs,rfl,hL,hx,q⟩:=h;have nd:=scTold.nd;refine⟨_,ae (av (i:=2) nd rfl (Or.inl rfl) (am ce (qv 1) (bb (ba aa))))
  (ae (av (i:=3) nd rfl (Or.inl rfl) (bb aa))
  (ae (bf (ax bo (am br (qv 0) ac) ac (ay _)) (aj (bu (cq (K:=K) rfl As Az AA bq (qv 3) (di (ar (ag bc (bb (ba (ba aa))) (am br (am bt (qv 0) ac) ac) (fun _ _=>rfl)) (ar (ag bc (qv 2) (am br (am bt (qv 0) ac) (aw ap rfl C.len Ap (af (qv 2) aa))) (fun _ _=>rfl)) (ar (ag bc (qv 2) (am br (am bt (qv 0) ac) (aw ap rfl C.len Ap (af (qv 2) aa))) (fun _ _=>rfl)) aa))) aa)))) bm)
  (ae (av (i:=4) nd rfl (Or.inl rfl) (bb aa))
  (ae (dq AS rfl (cz rfl C.range (da (am br (am bt (qv 0) ac) ac) aa)) (bj (i:=5) nd rfl (Or.inl rfl)) (ae (av (i:=6) nd rfl (Or.inl rfl) (am br (am pi (am cw (am bt (qv 0) ac) ac) (am cw ac (am pi ac (qv 5)))) ac))
  (ae (av (i:=7) nd rfl (Or.inl rfl) (ag bc (qv 2) (am br (qv 6) (aw ap rfl C.len Ap (af (qv 2) aa))) (fun _ _=>rfl)))
  (ae (av (i:=8) nd rfl (Or.inl rfl) (ag bc (am ce (qv 2) (bb (ba aa))) (am br (am bt (qv 6) ac) (am cw (aw ap rfl C.len Ap (af (qv 2) aa)) ac)) (fun _ _=>rfl)))
  (aj (bf (ax bo (am br (am bt (qv 6) ac) ac) ac (ay _)) (aj (bu (cq (K:=K) rfl As Az AA bq (qv 4) (di (ba (af (qv 7) (af (qv 8) (ar (ag bc (am ce (qv 2) (bb (ba aa))) (am br (am bt (qv 6) ac) (am cw (aw ap rfl C.len Ap (af (qv 2) aa)) ac)) (fun _ _=>rfl)) aa)))) aa)))) (aj (bf (ax bo (am br (am bt (qv 6) ac) ac) ac (ay _)) (aj (bu (cq (K:=K) rfl As Az AA bq (qv 4) (di (ba (af (qv 7) (ar (ag bc (qv 2) (am br (am bt (qv 6) ac) (aw ap rfl C.len Ap (af (qv 2) aa))) (fun _ _=>rfl)) aa))) aa)))) (aj (bu (cq (K:=K) rfl As Az AA bq (qv 4) (di (ba (af (qv 7) aa)) aa))))))))))))
  (aj (az (er (af (qv 3) (af (qv 4) aa))))))))),?_⟩
 refine⟨_,rfl,(show 1<=HY by decide),fun x1 hx1=>?_⟩;have s1:=ad hx1 (.lst [.str "nil"]);have k1:(upd H x1 (.lst [.str "nil"])) x1=some (.lst [.str "nil"]):=ab;generalize upd H x1 (.lst [.str "nil"])=H1 at s1 k1 |-;refine⟨l,x1,_,_,rfl,rfl,s1 _ _ hL,k1,bx (by rw[Ab];show _+1<=1000;omega),fun sm hsm=>?_⟩;have s2:=ad hsm (.lst (xs.map V.str++[.str "nil"]));have k2:(upd H1 sm (.lst (xs.map V.str++[.str "nil"]))) sm=some (.lst ((xs++[("nil":Str)]).map V.str)):=by rw[ab,Al];rfl
 have e2:=s1.trans s2;have hyl:(xs++[("nil":Str)]).length=xs.length+1:=by rw[Ae];rfl
 generalize upd H1 sm (.lst (xs.map V.str++[.str "nil"]))=H2 at k2 e2 |-;generalize xs++[("nil":Str)]=ys at k2 hyl q;clear s1 s2 k1 hx1 hsm;refine⟨AG _,fun fa hfa=>?_⟩;have s3:=ad hfa (.lst []);have k3:(upd H2 fa (.lst [])) fa=some (.lst []):=ab;have nfa:H fa=none:=e2.free hfa;have e3:=e2.trans s3;have hsm3:=s3 _ _ k2;generalize upd H2 fa (.lst [])=H3 at s3 k3 e3 hsm3 |-;dsimp only[bp];refine b9 (a:=tIfS _ _ _) fun D' hN hRt hCt=>?_;have rest:∀(F:List (List Str)) (H4:Hp),Same H H4->H4 sm=some (.lst (ys.map V.str))->RowsAt K H4 fa F->(∀r∈F,em ys r)->F.length<=2->D'.nx [iQ c,rQ l,rQ sm,rQ fa,nQ,nQ,nQ,nQ,nQ] H4:=fun F H4 e4 hsm4 hF okF hFl=>by
  refine hN _ _ ?_;refine⟨AG _,fun pa hpa=>?_⟩;have s5:=ad hpa (.lst []);have k5:(upd H4 pa (.lst [])) pa=some (.lst []):=ab;have npa:H pa=none:=e4.free hpa;obtain⟨fas,hfa4,_⟩:=id hF;have nfp:fa≠pa:=aq hfa4 hpa;have nsp:sm≠pa:=aq hsm4 hpa;have h3:=AM (c / 7) (show (3:Int)≠0 by decide);have h3':=AW (c / 7) (show (0:Int)<3 by decide);refine⟨_,rfl,_,_,rfl,rfl,(show CDiv _ 7 from⟨by decide,by decide⟩),_,_,rfl,rfl,(show (0:Int)<3 by decide),_,rfl,by omega,by omega,?_⟩;refine gi (lo:=0) (n:=(c / 7 % 3).toNat) (TI1 K H c l sm fa pa F ys) ⟨[],[],none,none,none,none,e4.trans s5,s5 _ _ hsm4,hF.same s5,k5,.nil,rfl,(fun r hr=>by cases hr),rfl⟩ ?_ ?_
  . rintro i σ H5 hi ⟨as,Ps,z5,z6,z7,z8,e5,hsm5,hF5,hp5,hpp5,hpl5,ok5,rfl⟩;have hal:=Ao hpp5;refine⟨_,rfl,_,_,rfl,rfl,(show CDiv _ 294 from⟨by decide,by decide⟩),_,_,rfl,rfl,_,rfl,_,_,rfl,rfl,.inl ⟨by decide,by decide⟩,_,_,rfl,rfl,_,_,rfl,rfl,.inr ⟨by omega,by omega⟩,_,_,rfl,rfl,(show (0:Int)<2147483647 by decide),?_⟩;show bp _ (V.int ((c / 294+1)*(48271+7*(0+(i:Int))) % 2147483647)) _ _ _;have hm0:=AM ((c / 294+1)*(48271+7*(0+(i:Int)))) (show (2147483647:Int)≠0 by decide);generalize (c / 294+1)*(48271+7*(0+(i:Int))) % 2147483647=m at hm0 |-;have hlp:(0:Int)<(((ys.map V.str).length:Nat):Int):=by rw[Ab];omega
    have push:∀(t:HW) (r:List Str) (H6:Hp) (a b c' d:Option V),Same H5 H6->H6 t=some (.tup (r.map V.str))->gc ys r->TI1 K H c l sm fa pa F ys (i+1) [iQ c,rQ l,rQ sm,rQ fa,rQ pa,a,b,c',d] (upd H6 pa (.lst (as.map V.ref++[.ref t]))):=fun t r H6 a b c' d e6 ht hr'=>by
     have hp6:=e6 _ _ hp5;refine⟨as++[t],Ps++[r],a,b,c',d,fun b' o h=>by rw[ai (aq h npa)];exact (e5.trans e6) _ _ h,by rw[ai nsp];exact e6 _ _ hsm5,a65 hp6 (hF5.same e6) nfp,by rw[ab,Al];rfl,Paired.app (Paired.mapP hpp5 fun _ _ z=>sg hp6 (RowAt.same z e6)) (.cons (sg hp6 (SqT.of ht)) .nil),by rw[Ae,hpl5];rfl,fun x hx=>?_,rfl⟩;rcases Aq.mp hx with z|z
     . exact ok5 x z
     . rw[Ax.mp z];exact hr'
    obtain⟨y1,hy1,hm1⟩:=cx ys (by omega) m;refine⟨_,rfl,_,rfl,_,rfl,sm,_,rfl,.inl (SqL.of hsm5),_,_,rfl,rfl,hlp,sm,_,_,_,rfl,rfl,SqL.of hsm5,hy1,?_⟩;have more:∀n:Int,∃v:Str,atI ((ys++[("any":Str)]).map V.str) (n % ((((ys.map V.str).length:Nat):Int)+1))=some (.str v)/\(v∈ys\/v="any"):=fun n=>by
     obtain⟨v,hv,hm⟩:=a06 (ys++[("any":Str)]) (n:=(((ys.map V.str).length:Nat):Int)+1) (by rw[Ae,Ab];rfl) (by omega) n;refine⟨v,hv,?_⟩;rcases Aq.mp hm with z|z
     . exact .inl z
     . exact .inr (Ax.mp z)
    obtain⟨y2,hy2,hm2⟩:=more (m / 7);obtain⟨y3,hy3,hm3⟩:=more (m / 168);obtain⟨y4,hy4,hm4⟩:=cx ys (by omega) (m / 168);refine⟨_,rfl,(show 1<=HY by decide),fun x1 hx1=>?_⟩;have t1:=ad hx1 (.lst [.str "any"]);have u1:(upd H5 x1 (.lst [.str "any"])) x1=some (.lst [.str "any"]):=ab;generalize upd H5 x1 (.lst [.str "any"])=H6 at t1 u1 |-;refine⟨sm,x1,_,_,rfl,rfl,t1 _ _ hsm5,u1,bx (by rw[Ab];show _+1<=1000;omega),fun c1 hc1=>?_⟩;have t2:=ad hc1 (.lst (ys.map V.str++[.str "any"]));have u2:(upd H6 c1 (.lst (ys.map V.str++[.str "any"]))) c1=some (.lst ((ys++[("any":Str)]).map V.str)):=by rw[ab,Al];rfl
    have t12:=t1.trans t2;generalize upd H6 c1 (.lst (ys.map V.str++[.str "any"]))=H7 at t2 u2 t12 |-;have hsm7:=t12 _ _ hsm5;refine⟨_,rfl,_,_,rfl,rfl,(show CDiv _ 7 from⟨by decide,by decide⟩),_,rfl,sm,_,rfl,.inl (SqL.of hsm7),_,_,rfl,rfl,_,_,rfl,rfl,(by omega),c1,_,_,_,rfl,rfl,SqL.of u2,hy2,?_⟩;have hp7:=t12 _ _ hp5;refine⟨_,rfl,_,_,rfl,rfl,(show CDiv _ 56 from⟨by decide,by decide⟩),_,_,rfl,rfl,(show (0:Int)<3 by decide),rfl,_,rfl,iteB (fun _=>?_) (fun _=>?_)⟩
    . refine⟨_,rfl,(.inl ⟨rfl,_,SqL.of hp7⟩),_,rfl,_,rfl,_,rfl,(show 1<=HY by decide),fun x2 hx2=>?_⟩;have t3:=ad hx2 (.lst [.str "any"]);have u3:(upd H7 x2 (.lst [.str "any"])) x2=some (.lst [.str "any"]):=ab;generalize upd H7 x2 (.lst [.str "any"])=H8 at t3 u3 |-;refine⟨sm,x2,_,_,rfl,rfl,t3 _ _ hsm7,u3,bx (by rw[Ab];show _+1<=1000;omega),fun c2 hc2=>?_⟩;have t4:=ad hc2 (.lst (ys.map V.str++[.str "any"]));have u4:(upd H8 c2 (.lst (ys.map V.str++[.str "any"]))) c2=some (.lst ((ys++[("any":Str)]).map V.str)):=by rw[ab,Al];rfl
      have t34:=t3.trans t4;generalize upd H8 c2 (.lst (ys.map V.str++[.str "any"]))=H9 at t4 u4 t34 |-;refine⟨_,rfl,_,_,rfl,rfl,(show CDiv _ 168 from⟨by decide,by decide⟩),_,rfl,sm,_,rfl,.inl (SqL.of (t34 _ _ hsm7)),_,_,rfl,rfl,_,_,rfl,rfl,(by omega),c2,_,_,_,rfl,rfl,SqL.of u4,hy3,?_⟩;refine⟨(show 4<=HY by decide),fun t ht=>?_⟩;have t5:=ad ht (.tup [.str "cell",.str y1,.str y2,.str y3]);exact⟨pa,as.map V.ref,_,rfl,rfl,(t34.trans t5) _ _ hp7,cy (by rw[Ab];omega),push t [("cell":Str),y1,y2,y3] _ _ _ _ _ ((t12.trans t34).trans t5) ab (.inl ⟨y1,y2,y3,rfl,hm1,hm2,hm3⟩)⟩
    . refine⟨_,rfl,_,_,rfl,rfl,(show CDiv _ 56 from⟨by decide,by decide⟩),_,_,rfl,rfl,(show (0:Int)<3 by decide),rfl,_,rfl,iteB (fun _=>?_) (fun _=>?_)⟩
      . refine⟨_,rfl,(.inl ⟨rfl,_,SqL.of hp7⟩),_,rfl,_,rfl,_,rfl,_,_,rfl,rfl,(show CDiv _ 168 from⟨by decide,by decide⟩),_,rfl,sm,_,rfl,.inl (SqL.of hsm7),_,_,rfl,rfl,hlp,sm,_,_,_,rfl,rfl,SqL.of hsm7,hy4,?_⟩;refine⟨(show 3<=HY by decide),fun t ht=>?_⟩;have t5:=ad ht (.tup [.str "stretch",.str y1,.str y4]);exact⟨pa,as.map V.ref,_,rfl,rfl,t5 _ _ hp7,cy (by rw[Ab];omega),push t [("stretch":Str),y1,y4] _ _ _ _ _ (t12.trans t5) ab (.inr (.inl ⟨y1,y4,rfl,hm1,hm4⟩))⟩
      . refine⟨_,rfl,(.inl ⟨rfl,_,SqL.of hp7⟩),_,rfl,(show 2<=HY by decide),fun t ht=>?_⟩;have t5:=ad ht (.tup [.str "tree",.str y1]);exact⟨pa,as.map V.ref,_,rfl,rfl,t5 _ _ hp7,cy (by rw[Ab];omega),push t [("tree":Str),y1] _ _ _ _ _ (t12.trans t5) ab (.inr (.inr ⟨y1,rfl,hm1⟩))⟩
  . rintro σ H5 ⟨as,Ps,z5,z6,z7,z8,e5,hsm5,hF5,hp5,hpp5,hpl5,ok5,rfl⟩;refine⟨_,rfl,_,rfl,(show 2<=HY by decide),fun t ht=>?_⟩;have s6:=ad ht (.tup [.ref fa,.ref pa]);exact q t fa pa F Ps _ ⟨e5.trans s6,nfa,npa,ab,hF5.same s6,⟨as,s6 _ _ hp5,Paired.mapP hpp5 fun _ _ z=>RowAt.same z s6⟩,okF,ok5,hFl,by omega⟩
 refine⟨_,rfl,_,_,rfl,rfl,(show (0:Int)<3 by decide),rfl,_,rfl,iteB (fun _=>?_) (fun _=>?_)⟩
 . obtain⟨wd,hwd,hwd'⟩:=uh (c / 3);obtain⟨y1,hy1,hm1⟩:=cx ys (by omega) (c / 6);obtain⟨y2,hy2,hm2⟩:=cx ys (by omega) (c / 42);have hlp:(0:Int)<(((ys.map V.str).length:Nat):Int):=by rw[Ab];omega
   refine⟨_,rfl,(.inl ⟨rfl,_,SqL.of k3⟩),(show 2<=HY by decide),fun x2 hx2=>?_⟩;have t1:=ad hx2 (.lst [.str "is",.str "not"]);have u1:(upd H3 x2 (.lst [.str "is",.str "not"])) x2=some (.lst [.str "is",.str "not"]):=ab;generalize upd H3 x2 (.lst [.str "is",.str "not"])=H4 at t1 u1 |-;have hsm4:=t1 _ _ hsm3;refine⟨_,rfl,_,_,rfl,rfl,(show CDiv _ 3 from⟨by decide,by decide⟩),_,_,rfl,rfl,(show (0:Int)<2 by decide),x2,_,_,_,rfl,rfl,SqL.of u1,hwd,?_⟩;refine⟨_,rfl,_,rfl,_,_,rfl,rfl,(show CDiv _ 6 from⟨by decide,by decide⟩),_,rfl,sm,_,rfl,.inl (SqL.of hsm4),_,_,rfl,rfl,hlp,sm,_,_,_,rfl,rfl,SqL.of hsm4,hy1,?_⟩;refine⟨_,rfl,_,rfl,_,_,rfl,rfl,(show CDiv _ 42 from⟨by decide,by decide⟩),_,rfl,sm,_,rfl,.inl (SqL.of hsm4),_,_,rfl,rfl,hlp,sm,_,_,_,rfl,rfl,SqL.of hsm4,hy2,?_⟩;refine⟨(show 3<=HY by decide),fun t ht=>?_⟩;have t2:=ad ht (.tup [.str wd,.str y1,.str y2]);have u2:(upd H4 t (.tup [.str wd,.str y1,.str y2])) t=some (.tup [.str wd,.str y1,.str y2]):=ab;generalize upd H4 t (.tup [.str wd,.str y1,.str y2])=H5 at t2 u2 |-;have hfa5:=(t1.trans t2) _ _ k3;have nsf:sm≠fa:=aq k2 hfa;refine⟨fa,[],_,rfl,rfl,hfa5,cy (by decide),?_⟩;refine rest [[wd,y1,y2]] _ (fun b o h=>by rw[ai (aq h nfa)];exact (e3.trans (t1.trans t2)) _ _ h) (by rw[ai nsf];exact (t1.trans t2) _ _ hsm3) ⟨[t],ab,.cons (sg hfa5 (SqT.of u2)) .nil⟩ (fun r hr=>?_) (show 1<=2 by decide);rw[Ax.mp hr];exact⟨wd,y1,y2,rfl,hwd',hm1,hm2⟩
 . exact rest [] H3 e3 hsm3 ⟨[],k3,.nil⟩ (fun r hr=>by cases hr) (by decide)
end K40
namespace L2
def wo(H:Hp)(D:HW):Hp:=fun c=>if c=D then none else H c
theorem gg{H:Hp}{D c:HW}(h:c≠D):wo H D c=H c:=by unfold wo;rw[if_neg h]
theorem gv{H:Hp}{D:HW}:wo H D D=none:=by unfold wo;rw[if_pos rfl]
theorem gk{H:Hp}{D:HW}:Same (wo H D) H:=fun b u h=>by
 by_cases c:b=D
 . subst c;rw[gv] at h;cases h
 . rw[gg c] at h;exact h
theorem zj{H:Hp}{D:HW}{o:HO}:wo (upd H D o) D=wo H D:=by
 funext c
 by_cases h:c=D
 . subst h;rw[gv,gv]
 . rw[gg h,gg h,ai h]
theorem a9k{H:Hp}{D p:HW}{o:HO}(hp:H p=none):Same (wo H D) (wo (upd H p o) D):=fun b u h=>by
 by_cases c:b=D
 . subst c;rw[gv] at h;cases h
 . rw[gg c] at h |-;rw[ai (aq h hp)];exact h
theorem aah{H:Hp}{D p:HW}{o:HO}(hp:p≠D):wo (upd H p o) D p=some o:=by rw[gg hp,ab]
structure FS(G:Hp)(fe:HW)(H:Hp)(n:Int):Prop where
 fed:H fe=some (.lst [.int n])
 g:Same G (wo H fe)
theorem FS.take{G H:Hp}{fe:HW}{n k:Int}(h:FS G fe H n):FS G fe (upd H fe (.lst [.int k])) k:=⟨ab,by rw[zj];exact h.g⟩
theorem FS.at{G H:Hp}{fe b:HW}{n:Int}{o:HO}(h:FS G fe H n)(hb:G b=some o):H b=some o:=gk _ _ (h.g _ _ hb)
theorem FS.ne{H:Hp}{fe p:HW}{n:Int}(h:H fe=some (.lst [.int n]))(hp:H p=none):p≠fe:=(aq h hp).symm
theorem FS.new{G H:Hp}{fe p:HW}{n:Int}{o:HO}(h:FS G fe H n)(hp:H p=none):FS (wo (upd H p o) fe) fe (upd H p o) n/\Same G (wo (upd H p o) fe)/\(wo (upd H p o) fe) p=some o :=
 ⟨⟨by rw[ai (FS.ne h.fed hp).symm];exact h.fed,Same.refl _⟩,h.g.trans (a9k hp),aah (FS.ne h.fed hp)⟩
end L2
namespace K40
open L2 Mir
variable{P:IC}{w:IF}{K:Ac}{mg:Str->Option HX}{base:IJ}{f g gA gF gP gN gS gW gI gV gM gR gT gC gB gD gH gK gG gY:HW}{fd gd dA dF dP dN dS dW dI dV dM dR dT dC dB dD dH dK dG dY:II}
inductive spAnyRow(K:Ac)(vs:List V)(H:Hp)(Q:VK)(E:XK):Prop
 | mk (fe sm:HW)(n:Int)(ys:List Str)(sort:Str)(h0:vs=[.ref fe,.ref sm,.str sort])(h1:H fe=some (.lst [.int n]))(h2:H sm=some (.lst (ys.map V.str)))(h3:0<ys.length)(h4:ys.length<=30)(q:∀t r n' H',FS (wo H fe) fe H' n'->(wo H' fe) t=some (.tup ((r:List Str).map V.str))->(sort="fact" -> em ys r)->(¬ sort="fact" -> gc ys r)->Q (.ref t) H'):spAnyRow K vs H Q E
theorem a9b{H:Hp}{fe sm:HW}{n:Int}{ys:List Str}(h1:H fe=some (.lst [.int n]))(h2:H sm=some (.lst (ys.map V.str)))(h3:0<ys.length):sm≠fe:=fun z=>by
 rw[z,h1] at h2;cases ys with
 | nil=>cases h3
 | cons y ys=>simp at h2
theorem scAnyRow:FnScope ["_law_feed","_law_some","_law_sort","_law_way","_law_place","_law_more"] ["_law_feed","_law_some","_law_sort"] (b7 wg):=⟨rfl,rfl,rfl,by decide,rfl,by decide,by decide⟩
theorem a5z(C:Con K mg w)(F:Fun K "_law_any_row" "_law_any_row" wg f fd)(GT:FnOk P w K mg base CX0 1 gT dT ["_law_feed","_law_many"] lh)(cT:Cal K mg "_law_take" gT dT ["_law_feed","_law_many"]):FnOk P w K mg base CX0 2 f fd ["_law_feed","_law_some","_law_sort"] (spAnyRow K):=by
 refine F.okQ scAnyRow (fun vs H Q E h=>?_) (fun cdv A outer s0 H vs Q E hr h=>?_)
 . obtain⟨fe,sm,n,ys,sort,rfl,_⟩:=h;rfl
 obtain⟨fe,sm,n,ys,sort,rfl,hfe,hsm,h0,h30,q⟩:=h;have nd:=scAnyRow.nd;have hne:=a9b hfe hsm h0;have hl0:(0:Int)<(((ys.map V.str).length:Nat):Int):=by rw[Ab];omega
 have hl1:(((ys.map V.str).length:Nat):Int)<1073741824:=by rw[Ab];omega
 have S0:FS (wo H fe) fe H n:=⟨hfe,Same.refl _⟩
 have hsG:(wo H fe) sm=some (.lst (ys.map V.str)):=by rw[gg hne];exact hsm
 refine⟨_,ae (bf (ax bo (qv 2) bv (ay _)) (aj (az (er (ar (ag bc (bb (ba (ba aa))) (ak GT hr rfl cT.name cT.keep cT.bind .nil au (af (qv 0) (ci aa))) (fun _ _=>rfl)) (ar (ag bc (qv 1) (ak GT hr rfl cT.name cT.keep cT.bind .nil au (af (qv 0) (be (aw ap rfl C.len Ap (af (qv 1) aa)) aa))) (fun _ _=>rfl)) (ar (ag bc (qv 1) (ak GT hr rfl cT.name cT.keep cT.bind .nil au (af (qv 0) (be (aw ap rfl C.len Ap (af (qv 1) aa)) aa))) (fun _ _=>rfl)) aa)))))) bm)
  (ae (av (i:=3) nd rfl (Or.inl rfl) (ak GT hr rfl cT.name cT.keep cT.bind .nil au (af (qv 0) (ci aa))))
  (ae (av (i:=4) nd rfl (Or.inl rfl) (ag bc (qv 1) (ak GT hr rfl cT.name cT.keep cT.bind .nil au (af (qv 0) (be (aw ap rfl C.len Ap (af (qv 1) aa)) aa))) (fun _ _=>rfl)))
  (ae (bf (ax bo (qv 3) ac (ay _)) (ae (av (i:=5) nd rfl (Or.inl rfl) (am ce (qv 1) (bb (ba aa))))
  (aj (az (er (ba (af (qv 4) (ar (ag bc (qv 5) (ak GT hr rfl cT.name cT.keep cT.bind .nil au (af (qv 0) (be (aw ap rfl C.len Ap (af (qv 5) aa)) aa))) (fun _ _=>rfl)) (ar (ag bc (qv 5) (ak GT hr rfl cT.name cT.keep cT.bind .nil au (af (qv 0) (be (aw ap rfl C.len Ap (af (qv 5) aa)) aa))) (fun _ _=>rfl)) aa)))))))) bm)
  (ae (bf (ax bo (qv 3) ac (ay _)) (aj (az (er (ba (af (qv 4) (ar (ag bc (qv 1) (ak GT hr rfl cT.name cT.keep cT.bind .nil au (af (qv 0) (be (aw ap rfl C.len Ap (af (qv 1) aa)) aa))) (fun _ _=>rfl)) aa)))))) bm)
  (aj (az (er (ba (af (qv 4) aa))))))))),?_⟩
 refine⟨_,rfl,rfl,_,rfl,iteB (fun c=>?_) (fun c=>?_)⟩
 . have c':sort="fact" := by simpa using c
   refine⟨(show 2<=HY by decide),fun x1 hx1=>?_⟩;obtain⟨S1,e1,u1⟩:=S0.new (o:=.lst [.str "is",.str "not"]) hx1;generalize upd H x1 (.lst [.str "is",.str "not"])=H1 at S1 e1 u1 |-;obtain⟨wd,hwd,hwd'⟩:=uh n;refine⟨_,rfl,fe,n,2,rfl,S1.fed,by decide,by decide,?_⟩;have S2:=S1.take (k:=n / 2);generalize upd H1 fe (.lst [.int (n / 2)])=H2 at S2 |-;generalize n / 2=n2 at S2;obtain⟨y1,hy1,hm1⟩:=cx ys h0 n2;refine⟨x1,_,_,_,rfl,rfl,SqL.of (S2.at u1),hwd,?_⟩;refine⟨_,rfl,_,rfl,_,rfl,sm,_,rfl,.inl (SqL.of (S2.at (e1 _ _ hsG))),fe,n2,_,rfl,S2.fed,hl0,hl1,?_⟩;have S3:=S2.take (k:=n2 / (((ys.map V.str).length:Nat):Int));generalize upd H2 fe (.lst [.int (n2 / (((ys.map V.str).length:Nat):Int))])=H3 at S3 |-;generalize n2 / (((ys.map V.str).length:Nat):Int)=n3 at S3;obtain⟨y2,hy2,hm2⟩:=cx ys h0 n3;refine⟨sm,_,_,_,rfl,rfl,SqL.of (S3.at (e1 _ _ hsG)),hy1,?_⟩;refine⟨_,rfl,_,rfl,_,rfl,sm,_,rfl,.inl (SqL.of (S3.at (e1 _ _ hsG))),fe,n3,_,rfl,S3.fed,hl0,hl1,?_⟩;have S4:=S3.take (k:=n3 / (((ys.map V.str).length:Nat):Int));generalize upd H3 fe (.lst [.int (n3 / (((ys.map V.str).length:Nat):Int))])=H4 at S4 |-;refine⟨sm,_,_,_,rfl,rfl,SqL.of (S4.at (e1 _ _ hsG)),hy2,(show 3<=HY by decide),fun t ht=>?_⟩;obtain⟨S5,e5,u5⟩:=S4.new (o:=.tup [.str wd,.str y1,.str y2]) ht;exact q t [wd,y1,y2] _ _ ⟨S5.fed,e1.trans e5⟩ u5 (fun _=>⟨wd,y1,y2,rfl,hwd',hm1,hm2⟩) (fun z=>absurd c' z)
 have c':¬ sort="fact" := by simpa using c
 refine⟨_,rfl,fe,n,3,rfl,S0.fed,by decide,by decide,?_⟩;have S1:=S0.take (k:=n / 3);generalize upd H fe (.lst [.int (n / 3)])=H1 at S1 |-;generalize n / 3=n1 at S1;obtain⟨y1,hy1,hm1⟩:=cx ys h0 n1;refine⟨_,rfl,_,rfl,_,rfl,sm,_,rfl,.inl (SqL.of (S1.at hsG)),fe,n1,_,rfl,S1.fed,hl0,hl1,?_⟩;have S2:=S1.take (k:=n1 / (((ys.map V.str).length:Nat):Int));generalize upd H1 fe (.lst [.int (n1 / (((ys.map V.str).length:Nat):Int))])=H2 at S2 |-;generalize n1 / (((ys.map V.str).length:Nat):Int)=n2 at S2;refine⟨sm,_,_,_,rfl,rfl,SqL.of (S2.at hsG),hy1,?_⟩;refine⟨_,rfl,rfl,_,rfl,iteB (fun _=>?_) (fun _=>?_)⟩
 . refine⟨_,rfl,(show 1<=HY by decide),fun x1 hx1=>?_⟩;obtain⟨S3,e3,u3⟩:=S2.new (o:=.lst [.str "any"]) hx1;generalize upd H2 x1 (.lst [.str "any"])=H3 at S3 e3 u3 |-;refine⟨sm,x1,_,_,rfl,rfl,S3.at (e3 _ _ hsG),S3.at u3,bx (by rw[Ab];show _+1<=1000;omega),fun mo hmo=>?_⟩;obtain⟨S4,e4,u4⟩:=S3.new (o:=.lst (ys.map V.str++[.str "any"])) hmo;have u4':(wo (upd H3 mo (.lst (ys.map V.str++[.str "any"]))) fe) mo=some (.lst ((ys++[("any":Str)]).map V.str)):=by rw[u4,Al];rfl
   have hzl:(ys++[("any":Str)]).length=ys.length+1:=by rw[Ae];rfl
   have hzm:∀z∈ys++[("any":Str)],z∈ys\/z="any" := fun z hz=>(Aq.mp hz).imp id Ax.mp;generalize ys++[("any":Str)]=zs at u4' hzl hzm;generalize upd H3 mo (.lst (ys.map V.str++[.str "any"]))=H4 at S4 e4 u4' |-;have hz0:(0:Int)<(((zs.map V.str).length:Nat):Int):=by rw[Ab];omega
   have hz1:(((zs.map V.str).length:Nat):Int)<1073741824:=by rw[Ab];omega
   obtain⟨y2,hy2,hm2⟩:=cx zs (by omega) n2;refine⟨_,rfl,_,rfl,_,rfl,_,rfl,mo,_,rfl,.inl (SqL.of (S4.at u4')),fe,n2,_,rfl,S4.fed,hz0,hz1,?_⟩;have S5:=S4.take (k:=n2 / (((zs.map V.str).length:Nat):Int));generalize upd H4 fe (.lst [.int (n2 / (((zs.map V.str).length:Nat):Int))])=H5 at S5 |-;generalize n2 / (((zs.map V.str).length:Nat):Int)=n5 at S5;obtain⟨y3,hy3,hm3⟩:=cx zs (by omega) n5;refine⟨mo,_,_,_,rfl,rfl,SqL.of (S5.at u4'),hy2,_,rfl,_,rfl,_,rfl,mo,_,rfl,.inl (SqL.of (S5.at u4')),fe,n5,_,rfl,S5.fed,hz0,hz1,?_⟩;have S6:=S5.take (k:=n5 / (((zs.map V.str).length:Nat):Int));generalize upd H5 fe (.lst [.int (n5 / (((zs.map V.str).length:Nat):Int))])=H6 at S6 |-;refine⟨mo,_,_,_,rfl,rfl,SqL.of (S6.at u4'),hy3,(show 4<=HY by decide),fun t ht=>?_⟩;obtain⟨S7,e7,u7⟩:=S6.new (o:=.tup [.str "cell",.str y1,.str y2,.str y3]) ht;exact q t [("cell":Str),y1,y2,y3] _ _ ⟨S7.fed,(e3.trans e4).trans e7⟩ u7 (fun z=>absurd z c') (fun _=>.inl ⟨y1,y2,y3,rfl,hm1,hzm _ hm2,hzm _ hm3⟩)
 refine⟨_,rfl,rfl,_,rfl,iteB (fun _=>?_) (fun _=>?_)⟩
 . obtain⟨y2,hy2,hm2⟩:=cx ys h0 n2;refine⟨_,rfl,_,rfl,_,rfl,_,rfl,sm,_,rfl,.inl (SqL.of (S2.at hsG)),fe,n2,_,rfl,S2.fed,hl0,hl1,?_⟩;have S5:=S2.take (k:=n2 / (((ys.map V.str).length:Nat):Int));generalize upd H2 fe (.lst [.int (n2 / (((ys.map V.str).length:Nat):Int))])=H5 at S5 |-;refine⟨sm,_,_,_,rfl,rfl,SqL.of (S5.at hsG),hy2,(show 3<=HY by decide),fun t ht=>?_⟩;obtain⟨S7,e7,u7⟩:=S5.new (o:=.tup [.str "stretch",.str y1,.str y2]) ht;exact q t [("stretch":Str),y1,y2] _ _ ⟨S7.fed,e7⟩ u7 (fun z=>absurd z c') (fun _=>.inr (.inl ⟨y1,y2,rfl,hm1,hm2⟩))
 . refine⟨_,rfl,(show 2<=HY by decide),fun t ht=>?_⟩;obtain⟨S7,e7,u7⟩:=S2.new (o:=.tup [.str "tree",.str y1]) ht;exact q t [("tree":Str),y1] _ _ ⟨S7.fed,e7⟩ u7 (fun z=>absurd z c') (fun _=>.inr (.inr ⟨y1,rfl,hm1⟩))
end K40
namespace L2
theorem io{H:Hp}{D fe:HW}{o:HO}(h:D≠fe):wo (upd H D o) fe=upd (wo H fe) D o:=by
 funext c
 by_cases h1:c=fe
 . subst h1;rw[gv,ai h.symm,gv]
 . rw[gg h1];by_cases h2:c=D
   . subst h2;rw[ab,ab]
   . rw[ai h2,ai h2,gg h1]
theorem Same.new{G G':Hp}{D:HW}{o:HO}(e:Same G G')(hD:G D=none):Same G (upd G' D o):=fun b u h=>by rw[ai (aq h hD)];exact e b u h
theorem zy{K:Ac}{H:Hp}{l b:HW}{xs ys:List V}{r:List Str}(hl:H l=some (.lst xs))(h:RowAt K H b r):RowAt K (upd H l (.lst ys)) b r:=by
 rcases h with (h|⟨o,h⟩)|h
 . have hne:b≠l:=fun e=>by rw[e,hl] at h;cases h
   exact .inl (.inl (by show upd H l _ b=_;rw[ai hne];exact h))
 . have hne:b≠l:=fun e=>by rw[e,hl] at h;cases h
   exact .inl (.inr ⟨o,by show upd H l _ b=_;rw[ai hne];exact h⟩)
 . exact .inr h
theorem xy{K:Ac}{G H1:Hp}{σ:St}{ix:List Nat}{te:TE}{Q:VK}{fe:HW}{n1:Int}{N:Nat}(Pr:List Str->Prop)(hN:N<=1000)(S1:FS G fe H1 n1)(he:∀(D:HW) (i:Nat) H2 n2,FS G fe H2 n2->H2 D≠none->∀Q':VK,(∀b r n3 H3,FS (wo H2 fe) fe H3 n3->(wo H3 fe) b=some (.tup ((r:List Str).map V.str))->Pr r->Q' (.ref b) H3)->te (some (.int (0+(i:Int)))::cr σ ix) H2 Q')(hQ:∀D H' n' rs,H1 D=none->FS G fe H' n'->RowsAt K (wo H' fe) D rs->rs.length=N->(∀r∈rs,Pr r)->Q (.ref D) H'):i8 (Itr 0 N) H1 σ ix tYes te Q:=by
 intro D hD;have hDf:D≠fe:=FS.ne S1.fed hD;have hGD:G D=none:=by
  cases q:G D with
  | none=>rfl
  | some o=>have:=S1.at q;rw[hD] at this;cases this
 refine⟨fun i m H=>i<=N/\m=N-i/\∃(n:Int) (as:List HW) (rs:List (List Str)),FS G fe H n/\(wo H fe) D=some (.lst (as.map V.ref))/\IE (fun b r=>RowAt K (wo H fe) b r) as rs/\rs.length=i/\∀r∈rs,Pr r,⟨N,AG _,rfl,n1,[],[],⟨?_,?_⟩,?_,.nil,rfl,(fun r hr=>by cases hr)⟩,?_⟩
 . rw[ai hDf.symm];exact S1.fed
 . rw[io hDf];exact S1.g.new hGD
 . rw[io hDf,ab];rfl
 rintro i m H ⟨hi,rfl,n,as,rs,S,hDl,hpp,hlen,hPr⟩;by_cases hlt:i<N
 . refine .inr ⟨hlt,fun x H' hy=>?_⟩;obtain⟨rfl,rfl⟩:=hy;have hDl':H' D=some (.lst (as.map V.ref)):=gk _ _ hDl;refine he D i H' n S (by rw[hDl'];simp) _ fun b r n3 H3 S3 hb hr=>?_;have hal:=Ao hpp;have hD3:(wo H3 fe) D=some (.lst (as.map V.ref)):=S3.g _ _ hDl;refine⟨as.map V.ref,gk _ _ hD3,AO (by rw[Ab];omega:_<=1000) (by decide),N-(i+1),by omega,hlt,rfl,n3,as++[b],rs++[r],⟨?_,?_⟩,?_,?_,?_,?_⟩
   . rw[ai hDf.symm];exact S3.fed
   . rw[io hDf];exact (S.g.trans S3.g).new hGD
   . rw[io hDf,ab,Al];rfl
   . rw[io hDf];refine Paired.snocP (Paired.mapP hpp fun x y z=>?_) ?_
     . exact zy hD3 (RowAt.same z S3.g)
     . exact zy hD3 (SqT.of hb)
   . rw[Ae,hlen];rfl
   . intro x hx;rcases Aq.mp hx with z|z
     . exact hPr x z
     . rw[Ax.mp z];exact hr
 . have e:i=N:=by omega
   subst e;exact .inl ⟨Ar _,hQ D H n rs hD S ⟨as,hDl,hpp⟩ hlen hPr⟩
end L2
namespace K40
open L2 Mir
variable{P:IC}{w:IF}{K:Ac}{mg:Str->Option HX}{base:IJ}{f g gA gF gP gN gS gW gI gV gM gR gT gC gB gD gH gK gG gY:HW}{fd gd dA dF dP dN dS dW dI dV dM dR dT dC dB dD dH dK dG dY:II}
inductive spAnyTold(K:Ac)(vs:List V)(H:Hp)(Q:VK)(E:XK):Prop
 | mk (fe ow:HW)(n:Int)(xs:List Str)(mo:Nat)(h0:vs=[.ref fe,.ref ow,.int (mo:Int)])(h1:H fe=some (.lst [.int n]))(h2:H ow=some (.lst (xs.map V.str)))(h3:ow≠fe)(h4:xs.length<=20)(h5:mo<=10)(q:∀t fa pa F P n' H',FS (wo H fe) fe H' n'->NewT K (wo H fe) (wo H' fe) t fa pa F P (xs++[("nil":Str)]) mo->Q (.ref t) H'):spAnyTold K vs H Q E
inductive spCond(K:Ac)(vs:List V)(H:Hp)(Q:VK)(E:XK):Prop
 | mk (m:Int)(ow:HW)(xs:List Str)(h0:vs=[.int m,.ref ow])(h2:H ow=some (.lst (xs.map V.str)))(h4:xs.length<=20)(q:∀t r H',Same H H'->H' t=some (.tup ((r:List Str).map V.str))->em (xs++[("nil":Str)]) r->Q (.ref t) H'):spCond K vs H Q E
theorem scCond:FnScope ["_law_mixed","_law_own","_law_some"] ["_law_mixed","_law_own"] (b7 a3t):=⟨rfl,rfl,rfl,by decide,rfl,by decide,by decide⟩
theorem a8d(C:Con K mg w)(F:Fun K "_law_condition" "_law_condition" a3t f fd):FnOk P w K mg base CX0 1 f fd ["_law_mixed","_law_own"] (spCond K):=by
 refine F.okQ scCond (fun vs H Q E h=>?_) (fun cdv A outer s0 H vs Q E hr h=>?_)
 . obtain⟨m,ow,xs,rfl,_⟩:=h;rfl
 obtain⟨m,ow,xs,rfl,hL,hx,q⟩:=h;have nd:=scCond.nd;refine⟨_,ae (av (i:=2) nd rfl (Or.inl rfl) (am ce (qv 1) (bb (ba aa))))
  (aj (az (er (ar (ag bc (bb (ba (ba aa))) (am br (qv 0) ac) (fun _ _=>rfl)) (ar (ag bc (qv 2) (am br (am bt (qv 0) ac) (aw ap rfl C.len Ap (af (qv 2) aa))) (fun _ _=>rfl)) (ar (ag bc (qv 2) (am br (am bt (qv 0) ac) (aw ap rfl C.len Ap (af (qv 2) aa))) (fun _ _=>rfl)) aa)))))),?_⟩
 refine⟨_,rfl,(show 1<=HY by decide),fun x1 hx1=>?_⟩;have s1:=ad hx1 (.lst [.str "nil"]);have k1:(upd H x1 (.lst [.str "nil"])) x1=some (.lst [.str "nil"]):=ab;generalize upd H x1 (.lst [.str "nil"])=H1 at s1 k1 |-;refine⟨ow,x1,_,_,rfl,rfl,s1 _ _ hL,k1,bx (by rw[Ab];show _+1<=1000;omega),fun sm hsm=>?_⟩;have s2:=ad hsm (.lst (xs.map V.str++[.str "nil"]));have k2:(upd H1 sm (.lst (xs.map V.str++[.str "nil"]))) sm=some (.lst ((xs++[("nil":Str)]).map V.str)):=by rw[ab,Al];rfl
 have e2:=s1.trans s2;have hyl:(xs++[("nil":Str)]).length=xs.length+1:=by rw[Ae];rfl
 generalize upd H1 sm (.lst (xs.map V.str++[.str "nil"]))=H2 at k2 e2 |-;generalize xs++[("nil":Str)]=ys at k2 hyl q;obtain⟨wd,hwd,hwd'⟩:=uh m;obtain⟨y1,hy1,hm1⟩:=cx ys (by omega) (m / 2);obtain⟨y2,hy2,hm2⟩:=cx ys (by omega) (m / 14);have hlp:(0:Int)<(((ys.map V.str).length:Nat):Int):=by rw[Ab];omega
 refine⟨(show 2<=HY by decide),fun x2 hx2=>?_⟩;have t1:=ad hx2 (.lst [.str "is",.str "not"]);have u1:(upd H2 x2 (.lst [.str "is",.str "not"])) x2=some (.lst [.str "is",.str "not"]):=ab;generalize upd H2 x2 (.lst [.str "is",.str "not"])=H4 at t1 u1 |-;have hsm4:=t1 _ _ k2;refine⟨_,rfl,_,_,rfl,rfl,(show (0:Int)<2 by decide),x2,_,_,_,rfl,rfl,SqL.of u1,hwd,?_⟩;refine⟨_,rfl,_,rfl,_,_,rfl,rfl,(show CDiv _ 2 from⟨by decide,by decide⟩),_,rfl,sm,_,rfl,.inl (SqL.of hsm4),_,_,rfl,rfl,hlp,sm,_,_,_,rfl,rfl,SqL.of hsm4,hy1,?_⟩;refine⟨_,rfl,_,rfl,_,_,rfl,rfl,(show CDiv _ 14 from⟨by decide,by decide⟩),_,rfl,sm,_,rfl,.inl (SqL.of hsm4),_,_,rfl,rfl,hlp,sm,_,_,_,rfl,rfl,SqL.of hsm4,hy2,?_⟩;refine⟨(show 3<=HY by decide),fun t ht=>?_⟩;exact q t [wd,y1,y2] _ ((e2.trans t1).trans (ad ht _)) ab ⟨wd,y1,y2,rfl,hwd',hm1,hm2⟩
theorem scAnyTold:FnScope ["_law_feed","_law_own","_law_most","_law_some","_law_facts"] ["_law_feed","_law_own","_law_most"] (b7 ud):=⟨rfl,rfl,rfl,by decide,rfl,by decide,by decide⟩
theorem a3h(C:Con K mg w)(F:Fun K "_law_any_told" "_law_any_told" ud f fd)(GT:FnOk P w K mg base CX0 1 gT dT ["_law_feed","_law_many"] lh)(cT:Cal K mg "_law_take" gT dT ["_law_feed","_law_many"])(GR:FnOk P w K mg base CX0 2 gR dR ["_law_feed","_law_some","_law_sort"] (spAnyRow K))(cR:Cal K mg "_law_any_row" gR dR ["_law_feed","_law_some","_law_sort"]):FnOk P w K mg base CX0 3 f fd ["_law_feed","_law_own","_law_most"] (spAnyTold K):=by
 refine F.okQ scAnyTold (fun vs H Q E h=>?_) (fun cdv A outer s0 H vs Q E hr h=>?_)
 . obtain⟨fe,ow,n,xs,mo,rfl,_⟩:=h;rfl
 obtain⟨fe,ow,n,xs,mo,rfl,hfe,hL,hne,hx,hmo,q⟩:=h;have nd:=scAnyTold.nd;have hr1:=hr.mono (j:=1) (by omega);refine⟨_,ae (av (i:=3) nd rfl (Or.inr rfl) (am ce (qv 1) (bb (ba aa))))
  (ae (jc ["_law_k","_law_some","_law_feed"] [3,0] (i:=4) nd rfl (Or.inl rfl) (cz rfl C.range (be (ak GT hr1 rfl cT.name cT.keep cT.bind .nil au (af (qv 0) (da (am cw (qv 2) ac) aa))) aa)) (fun _ _ _ _=>db) (fun _ _ _ _=>(ak GR hr rfl cR.name cR.keep cR.bind .nil au (af (qv 2) (af (qv 1) (ba aa))))))
  (aj (az (er (af (qv 4) (dh (ij ["_law_k","_law_some","_law_feed"] [3,0] (cz rfl C.range (be (ak GT hr1 rfl cT.name cT.keep cT.bind .nil au (af (qv 0) (da (am cw (qv 2) ac) aa))) aa)) (fun _ _ _ _=>db) (fun _ _ _ _=>(ak GR hr rfl cR.name cR.keep cR.bind .nil au (af (qv 2) (af (qv 1) (ba aa)))))) aa)))))),?_⟩
 have S0:FS (wo H fe) fe H n:=⟨hfe,Same.refl _⟩
 refine⟨_,rfl,(show 1<=HY by decide),fun x1 hx1=>?_⟩;obtain⟨S1,e1,u1⟩:=S0.new (o:=.lst [.str "nil"]) hx1;have hL1:(wo H fe) ow=some (.lst (xs.map V.str)):=by rw[gg hne];exact hL
 generalize upd H x1 (.lst [.str "nil"])=H1 at S1 e1 u1 |-;refine⟨ow,x1,_,_,rfl,rfl,S1.at (e1 _ _ hL1),S1.at u1,bx (by rw[Ab];show _+1<=1000;omega),fun sm hsm=>?_⟩;obtain⟨S2,e2,u2⟩:=S1.new (o:=.lst (xs.map V.str++[.str "nil"])) hsm;have u2':(wo (upd H1 sm (.lst (xs.map V.str++[.str "nil"]))) fe) sm=some (.lst ((xs++[("nil":Str)]).map V.str)):=by rw[u2,Al];rfl
 have hyl:(xs++[("nil":Str)]).length=xs.length+1:=by rw[Ae];rfl
 have e02:=e1.trans e2;generalize upd H1 sm (.lst (xs.map V.str++[.str "nil"]))=H2 at S2 e2 u2' e02 |-;generalize xs++[("nil":Str)]=ys at u2' hyl q;have hm1:(0:Int)<(mo:Int)+1:=by omega
 refine⟨_,rfl,_,rfl,_,_,rfl,rfl,fe,n,_,rfl,S2.fed,hm1,by omega,?_⟩;have S3:=S2.take (k:=n / ((mo:Int)+1));have b0:=AM n (show (mo:Int)+1≠0 by omega);have b1:=AW n hm1;generalize upd H2 fe (.lst [.int (n / ((mo:Int)+1))])=H3 at S3 |-;generalize n / ((mo:Int)+1)=n3 at S3;refine⟨_,rfl,by omega,by omega,?_⟩;refine xy (K:=K) (em ys) (by omega) S3 (fun D i H4 n4 S4 _ Q' q'=>?_) (fun fa H4 n4 Fs hfa S4 hF hFl hFo=>?_)
 . exact⟨_,rfl,_,rfl,fe,sm,n4,ys,"fact",rfl,S4.fed,S4.at u2',by omega,by omega,fun t r n5 H5 S5 ht h1 _=>q' t r n5 H5 S5 ht (h1 rfl)⟩
 have nfa:(wo H fe) fa=none:=by
  cases hq:(wo H fe) fa with
  | none=>rfl
  | some o=>have:=S3.at (e02 _ _ hq);rw[hfa] at this;cases this
 have S4':FS (wo H4 fe) fe H4 n4:=⟨S4.fed,Same.refl _⟩
 have u24:=S4.g _ _ u2';have e04:=e02.trans S4.g;refine⟨_,rfl,_,rfl,_,rfl,_,_,rfl,rfl,fe,n4,_,rfl,S4.fed,hm1,by omega,?_⟩;have S5:=S4'.take (k:=n4 / ((mo:Int)+1));have b2:=AM n4 (show (mo:Int)+1≠0 by omega);have b3:=AW n4 hm1;generalize upd H4 fe (.lst [.int (n4 / ((mo:Int)+1))])=H5 at S5 |-;generalize n4 / ((mo:Int)+1)=n5 at S5;refine⟨_,rfl,by omega,by omega,?_⟩;refine xy (K:=K) (gc ys) (by omega) S5 (fun D i H6 n6 S6 _ Q' q'=>?_) (fun pa H6 n6 Ps hpa S6 hP hPl hPo=>?_)
 . exact⟨_,rfl,_,rfl,fe,sm,n6,ys,"part",rfl,S6.fed,S6.at u24,by omega,by omega,fun t r n7 H7 S7 ht _ h2=>q' t r n7 H7 S7 ht (h2 (by decide))⟩
 have npa:(wo H fe) pa=none:=by
  cases hq:(wo H fe) pa with
  | none=>rfl
  | some o=>have:=S5.at (e04 _ _ hq);rw[hpa] at this;cases this
 refine⟨(show 2<=HY by decide),fun t ht=>?_⟩;obtain⟨S7,e7,u7⟩:=(show FS (wo H6 fe) fe H6 n6 from⟨S6.fed,Same.refl _⟩).new (o:=.tup [.ref fa,.ref pa]) ht;have e46:=S6.g.trans e7;exact q t fa pa Fs Ps n6 _ ⟨S7.fed,e04.trans e46⟩ ⟨e04.trans e46,nfa,npa,u7,hF.same e46,hP.same e7,hFo,hPo,by omega,by omega⟩
abbrev rp:IP:=top 57
abbrev yt:IP:=top 58
structure Hd where
 name:Str
 own:List Str
 par:Nat
 res:Str
structure HdOk(xs:List Str)(h:Hd):Prop where
 name:h.name∈xs
 own:∀y∈h.own,y∈xs
 pos:0<h.own.length
 few:h.own.length<=6
 par:h.par<h.own.length
 p4:h.par<=4
 nodup:h.own.Nodup
 resA:h.res="" \/ h.own[h.par]?=some h.res
theorem HdOk.res{xs:List Str}{h:Hd}(k:HdOk xs h):h.res="" \/ h.res∈h.own:=k.resA.elim .inl fun z=>.inr (Ak z)
def NmAt(xs:List Str)(hs:List Hd):Prop:=∀(i:Nat) (h:Hd),hs[i]?=some h->xs[7-i]?=some h.name
theorem NmAt.snoc{xs:List Str}{hs:List Hd}{h:Hd}{i:Nat}(n:NmAt xs hs)(hi:hs.length=i)(e:xs[7-i]?=some h.name):NmAt xs (hs++[h]):=fun j g z=>by
 by_cases c:j<hs.length
 . rw[Bo c] at z;exact n j g z
 . have:j<(hs++[h]).length:=(Av.mp z).1;rw[Ae,AN] at this;have ej:j=hs.length:=by omega
   rw[ej,Dg] at z;cases z;rw[ej,hi];exact e
def Fst(xs:List Str)(i:Int)(hs:List Hd):Prop:=∀h,hs[0]?=some h->h.own[0]?=xs[i.toNat]?
theorem Fst.snoc{xs:List Str}{hs:List Hd}{h:Hd}{i:Int}(n:Fst xs i hs)(e:hs=[]->h.own[0]?=xs[i.toNat]?):Fst xs i (hs++[h]):=fun g z=>by
 cases hs with
 | nil=>cases z;exact e rfl
 | cons a r=>exact n g z
theorem zh{ls:List Str}{p:Nat}(hn:ls.Nodup)(hp:p<ls.length):(ls.eraseIdx p).Nodup/\¬ ls[p]∈ls.eraseIdx p:=by
 refine⟨hn.sublist (List.eraseIdx_sublist ..),fun z=>?_⟩;obtain⟨i,hi,e⟩:=List.mem_eraseIdx_iff_getElem.mp z;obtain⟨h1,h2⟩:=e;exact h1 ((Gy hn).mp h2)
def HeadX(S:HW->Prop)(H:Hp)(t:HW)(h:Hd):Prop:=∃ow,H t=some (.tup [.str h.name,.ref ow,.int (h.par:Int),.str h.res])/\H ow=some (.lst (h.own.map V.str))/\¬ S ow
theorem HeadX.same{S:HW->Prop}{H H':Hp}{t:HW}{h:Hd}(x:HeadX S H t h)(e:Same H H'):HeadX S H' t h:=by
 obtain⟨ow,h1,h2,h3⟩:=x;exact⟨ow,e _ _ h1,e _ _ h2,h3⟩
theorem HeadX.put{S:HW->Prop}{H:Hp}{t s:HW}{h:Hd}{us vs:List V}(x:HeadX S H t h)(hs:S s)(hl:H s=some (.lst us)):HeadX S (upd H s (.lst vs)) t h:=by
 obtain⟨ow,h1,h2,h3⟩:=x;exact⟨ow,by rw[ai (fun z=>by rw[z,hl] at h1;cases h1)];exact h1,by rw[ai (fun z:ow=s=>h3 (by rw[z];exact hs))];exact h2,h3⟩
theorem HeadX.more{S S':HW->Prop}{H:Hp}{t:HW}{h:Hd}(x:HeadX S H t h)(hS:∀b,S' b->S b\/H b=none):HeadX S' H t h:=by
 obtain⟨ow,h1,h2,h3⟩:=x;refine⟨ow,h1,h2,fun z=>?_⟩;rcases hS ow z with y|y
 . exact h3 y
 . rw[y] at h2;cases h2
theorem HeadX.less{S S':HW->Prop}{H:Hp}{t:HW}{h:Hd}(x:HeadX S H t h)(hS:∀b,S' b->S b):HeadX S' H t h:=by
 obtain⟨ow,h1,h2,h3⟩:=x;exact⟨ow,h1,h2,fun z=>h3 (hS ow z)⟩
def la(H:Hp)(l:HW)(hs:List Hd):Prop:=∃ts:List HW,H l=some (.lst (ts.map V.ref))/\IE (HeadX (· = l) H) ts hs
inductive spAnyHeads(vs:List V)(H:Hp)(Q:VK)(E:XK):Prop
 | mk (c:Int)(l:HW)(xs:List Str)(h0:vs=[.int c,.ref l])(h1:H l=some (.lst (xs.map V.str)))(h2:xs.length=8)(h3:xs.Nodup)(q:∀hl hs H',Same H H'->H hl=none->la H' hl hs->0<hs.length->hs.length<=4->(∀h∈hs,HdOk xs h)->NmAt xs hs->Fst xs (c / 4 / 6 % 8) hs->Q (.ref hl) H'):spAnyHeads vs H Q E
theorem a8n{n l:Nat}(h:n<l):seqIndex? (n:Int) l=some n:=by
 unfold seqIndex?;have h1:¬ (n:Int)<0:=by omega
 simp only[if_neg h1];rw[if_pos]
 . simp
 . simp;omega
theorem xi{α β:Type}(g:α->β):∀(l:List α) (p:Nat),(l.map g).eraseIdx p=(l.eraseIdx p).map g
 | [],_=>rfl
 | _::_,0=>rfl
 | x::l,p+1=>by rw[Be,Dz,Dz,Be,xi g l p]
inductive AHO(H:Hp)(c:Int)(l fe hl:HW)(xs:List Str)(i:Nat)(σ:St)(H3:Hp):Prop
 | mk (n:Int)(ts:List HW)(hs:List Hd)(z4 z5 z6 z7 z8:Option V)(e:Same H H3)(hf:H3 fe=some (.lst [.int n]))(hh:H3 hl=some (.lst (ts.map V.ref)))(hp:IE (HeadX (fun b=>b=fe\/b=hl) H3) ts hs)(hi:hs.length=i)(ok:∀h∈hs,HdOk xs h)(nm:NmAt xs hs)(f0:i=0->n=c / 4)(fs:Fst xs (c / 4 / 6 % 8) hs)(hs':σ=[iQ c,rQ l,rQ fe,rQ hl,z4,z5,z6,z7,z8]):AHO H c l fe hl xs i σ H3
inductive AHI(H:Hp)(c:Int)(l fe hl lf ow:HW)(xs:List Str)(ts:List HW)(hs:List Hd)(k n0:Int)(j:Nat)(σ:St)(H3:Hp):Prop
 | mk (n:Int)(ls os:List Str)(z7 z8:Option V)(e:Same H H3)(hf:H3 fe=some (.lst [.int n]))(hh:H3 hl=some (.lst (ts.map V.ref)))(hp:IE (HeadX (fun b=>b=fe\/b=hl\/b=lf\/b=ow) H3) ts hs)(hl':H3 lf=some (.lst (ls.map V.str)))(ho:H3 ow=some (.lst (os.map V.str)))(hll:ls.length+j=8)(hol:os.length=j)(hlx:∀y∈ls,y∈xs)(hox:∀y∈os,y∈xs)(hln:ls.Nodup)(hon:os.Nodup)(hdj:∀y∈os,¬ y∈ls)(j0:j=0->n=n0 / 6/\ls=xs/\os=[])(jf:0<j->os[0]?=xs[(n0 / 6 % 8).toNat]?)(hs':σ=[iQ c,rQ l,rQ fe,rQ hl,iQ k,rQ lf,rQ ow,z7,z8]):AHI H c l fe hl lf ow xs ts hs k n0 j σ H3
theorem scAnyHeads:FnScope ["_law_cell","_law_names_here","_law_feed","_law_heads_here","_law_k","_law_left","_law_own","_law_j","_law_params"] ["_law_cell","_law_names_here"] (b7 rp):=⟨rfl,rfl,rfl,by decide,rfl,by decide,by decide⟩
theorem a1d(C:Con K mg w)(F:Fun K "_law_any_heads" "_law_any_heads" rp f fd)(GT:FnOk P w K mg base CX0 1 gT dT ["_law_feed","_law_many"] lh)(cT:Cal K mg "_law_take" gT dT ["_law_feed","_law_many"]):FnOk P w K mg base CX0 2 f fd ["_law_cell","_law_names_here"] spAnyHeads:=by
 refine F.okQ scAnyHeads (fun vs H Q E h=>?_) (fun cdv A outer s0 H vs Q E hr h=>?_)
 . obtain⟨c,l,xs,rfl,_⟩:=h;rfl
 obtain⟨c,l,xs,rfl,hL,hx8,hxn,q⟩:=h;have nd:=scAnyHeads.nd;refine⟨_,ae (av (i:=2) nd rfl (Or.inl rfl) (bb (da (am bt (qv 0) ac) aa)))
  (ae (av (i:=3) nd rfl (Or.inl rfl) (bb aa))
  (ae (dq AS rfl (cz rfl C.range (da (am cw ac (am br (qv 0) ac)) aa)) (bj (i:=4) nd rfl (Or.inl rfl)) (ae (av (i:=5) nd rfl (Or.inl rfl) (cg de rfl C.list AQ (af (qv 1) aa)))
  (ae (av (i:=6) nd rfl (Or.inl rfl) (bb aa))
  (ae (dq AS rfl (cz rfl C.range (da (am cw ac (ak GT hr rfl cT.name cT.keep cT.bind .nil au (af (qv 2) (ci aa)))) aa)) (bj (i:=7) nd rfl (Or.inl rfl)) (aj (bu (cq (K:=K) rfl As Az AA bq (qv 6) (be (cq (K:=K) rfl As CP DN a73 (qv 5) (be (ak GT hr rfl cT.name cT.keep cT.bind .nil au (af (qv 2) (be (aw ap rfl C.len Ap (af (qv 5) aa)) aa))) aa)) aa)))))
  (ae (av (i:=8) nd rfl (Or.inl rfl) (aw (rl rfl) rfl C.min DO (be (ak GT hr rfl cT.name cT.keep cT.bind .nil au (af (qv 2) (ci aa))) (da (am ja (aw ap rfl C.len Ap (af (qv 6) aa)) ac) aa))))
  (aj (bu (cq (K:=K) rfl As Az AA bq (qv 3) (di (ar (ag bc (qv 1) (am ja ac (qv 4)) (fun _ _=>rfl)) (af (qv 6) (af (qv 8) (ar (ag bc (bb (ba (ar (ag bc (qv 6) (qv 8) (fun _ _=>rfl)) aa))) (ak GT hr rfl cT.name cT.keep cT.bind .nil au (af (qv 2) (ci aa))) (fun _ _=>rfl)) aa)))) aa)))))))))
  (aj (az (qv 3))))),?_⟩
 refine⟨_,rfl,_,_,rfl,rfl,(show CDiv _ 4 from⟨by decide,by decide⟩),(show 1<=HY by decide),fun fe hfe=>?_⟩;have s1:=ad hfe (.lst [.int (c / 4)]);have k1:(upd H fe (.lst [.int (c / 4)])) fe=some (.lst [.int (c / 4)]):=ab;show tSeq _ _ _ _ (upd H fe (.lst [.int (c / 4)]));generalize upd H fe (.lst [.int (c / 4)])=H1 at s1 k1 |-;refine⟨AG _,fun hl hhl=>?_⟩;have s2:=ad hhl (.lst []);have k2:(upd H1 hl (.lst [])) hl=some (.lst []):=ab;have nfh:fe≠hl:=aq k1 hhl;have hhl0:H hl=none:=s1.free hhl;generalize upd H1 hl (.lst [])=H2 at s2 k2 |-;have m4:=AM c (show (4:Int)≠0 by decide);have m4':=AW c (show (0:Int)<4 by decide);refine⟨_,rfl,_,_,rfl,rfl,(show (0:Int)<4 by decide),_,_,rfl,rfl,_,rfl,by omega,by omega,?_⟩;refine gi (lo:=0) (n:=(1+c % 4).toNat) (AHO H c l fe hl xs) ⟨c / 4,[],[],none,none,none,none,none,s1.trans s2,s2 _ _ k1,k2,.nil,rfl,(fun h hh=>by cases hh),(fun i h z=>by cases z),(fun _=>rfl),(fun h z=>by cases z),rfl⟩ ?_ ?_
 . rintro i σ H3 hi ⟨n,ts,hs,z4,z5,z6,z7,z8,e3,hf3,hh3,hp3,hi3,ok3,nm3,f03,fs3,rfl⟩;have hL3:=e3 _ _ hL;refine⟨_,rfl,l,_,rfl,.inl (SqL.of hL3),fun lf hlf=>?_⟩;have t1:=ad hlf (.lst (xs.map V.str));have u1:(upd H3 lf (.lst (xs.map V.str))) lf=some (.lst (xs.map V.str)):=ab;have nlf:fe≠lf:=aq hf3 hlf;have nlh:hl≠lf:=aq hh3 hlf;have flf:H lf=none:=e3.free hlf;show tSeq _ _ _ _ (upd H3 lf (.lst (xs.map V.str)));have hp4:IE (HeadX (fun b=>b=fe\/b=hl\/b=lf) (upd H3 lf (.lst (xs.map V.str)))) ts hs:=Paired.mapP hp3 fun _ _ z=>HeadX.same (HeadX.more z fun b hb=>by rcases hb with h|h|h<;>simp[h,hlf]) t1;generalize upd H3 lf (.lst (xs.map V.str))=H4 at t1 u1 hp4 |-;refine⟨AG _,fun ow how=>?_⟩;have t2:=ad how (.lst []);have u2:(upd H4 ow (.lst [])) ow=some (.lst []):=ab;have nof:fe≠ow:=aq (t1 _ _ hf3) how;have noh:hl≠ow:=aq (t1 _ _ hh3) how;have nol:lf≠ow:=aq u1 how;have fow:H ow=none:=(e3.trans t1).free how;have hp5:IE (HeadX (fun b=>b=fe\/b=hl\/b=lf\/b=ow) (upd H4 ow (.lst []))) ts hs:=Paired.mapP hp4 fun _ _ z=>HeadX.same (HeadX.more z fun b hb=>by rcases hb with h|h|h|h<;>simp[h,how]) t2;generalize upd H4 ow (.lst [])=H5 at t2 u2 hp5 |-;have e5:=(e3.trans t1).trans t2;have hf5:=(t1.trans t2) _ _ hf3;have hh5:=(t1.trans t2) _ _ hh3;refine⟨_,rfl,fe,n,6,rfl,hf5,by decide,by decide,?_⟩;have m6:=AM n (show (6:Int)≠0 by decide);have m6':=AW n (show (0:Int)<6 by decide);refine⟨_,_,rfl,rfl,_,rfl,by omega,by omega,?_⟩;refine gi (lo:=0) (n:=(1+n % 6).toNat) (AHI H c l fe hl lf ow xs ts hs (0+(i:Int)) n) ⟨n / 6,xs,[],z7,z8,fun b o h=>by rw[ai (aq h hfe)];exact e5 _ _ h,ab,by rw[ai nfh.symm];exact hh5,Paired.mapP hp5 fun _ _ z=>HeadX.put z (.inl rfl) hf5,by rw[ai nlf.symm];exact t2 _ _ u1,by rw[ai nof.symm];exact u2,by omega,rfl,fun y hy=>hy,(fun y hy=>by cases hy),hxn,.nil,(fun y hy=>by cases hy),(fun _=>⟨rfl,rfl,rfl⟩),(fun z=>absurd z (Bt 0)),rfl⟩ ?_ ?_
   . rintro j σ H6 hj ⟨n6,ls,os,z7,z8,e6,hf6,hh6,hp6,hlf6,how6,hll,hol,hlx,hox,hln,hon,hdj,j06,jf6,rfl⟩;have hj6:j<6:=by omega
     have hl0:(0:Int)<(((ls.map V.str).length:Nat):Int):=by rw[Ab];omega
     refine⟨_,rfl,(.inl ⟨rfl,_,SqL.of how6⟩),_,rfl,(.inl ⟨rfl,_,SqL.of hlf6⟩),_,rfl,_,rfl,lf,_,rfl,.inl (SqL.of hlf6),fe,n6,_,rfl,hf6,hl0,(by rw[Ab];omega),?_⟩;have b0:=AM n6 (EK hl0);have b1:=AW n6 hl0;obtain⟨p,hp⟩:∃p:Nat,n6 % (((ls.map V.str).length:Nat):Int)=(p:Int):=⟨(n6 % (((ls.map V.str).length:Nat):Int)).toNat,by omega⟩
     rw[hp] at b1 |-;have hpl:p<ls.length:=by rw[Ab] at b1;omega
     have hlf7:(upd H6 fe (.lst [.int (n6 / (((ls.map V.str).length:Nat):Int))])) lf=some (.lst (ls.map V.str)):=by rw[ai nlf.symm];exact hlf6
     refine⟨lf,_,_,p,.str ls[p],rfl,rfl,hlf7,(by omega),(by omega),?_,by rw[Ah,Ag hpl];rfl,?_⟩
     . rw[Ab];exact a8n hpl
     rw[xi];have S1:Same H (upd (upd H6 fe (.lst [.int (n6 / (((ls.map V.str).length:Nat):Int))])) lf (.lst ((ls.eraseIdx p).map V.str))):=fun b o h=>by rw[ai (aq h flf),ai (aq h hfe)];exact e6 _ _ h
     have F1:(upd (upd H6 fe (.lst [.int (n6 / (((ls.map V.str).length:Nat):Int))])) lf (.lst ((ls.eraseIdx p).map V.str))) fe=some (.lst [.int (n6 / (((ls.map V.str).length:Nat):Int))]):=by rw[ai nlf,ab]
     have O1:(upd (upd H6 fe (.lst [.int (n6 / (((ls.map V.str).length:Nat):Int))])) lf (.lst ((ls.eraseIdx p).map V.str))) ow=some (.lst (os.map V.str)):=by rw[ai nol.symm,ai nof.symm];exact how6
     have L1:(upd (upd H6 fe (.lst [.int (n6 / (((ls.map V.str).length:Nat):Int))])) lf (.lst ((ls.eraseIdx p).map V.str))) lf=some (.lst ((ls.eraseIdx p).map V.str)):=ab;have T1:(upd (upd H6 fe (.lst [.int (n6 / (((ls.map V.str).length:Nat):Int))])) lf (.lst ((ls.eraseIdx p).map V.str))) hl=some (.lst (ts.map V.ref)):=by rw[ai nlh,ai nfh.symm];exact hh6
     have P1:IE (HeadX (fun b=>b=fe\/b=hl\/b=lf\/b=ow) (upd (upd H6 fe (.lst [.int (n6 / (((ls.map V.str).length:Nat):Int))])) lf (.lst ((ls.eraseIdx p).map V.str)))) ts hs:=Paired.mapP hp6 fun _ _ z=>HeadX.put (HeadX.put z (.inl rfl) hf6) (.inr (.inr (.inl rfl))) hlf7;generalize upd (upd H6 fe (.lst [.int (n6 / (((ls.map V.str).length:Nat):Int))])) lf (.lst ((ls.eraseIdx p).map V.str))=H8 at S1 F1 O1 L1 T1 P1 |-;refine⟨ow,os.map V.str,_,rfl,rfl,O1,cy (by rw[Ab];omega),?_⟩;refine⟨_,ls.eraseIdx p,os++[ls[p]],_,_,fun b o h=>by rw[ai (aq h fow)];exact S1 _ _ h,by rw[ai nof];exact F1,by rw[ai noh];exact T1,Paired.mapP P1 fun _ _ z=>HeadX.put z (.inr (.inr (.inr rfl))) O1,by rw[ai nol];exact L1,by rw[ab,Al];rfl,?_,by rw[Ae,hol];rfl,fun y hy=>hlx y (EM hy),fun y hy=>?_,(zh hln hpl).1,mi hon (fun z=>hdj _ z (Ci hpl)),fun y hy=>?_,(fun z=>by cases z),(fun _=>?_),rfl⟩
     . rw[Dj hpl];omega
     . rcases Aq.mp hy with z|z
       . exact hox y z
       . rw[Ax.mp z];exact hlx _ (Ci hpl)
     . rcases Aq.mp hy with z|z
       . exact fun w=>hdj y z (EM w)
       . rw[Ax.mp z];exact (zh hln hpl).2
     . by_cases cj:j=0
       . obtain⟨w1,w2,w3⟩:=j06 cj;subst w3;rw[Hk,ES];subst w2;have:(n / 6 % 8).toNat=p:=by
          rw[w1,Ab,hx8] at hp;omega
         rw[this,Ag hpl]
       . rw[Bo (by omega)];exact jf6 (by omega)
   . rintro σ H6 ⟨n6,ls,os,z7,z8,e6,hf6,hh6,hp6,hlf6,how6,hll,hol,hlx,hox,hln,hon,hdj,j06,jf6,rfl⟩;have hos0:0<os.length:=by omega
     have hos6:os.length<=6:=by omega
     have jf7:=jf6 (by omega);clear hlf6 hll hlx hol hln hdj j06 jf6;have p0:=AM n6 (show (5:Int)≠0 by decide);have p1:=AW n6 (show (0:Int)<5 by decide);have how7:(upd H6 fe (.lst [.int (n6 / 5)])) ow=some (.lst (os.map V.str)):=by rw[ai nof.symm];exact how6
     have hf7:(upd H6 fe (.lst [.int (n6 / 5)])) fe=some (.lst [.int (n6 / 5)]):=ab;have hh7:(upd H6 fe (.lst [.int (n6 / 5)])) hl=some (.lst (ts.map V.ref)):=by rw[ai nfh.symm];exact hh6
     have e7:Same H (upd H6 fe (.lst [.int (n6 / 5)])):=fun b o h=>by rw[ai (aq h hfe)];exact e6 _ _ h
     have hp7:IE (HeadX (fun b=>b=fe\/b=hl\/b=lf\/b=ow) (upd H6 fe (.lst [.int (n6 / 5)]))) ts hs:=Paired.mapP hp6 fun _ _ z=>HeadX.put z (.inl rfl) hf6;refine⟨_,rfl,fe,n6,5,rfl,hf6,by decide,by decide,?_⟩;generalize upd H6 fe (.lst [.int (n6 / 5)])=H7 at how7 hf7 hh7 e7 hp7 |-;refine⟨_,rfl,ow,_,rfl,.inl (SqL.of how7),_,_,rfl,rfl,_,_,rfl,?_⟩;obtain⟨pm,hpm,hpl,hp4⟩:∃pm:Nat,(if (((os.map V.str).length:Nat):Int)-1<n6 % 5 then (((os.map V.str).length:Nat):Int)-1 else n6 % 5)=(pm:Int)/\pm<os.length/\pm<=4:=by
      rw[Ab];by_cases c1:((os.length:Nat):Int)-1<n6 % 5
      . rw[if_pos c1];exact⟨os.length-1,by omega,by omega,by omega⟩
      . rw[if_neg c1];exact⟨(n6 % 5).toNat,by omega,by omega,by omega⟩
     show bp _ (V.int (if (((os.map V.str).length:Nat):Int)-1<n6 % 5 then (((os.map V.str).length:Nat):Int)-1 else n6 % 5)) _ _ _;rw[hpm];have hL7:=e7 _ _ hL;have at7:atI (xs.map V.str) (7-(0+(i:Int)))=some (.str (xs.getD (7-i) "")):=by
      have:=a2d (ws:=xs) (i:=7-i) (by omega);rw[show (7:Int)-(0+(i:Int))=((7-i:Nat):Int) by omega];exact this
     have hnx:xs.getD (7-i) "" ∈ xs:=by
      rw[BQ,Ag (by omega)];exact Ci _
     have hnm:xs[7-i]?=some (xs.getD (7-i) ""):=by
      rw[BQ,Ag (by omega)];rfl
     generalize xs.getD (7-i) ""=nm at at7 hnx hnm;have atp:atI (os.map V.str) (pm:Int)=some (.str os[pm]):=dv (by rw[Ah,Ag hpl];rfl);refine⟨_,rfl,(.inl ⟨rfl,_,SqL.of hh7⟩),_,rfl,_,rfl,_,_,rfl,rfl,l,_,_,_,rfl,rfl,SqL.of hL7,at7,_,rfl,_,rfl,_,rfl,_,rfl,ow,_,_,_,rfl,rfl,SqL.of how7,atp,(show 2<=HY by decide),fun x1 hx1=>?_⟩;have t3:=ad hx1 (.lst [.str "",.str os[pm]]);have u3:(upd H7 x1 (.lst [.str "",.str os[pm]])) x1=some (.lst [.str "",.str os[pm]]):=ab;have nx1:x1≠fe:=(aq hf7 hx1).symm;generalize upd H7 x1 (.lst [.str "",.str os[pm]])=H8 at t3 u3 |-;have hf8:=t3 _ _ hf7;refine⟨_,rfl,fe,n6 / 5,2,rfl,hf8,by decide,by decide,?_⟩;obtain⟨v,hv,hvm⟩:=jn (xs:=[V.str "",V.str os[pm]]) (m:=2) (i:=n6 / 5) rfl (by decide);obtain⟨rs,rfl,hrs⟩:∃rs:Str,v=.str rs/\(rs="" \/ os[pm]?=some rs):=by
      simp only[Am,Au,or_false] at hvm;rcases hvm with rfl|rfl
      . exact⟨_,rfl,.inl rfl⟩
      . exact⟨_,rfl,.inr (Ag hpl)⟩
     have e9:Same H (upd H8 fe (.lst [.int (n6 / 5 / 2)])):=fun b o h=>by rw[ai (aq h hfe)];exact (e7.trans t3) _ _ h
     have f9:(upd H8 fe (.lst [.int (n6 / 5 / 2)])) fe=some (.lst [.int (n6 / 5 / 2)]):=ab;have x9:(upd H8 fe (.lst [.int (n6 / 5 / 2)])) x1=some (.lst [.str "",.str os[pm]]):=by rw[ai nx1];exact u3
     have o9:(upd H8 fe (.lst [.int (n6 / 5 / 2)])) ow=some (.lst (os.map V.str)):=by rw[ai nof.symm];exact t3 _ _ how7
     have h9:(upd H8 fe (.lst [.int (n6 / 5 / 2)])) hl=some (.lst (ts.map V.ref)):=by rw[ai nfh.symm];exact t3 _ _ hh7
     have p9:IE (HeadX (fun b=>b=fe\/b=hl\/b=lf\/b=ow) (upd H8 fe (.lst [.int (n6 / 5 / 2)]))) ts hs:=Paired.mapP hp7 fun _ _ z=>HeadX.put (HeadX.same z t3) (.inl rfl) hf8;generalize upd H8 fe (.lst [.int (n6 / 5 / 2)])=H9 at e9 f9 x9 o9 h9 p9 |-;refine⟨x1,_,_,_,rfl,rfl,SqL.of x9,hv,(show 4<=HY by decide),fun t ht=>?_⟩;have t4:=ad ht (.tup [.str nm,.ref ow,.int (pm:Int),.str rs]);have u4:(upd H9 t (.tup [.str nm,.ref ow,.int (pm:Int),.str rs])) t=some (.tup [.str nm,.ref ow,.int (pm:Int),.str rs]):=ab;generalize upd H9 t (.tup [.str nm,.ref ow,.int (pm:Int),.str rs])=H10 at t4 u4 |-;have h10:=t4 _ _ h9;have hal:=Ao p9;refine⟨hl,ts.map V.ref,_,rfl,rfl,h10,cy (by rw[Ab];omega),?_⟩;have hnew:HeadX (fun b=>b=fe\/b=hl) H10 t ⟨nm,os,pm,rs⟩:=⟨ow,u4,t4 _ _ o9,fun z=>by rcases z with z|z;exact nof z.symm;exact noh z.symm⟩
     refine⟨_,ts++[t],hs++[⟨nm,os,pm,rs⟩],_,_,_,_,_,fun b o h=>by rw[ai (aq h hhl0)];exact (e9.trans t4) _ _ h,by rw[ai nfh];exact t4 _ _ f9,by rw[ab,Al];rfl,Paired.snocP (Paired.mapP p9 fun _ _ z=>HeadX.put (HeadX.less (HeadX.same z t4) fun b hb=>by rcases hb with h|h<;>simp[h]) (.inr rfl) h10) (HeadX.put hnew (.inr rfl) h10),by rw[Ae,hi3];rfl,fun h hh=>?_,nm3.snoc hi3 hnm,(fun z=>by cases z),fs3.snoc (fun z=>by have z0:i=0:=by {rw[z] at hi3;exact hi3.symm};rw[<- f03 z0];exact jf7),rfl⟩;rcases Aq.mp hh with z|z
     . exact ok3 h z
     . rw[Ax.mp z];exact⟨hnx,hox,hos0,hos6,hpl,hp4,hon,hrs⟩
 . rintro σ H3 ⟨n,ts,hs,z4,z5,z6,z7,z8,e3,hf3,hh3,hp3,hi3,ok3,nm3,f03,fs3,rfl⟩;exact⟨_,rfl,q hl hs H3 e3 hhl0 ⟨ts,hh3,Paired.mapP hp3 fun _ _ z=>HeadX.less z fun b hb=>.inr hb⟩ (by omega) (by omega) ok3 nm3 fs3⟩
def iw(ns:List Int):List Str:=if bw ns 1 % 2=1 then anyF (bw ns 0) else nmF (bw ns 0)
def cc0(ns:List Int):Int:=bw ns 1 / 8*69621 % 2147483647 / (((0:Nat):Int)*((0:Nat):Int)+1)
def ixE(ns:List Int):Int:=(0+((0:Nat):Int)+cc0 ns / 24) % 8
def ixF(ns:List Int):Int:=if bw ns 1 % 2=1 then bw ns 1 / 2 / 4 / 6 % 8 else ixE ns
theorem a5o{xs:List Str}(h:xs.Nodup):(xs.map V.str).Nodup:=DE.mpr (h.imp fun n z=>n (V.str.inj z))
theorem a8r{xs:List Str}{i:Int}{v:Str}(h0:0<=i)(h:atI (xs.map V.str) i=some (.str v)):xs[i.toNat]?=some v:=by
 obtain⟨c,rfl⟩:=Cc h0;unfold atI ixN at h;rw[if_pos (by omega)] at h;by_cases hc:(c:Int)<(xs.map V.str).length
 . rw[if_pos hc] at h;have h2:(xs.map V.str)[c]?=some (.str v):=by simpa using h
   rw[Ah] at h2;obtain⟨y,hy,e⟩:=AK.mp h2;rw[Bh,hy,V.str.inj e]
 . rw[if_neg hc] at h;cases h
inductive spHeads(K:Ac)(vs:List V)(H:Hp)(Q:VK)(E:XK):Prop
 | mk (a:HW)(ns:List Int)(h0:vs=[.ref a])(h1:SqL K H a (ns.map V.int))(q:∀hl hs xs H',Same H H'->H hl=none->la H' hl hs->0<hs.length->hs.length<=4->(∀x∈xs,b8 x=true)->(∀h∈hs,HdOk xs h)->xs=iw ns->xs.length=8->xs.Nodup->NmAt xs hs->Fst xs (ixF ns) hs->Q (.ref hl) H'):spHeads K vs H Q E
inductive HO1(H:Hp)(a nl hl:HW)(xs:List Str)(ns:List Int)(i:Nat)(σ:St)(H3:Hp):Prop
 | mk (ts:List HW)(hs:List Hd)(z3 z4 z5 z6 z7 z8:Option V)(e:Same H H3)(hn:H3 nl=some (.lst (xs.map V.str)))(hh:H3 hl=some (.lst (ts.map V.ref)))(hp:IE (HeadX (· = hl) H3) ts hs)(hi:hs.length=i)(ok:∀h∈hs,HdOk xs h)(nm:NmAt xs hs)(fs:Fst xs (ixE ns) hs)(hs':σ=[rQ a,rQ nl,rQ hl,z3,z4,z5,z6,z7,z8]):HO1 H a nl hl xs ns i σ H3
theorem scHeads:FnScope ["_law_script","_law_names_here","_law_heads_here","_law_k","_law_cell","_law_size","_law_params","_law_own","_law_result"] ["_law_script"] (b7 yt):=⟨rfl,rfl,rfl,by decide,rfl,by decide,by decide⟩
theorem a6g(C:Con K mg w)(F:Fun K "_law_heads" "_law_heads" yt f fd)(GC:FnOk P w K mg base CX0 1 gC dC ["_law_script","_law_k"] (qo K))(cC:Cal K mg "_law_cell_at" gC dC ["_law_script","_law_k"])(GA:FnOk P w K mg base CX0 2 gA dA ["_law_cell","_law_names_here"] spAnyHeads)(cA:Cal K mg "_law_any_heads" gA dA ["_law_cell","_law_names_here"])(GN:FnOk P w K mg base CX0 2 gN dN ["_law_cell"] (ul mg anyF))(cN:Cal K mg "_law_any_names" gN dN ["_law_cell"])(GB:FnOk P w K mg base CX0 1 gB dB ["_law_cell"] (ul mg nmF))(cB:Cal K mg "_law_names" gB dB ["_law_cell"]):FnOk P w K mg base CX0 3 f fd ["_law_script"] (spHeads K):=by
 refine F.okQ scHeads (fun vs H Q E h=>?_) (fun cdv A outer s0 H vs Q E hr h=>?_)
 . obtain⟨a,ns,rfl,_⟩:=h;rfl
 obtain⟨a,ns,rfl,hS,q⟩:=h;have nd:=scHeads.nd;have hr1:=hr.mono (j:=1) (by omega);refine⟨_,ae (bf (ax bo (am br (ak GC hr1 rfl cC.name cC.keep cC.bind .nil au (af (qv 0) (ci aa))) ac) ac (ay _)) (aj (az (ak GA hr rfl cA.name cA.keep cA.bind .nil au (da (am bt (ak GC hr1 rfl cC.name cC.keep cC.bind .nil au (af (qv 0) (ci aa))) ac) (be (ak GN hr rfl cN.name cN.keep cN.bind .nil au (be (ak GC hr1 rfl cC.name cC.keep cC.bind .nil au (af (qv 0) (ci aa))) aa)) aa))))) bm)
  (ae (av (i:=1) nd rfl (Or.inr rfl) (ak GB hr1 rfl cB.name cB.keep cB.bind .nil au (be (ak GC hr1 rfl cC.name cC.keep cC.bind .nil au (af (qv 0) (ci aa))) aa)))
  (ae (av (i:=2) nd rfl (Or.inl rfl) (bb aa))
  (ae (dq AS rfl (cz rfl C.range (da (am cw ac (am br (am bt (ak GC hr1 rfl cC.name cC.keep cC.bind .nil au (af (qv 0) (ci aa))) ac) ac)) aa)) (bj (i:=3) nd rfl (Or.inl rfl)) (ae (av (i:=4) nd rfl (Or.inr rfl) (am bt (am br (am pi (am bt (ak GC hr1 rfl cC.name cC.keep cC.bind .nil au (af (qv 0) (ci aa))) ac) ac) ac) (am cw (am pi (qv 3) (qv 3)) ac)))
  (ae (av (i:=5) nd rfl (Or.inl rfl) (am cw ac (am br (qv 4) ac)))
  (ae (av (i:=6) nd rfl (Or.inl rfl) (aw (rl rfl) rfl C.min DO (da (am br (am bt (qv 4) ac) ac) (da (am ja (qv 5) ac) aa))))
  (ae (jc ["_law_j","_law_names_here","_law_cell"] [1,4] (i:=7) nd rfl (Or.inl rfl) (cz rfl C.range (af (qv 5) aa)) (fun _ _ _ _=>db) (fun _ _ _ _=>(ag (ixK (K:=K) rfl) (qv 1) (am br (am cw (qv 0) (am bt (qv 2) ac)) ac) (fun _ _=>rfl))))
  (ae (av (i:=8) nd rfl (Or.inl rfl) bv)
  (ae (bf (ax bo (am br (am bt (qv 4) ac) ac) ac (ay _)) (aj (av (i:=8) nd rfl (Or.inl rfl) (ag bc (qv 7) (qv 6) (fun _ _=>rfl)))) bm)
  (aj (bu (cq (K:=K) rfl As Az AA bq (qv 2) (di (ar (ag bc (qv 1) (am ja ac (qv 3)) (fun _ _=>rfl)) (af (qv 7) (af (qv 6) (af (qv 8) aa)))) aa)))))))))))
  (aj (az (qv 2)))))),?_⟩
 refine⟨_,rfl,a,ns,1,rfl,hS,_,_,rfl,rfl,(show (0:Int)<2 by decide),rfl,_,rfl,iteB (fun b1=>?_) (fun b1=>?_)⟩
 . have b2:bw ns 1 % 2=1:=by simpa using b1
   refine⟨_,rfl,a,ns,1,rfl,hS,_,_,rfl,rfl,(show CDiv _ 2 from⟨by decide,by decide⟩),_,rfl,a,ns,0,rfl,hS,bw ns 0,rfl,fun p xs H1 hxe e1 hp0 hp1 hx8 hxn hxd=>?_⟩;exact⟨_,p,xs,rfl,hp1,hx8,hxd,fun hl hs H2 e2 hhl hH h0 h4 hok hnm hfs=>q hl hs xs H2 (e1.trans e2) (e1.free hhl) hH h0 h4 hxn hok (by unfold iw;rw[if_pos b2];exact hxe) hx8 hxd hnm (by unfold ixF;rw[if_pos b2];exact hfs)⟩
 have b2:¬ bw ns 1 % 2=1:=by simpa using b1
 refine⟨_,rfl,a,ns,0,rfl,hS,bw ns 0,rfl,fun nl xs H1 hxe e1 hnl0 hnl hx8 hxn hxd=>?_⟩;refine⟨AG _,fun hl hhl=>?_⟩;have s2:=ad hhl (.lst []);have k2:(upd H1 hl (.lst [])) hl=some (.lst []):=ab;have nhn:nl≠hl:=aq hnl hhl;have hhl0:H hl=none:=e1.free hhl;generalize upd H1 hl (.lst [])=H2 at s2 k2 |-;have e2:=e1.trans s2;have m4:=AM (bw ns 1 / 2) (show (4:Int)≠0 by decide);have m4':=AW (bw ns 1 / 2) (show (0:Int)<4 by decide);refine⟨_,rfl,a,ns,1,rfl,e2.seq hS,_,_,rfl,rfl,(show CDiv _ 2 from⟨by decide,by decide⟩),_,_,rfl,rfl,(show (0:Int)<4 by decide),_,_,rfl,rfl,_,rfl,by omega,by omega,?_⟩;refine gi (lo:=0) (n:=(1+bw ns 1 / 2 % 4).toNat) (HO1 H a nl hl xs ns) ⟨[],[],none,none,none,none,none,none,e2,s2 _ _ hnl,k2,.nil,rfl,(fun h hh=>by cases hh),(fun i h z=>by cases z),(fun h z=>by cases z),rfl⟩ ?_ ?_
 . rintro i σ H3 hi ⟨ts,hs,z3,z4,z5,z6,z7,z8,e3,hn3,hh3,hp3,hi3,ok3,nm3,fs3,rfl⟩;rw[EO];have hi4:i<4:=by omega
   have hkk:(0:Int)<=(i:Int)*(i:Int)/\(i:Int)*(i:Int)<=9:=by
    match i,hi4 with
    | 0,_=>decide
    | 1,_=>decide
    | 2,_=>decide
    | 3,_=>decide
   refine⟨_,rfl,a,ns,1,rfl,e3.seq hS,_,_,rfl,rfl,(show CDiv _ 8 from⟨by decide,by decide⟩),_,_,rfl,rfl,.inr ⟨by decide,by decide⟩,_,_,rfl,rfl,(show (0:Int)<2147483647 by decide),_,rfl,_,rfl,_,_,rfl,rfl,.inl ⟨by omega,by omega⟩,_,_,rfl,rfl,_,_,rfl,rfl,(show CDiv _ _ from⟨by omega,by omega⟩),?_⟩;have hc0:0<=bw ns 1 / 8*69621 % 2147483647 / ((i:Int)*(i:Int)+1):=Int.ediv_nonneg (AM _ (by decide)) (by omega);show bp _ (V.int (bw ns 1 / 8*69621 % 2147483647 / ((i:Int)*(i:Int)+1))) _ _ _;have hcc:i=0->bw ns 1 / 8*69621 % 2147483647 / ((i:Int)*(i:Int)+1)=cc0 ns:=fun z=>by rw[z];rfl
   generalize bw ns 1 / 8*69621 % 2147483647 / ((i:Int)*(i:Int)+1)=cc at hc0 hcc |-;have c6:=AM cc (show (6:Int)≠0 by decide);have c6':=AW cc (show (0:Int)<6 by decide);refine⟨_,rfl,_,_,rfl,rfl,(show (0:Int)<6 by decide),_,_,rfl,rfl,?_⟩;obtain⟨sz,hsz,hsz0,hsz6⟩:∃sz:Nat,1+cc % 6=(sz:Int)/\0<sz/\sz<=6:=⟨(1+cc % 6).toNat,by omega,by omega,by omega⟩
   show bp _ (V.int (1+cc % 6)) _ _ _;rw[hsz];have p0:=AM (cc / 6) (show (5:Int)≠0 by decide);refine⟨_,rfl,_,_,rfl,rfl,(show CDiv _ 6 from⟨by decide,by decide⟩),_,_,rfl,rfl,(show (0:Int)<5 by decide),_,rfl,_,_,rfl,rfl,_,_,rfl,?_⟩;have p1:=AW (cc / 6) (show (0:Int)<5 by decide);obtain⟨pm,hpm,hpl,hp4⟩:∃pm:Nat,(if (sz:Int)-1<cc / 6 % 5 then (sz:Int)-1 else cc / 6 % 5)=(pm:Int)/\pm<sz/\pm<=4:=by
    by_cases c1:(sz:Int)-1<cc / 6 % 5
    . rw[if_pos c1];exact⟨sz-1,by omega,by omega,by omega⟩
    . rw[if_neg c1];exact⟨(cc / 6 % 5).toNat,by omega,by omega,by omega⟩
   show bp _ (V.int (if (sz:Int)-1<cc / 6 % 5 then (sz:Int)-1 else cc / 6 % 5)) _ _ _;rw[hpm];clear hpm p0 hsz c6 c6';have at8:∀j:Nat,∃v:Str,atI (xs.map V.str) ((0+(j:Int)+cc / 24) % 8)=some (.str v)/\v∈xs:=fun j=>a06 xs (n:=8) (by rw[hx8];rfl) (by decide) _;refine⟨_,rfl,_,rfl,by omega,by omega,?_⟩;refine qd (nums 0 (sz:Int).toNat) (Bg sz) (fun j=>BM (at8 j)) pq trivial (by unfold nums;rw[Ab,Bu];omega) (by unfold nums;rw[Ab,Bu,Bu];omega) (fun j x r hx hr' H4 e4 Q' q'=>?_) fun ow H4 how e4 how4=>?_
   . have hx':x=.int ((0:Int)+(r:Nat)):=by
      unfold nums at hx;rw[Bh,Ah,hr'] at hx;exact (Ay hx).symm
     subst hx';exact⟨_,rfl,_,rfl,_,rfl,_,_,rfl,rfl,(show CDiv _ 24 from⟨by decide,by decide⟩),_,_,rfl,rfl,_,_,rfl,rfl,(show (0:Int)<8 by decide),nl,_,_,_,rfl,rfl,SqL.of (e4 _ _ hn3),(BV (at8 r)).1,q' H4 (Same.refl _)⟩
   have hol:((Bg sz).map fun j=>BM (at8 j)).length=sz:=by rw[Ab,Bu]
   have hox:∀y∈(Bg sz).map fun j=>BM (at8 j),y∈xs:=fun y hy=>by
    obtain⟨j,_,rfl⟩:=AF.mp hy;exact (BV (at8 j)).2
   have hon:((Bg sz).map fun j=>BM (at8 j)).Nodup:=DE.mpr (List.nodup_range.imp_of_mem fun {x y} hx hy hne z=>hne (by
    have k1:=(BV (at8 x)).1;have k2:=(BV (at8 y)).1;rw[<- z] at k2;have:=a1p (a5o hxd) (AM _ (by decide)) (AM _ (by decide)) k1 k2;have:=CY.mp hx;have:=CY.mp hy;omega))
   have hof:i=0->((Bg sz).map fun j=>BM (at8 j))[0]?=xs[(ixE ns).toNat]?:=fun z=>by
    have:=a8r (AM _ (by decide)) (BV (at8 0)).1;unfold ixE;rw[<- hcc z,this,Ah,FM hsz0];rfl
   generalize ((Bg sz).map fun j=>BM (at8 j))=os at how4 hol hox hon hof;have noh:ow≠hl:=(aq hh3 how).symm;have hpo:pm<os.length:=by omega
   have atp:atI (os.map V.str) (pm:Int)=some (.str os[pm]):=dv (by rw[Ah,Ag hpo];rfl);have at7:atI (xs.map V.str) (7-(i:Int))=some (.str (xs.getD (7-i) "")):=by
    have:=a2d (ws:=xs) (i:=7-i) (by omega);rw[show (7:Int)-(i:Int)=((7-i:Nat):Int) by omega];exact this
   have hnx:xs.getD (7-i) "" ∈ xs:=by
    rw[BQ,Ag (by omega)];exact Ci _
   have hnm:xs[7-i]?=some (xs.getD (7-i) ""):=by
    rw[BQ,Ag (by omega)];rfl
   generalize xs.getD (7-i) ""=nm at at7 hnx hnm;have hn4:=e4 _ _ hn3;have hh4:=e4 _ _ hh3;have hal:=Ao hp3;dsimp only[bp];refine b9 (a:=tAsg _ _) fun D1 hN1 hR1 hC1=>hN1 _ _ ?_;refine b9 (a:=tIfS _ _ _) fun D2 hN2 hR2 hC2=>?_;have rest:∀rs:Str,(rs="" \/ os[pm]?=some rs)->D2.nx [rQ a,rQ nl,rQ hl,iQ (i:Int),iQ cc,iQ (sz:Int),iQ (pm:Int),rQ ow,some (.str rs)] H4:=fun rs hrs=>by
    refine hN2 _ _ ?_;refine⟨_,rfl,(.inl ⟨rfl,_,SqL.of hh4⟩),_,rfl,_,rfl,_,_,rfl,rfl,nl,_,_,_,rfl,rfl,SqL.of hn4,at7,_,rfl,_,rfl,_,rfl,(show 4<=HY by decide),fun t ht=>?_⟩;have t4:=ad ht (.tup [.str nm,.ref ow,.int (pm:Int),.str rs]);have u4:(upd H4 t (.tup [.str nm,.ref ow,.int (pm:Int),.str rs])) t=some (.tup [.str nm,.ref ow,.int (pm:Int),.str rs]):=ab;generalize upd H4 t (.tup [.str nm,.ref ow,.int (pm:Int),.str rs])=H5 at t4 u4 |-;have h5:=t4 _ _ hh4;refine⟨hl,ts.map V.ref,_,rfl,rfl,h5,cy (by rw[Ab];omega),?_⟩;have hnew:HeadX (· = hl) H5 t ⟨nm,os,pm,rs⟩:=⟨ow,u4,t4 _ _ how4,noh⟩
    refine⟨ts++[t],hs++[⟨nm,os,pm,rs⟩],_,_,_,_,_,_,fun b o h=>by rw[ai (aq h hhl0)];exact ((e3.trans e4).trans t4) _ _ h,by rw[ai nhn];exact t4 _ _ hn4,by rw[ab,Al];rfl,Paired.snocP (Paired.mapP hp3 fun _ _ z=>HeadX.put (HeadX.same z (e4.trans t4)) rfl h5) (HeadX.put hnew rfl h5),by rw[Ae,hi3];rfl,fun h hh=>?_,nm3.snoc hi3 hnm,fs3.snoc (fun z=>hof (by rw[z] at hi3;exact hi3.symm)),rfl⟩;rcases Aq.mp hh with z|z
    . exact ok3 h z
    . rw[Ax.mp z];exact⟨hnx,hox,by show 0<os.length;omega,by show os.length<=6;omega,hpo,hp4,hon,hrs⟩
   refine⟨_,rfl,_,_,rfl,rfl,(show CDiv _ 192 from⟨by decide,by decide⟩),_,_,rfl,rfl,(show (0:Int)<2 by decide),rfl,_,rfl,iteB (fun _=>?_) (fun _=>?_)⟩
   . exact⟨_,rfl,_,rfl,ow,_,_,_,rfl,rfl,SqL.of how4,atp,rest os[pm] (.inr (Ag hpo))⟩
   . exact rest "" (.inl rfl)
 . rintro σ H3 ⟨ts,hs,z3,z4,z5,z6,z7,z8,e3,hn3,hh3,hp3,hi3,ok3,nm3,fs3,rfl⟩;exact⟨_,rfl,q hl hs xs H3 e3 hhl0 ⟨ts,hh3,hp3⟩ (by omega) (by omega) hxn ok3 (by unfold iw;rw[if_neg b2];exact hxe) hx8 hxd nm3 (by unfold ixF;rw[if_neg b2];exact fs3)⟩
abbrev zr:IP:=top 60
def ml(own:List Str)(k y:Str):Prop:=(k="field" /\ (y="first" \/ y="second"))\/(k="name" /\ y∈own)\/(k="value" /\ y∈own++[("nil":Str)])
def PlG(own:List Str)(par:Nat)(hs:List Hd):Pl->Prop
 | .row r=>∃h r' fs,r=h::r'/\(h,fs)∈forms/\IE (ml own) fs r'/\(h∈[("set":Str),"read","new"]->∃x r2,r'=x::r2/\x∈own.drop par)
 | .call x c vs=>∃g∈hs,c=g.name/\vs.length=g.par/\(∀v∈vs,v∈own++[("nil":Str)])/\((g.res="" /\ x="")\/(g.res≠"" /\ x∈own.drop par))
theorem se{own:List Str}{k y:Str}(h:ml own k y)(ok:∀y∈own,Ok y):Ok y:=by
 rcases h with⟨_,rfl|rfl⟩|⟨_,z⟩|⟨_,z⟩
 . exact gz "first" (by simp)
 . exact gz "second" (by simp)
 . exact ok y z
 . rcases Aq.mp z with z|z
   . exact ok y z
   . rw[Ax.mp z];exact gz "nil" (by simp)
theorem a0h:∀x∈forms,(PyData.str x.1).canLay0=true:=by decide
theorem PlG.ok{own:List Str}{par:Nat}{hs:List Hd}{p:Pl}(h:PlG own par hs p)(ok:∀y∈own,Ok y)(okh:∀g∈hs,Ok g.name):PlOk p:=by
 have okv:∀v∈own++[("nil":Str)],Ok v:=fun v hv=>se (k := "value") (.inr (.inr ⟨rfl,hv⟩)) ok;cases p with
 | row r =>
  obtain⟨k,r',fs,rfl,hf,hp,_⟩:=h;refine⟨⟨k,r',fs,rfl,hf,Ao hp⟩,fun y hy=>?_⟩;rcases Am.mp hy with rfl|z
  . exact a0h _ hf
  . obtain⟨i,hi⟩:=Bk z;have hlt:i<fs.length:=by rw[Ao hp];exact (Av.mp hi).1
    obtain⟨y',hy',hs'⟩:=Paired.nth hp (Ag hlt);rw[hi] at hy';cases hy';exact se hs' ok
 | call x c vs =>
  obtain⟨g,hg,rfl,_,hv,hx⟩:=h;refine⟨?_,okh g hg,fun v z=>okv v (hv v z)⟩;rcases hx with⟨_,rfl⟩|⟨_,z⟩
  . exact gz "" (by simp)
  . exact ok x (Bq z)
inductive spPlain(vs:List V)(H:Hp)(Q:VK)(E:XK):Prop
 | mk (wy m:Int)(t hl:HW)(S:HW->Prop)(h:Hd)(hs:List Hd)(xs:List Str)(h0:vs=[.int wy,.int m,.ref t,.ref hl])(h1:HeadX S H t h)(h2:HdOk xs h)(h3:la H hl hs)(h4:0<hs.length)(h4':hs.length<=4)(h5:∀h∈hs,HdOk xs h)(h6:∀x∈xs,b8 x=true)(q:∀t p H',Same H H'->PlAt H' t p->PlG h.own h.par hs p->Q (.ref t) H'):spPlain vs H Q E
theorem xu(i:Int):∃v:Str,atI [V.str "first",V.str "second"] (i % 2)=some (.str v)/\(v="first" \/ v="second"):=by
 obtain⟨v,hv,hm⟩:=jn (xs:=[V.str "first",V.str "second"]) (m:=2) (i:=i) rfl (by decide);simp only[Am,Au,or_false] at hm;rcases hm with rfl|rfl
 . exact⟨_,hv,.inl rfl⟩
 . exact⟨_,hv,.inr rfl⟩
theorem scPlain:FnScope ["_law_way","_law_mixed","_law_head","_law_heads_here","_law_own","_law_some","_law_x","_law_y","_law_field","_law_e","_law_f","_law_called","_law_values"] ["_law_way","_law_mixed","_law_head","_law_heads_here"] (b7 zr):=⟨rfl,rfl,rfl,by decide,rfl,by decide,by decide⟩
theorem a6a(C:Con K mg w)(F:Fun K "_law_plain" "_law_plain" zr f fd):FnOk P w K mg base CX0 1 f fd ["_law_way","_law_mixed","_law_head","_law_heads_here"] spPlain:=by
 refine F.okQ scPlain (fun vs H Q E h=>?_) (fun cdv A outer s0 H vs Q E hr h=>?_)
 . obtain⟨wy,m,t,hl,S,h,hs,xs,rfl,_⟩:=h;rfl
 obtain⟨wy,m,t,hl,S,hd,hs,xs,rfl,hX,hok,hH,hs0,hs4,hsok,hxn,q⟩:=h;have nd:=scPlain.nd;refine⟨_,ae (av (i:=4) nd rfl (Or.inl rfl) (ag ao (qv 2) ac (fun _ _=>rfl)))
  (ae (si (av (i:=5) nd rfl (Or.inr rfl) (am ce (qv 4) (bb (ba aa)))))
  (ae (av (i:=6) nd rfl (Or.inl rfl) (ag bc (dr kc (qv 4) (ek (ag ao (qv 2) ac (fun _ _=>rfl))) ft) (am br (qv 1) (am ja (aw ap rfl C.len Ap (af (qv 4) aa)) (ag ao (qv 2) ac (fun _ _=>rfl)))) (fun _ _=>rfl)))
  (ae (av (i:=7) nd rfl (Or.inl rfl) (ag bc (qv 4) (am br (am bt (qv 1) ac) (aw ap rfl C.len Ap (af (qv 4) aa))) (fun _ _=>rfl)))
  (ae (si (av (i:=8) nd rfl (Or.inl rfl) (ag bc (bb (ba (ba aa))) (am br (am bt (qv 1) ac) ac) (fun _ _=>rfl))))
  (ae (av (i:=9) nd rfl (Or.inl rfl) (ag bc (qv 5) (am br (am bt (qv 1) ac) (aw ap rfl C.len Ap (af (qv 5) aa))) (fun _ _=>rfl)))
  (ae (av (i:=10) nd rfl (Or.inl rfl) (ag bc (qv 5) (am br (am bt (qv 1) ac) (aw ap rfl C.len Ap (af (qv 5) aa))) (fun _ _=>rfl)))
  (ae (bf (ax bo (qv 0) ac (ay _)) (aj (az (er (ba (af (qv 6) (af (qv 9) aa)))))) bm)
  (ae (bf (ax bo (qv 0) ac (ay _)) (aj (az (er (ba (af (qv 6) (af (qv 7) (af (qv 8) aa))))))) bm)
  (ae (bf (ax bo (qv 0) ac (ay _)) (aj (az (er (ba (af (qv 7) (af (qv 8) (af (qv 9) aa))))))) bm)
  (ae (bf (ax bo (qv 0) ac (ay _)) (aj (az (er (ba (af (qv 6) (af (qv 9) (af (qv 10) aa))))))) bm)
  (ae (bf (ax bo (qv 0) ac (ay _)) (aj (az (er (ba (af (qv 7) aa))))) bm)
  (ae (av (i:=11) nd rfl (Or.inl rfl) (ag bc (qv 3) (am br (am bt (qv 1) ac) (aw ap rfl C.len Ap (af (qv 3) aa))) (fun _ _=>rfl)))
  (ae (av (i:=12) nd rfl (Or.inl rfl) (cg ju rfl C.tuple Bx (dh (ij ["_law_j","_law_some","_law_mixed"] [5,1] (cz rfl C.range (ar (ag ao (qv 11) ac (fun _ _=>rfl)) aa)) (fun _ _ _ _=>db) (fun _ _ _ _=>(ag (ixK (K:=K) rfl) (qv 1) (am br (am bt (qv 2) (am cw ac (qv 0))) (aw (lenK (K:=K) rfl) rfl C.len Ap (af (qv 1) aa))) (fun _ _=>rfl)))) aa)))
  (ae (bf (ax bo (ag ao (qv 11) ac (fun _ _=>rfl)) bv (ay _)) (aj (az (er (ba (ba (ar (ag ao (qv 11) ac (fun _ _=>rfl)) (af (qv 12) aa))))))) bm)
  (aj (az (er (ba (af (qv 6) (ar (ag ao (qv 11) ac (fun _ _=>rfl)) (af (qv 12) aa))))))))))))))))))))),?_⟩
 obtain⟨ow,hX1,hX2,_⟩:=hX;obtain⟨nm,os,pm,rs⟩:=hd;obtain⟨hok1,hok2,hok3,hok4,hok5,_,_,hok6⟩:=hok;dsimp only at hX1 hX2 hok1 hok2 hok3 hok4 hok5 hok6 q;refine⟨_,rfl,t,_,1,_,rfl,rfl,SqT.of hX1,rfl,?_⟩;refine⟨_,rfl,(show 1<=HY by decide),fun x1 hx1=>?_⟩;have s1:=ad hx1 (.lst [.str "nil"]);have k1:(upd H x1 (.lst [.str "nil"])) x1=some (.lst [.str "nil"]):=ab;generalize upd H x1 (.lst [.str "nil"])=H1 at s1 k1 |-;refine⟨ow,x1,_,_,rfl,rfl,s1 _ _ hX2,k1,bx (by rw[Ab];show _+1<=1000;omega),fun sm hsm=>?_⟩;have s2:=ad hsm (.lst (os.map V.str++[.str "nil"]));have k2:(upd H1 sm (.lst (os.map V.str++[.str "nil"]))) sm=some (.lst ((os++[("nil":Str)]).map V.str)):=by rw[ab,Al];rfl
 have e2:=s1.trans s2;have hyl:(os++[("nil":Str)]).length=os.length+1:=by rw[Ae];rfl
 generalize upd H1 sm (.lst (os.map V.str++[.str "nil"]))=H2 at k2 e2 |-;generalize hys:os++[("nil":Str)]=ys at k2 hyl;clear s1 s2 k1 hx1 hsm;intro τ eτ;obtain rfl:τ=[iQ wy,iQ m,rQ t,rQ hl,rQ ow,rQ sm,nQ,nQ,nQ,nQ,nQ,nQ,nQ]:=eτ;have ho2:=e2 _ _ hX2;have ht2:=e2 _ _ hX1;have ly0:(0:Int)<(((ys.map V.str).length:Nat):Int):=by rw[Ab];omega
 have lo0:(0:Int)<(((os.map V.str).length:Nat):Int):=by rw[Ab];omega
 refine⟨_,rfl,_,rfl,t,_,2,_,rfl,rfl,SqT.of ht2,rfl,_,rfl,ow,_,rfl,SqL.of ho2,fun x2 hx2=>?_⟩;rw[a6u,<- HC];have s3:=ad hx2 (.lst ((os.drop pm).map V.str));have k3:(upd H2 x2 (.lst ((os.drop pm).map V.str))) x2=some (.lst ((os.drop pm).map V.str)):=ab;generalize upd H2 x2 (.lst ((os.drop pm).map V.str))=H3 at s3 k3 |-;have hdl:(((os.map V.str).length:Nat):Int)-(pm:Int)=(((os.drop pm).length:Nat):Int):=by rw[Ab,Bi];omega
 obtain⟨vx,hvx,hvxm⟩:=a06 (os.drop pm) (n:=(((os.map V.str).length:Nat):Int)-(pm:Int)) hdl.symm (by rw[Ab];omega) m;have hvo:=Bq hvxm;have ho3:=s3 _ _ ho2;have ht3:=s3 _ _ ht2;have hm3:=s3 _ _ k2;refine⟨_,rfl,_,rfl,ow,_,rfl,.inl (SqL.of ho3),_,rfl,t,_,2,_,rfl,rfl,SqT.of ht3,rfl,_,_,rfl,rfl,_,_,rfl,rfl,(by rw[Ab];omega),x2,_,_,_,rfl,rfl,SqL.of k3,hvx,?_⟩;obtain⟨vy,hvy,hvym⟩:=cx os hok3 (m / 6);refine⟨_,rfl,_,rfl,_,_,rfl,rfl,(show CDiv _ 6 from⟨by decide,by decide⟩),_,rfl,ow,_,rfl,.inl (SqL.of ho3),_,_,rfl,rfl,lo0,ow,_,_,_,rfl,rfl,SqL.of ho3,hvy,?_⟩;obtain⟨fi,hfi,okfi⟩:=xu (m / 36);refine⟨(show 2<=HY by decide),fun x3 hx3=>?_⟩;have s4:=ad hx3 (.lst [.str "first",.str "second"]);have k4:(upd H3 x3 (.lst [.str "first",.str "second"])) x3=some (.lst [.str "first",.str "second"]):=ab;generalize upd H3 x3 (.lst [.str "first",.str "second"])=H4 at s4 k4 |-;have hm4:=s4 _ _ hm3;refine⟨_,rfl,_,_,rfl,rfl,(show CDiv _ 36 from⟨by decide,by decide⟩),_,_,rfl,rfl,(show (0:Int)<2 by decide),x3,_,_,_,rfl,rfl,SqL.of k4,hfi,?_⟩;intro τ eτ;obtain rfl:τ=[iQ wy,iQ m,rQ t,rQ hl,rQ ow,rQ sm,some (.str vx),some (.str vy),some (.str fi),nQ,nQ,nQ,nQ]:=eτ;obtain⟨ve,hve,hvem⟩:=cx ys (by omega) (m / 72);obtain⟨vf,hvf,hvfm⟩:=cx ys (by omega) (m / 504);refine⟨_,rfl,_,rfl,_,_,rfl,rfl,(show CDiv _ 72 from⟨by decide,by decide⟩),_,rfl,sm,_,rfl,.inl (SqL.of hm4),_,_,rfl,rfl,ly0,sm,_,_,_,rfl,rfl,SqL.of hm4,hve,?_⟩;refine⟨_,rfl,_,rfl,_,_,rfl,rfl,(show CDiv _ 504 from⟨by decide,by decide⟩),_,rfl,sm,_,rfl,.inl (SqL.of hm4),_,_,rfl,rfl,ly0,sm,_,_,_,rfl,rfl,SqL.of hm4,hvf,?_⟩;have e4:=(e2.trans s3).trans s4;clear hve hvf hvx hvy hfi;have fin:∀(h:Str) (r:List Str) (t:HW),PlG os pm hs (.row (h::r))->H4 t=none->Q (.ref t) (upd H4 t (.tup ((h::r).map V.str))):=fun h r t hr ht=>q t (.row (h::r)) _ (e4.trans (ad ht _)) ab hr;rw[<- hys] at hvem hvfm;have sN:∀{y:Str},y∈os->ml os "name" y:=fun z=>.inr (.inl ⟨rfl,z⟩);have sV:∀{y:Str},y∈os++[("nil":Str)]->ml os "value" y:=fun z=>.inr (.inr ⟨rfl,z⟩);have sF:ml os "field" fi:=.inl ⟨rfl,okfi⟩;refine⟨_,rfl,rfl,_,rfl,iteB (fun _=>?_) (fun _=>?_)⟩
 . exact⟨_,rfl,_,rfl,(show 3<=HY by decide),fun t ht=>fin "set" [vx,ve] t ⟨_,_,_,rfl,show (("set":Str),[("name":Str),"value"])∈forms by decide,.cons (sN hvo) (.cons (sV hvem) .nil),fun _=>⟨_,_,rfl,hvxm⟩⟩ ht⟩
 refine⟨_,rfl,rfl,_,rfl,iteB (fun _=>?_) (fun _=>?_)⟩
 . exact⟨_,rfl,_,rfl,_,rfl,(show 4<=HY by decide),fun t ht=>fin "read" [vx,vy,fi] t ⟨_,_,_,rfl,show (("read":Str),[("name":Str),"name","field"])∈forms by decide,.cons (sN hvo) (.cons (sN hvym) (.cons sF .nil)),fun _=>⟨_,_,rfl,hvxm⟩⟩ ht⟩
 refine⟨_,rfl,rfl,_,rfl,iteB (fun _=>?_) (fun _=>?_)⟩
 . exact⟨_,rfl,_,rfl,_,rfl,(show 4<=HY by decide),fun t ht=>fin "write" [vy,fi,ve] t ⟨_,_,_,rfl,show (("write":Str),[("name":Str),"field","value"])∈forms by decide,.cons (sN hvym) (.cons sF (.cons (sV hvem) .nil)),fun z=>absurd z (by decide)⟩ ht⟩
 refine⟨_,rfl,rfl,_,rfl,iteB (fun _=>?_) (fun _=>?_)⟩
 . exact⟨_,rfl,_,rfl,_,rfl,(show 4<=HY by decide),fun t ht=>fin "new" [vx,ve,vf] t ⟨_,_,_,rfl,show (("new":Str),[("name":Str),"value","value"])∈forms by decide,.cons (sN hvo) (.cons (sV hvem) (.cons (sV hvfm) .nil)),fun _=>⟨_,_,rfl,hvxm⟩⟩ ht⟩
 refine⟨_,rfl,rfl,_,rfl,iteB (fun _=>?_) (fun _=>?_)⟩
 . exact⟨_,rfl,(show 2<=HY by decide),fun t ht=>fin "free" [vy] t ⟨_,_,_,rfl,show (("free":Str),[("name":Str)])∈forms by decide,.cons (sN hvym) .nil,fun z=>absurd z (by decide)⟩ ht⟩
 have hH4:la H4 hl hs:=by
  obtain⟨ts,h1,h2⟩:=hH;exact⟨ts,e4 _ _ h1,Paired.mapP h2 fun _ _ z=>z.same e4⟩
 obtain⟨ts,hl4,hp4⟩:=hH4;have htl:=Ao hp4;obtain⟨cv,hcv,hcm⟩:=jn (xs:=ts.map V.ref) (m:=((ts.map V.ref).length:Int)) (i:=m / 3528) rfl (by rw[Ab];omega);obtain⟨ct,hct,rfl⟩:=AF.mp hcm;obtain⟨k,hk⟩:=Bk hct;obtain⟨⟨cn,cos,cpm,crs⟩,hck,cow,hc1,hc2,hc3⟩:=Paired.nth hp4 hk;have hcok:=hsok _ (Ak hck);have hcok1:=hcok.few;have hcok5:=hcok.par;dsimp only at hc1 hc2 hcok1 hcok5;refine⟨_,rfl,_,rfl,_,_,rfl,rfl,(show CDiv _ 3528 from⟨by decide,by decide⟩),_,rfl,hl,_,rfl,.inl (SqL.of hl4),_,_,rfl,rfl,(by rw[Ab];omega),hl,_,_,_,rfl,rfl,SqL.of hl4,hcv,?_⟩;have aty:∀j:Nat,∃v:Str,atI (ys.map V.str) ((m / (5+(0+(j:Int)))) % (((ys.map V.str).length:Nat):Int))=some (.str v)/\v∈ys:=fun j=>cx ys (by omega) _;refine⟨_,rfl,ct,_,2,_,rfl,rfl,SqT.of hc1,rfl,_,rfl,by omega,by omega,?_⟩;refine qd (nums 0 (cpm:Int).toNat) (Bg cpm) (fun j=>BM (aty j)) pq trivial (by unfold nums;rw[Ab,Bu];omega) (by unfold nums;rw[Ab,Bu,Bu];omega) (fun j x r hx hr' H5 e5 Q' q'=>?_) fun vl H5 hvl e5 hvl5=>?_
 . have hx':x=.int ((0:Int)+(r:Nat)):=by
    unfold nums at hx;rw[Bh,Ah,hr'] at hx;exact (Ay hx).symm
   subst hx';have hr5:(0:Int)<=(r:Int)/\(r:Int)<=6:=by
    have:=Av.mp hr';obtain⟨h1,h2⟩:=this;rw[List.getElem_range] at h2;rw[Bu] at h1;omega
   have hm5:=e5 _ _ hm4;exact⟨_,rfl,_,rfl,_,rfl,_,_,rfl,rfl,_,_,rfl,rfl,(show CDiv _ _ from⟨by omega,by omega⟩),_,rfl,sm,_,rfl,.inl (SqL.of hm5),_,_,rfl,rfl,ly0,sm,_,_,_,rfl,rfl,SqL.of hm5,(BV (aty r)).1,q' H5 (Same.refl _)⟩
 have hvy':∀y∈(Bg cpm).map fun j=>BM (aty j),y∈os++[("nil":Str)]:=fun y hy=>by
  obtain⟨j,_,rfl⟩:=AF.mp hy;rw[hys];exact (BV (aty j)).2
 have hvl':((Bg cpm).map fun j=>BM (aty j)).length=cpm:=by rw[Ab,Bu]
 generalize ((Bg cpm).map fun j=>BM (aty j))=vs at hvl5 hvy' hvl';refine⟨vl,_,rfl,.inl ⟨SqL.of hvl5,fun vt hvt=>?_⟩⟩;have s6:=ad hvt (.tup (vs.map V.str));have k6:(upd H5 vt (.tup (vs.map V.str))) vt=some (.tup (vs.map V.str)):=ab;generalize upd H5 vt (.tup (vs.map V.str))=H6 at s6 k6 |-;have e6:=(e4.trans e5).trans s6;have c6:=(e5.trans s6) _ _ hc1;have hgm:=Ak hck;have fin2:∀(x:Str) (t:HW),((crs="" /\ x="")\/(crs≠"" /\ x∈os.drop pm))->H6 t=none->Q (.ref t) (upd H6 t (.tup [.str "call",.str x,.str cn,.ref vt])):=fun x t hx ht=>q t (.call x cn vs) _ (e6.trans (ad ht _)) ⟨vt,ab,(ad ht _) _ _ k6⟩ ⟨_,hgm,rfl,hvl',hvy',hx⟩;refine⟨_,rfl,ct,_,3,_,rfl,rfl,SqT.of c6,rfl,rfl,_,rfl,iteB (fun c=>?_) (fun c=>?_)⟩
 . exact⟨_,rfl,ct,_,0,_,rfl,rfl,SqT.of c6,rfl,_,rfl,(show 4<=HY by decide),fun t ht=>fin2 "" t (.inl ⟨V.str.inj (of_decide_eq_true c),rfl⟩) ht⟩
 . exact⟨_,rfl,_,rfl,ct,_,0,_,rfl,rfl,SqT.of c6,rfl,_,rfl,(show 4<=HY by decide),fun t ht=>fin2 vx t (.inr ⟨fun z=>of_decide_eq_false c (by rw[z]),hvxm⟩) ht⟩
abbrev Lv:=HW->Option Nat
def Mt(lv:Lv)(S:List HW)(b:HW):Prop:=(∃k,lv b=some k)\/b∈S
structure Up(S:List HW)(lv lv':Lv)(H H':Hp):Prop where
 inc:∀a k,lv a=some k->lv' a=some k
 new:∀a k,lv' a=some k->lv a=some k\/H a=none
 keep:∀b o,H b=some o->¬ Mt lv S b->H' b=some o
 dom:∀b,H' b=none->H b=none
def dw(lv:Lv)(b:HW)(k:Nat):Lv:=fun a=>if a=b then some k else lv a
section
variable{S:List HW}{lv lv' lv1 lv2:Lv}{H H' H1 H2:Hp}
theorem Up.not(u:Up S lv lv' H H'){b:HW}{o:HO}(h:H b=some o)(n:¬ Mt lv S b):¬ Mt lv' S b:=by
 rintro (⟨k,z⟩|z)
 . rcases u.new _ _ z with y|y
   . exact n (.inl ⟨k,y⟩)
   . rw[y] at h;cases h
 . exact n (.inr z)
theorem Up.refl:Up S lv lv H H:=⟨fun _ _ z=>z,fun _ _ z=>.inl z,fun _ _ h _=>h,fun _ h=>h⟩
theorem Up.trans(u:Up S lv lv1 H H1)(v:Up S lv1 lv2 H1 H2):Up S lv lv2 H H2 :=
 ⟨fun a k z=>v.inc _ _ (u.inc _ _ z),fun a k z=>(v.new a k z).elim (fun y=>u.new a k y) (fun y=>.inr (u.dom _ y)),fun b o h n=>v.keep b o (u.keep b o h n) (u.not h n),fun b h=>u.dom b (v.dom b h)⟩
theorem Up.same(e:Same H H'):Up S lv lv H H':=⟨fun _ _ z=>z,fun _ _ z=>.inl z,fun b o h _=>e b o h,fun _ h=>e.free h⟩
theorem Up.put{a:HW}{o o':HO}(hM:Mt lv S a)(ha:H a=some o):Up S lv lv H (upd H a o') :=
 ⟨fun _ _ z=>z,fun _ _ z=>.inl z,fun b u h n=>by rw[ai (fun z=>n (by rw[z];exact hM))];exact h,fun b h=>by
  by_cases z:b=a
  . rw[z,ab] at h;cases h
  . rw[ai z] at h;exact h⟩
theorem Up.add{b:HW}{k:Nat}{o:HO}(hb:H b=none)(hl:lv b=none):Up S lv (dw lv b k) H (upd H b o) :=
 ⟨fun a j z=>by
  unfold dw;rw[if_neg (fun y=>by rw[y,hl] at z;cases z)];exact z,fun a j z=>by
  unfold dw at z;by_cases y:a=b
  . exact .inr (by rw[y];exact hb)
  . rw[if_neg y] at z;exact .inl z,fun c u h _=>ad hb _ _ _ h,fun c h=>(ad hb o).free h⟩
def MtL(H:Hp)(lv:Lv)(S:List HW):Prop:=∀b,Mt lv S b->∃us,H b=some (.lst us)
theorem Up.tup(u:Up S lv lv' H H')(m:MtL H lv S){t:HW}{vs:List V}(h:H t=some (.tup vs)):H' t=some (.tup vs):=u.keep _ _ h fun z=>by
 obtain⟨us,hu⟩:=m _ z;rw[h] at hu;cases hu
theorem Up.frz(u:Up S lv lv' H H')(m:MtL H lv S){t:HW}{o:Obj}{x:HO}(h:H t=some (.frz o x)):H' t=some (.frz o x):=u.keep _ _ h fun z=>by
 obtain⟨us,hu⟩:=m _ z;rw[h] at hu;cases hu
theorem Up.sqT(u:Up S lv lv' H H')(m:MtL H lv S){K:Ac}{t:HW}{vs:List V}(h:SqT K H t vs):SqT K H' t vs:=by
 rcases h with (h|⟨o,h⟩)|h
 . exact .inl (.inl (u.tup m h))
 . exact .inl (.inr ⟨o,u.frz m h⟩)
 . exact .inr h
theorem Up.rows(u:Up S lv lv' H H')(m:MtL H lv S){K:Ac}{t:HW}{rs:List (List Str)}(n:¬ Mt lv S t)(h:RowsAt K H t rs):RowsAt K H' t rs:=by
 obtain⟨as,h1,h2⟩:=h;exact⟨as,u.keep _ _ h1 n,Paired.mapP h2 fun _ _ z=>u.sqT m z⟩
theorem Up.pl(u:Up S lv lv' H H')(m:MtL H lv S){t:HW}{p:Pl}(h:PlAt H t p):PlAt H' t p:=by
 cases p with
 | row r=>exact u.tup m h
 | call x c vs=>obtain⟨v,h1,h2⟩:=h;exact⟨v,u.tup m h1,u.tup m h2⟩
inductive DeedAt(K:Ac)(hs:List Hd)(H:Hp)(lv:Lv)(S:List HW)(k:Nat)(t:HW):Prop
 | plain (g:Hd)(p:Pl)(hg:hs[k / 8]?=some g)(h1:PlAt H t p)(h2:PlG g.own g.par hs p)(h3:PlOk p)
 | cond (g:Hd)(c i o:HW)(r:List Str)(hg:hs[k / 8]?=some g)(h:H t=some (.tup [.str "if",.ref c,.ref i,.ref o]))(hc:H c=some (.tup (r.map V.str)))(okr:em (g.own++[("nil":Str)]) r)(hi:lv i=some (k+1))(ho:lv o=some (k+1))
 | loop (g:Hd)(c td i fa pa:HW)(r:List Str)(F P:List (List Str))(hg:hs[k / 8]?=some g)(h:H t=some (.tup [.str "while",.ref c,.ref td,.ref i]))(hc:H c=some (.tup (r.map V.str)))(okr:em (g.own++[("nil":Str)]) r)(htd:H td=some (.tup [.ref fa,.ref pa]))(hF:RowsAt K H fa F)(hP:RowsAt K H pa P)(nF:¬ Mt lv S fa)(nP:¬ Mt lv S pa)(okF:∀r∈F,em (g.own++[("nil":Str)]) r)(okP:∀r∈P,gc (g.own++[("nil":Str)]) r)(lF:F.length<=2)(lP:P.length<=2)(hi:lv i=some (k+1))
theorem a0i{K:Ac}{H:Hp}{t:HW}{rs:List (List Str)}(h:RowsAt K H t rs):∃us,H t=some (.lst us):=by
 obtain⟨as,h1,_⟩:=h;exact⟨_,h1⟩
theorem DeedAt.up{K:Ac}{hs:List Hd}{k:Nat}{t:HW}(h:DeedAt K hs H lv S k t)(m:MtL H lv S)(u:Up S lv lv' H H'):DeedAt K hs H' lv' S k t:=by
 cases h with
 | plain g p hg h1 h2 h3=>exact .plain g p hg (u.pl m h1) h2 h3
 | cond g c i o r hg h hc okr hi ho=>exact .cond g c i o r hg (u.tup m h) (u.tup m hc) okr (u.inc _ _ hi) (u.inc _ _ ho)
 | loop g c td i fa pa r F P hg h hc okr htd hF hP nF nP okF okP lF lP hi =>
  obtain⟨_,q1⟩:=a0i hF;obtain⟨_,q2⟩:=a0i hP;exact .loop g c td i fa pa r F P hg (u.tup m h) (u.tup m hc) okr (u.tup m htd) (u.rows m nF hF) (u.rows m nP hP) (u.not q1 nF) (u.not q2 nP) okF okP lF lP (u.inc _ _ hi)
inductive EntAt(H:Hp)(lv:Lv)(i:Nat)(e:HW):Prop
 | one (d:HW)(h:H e=some (.tup [.ref d,.non]))(hd:lv d=some i)
 | two (d o:HW)(h:H e=some (.tup [.ref d,.ref o]))(hd:lv d=some i)(ho:lv o=some i)
theorem EntAt.up{i:Nat}{e:HW}(h:EntAt H lv i e)(m:MtL H lv S)(u:Up S lv lv' H H'):EntAt H' lv' i e:=by
 cases h with
 | one d h hd=>exact .one d (u.tup m h) (u.inc _ _ hd)
 | two d o h hd ho=>exact .two d o (u.tup m h) (u.inc _ _ hd) (u.inc _ _ ho)
def EntsAt(H:Hp)(lv:Lv)(o:Nat)(es:List HW):Prop:=0<es.length/\es.length<=5/\∀i e,es[i]?=some e->EntAt H lv (8*o+i) e
def Psn(H:Hp)(lv:Lv)(a:HW)(i:Nat)(t:HW):Prop:=∃(k:Nat) (ts:List HW),lv a=some k/\H a=some (.lst (ts.map V.ref))/\ts[i]?=some t
inductive Inn(H:Hp)(t b:HW):Nat->Prop
 | i0 (c:V)(o:HW)(h:H t=some (.tup [.str "if",c,.ref b,.ref o])):Inn H t b 0
 | i1 (c:V)(i:HW)(h:H t=some (.tup [.str "if",c,.ref i,.ref b])):Inn H t b 1
 | w0 (c d:V)(h:H t=some (.tup [.str "while",c,d,.ref b])):Inn H t b 0
def Orph(H:Hp)(lv:Lv)(b:HW):Prop:=∀a i t s,Psn H lv a i t->¬ Inn H t b s
structure Wk(K:Ac)(hs:List Hd)(so:HW->Nat)(H:Hp)(lv:Lv)(S:List HW)(n:Nat):Prop where
 low:∀a k,lv a=some k->k % 8<=4
 lists:∀a k,lv a=some k->∃ts:List HW,H a=some (.lst (ts.map V.ref))/\ts.length<=n/\∀t∈ts,DeedAt K hs H lv S k t
 stacks:∀s∈S,∃es:List HW,H s=some (.lst (es.map V.ref))/\EntsAt H lv (so s) es
 apart:∀s∈S,lv s=none
 one:∀a i t s a' i' t' s' b,Psn H lv a i t->Inn H t b s->Psn H lv a' i' t'->Inn H t' b s'->a=a'/\i=i'/\s=s'
 num:∃nm:HW->Nat->Nat,(∀a i t,Psn H lv a i t->nm a i<n)/\∀a i t a' i' t',Psn H lv a i t->Psn H lv a' i' t'->nm a i=nm a' i'->a=a'/\i=i'
theorem qz{H:Hp}{t b:HW}{s:Nat}{p:Pl}(h:PlAt H t p)(ok:PlOk p):¬ Inn H t b s:=fun z=>by
 obtain⟨w,vs,hw,n1,n2⟩:=kz h ok;cases z with
 | i0 c o h'=>rw[hw] at h';cases h';exact n1 rfl
 | i1 c o h'=>rw[hw] at h';cases h';exact n1 rfl
 | w0 c d h'=>rw[hw] at h';cases h';exact n2 rfl
theorem vg{H:Hp}{t x b b2:HW}{c:V}{s:Nat}(h:H t=some (.tup [.str "if",c,.ref b,.ref b2]))(z:Inn H t x s):(x=b/\s=0)\/(x=b2/\s=1):=by
 cases z with
 | i0 c o h'=>rw[h] at h';cases h';exact .inl ⟨rfl,rfl⟩
 | i1 c o h'=>rw[h] at h';cases h';exact .inr ⟨rfl,rfl⟩
 | w0 c d h' =>
  rw[h] at h';exact absurd (V.str.inj (Ey (HO.tup.inj (Ay h'))).1) (by decide)
theorem qr{H:Hp}{t x b:HW}{c d:V}{s:Nat}(h:H t=some (.tup [.str "while",c,d,.ref b]))(z:Inn H t x s):x=b/\s=0:=by
 cases z with
 | i0 c o h' =>
  rw[h] at h';exact absurd (V.str.inj (Ey (HO.tup.inj (Ay h'))).1) (by decide)
 | i1 c o h' =>
  rw[h] at h';exact absurd (V.str.inj (Ey (HO.tup.inj (Ay h'))).1) (by decide)
 | w0 c d h'=>rw[h] at h';cases h';exact⟨rfl,rfl⟩
theorem Inn.of{H H':Hp}{t b:HW}{s:Nat}{vs:List V}(h:H t=some (.tup vs))(h':H' t=some (.tup vs))(z:Inn H' t b s):Inn H t b s:=by
 cases z with
 | i0 c o e=>exact .i0 c o (by rw[h,<- h',e])
 | i1 c o e=>exact .i1 c o (by rw[h,<- h',e])
 | w0 c d e=>exact .w0 c d (by rw[h,<- h',e])
theorem DeedAt.tup{K:Ac}{hs:List Hd}{H:Hp}{lv:Lv}{S:List HW}{k:Nat}{t:HW}(h:DeedAt K hs H lv S k t):∃vs,H t=some (.tup vs):=by
 cases h with
 | plain g p hg h1 h2 h3=>obtain⟨w,vs,hw,_⟩:=kz h1 h3;exact⟨_,hw⟩
 | cond g c i o r hg h hc okr hi ho=>exact⟨_,h⟩
 | loop g c td i fa pa r F P hg h hc okr htd hF hP nF nP okF okP lF lP hi=>exact⟨_,h⟩
theorem DeedAt.inn{K:Ac}{hs:List Hd}{H:Hp}{lv:Lv}{S:List HW}{k s:Nat}{t b:HW}(h:DeedAt K hs H lv S k t)(z:Inn H t b s):lv b=some (k+1):=by
 cases h with
 | plain g p hg h1 h2 h3=>exact absurd z (qz h1 h3)
 | cond g c i o r hg h hc okr hi ho=>rcases vg h z with⟨rfl,_⟩|⟨rfl,_⟩<;>assumption
 | loop g c td i fa pa r F P hg h hc okr htd hF hP nF nP okF okP lF lP hi=>obtain⟨rfl,_⟩:=qr h z;exact hi
theorem po{H:Hp}{a:HW}{ts us:List HW}(h1:H a=some (.lst (ts.map V.ref)))(h2:H a=some (.lst (us.map V.ref))):ts=us:=by
 rw[h1] at h2;exact Ge (f:=V.ref) (fun x y z=>by injection z) |>.mp (HO.lst.inj (Ay h2))
variable{K:Ac}{hs:List Hd}{so:HW->Nat}{n:Nat}
theorem Wk.mt(W:Wk K hs so H lv S n):MtL H lv S:=by
 rintro b (⟨k,hk⟩|hs)
 . obtain⟨ts,h,_⟩:=W.lists _ _ hk;exact⟨_,h⟩
 . obtain⟨es,h,_⟩:=W.stacks _ hs;exact⟨_,h⟩
theorem Wk.lvfree(W:Wk K hs so H lv S n){b:HW}(h:H b=none):lv b=none:=by
 cases q:lv b with
 | none=>rfl
 | some k=>obtain⟨ts,h1,_⟩:=W.lists _ _ q;rw[h] at h1;cases h1
theorem Wk.le(W:Wk K hs so H lv S n){m:Nat}(h:n<=m):Wk K hs so H lv S m :=
 ⟨W.low,fun a k z=>by obtain⟨ts,h1,h2,h3⟩:=W.lists a k z;exact⟨ts,h1,Aw h2 h,h3⟩,W.stacks,W.apart,W.one,by obtain⟨nm,h1,h2⟩:=W.num;exact⟨nm,fun a i t z=>AH (h1 a i t z) h,h2⟩⟩
theorem Wk.psn(W:Wk K hs so H lv S n){a:HW}{i:Nat}{t:HW}(z:Psn H lv a i t):∃k,lv a=some k/\DeedAt K hs H lv S k t:=by
 obtain⟨k,ts,h1,h2,h3⟩:=z;obtain⟨ts',g1,_,g3⟩:=W.lists a k h1;rw[po h2 g1] at h3;exact⟨k,h1,g3 t (Ak h3)⟩
theorem Wk.orph(W:Wk K hs so H lv S n){b:HW}(hb:H b=none):Orph H lv b:=fun a i t s z y=>by
 obtain⟨k,h1,h2⟩:=W.psn z;have:=h2.inn y;rw[W.lvfree hb] at this;cases this
structure Back(H:Hp)(lv:Lv)(H':Hp)(lv':Lv):Prop where
 psn:∀a i t,Psn H' lv' a i t->Psn H lv a i t
 inn:∀a i t b s,Psn H lv a i t->Inn H' t b s->Inn H t b s
theorem Back.orph(B:Back H lv H' lv'){b:HW}(h:Orph H lv b):Orph H' lv' b:=fun a i t s z y=>h a i t s (B.psn _ _ _ z) (B.inn _ _ _ _ _ (B.psn _ _ _ z) y)
theorem Back.one(B:Back H lv H' lv')(W:Wk K hs so H lv S n):∀a i t s a' i' t' s' b,Psn H' lv' a i t->Inn H' t b s->Psn H' lv' a' i' t'->Inn H' t' b s'->a=a'/\i=i'/\s=s' :=
 fun a i t s a' i' t' s' b h1 h2 h3 h4=>W.one a i t s a' i' t' s' b (B.psn _ _ _ h1) (B.inn _ _ _ _ _ (B.psn _ _ _ h1) h2) (B.psn _ _ _ h3) (B.inn _ _ _ _ _ (B.psn _ _ _ h3) h4)
theorem Back.num(B:Back H lv H' lv')(W:Wk K hs so H lv S n):∃nm:HW->Nat->Nat,(∀a i t,Psn H' lv' a i t->nm a i<n)/\∀a i t a' i' t',Psn H' lv' a i t->Psn H' lv' a' i' t'->nm a i=nm a' i'->a=a'/\i=i':=by
 obtain⟨nm,h1,h2⟩:=W.num;exact⟨nm,fun a i t z=>h1 a i t (B.psn _ _ _ z),fun a i t a' i' t' z y=>h2 a i t a' i' t' (B.psn _ _ _ z) (B.psn _ _ _ y)⟩
theorem Wk.innB(W:Wk K hs so H lv S n)(u:Up S lv lv' H H'){a:HW}{i:Nat}{t b:HW}{s:Nat}(z:Psn H lv a i t)(y:Inn H' t b s):Inn H t b s:=by
 obtain⟨k,_,h⟩:=W.psn z;obtain⟨vs,hv⟩:=h.tup;exact y.of hv (u.tup W.mt hv)
theorem Wk.backS(W:Wk K hs so H lv S n)(e:Same H H'):Back H lv H' lv:=⟨fun a i t z=>by
 obtain⟨k,ts,h1,h2,h3⟩:=z;obtain⟨ts',g1,_⟩:=W.lists a k h1;rw[po h2 (e _ _ g1)] at h3;exact⟨k,ts',h1,g1,h3⟩,fun a i t b s z y=>W.innB (.same e) z y⟩
theorem EntsAt.up{o:Nat}{es:List HW}(h:EntsAt H lv o es)(m:MtL H lv S)(u:Up S lv lv' H H'):EntsAt H' lv' o es:=⟨h.1,h.2.1,fun i e q=>(h.2.2 i e q).up m u⟩
theorem Wk.same(W:Wk K hs so H lv S n)(e:Same H H'):Wk K hs so H' lv S n :=
 ⟨W.low,fun a k z=>by
  obtain⟨ts,h1,h2,h3⟩:=W.lists a k z;exact⟨ts,e _ _ h1,h2,fun t ht=>(h3 t ht).up W.mt (.same e)⟩,fun s hs=>by
  obtain⟨es,h1,h2⟩:=W.stacks s hs;exact⟨es,e _ _ h1,h2.up W.mt (.same e)⟩,W.apart,(W.backS e).one W,(W.backS e).num W⟩
theorem Wk.put(W:Wk K hs so H lv S n){a t:HW}{k:Nat}{ts:List HW}(ha:lv a=some k)(hl:H a=some (.lst (ts.map V.ref)))(ht:DeedAt K hs H lv S k t)(hO:∀b s,Inn H t b s->Orph H lv b/\∀s',Inn H t b s'->s=s'):Wk K hs so (upd H a (.lst (ts.map V.ref++[.ref t]))) lv S (n+1):=by
 have u:Up S lv lv H (upd H a (.lst (ts.map V.ref++[.ref t]))):=.put (.inl ⟨k,ha⟩) hl;have hps:∀b i x,Psn (upd H a (.lst (ts.map V.ref++[.ref t]))) lv b i x->Psn H lv b i x\/(b=a/\i=ts.length/\x=t):=fun b i x z=>by
  obtain⟨j,us,h1,h2,h3⟩:=z;by_cases c:b=a
  . subst c;have q:(upd H b (.lst (ts.map V.ref++[.ref t]))) b=some (.lst ((ts++[t]).map V.ref)):=by rw[ab,Al];rfl
    rw[po h2 q] at h3;by_cases hi:i<ts.length
    . rw[Bo hi] at h3;exact .inl ⟨k,ts,ha,hl,h3⟩
    . rw[Bw (by omega)] at h3;obtain⟨hlt,hx⟩:=Av.mp h3;have h0:i=ts.length:=by simp only[AY,EZ] at hlt;omega
      subst h0;rw[Ea] at h3;exact .inr ⟨rfl,rfl,(Ay h3).symm⟩
  . rw[ai c] at h2;exact .inl ⟨j,us,h1,h2,h3⟩
 obtain⟨vt,hvt⟩:=ht.tup;have hit:∀x s,Inn (upd H a (.lst (ts.map V.ref++[.ref t]))) t x s->Inn H t x s:=fun x s z=>z.of hvt (u.tup W.mt hvt);refine⟨W.low,fun b j z=>?_,fun s hs=>?_,W.apart,?_,?_⟩
 . obtain⟨ts',h1,h2,h3⟩:=W.lists b j z;by_cases y:b=a
   . subst y;rw[ha] at z;cases z;rw[hl] at h1;have:ts=ts':=by
      have h4:=Ge (f:=V.ref) (fun x y z=>by injection z) |>.mp (HO.lst.inj (Ay h1));exact h4
     subst this;refine⟨ts++[t],by rw[ab,Al];rfl,by rw[Ae];exact DV h2 1,fun x hx=>?_⟩;rcases Aq.mp hx with q|q
     . exact (h3 x q).up W.mt u
     . rw[Ax.mp q];exact ht.up W.mt u
   . exact⟨ts',by rw[ai y];exact h1,by omega,fun x hx=>(h3 x hx).up W.mt u⟩
 . obtain⟨es,h1,h2⟩:=W.stacks s hs;exact⟨es,by rw[ai (fun y=>by rw[<- y,W.apart s hs] at ha;cases ha)];exact h1,h2.up W.mt u⟩
 . intro b i x s b' i' x' s' y h1 h2 h3 h4;rcases hps _ _ _ h1 with g1|⟨rfl,rfl,rfl⟩
   . have e2:=W.innB u g1 h2;rcases hps _ _ _ h3 with g3|⟨rfl,rfl,rfl⟩
     . exact W.one _ _ _ _ _ _ _ _ _ g1 e2 g3 (W.innB u g3 h4)
     . exact absurd e2 ((hO _ _ (hit _ _ h4)).1 _ _ _ _ g1)
   . have e2:=hit _ _ h2;rcases hps _ _ _ h3 with g3|⟨rfl,rfl,rfl⟩
     . exact absurd (W.innB u g3 h4) ((hO _ _ e2).1 _ _ _ _ g3)
     . exact⟨rfl,rfl,(hO _ _ e2).2 _ (hit _ _ h4)⟩
 . obtain⟨nm,h1,h2⟩:=W.num;have no:∀x,¬ Psn H lv a ts.length x:=fun x z=>by
    obtain⟨_,us,_,g2,g3⟩:=z;rw[po g2 hl,Cj (Ar _)] at g3;cases g3
   have val:∀b i x,Psn H lv b i x->¬ (b=a/\i=ts.length):=fun b i x z y=>no x (by rw[<- y.1,<- y.2];exact z);refine⟨fun b i=>if b=a/\i=ts.length then n else nm b i,fun b i x z=>?_,fun b i x b' i' x' z y e=>?_⟩
   . show (if b=a/\i=ts.length then n else nm b i)<n+1;split
     . exact Dh _
     . rename_i c;rcases hps _ _ _ z with g|⟨g1,g2,_⟩
       . exact BR (h1 _ _ _ g)
       . exact absurd ⟨g1,g2⟩ c
   . have e':(if b=a/\i=ts.length then n else nm b i)=(if b'=a/\i'=ts.length then n else nm b' i'):=e;rcases hps _ _ _ z with g|⟨rfl,rfl,_⟩
     . rw[if_neg (val _ _ _ g)] at e';rcases hps _ _ _ y with g'|⟨rfl,rfl,_⟩
       . rw[if_neg (val _ _ _ g')] at e';exact h2 _ _ _ _ _ _ g g' e'
       . rw[if_pos ⟨rfl,rfl⟩] at e';have:=h1 _ _ _ g;omega
     . rw[if_pos ⟨rfl,rfl⟩] at e';rcases hps _ _ _ y with g'|⟨rfl,rfl,_⟩
       . rw[if_neg (val _ _ _ g')] at e';have:=h1 _ _ _ g';omega
       . exact⟨rfl,rfl⟩
theorem Wk.backK(W:Wk K hs so H lv S n){s:HW}{es:List HW}{o:HO}(hsS:s∈S)(hl:H s=some o):Back H lv (upd H s (.lst (es.map V.ref))) lv:=by
 refine⟨fun a i t z=>?_,fun a i t b s z y=>W.innB (.put (.inr hsS) hl) z y⟩;obtain⟨k,ts,h1,h2,h3⟩:=z;exact⟨k,ts,h1,by rw[ai (fun c=>by rw[c,W.apart s hsS] at h1;cases h1)] at h2;exact h2,h3⟩
theorem Wk.stk(W:Wk K hs so H lv S n){s:HW}{es:List HW}{o:HO}(hsS:s∈S)(hl:H s=some o)(he:EntsAt H lv (so s) es):Wk K hs so (upd H s (.lst (es.map V.ref))) lv S n:=by
 have u:Up S lv lv H (upd H s (.lst (es.map V.ref))):=.put (.inr hsS) hl;refine⟨W.low,fun b j z=>?_,fun s' hs'=>?_,W.apart,(W.backK hsS hl).one W,(W.backK hsS hl).num W⟩
 . obtain⟨ts',h1,h2,h3⟩:=W.lists b j z;exact⟨ts',by rw[ai (fun y=>by rw[y,W.apart s hsS] at z;cases z)];exact h1,h2,fun x hx=>(h3 x hx).up W.mt u⟩
 . by_cases y:s'=s
   . subst y;exact⟨es,ab,he.up W.mt u⟩
   . obtain⟨es',h1,h2⟩:=W.stacks s' hs';exact⟨es',by rw[ai y];exact h1,h2.up W.mt u⟩
theorem km{b:HW}{k:Nat}:dw lv b k b=some k:=by unfold dw;rw[if_pos rfl]
theorem Wk.backA(W:Wk K hs so H lv S n){b:HW}{k:Nat}(hb:H b=none):Back H lv (upd H b (.lst [])) (dw lv b k):=by
 refine⟨fun a i t z=>?_,fun a i t b' s z y=>W.innB (.add hb (W.lvfree hb):Up S lv (dw lv b k) H (upd H b (.lst []))) z y⟩;obtain⟨j,ts,h1,h2,h3⟩:=z;by_cases c:a=b
 . subst c;rw[ab] at h2;cases ts with
   | nil=>cases h3
   | cons x l=>cases h2
 . rw[ai c] at h2;unfold dw at h1;rw[if_neg c] at h1;exact⟨j,ts,h1,h2,h3⟩
theorem Wk.add(W:Wk K hs so H lv S n){b:HW}{k:Nat}(hb:H b=none)(hk:k % 8<=4):Wk K hs so (upd H b (.lst [])) (dw lv b k) S n:=by
 have u:Up S lv (dw lv b k) H (upd H b (.lst [])):=.add hb (W.lvfree hb);refine⟨fun a j z=>?_,fun a j z=>?_,fun s hs=>?_,fun s hs=>?_,(W.backA hb).one W,(W.backA hb).num W⟩
 . rcases u.new _ _ z with y|y
   . exact W.low _ _ y
   . by_cases q:a=b
     . rw[q,km] at z;cases z;exact hk
     . unfold dw at z;rw[if_neg q] at z;exact W.low _ _ z
 . by_cases q:a=b
   . subst q;exact⟨[],ab,AG _,fun t ht=>by cases ht⟩
   . unfold dw at z;rw[if_neg q] at z;obtain⟨ts',h1,h2,h3⟩:=W.lists a j z;exact⟨ts',by rw[ai q];exact h1,h2,fun x hx=>(h3 x hx).up W.mt u⟩
 . obtain⟨es,h1,h2⟩:=W.stacks s hs;exact⟨es,by rw[ai (fun y=>by rw[y,hb] at h1;cases h1)];exact h1,h2.up W.mt u⟩
 . obtain⟨es,h1,h2⟩:=W.stacks s hs;unfold dw;rw[if_neg (fun y=>by rw[y,hb] at h1;cases h1)];exact W.apart s hs
def HeadsM(M:HW->Prop)(H:Hp)(l:HW)(hs:List Hd):Prop := ¬ M l/\∃ts:List HW,H l=some (.lst (ts.map V.ref))/\IE (HeadX (fun b=>b=l\/M b) H) ts hs
theorem HeadsM.at{M:HW->Prop}{l:HW}{hs:List Hd}(h:HeadsM M H l hs):la H l hs:=by
 obtain⟨_,ts,h1,h2⟩:=h;exact⟨ts,h1,Paired.mapP h2 fun _ _ z=>z.less fun _ y=>.inl y⟩
theorem HeadX.up{t l:HW}{h:Hd}(x:HeadX (fun b=>b=l\/Mt lv S b) H t h)(m:MtL H lv S)(u:Up S lv lv' H H'):HeadX (fun b=>b=l\/Mt lv' S b) H' t h:=by
 obtain⟨ow,h1,h2,h3⟩:=x;have n2:¬ Mt lv S ow:=fun z=>h3 (.inr z);exact⟨ow,u.tup m h1,u.keep _ _ h2 n2,fun z=>z.elim (fun y=>h3 (.inl y)) (u.not h2 n2)⟩
theorem HeadX.upM{t:HW}{h:Hd}(x:HeadX (Mt lv S) H t h)(m:MtL H lv S)(u:Up S lv lv' H H'):HeadX (Mt lv' S) H' t h:=by
 obtain⟨ow,h1,h2,h3⟩:=x;exact⟨ow,u.tup m h1,u.keep _ _ h2 h3,u.not h2 h3⟩
theorem HeadsM.up{l:HW}{hs:List Hd}(h:HeadsM (Mt lv S) H l hs)(m:MtL H lv S)(u:Up S lv lv' H H'):HeadsM (Mt lv' S) H' l hs:=by
 obtain⟨h0,ts,h1,h2⟩:=h;exact⟨u.not h1 h0,ts,u.keep _ _ h1 h0,Paired.mapP h2 fun _ _ z=>z.up m u⟩
end
theorem p7{ys r:List Str}(hy:∀y∈ys,Ok y)(h:em ys r):∀y∈r,Ok y:=by
 obtain⟨k,u,v,rfl,hk,hu,hv⟩:=h;intro y h;simp only[Am,Au,or_false] at h;rcases h with rfl|rfl|rfl
 . rcases hk with rfl|rfl<;>exact gz _ (by simp)
 . exact hy _ hu
 . exact hy _ hv
theorem a93:Ok "any" := show (PyData.str "any").canLay0=true by decide
theorem vn{ys r:List Str}(hy:∀y∈ys,Ok y)(h:gc ys r):∀y∈r,Ok y:=by
 have ha:∀f:Str,(f∈ys\/f="any")->Ok f:=fun f hf=>hf.elim (hy f) fun z=>by rw[z];exact a93
 rcases h with⟨a,f,s,rfl,h1,h2,h3⟩|⟨a,b,rfl,h1,h2⟩|⟨a,rfl,h1⟩
 . intro y h;simp only[Am,Au,or_false] at h;rcases h with rfl|rfl|rfl|rfl
   . exact show (PyData.str "cell").canLay0=true by decide
   . exact hy _ h1
   . exact ha _ h2
   . exact ha _ h3
 . intro y h;simp only[Am,Au,or_false] at h;rcases h with rfl|rfl|rfl
   . exact show (PyData.str "stretch").canLay0=true by decide
   . exact hy _ h1
   . exact hy _ h2
 . intro y h;simp only[Am,Au,or_false] at h;rcases h with rfl|rfl
   . exact show (PyData.str "tree").canLay0=true by decide
   . exact hy _ h1
abbrev sPut:IP:=top 61
inductive spPut(K:Ac)(vs:List V)(H:Hp)(Q:VK)(E:XK):Prop
 | mk (s:HW)(cell m:Int)(t hl:HW)(lv:Lv)(S:List HW)(n:Nat)(h:Hd)(hs:List Hd)(so:HW->Nat)(xs:List Str)(hh:hs[so s]?=some h)(h0:vs=[.ref s,.int cell,.int m,.ref t,.ref hl])(W:Wk K hs so H lv S n)(hsS:s∈S)(hn:n<=100)(h1:HeadX (Mt lv S) H t h)(h2:HdOk xs h)(h3:HeadsM (Mt lv S) H hl hs)(h4:0<hs.length)(h4':hs.length<=4)(h5:∀h∈hs,HdOk xs h)(h6:∀x∈xs,b8 x=true)(q:∀lv' H',Up S lv lv' H H'->Wk K hs so H' lv' S (n+1)->Q .non H'):spPut K vs H Q E
section
variable{A B C:Prop}[Decidable A][Decidable B][Decidable C]{t u v:TT}{σ:St}{H:Hp}{Q:Bool->Hp->Prop}
theorem sj(ht:∀Q':Bool->Hp->Prop,Q' (decide A) H->t σ H Q')(hu:∀Q':Bool->Hp->Prop,Q' (decide B) H->u σ H Q')(hT:A->B->Q true H)(hF:¬ (A/\B)->Q false H):tAnd t u σ H Q:=by
 refine ht _ ?_;by_cases a:A
 . rw[decide_eq_true a];refine hu _ ?_;by_cases b:B
   . rw[decide_eq_true b];exact hT a b
   . rw[decide_eq_false b];exact hF fun z=>b z.2
 . rw[decide_eq_false a];exact hF fun z=>a z.1
theorem xv(ht:∀Q':Bool->Hp->Prop,Q' (decide A) H->t σ H Q')(hu:∀Q':Bool->Hp->Prop,Q' (decide B) H->u σ H Q')(hv:∀Q':Bool->Hp->Prop,Q' (decide C) H->v σ H Q')(hT:A->B->C->Q true H)(hF:¬ (A/\B/\C)->Q false H):tAnd t (tAnd u v) σ H Q:=by
 refine ht _ ?_;by_cases a:A
 . rw[decide_eq_true a];exact sj hu hv (hT a) fun z=>hF fun y=>z y.2
 . rw[decide_eq_false a];exact hF fun z=>a z.1
end
theorem a1z{H:Hp}{lv:Lv}{t b b2:HW}{c:V}(h:H t=some (.tup [.str "if",c,.ref b,.ref b2]))(nb:b≠b2)(h1:Orph H lv b)(h2:Orph H lv b2):∀x s,Inn H t x s->Orph H lv x/\∀s',Inn H t x s'->s=s':=fun x s z=>by
 rcases vg h z with⟨rfl,rfl⟩|⟨rfl,rfl⟩
 . exact⟨h1,fun s' y=>by rcases vg h y with⟨_,rfl⟩|⟨e,_⟩;exact rfl;exact absurd e nb⟩
 . exact⟨h2,fun s' y=>by rcases vg h y with⟨e,_⟩|⟨_,rfl⟩;exact absurd e.symm nb;exact rfl⟩
theorem vd{H:Hp}{lv:Lv}{t b:HW}{c d:V}(h:H t=some (.tup [.str "while",c,d,.ref b]))(h1:Orph H lv b):∀x s,Inn H t x s->Orph H lv x/\∀s',Inn H t x s'->s=s':=fun x s z=>by
 obtain⟨rfl,rfl⟩:=qr h z;exact⟨h1,fun s' y=>(qr h y).2.symm⟩
theorem oh{H:Hp}{lv:Lv}{ow:Nat}{es:List HW}{e:HW}(h:∀i e,es[i]?=some e->EntAt H lv (8*ow+i) e)(he:EntAt H lv (8*ow+es.length) e)(h5:es.length<5):EntsAt H lv ow (es++[e]):=by
 refine⟨by rw[Ae];exact HL _,by rw[Ae];exact h5,fun i x hx=>?_⟩;by_cases c:i<es.length
 . rw[Bo c] at hx;exact h i x hx
 . rw[Bw (by omega)] at hx;have:i-es.length=0:=by
    cases q:i-es.length with
    | zero=>rfl
    | succ j=>rw[q] at hx;cases hx
   rw[this] at hx;cases hx;rw[show i=es.length by omega];exact he
theorem scPut:FnScope ["_law_open_lists","_law_cell","_law_mixed","_law_head","_law_heads_here","_law_deeds","_law_others","_law_way","_law_inner","_law_more","_law_told_here"] ["_law_open_lists","_law_cell","_law_mixed","_law_head","_law_heads_here"] (b7 sPut):=⟨rfl,rfl,rfl,by decide,rfl,by decide,by decide⟩
theorem a91(C:Con K mg w)(F:Fun K "_law_put" "_law_put" sPut f fd)(GC:FnOk P w K mg base CX0 1 gC dC ["_law_mixed","_law_own"] (spCond K))(cC:Cal K mg "_law_condition" gC dC ["_law_mixed","_law_own"])(GT:FnOk P w K mg base CX0 1 gT dT ["_law_cell","_law_names_here"] (spTold K))(cT:Cal K mg "_law_told" gT dT ["_law_cell","_law_names_here"])(GP:FnOk P w K mg base CX0 1 gP dP ["_law_way","_law_mixed","_law_head","_law_heads_here"] spPlain)(cP:Cal K mg "_law_plain" gP dP ["_law_way","_law_mixed","_law_head","_law_heads_here"]):FnOk P w K mg base CX0 2 f fd ["_law_open_lists","_law_cell","_law_mixed","_law_head","_law_heads_here"] (spPut K):=by
 refine F.okQ scPut (fun vs H Q E h=>?_) (fun cdv A outer s0 H vs Q E hr h=>?_)
 . obtain⟨s,cell,m,t,hl,lv,S,n,h,hs,so,xs,hh,rfl,_⟩:=h;rfl
 obtain⟨s,cell,m,t,hl,lv,S,n,h0,hs,so,xs,hh,rfl,W,hsS,hn,hX,hok,hH,hs0,hs4,hsok,hxn,q⟩:=h;have nd:=scPut.nd;refine⟨_,ae (om (ag bc (qv 0) (a7m a4l ac) (fun _ _=>rfl)) (a1t (bj (i:=5) nd rfl (Or.inl rfl)) (bj (i:=6) nd rfl (Or.inl rfl))))
  (ae (av (i:=7) nd rfl (Or.inl rfl) (am br (am bt (qv 1) ac) ac))
  (aj (bf (QW.qt (ia (ax bo (qv 7) ac (ay _)) (ie (ax kg (aw ap rfl C.len Ap (af (qv 0) aa)) ac (ay _))))) (ae (bu (a57 As CP DN a4v (qv 0)))
  (aj (bf (QW.qt (ia (ax vp (qv 6) jl (ay _)) (ie (ax bo (am br (qv 2) ac) ac (ay _))))) (aj (bu (cq (K:=K) rfl As Az AA bq (qv 0) (di (af (qv 6) (dh jl aa)) aa)))) bm))) (aj (bf (QW.qt (ia (ax kg (qv 7) ac (ay _)) (ia (ax o8 (qv 7) ac (ay _)) (ie (ax o8 (aw ap rfl C.len Ap (af (qv 0) aa)) ac (ay _)))))) (ae (av (i:=8) nd rfl (Or.inl rfl) (bb aa))
  (aj (bf (ax bo (qv 7) ac (ay _)) (ae (av (i:=9) nd rfl (Or.inl rfl) (bb aa))
  (ae (bu (cq (K:=K) rfl As Az AA bq (qv 5) (di (ba (be (ak GC hr rfl cC.name cC.keep cC.bind .nil au (af (qv 2) (ar (ag ao (qv 3) ac (fun _ _=>rfl)) aa))) (af (qv 8) (af (qv 9) aa)))) aa)))
  (aj (bu (cq (K:=K) rfl As Az AA bq (qv 0) (di (af (qv 8) (af (qv 9) aa)) aa)))))) (ae (av (i:=10) nd rfl (Or.inl rfl) (ak GT hr rfl cT.name cT.keep cT.bind .nil au (da (am bt (qv 2) ac) (ar (ag ao (qv 3) ac (fun _ _=>rfl)) aa))))
  (ae (bu (cq (K:=K) rfl As Az AA bq (qv 5) (di (ba (be (ak GC hr rfl cC.name cC.keep cC.bind .nil au (af (qv 2) (ar (ag ao (qv 3) ac (fun _ _=>rfl)) aa))) (af (qv 10) (af (qv 8) aa)))) aa)))
  (aj (bu (cq (K:=K) rfl As Az AA bq (qv 0) (di (af (qv 8) (dh jl aa)) aa))))))))) (aj (bu (cq (K:=K) rfl As Az AA bq (qv 5) (be (ak GP hr rfl cP.name cP.keep cP.bind .nil au (da (am br (qv 7) ac) (af (qv 2) (af (qv 3) (af (qv 4) aa))))) aa))))))))),?_⟩
 obtain⟨es,hes,he0,he5,hEn⟩:=W.stacks s hsS;obtain⟨es0,e,rfl⟩:∃es0 e,es=es0++[e]:=by
  rcases F0 es with z|⟨l,b,z⟩
  . rw[z] at he0;cases he0
  . exact⟨l,b,by rw[z,FA]⟩
 rw[Al] at hes;have hl5:es0.length<5:=by rw[Ae] at he5;exact he5
 have hE0:∀i x,es0[i]?=some x->EntAt H lv (8*so s+i) x:=fun i x hx=>hEn i x (by rw[Bo (Av.mp hx).1];exact hx);obtain⟨d,o,he,hd,ho⟩:∃d o,H e=some (.tup [.ref d,o])/\lv d=some (8*so s+es0.length)/\(o=.non\/∃b,o=.ref b/\lv b=some (8*so s+es0.length)):=by
  have:=hEn es0.length e (by rw[Bw (Ar _),Ea];rfl);cases this with
  | one d h hd=>exact⟨d,_,h,hd,.inl rfl⟩
  | two d o h hd ho=>exact⟨d,_,h,hd,.inr ⟨o,rfl,ho⟩⟩
 obtain⟨ts,hdl,htn,htd⟩:=W.lists d _ hd;have mL:=W.mt;have hg:hs[(8*so s+es0.length) / 8]?=some h0:=by rw[show (8*so s+es0.length) / 8=so s by omega];exact hh
 have hlen:((es0.map V.ref++[e].map V.ref).length:Int)=(es0.length:Int)+1:=by rw[Ae,Ab];rfl
 refine⟨_,rfl,_,rfl,s,_,_,_,rfl,rfl,SqL.of hes,zf,e,_,rfl,SqT.of he,rfl,_,_,rfl,_,_,rfl,rfl,?_⟩;refine⟨_,rfl,_,_,rfl,rfl,(show CDiv _ 4 from⟨by decide,by decide⟩),_,_,rfl,rfl,(show (0:Int)<10 by decide),?_⟩;dsimp only[bp];generalize cell / 4 % 10=way;refine sj (A:=V.int way=V.int 9) (B:=(1:Int)<((es0.map V.ref++[e].map V.ref).length:Int)) (fun Q' q'=>⟨_,rfl,rfl,_,rfl,q'⟩) (fun Q' q'=>⟨_,rfl,s,_,rfl,.inl (SqL.of hes),_,_,rfl,rfl,_,rfl,q'⟩) (fun _ c2=>(if_pos rfl).mpr ?_) (fun _=>(if_neg An).mpr ?_)
 . have l0:0<es0.length:=by omega
   have EN:EntsAt H lv (so s) es0:=⟨l0,B0 hl5,hE0⟩
   have W1:=(W.stk (es:=es0) hsS hes EN).le (CU n);have u1:Up S lv lv H (upd H s (.lst (es0.map V.ref))):=.put (.inr hsS) hes;refine⟨_,rfl,(.inl ⟨rfl,_,SqL.of hes⟩),s,_,_,rfl,rfl,hes,(by rw[Ae,Bw (by simp)];simp;rfl),?_⟩;rw[show (es0.map V.ref++[e].map V.ref).dropLast=es0.map V.ref from FH];have hs1:(upd H s (.lst (es0.map V.ref))) s=some (.lst (es0.map V.ref)):=ab;have EN1:=EN.up mL u1;generalize upd H s (.lst (es0.map V.ref))=H1 at W1 u1 hs1 EN1 |-;dsimp only;refine sj (A := ¬ o=V.non) (B:=V.int (m % 2)=V.int 1) (fun Q' q'=>⟨_,rfl,rfl,_,rfl,by rw[<- decide_not];exact q'⟩) (fun Q' q'=>⟨_,rfl,_,_,rfl,rfl,(show (0:Int)<2 by decide),rfl,_,rfl,q'⟩) (fun c3 _=>(if_pos rfl).mpr ?_) (fun _=>(if_neg An).mpr ?_)
   . rcases ho with z|⟨b,rfl,hb⟩
     . exact absurd z c3
     refine⟨_,rfl,(.inl ⟨rfl,_,SqL.of hs1⟩),_,rfl,(show 2<=HY by decide),fun te hte=>?_⟩;have s2:=ad hte (.tup [.ref b,.non]);have k2:(upd H1 te (.tup [.ref b,.non])) te=some (.tup [.ref b,.non]):=ab;generalize upd H1 te (.tup [.ref b,.non])=H2 at s2 k2 |-;have W2:=W1.same s2;have u2:=u1.trans (.same s2);have hs2:=s2 _ _ hs1;refine⟨s,_,_,rfl,rfl,hs2,cy (by rw[Ab];omega),?_⟩;have EN2:=EN1.up W1.mt (.same s2 (S:=S));have W3:=W2.stk (es:=es0++[te]) hsS hs2 (oh EN2.2.2 (.one b k2 hb) hl5);rw[Al] at W3;exact q lv _ (u2.trans (.put (.inr hsS) hs2)) W3
   . exact q lv _ u1 W1
 refine xv (A:=(5:Int)<way) (B:=way<8) (C:=((es0.map V.ref++[e].map V.ref).length:Int)<5) (fun Q' q'=>⟨_,rfl,_,_,rfl,rfl,_,rfl,q'⟩) (fun Q' q'=>⟨_,rfl,_,_,rfl,rfl,_,rfl,q'⟩) (fun Q' q'=>⟨_,rfl,s,_,rfl,.inl (SqL.of hes),_,_,rfl,rfl,_,rfl,q'⟩) (fun _ _ c3=>(if_pos rfl).mpr ?_) (fun _=>(if_neg An).mpr ?_)
 . have hk:(8*so s+es0.length+1) % 8<=4:=by omega
   have hsd:s≠d:=fun z=>by rw[<- z,W.apart s hsS] at hd;cases hd
   have hlt:(es0.map V.ref++[e].map V.ref).length<HY:=cy (by rw[Ae,Ab];show _+1<=1000;omega);have push:∀{lv':Lv} {H':Hp} {b te:HW} {oo:V},Wk K hs so H' lv' S (n+1)->Up S lv lv' H H'->lv' b=some (8*so s+es0.length+1)->(oo=.non\/∃b2,oo=.ref b2/\lv' b2=some (8*so s+es0.length+1))->H' s=some (.lst (es0.map V.ref++[e].map V.ref))->H' te=none->Q .non (upd (upd H' te (.tup [.ref b,oo])) s (.lst ((es0.map V.ref++[e].map V.ref)++[.ref te]))):=fun {lv' H' b te oo} W' u' hb' ho' hs' hte=>by
    have s2:=ad hte (.tup [.ref b,oo]);have k2:(upd H' te (.tup [.ref b,oo])) te=some (.tup [.ref b,oo]):=ab;generalize upd H' te (.tup [.ref b,oo])=H2 at s2 k2 |-;have W2:=W'.same s2;have u2:=u'.trans (.same s2);have hs2:=s2 _ _ hs';have EN2:=EntsAt.up ⟨he0,he5,hEn⟩ mL u2;have en:EntAt H2 lv' (8*so s+(es0++[e]).length) te:=by
     rw[Ae];show EntAt H2 lv' (8*so s+es0.length+1) te;rcases ho' with rfl|⟨b2,rfl,h2⟩
     . exact .one b k2 hb'
     . exact .two b b2 k2 hb' h2
    have W3:=W2.stk (es:=(es0++[e])++[te]) hsS hs2 (oh EN2.2.2 en (by rw[Ae];show es0.length+1<5;omega));rw[Al,Al] at W3;exact q lv' _ (u2.trans (.put (.inr hsS) hs2)) W3
   refine⟨AG _,fun b hb=>?_⟩;have W1:=W.add hb hk;have u1:Up S lv (dw lv b (8*so s+es0.length+1)) H (upd H b (.lst [])):=.add hb (W.lvfree hb);have i1:dw lv b (8*so s+es0.length+1) b=some (8*so s+es0.length+1):=km;have hs1:=ad hb (.lst []) _ _ hes;have o1:=(W.backA (k:=8*so s+es0.length+1) hb).orph (W.orph hb);have b1:(upd H b (.lst [])) b=some (.lst []):=ab;generalize dw lv b (8*so s+es0.length+1)=lv1,upd H b (.lst [])=H1 at W1 u1 i1 hs1 o1 b1 |-;refine⟨_,rfl,rfl,_,rfl,iteB (fun _=>?_) (fun _=>?_)⟩
   . refine⟨AG _,fun b2 hb2=>?_⟩;have W2:=W1.add hb2 hk;have u2':Up S lv1 (dw lv1 b2 (8*so s+es0.length+1)) H1 (upd H1 b2 (.lst [])):=.add hb2 (W1.lvfree hb2);have i2:dw lv1 b2 (8*so s+es0.length+1) b2=some (8*so s+es0.length+1):=km;have hs2:=ad hb2 (.lst []) _ _ hs1;have B2:=W1.backA (k:=8*so s+es0.length+1) hb2;have o2:=B2.orph (W1.orph hb2);have o1':=B2.orph o1;have nb:=aq b1 hb2;clear B2;generalize dw lv1 b2 (8*so s+es0.length+1)=lv2,upd H1 b2 (.lst [])=H2 at W2 u2' i2 hs2 o2 o1' |-;have i1':=u2'.inc _ _ i1;have u2:=u1.trans u2';obtain⟨ow,ho1,ho2,ho3⟩:=hX.upM mL u2;obtain⟨ts2,hd2,hn2,_⟩:=W2.lists _ _ (u2.inc _ _ hd);refine⟨_,rfl,(.inl ⟨rfl,_,SqL.of hd2⟩),_,rfl,_,rfl,t,_,1,_,rfl,rfl,SqT.of ho1,rfl,m,ow,h0.own,rfl,ho2,Aw hok.few (by decide),fun c r H3 e3 hc hr=>?_⟩;refine⟨_,rfl,_,rfl,(show 4<=HY by decide),fun dt hdt=>?_⟩;have s4:=ad hdt (.tup [.str "if",.ref c,.ref b,.ref b2]);have k4:(upd H3 dt (.tup [.str "if",.ref c,.ref b,.ref b2])) dt=some (.tup [.str "if",.ref c,.ref b,.ref b2]):=ab;generalize upd H3 dt (.tup [.str "if",.ref c,.ref b,.ref b2])=H4 at s4 k4 |-;have e4:=e3.trans s4;have hd4:=e4 _ _ hd2;refine⟨d,_,_,rfl,rfl,hd4,cy (by rw[Ab];omega),?_⟩;have W4:=(W2.same e4).put (u2.inc _ _ hd) hd4 (.cond h0 c b b2 r hg k4 (s4 _ _ hc) hr i1' i2) (a1z k4 nb ((W2.backS e4).orph o1') ((W2.backS e4).orph o2));have u4:=(u2.trans (.same e4)).trans (.put (o':=.lst (ts2.map V.ref++[.ref dt])) (.inl ⟨_,u2.inc _ _ hd⟩) hd4);have hs5:(upd H4 d (.lst (ts2.map V.ref++[.ref dt]))) s=some (.lst (es0.map V.ref++[e].map V.ref)):=by rw[ai hsd];exact e4 _ _ hs2
     generalize upd H4 d (.lst (ts2.map V.ref++[.ref dt]))=H5 at W4 u4 hs5 |-;exact⟨_,rfl,(.inl ⟨rfl,_,SqL.of hs5⟩),_,rfl,_,rfl,(show 2<=HY by decide),fun te hte=>⟨s,_,_,rfl,rfl,ad hte _ _ _ hs5,hlt,push W4 u4 i1' (.inr ⟨b2,rfl,i2⟩) hs5 hte⟩⟩
   . obtain⟨ow,ho1,ho2,ho3⟩:=hX.upM mL u1;obtain⟨ts2,hd2,hn2,_⟩:=W1.lists _ _ (u1.inc _ _ hd);refine⟨_,rfl,_,_,rfl,rfl,(show CDiv _ 98 from⟨by decide,by decide⟩),_,rfl,t,_,1,_,rfl,rfl,SqT.of ho1,rfl,_,ow,h0.own,rfl,ho2,Aw hok.few (by decide),fun td fa pa F P' H2 N=>?_⟩;have e2:=N.e;have ho1':=e2 _ _ ho1;have ho2':=e2 _ _ ho2;refine⟨_,rfl,(.inl ⟨rfl,_,SqL.of (e2 _ _ hd2)⟩),_,rfl,_,rfl,t,_,1,_,rfl,rfl,SqT.of ho1',rfl,m,ow,h0.own,rfl,ho2',Aw hok.few (by decide),fun c r H3 e3 hc hr=>?_⟩;refine⟨_,rfl,_,rfl,(show 4<=HY by decide),fun dt hdt=>?_⟩;have s4:=ad hdt (.tup [.str "while",.ref c,.ref td,.ref b]);have k4:(upd H3 dt (.tup [.str "while",.ref c,.ref td,.ref b])) dt=some (.tup [.str "while",.ref c,.ref td,.ref b]):=ab;generalize upd H3 dt (.tup [.str "while",.ref c,.ref td,.ref b])=H4 at s4 k4 |-;have e34:=e3.trans s4;have e4:=e2.trans e34;have hd4:=e4 _ _ hd2;refine⟨d,_,_,rfl,rfl,hd4,cy (by rw[Ab];omega),?_⟩;have nm:∀x,H1 x=none->¬ Mt lv1 S x:=fun x hx z=>by
      obtain⟨us,hu⟩:=W1.mt _ z;rw[hx] at hu;cases hu
     have W4:=(W1.same e4).put (u1.inc _ _ hd) hd4 (.loop h0 c td b fa pa r F P' hg k4 (s4 _ _ hc) hr (e34 _ _ N.tup) (N.facts.same e34) (N.parts.same e34) (nm _ N.nf) (nm _ N.np) N.okF N.okP N.lf N.lp i1) (vd k4 ((W1.backS e4).orph o1));have u4:=(u1.trans (.same e4)).trans (.put (o':=.lst (ts2.map V.ref++[.ref dt])) (.inl ⟨_,u1.inc _ _ hd⟩) hd4);have hs5:(upd H4 d (.lst (ts2.map V.ref++[.ref dt]))) s=some (.lst (es0.map V.ref++[e].map V.ref)):=by rw[ai hsd];exact e4 _ _ hs1
     generalize upd H4 d (.lst (ts2.map V.ref++[.ref dt]))=H5 at W4 u4 hs5 |-;exact⟨_,rfl,(.inl ⟨rfl,_,SqL.of hs5⟩),_,rfl,(show 2<=HY by decide),fun te hte=>⟨s,_,_,rfl,rfl,ad hte _ _ _ hs5,hlt,push W4 u4 i1 (.inl rfl) hs5 hte⟩⟩
 . obtain⟨ow,ho1,ho2,ho3⟩:=hX;refine⟨_,rfl,(.inl ⟨rfl,_,SqL.of hdl⟩),_,rfl,_,_,rfl,rfl,(show (0:Int)<6 by decide),_,rfl,_,rfl,_,rfl,way % 6,m,t,hl,Mt lv S,h0,hs,xs,rfl,⟨ow,ho1,ho2,ho3⟩,hok,hH.at,hs0,hs4,hsok,hxn,fun pt p H' e1 hp hpg=>⟨d,_,_,rfl,rfl,e1 _ _ hdl,cy (by rw[Ab];omega),?_⟩⟩;have hpo:=hpg.ok (fun y hy=>kd (hxn y (hok.own y hy))) fun g hg=>kd (hxn _ (hsok g hg).name);exact q lv _ ((Up.same e1).trans (.put (.inl ⟨_,hd⟩) (e1 _ _ hdl))) ((W.same e1).put hd (e1 _ _ hdl) (.plain h0 p hg hp hpg hpo) fun b s z=>absurd z (qz hp hpo))
end K40
namespace L2
theorem a4b{G H1:Hp}{σ:St}{ix:List Nat}{te:TE}{Q:VK}{fe:HW}{n1:Int}{N:Nat}(Pr:Str->Prop)(hN:N<=1000)(S1:FS G fe H1 n1)(he:∀(D:HW) (i:Nat) H2 n2,FS G fe H2 n2->H2 D≠none->∀Q':VK,(∀y n3 H3,FS (wo H2 fe) fe H3 n3->Pr y->Q' (.str y) H3)->te (some (.int (0+(i:Int)))::cr σ ix) H2 Q')(hQ:∀D H' n' ys,H1 D=none->FS G fe H' n'->(wo H' fe) D=some (.lst ((ys:List Str).map V.str))->ys.length=N->(∀y∈ys,Pr y)->Q (.ref D) H'):i8 (Itr 0 N) H1 σ ix tYes te Q:=by
 intro D hD;have hDf:D≠fe:=FS.ne S1.fed hD;have hGD:G D=none:=by
  cases q:G D with
  | none=>rfl
  | some o=>have:=S1.at q;rw[hD] at this;cases this
 refine⟨fun i m H=>i<=N/\m=N-i/\∃(n:Int) (ys:List Str),FS G fe H n/\(wo H fe) D=some (.lst (ys.map V.str))/\ys.length=i/\∀y∈ys,Pr y,⟨N,AG _,rfl,n1,[],⟨?_,?_⟩,?_,rfl,(fun r hr=>by cases hr)⟩,?_⟩
 . rw[ai hDf.symm];exact S1.fed
 . rw[io hDf];exact S1.g.new hGD
 . rw[io hDf,ab];rfl
 rintro i m H ⟨hi,rfl,n,ys,S,hDl,hlen,hPr⟩;by_cases hlt:i<N
 . refine .inr ⟨hlt,fun x H' hy=>?_⟩;obtain⟨rfl,rfl⟩:=hy;have hDl':H' D=some (.lst (ys.map V.str)):=gk _ _ hDl;refine he D i H' n S (by rw[hDl'];simp) _ fun y n3 H3 S3 hr=>?_;have hD3:(wo H3 fe) D=some (.lst (ys.map V.str)):=S3.g _ _ hDl;refine⟨ys.map V.str,gk _ _ hD3,AO (by rw[Ab];omega:_<=1000) (by decide),N-(i+1),by omega,hlt,rfl,n3,ys++[y],⟨?_,?_⟩,?_,?_,?_⟩
   . rw[ai hDf.symm];exact S3.fed
   . rw[io hDf];exact (S.g.trans S3.g).new hGD
   . rw[io hDf,ab,Al];rfl
   . rw[Ae,hlen];rfl
   . intro x hx;rcases Aq.mp hx with z|z
     . exact hPr x z
     . rw[Ax.mp z];exact hr
 . have e:i=N:=by omega
   subst e;exact .inl ⟨Ar _,hQ D H n ys hD S hDl hlen hPr⟩
end L2
namespace K40
open L2 Mir
variable{P:IC}{w:IF}{K:Ac}{mg:Str->Option HX}{base:IJ}{f g gA gF gP gN gS gW gI gV gM gR gT gC gB gD gH gK gG gY:HW}{fd gd dA dF dP dN dS dW dI dV dM dR dT dC dB dD dH dK dG dY:II}
theorem a6w(ys:List Str){j:Int}{p:Nat}(h0:(p:Int)<=j)(h1:j<(ys.length:Int)):∃v:Str,atI (ys.map V.str) j=some (.str v)/\v∈ys.drop p:=by
 obtain⟨k,rfl⟩:=Cc (show 0<=j by omega);have hk:k<ys.length:=by omega
 refine⟨ys[k],dv (by rw[Ah,Ag hk];rfl),?_⟩;refine Ak (i:=k-p) ?_;rw[Gf,show p+(k-p)=k by omega,Ag hk]
abbrev rk:IP:=top 62
inductive spAnyPlain(K:Ac)(vs:List V)(H:Hp)(Q:VK)(E:XK):Prop
 | mk (fe t hl:HW)(n:Int)(S:HW->Prop)(h:Hd)(hs:List Hd)(xs:List Str)(h0:vs=[.ref fe,.ref t,.ref hl])(hf:H fe=some (.lst [.int n]))(h1:HeadX S (wo H fe) t h)(h2:HdOk xs h)(h3:la (wo H fe) hl hs)(h4:0<hs.length)(h4':hs.length<=4)(h5:∀h∈hs,HdOk xs h)(h6:∀x∈xs,b8 x=true)(q:∀t p n' H',FS (wo H fe) fe H' n'->PlAt (wo H' fe) t p->PlG h.own h.par hs p->Q (.ref t) H'):spAnyPlain K vs H Q E
theorem scAnyPlain:FnScope ["_law_feed","_law_head","_law_heads_here","_law_own","_law_some","_law_way","_law_x","_law_y","_law_e","_law_field","_law_f","_law_called","_law_values"] ["_law_feed","_law_head","_law_heads_here"] (b7 rk):=⟨rfl,rfl,rfl,by decide,rfl,by decide,by decide⟩
theorem a0z(C:Con K mg w)(F:Fun K "_law_any_plain" "_law_any_plain" rk f fd)(GT:FnOk P w K mg base CX0 1 gT dT ["_law_feed","_law_many"] lh)(cT:Cal K mg "_law_take" gT dT ["_law_feed","_law_many"]):FnOk P w K mg base CX0 2 f fd ["_law_feed","_law_head","_law_heads_here"] (spAnyPlain K):=by
 refine F.okQ scAnyPlain (fun vs H Q E h=>?_) (fun cdv A outer s0 H vs Q E hr h=>?_)
 . obtain⟨fe,t,hl,n,S,h,hs,xs,rfl,_⟩:=h;rfl
 obtain⟨fe,t,hl,n,S,h0,hs,xs,rfl,hfe,hX,hok,hH,hs0,hs4,hsok,hxn,q⟩:=h;have nd:=scAnyPlain.nd;refine⟨_,ae (av (i:=3) nd rfl (Or.inl rfl) (ag ao (qv 1) ac (fun _ _=>rfl)))
  (ae (si (av (i:=4) nd rfl (Or.inr rfl) (am ce (qv 3) (bb (ba aa)))))
  (ae (av (i:=5) nd rfl (Or.inl rfl) (ak GT hr rfl cT.name cT.keep cT.bind .nil au (af (qv 0) (ci aa))))
  (ae (av (i:=6) nd rfl (Or.inl rfl) (ag bc (qv 3) (am cw (ag ao (qv 1) ac (fun _ _=>rfl)) (ak GT hr rfl cT.name cT.keep cT.bind .nil au (af (qv 0) (da (am ja (aw ap rfl C.len Ap (af (qv 3) aa)) (ag ao (qv 1) ac (fun _ _=>rfl))) aa)))) (fun _ _=>rfl)))
  (ae (si (av (i:=7) nd rfl (Or.inl rfl) (ag bc (qv 3) (ak GT hr rfl cT.name cT.keep cT.bind .nil au (af (qv 0) (be (aw ap rfl C.len Ap (af (qv 3) aa)) aa))) (fun _ _=>rfl))))
  (ae (av (i:=8) nd rfl (Or.inl rfl) (ag bc (qv 4) (ak GT hr rfl cT.name cT.keep cT.bind .nil au (af (qv 0) (be (aw ap rfl C.len Ap (af (qv 4) aa)) aa))) (fun _ _=>rfl)))
  (ae (av (i:=9) nd rfl (Or.inl rfl) (ag bc (bb (ba (ba aa))) (ak GT hr rfl cT.name cT.keep cT.bind .nil au (af (qv 0) (ci aa))) (fun _ _=>rfl)))
  (ae (bf (ax o8 (qv 5) ac (ay _)) (ae (av (i:=10) nd rfl (Or.inl rfl) (ag bc (qv 4) (ak GT hr rfl cT.name cT.keep cT.bind .nil au (af (qv 0) (be (aw ap rfl C.len Ap (af (qv 4) aa)) aa))) (fun _ _=>rfl)))
  (aj (az (ag bc (bb (di (ba (af (qv 6) (af (qv 8) aa))) (di (ba (af (qv 6) (af (qv 7) (af (qv 9) aa)))) (di (ba (af (qv 7) (af (qv 9) (af (qv 8) aa)))) (di (ba (af (qv 6) (af (qv 8) (af (qv 10) aa)))) (di (ba (af (qv 7) aa)) aa)))))) (qv 5) (fun _ _=>rfl))))) bm)
  (ae (av (i:=11) nd rfl (Or.inl rfl) (ag bc (qv 2) (ak GT hr rfl cT.name cT.keep cT.bind .nil au (af (qv 0) (be (aw ap rfl C.len Ap (af (qv 2) aa)) aa))) (fun _ _=>rfl)))
  (ae (av (i:=12) nd rfl (Or.inl rfl) (cg ju rfl C.tuple Bx (dh (ij ["_law_j","_law_some","_law_feed"] [4,0] (cz rfl C.range (ar (ag ao (qv 11) ac (fun _ _=>rfl)) aa)) (fun _ _ _ _=>db) (fun _ _ _ _=>(ag (ixK (K:=K) rfl) (qv 1) (ak GT hr rfl cT.name cT.keep cT.bind .nil au (af (qv 2) (be (aw (lenK (K:=K) rfl) rfl C.len Ap (af (qv 1) aa)) aa))) (fun _ _=>rfl)))) aa)))
  (aj (az (er (ba (ar (ag bc (bb (ba (af (qv 6) aa))) (cg a0r rfl C.int PyProof.Rows.boot_int (dh (gr jq (ag ao (qv 11) ac (fun _ _=>rfl)) bv (ay _)) aa)) (fun _ _=>rfl)) (ar (ag ao (qv 11) ac (fun _ _=>rfl)) (af (qv 12) aa)))))))))))))))),?_⟩
 obtain⟨ow,hX1,hX2,_⟩:=hX;obtain⟨nm,os,pm,rs⟩:=h0;obtain⟨hok1,hok2,hok3,hok4,hok5,_,_,hok6⟩:=hok;dsimp only at hX1 hX2 hok1 hok2 hok3 hok4 hok5 hok6 q;have S0:FS (wo H fe) fe H n:=⟨hfe,Same.refl _⟩
 refine⟨_,rfl,t,_,1,_,rfl,rfl,SqT.of (S0.at hX1),rfl,?_⟩;refine⟨_,rfl,(show 1<=HY by decide),fun x1 hx1=>?_⟩;obtain⟨S1,e1,k1⟩:=S0.new (o:=.lst [.str "nil"]) hx1;generalize upd H x1 (.lst [.str "nil"])=H1 at S1 e1 k1 |-;refine⟨ow,x1,_,_,rfl,rfl,S1.at (e1 _ _ hX2),S1.at k1,bx (by rw[Ab];show _+1<=1000;omega),fun sm hsm=>?_⟩;obtain⟨S2,e2',k2'⟩:=S1.new (o:=.lst (os.map V.str++[.str "nil"])) hsm;have e2:=e1.trans e2';have k2:(wo (upd H1 sm (.lst (os.map V.str++[.str "nil"]))) fe) sm=some (.lst ((os++[("nil":Str)]).map V.str)):=by rw[k2',Al];rfl
 clear k2' e2';have hyl:(os++[("nil":Str)]).length=os.length+1:=by rw[Ae];rfl
 generalize upd H1 sm (.lst (os.map V.str++[.str "nil"]))=H2 at S2 k2 e2 |-;generalize hys:os++[("nil":Str)]=ys at k2 hyl;clear k1 e1 S1 hx1 hsm;intro τ eτ;obtain rfl:τ=[rQ fe,rQ t,rQ hl,rQ ow,rQ sm,nQ,nQ,nQ,nQ,nQ,nQ,nQ,nQ]:=eτ;have gt:=e2 _ _ hX1;have go:=e2 _ _ hX2;have ly0:(0:Int)<(((ys.map V.str).length:Nat):Int):=by rw[Ab];omega
 have lo0:(0:Int)<(((os.map V.str).length:Nat):Int):=by rw[Ab];omega
 have ly1:(((ys.map V.str).length:Nat):Int)<1073741824:=by rw[Ab];omega
 have lo1:(((os.map V.str).length:Nat):Int)<1073741824:=by rw[Ab];omega
 refine⟨_,rfl,fe,n,6,rfl,S2.fed,by decide,by decide,?_⟩;have S3:=S2.take (k:=n / 6);have w0:=AM n (show (6:Int)≠0 by decide);dsimp only[bp];generalize upd H2 fe (.lst [.int (n / 6)])=H3 at S3 |-;generalize n / 6=n3 at S3;generalize n % 6=way at w0 |-;have lp:(((os.map V.str).length:Nat):Int)-(pm:Int)=((os.length-pm:Nat):Int):=by rw[Ab];omega
 refine⟨_,rfl,_,rfl,t,_,2,_,rfl,rfl,SqT.of (S3.at gt),rfl,_,rfl,_,rfl,ow,_,rfl,.inl (SqL.of (S3.at go)),_,rfl,t,_,2,_,rfl,rfl,SqT.of (S3.at gt),rfl,_,_,rfl,rfl,fe,n3,_,rfl,S3.fed,(by omega),(by omega),?_⟩;have S4:=S3.take (k:=n3 / ((((os.map V.str).length:Nat):Int)-(pm:Int)));obtain⟨vx,hvx,hvxm⟩:=a6w os (p:=pm) (j:=(pm:Int)+n3 % ((((os.map V.str).length:Nat):Int)-(pm:Int))) (by have:=AM n3 (b:=(((os.map V.str).length:Nat):Int)-(pm:Int)) (by omega);omega) (by have:=AW n3 (b:=(((os.map V.str).length:Nat):Int)-(pm:Int)) (by omega);omega);generalize upd H3 fe (.lst [.int (n3 / ((((os.map V.str).length:Nat):Int)-(pm:Int)))])=H4 at S4 |-;generalize n3 / ((((os.map V.str).length:Nat):Int)-(pm:Int))=n4 at S4;refine⟨_,_,rfl,rfl,ow,_,_,_,rfl,rfl,SqL.of (S4.at go),hvx,?_⟩;obtain⟨vy,hvy,hvym⟩:=cx os hok3 n4;refine⟨_,rfl,_,rfl,_,rfl,ow,_,rfl,.inl (SqL.of (S4.at go)),fe,n4,_,rfl,S4.fed,lo0,lo1,?_⟩;have S5:=S4.take (k:=n4 / (((os.map V.str).length:Nat):Int));generalize upd H4 fe (.lst [.int (n4 / (((os.map V.str).length:Nat):Int))])=H5 at S5 |-;generalize n4 / (((os.map V.str).length:Nat):Int)=n5 at S5;refine⟨ow,_,_,_,rfl,rfl,SqL.of (S5.at go),hvy,?_⟩;intro τ eτ;obtain rfl:τ=[rQ fe,rQ t,rQ hl,rQ ow,rQ sm,iQ way,some (.str vx),some (.str vy),nQ,nQ,nQ,nQ,nQ]:=eτ;obtain⟨ve,hve,hvem⟩:=cx ys (by omega) n5;refine⟨_,rfl,_,rfl,_,rfl,sm,_,rfl,.inl (SqL.of (S5.at k2)),fe,n5,_,rfl,S5.fed,ly0,ly1,?_⟩;have S6:=S5.take (k:=n5 / (((ys.map V.str).length:Nat):Int));generalize upd H5 fe (.lst [.int (n5 / (((ys.map V.str).length:Nat):Int))])=H6 at S6 |-;generalize n5 / (((ys.map V.str).length:Nat):Int)=n6 at S6;refine⟨sm,_,_,_,rfl,rfl,SqL.of (S6.at k2),hve,?_⟩;obtain⟨fi,hfi,okfi⟩:=xu n6;refine⟨(show 2<=HY by decide),fun x3 hx3=>?_⟩;obtain⟨S7,e7',k7⟩:=S6.new (o:=.lst [.str "first",.str "second"]) hx3;generalize upd H6 x3 (.lst [.str "first",.str "second"])=H7 at S7 e7' k7 |-;refine⟨_,rfl,fe,n6,2,rfl,S7.fed,by decide,by decide,?_⟩;have S8:=S7.take (k:=n6 / 2);generalize upd H7 fe (.lst [.int (n6 / 2)])=H8 at S8 |-;generalize n6 / 2=n8 at S8;refine⟨x3,_,_,_,rfl,rfl,SqL.of (S8.at k7),hfi,?_⟩;have e8:=e2.trans e7';have gt8:=e7' _ _ gt;have gs8:=e7' _ _ k2;clear hve hvx hvy hfi k7 hx3 S0 S2 S3 S4 S5 S6 S7;have hvo:=Bq hvxm;rw[<- hys] at hvem;have sN:∀{y:Str},y∈os->ml os "name" y:=fun z=>.inr (.inl ⟨rfl,z⟩);have sV:∀{y:Str},y∈os++[("nil":Str)]->ml os "value" y:=fun z=>.inr (.inr ⟨rfl,z⟩);have sF:ml os "field" fi:=.inl ⟨rfl,okfi⟩;refine⟨_,rfl,_,_,rfl,rfl,_,rfl,iteB (fun c=>?_) (fun c=>?_)⟩
 . have w5:way<5:=of_decide_eq_true c;obtain⟨vf,hvf,hvfm⟩:=cx ys (by omega) n8;refine⟨_,rfl,_,rfl,_,rfl,sm,_,rfl,.inl (SqL.of (S8.at gs8)),fe,n8,_,rfl,S8.fed,ly0,ly1,?_⟩;have S9:=S8.take (k:=n8 / (((ys.map V.str).length:Nat):Int));generalize upd H8 fe (.lst [.int (n8 / (((ys.map V.str).length:Nat):Int))])=H9 at S9 |-;refine⟨sm,_,_,_,rfl,rfl,SqL.of (S9.at gs8),hvf,?_⟩;rw[<- hys] at hvfm;refine⟨_,rfl,_,rfl,(show 3<=HY by decide),fun a1 ha1=>?_⟩;obtain⟨T1,f1,b1⟩:=S9.new (o:=.tup [.str "set",.str vx,.str ve]) ha1;generalize upd H9 a1 (.tup [.str "set",.str vx,.str ve])=J1 at T1 f1 b1 |-;refine⟨_,rfl,_,rfl,_,rfl,(show 4<=HY by decide),fun a2 ha2=>?_⟩;obtain⟨T2,f2,b2⟩:=T1.new (o:=.tup [.str "read",.str vx,.str vy,.str fi]) ha2;generalize upd J1 a2 (.tup [.str "read",.str vx,.str vy,.str fi])=J2 at T2 f2 b2 |-;refine⟨_,rfl,_,rfl,_,rfl,(show 4<=HY by decide),fun a3 ha3=>?_⟩;obtain⟨T3,f3,b3⟩:=T2.new (o:=.tup [.str "write",.str vy,.str fi,.str ve]) ha3;generalize upd J2 a3 (.tup [.str "write",.str vy,.str fi,.str ve])=J3 at T3 f3 b3 |-;refine⟨_,rfl,_,rfl,_,rfl,(show 4<=HY by decide),fun a4 ha4=>?_⟩;obtain⟨T4,f4,b4⟩:=T3.new (o:=.tup [.str "new",.str vx,.str ve,.str vf]) ha4;generalize upd J3 a4 (.tup [.str "new",.str vx,.str ve,.str vf])=J4 at T4 f4 b4 |-;refine⟨_,rfl,(show 2<=HY by decide),fun a5 ha5=>?_⟩;obtain⟨T5,f5,b5⟩:=T4.new (o:=.tup [.str "free",.str vy]) ha5;generalize upd J4 a5 (.tup [.str "free",.str vy])=J5 at T5 f5 b5 |-;refine⟨(show 5<=HY by decide),fun L hL=>?_⟩;obtain⟨T6,f6,b6⟩:=T5.new (o:=.lst [.ref a1,.ref a2,.ref a3,.ref a4,.ref a5]) hL;generalize upd J5 L (.lst [.ref a1,.ref a2,.ref a3,.ref a4,.ref a5])=J6 at T6 f6 b6 |-;have g5:=f6;have g4:=f5.trans g5;have g3:=f4.trans g4;have g2:=f3.trans g3;have g1:=f2.trans g2;have FF:FS (wo H fe) fe J6 _:=⟨T6.fed,(e8.trans f1).trans g1⟩
   have hw:way=0\/way=1\/way=2\/way=3\/way=4:=by omega
   rcases hw with rfl|rfl|rfl|rfl|rfl
   . exact⟨_,rfl,L,_,_,_,rfl,rfl,SqL.of (T6.at b6),rfl,q a1 (.row [("set":Str),vx,ve]) _ _ FF (g1 _ _ b1) ⟨_,_,_,rfl,show (("set":Str),[("name":Str),"value"])∈forms by decide,.cons (sN hvo) (.cons (sV hvem) .nil),fun _=>⟨_,_,rfl,hvxm⟩⟩⟩
   . exact⟨_,rfl,L,_,_,_,rfl,rfl,SqL.of (T6.at b6),rfl,q a2 (.row [("read":Str),vx,vy,fi]) _ _ FF (g2 _ _ b2) ⟨_,_,_,rfl,show (("read":Str),[("name":Str),"name","field"])∈forms by decide,.cons (sN hvo) (.cons (sN hvym) (.cons sF .nil)),fun _=>⟨_,_,rfl,hvxm⟩⟩⟩
   . exact⟨_,rfl,L,_,_,_,rfl,rfl,SqL.of (T6.at b6),rfl,q a3 (.row [("write":Str),vy,fi,ve]) _ _ FF (g3 _ _ b3) ⟨_,_,_,rfl,show (("write":Str),[("name":Str),"field","value"])∈forms by decide,.cons (sN hvym) (.cons sF (.cons (sV hvem) .nil)),fun z=>absurd z (by decide)⟩⟩
   . exact⟨_,rfl,L,_,_,_,rfl,rfl,SqL.of (T6.at b6),rfl,q a4 (.row [("new":Str),vx,ve,vf]) _ _ FF (g4 _ _ b4) ⟨_,_,_,rfl,show (("new":Str),[("name":Str),"value","value"])∈forms by decide,.cons (sN hvo) (.cons (sV hvem) (.cons (sV hvfm) .nil)),fun _=>⟨_,_,rfl,hvxm⟩⟩⟩
   . exact⟨_,rfl,L,_,_,_,rfl,rfl,SqL.of (T6.at b6),rfl,q a5 (.row [("free":Str),vy]) _ _ FF (g5 _ _ b5) ⟨_,_,_,rfl,show (("free":Str),[("name":Str)])∈forms by decide,.cons (sN hvym) .nil,fun z=>absurd z (by decide)⟩⟩
 . obtain⟨ts,hl4',hp4'⟩:=hH;have hl4:=e8 _ _ hl4';have hp4:=Paired.mapP hp4' fun _ _ z=>HeadX.same z e8;have htl:=Ao hp4;have lt0:(0:Int)<(((ts.map V.ref).length:Nat):Int):=by rw[Ab];omega
   have lt1:(((ts.map V.ref).length:Nat):Int)<1073741824:=by rw[Ab];omega
   obtain⟨cv,hcv,hcm⟩:=jn (xs:=ts.map V.ref) (m:=((ts.map V.ref).length:Int)) (i:=n8) rfl lt0;obtain⟨ct,hct,rfl⟩:=AF.mp hcm;obtain⟨k,hk⟩:=Bk hct;obtain⟨⟨cn,cos,cpm,crs⟩,hck,cow,hc1,hc2,hc3⟩:=Paired.nth hp4 hk;have hcok:=hsok _ (Ak hck);have hcok4:=hcok.few;have hcok5:=hcok.par;dsimp only at hc1 hc2 hcok4 hcok5;refine⟨_,rfl,_,rfl,_,rfl,hl,_,rfl,.inl (SqL.of (S8.at hl4)),fe,n8,_,rfl,S8.fed,lt0,lt1,?_⟩;have S9:=S8.take (k:=n8 / (((ts.map V.ref).length:Nat):Int));generalize upd H8 fe (.lst [.int (n8 / (((ts.map V.ref).length:Nat):Int))])=H9 at S9 |-;generalize n8 / (((ts.map V.ref).length:Nat):Int)=n9 at S9;refine⟨hl,_,_,_,rfl,rfl,SqL.of (S9.at hl4),hcv,?_⟩;refine⟨_,rfl,ct,_,2,_,rfl,rfl,SqT.of (S9.at hc1),rfl,_,rfl,by omega,by omega,?_⟩;refine a4b (G:=wo H7 fe) (· ∈ os++[("nil":Str)]) (by omega) S9 (fun D i H2' n2 S2' hD Q' q'=>?_) (fun vl H' n' vs hvl Sv hvl' hlen hPr=>?_)
   . obtain⟨v,hv,hvm⟩:=cx ys (by omega) n2;refine⟨_,rfl,_,rfl,_,rfl,sm,_,rfl,.inl (SqL.of (S2'.at gs8)),fe,n2,_,rfl,S2'.fed,ly0,ly1,?_⟩;have S3':FS (wo H2' fe) fe (upd H2' fe (.lst [.int (n2 / (((ys.map V.str).length:Nat):Int))])) _:=FS.take (k:=n2 / (((ys.map V.str).length:Nat):Int)) ⟨S2'.fed,Same.refl _⟩;exact⟨sm,_,_,_,rfl,rfl,SqL.of (S3'.at (S2'.g _ _ gs8)),hv,q' v _ _ S3' (by rw[hys];exact hvm)⟩
   refine⟨vl,_,rfl,.inl ⟨SqL.of (gk _ _ hvl'),fun vt hvt=>?_⟩⟩;obtain⟨T1,f1,b1⟩:=Sv.new (o:=.tup (vs.map V.str)) hvt;generalize upd H' vt (.tup (vs.map V.str))=J1 at T1 f1 b1 |-;refine⟨_,rfl,(show 2<=HY by decide),fun L hL=>?_⟩;obtain⟨T2,f2,b2⟩:=T1.new (o:=.lst [.str "",.str vx]) hL;generalize upd J1 L (.lst [.str "",.str vx])=J2 at T2 f2 b2 |-;have hc2':=(f1.trans f2) _ _ hc1;obtain⟨v,hv,okv⟩:∃v:Str,atI [V.str "",V.str vx] (if (!decide (V.str crs=V.str ""))=true then 1 else 0)=some (.str v)/\((crs="" /\ v="")\/(crs≠"" /\ v∈os.drop pm)):=by
    by_cases z:crs=""
    . rw[z];exact⟨"",rfl,.inl ⟨rfl,rfl⟩⟩
    . rw[decide_eq_false (fun y=>z (V.str.inj y))];exact⟨vx,rfl,.inr ⟨z,hvxm⟩⟩
   refine⟨_,rfl,ct,_,3,_,rfl,rfl,SqT.of (T2.at hc2'),rfl,rfl,_,rfl,L,_,_,_,rfl,rfl,SqL.of (T2.at b2),hv,?_⟩;refine⟨_,rfl,ct,_,0,_,rfl,rfl,SqT.of (T2.at hc2'),rfl,_,rfl,(show 4<=HY by decide),fun rt hrt=>?_⟩;obtain⟨T3,f3,b3⟩:=T2.new (o:=.tup [.str "call",.str v,.str cn,.ref vt]) hrt;exact q rt (.call v cn vs) _ _ ⟨T3.fed,((e8.trans f1).trans f2).trans f3⟩ ⟨vt,b3,f3 _ _ (f2 _ _ b1)⟩ ⟨_,Ak hck,rfl,hlen,hPr,okv⟩
end K40
namespace L2
structure At(fe:HW)(H G:Hp)(n:Int):Prop where
 fed:H fe=some (.lst [.int n])
 g:wo H fe=G
variable{fe:HW}{H G:Hp}{n:Int}
theorem At.take{k:Int}(h:At fe H G n):At fe (upd H fe (.lst [.int k])) G k:=⟨ab,by rw[zj];exact h.g⟩
theorem At.fre(h:At fe H G n){p:HW}(hp:H p=none):G p=none:=by
 rw[<- h.g];unfold wo;split
 . rfl
 . exact hp
theorem At.rd(h:At fe H G n){b:HW}{o:HO}(hb:G b=some o):H b=some o:=gk _ _ (by rw[h.g];exact hb)
theorem At.ne(h:At fe H G n){b:HW}{o:HO}(hb:G b=some o):b≠fe:=fun z=>by
 rw[<- h.g,z,gv] at hb;cases hb
theorem At.new(h:At fe H G n){p:HW}(hp:H p=none)(o:HO):At fe (upd H p o) (upd G p o) n :=
 ⟨by rw[ai (FS.ne h.fed hp).symm];exact h.fed,by rw[io (FS.ne h.fed hp),h.g]⟩
theorem At.put(h:At fe H G n){a:HW}{o o':HO}(ha:G a=some o):At fe (upd H a o') (upd G a o') n :=
 ⟨by rw[ai (h.ne ha).symm];exact h.fed,by rw[io (h.ne ha),h.g]⟩
theorem At.call(h:At fe H G n){H':Hp}{n':Int}(f:FS (wo H fe) fe H' n'):At fe H' (wo H' fe) n'/\Same G (wo H' fe):=⟨⟨f.fed,rfl⟩,by rw[<- h.g];exact f.g⟩
end L2
namespace K40
open L2 Mir
variable{P:IC}{w:IF}{K:Ac}{mg:Str->Option HX}{base:IJ}{f g gA gF gP gN gS gW gI gV gM gR gT gC gB gD gH gK gG gY:HW}{fd gd dA dF dP dN dS dW dI dV dM dR dT dC dB dD dH dK dG dY:II}
abbrev vz:IP:=top 63
inductive spAnyPut(K:Ac)(vs:List V)(H:Hp)(Q:VK)(E:XK):Prop
 | mk (s fe t hl:HW)(G:Hp)(k:Int)(lv:Lv)(S:List HW)(n:Nat)(h:Hd)(hs:List Hd)(so:HW->Nat)(xs:List Str)(hh:hs[so s]?=some h)(h0:vs=[.ref s,.ref fe,.ref t,.ref hl])(hA:At fe H G k)(W:Wk K hs so G lv S n)(hsS:s∈S)(hn:n<=100)(h1:HeadX (Mt lv S) G t h)(h2:HdOk xs h)(h3:HeadsM (Mt lv S) G hl hs)(h4:0<hs.length)(h4':hs.length<=4)(h5:∀h∈hs,HdOk xs h)(h6:∀x∈xs,b8 x=true)(q:∀lv' k' G' H',At fe H' G' k'->Up S lv lv' G G'->Wk K hs so G' lv' S (n+1)->Q .non H'):spAnyPut K vs H Q E
theorem scAnyPut:FnScope ["_law_open_lists","_law_feed","_law_head","_law_heads_here","_law_deeds","_law_others","_law_way","_law_condition_here","_law_inner","_law_more"] ["_law_open_lists","_law_feed","_law_head","_law_heads_here"] (b7 vz):=⟨rfl,rfl,rfl,by decide,rfl,by decide,by decide⟩
theorem a4g(C:Con K mg w)(F:Fun K "_law_any_put" "_law_any_put" vz f fd)(GT:FnOk P w K mg base CX0 1 gT dT ["_law_feed","_law_many"] lh)(cT:Cal K mg "_law_take" gT dT ["_law_feed","_law_many"])(GR:FnOk P w K mg base CX0 2 gR dR ["_law_feed","_law_some","_law_sort"] (spAnyRow K))(cR:Cal K mg "_law_any_row" gR dR ["_law_feed","_law_some","_law_sort"])(GD:FnOk P w K mg base CX0 3 gD dD ["_law_feed","_law_own","_law_most"] (spAnyTold K))(cD:Cal K mg "_law_any_told" gD dD ["_law_feed","_law_own","_law_most"])(GP:FnOk P w K mg base CX0 2 gP dP ["_law_feed","_law_head","_law_heads_here"] (spAnyPlain K))(cP:Cal K mg "_law_any_plain" gP dP ["_law_feed","_law_head","_law_heads_here"]):FnOk P w K mg base CX0 4 f fd ["_law_open_lists","_law_feed","_law_head","_law_heads_here"] (spAnyPut K):=by
 refine F.okQ scAnyPut (fun vs H Q E h=>?_) (fun cdv A outer s0 H vs Q E hr h=>?_)
 . obtain⟨s,fe,t,hl,G,k,lv,S,n,h,hs,so,xs,hh,rfl,_⟩:=h;rfl
 obtain⟨s,fe,t,hl,G,k,lv,S,n,h0,hs,so,xs,hh,rfl,A0,W,hsS,hn,hX,hok,hH,hs0,hs4,hsok,hxn,q⟩:=h;have nd:=scAnyPut.nd;have hr1:=hr.mono (j:=1) (by omega);have hr2:=hr.mono (j:=2) (by omega);refine⟨_,ae (om (ag bc (qv 0) (a7m a4l ac) (fun _ _=>rfl)) (a1t (bj (i:=4) nd rfl (Or.inl rfl)) (bj (i:=5) nd rfl (Or.inl rfl))))
  (ae (av (i:=6) nd rfl (Or.inl rfl) (ak GT hr1 rfl cT.name cT.keep cT.bind .nil au (af (qv 1) (ci aa))))
  (aj (bf (QW.qt (ia (ax bo (qv 6) ac (ay _)) (ie (ax kg (aw ap rfl C.len Ap (af (qv 0) aa)) ac (ay _))))) (ae (bu (a57 As CP DN a4v (qv 0)))
  (aj (bf (QW.qt (ia (ax vp (qv 5) jl (ay _)) (ie (ax bo (ak GT hr1 rfl cT.name cT.keep cT.bind .nil au (af (qv 1) (ci aa))) ac (ay _))))) (aj (bu (cq (K:=K) rfl As Az AA bq (qv 0) (di (af (qv 5) (dh jl aa)) aa)))) bm))) (aj (bf (QW.qt (ia (ax kg (qv 6) ac (ay _)) (ia (ax o8 (qv 6) ac (ay _)) (ie (ax o8 (aw ap rfl C.len Ap (af (qv 0) aa)) ac (ay _)))))) (ae (av (i:=7) nd rfl (Or.inl rfl) (ak GR hr2 rfl cR.name cR.keep cR.bind .nil au (af (qv 1) (da (am ce (ag ao (qv 2) ac (fun _ _=>rfl)) (bb (ba aa))) (ba aa)))))
  (ae (av (i:=8) nd rfl (Or.inl rfl) (bb aa))
  (ae (av (i:=9) nd rfl (Or.inl rfl) jl)
  (ae (bf (ax bo (qv 6) ac (ay _)) (ae (av (i:=9) nd rfl (Or.inl rfl) (bb aa))
  (aj (bu (cq (K:=K) rfl As Az AA bq (qv 4) (di (ba (af (qv 7) (af (qv 8) (af (qv 9) aa)))) aa))))) (aj (bu (cq (K:=K) rfl As Az AA bq (qv 4) (di (ba (af (qv 7) (be (ak GD hr rfl cD.name cD.keep cD.bind .nil au (af (qv 1) (ar (ag ao (qv 2) ac (fun _ _=>rfl)) (ci aa)))) (af (qv 8) aa)))) aa)))))
  (aj (bu (cq (K:=K) rfl As Az AA bq (qv 0) (di (af (qv 8) (af (qv 9) aa)) aa)))))))) (aj (bu (cq (K:=K) rfl As Az AA bq (qv 4) (be (ak GP hr2 rfl cP.name cP.keep cP.bind .nil au (af (qv 1) (af (qv 2) (af (qv 3) aa)))) aa))))))))),?_⟩
 obtain⟨es,hes,he0,he5,hEn⟩:=W.stacks s hsS;obtain⟨es0,e,rfl⟩:∃es0 e,es=es0++[e]:=by
  rcases F0 es with z|⟨l,b,z⟩
  . rw[z] at he0;cases he0
  . exact⟨l,b,by rw[z,FA]⟩
 rw[Al] at hes;have hl5:es0.length<5:=by rw[Ae] at he5;exact he5
 have hE0:∀i x,es0[i]?=some x->EntAt G lv (8*so s+i) x:=fun i x hx=>hEn i x (by rw[Bo (Av.mp hx).1];exact hx);obtain⟨d,o,he,hd,ho⟩:∃d o,G e=some (.tup [.ref d,o])/\lv d=some (8*so s+es0.length)/\(o=.non\/∃b,o=.ref b/\lv b=some (8*so s+es0.length)):=by
  have:=hEn es0.length e (by rw[Bw (Ar _),Ea];rfl);cases this with
  | one d h hd=>exact⟨d,_,h,hd,.inl rfl⟩
  | two d o h hd ho=>exact⟨d,_,h,hd,.inr ⟨o,rfl,ho⟩⟩
 obtain⟨ts,hdl,htn,htd⟩:=W.lists d _ hd;have mL:=W.mt;have hg:hs[(8*so s+es0.length) / 8]?=some h0:=by rw[show (8*so s+es0.length) / 8=so s by omega];exact hh
 have hlen:((es0.map V.ref++[e].map V.ref).length:Int)=(es0.length:Int)+1:=by rw[Ae,Ab];rfl
 refine⟨_,rfl,_,rfl,s,_,_,_,rfl,rfl,SqL.of (A0.rd hes),zf,e,_,rfl,SqT.of (A0.rd he),rfl,_,_,rfl,_,_,rfl,rfl,?_⟩;refine⟨_,rfl,fe,k,10,rfl,A0.fed,by decide,by decide,?_⟩;have A1:=A0.take (k:=k / 10);dsimp only[bp];generalize upd H fe (.lst [.int (k / 10)])=H1 at A1 |-;generalize k / 10=k1 at A1;generalize k % 10=way;clear A0;refine sj (A:=V.int way=V.int 9) (B:=(1:Int)<((es0.map V.ref++[e].map V.ref).length:Int)) (fun Q' q'=>⟨_,rfl,rfl,_,rfl,q'⟩) (fun Q' q'=>⟨_,rfl,s,_,rfl,.inl (SqL.of (A1.rd hes)),_,_,rfl,rfl,_,rfl,q'⟩) (fun _ c2=>(if_pos rfl).mpr ?_) (fun _=>(if_neg An).mpr ?_)
 . have l0:0<es0.length:=by omega
   have EN:EntsAt G lv (so s) es0:=⟨l0,B0 hl5,hE0⟩
   have W1:=(W.stk (es:=es0) hsS hes EN).le (CU n);have u1:Up S lv lv G (upd G s (.lst (es0.map V.ref))):=.put (.inr hsS) hes;refine⟨_,rfl,(.inl ⟨rfl,_,SqL.of (A1.rd hes)⟩),s,_,_,rfl,rfl,A1.rd hes,(by rw[Ae,Bw (by simp)];simp;rfl),?_⟩;rw[show (es0.map V.ref++[e].map V.ref).dropLast=es0.map V.ref from FH];have hs1:(upd G s (.lst (es0.map V.ref))) s=some (.lst (es0.map V.ref)):=ab;have EN1:=EN.up mL u1;have A2:=A1.put (o':=.lst (es0.map V.ref)) hes;generalize upd G s (.lst (es0.map V.ref))=G2,upd H1 s (.lst (es0.map V.ref))=H2 at W1 u1 hs1 EN1 A2 |-;rcases ho with rfl|⟨b,rfl,hb⟩
   . exact⟨_,rfl,rfl,_,rfl,(if_neg An).mpr ((if_neg An).mpr (q lv _ _ _ A2 u1 W1))⟩
   refine⟨_,rfl,rfl,_,rfl,(if_pos rfl).mpr ⟨_,rfl,fe,k1,2,rfl,A2.fed,by decide,by decide,?_⟩⟩;have A3:=A2.take (k:=k1 / 2);generalize upd H2 fe (.lst [.int (k1 / 2)])=H3 at A3 |-;refine⟨rfl,_,rfl,iteB (fun _=>?_) (fun _=>q lv _ _ _ A3 u1 W1)⟩;refine⟨_,rfl,(.inl ⟨rfl,_,SqL.of (A3.rd hs1)⟩),_,rfl,(show 2<=HY by decide),fun te hte=>?_⟩;have s2:=ad (A3.fre hte) (.tup [.ref b,.non]);have k2:(upd G2 te (.tup [.ref b,.non])) te=some (.tup [.ref b,.non]):=ab;have A4:=A3.new hte (.tup [.ref b,.non]);generalize upd G2 te (.tup [.ref b,.non])=G4,upd H3 te (.tup [.ref b,.non])=H4 at s2 k2 A4 |-;have W2:=W1.same s2;have u2:=u1.trans (.same s2);have hs2:=s2 _ _ hs1;refine⟨s,_,_,rfl,rfl,A4.rd hs2,cy (by rw[Ab];omega),?_⟩;have EN2:=EN1.up W1.mt (.same s2 (S:=S));have W3:=W2.stk (es:=es0++[te]) hsS hs2 (oh EN2.2.2 (.one b k2 hb) hl5);rw[Al] at W3;exact q lv _ _ _ (A4.put hs2) (u2.trans (.put (.inr hsS) hs2)) W3
 refine xv (A:=(5:Int)<way) (B:=way<8) (C:=((es0.map V.ref++[e].map V.ref).length:Int)<5) (fun Q' q'=>⟨_,rfl,_,_,rfl,rfl,_,rfl,q'⟩) (fun Q' q'=>⟨_,rfl,_,_,rfl,rfl,_,rfl,q'⟩) (fun Q' q'=>⟨_,rfl,s,_,rfl,.inl (SqL.of (A1.rd hes)),_,_,rfl,rfl,_,rfl,q'⟩) (fun _ _ c3=>(if_pos rfl).mpr ?_) (fun _=>(if_neg An).mpr ?_)
 . have hk:(8*so s+es0.length+1) % 8<=4:=by omega
   have hsd:s≠d:=fun z=>by rw[<- z,W.apart s hsS] at hd;cases hd
   have hlt:(es0.map V.ref++[e].map V.ref).length<HY:=cy (by rw[Ae,Ab];show _+1<=1000;omega);have push:∀{lv':Lv} {G' H':Hp} {k':Int} {b te:HW} {oo:V},At fe H' G' k'->Wk K hs so G' lv' S (n+1)->Up S lv lv' G G'->lv' b=some (8*so s+es0.length+1)->(oo=.non\/∃b2,oo=.ref b2/\lv' b2=some (8*so s+es0.length+1))->G' s=some (.lst (es0.map V.ref++[e].map V.ref))->H' te=none->Q .non (upd (upd H' te (.tup [.ref b,oo])) s (.lst ((es0.map V.ref++[e].map V.ref)++[.ref te]))):=fun {lv' G' H' k' b te oo} A' W' u' hb' ho' hs' hte'=>by
    have hte:=A'.fre hte';have s2:=ad hte (.tup [.ref b,oo]);have k2:(upd G' te (.tup [.ref b,oo])) te=some (.tup [.ref b,oo]):=ab;have A2:=A'.new hte' (.tup [.ref b,oo]);generalize upd G' te (.tup [.ref b,oo])=G2,upd H' te (.tup [.ref b,oo])=H2 at s2 k2 A2 |-;have W2:=W'.same s2;have u2:=u'.trans (.same s2);have hs2:=s2 _ _ hs';have EN2:=EntsAt.up ⟨he0,he5,hEn⟩ mL u2;have en:EntAt G2 lv' (8*so s+(es0++[e]).length) te:=by
     rw[Ae];show EntAt G2 lv' (8*so s+es0.length+1) te;rcases ho' with rfl|⟨b2,rfl,h2⟩
     . exact .one b k2 hb'
     . exact .two b b2 k2 hb' h2
    have W3:=W2.stk (es:=(es0++[e])++[te]) hsS hs2 (oh EN2.2.2 en (by rw[Ae];show es0.length+1<5;omega));rw[Al,Al] at W3;exact q lv' _ _ _ (A2.put hs2) (u2.trans (.put (.inr hsS) hs2)) W3
   obtain⟨ow,ho1,ho2,ho3⟩:=hX;refine⟨_,rfl,_,rfl,t,_,1,_,rfl,rfl,SqT.of (A1.rd ho1),rfl,(show 1<=HY by decide),fun x1 hx1=>?_⟩;have g2:=ad (A1.fre hx1) (.lst [.str "nil"]);have k2:(upd G x1 (.lst [.str "nil"])) x1=some (.lst [.str "nil"]):=ab;have A2:=A1.new hx1 (.lst [.str "nil"]);generalize upd G x1 (.lst [.str "nil"])=G2,upd H1 x1 (.lst [.str "nil"])=H2 at g2 k2 A2 |-;refine⟨ow,x1,_,_,rfl,rfl,A2.rd (g2 _ _ ho2),A2.rd k2,bx (by have:=hok.few;rw[Ab];show _+1<=1000;omega),fun sm hsm=>?_⟩;have g3':=ad (A2.fre hsm) (.lst (h0.own.map V.str++[.str "nil"]));have k3:(upd G2 sm (.lst (h0.own.map V.str++[.str "nil"]))) sm=some (.lst ((h0.own++[("nil":Str)]).map V.str)):=by rw[ab,Al];rfl
   have A3:=A2.new hsm (.lst (h0.own.map V.str++[.str "nil"]));have g3:=g2.trans g3';generalize upd G2 sm (.lst (h0.own.map V.str++[.str "nil"]))=G3,upd H2 sm (.lst (h0.own.map V.str++[.str "nil"]))=H3 at g3 k3 A3 |-;have hfew:=hok.few;refine⟨fe,sm,k1,_,"fact",rfl,A3.fed,A3.rd k3,(by rw[Ae];exact HL _),(by rw[Ae];show _+1<=30;omega),fun c r k4 H4 f4 hc hr1' hr2'=>?_⟩;obtain⟨A4,g4'⟩:=A3.call f4;have g4:=g3.trans g4';have okc:=hr1' rfl;generalize wo H4 fe=G4 at A4 g4 hc;have W4:=W.same g4;have u4:Up S lv lv G G4:=.same g4;clear hr1' hr2' f4 g4' k3 g3' k2;refine⟨AG _,fun b hb=>?_⟩;have hbG:=A4.fre hb;have W5:=W4.add hbG hk;have u5':Up S lv (dw lv b (8*so s+es0.length+1)) G4 (upd G4 b (.lst [])):=.add hbG (W4.lvfree hbG);have u5:=u4.trans u5';have i5:dw lv b (8*so s+es0.length+1) b=some (8*so s+es0.length+1):=km;have g5:=ad hbG (.lst []);have A5:=A4.new hb (.lst []);have hc5:=g5 _ _ hc;have hs5:=g5 _ _ (g4 _ _ hes);have o5:=(W4.backA (k:=8*so s+es0.length+1) hbG).orph (W4.orph hbG);have b5:(upd G4 b (.lst [])) b=some (.lst []):=ab;generalize dw lv b (8*so s+es0.length+1)=lv5,upd G4 b (.lst [])=G5,upd H4 b (.lst [])=H5 at W5 u5 i5 hc5 hs5 A5 o5 b5 |-;clear u5' g5 hbG;have hd5:=u5.inc _ _ hd;obtain⟨ow',ho1',ho2',ho3'⟩:=HeadX.upM (h:=h0) ⟨ow,ho1,ho2,ho3⟩ mL u5;dsimp only[bp];refine b9 (a:=tAsg _ _) fun D0 hN0 hR0 hC0=>hN0 _ _ ?_;refine b9 (a:=tIfS _ _ _) fun D1 hN1 hR1 hC1=>?_;have rest:∀{lv':Lv} {G' H':Hp} {k':Int} {oo:V},At fe H' G' k'->Wk K hs so G' lv' S (n+1)->Up S lv lv' G G'->lv' b=some (8*so s+es0.length+1)->(oo=.non\/∃b2,oo=.ref b2/\lv' b2=some (8*so s+es0.length+1))->G' s=some (.lst (es0.map V.ref++[e].map V.ref))->D1.nx [some (.ref s),some (.ref fe),some (.ref t),some (.ref hl),some (.ref d),some o,some (.int way),some (.ref c),some (.ref b),some oo] H':=fun {lv' G' H' k' oo} A' W' u' hb' ho' hs'=>by
    refine hN1 _ _ ?_;exact⟨_,rfl,(.inl ⟨rfl,_,SqL.of (A'.rd hs')⟩),_,rfl,_,rfl,(show 2<=HY by decide),fun te hte=>⟨s,_,_,rfl,rfl,ad hte _ _ _ (A'.rd hs'),hlt,push A' W' u' hb' ho' hs' hte⟩⟩
   clear hN1 hR1 hC1;refine⟨_,rfl,rfl,_,rfl,iteB (fun _=>?_) (fun _=>?_)⟩
   . refine⟨AG _,fun b2 hb2=>?_⟩;have hbG:=A5.fre hb2;have W6:=W5.add hbG hk;have u6':Up S lv5 (dw lv5 b2 (8*so s+es0.length+1)) G5 (upd G5 b2 (.lst [])):=.add hbG (W5.lvfree hbG);have u6:=u5.trans u6';have i6:dw lv5 b2 (8*so s+es0.length+1) b2=some (8*so s+es0.length+1):=km;have g6:=ad hbG (.lst []);have A6:=A5.new hb2 (.lst []);have hc6:=g6 _ _ hc5;have hs6:=g6 _ _ hs5;have B6:=W5.backA (k:=8*so s+es0.length+1) hbG;have o6:=B6.orph (W5.orph hbG);have o5':=B6.orph o5;have nb:=aq b5 hbG;clear B6;generalize dw lv5 b2 (8*so s+es0.length+1)=lv6,upd G5 b2 (.lst [])=G6,upd H5 b2 (.lst [])=H6 at W6 u6 u6' i6 hc6 hs6 A6 o6 o5' |-;have i5':=u6'.inc _ _ i5;have hd6:=u6.inc _ _ hd;obtain⟨ts2,hd2,hn2,_⟩:=W6.lists _ _ hd6;refine⟨_,rfl,(.inl ⟨rfl,_,SqL.of (A6.rd hd2)⟩),_,rfl,_,rfl,_,rfl,(show 4<=HY by decide),fun dt hdt=>?_⟩;have s7:=ad (A6.fre hdt) (.tup [.str "if",.ref c,.ref b,.ref b2]);have k7:(upd G6 dt (.tup [.str "if",.ref c,.ref b,.ref b2])) dt=some (.tup [.str "if",.ref c,.ref b,.ref b2]):=ab;have A7:=A6.new hdt (.tup [.str "if",.ref c,.ref b,.ref b2]);generalize upd G6 dt (.tup [.str "if",.ref c,.ref b,.ref b2])=G7,upd H6 dt (.tup [.str "if",.ref c,.ref b,.ref b2])=H7 at s7 k7 A7 |-;have hd7:=s7 _ _ hd2;refine⟨d,_,_,rfl,rfl,A7.rd hd7,cy (by rw[Ab];omega),?_⟩;exact rest (A7.put hd7) ((W6.same s7).put hd6 hd7 (.cond h0 c b b2 r hg k7 (s7 _ _ hc6) okc i5' i6) (a1z k7 nb ((W6.backS s7).orph o5') ((W6.backS s7).orph o6))) ((u6.trans (.same s7)).trans (.put (.inl ⟨_,hd6⟩) hd7)) i5' (.inr ⟨b2,rfl,i6⟩) (by rw[ai hsd];exact s7 _ _ hs6)
   . obtain⟨ts2,hd2,hn2,_⟩:=W5.lists _ _ hd5;have ho2H:=A5.rd ho2';refine⟨_,rfl,(.inl ⟨rfl,_,SqL.of (A5.rd hd2)⟩),_,rfl,_,rfl,_,rfl,t,_,1,_,rfl,rfl,SqT.of (A5.rd ho1'),rfl,fe,ow',_,h0.own,1,rfl,A5.fed,ho2H,A5.ne ho2',Aw hok.few (by decide),by decide,fun td fa pa F P' k6 H6 f6 N=>?_⟩;obtain⟨A6,g6⟩:=A5.call f6;rw[A5.g] at N;generalize wo H6 fe=G6 at A6 g6 N;refine⟨_,rfl,(show 4<=HY by decide),fun dt hdt=>?_⟩;have s7:=ad (A6.fre hdt) (.tup [.str "while",.ref c,.ref td,.ref b]);have k7:(upd G6 dt (.tup [.str "while",.ref c,.ref td,.ref b])) dt=some (.tup [.str "while",.ref c,.ref td,.ref b]):=ab;have A7:=A6.new hdt (.tup [.str "while",.ref c,.ref td,.ref b]);generalize upd G6 dt (.tup [.str "while",.ref c,.ref td,.ref b])=G7,upd H6 dt (.tup [.str "while",.ref c,.ref td,.ref b])=H7 at s7 k7 A7 |-;have g7:=g6.trans s7;have hd7:=g7 _ _ hd2;refine⟨d,_,_,rfl,rfl,A7.rd hd7,cy (by rw[Ab];omega),?_⟩;have nm:∀x,G5 x=none->¬ Mt lv5 S x:=fun x hx z=>by
      obtain⟨us,hu⟩:=W5.mt _ z;rw[hx] at hu;cases hu
     exact rest (A7.put hd7) ((W5.same g7).put hd5 hd7 (.loop h0 c td b fa pa r F P' hg k7 (g7 _ _ hc5) okc (s7 _ _ N.tup) (N.facts.same s7) (N.parts.same s7) (nm _ N.nf) (nm _ N.np) N.okF N.okP (Aw N.lf (by decide)) (Aw N.lp (by decide)) i5) (vd k7 ((W5.backS g7).orph o5))) ((u5.trans (.same g7)).trans (.put (.inl ⟨_,hd5⟩) hd7)) i5 (.inl rfl) (by rw[ai hsd];exact g7 _ _ hs5)
 . obtain⟨ow,ho1,ho2,ho3⟩:=hX;rw[<- A1.g] at ho1 ho2;refine⟨_,rfl,(.inl ⟨rfl,_,SqL.of (A1.rd hdl)⟩),_,rfl,_,rfl,_,rfl,fe,t,hl,k1,Mt lv S,h0,hs,xs,rfl,A1.fed,⟨ow,ho1,ho2,ho3⟩,hok,by rw[A1.g];exact hH.at,hs0,hs4,hsok,hxn,fun pt p k2 H2 f2 hp hpg=>?_⟩;have hpo:=hpg.ok (fun y hy=>kd (hxn y (hok.own y hy))) fun g hg=>kd (hxn _ (hsok g hg).name);obtain⟨A2,g2⟩:=A1.call f2;exact⟨d,_,_,rfl,rfl,A2.rd (g2 _ _ hdl),cy (by rw[Ab];omega),q lv _ _ _ (A2.put (g2 _ _ hdl)) ((Up.same g2).trans (.put (.inl ⟨_,hd⟩) (g2 _ _ hdl))) ((W.same g2).put hd (g2 _ _ hdl) (.plain h0 p hg hp hpg hpo) fun b s z=>absurd z (qz hp hpo))⟩
end K40
namespace L2
open PyProof.Rows
theorem oa{α β:Type}{J:It}{H1:Hp}{σ:St}{ix:List Nat}{te:TE}{Q:VK}{I0:Hp->Prop}(xs:List V)(rs:List α)(R:HW->Hp->V->β->Prop)(f:α->β)(hJ:JSeq J I0 xs)(h0:I0 H1)(hz:xs.length<=1000)(hl:rs.length=xs.length)(hR:∀D H H' y r,R D H y r->md D H H'->R D H' y r)(he:∀(D:HW) (i:Nat) (x:V) (r:α),xs[i]?=some x->rs[i]?=some r->∀H2,Same H1 H2->H2 D≠none->∀Q':VK,(∀y H3,Same H2 H3->R D H3 y (f r)->(∃b,y=.ref b/\H2 b=none/\H3 b≠none)->Q' y H3)->te (some x::cr σ ix) H2 Q')(hQ:∀D H' ys,H1 D=none->Same H1 H'->H' D=some (.lst ys)->IE (fun y r=>R D H' y r) ys (rs.map f)->ys.Nodup->Q (.ref D) H'):i8 J H1 σ ix tYes te Q:=by
 intro D hD;have put:∀H ys,Same H1 H->Same H1 (upd H D (.lst ys)):=fun H ys e b u q=>by rw[ai (aq q hD)];exact e b u q
 refine⟨fun i m H=>i<=xs.length/\m=xs.length-i/\Same H1 H/\∃ys:List V,H D=some (.lst ys)/\IE (fun y r=>R D H y r) ys ((rs.take i).map f)/\ys.Nodup/\∀y∈ys,∃b,y=.ref b/\H b≠none,⟨xs.length,AG _,rfl,put _ _ (Same.refl _),[],ab,by simpa using Paired.nil,.nil,by simp⟩,?_⟩;rintro i m H ⟨hi,rfl,e,ys,hy,hp,hn,ha⟩;have hI:=hJ.stay _ _ h0 e;by_cases hlt:i<xs.length
 . refine .inr ⟨hJ.go i H hI hlt,fun x H' hy'=>?_⟩;obtain⟨rfl,hx⟩:=hJ.yld i H x H' hlt hI hy';have hri:i<rs.length:=by omega
   have hr:rs[i]?=some rs[i]:=Ag hri;have ht:rs.take (i+1)=rs.take i++[rs[i]]:=by rw[Bn,hr];rfl
   have hlen:ys.length=i:=by
    have h1:=Ao hp;rw[Ab,AX] at h1;omega
   dsimp only[tYes];rw[if_pos rfl];refine he D i x rs[i] hx hr _ e (by rw[hy];simp) _ fun y H4 e4 hR4 hy4=>?_;obtain⟨b,rfl,hb,hb4⟩:=hy4;have hput:md D H4 (upd H4 D (.lst (ys++[.ref b]))):=fun b u q hn=>by rw[ai hn];exact q
   have nz:∀{c:HW},H4 c≠none->(upd H4 D (.lst (ys++[.ref b]))) c≠none:=fun {c} h=>by
    by_cases z:c=D
    . rw[z,ab];simp
    . rw[ai z];exact h
   refine⟨ys,e4 _ _ hy,by rw[hlen];exact AH hlt (Aw hz (by decide)),xs.length-(i+1),by omega,hlt,rfl,put _ _ (e.trans e4),ys++[.ref b],ab,?_,?_,fun y hy=>?_⟩
   . rw[ht,Al];exact Paired.snocP (Paired.mapP hp fun a r z=>hR _ _ _ _ _ (hR _ _ _ _ _ z (e4.x D)) hput) (hR _ _ _ _ _ hR4 hput)
   . rw[Ce];refine⟨hn,List.Pairwise.cons (by simp) .nil,fun a ha' c hc z=>?_⟩;rw[Ax.mp hc] at z;obtain⟨b',rfl,hb'⟩:=ha a ha';injection z with z;rw[z] at hb';exact hb' hb
   . rcases Aq.mp hy with z|z
     . obtain⟨b',rfl,hb'⟩:=ha y z;refine⟨b',rfl,nz fun w=>hb' (e4.free w)⟩
     . rw[Ax.mp z];exact⟨b,rfl,nz hb4⟩
 . have hi':i=xs.length:=by omega
   subst hi';refine .inl ⟨hJ.stop _ H hI (Ar _),?_⟩;rw[<- hl,B3] at hp;exact hQ D H ys hD e hy hp hn
structure AtP(p:HW)(H G:Hp)(us:List V):Prop where
 at':H p=some (.lst us)
 g:wo H p=G
variable{p:HW}{H G H':Hp}{us:List V}
theorem AtP.app{us':List V}(h:AtP p H G us):AtP p (upd H p (.lst us')) G us':=⟨ab,by rw[zj];exact h.g⟩
theorem AtP.fre(h:AtP p H G us){b:HW}(hb:H b=none):G b=none:=by
 rw[<- h.g];unfold wo;split
 . rfl
 . exact hb
theorem AtP.rd(h:AtP p H G us){b:HW}{o:HO}(hb:G b=some o):H b=some o:=gk _ _ (by rw[h.g];exact hb)
theorem AtP.ne(h:AtP p H G us){b:HW}{o:HO}(hb:G b=some o):b≠p:=fun z=>by
 rw[<- h.g,z,gv] at hb;cases hb
theorem AtP.same(h:AtP p H G us)(e:Same H H'):AtP p H' (wo H' p) us/\Same G (wo H' p):=⟨⟨e _ _ h.at',rfl⟩,fun b o hb=>by rw[gg (h.ne hb)];exact e _ _ (h.rd hb)⟩
theorem AtP.tup(h:AtP p H G us){t:HW}{vs:List V}(ht:H t=some (.tup vs)):G t=some (.tup vs):=by
 rw[<- h.g,gg (fun z=>by rw[z,h.at'] at ht;cases ht)];exact ht
theorem AtP.new(h:AtP p H G us){b:HW}(hb:H b=none)(o:HO):AtP p (upd H b o) (upd G b o) us :=
 ⟨by rw[ai (aq h.at' hb)];exact h.at',by rw[io (aq h.at' hb).symm,h.g]⟩
theorem AtP.sqT(h:AtP p H G us){K:Ac}{t:HW}{vs:List V}(ht:SqT K H t vs):SqT K G t vs:=by
 rcases ht with (z|⟨o,z⟩)|z
 . exact .inl (.inl (h.tup z))
 . exact .inl (.inr ⟨o,by rw[<- h.g,gg (fun y=>by rw[y,h.at'] at z;cases z)];exact z⟩)
 . exact .inr z
theorem AtP.rows(h:AtP p H G us){K:Ac}{t:HW}{rs:List (List Str)}(n:t≠p)(ht:RowsAt K H t rs):RowsAt K G t rs:=by
 obtain⟨as,h1,h2⟩:=ht;exact⟨as,by rw[<- h.g,gg n];exact h1,Paired.mapP h2 fun _ _ z=>h.sqT z⟩
end L2
namespace K40
open L2 Mir
variable{P:IC}{w:IF}{K:Ac}{mg:Str->Option HX}{base:IJ}{f g gA gF gP gN gS gW gI gV gM gR gT gC gB gD gH gK gG gY:HW}{fd gd dA dF dP dN dS dW dI dV dM dR dT dC dB dD dH dK dG dY:II}
abbrev ub:IP:=top 64
abbrev a3s:IP:=top 65
theorem a2b{X:Cx}{i j l m:Nat}{x y z u:Str}{px py pz pu pos:Pos}{k:Nat}(h1:QG X (.Name x px) (bp i))(h2:QG X (.Name y py) (bp j))(h3:QG X (.Name z pz) (bp l))(h4:QG X (.Name u pu) (bp m))(hc:X.calm=true:=by rfl)(a1:(IG [.Name x px,.Name y py,.Name z pz,.Name u pu] X.env).map (·.2)=assign (.Name x px) X.env::(IG [.Name y py,.Name z pz,.Name u pu] X.env).map (·.2):=by rfl)(a2:(IG [.Name y py,.Name z pz,.Name u pu] X.env).map (·.2)=assign (.Name y py) X.env::(IG [.Name z pz,.Name u pu] X.env).map (·.2):=by rfl)(a3:(IG [.Name z pz,.Name u pu] X.env).map (·.2)=assign (.Name z pz) X.env::(IG [.Name u pu] X.env).map (·.2):=by rfl)(a4:(IG [.Name u pu] X.env).map (·.2)=assign (.Name u pu) X.env::(IG [] X.env).map (·.2):=by rfl)(hn:(IG [.Name x px,.Name y py,.Name z pz,.Name u pu] X.env).length=4:=by rfl)(hst:(IG [.Name x px,.Name y py,.Name z pz,.Name u pu] X.env).findIdx? (·.1)=none:=by rfl):QG X (.Tuple [.Name x px,.Name y py,.Name z pz,.Name u pu] k pos) (gTup X.K 4 (il (bp i) (il (bp j) (il (bp l) (il (bp m) gNil))))) :=
 ⟨v7 hc (fc h1.run (fc h2.run (fc h3.run (fc h4.run sf a4) a3) a2) a1) hn hst⟩
def lv0(bs:List HW):Lv:=fun a=>if a∈bs then some (8*bs.idxOf a) else none
theorem uy{bs:List HW}{i:Nat}{a:HW}(hn:bs.Nodup)(h:bs[i]?=some a):bs.idxOf a=i:=by
 obtain⟨hi,rfl⟩:=Av.mp h;exact List.Nodup.idxOf_getElem hn i hi
theorem a07{bs:List HW}{i:Nat}{a:HW}(hn:bs.Nodup)(h:bs[i]?=some a):lv0 bs a=some (8*i):=by unfold lv0;rw[if_pos (Ak h),uy hn h]
theorem mx{bs:List HW}{a:HW}{k:Nat}(h:lv0 bs a=some k):a∈bs/\k % 8=0:=by
 unfold lv0 at h;by_cases c:a∈bs
 . rw[if_pos c] at h;cases h;exact⟨c,by omega⟩
 . rw[if_neg c] at h;cases h
def soF(ss:List HW):HW->Nat:=fun s=>ss.idxOf s
theorem a78{K:Ac}{hs:List Hd}{H:Hp}{bs ss:List HW}(bn:bs.Nodup)(sn:ss.Nodup)(hb:∀b∈bs,H b=some (.lst []))(hss:∀(i:Nat) (s:HW),ss[i]?=some s->∃e b,H s=some (.lst [.ref e])/\H e=some (.tup [.ref b,.non])/\bs[i]?=some b):Wk K hs (soF ss) H (lv0 bs) ss 0:=by
 have no:∀a i t,¬ Psn H (lv0 bs) a i t:=fun a i t z=>by
  obtain⟨k,ts,h1,h2,h3⟩:=z;rw[hb a (mx h1).1] at h2;cases ts with
  | nil=>cases h3
  | cons x l=>cases h2
 have hs2:∀s∈ss,∃e b,H s=some (.lst [.ref e])/\H e=some (.tup [.ref b,.non])/\bs[soF ss s]?=some b:=fun s h=>by
  obtain⟨i,hi⟩:=Bk h;obtain⟨e,b,h1,h2,h3⟩:=hss i s hi;exact⟨e,b,h1,h2,by unfold soF;rw[uy sn hi];exact h3⟩
 refine⟨fun a k z=>?_,fun a k z=>?_,fun s hs'=>?_,fun s hs'=>?_,fun a i t s a' i' t' s' b h=>absurd h (no _ _ _),⟨fun _ _=>0,fun a i t h=>absurd h (no _ _ _),fun a i t a' i' t' h=>absurd h (no _ _ _)⟩⟩
 . rw[(mx z).2];exact AG _
 . exact⟨[],hb a (mx z).1,AG _,fun t ht=>by cases ht⟩
 . obtain⟨e,b,h1,h2,h3⟩:=hs2 s hs';refine⟨[e],h1,Nat.one_pos,(show 1<=5 by decide),fun i x hx=>?_⟩;cases i with
   | zero=>cases hx;exact .one b h2 (a07 bn h3)
   | succ j=>cases hx
 . obtain⟨e,b,h1,h2,h3⟩:=hs2 s hs';cases q:lv0 bs s with
   | none=>rfl
   | some k=>rw[hb s (mx q).1] at h1;cases h1
inductive ToldX(K:Ac)(H:Hp)(M:HW->Prop)(ys:List Str)(t:HW):Prop
 | mk (fa pa:HW)(F P:List (List Str))(ht:H t=some (.tup [.ref fa,.ref pa]))(hF:RowsAt K H fa F)(hP:RowsAt K H pa P)(nF:¬ M fa)(nP:¬ M pa)(okF:∀r∈F,em ys r)(okP:∀r∈P,gc ys r)(lF:F.length<=2)(lP:P.length<=2)
def yh(h:Hd):List Str:=h.own.take h.par++[("nil":Str)]
def yl(h:Hd):List Str:=(h.own.take h.par++[h.res].filter (fun w => !decide (V.str w=V.str "")))++[("nil":Str)]
inductive ProcAt(K:Ac)(hs:List Hd)(H:Hp)(lv:Lv)(S:List HW)(i:Nat)(t:HW):Prop
 | mk (g:Hd)(hg:hs[i]?=some g)(pt t1 t2 bd:HW)(h:H t=some (.tup [.str g.name,.ref pt,.str g.res,.ref t1,.ref t2,.ref bd]))(hp:H pt=some (.tup ((g.own.take g.par).map V.str)))(h1:ToldX K H (Mt lv S) (yh g) t1)(h2:ToldX K H (Mt lv S) (yl g) t2)(hb:lv bd=some (8*i))
theorem ToldX.same{K:Ac}{H H':Hp}{M:HW->Prop}{ys:List Str}{t:HW}(h:ToldX K H M ys t)(e:Same H H'):ToldX K H' M ys t:=by
 obtain⟨fa,pa,F,P,ht,hF,hP,h1,h2,h3,h4,h5,h6⟩:=h;exact⟨fa,pa,F,P,e _ _ ht,hF.same e,hP.same e,h1,h2,h3,h4,h5,h6⟩
theorem ProcAt.same{K:Ac}{hs:List Hd}{H H':Hp}{lv:Lv}{S:List HW}{i:Nat}{t:HW}(h:ProcAt K hs H lv S i t)(e:Same H H'):ProcAt K hs H' lv S i t:=by
 obtain⟨g,hg,pt,t1,t2,bd,h,hp,h1,h2,hb⟩:=h;exact⟨g,hg,pt,t1,t2,bd,e _ _ h,e _ _ hp,h1.same e,h2.same e,hb⟩
structure Prog(K:Ac)(H H':Hp)(ns:List Int)(pl:HW)(ts:List HW)(lv:Lv)(S:List HW)(hs:List Hd)(so:HW->Nat):Prop where
 e:Same H H'
 list:H' pl=some (.lst (ts.map V.ref))
 wk:Wk K hs so H' lv S 24
 procs:∀(i:Nat) (t:HW),ts[i]?=some t->ProcAt K hs H' lv S i t
 len:ts.length=hs.length
 pos:0<hs.length
 few:hs.length<=4
 nms:∀x∈iw ns,b8 x=true
 hok:∀h∈hs,HdOk (iw ns) h
 x8:(iw ns).length=8
 xn:(iw ns).Nodup
 nm:NmAt (iw ns) hs
 fst:Fst (iw ns) (ixF ns) hs
 npl:¬ Mt lv S pl
inductive spProg(K:Ac)(vs:List V)(H:Hp)(Q:VK)(E:XK):Prop
 | mk (a:HW)(ns:List Int)(h0:vs=[.ref a])(h1:SqL K H a (ns.map V.int))(q:∀pl ts lv S hs so H',Prog K H H' ns pl ts lv S hs so->Q (.ref pl) H'):spProg K vs H Q E
theorem mh{bs:List HW}(h:(bs.map V.ref).Nodup):bs.Nodup:=(List.pairwise_map.mp h).imp fun n z=>n (by rw[z])
theorem Up.sqL{S:List HW}{lv lv':Lv}{H H':Hp}(u:Up S lv lv' H H')(m:MtL H lv S){K:Ac}{a:HW}{vs:List V}(n:¬ Mt lv S a)(h:SqL K H a vs):SqL K H' a vs:=by
 rcases h with (h|⟨o,h⟩)|h
 . exact .inl (.inl (u.keep _ _ h n))
 . exact .inl (.inr ⟨o,u.frz m h⟩)
 . exact .inr h
theorem jz(xs:List V)(n:Nat):cutV xs none (some (n:Int))=xs.take n:=by
 unfold cutV;rw[HT.sIx_nat,show HT.sIx xs.length 0 none=0 from rfl,B9,Gb];by_cases h:n<=xs.length
 . rw[Fb h]
 . rw[EJ (by omega),B3,Bf (by omega)]
theorem i4{α:Type}{R:HW->α->Prop}:∀{ys:List V}{rs:List α},IE (fun y r=>∃b,y=V.ref b/\R b r) ys rs->∃bs:List HW,ys=bs.map V.ref/\IE R bs rs
 | _,_,.nil=>⟨[],rfl,.nil⟩
 | _,_,.cons h t=>by
  obtain⟨b,rfl,hb⟩:=h;obtain⟨bs,rfl,hp⟩:=i4 t;exact⟨b::bs,rfl,.cons hb hp⟩
theorem Paired.memL{α β:Type}{R:α->β->Prop}{l₁:List α}{l₂:List β}(h:IE R l₁ l₂){a:α}(ha:a∈l₁):∃b∈l₂,R a b:=by
 obtain⟨i,hi⟩:=Bk ha;obtain⟨b,hb,r⟩:=Paired.nth h hi;exact⟨b,Ak hb,r⟩
structure Set0(K:Ac)(H0 H2:Hp)(hl bl sl:HW)(hs:List Hd)(bs ss:List HW):Prop where
 e:Same H0 H2
 wk:Wk K hs (soF ss) H2 (lv0 bs) ss 0
 bn:bs.Nodup
 sn:ss.Nodup
 heads:HeadsM (Mt (lv0 bs) ss) H2 hl hs
 atB:H2 bl=some (.lst (bs.map V.ref))
 nbl:¬ Mt (lv0 bs) ss bl
 atS:H2 sl=some (.lst (ss.map V.ref))
 nsl:¬ Mt (lv0 bs) ss sl
 lb:bs.length=hs.length
 ls:ss.length=hs.length
 old:∀b o,H0 b=some o->¬ Mt (lv0 bs) ss b
inductive PI(K:Ac)(hs:List Hd)(H3:Hp)(a hl bl sl:HW)(bs ss:List HW)(i:Nat)(σ:St)(H4:Hp):Prop
 | mk (lv:Lv)(z4 z5 z6 z7:Option V)(u:Up ss (lv0 bs) lv H3 H4)(W:Wk K hs (soF ss) H4 lv ss i)(hσ:σ=[rQ a,rQ hl,rQ bl,rQ sl,z4,z5,z6,z7,nQ,nQ,nQ,nQ,nQ,nQ,nQ])
inductive PJ(K:Ac)(hs:List Hd)(G5:Hp)(a hl bl sl pl:HW)(lv:Lv)(ss:List HW)(z5 z6 z7:Option V)(i:Nat)(σ:St)(H6:Hp):Prop
 | mk (G:Hp)(ts:List HW)(z4 z9 z10 z11 z12 z13 z14:Option V)(A:AtP pl H6 G (ts.map V.ref))(e:Same G5 G)(pr:∀(j:Nat) (t:HW),ts[j]?=some t->ProcAt K hs G lv ss j t)(hi:ts.length=i)(hσ:σ=[rQ a,rQ hl,rQ bl,rQ sl,z4,z5,z6,z7,rQ pl,z9,z10,z11,z12,z13,z14])
theorem pick{l:List HW}{k:Nat}(h:k<l.length):∃b,l[k]?=some b/\atI (l.map V.ref) (k:Int)=some (.ref b)/\b∈l :=
 ⟨l[k],Ag h,dv (by rw[Ah,Ag h];rfl),Ci _⟩
def RB(H1:Hp)(D:HW)(H:Hp)(b:HW)(r:HW):Prop:=H b=some (.lst [])/\b≠D/\H1 b=none
def RS(H1:Hp)(D:HW)(H:Hp)(s:HW)(r:HW):Prop:=∃e,H s=some (.lst [.ref e])/\H e=some (.tup [.ref r,.non])/\s≠D/\e≠D/\H1 s=none
theorem set0{K:Ac}{H0 H1 H2 H3:Hp}{hl bl sl:HW}{hs:List Hd}{ts bs ss:List HW}(e1:Same H0 H1)(e2:Same H1 H2)(e3:Same H2 H3)(hh:la H1 hl hs)(hp:0<hs.length)(hts:ts.length=hs.length)(hb:H2 bl=some (.lst (bs.map V.ref)))(pb:IE (RB H1 bl H2) bs ts)(hsl:H3 sl=some (.lst (ss.map V.ref)))(ps:IE (RS H2 sl H3) ss bs)(bn:bs.Nodup)(sn:ss.Nodup):Set0 K H0 H3 hl bl sl hs bs ss:=by
 have lb:bs.length=hs.length:=(Ao pb).trans hts;have ls:ss.length=hs.length:=(Ao ps).trans lb;have hbs:∀b∈bs,H2 b=some (.lst [])/\H1 b=none:=fun b hb'=>by
  obtain⟨r,_,h1,_,h3⟩:=Paired.memL pb hb';exact⟨h1,h3⟩
 have hss:∀s∈ss,∃e b,H3 s=some (.lst [.ref e])/\H3 e=some (.tup [.ref b,.non])/\b∈bs/\H2 s=none:=fun s hs'=>by
  obtain⟨r,hr,e,h1,h2,_,_,h5⟩:=Paired.memL ps hs';exact⟨e,r,h1,h2,hr,h5⟩
 have nb:∀b∈bs,b≠bl:=fun b hb' z=>by
  have:=(hbs b hb').1;rw[z,hb] at this;cases bs with
  | nil=>cases hb'
  | cons x l=>cases this
 have fre:∀b o,H1 b=some o->¬ Mt (lv0 bs) ss b:=fun b o h=>by
  rintro (⟨k,z⟩|z)
  . have:=(hbs b (mx z).1).2;rw[this] at h;cases h
  . obtain⟨_,_,_,_,_,q⟩:=hss b z;have:=e2.free q;rw[this] at h;cases h
 have nsl:¬ Mt (lv0 bs) ss sl:=by
  rintro (⟨k,z⟩|z)
  . have:=e3 _ _ (hbs sl (mx z).1).1;rw[hsl] at this;have hz:ss=[]:=by cases ss with
     | nil=>rfl
     | cons x l=>cases this
    rw[hz] at ls;rw[<- ls] at hp;cases hp
  . obtain⟨e,b,h1,h2,_,_⟩:=hss sl z;rw[hsl] at h1;cases ss with
    | nil=>cases z
    | cons x l =>
     cases l with
     | cons y l'=>cases h1
     | nil =>
      injection h1 with h1;injection h1 with h1;injection h1 with h1 _;injection h1 with h1;subst h1;rw[Ax.mp z] at hsl;rw[hsl] at h2;cases h2
 refine⟨(e1.trans e2).trans e3,a78 bn sn (fun b hb'=>e3 _ _ (hbs b hb').1) (fun i s hs'=>by obtain⟨b,hb',e,h1,h2,_⟩:=Paired.nth ps hs';exact⟨e,b,h1,h2,hb'⟩),bn,sn,?_,e3 _ _ hb,?_,hsl,nsl,lb,ls,fun b o h=>fre b o (e1 _ _ h)⟩
 . obtain⟨ts',h1,h2⟩:=hh;refine⟨fre _ _ h1,ts',e3 _ _ (e2 _ _ h1),Paired.mapP h2 fun t h z=>?_⟩;obtain⟨ow,z1,z2,z3⟩:=z;exact⟨ow,e3 _ _ (e2 _ _ z1),e3 _ _ (e2 _ _ z2),fun y=>y.elim z3 (fre _ _ z2)⟩
 . rintro (⟨k,z⟩|z)
   . exact nb bl (mx z).1 rfl
   . obtain⟨_,_,_,_,_,q⟩:=hss bl z;rw[hb] at q;cases q
theorem scProg:FnScope ["_law_script","_law_heads_here","_law_bodies","_law_stacks","_law_k","_law_cell","_law_mixed","_law_h","_law_program_here","_law_name","_law_own","_law_params","_law_result","_law_before","_law_behind"] ["_law_script"] (b7 a3s):=⟨rfl,rfl,rfl,by decide,rfl,by decide,by decide⟩
theorem a8q(C:Con K mg w)(F:Fun K "_law_program" "_law_program" a3s f fd)(GA:FnOk P w K mg base CX0 5 gA dA ["_law_script"] (spProg K))(cA:Cal K mg "_law_any_program" gA dA ["_law_script"])(GC:FnOk P w K mg base CX0 1 gC dC ["_law_script","_law_k"] (qo K))(cC:Cal K mg "_law_cell_at" gC dC ["_law_script","_law_k"])(GH:FnOk P w K mg base CX0 3 gH dH ["_law_script"] (spHeads K))(cH:Cal K mg "_law_heads" gH dH ["_law_script"])(GP:FnOk P w K mg base CX0 2 gP dP ["_law_open_lists","_law_cell","_law_mixed","_law_head","_law_heads_here"] (spPut K))(cP:Cal K mg "_law_put" gP dP ["_law_open_lists","_law_cell","_law_mixed","_law_head","_law_heads_here"])(GT:FnOk P w K mg base CX0 1 gT dT ["_law_cell","_law_names_here"] (spTold K))(cT:Cal K mg "_law_told" gT dT ["_law_cell","_law_names_here"]):FnOk P w K mg base CX0 6 f fd ["_law_script"] (spProg K):=by
 refine F.okQ scProg (fun vs H Q E h=>?_) (fun cdv A outer s0 H vs Q E hr h=>?_)
 . obtain⟨a,ns,rfl,_⟩:=h;rfl
 obtain⟨a,ns,rfl,hS,q⟩:=h;have nd:=scProg.nd;have hr1:=hr.mono (j:=1) (by omega);have hr2:=hr.mono (j:=2) (by omega);have hr3:=hr.mono (j:=3) (by omega);refine⟨_,ae (bf (ax bo (am br (ak GC hr1 rfl cC.name cC.keep cC.bind .nil au (af (qv 0) (ci aa))) ac) ac (ay _)) (aj (az (ak GA hr rfl cA.name cA.keep cA.bind .nil au (af (qv 0) aa)))) bm)
  (ae (av (i:=1) nd rfl (Or.inl rfl) (ak GH hr3 rfl cH.name cH.keep cH.bind .nil au (af (qv 0) aa)))
  (ae (jc ["_law_head"] [] (i:=2) nd rfl (Or.inl rfl) (bz (qv 1)) (fun _ _ _ _=>db) (fun _ _ _ _=>(bb aa)))
  (ae (jc ["_law_body"] [] (i:=3) nd rfl (Or.inl rfl) (bz (qv 2)) (fun _ _ _ _=>db) (fun _ _ _ _=>(bb (di (af (qv 0) (dh jl aa)) aa))))
  (ae (dq AS rfl (cz rfl C.range (be (aw (rl rfl) rfl C.min DO (ci (be (aw (a50 rfl) rfl C.max PyProof.Rows.Boot.max (ci (da (am ja (aw ap rfl C.len Ap (af (qv 0) aa)) ac) aa))) aa))) aa)) (bj (i:=4) nd rfl (Or.inl rfl)) (ae (av (i:=5) nd rfl (Or.inl rfl) (ak GC hr1 rfl cC.name cC.keep cC.bind .nil au (af (qv 0) (da (am cw ac (qv 4)) aa))))
  (ae (av (i:=6) nd rfl (Or.inl rfl) (am br (am pi (am cw (ak GC hr1 rfl cC.name cC.keep cC.bind .nil au (af (qv 0) (da (am cw ac (qv 4)) aa))) (am bt (qv 5) ac)) ac) ac))
  (ae (av (i:=7) nd rfl (Or.inl rfl) (am br (qv 5) (aw ap rfl C.len Ap (af (qv 1) aa))))
  (aj (bu (ak GP hr2 rfl cP.name cP.keep cP.bind .nil au (ar (ag bc (qv 3) (qv 7) (fun _ _=>rfl)) (af (qv 5) (af (qv 6) (ar (ag bc (qv 1) (qv 7) (fun _ _=>rfl)) (af (qv 1) aa))))))))))))
  (ae (av (i:=8) nd rfl (Or.inl rfl) (bb aa))
  (ae (dq AS rfl (cz rfl C.range (be (aw ap rfl C.len Ap (af (qv 1) aa)) aa)) (bj (i:=4) nd rfl (Or.inl rfl)) (ae (om (ag bc (qv 1) (qv 4) (fun _ _=>rfl)) (a2b (bj (i:=9) nd rfl (Or.inl rfl)) (bj (i:=10) nd rfl (Or.inl rfl)) (bj (i:=11) nd rfl (Or.inl rfl)) (bj (i:=12) nd rfl (Or.inl rfl))))
  (ae (av (i:=13) nd rfl (Or.inl rfl) (ak GT hr1 rfl cT.name cT.keep cT.bind .nil au (da (am bt (ak GC hr1 rfl cC.name cC.keep cC.bind .nil au (af (qv 0) (ci aa))) (am cw (qv 4) ac)) (ar (dr kc (qv 10) ft (ek (qv 11))) aa))))
  (ae (av (i:=14) nd rfl (Or.inl rfl) (ak GT hr1 rfl cT.name cT.keep cT.bind .nil au (da (am bt (ak GC hr1 rfl cC.name cC.keep cC.bind .nil au (af (qv 0) (ci aa))) (am cw (qv 4) ac)) (da (am ce (dr kc (qv 10) ft (ek (qv 11))) (ik (bz (bb (af (qv 12) aa))) (fun _ _ _ _=>(ke (ax jq (qv 0) bv (ay _)))) (fun _ _ _ _=>(qv 0)))) aa))))
  (aj (bu (cq (K:=K) rfl As Az AA bq (qv 8) (di (af (qv 9) (be (cg ju rfl C.tuple Bx (ar (dr kc (qv 10) ft (ek (qv 11))) aa)) (af (qv 12) (af (qv 13) (af (qv 14) (ar (ag bc (qv 2) (qv 4) (fun _ _=>rfl)) aa)))))) aa))))))))
  (aj (az (qv 8))))))))),?_⟩
 refine⟨_,rfl,a,ns,1,rfl,hS,_,_,rfl,rfl,(show (0:Int)<2 by decide),rfl,_,rfl,iteB (fun _=>⟨_,rfl,a,ns,rfl,hS,q⟩) (fun _=>?_)⟩;refine⟨_,rfl,a,ns,rfl,hS,fun hl hs xs H1 e1 hhl hH hs0 hs4 hxn hsok hxe hx8 hxd hnmA hfst=>?_⟩;obtain⟨ts,hts,hpp⟩:=hH;have htl:=Ao hpp;refine⟨_,rfl,hl,rfl,⟨_,SqL.of hts⟩,?_⟩;refine oa (ts.map V.ref) ts (fun D H y r=>∃b,y=V.ref b/\RB H1 D H b r) id cs (SqL.of hts) (by rw[Ab];omega) (by rw[Ab]) (fun D G G' y r z e=>?_) (fun D i x r hx hr' H2 e2 hD Q' q'=>?_) (fun bl H2 ys hbl e2 hbl2 hp hbn=>?_)
 . obtain⟨b,rfl,h1,h2,h3⟩:=z;exact⟨b,rfl,e _ _ h1 h2,h2,h3⟩
 . exact⟨AG _,fun b hb=>q' (.ref b) _ (ad hb _) ⟨b,rfl,ab,(fun z=>hD (by rw[<- z];exact hb)),e2.free hb⟩ ⟨b,rfl,hb,by rw[ab];simp⟩⟩
 rw[Ck] at hp;obtain⟨bs,rfl,pb⟩:=i4 hp;have hbl':=Ao pb;refine⟨_,rfl,bl,rfl,⟨_,SqL.of hbl2⟩,?_⟩;refine oa (bs.map V.ref) bs (fun D H y r=>∃b,y=V.ref b/\RS H2 D H b r) id cs (SqL.of hbl2) (by rw[Ab];omega) (by rw[Ab]) (fun D G G' y r z e=>?_) (fun D i x r hx hr' H3 e3 hD Q' q'=>?_) (fun sl H3 ys hsl e3 hsl3 hp hsn=>?_)
 . obtain⟨b,rfl,e',h1,h2,h3,h4,h5⟩:=z;exact⟨b,rfl,e',e _ _ h1 h3,e _ _ h2 h4,h3,h4,h5⟩
 . have hx':x=.ref r:=by rw[Ah,hr'] at hx;exact (Ay hx).symm
   subst hx';refine⟨_,rfl,(show 2<=HY by decide),fun e' he'=>?_⟩;have s4:=ad he' (.tup [.ref r,.non]);have k4:(upd H3 e' (.tup [.ref r,.non])) e'=some (.tup [.ref r,.non]):=ab;have nD:e'≠D:=fun z=>hD (by rw[<- z];exact he');have hD4:(upd H3 e' (.tup [.ref r,.non])) D≠none:=by rw[ai nD.symm];exact hD
   generalize upd H3 e' (.tup [.ref r,.non])=H4 at s4 k4 hD4 |-;exact⟨(show 1<=HY by decide),fun s' hs'=>q' (.ref s') _ (s4.trans (ad hs' _)) ⟨s',rfl,e',ab,ad hs' _ _ _ k4,(fun z=>hD4 (by rw[<- z];exact hs')),nD,e3.free (s4.free hs')⟩ ⟨s',rfl,s4.free hs',by rw[ab];simp⟩⟩
 rw[Ck] at hp;obtain⟨ss,rfl,pss⟩:=i4 hp;have Z:=set0 (K:=K) e1 e2 e3 ⟨ts,hts,hpp⟩ hs0 htl hbl2 pb hsl3 pss (mh hbn) (mh hsn);clear hbn hsn hp hpp pb pss hbl2 hsl3 hbl hsl hts htl hbl' e2 e3 hhl e1;dsimp only[bp];have mL:=Z.wk.mt;have hSn:¬ Mt (lv0 bs) ss a\/∀H',SqL K H' a (ns.map V.int):=by
  rcases hS with (h|⟨o,h⟩)|h
  . exact .inl (Z.old _ _ h)
  . exact .inl (Z.old _ _ h)
  . exact .inr fun H'=>.inr h
 have hS3:SqL K H3 a (ns.map V.int):=Z.e.seq hS;have scr:∀{lv:Lv} {H4:Hp},Up ss (lv0 bs) lv H3 H4->SqL K H4 a (ns.map V.int):=fun u=>hSn.elim (fun n=>u.sqL mL n hS3) (fun h=>h _);refine b9 (a:=tFor _ _ _) fun D1 hN1 hR1 hC1=>?_;refine⟨_,rfl,a,_,rfl,.inl hS3,_,_,rfl,rfl,_,_,rfl,_,_,rfl,_,rfl,?_⟩;obtain⟨N,hN,hN22⟩:∃N:Nat,(if (if (((ns.map V.int).length:Nat):Int)-4>0 then (((ns.map V.int).length:Nat):Int)-4 else 0)<22 then (if (((ns.map V.int).length:Nat):Int)-4>0 then (((ns.map V.int).length:Nat):Int)-4 else 0) else 22)=(N:Int)/\N<=22:=by
  generalize (((ns.map V.int).length:Nat):Int)=L;by_cases c1:L-4>0
  . rw[if_pos c1];by_cases c2:L-4<22
    . rw[if_pos c2];exact⟨(L-4).toNat,by omega,by omega⟩
    . rw[if_neg c2];exact⟨22,rfl,Ar _⟩
  . rw[if_neg c1];exact⟨0,rfl,by decide⟩
 rw[hN];refine⟨by omega,by omega,?_⟩;show ∃W:Nat->Nat->St->Hp->Prop,_;refine gi (lo:=0) (n:=N) (PI K hs H3 a hl bl sl bs ss) ⟨_,none,none,none,none,.refl,Z.wk,rfl⟩ ?_ ?_
 . rintro i σ H4 hi ⟨lv,z4,z5,z6,z7,u,W,rfl⟩;rw[EO];have hS4:=scr u;obtain⟨nhl,tsH,hhl4,hpp4⟩:=Z.heads.up mL u;have hsl4:=u.keep _ _ Z.atS Z.nsl;have htl:=Ao hpp4;refine⟨_,rfl,_,rfl,_,_,rfl,rfl,a,ns,4+i,(by rw[show ((4+i:Nat):Int)=4+(i:Int) by omega];rfl),hS4,?_⟩;generalize bw ns (4+i)=cell;refine⟨_,rfl,_,rfl,_,_,rfl,rfl,a,ns,26+i,(by rw[show ((26+i:Nat):Int)=26+(i:Int) by omega];rfl),hS4,_,rfl,_,_,rfl,rfl,(show CDiv _ 40 from⟨by decide,by decide⟩),_,_,rfl,rfl,_,_,rfl,rfl,.inr ⟨by decide,by decide⟩,_,_,rfl,rfl,(show (0:Int)<2147483647 by decide),?_⟩;dsimp only[bp];generalize (bw ns (26+i)+cell / 40)*48271 % 2147483647=mixed;have l0:(0:Int)<(((tsH.map V.ref).length:Nat):Int):=by rw[Ab];omega
   refine⟨_,rfl,_,rfl,hl,_,rfl,.inl (SqL.of hhl4),_,_,rfl,rfl,l0,?_⟩;obtain⟨j,hj,hjl⟩:∃j:Nat,cell % (((tsH.map V.ref).length:Nat):Int)=(j:Int)/\j<hs.length:=by
    have h1:=AM cell (EK l0);have h2:=AW cell l0;rw[Ab] at h1 h2 |-;exact⟨(cell % (tsH.length:Int)).toNat,by omega,by omega⟩
   show bp _ (V.int (cell % (((tsH.map V.ref).length:Nat):Int))) _ _ _;rw[hj];obtain⟨s,hs1,hs2,hs3⟩:=pick (l:=ss) (k:=j) (by rw[Z.ls];exact hjl);obtain⟨t,ht1,ht2,ht3⟩:=pick (l:=tsH) (k:=j) (by rw[htl];exact hjl);obtain⟨h,hh1,hX⟩:=Paired.nth hpp4 ht1;refine⟨_,rfl,_,rfl,sl,_,_,_,rfl,rfl,SqL.of hsl4,hs2,_,rfl,_,rfl,_,rfl,_,rfl,hl,_,_,_,rfl,rfl,SqL.of hhl4,ht2,_,rfl,s,cell,mixed,t,hl,lv,ss,i,h,hs,soF ss,xs,(by unfold soF;rw[uy Z.sn hs1];exact hh1),rfl,W,hs3,(by omega),hX.less fun _ y=>.inr y,hsok h (Ak hh1),⟨nhl,tsH,hhl4,hpp4⟩,hs0,hs4,hsok,hxn,fun lv' H5 u' W'=>?_⟩;exact⟨lv',_,_,_,_,u.trans u',W',rfl⟩
 rintro σ H4 ⟨lv,z4,z5,z6,z7,u,W,rfl⟩;refine hN1 _ _ ?_;clear hN1 hR1 hC1;have W4:Wk K hs (soF ss) H4 lv ss 24:=W.le (by omega);have hS4:=scr u;have hH4:=Z.heads.up mL u;have hbl4:=u.keep _ _ Z.atB Z.nbl;have hb0:∀(i:Nat) (b:HW),bs[i]?=some b->lv b=some (8*i):=fun i b hb=>u.inc _ _ (a07 Z.bn hb);have E4:Same H H4:=fun b o h=>u.keep _ _ (Z.e _ _ h) (Z.old _ _ h);have lbs:=Z.lb;clear scr hSn hS3 mL;clear u W Z;refine⟨AG _,fun pl hpl=>?_⟩;have A5:AtP pl (upd H4 pl (.lst [])) H4 []:=⟨ab,by
  funext c
  by_cases z:c=pl
  . rw[z,gv,hpl]
  . rw[gg z,ai z]⟩
 generalize upd H4 pl (.lst [])=H5 at A5 |-;dsimp only[bp];refine b9 (a:=tFor _ _ _) fun D2 hN2 hR2 hC2=>?_;obtain⟨nhl,tsH,hhl4,hpp4⟩:=hH4;have htl:=Ao hpp4;refine⟨_,rfl,hl,_,rfl,.inl (SqL.of (A5.rd hhl4)),_,rfl,by rw[Ab];omega,by rw[Ab];omega,?_⟩;show ∃W:Nat->Nat->St->Hp->Prop,_;refine gi (lo:=0) (n:=(((tsH.map V.ref).length:Nat):Int).toNat) (PJ K hs H4 a hl bl sl pl lv ss z5 z6 z7) ⟨H4,[],_,_,_,_,_,_,_,A5,Same.refl _,(fun j t ht=>by cases ht),rfl,rfl⟩ ?_ ?_
 . rintro i σ H6 hi ⟨G,ts',z4,z9,z10,z11,z12,z13,z14,A6,e6,pr,hlen,rfl⟩;rw[EO];have hi':i<hs.length:=by rw[Bh,Ab] at hi;omega
   obtain⟨t,ht1,ht2,ht3⟩:=pick (l:=tsH) (k:=i) (by rw[htl];exact hi');obtain⟨b,hb1,hb2,hb3⟩:=pick (l:=bs) (k:=i) (by rw[lbs];exact hi');obtain⟨⟨nm,os,pm,rs⟩,hh1,ow,hX1',hX2',hX3⟩:=Paired.nth hpp4 ht1;have hok:=hsok _ (Ak hh1);have hok2:=hok.own;have hok4:=hok.few;have hok6:=hok.res;dsimp only at hX1' hX2' hok2 hok4 hok6;have hX1:=e6 _ _ hX1';have hX2:=e6 _ _ hX2';have hSG:∀{G' H':Hp} {us:List V},AtP pl H' G' us->Same H4 G'->SqL K H' a (ns.map V.int):=fun A' e'=>by
    rcases hS4 with (h|⟨o,h⟩)|h
    . exact .inl (.inl (A'.rd (e' _ _ h)))
    . exact .inl (.inr ⟨o,A'.rd (e' _ _ h)⟩)
    . exact .inr h
   refine⟨_,rfl,_,rfl,hl,_,_,_,rfl,rfl,SqL.of (A6.rd (e6 _ _ hhl4)),ht2,t,_,rfl,SqT.of (A6.rd hX1),rfl,_,_,rfl,_,_,rfl,_,_,rfl,_,_,rfl,rfl,?_⟩;refine⟨_,rfl,a,ns,2,rfl,hSG A6 e6,_,rfl,_,_,rfl,rfl,_,_,rfl,rfl,(show CDiv _ _ from⟨by omega,by omega⟩),_,rfl,_,rfl,_,rfl,ow,_,rfl,SqL.of (A6.rd hX2),fun p1 hp1=>?_⟩;rw[jz,<- CA];have hpl6:(os.take pm).length<=6:=by rw[AX];omega
   have hpx:∀y∈os.take pm,y∈xs:=fun y hy=>hok2 y (BA hy);have k7:(upd H6 p1 (.lst ((os.take pm).map V.str))) p1=some (.lst ((os.take pm).map V.str)):=ab;have A7:=A6.new hp1 (.lst ((os.take pm).map V.str));have d7:=ad (A6.fre hp1) (.lst ((os.take pm).map V.str));generalize upd H6 p1 (.lst ((os.take pm).map V.str))=H7,upd G p1 (.lst ((os.take pm).map V.str))=G7 at A7 d7 k7 |-;have e7:=e6.trans d7;refine⟨_,p1,os.take pm,rfl,k7,Aw hpl6 (by decide),fun t1 fa pa F1 P1 H8 N1=>?_⟩;obtain⟨A8,g8⟩:=A7.same N1.e;generalize wo H8 pl=G8 at A8 g8;have e8:=e7.trans g8;have nmt:∀{G' H':Hp} {us:List V},AtP pl H' G' us->Same H4 G'->∀x,H' x=none->¬ Mt lv ss x:=fun A' e' x hx z=>by
    obtain⟨us,hu⟩:=W4.mt _ z;rw[A'.rd (e' _ _ hu)] at hx;cases hx
   have T1:ToldX K G8 (Mt lv ss) (os.take pm++[("nil":Str)]) t1:=⟨fa,pa,F1,P1,A8.tup N1.tup,A8.rows (aq A7.at' N1.nf).symm N1.facts,A8.rows (aq A7.at' N1.np).symm N1.parts,nmt A7 e7 _ N1.nf,nmt A7 e7 _ N1.np,N1.okF,N1.okP,N1.lf,N1.lp⟩
   have d8:=d7.trans g8;refine⟨_,rfl,a,ns,3,rfl,hSG A8 e8,_,rfl,_,_,rfl,rfl,_,_,rfl,rfl,(show CDiv _ _ from⟨by omega,by omega⟩),_,rfl,_,rfl,_,rfl,ow,_,rfl,SqL.of (A8.rd (d8 _ _ hX2)),fun p2 hp2=>?_⟩;rw[jz,<- CA];have k9:(upd H8 p2 (.lst ((os.take pm).map V.str))) p2=some (.lst ((os.take pm).map V.str)):=ab;have A9:=A8.new hp2 (.lst ((os.take pm).map V.str));have g9:=ad (A8.fre hp2) (.lst ((os.take pm).map V.str));generalize upd H8 p2 (.lst ((os.take pm).map V.str))=H9,upd G8 p2 (.lst ((os.take pm).map V.str))=G9 at A9 g9 k9 |-;refine⟨_,rfl,(show 1<=HY by decide),fun x3 hx3=>?_⟩;have k10:(upd H9 x3 (.lst ([rs].map V.str))) x3=some (.lst ([rs].map V.str)):=ab;have s10:=ad hx3 (.lst ([rs].map V.str));have A10:=A9.new hx3 (.lst ([rs].map V.str));have g10:=g9.trans (ad (A9.fre hx3) (.lst ([rs].map V.str)));change ∃a,_;generalize upd G9 x3 (.lst ([rs].map V.str))=G10 at A10 g10;refine⟨x3,rfl,⟨_,SqL.of k10⟩,?_⟩;refine mf [rs] (fun w => !decide (V.str w=V.str "")) cs (SqL.of k10) (by simp) (fun n hn H2 e Q' q'=>⟨_,rfl,rfl,_,rfl,q' H2 (Same.refl _)⟩) (fun n H2 Q' q'=>⟨_,rfl,q'⟩) (fun p3 H11 hp3 s11 k11=>?_);have k9':=s11 _ _ (s10 _ _ k9);obtain⟨A11,g11'⟩:=A10.same s11;generalize wo H11 pl=G11 at A11 g11';have g11:=g10.trans g11';have hqx:∀y∈os.take pm++[rs].filter (fun w => !decide (V.str w=V.str "")),y∈xs:=fun y hy=>by
    rcases Aq.mp hy with z|z
    . exact hpx y z
    . obtain⟨z1,z2⟩:=AV.mp z;rw[Ax.mp z1] at z2 |-;rcases hok6 with y'|y'
      . rw[y'] at z2;cases z2
      . exact hok2 _ y'
   have hfl:([rs].filter (fun w => !decide (V.str w=V.str ""))).length<=1:=Bd _ _;generalize hfr:[rs].filter (fun w => !decide (V.str w=V.str ""))=fr at k11 hqx hfl;refine⟨p2,p3,_,_,rfl,rfl,k9',k11,bx (by rw[Ab,Ab];omega),fun p4 hp4=>?_⟩;have k12:(upd H11 p4 (.lst ((os.take pm).map V.str++fr.map V.str))) p4=some (.lst ((os.take pm++fr).map V.str)):=by rw[ab,Al]
   have A12:=A11.new hp4 (.lst ((os.take pm).map V.str++fr.map V.str));have g12:=g11.trans (ad (A11.fre hp4) (.lst ((os.take pm).map V.str++fr.map V.str)));generalize upd H11 p4 (.lst ((os.take pm).map V.str++fr.map V.str))=H12,upd G11 p4 (.lst ((os.take pm).map V.str++fr.map V.str))=G12 at A12 g12 k12 |-;have hql:(os.take pm++fr).length<=20:=by rw[Ae];omega
   generalize hqs:os.take pm++fr=qs at k12 hqx hql;have e12:=e8.trans g12;refine⟨_,p4,qs,rfl,k12,hql,fun t2 fa2 pa2 F2 P2 H13 N2=>?_⟩;obtain⟨A13,g13'⟩:=A12.same N2.e;generalize wo H13 pl=G13 at A13 g13';have T2:ToldX K G13 (Mt lv ss) (qs++[("nil":Str)]) t2:=⟨fa2,pa2,F2,P2,A13.tup N2.tup,A13.rows (aq A12.at' N2.nf).symm N2.facts,A13.rows (aq A12.at' N2.np).symm N2.parts,nmt A12 e12 _ N2.nf,nmt A12 e12 _ N2.np,N2.okF,N2.okP,N2.lf,N2.lp⟩
   have g13:=g12.trans g13';have d13:=d8.trans g13;have e13:=e6.trans d13;have T1':=T1.same g13;clear N1 N2 T1 k12 k11 k9' k10 k9 k7 A12 A11 A10 A9 A8 A7 s10 s11 hp3 hp4 hx3 hp1 hp2;refine⟨_,rfl,(.inl ⟨rfl,_,SqL.of A13.at'⟩),_,rfl,_,rfl,_,rfl,_,rfl,ow,_,rfl,SqL.of (A13.rd (d13 _ _ hX2)),fun p5 hp5=>?_⟩;rw[jz,<- CA];have k14:(upd H13 p5 (.lst ((os.take pm).map V.str))) p5=some (.lst ((os.take pm).map V.str)):=ab;have A14:=A13.new hp5 (.lst ((os.take pm).map V.str));have g14:=ad (A13.fre hp5) (.lst ((os.take pm).map V.str));generalize upd H13 p5 (.lst ((os.take pm).map V.str))=H14,upd G13 p5 (.lst ((os.take pm).map V.str))=G14 at A14 g14 k14 |-;refine⟨p5,_,rfl,.inl ⟨SqL.of k14,fun pt hpt=>?_⟩⟩;have k15:(upd G14 pt (.tup ((os.take pm).map V.str))) pt=some (.tup ((os.take pm).map V.str)):=ab;have A15:=A14.new hpt (.tup ((os.take pm).map V.str));have g15:=g14.trans (ad (A14.fre hpt) (.tup ((os.take pm).map V.str)));generalize upd H14 pt (.tup ((os.take pm).map V.str))=H15,upd G14 pt (.tup ((os.take pm).map V.str))=G15 at A15 g15 k15 |-;have e15:=e13.trans g15;refine⟨_,rfl,_,rfl,_,rfl,_,rfl,_,rfl,bl,_,_,_,rfl,rfl,SqL.of (A15.rd (e15 _ _ hbl4)),hb2,(show 6<=HY by decide),fun nt hnt=>?_⟩;have k16:(upd G15 nt (.tup [.str nm,.ref pt,.str rs,.ref t1,.ref t2,.ref b])) nt=some (.tup [.str nm,.ref pt,.str rs,.ref t1,.ref t2,.ref b]):=ab;have A16:=A15.new hnt (.tup [.str nm,.ref pt,.str rs,.ref t1,.ref t2,.ref b]);have g16':=ad (A15.fre hnt) (.tup [.str nm,.ref pt,.str rs,.ref t1,.ref t2,.ref b]);generalize upd H15 nt (.tup [.str nm,.ref pt,.str rs,.ref t1,.ref t2,.ref b])=H16,upd G15 nt (.tup [.str nm,.ref pt,.str rs,.ref t1,.ref t2,.ref b])=G16 at A16 g16' k16 |-;have g16:=g15.trans g16';refine⟨pl,_,_,rfl,rfl,A16.at',cy (by rw[Ab];omega),?_⟩;have np:ProcAt K hs G16 lv ss i nt:=⟨⟨nm,os,pm,rs⟩,hh1,pt,t1,t2,b,k16,g16' _ _ k15,T1'.same g16,(by
    have:=T2.same g16;rw[<- hqs,<- hfr] at this;exact this),hb0 i b hb1⟩
   have A17:=A16.app (us':=(ts'++[nt]).map V.ref);rw[Al] at A17;refine⟨G16,ts'++[nt],_,_,_,_,_,_,_,by rw[Al];exact A17,e13.trans g16,fun j t ht=>?_,by rw[Ae,hlen];rfl,rfl⟩;by_cases c:j<ts'.length
   . rw[Bo c] at ht;exact (pr j t ht).same (d13.trans g16)
   . have hlt:j<(ts'++[nt]).length:=(Av.mp ht).1;rw[Ae,AN] at hlt;have ej:j=ts'.length:=by omega
     rw[ej,Dg] at ht;cases ht;rw[ej,hlen];exact np
 rintro σ H6 ⟨G,ts',z4,z9,z10,z11,z12,z13,z14,A6,e6,pr,hlen,rfl⟩;refine hN2 _ _ ⟨_,rfl,?_⟩;have gb:Same G H6:=fun c o h=>A6.rd h;rw[Bh,Ab] at hlen;subst hxe;refine q pl ts' lv ss hs (soF ss) H6 ⟨(E4.trans e6).trans gb,A6.at',(W4.same e6).same gb,fun i t ht=>(pr i t ht).same gb,by omega,hs0,hs4,hxn,hsok,hx8,hxd,hnmA,hfst,fun z=>?_⟩;obtain⟨us,hu⟩:=W4.mt _ z;rw[hpl] at hu;cases hu
end K40
namespace L2
structure At3(p f0 f1:HW)(H G:Hp)(us:List V)(n0 n1:Int):Prop where
 at':H p=some (.lst us)
 a0:H f0=some (.lst [.int n0])
 a1:H f1=some (.lst [.int n1])
 g:∀c,G c=if c=p\/c=f0\/c=f1 then none else H c
 d0:p≠f0
 d1:p≠f1
 d01:f0≠f1
variable{p f0 f1:HW}{H G H':Hp}{us:List V}{n0 n1:Int}
theorem At3.swap(h:At3 p f0 f1 H G us n0 n1):At3 p f1 f0 H G us n1 n0:=⟨h.at',h.a1,h.a0,fun c=>by
 rw[h.g c];by_cases z:c=p\/c=f0\/c=f1
 . rw[if_pos z,if_pos (z.imp_right Or.symm)]
 . rw[if_neg z,if_neg (fun y=>z (y.imp_right Or.symm))],h.d1,h.d0,h.d01.symm⟩
theorem At3.rd(h:At3 p f0 f1 H G us n0 n1){b:HW}{o:HO}(hb:G b=some o):H b=some o:=by
 rw[h.g] at hb;split at hb
 . cases hb
 . exact hb
theorem At3.ne(h:At3 p f0 f1 H G us n0 n1){b:HW}{o:HO}(hb:G b=some o):¬ (b=p\/b=f0\/b=f1):=fun z=>by
 rw[h.g,if_pos z] at hb;cases hb
theorem At3.fre(h:At3 p f0 f1 H G us n0 n1){b:HW}(hb:H b=none):G b=none:=by
 rw[h.g];split
 . rfl
 . exact hb
theorem At3.nofre(h:At3 p f0 f1 H G us n0 n1){b:HW}(hb:H b=none):¬ (b=p\/b=f0\/b=f1):=by
 rintro (z|z|z)
 . rw[z,h.at'] at hb;cases hb
 . rw[z,h.a0] at hb;cases hb
 . rw[z,h.a1] at hb;cases hb
theorem At3.new(h:At3 p f0 f1 H G us n0 n1){b:HW}(hb:H b=none)(o:HO):At3 p f0 f1 (upd H b o) (upd G b o) us n0 n1:=by
 have nb:=h.nofre hb;refine⟨by rw[ai (fun z=>nb (.inl z.symm))];exact h.at',by rw[ai (fun z=>nb (.inr (.inl z.symm)))];exact h.a0,by rw[ai (fun z=>nb (.inr (.inr z.symm)))];exact h.a1,fun c=>?_,h.d0,h.d1,h.d01⟩;by_cases z:c=b
 . rw[z,ab,ab,if_neg nb]
 . rw[ai z,ai z];exact h.g c
theorem At3.app{us':List V}(h:At3 p f0 f1 H G us n0 n1):At3 p f0 f1 (upd H p (.lst us')) G us' n0 n1:=by
 refine⟨ab,by rw[ai h.d0.symm];exact h.a0,by rw[ai h.d1.symm];exact h.a1,fun c=>?_,h.d0,h.d1,h.d01⟩;rw[h.g c];by_cases z:c=p\/c=f0\/c=f1
 . rw[if_pos z,if_pos z]
 . rw[if_neg z,if_neg z,ai (fun y=>z (.inl y))]
theorem At3.same(h:At3 p f0 f1 H G us n0 n1)(e:Same H H'):∃G',At3 p f0 f1 H' G' us n0 n1/\Same G G' :=
 ⟨fun c=>if c=p\/c=f0\/c=f1 then none else H' c,⟨e _ _ h.at',e _ _ h.a0,e _ _ h.a1,fun c=>rfl,h.d0,h.d1,h.d01⟩,fun b o hb=>by
  show (if b=p\/b=f0\/b=f1 then none else H' b)=_;rw[if_neg (h.ne hb)];exact e _ _ (h.rd hb)⟩
theorem At3.draw(h:At3 p f0 f1 H G us n0 n1){n':Int}(f:FS (wo H f0) f0 H' n'):∃G',At3 p f0 f1 H' G' us n' n1/\Same G G'/\(∀t vs,(wo H' f0) t=some (.tup vs)->G' t=some (.tup vs))/\∀(K:Ac) t rs,(wo H f0) t=none->RowsAt K (wo H' f0) t rs->RowsAt K G' t rs:=by
 have wp:(wo H f0) p=some (.lst us):=by rw[gg h.d0];exact h.at'
 have w1:(wo H f0) f1=some (.lst [.int n1]):=by rw[gg h.d01.symm];exact h.a1
 have wp':=f.g _ _ wp;have w1':=f.g _ _ w1;have tp:∀t o,(wo H' f0) t=some o->(∀zs,o≠.lst zs)->(fun c=>if c=p\/c=f0\/c=f1 then none else H' c) t=some o:=fun t o ht n=>by
  show (if t=p\/t=f0\/t=f1 then none else H' t)=_;rw[if_neg]
  . exact gk _ _ ht
  . rintro (z|z|z)
    . rw[z,wp'] at ht;cases ht;exact n _ rfl
    . rw[z,gv] at ht;cases ht
    . rw[z,w1'] at ht;cases ht;exact n _ rfl
 refine⟨fun c=>if c=p\/c=f0\/c=f1 then none else H' c,⟨gk _ _ wp',f.fed,gk _ _ w1',fun c=>rfl,h.d0,h.d1,h.d01⟩,fun b o hb=>?_,fun t vs ht=>tp t _ ht (fun zs z=>by cases z),fun K t rs hn ht=>?_⟩
 . show (if b=p\/b=f0\/b=f1 then none else H' b)=_;have nb:=h.ne hb;rw[if_neg nb];exact gk _ _ (f.g b o (by rw[gg (fun y=>nb (.inr (.inl y)))];exact h.rd hb))
 . obtain⟨as,h1,h2⟩:=ht;refine⟨as,?_,Paired.mapP h2 fun x y z=>?_⟩
   . show (if t=p\/t=f0\/t=f1 then none else H' t)=_;rw[if_neg]
     . exact gk _ _ h1
     . rintro (z|z|z)
       . rw[z,wp] at hn;cases hn
       . rw[z,gv] at h1;cases h1
       . rw[z,w1] at hn;cases hn
   . rcases z with (z|⟨o,z⟩)|z
     . exact .inl (.inl (tp _ _ z (fun zs y=>by cases y)))
     . exact .inl (.inr ⟨o,tp _ _ z (fun zs y=>by cases y)⟩)
     . exact .inr z
end L2
namespace K40
open L2 Mir
variable{P:IC}{w:IF}{K:Ac}{mg:Str->Option HX}{base:IJ}{f g gA gF gP gN gS gW gI gV gM gR gT gC gB gD gH gK gG gY:HW}{fd gd dA dF dP dN dS dW dI dV dM dR dT dC dB dD dH dK dG dY:II}
theorem a8g(xs:List V)(a b:Nat):(cutV xs (some (a:Int)) (some (b:Int))).length<=b-a:=by
 unfold cutV;rw[HT.sIx_nat,HT.sIx_nat,AX];omega
theorem Set0.same{K:Ac}{H0 H2 H3:Hp}{hl bl sl:HW}{hs:List Hd}{bs ss:List HW}(Z:Set0 K H0 H2 hl bl sl hs bs ss)(e:Same H2 H3):Set0 K H0 H3 hl bl sl hs bs ss :=
 ⟨Z.e.trans e,Z.wk.same e,Z.bn,Z.sn,Z.heads.up Z.wk.mt (.same e),e _ _ Z.atB,Z.nbl,e _ _ Z.atS,Z.nsl,Z.lb,Z.ls,Z.old⟩
inductive PK(K:Ac)(hs:List Hd)(H3:Hp)(a hl bl sl:HW)(bs ss:List HW)(i:Nat)(σ:St)(H4:Hp):Prop
 | mk (lv:Lv)(z4 z5 z6:Option V)(u:Up ss (lv0 bs) lv H3 H4)(W:Wk K hs (soF ss) H4 lv ss i)(hσ:σ=[rQ a,rQ hl,rQ bl,rQ sl,z4,z5,z6,nQ,nQ,nQ,nQ,nQ,nQ,nQ,nQ,nQ])
inductive PL(K:Ac)(hs:List Hd)(G5:Hp)(a hl bl sl pl fl f0 f1:HW)(lv:Lv)(ss:List HW)(z4 z5 z6:Option V)(i:Nat)(σ:St)(H6:Hp):Prop
 | mk (G:Hp)(ts:List HW)(n0 n1:Int)(z9 z10 z11 z12 z13 z14 z15:Option V)(A:At3 pl f0 f1 H6 G (ts.map V.ref) n0 n1)(e:Same G5 G)(pr:∀(j:Nat) (t:HW),ts[j]?=some t->ProcAt K hs G lv ss j t)(hi:ts.length=i)(hσ:σ=[rQ a,rQ hl,rQ bl,rQ sl,z4,z5,z6,rQ pl,rQ fl,z9,z10,z11,z12,z13,z14,z15])
theorem scAnyProg:FnScope ["_law_script","_law_heads_here","_law_bodies","_law_stacks","_law_cell","_law_feed","_law_h","_law_program_here","_law_feeds","_law_k","_law_name","_law_own","_law_params","_law_result","_law_before","_law_behind"] ["_law_script"] (b7 ub):=⟨rfl,rfl,rfl,by decide,rfl,by decide,by decide⟩
theorem a2q(C:Con K mg w)(F:Fun K "_law_any_program" "_law_any_program" ub f fd)(GC:FnOk P w K mg base CX0 1 gC dC ["_law_script","_law_k"] (qo K))(cC:Cal K mg "_law_cell_at" gC dC ["_law_script","_law_k"])(GH:FnOk P w K mg base CX0 3 gH dH ["_law_script"] (spHeads K))(cH:Cal K mg "_law_heads" gH dH ["_law_script"])(GP:FnOk P w K mg base CX0 4 gP dP ["_law_open_lists","_law_feed","_law_head","_law_heads_here"] (spAnyPut K))(cP:Cal K mg "_law_any_put" gP dP ["_law_open_lists","_law_feed","_law_head","_law_heads_here"])(GT:FnOk P w K mg base CX0 3 gT dT ["_law_feed","_law_own","_law_most"] (spAnyTold K))(cT:Cal K mg "_law_any_told" gT dT ["_law_feed","_law_own","_law_most"])(GK:FnOk P w K mg base CX0 1 gK dK ["_law_feed","_law_many"] lh)(cK:Cal K mg "_law_take" gK dK ["_law_feed","_law_many"]):FnOk P w K mg base CX0 5 f fd ["_law_script"] (spProg K):=by
 refine F.okQ scAnyProg (fun vs H Q E h=>?_) (fun cdv A outer s0 H vs Q E hr h=>?_)
 . obtain⟨a,ns,rfl,_⟩:=h;rfl
 obtain⟨a,ns,rfl,hS,q⟩:=h;have nd:=scAnyProg.nd;have hr1:=hr.mono (j:=1) (by omega);have hr3:=hr.mono (j:=3) (by omega);refine⟨_,ae (av (i:=1) nd rfl (Or.inl rfl) (ak GH hr3 rfl cH.name cH.keep cH.bind .nil au (af (qv 0) aa)))
  (ae (jc ["_law_head"] [] (i:=2) nd rfl (Or.inl rfl) (bz (qv 1)) (fun _ _ _ _=>db) (fun _ _ _ _=>(bb aa)))
  (ae (jc ["_law_body"] [] (i:=3) nd rfl (Or.inl rfl) (bz (qv 2)) (fun _ _ _ _=>db) (fun _ _ _ _=>(bb (di (af (qv 0) (dh jl aa)) aa))))
  (ae (dq AS rfl (bz (dr kc (qv 0) (ek ac) (ek ac))) (bj (i:=4) nd rfl (Or.inl rfl)) (ae (av (i:=5) nd rfl (Or.inl rfl) (bb (af (qv 4) aa)))
  (ae (av (i:=6) nd rfl (Or.inl rfl) (ak GK hr1 rfl cK.name cK.keep cK.bind .nil au (af (qv 5) (be (aw ap rfl C.len Ap (af (qv 1) aa)) aa))))
  (aj (bu (ak GP hr rfl cP.name cP.keep cP.bind .nil au (ar (ag bc (qv 3) (qv 6) (fun _ _=>rfl)) (af (qv 5) (ar (ag bc (qv 1) (qv 6) (fun _ _=>rfl)) (af (qv 1) aa))))))))))
  (ae (av (i:=7) nd rfl (Or.inl rfl) (bb aa))
  (ae (av (i:=8) nd rfl (Or.inl rfl) (bb (a3a (be (ak GC hr1 rfl cC.name cC.keep cC.bind .nil au (af (qv 0) (ci aa))) aa) (a3a (be (ak GC hr1 rfl cC.name cC.keep cC.bind .nil au (af (qv 0) (ci aa))) aa) aa))))
  (ae (dq AS rfl (cz rfl C.range (be (aw ap rfl C.len Ap (af (qv 1) aa)) aa)) (bj (i:=9) nd rfl (Or.inl rfl)) (ae (om (ag bc (qv 1) (qv 9) (fun _ _=>rfl)) (a2b (bj (i:=10) nd rfl (Or.inl rfl)) (bj (i:=11) nd rfl (Or.inl rfl)) (bj (i:=12) nd rfl (Or.inl rfl)) (bj (i:=13) nd rfl (Or.inl rfl))))
  (ae (av (i:=14) nd rfl (Or.inl rfl) (ak GT hr3 rfl cT.name cT.keep cT.bind .nil au (ar (ag bc (qv 8) ac (fun _ _=>rfl)) (ar (dr kc (qv 11) ft (ek (qv 12))) (ci aa)))))
  (ae (av (i:=15) nd rfl (Or.inl rfl) (ak GT hr3 rfl cT.name cT.keep cT.bind .nil au (ar (ag bc (qv 8) ac (fun _ _=>rfl)) (da (am ce (dr kc (qv 11) ft (ek (qv 12))) (ik (bz (bb (af (qv 13) aa))) (fun _ _ _ _=>(ke (ax jq (qv 0) bv (ay _)))) (fun _ _ _ _=>(qv 0)))) (ci aa)))))
  (aj (bu (cq (K:=K) rfl As Az AA bq (qv 7) (di (af (qv 10) (be (cg ju rfl C.tuple Bx (ar (dr kc (qv 11) ft (ek (qv 12))) aa)) (af (qv 13) (af (qv 14) (af (qv 15) (ar (ag bc (qv 2) (qv 9) (fun _ _=>rfl)) aa)))))) aa))))))))
  (aj (az (qv 7))))))))),?_⟩
 refine⟨_,rfl,a,ns,rfl,hS,fun hl hs xs H1 e1 hhl hH hs0 hs4 hxn hsok hxe hx8 hxd hnmA hfst=>?_⟩;obtain⟨ts,hts,hpp⟩:=hH;have htl:=Ao hpp;refine⟨_,rfl,hl,rfl,⟨_,SqL.of hts⟩,?_⟩;refine oa (ts.map V.ref) ts (fun D H y r=>∃b,y=V.ref b/\RB H1 D H b r) id cs (SqL.of hts) (by rw[Ab];omega) (by rw[Ab]) (fun D G G' y r z e=>?_) (fun D i x r hx hr' H2 e2 hD Q' q'=>?_) (fun bl H2 ys hbl e2 hbl2 hp hbn=>?_)
 . obtain⟨b,rfl,h1,h2,h3⟩:=z;exact⟨b,rfl,e _ _ h1 h2,h2,h3⟩
 . exact⟨AG _,fun b hb=>q' (.ref b) _ (ad hb _) ⟨b,rfl,ab,(fun z=>hD (by rw[<- z];exact hb)),e2.free hb⟩ ⟨b,rfl,hb,by rw[ab];simp⟩⟩
 rw[Ck] at hp;obtain⟨bs,rfl,pb⟩:=i4 hp;have hbl':=Ao pb;refine⟨_,rfl,bl,rfl,⟨_,SqL.of hbl2⟩,?_⟩;refine oa (bs.map V.ref) bs (fun D H y r=>∃b,y=V.ref b/\RS H2 D H b r) id cs (SqL.of hbl2) (by rw[Ab];omega) (by rw[Ab]) (fun D G G' y r z e=>?_) (fun D i x r hx hr' H3 e3 hD Q' q'=>?_) (fun sl H3 ys hsl e3 hsl3 hp hsn=>?_)
 . obtain⟨b,rfl,e',h1,h2,h3,h4,h5⟩:=z;exact⟨b,rfl,e',e _ _ h1 h3,e _ _ h2 h4,h3,h4,h5⟩
 . have hx':x=.ref r:=by rw[Ah,hr'] at hx;exact (Ay hx).symm
   subst hx';refine⟨_,rfl,(show 2<=HY by decide),fun e' he'=>?_⟩;have s4:=ad he' (.tup [.ref r,.non]);have k4:(upd H3 e' (.tup [.ref r,.non])) e'=some (.tup [.ref r,.non]):=ab;have nD:e'≠D:=fun z=>hD (by rw[<- z];exact he');have hD4:(upd H3 e' (.tup [.ref r,.non])) D≠none:=by rw[ai nD.symm];exact hD
   generalize upd H3 e' (.tup [.ref r,.non])=H4 at s4 k4 hD4 |-;exact⟨(show 1<=HY by decide),fun s' hs'=>q' (.ref s') _ (s4.trans (ad hs' _)) ⟨s',rfl,e',ab,ad hs' _ _ _ k4,(fun z=>hD4 (by rw[<- z];exact hs')),nD,e3.free (s4.free hs')⟩ ⟨s',rfl,s4.free hs',by rw[ab];simp⟩⟩
 rw[Ck] at hp;obtain⟨ss,rfl,pss⟩:=i4 hp;have Z:=set0 (K:=K) e1 e2 e3 ⟨ts,hts,hpp⟩ hs0 htl hbl2 pb hsl3 pss (mh hbn) (mh hsn);clear hbn hsn hp hpp pb pss hbl2 hsl3 hbl hsl hts htl hbl' e2 e3 hhl e1;dsimp only[bp];have hSn:¬ Mt (lv0 bs) ss a\/∀H',SqL K H' a (ns.map V.int):=by
  rcases hS with (h|⟨o,h⟩)|h
  . exact .inl (Z.old _ _ h)
  . exact .inl (Z.old _ _ h)
  . exact .inr fun H'=>.inr h
 have hS3:SqL K H3 a (ns.map V.int):=Z.e.seq hS;refine b9 (a:=tFor _ _ _) fun D1 hN1 hR1 hC1=>?_;refine⟨_,rfl,_,rfl,_,rfl,a,_,rfl,hS3,fun p1 hp1=>?_⟩;obtain⟨ms,hms⟩:=a69 ns (some 4) (some 28);have hml:ms.length<=24:=by
  have h:(cutV (ns.map V.int) (some 4) (some 28)).length<=24:=a8g (ns.map V.int) 4 28;rw[hms,Ab] at h;exact h
 rw[hms];have k1:(upd H3 p1 (.lst (ms.map V.int))) p1=some (.lst (ms.map V.int)):=ab;have n1:¬ Mt (lv0 bs) ss p1:=fun z=>by
  obtain⟨us,hu⟩:=Z.wk.mt _ z;rw[hp1] at hu;cases hu
 have Z1:=Z.same (ad hp1 (.lst (ms.map V.int)));clear Z hms hS3;generalize upd H3 p1 (.lst (ms.map V.int))=H4 at k1 Z1 |-;have mL:=Z1.wk.mt;have hS4:SqL K H4 a (ns.map V.int):=Z1.e.seq hS;have scr:∀{lv:Lv} {H5:Hp},Up ss (lv0 bs) lv H4 H5->SqL K H5 a (ns.map V.int):=fun u=>hSn.elim (fun n=>u.sqL mL n hS4) (fun h=>h _);refine⟨p1,rfl,⟨_,SqL.of k1⟩,?_⟩;refine et (xs:=ms.map V.int) (PK K hs H4 a hl bl sl bs ss) ⟨_,none,none,none,.refl,Z1.wk,rfl⟩ (fun i σ H' _ h=>by obtain⟨lv,_,_,_,u,_,_⟩:=h;exact SqL.of (u.keep _ _ k1 n1)) ?_ ?_
 . rintro i x σ H5 hx ⟨lv,z4,z5,z6,u,W,rfl⟩;rw[Ah] at hx;obtain⟨cell,hc,rfl⟩:=AK.mp hx;have hi:i<24:=AH (Av.mp hc).1 hml;obtain⟨nhl,tsH,hhl5,hpp5⟩:=Z1.heads.up mL u;have hsl5:=u.keep _ _ Z1.atS Z1.nsl;have htl:=Ao hpp5;refine⟨_,rfl,(show 1<=HY by decide),fun fe hfe=>?_⟩;have A6:At fe (upd H5 fe (.lst [.int cell])) H5 cell:=⟨ab,by
    funext c
    by_cases z:c=fe
    . rw[z,gv,hfe]
    . rw[gg z,ai z]⟩
   generalize upd H5 fe (.lst [.int cell])=H6 at A6 |-;have l0:(0:Int)<(((tsH.map V.ref).length:Nat):Int):=by rw[Ab];omega
   have l1:(((tsH.map V.ref).length:Nat):Int)<1073741824:=by rw[Ab];omega
   refine⟨_,rfl,_,rfl,hl,_,rfl,.inl (SqL.of (A6.rd hhl5)),fe,cell,_,rfl,A6.fed,l0,l1,?_⟩;have A7:=A6.take (k:=cell / (((tsH.map V.ref).length:Nat):Int));obtain⟨j,hj,hjl⟩:∃j:Nat,cell % (((tsH.map V.ref).length:Nat):Int)=(j:Int)/\j<hs.length:=by
    have h1:=AM cell (EK l0);have h2:=AW cell l0;rw[Ab] at h1 h2 |-;exact⟨(cell % (tsH.length:Int)).toNat,by omega,by omega⟩
   rw[hj];generalize upd H6 fe (.lst [.int (cell / (((tsH.map V.ref).length:Nat):Int))])=H7 at A7 |-;obtain⟨s,hs1,hs2,hs3⟩:=pick (l:=ss) (k:=j) (by rw[Z1.ls];exact hjl);obtain⟨t,ht1,ht2,ht3⟩:=pick (l:=tsH) (k:=j) (by rw[htl];exact hjl);obtain⟨h,hh1,hX⟩:=Paired.nth hpp5 ht1;refine⟨_,rfl,_,rfl,sl,_,_,_,rfl,rfl,SqL.of (A7.rd hsl5),hs2,_,rfl,_,rfl,_,rfl,hl,_,_,_,rfl,rfl,SqL.of (A7.rd hhl5),ht2,_,rfl,s,fe,t,hl,H5,_,lv,ss,i,h,hs,soF ss,xs,(by unfold soF;rw[uy Z1.sn hs1];exact hh1),rfl,A7,W,hs3,(by omega),hX.less fun _ y=>.inr y,hsok h (Ak hh1),⟨nhl,tsH,hhl5,hpp5⟩,hs0,hs4,hsok,hxn,fun lv' k' G' H8 A8 u' W'=>?_⟩;have gb:Same G' H8:=fun c o z=>A8.rd z;exact⟨lv',_,_,_,(u.trans u').trans (.same gb),W'.same gb,rfl⟩
 rintro σ H5 ⟨lv,z4,z5,z6,u,W,rfl⟩;refine hN1 _ _ ?_;clear hN1 hR1 hC1;have W4:Wk K hs (soF ss) H5 lv ss 24:=W.le (by rw[Ab];omega);have hS5:=scr u;have hH5:=Z1.heads.up mL u;have hbl5:=u.keep _ _ Z1.atB Z1.nbl;have hb0:∀(i:Nat) (b:HW),bs[i]?=some b->lv b=some (8*i):=fun i b hb=>u.inc _ _ (a07 Z1.bn hb);have E5:Same H H5:=fun b o h=>u.keep _ _ (Z1.e _ _ h) (Z1.old _ _ h);have lbs:=Z1.lb;clear scr hSn hS4 mL k1 n1;clear u W Z1;refine⟨AG _,fun pl hpl=>?_⟩;have s6:=ad hpl (.lst []);have k6:(upd H5 pl (.lst [])) pl=some (.lst []):=ab;have j6:∀c,c≠pl->(upd H5 pl (.lst [])) c=H5 c:=fun c z=>ai z;generalize upd H5 pl (.lst [])=H6 at s6 k6 j6 |-;refine⟨_,rfl,a,ns,2,rfl,s6.seq hS5,(show 1<=HY by decide),fun f0 hf0=>?_⟩;have s7:=ad hf0 (.lst [.int (bw ns 2)]);have k7:(upd H6 f0 (.lst [.int (bw ns 2)])) f0=some (.lst [.int (bw ns 2)]):=ab;have j7:∀c,c≠f0->(upd H6 f0 (.lst [.int (bw ns 2)])) c=H6 c:=fun c z=>ai z;have d0:pl≠f0:=aq k6 hf0;generalize upd H6 f0 (.lst [.int (bw ns 2)])=H7 at s7 k7 j7 |-;refine⟨_,rfl,a,ns,3,rfl,s7.seq (s6.seq hS5),(show 1<=HY by decide),fun f1 hf1=>?_⟩;have s8:=ad hf1 (.lst [.int (bw ns 3)]);have k8:(upd H7 f1 (.lst [.int (bw ns 3)])) f1=some (.lst [.int (bw ns 3)]):=ab;have j8:∀c,c≠f1->(upd H7 f1 (.lst [.int (bw ns 3)])) c=H7 c:=fun c z=>ai z;have d1:pl≠f1:=aq (s7 _ _ k6) hf1;have d01:f0≠f1:=aq k7 hf1;generalize upd H7 f1 (.lst [.int (bw ns 3)])=H8 at s8 k8 j8 |-;have A8:At3 pl f0 f1 H8 H5 [] (bw ns 2) (bw ns 3):=⟨s8 _ _ (s7 _ _ k6),s8 _ _ k7,k8,fun c=>by
  split
  . rename_i z;rcases z with rfl|rfl|rfl
    . exact hpl
    . exact s6.free hf0
    . exact s6.free (s7.free hf1)
  . rename_i z;rw[j8 c (fun y=>z (.inr (.inr y))),j7 c (fun y=>z (.inr (.inl y))),j6 c (fun y=>z (.inl y))],d0,d1,d01⟩
 generalize bw ns 2=c2 at A8;generalize bw ns 3=c3 at A8;clear s6 s7 s8 k6 k7 k8 j6 j7 j8 hf0 hf1;refine⟨(show 2<=HY by decide),fun fl hfl=>?_⟩;have A9:=A8.new hfl (.lst [.ref f0,.ref f1]);have g9:=ad (A8.fre hfl) (.lst [.ref f0,.ref f1]);have k9:(upd H5 fl (.lst [.ref f0,.ref f1])) fl=some (.lst [.ref f0,.ref f1]):=ab;generalize upd H8 fl (.lst [.ref f0,.ref f1])=H9,upd H5 fl (.lst [.ref f0,.ref f1])=G9 at A9 g9 k9 |-;clear A8;dsimp only[bp];refine b9 (a:=tFor _ _ _) fun D2 hN2 hR2 hC2=>?_;obtain⟨nhl,tsH,hhl5,hpp5⟩:=hH5;have htl:=Ao hpp5;refine⟨_,rfl,hl,_,rfl,.inl (SqL.of (A9.rd (g9 _ _ hhl5))),_,rfl,by rw[Ab];omega,by rw[Ab];omega,?_⟩;show ∃W:Nat->Nat->St->Hp->Prop,_;refine gi (lo:=0) (n:=(((tsH.map V.ref).length:Nat):Int).toNat) (PL K hs G9 a hl bl sl pl fl f0 f1 lv ss z4 z5 z6) ⟨G9,[],c2,c3,_,_,_,_,_,_,_,A9,Same.refl _,(fun j t ht=>by cases ht),rfl,rfl⟩ ?_ ?_
 . rintro i σ H6 hi ⟨G,ts',n0,n1,z9,z10,z11,z12,z13,z14,z15,A6,e6',pr,hlen,rfl⟩;rw[EO];have e6:=g9.trans e6';have kf:=e6' _ _ k9;have hi':i<hs.length:=by rw[Bh,Ab] at hi;omega
   obtain⟨t,ht1,ht2,ht3⟩:=pick (l:=tsH) (k:=i) (by rw[htl];exact hi');obtain⟨b,hb1,hb2,hb3⟩:=pick (l:=bs) (k:=i) (by rw[lbs];exact hi');obtain⟨⟨nm,os,pm,rs⟩,hh1,ow,hX1',hX2',hX3⟩:=Paired.nth hpp5 ht1;have hok:=hsok _ (Ak hh1);have hok2:=hok.own;have hok4:=hok.few;have hok6:=hok.res;dsimp only at hX1' hX2' hok2 hok4 hok6;have hX1:=e6 _ _ hX1';have hX2:=e6 _ _ hX2';refine⟨_,rfl,_,rfl,hl,_,_,_,rfl,rfl,SqL.of (A6.rd (e6 _ _ hhl5)),ht2,t,_,rfl,SqT.of (A6.rd hX1),rfl,_,_,rfl,_,_,rfl,_,_,rfl,_,_,rfl,rfl,?_⟩;refine⟨_,rfl,fl,_,_,_,rfl,rfl,SqL.of (A6.rd kf),rfl,_,rfl,_,rfl,_,rfl,ow,_,rfl,SqL.of (A6.rd hX2),fun p1 hp1=>?_⟩;rw[jz,<- CA];have hpl6:(os.take pm).length<=6:=by rw[AX];omega
   have hpx:∀y∈os.take pm,y∈xs:=fun y hy=>hok2 y (BA hy);have k7:(upd H6 p1 (.lst ((os.take pm).map V.str))) p1=some (.lst ((os.take pm).map V.str)):=ab;have np1:p1≠f0:=fun z=>(A6.nofre hp1) (.inr (.inl z))
   have A7:=A6.new hp1 (.lst ((os.take pm).map V.str));have d7:=ad (A6.fre hp1) (.lst ((os.take pm).map V.str));generalize upd H6 p1 (.lst ((os.take pm).map V.str))=H7,upd G p1 (.lst ((os.take pm).map V.str))=G7 at A7 d7 k7 |-;have e7:=e6.trans d7;refine⟨f0,p1,_,os.take pm,2,rfl,A7.a0,k7,np1,Aw hpl6 (by decide),by decide,fun t1 fa pa F1 P1 n0' H8 f8 N1=>?_⟩;obtain⟨G8,A8,g8,tp8,rw8⟩:=A7.draw f8;have e8:=e7.trans g8;have nmt:∀{G' H':Hp} {us:List V} {g0 g1:HW} {m0 m1:Int},At3 pl g0 g1 H' G' us m0 m1->Same H5 G'->∀x,(wo H' g0) x=none->¬ Mt lv ss x:=fun A' e' x hx z=>by
    obtain⟨us,hu⟩:=W4.mt _ z;have hg:=e' _ _ hu;rw[gg (fun y=>(A'.ne hg) (.inr (.inl y))),A'.rd hg] at hx;cases hx
   have T1:ToldX K G8 (Mt lv ss) (os.take pm++[("nil":Str)]) t1:=⟨fa,pa,F1,P1,tp8 _ _ N1.tup,rw8 K _ _ N1.nf N1.facts,rw8 K _ _ N1.np N1.parts,nmt A7 e7 _ N1.nf,nmt A7 e7 _ N1.np,N1.okF,N1.okP,N1.lf,N1.lp⟩
   have d8:=d7.trans g8;refine⟨_,rfl,fl,_,_,_,rfl,rfl,SqL.of (A8.rd (d8 _ _ kf)),rfl,_,rfl,_,rfl,_,rfl,ow,_,rfl,SqL.of (A8.rd (d8 _ _ hX2)),fun p2 hp2=>?_⟩;rw[jz,<- CA];have k9:(upd H8 p2 (.lst ((os.take pm).map V.str))) p2=some (.lst ((os.take pm).map V.str)):=ab;have A9:=A8.new hp2 (.lst ((os.take pm).map V.str));have g9:=ad (A8.fre hp2) (.lst ((os.take pm).map V.str));generalize upd H8 p2 (.lst ((os.take pm).map V.str))=H9,upd G8 p2 (.lst ((os.take pm).map V.str))=G9 at A9 g9 k9 |-;refine⟨_,rfl,(show 1<=HY by decide),fun x3 hx3=>?_⟩;have k10:(upd H9 x3 (.lst ([rs].map V.str))) x3=some (.lst ([rs].map V.str)):=ab;have s10:=ad hx3 (.lst ([rs].map V.str));have A10:=A9.new hx3 (.lst ([rs].map V.str));have g10:=g9.trans (ad (A9.fre hx3) (.lst ([rs].map V.str)));change ∃a,_;generalize upd G9 x3 (.lst ([rs].map V.str))=G10 at A10 g10;refine⟨x3,rfl,⟨_,SqL.of k10⟩,?_⟩;refine mf [rs] (fun w => !decide (V.str w=V.str "")) cs (SqL.of k10) (by simp) (fun n hn H2 e Q' q'=>⟨_,rfl,rfl,_,rfl,q' H2 (Same.refl _)⟩) (fun n H2 Q' q'=>⟨_,rfl,q'⟩) (fun p3 H11 hp3 s11 k11=>?_);have k9':=s11 _ _ (s10 _ _ k9);obtain⟨G11,A11,g11'⟩:=A10.same s11;have g11:=g10.trans g11';have hqx:∀y∈os.take pm++[rs].filter (fun w => !decide (V.str w=V.str "")),y∈xs:=fun y hy=>by
    rcases Aq.mp hy with z|z
    . exact hpx y z
    . obtain⟨z1,z2⟩:=AV.mp z;rw[Ax.mp z1] at z2 |-;rcases hok6 with y'|y'
      . rw[y'] at z2;cases z2
      . exact hok2 _ y'
   have hfl':([rs].filter (fun w => !decide (V.str w=V.str ""))).length<=1:=Bd _ _;generalize hfr:[rs].filter (fun w => !decide (V.str w=V.str ""))=fr at k11 hqx hfl';refine⟨p2,p3,_,_,rfl,rfl,k9',k11,bx (by rw[Ab,Ab];omega),fun p4 hp4=>?_⟩;have k12:(upd H11 p4 (.lst ((os.take pm).map V.str++fr.map V.str))) p4=some (.lst ((os.take pm++fr).map V.str)):=by rw[ab,Al]
   have np4:p4≠f1:=fun z=>(A11.nofre hp4) (.inr (.inr z))
   have A12:=A11.new hp4 (.lst ((os.take pm).map V.str++fr.map V.str));have g12:=g11.trans (ad (A11.fre hp4) (.lst ((os.take pm).map V.str++fr.map V.str)));generalize upd H11 p4 (.lst ((os.take pm).map V.str++fr.map V.str))=H12,upd G11 p4 (.lst ((os.take pm).map V.str++fr.map V.str))=G12 at A12 g12 k12 |-;have hql:(os.take pm++fr).length<=20:=by rw[Ae];omega
   generalize hqs:os.take pm++fr=qs at k12 hqx hql;have e12:=e8.trans g12;refine⟨f1,p4,_,qs,2,rfl,A12.a1,k12,np4,hql,by decide,fun t2 fa2 pa2 F2 P2 n1' H13 f13 N2=>?_⟩;obtain⟨G13,A13',g13',tp13,rw13⟩:=A12.swap.draw f13;have A13:=A13'.swap;have T2:ToldX K G13 (Mt lv ss) (qs++[("nil":Str)]) t2:=⟨fa2,pa2,F2,P2,tp13 _ _ N2.tup,rw13 K _ _ N2.nf N2.facts,rw13 K _ _ N2.np N2.parts,nmt A12.swap e12 _ N2.nf,nmt A12.swap e12 _ N2.np,N2.okF,N2.okP,N2.lf,N2.lp⟩
   have g13:=g12.trans g13';have d13:=d8.trans g13;have e13:=e6.trans d13;have T1':=T1.same g13;clear N1 N2 T1 k12 k11 k9' k10 k9 k7 A12 A11 A10 A9 A8 A7 s10 s11 hp3 hp4 hx3 hp1 hp2;refine⟨_,rfl,(.inl ⟨rfl,_,SqL.of A13.at'⟩),_,rfl,_,rfl,_,rfl,_,rfl,ow,_,rfl,SqL.of (A13.rd (d13 _ _ hX2)),fun p5 hp5=>?_⟩;rw[jz,<- CA];have k14:(upd H13 p5 (.lst ((os.take pm).map V.str))) p5=some (.lst ((os.take pm).map V.str)):=ab;have A14:=A13.new hp5 (.lst ((os.take pm).map V.str));have g14:=ad (A13.fre hp5) (.lst ((os.take pm).map V.str));generalize upd H13 p5 (.lst ((os.take pm).map V.str))=H14,upd G13 p5 (.lst ((os.take pm).map V.str))=G14 at A14 g14 k14 |-;refine⟨p5,_,rfl,.inl ⟨SqL.of k14,fun pt hpt=>?_⟩⟩;have k15:(upd G14 pt (.tup ((os.take pm).map V.str))) pt=some (.tup ((os.take pm).map V.str)):=ab;have A15:=A14.new hpt (.tup ((os.take pm).map V.str));have g15:=g14.trans (ad (A14.fre hpt) (.tup ((os.take pm).map V.str)));generalize upd H14 pt (.tup ((os.take pm).map V.str))=H15,upd G14 pt (.tup ((os.take pm).map V.str))=G15 at A15 g15 k15 |-;have e15:=e13.trans g15;refine⟨_,rfl,_,rfl,_,rfl,_,rfl,_,rfl,bl,_,_,_,rfl,rfl,SqL.of (A15.rd (e15 _ _ hbl5)),hb2,(show 6<=HY by decide),fun nt hnt=>?_⟩;have k16:(upd G15 nt (.tup [.str nm,.ref pt,.str rs,.ref t1,.ref t2,.ref b])) nt=some (.tup [.str nm,.ref pt,.str rs,.ref t1,.ref t2,.ref b]):=ab;have A16:=A15.new hnt (.tup [.str nm,.ref pt,.str rs,.ref t1,.ref t2,.ref b]);have g16':=ad (A15.fre hnt) (.tup [.str nm,.ref pt,.str rs,.ref t1,.ref t2,.ref b]);generalize upd H15 nt (.tup [.str nm,.ref pt,.str rs,.ref t1,.ref t2,.ref b])=H16,upd G15 nt (.tup [.str nm,.ref pt,.str rs,.ref t1,.ref t2,.ref b])=G16 at A16 g16' k16 |-;have g16:=g15.trans g16';refine⟨pl,_,_,rfl,rfl,A16.at',cy (by rw[Ab];omega),?_⟩;have np:ProcAt K hs G16 lv ss i nt:=⟨⟨nm,os,pm,rs⟩,hh1,pt,t1,t2,b,k16,g16' _ _ k15,T1'.same g16,(by
    have:=T2.same g16;rw[<- hqs,<- hfr] at this;exact this),hb0 i b hb1⟩
   have A17:=A16.app (us':=(ts'++[nt]).map V.ref);rw[Al] at A17;refine⟨G16,ts'++[nt],_,_,_,_,_,_,_,_,_,by rw[Al];exact A17,(e6'.trans d13).trans g16,fun j t ht=>?_,by rw[Ae,hlen];rfl,rfl⟩;by_cases c:j<ts'.length
   . rw[Bo c] at ht;exact (pr j t ht).same (d13.trans g16)
   . have hlt:j<(ts'++[nt]).length:=(Av.mp ht).1;rw[Ae,AN] at hlt;have ej:j=ts'.length:=by omega
     rw[ej,Dg] at ht;cases ht;rw[ej,hlen];exact np
 rintro σ H6 ⟨G,ts',n0,n1,z9,z10,z11,z12,z13,z14,z15,A6,e6',pr,hlen,rfl⟩;refine hN2 _ _ ⟨_,rfl,?_⟩;have e6:=g9.trans e6';have gb:Same G H6:=fun c o h=>A6.rd h;rw[Bh,Ab] at hlen;subst hxe;refine q pl ts' lv ss hs (soF ss) H6 ⟨(E5.trans e6).trans gb,A6.at',(W4.same e6).same gb,fun i t ht=>(pr i t ht).same gb,by omega,hs0,hs4,hxn,hsok,hx8,hxd,hnmA,hfst,fun z=>?_⟩;obtain⟨us,hu⟩:=W4.mt _ z;rw[hpl] at hu;cases hu
end K40
namespace L2
open Classical in
def rm(X:HW->Prop)(H:Hp):Hp:=fun c=>if X c then none else H c
variable{X X':HW->Prop}{H H':Hp}
theorem fg{c:HW}(h:¬ X c):rm X H c=H c:=by unfold rm;rw[if_neg h]
theorem sq{c:HW}{o:HO}(h:rm X H c=some o):¬ X c/\H c=some o:=by
 unfold rm at h;by_cases z:X c
 . rw[if_pos z] at h;cases h
 . rw[if_neg z] at h;exact⟨z,h⟩
theorem rm_back:Same (rm X H) H:=fun _ _ h=>(sq h).2
theorem ff(e:Same H H'):Same (rm X H) (rm X H'):=fun b o h=>by
 obtain⟨h1,h2⟩:=sq h;rw[fg h1];exact e _ _ h2
theorem aab(h:∀c,X c->X' c):Same (rm X' H) (rm X H):=fun b o z=>by
 obtain⟨h1,h2⟩:=sq z;rw[fg (fun y=>h1 (h _ y))];exact h2
theorem a0p{a:HW}{o:HO}(h:X a):rm X (upd H a o)=rm X H:=by
 funext c
 by_cases z:X c
 . unfold rm;rw[if_pos z,if_pos z]
 . rw[fg z,fg z,ai (fun y=>z (by rw[y];exact h))]
theorem aa6{p:HW}{o:HO}(hp:H p=none):Same (rm X H) (rm (fun c=>X c\/c=p) (upd H p o)):=fun b u h=>by
 obtain⟨h1,h2⟩:=sq h;have nb:=aq h2 hp;rw[fg (fun z=>z.elim h1 nb),ai nb];exact h2
end L2
namespace K40
open L2 Mir
variable{P:IC}{w:IF}{K:Ac}{mg:Str->Option HX}{base:IJ}{f g gA gF gP gN gS gW gI gV gM gR gT gC gB gD gH gK gG gY:HW}{fd gd dA dF dP dN dS dW dI dV dM dR dT dC dB dD dH dK dG dY:II}
def B:Nat->List Nat
 | 0=>[]
 | n+1=>30::B n
inductive DG(own:List Str)(par:Nat)(hs:List Hd):Deed->Prop
 | plain (p:Pl)(h:PlG own par hs p):DG own par hs (.plain p)
 | cond (r:List Str)(a b:List Deed)(hr:em (own++[("nil":Str)]) r)(ha:∀d∈a,DG own par hs d)(hb:∀d∈b,DG own par hs d):DG own par hs (.cond r a b)
 | loop (r:List Str)(F P:List (List Str))(a:List Deed)(hr:em (own++[("nil":Str)]) r)(hF:∀r∈F,em (own++[("nil":Str)]) r)(hP:∀r∈P,gc (own++[("nil":Str)]) r)(lF:F.length<=2)(lP:P.length<=2)(ha:∀d∈a,DG own par hs d):DG own par hs (.loop r F P a)
section
variable{K:Ac}{H H':Hp}
theorem qp{α:Type}{R:HW->α->Prop}:∀{ts:List HW},(∀t∈ts,∃d,R t d)->∃ds,IE R ts ds
 | [],_=>⟨[],.nil⟩
 | t::ts,h=>by
  obtain⟨d,hd⟩:=h t (By ..);obtain⟨ds,hds⟩:=qp (ts:=ts) fun x hx=>h x (Bl _ hx);exact⟨d::ds,.cons hd hds⟩
theorem uo{α:Type}{R:HW->α->Prop}{q:α->Prop}{ts:List HW}{ds:List α}(h:IE (fun t d=>R t d/\q d) ts ds):IE R ts ds/\∀d∈ds,q d:=by
 refine⟨Paired.mapP h fun _ _ z=>z.1,fun d hd=>?_⟩;obtain⟨i,hi⟩:=Bk hd;have hlt:i<ts.length:=by rw[Ao h];exact (Av.mp hi).1
 obtain⟨d',hd',z⟩:=Paired.nth h (Ag hlt);rw[hi] at hd';cases hd';exact z.2
theorem mq{X:HW->Prop}{a:HW}{F:List (List Str)}(hX:∀b,X b->∃us,H b=some (.lst us))(na:¬ X a)(h:RowsAt K H a F):RowsAt K (rm X H) a F:=by
 obtain⟨as,h1,h2⟩:=h;refine⟨as,by rw[fg na];exact h1,Paired.mapP h2 fun b r z=>?_⟩;rcases z with (z|⟨o,z⟩)|z
 . exact .inl (.inl (by rw[fg (fun y=>by obtain⟨us,hu⟩:=hX b y;rw[z] at hu;cases hu)];exact z))
 . exact .inl (.inr ⟨o,by rw[fg (fun y=>by obtain⟨us,hu⟩:=hX b y;rw[z] at hu;cases hu)];exact z⟩)
 . exact .inr z
theorem a7v{X:HW->Prop}{t:HW}{p:Pl}(hX:∀b,X b->∃us,H b=some (.lst us))(h:PlAt H t p):PlAt (rm X H) t p:=by
 have r:∀{b:HW} {vs:List V},H b=some (.tup vs)->rm X H b=some (.tup vs):=fun {b vs} z=>by
  rw[fg (fun y=>by obtain⟨us,hu⟩:=hX b y;rw[z] at hu;cases hu)];exact z
 cases p with
 | row r'=>exact r h
 | call x c vs=>obtain⟨v,h1,h2⟩:=h;exact⟨v,r h1,r h2⟩
theorem Wk.listR{hs:List Hd}{so:HW->Nat}{lv:Lv}{S:List HW}{n:Nat}{X:HW->Prop}(W:Wk K hs so H lv S n)(hn:n<=30)(hX:∀a,X a->∃k,lv a=some k/\k % 8=0)(hok:∀g∈hs,∀y∈g.own,Ok y):∀(m k:Nat) (a:HW),k % 8+m=4->lv a=some k->∃(ts:List HW) (ds:List Deed),H a=some (.lst (ts.map V.ref))/\IE (DeedX K (rm X H) (ListX K (rm X H) (B m))) ts ds/\ts.length<=n/\∀d∈ds,∀g,hs[k / 8]?=some g->DG g.own g.par hs d:=by
 have hXl:∀b,X b->∃us,H b=some (.lst us):=fun b hb=>by
  obtain⟨k,hk,_⟩:=hX b hb;obtain⟨ts,h1,_⟩:=W.lists b k hk;exact⟨_,h1⟩
 have hXm:∀b,X b->Mt lv S b:=fun b hb=>by obtain⟨k,hk,_⟩:=hX b hb;exact .inl ⟨k,hk⟩
 have rt:∀{b:HW} {vs:List V},H b=some (.tup vs)->rm X H b=some (.tup vs):=fun {b vs} z=>by
  rw[fg (fun y=>by obtain⟨us,hu⟩:=hXl b y;rw[z] at hu;cases hu)];exact z
 intro m;induction m with
 | zero =>
  intro k a hk ha;obtain⟨ts,h1,h2,h3⟩:=W.lists a k ha;have low:∀i,¬ lv i=some (k+1):=fun i z=>by have:=W.low i _ z;omega
  obtain⟨ds,hds⟩:∃ds,IE (fun t d=>DeedX K (rm X H) (ListX K (rm X H) (B 0)) t d/\∀g,hs[k / 8]?=some g->DG g.own g.par hs d) ts ds:=qp fun t ht=>by
   cases h3 t ht with
   | plain g p hg h1 h2 h3=>exact⟨_,.plain p (a7v hXl h1) h3,fun g' hg'=>by rw[hg] at hg';cases hg';exact .plain p h2⟩
   | cond g c i o r hg h hc okr hi ho=>exact absurd hi (low _)
   | loop g c td i fa pa r F P hg h hc okr htd hF hP nF nP okF okP lF lP hi=>exact absurd hi (low _)
  obtain⟨p1,p2⟩:=uo hds;exact⟨ts,ds,h1,p1,h2,p2⟩
 | succ m ih =>
  intro k a hk ha;obtain⟨ts,h1,h2,h3⟩:=W.lists a k ha;have inner:∀{i:HW},lv i=some (k+1)->∃ds,ListX K (rm X H) (B (m+1)) i ds/\∀d∈ds,∀g,hs[k / 8]?=some g->DG g.own g.par hs d:=fun {i} hi=>by
   have hlow:=W.low _ _ hi;obtain⟨ts',ds',g1,g2,g3,g4⟩:=ih (k+1) i (by omega) hi;refine⟨ds',⟨ts',?_,g2,Aw g3 hn⟩,fun d hd g hg=>g4 d hd g (by rw[show (k+1) / 8=k / 8 by omega];exact hg)⟩;rw[fg (fun z=>by
    obtain⟨k',hk',z'⟩:=hX i z;rw[hi] at hk';cases hk';omega)]
   exact g1
  obtain⟨ds,hds⟩:∃ds,IE (fun t d=>DeedX K (rm X H) (ListX K (rm X H) (B (m+1))) t d/\∀g,hs[k / 8]?=some g->DG g.own g.par hs d) ts ds:=qp fun t ht=>by
   cases h3 t ht with
   | plain g p hg h1 h2 h3=>exact⟨_,.plain p (a7v hXl h1) h3,fun g' hg'=>by rw[hg] at hg';cases hg';exact .plain p h2⟩
   | cond g c i o r hg h hc okr hi ho =>
    obtain⟨a',ha',qa⟩:=inner hi;obtain⟨b',hb',qb⟩:=inner ho;have oks:∀y∈g.own++[("nil":Str)],Ok y:=fun y hy=>se (k := "value") (.inr (.inr ⟨rfl,hy⟩)) (hok g (Ak hg));exact⟨_,.cond c i o r a' b' (rt h) (rt hc) (p7 oks okr) ha' hb',fun g' hg'=>by have e:=hg';rw[hg] at e;cases e;exact .cond r a' b' okr (fun d hd=>qa d hd _ hg') fun d hd=>qb d hd _ hg'⟩
   | loop g c td i fa pa r F P hg h hc okr htd hF hP nF nP okF okP lF lP hi =>
    obtain⟨a',ha',qa⟩:=inner hi;have oks:∀y∈g.own++[("nil":Str)],Ok y:=fun y hy=>se (k := "value") (.inr (.inr ⟨rfl,hy⟩)) (hok g (Ak hg));exact⟨_,.loop c td i fa pa r F P a' (rt h) (rt hc) (p7 oks okr) (rt htd) (mq hXl (fun z=>nF (hXm _ z)) hF) (mq hXl (fun z=>nP (hXm _ z)) hP) (fun r hr=>p7 oks (okF r hr)) (fun r hr=>vn oks (okP r hr)) (by omega) (by omega) ha',fun g' hg'=>by have e:=hg';rw[hg] at e;cases e;exact .loop r F P a' okr okF okP lF lP fun d hd=>qa d hd _ hg'⟩
  obtain⟨p1,p2⟩:=uo hds;exact⟨ts,ds,h1,p1,h2,p2⟩
def dcD(f:List Deed->Nat):Deed->Nat
 | .plain _=>1
 | .cond _ a b=>1+(f a+f b)
 | .loop _ _ _ a=>1+f a
def dcL:List Nat->List Deed->Nat
 | [],_=>0
 | _::bs,ds=>(ds.map (dcD (dcL bs))).sum
inductive Rch(H:Hp)(lv:Lv)(x:HW):HW->Prop
 | refl:Rch H lv x x
 | step (b:HW)(i:Nat)(t c:HW)(s:Nat)(h:Rch H lv x b)(hp:Psn H lv b i t)(hi:Inn H t c s):Rch H lv x c
section
variable{hs:List Hd}{so:HW->Nat}{lv:Lv}{S:List HW}{n:Nat}
theorem Wk.innL(W:Wk K hs so H lv S n){b:HW}{i:Nat}{t c:HW}{s k:Nat}(hp:Psn H lv b i t)(hi:Inn H t c s)(hk:lv b=some k):lv c=some (k+1):=by
 obtain⟨k',h1,h2⟩:=W.psn hp;rw[hk] at h1;cases h1;exact h2.inn hi
theorem Wk.lvR(W:Wk K hs so H lv S n){x b:HW}{k:Nat}(h:Rch H lv x b)(hk:lv x=some k):b=x\/∃m,lv b=some (k+1+m):=by
 induction h with
 | refl=>exact .inl rfl
 | step b i t c s h hp hi ih =>
  rcases ih with rfl|⟨m,hm⟩
  . exact .inr ⟨0,W.innL hp hi hk⟩
  . exact .inr ⟨m+1,W.innL hp hi hm⟩
theorem Wk.rch1(W:Wk K hs so H lv S n){x y b:HW}{k:Nat}(h:Rch H lv x b)(h':Rch H lv y b)(hx:lv x=some k)(hy:lv y=some k):x=y:=by
 induction h with
 | refl =>
  rcases W.lvR h' hy with e|⟨m,hm⟩
  . exact e
  . rw[hx] at hm;have:=Ay hm;omega
 | step b i t c s h hp hi ih =>
  cases h' with
  | refl =>
   rcases W.lvR h hx with rfl|⟨m,hm⟩
   . have:=W.innL hp hi hx;rw[hy] at this;have:=Ay this;omega
   . have:=W.innL hp hi hm;rw[hy] at this;have:=Ay this;omega
  | step b' i' t' _ s' h2 hp2 hi2 =>
   obtain⟨rfl,_,_⟩:=W.one _ _ _ _ _ _ _ _ _ hp hi hp2 hi2;exact ih h2
def InD(H:Hp)(lv:Lv)(t:HW)(q:HW×Nat):Prop:=(∃u,Psn H lv q.1 q.2 u)/\∃c s,Inn H t c s/\Rch H lv c q.1
theorem Wk.inD(W:Wk K hs so H lv S n){L:HW->List Deed->Prop}{f:List Deed->Nat}(hL:∀l ds k,L l ds->lv l=some k->∃qs:List (HW×Nat),qs.length=f ds/\qs.Nodup/\∀q∈qs,Rch H lv l q.1/\∃u,Psn H lv q.1 q.2 u){l t:HW}{j k:Nat}{d:Deed}(hk:lv l=some k)(hp:Psn H lv l j t)(h:DeedX K H L t d):∃qs:List (HW×Nat),1+qs.length=dcD f d/\qs.Nodup/\∀q∈qs,InD H lv t q:=by
 cases h with
 | plain p h1 h2=>exact⟨[],rfl,.nil,fun q hq=>by cases hq⟩
 | cond c i o r a b h hc okr hi ho =>
  have i0:Inn H t i 0:=.i0 _ _ h;have i1:Inn H t o 1:=.i1 _ _ h;have l0:=W.innL hp i0 hk;have l1:=W.innL hp i1 hk;obtain⟨qa,a1,a2,a3⟩:=hL _ _ _ hi l0;obtain⟨qb,b1,b2,b3⟩:=hL _ _ _ ho l1;refine⟨qa++qb,by rw[Ae,a1,b1];rfl,Ce.mpr ⟨a2,b2,fun x hx y hy e=>?_⟩,fun q hq=>?_⟩
  . subst e;have e:=W.rch1 (a3 _ hx).1 (b3 _ hy).1 l0 l1;subst e;have:=(W.one _ _ _ _ _ _ _ _ _ hp i0 hp i1).2.2;omega
  . rcases Aq.mp hq with z|z
    . exact⟨(a3 q z).2,_,_,i0,(a3 q z).1⟩
    . exact⟨(b3 q z).2,_,_,i1,(b3 q z).1⟩
 | loop c td i fa pa r F P a h hc okr htd hF hP okF okP lF lP hi =>
  have i0:Inn H t i 0:=.w0 _ _ h;obtain⟨qa,a1,a2,a3⟩:=hL _ _ _ hi (W.innL hp i0 hk);exact⟨qa,by rw[a1];rfl,a2,fun q z=>⟨(a3 q z).2,_,_,i0,(a3 q z).1⟩⟩
theorem Wk.seg(W:Wk K hs so H lv S n){L:HW->List Deed->Prop}{f:List Deed->Nat}(hL:∀l ds k,L l ds->lv l=some k->∃qs:List (HW×Nat),qs.length=f ds/\qs.Nodup/\∀q∈qs,Rch H lv l q.1/\∃u,Psn H lv q.1 q.2 u){l:HW}{k:Nat}(hk:lv l=some k):
 ∀{ts:List HW} {ds:List Deed} (j:Nat),IE (DeedX K H L) ts ds->(∀i t,ts[i]?=some t->Psn H lv l (j+i) t)->∃qs:List (HW×Nat),qs.length=(ds.map (dcD f)).sum/\qs.Nodup/\∀q∈qs,(q.1=l/\j<=q.2/\∃u,Psn H lv q.1 q.2 u)\/∃i t,j<=i/\Psn H lv l i t/\InD H lv t q
 | _,_,j,.nil,_=>⟨[],rfl,.nil,fun q hq=>by cases hq⟩
 | t::ts,d::ds,j,.cons h r,hp=>by
  have p0:=hp 0 t rfl;rw[HM] at p0;obtain⟨qi,i1,i2,i3⟩:=W.inD hL hk p0 h;obtain⟨qs,r1,r2,r3⟩:=W.seg hL hk (j+1) r fun i u hu=>by
   have:=hp (i+1) u (by simpa using hu);rw[show j+1+i=j+(i+1) by omega];exact this
  have far:∀{u:HW} {m:Nat} {q:HW×Nat},Psn H lv l m u->InD H lv u q->q.1≠l:=fun {u m q} hu ⟨_,c,s,hc,hr⟩ e=>by
   have lc:=W.innL hu hc hk;rcases W.lvR hr lc with z|⟨m,hm⟩
   . rw[<- z,e,hk] at lc;have:=Ay lc;omega
   . rw[e,hk] at hm;have:=Ay hm;omega
  refine⟨(l,j)::(qi++qs),?_,Cn.mpr ⟨fun z=>?_,Ce.mpr ⟨i2,r2,fun x hx y hy e=>?_⟩⟩,fun q hq=>?_⟩
  . rw[AY,Ae,Be,BJ,<- i1,r1];omega
  . rcases Aq.mp z with z|z
    . exact far p0 (i3 _ z) rfl
    . rcases r3 _ z with⟨_,g,_⟩|⟨i,u,g,hu,hI⟩
      . have:j+1<=j:=g;omega
      . exact far hu hI rfl
  . subst e;rcases r3 _ hy with⟨g,_⟩|⟨i,u,g,hu,hI⟩
    . exact far p0 (i3 _ hx) g
    . obtain⟨_,c,s,hc,hr⟩:=i3 _ hx;obtain⟨_,c',s',hc',hr'⟩:=hI;have e:=W.rch1 hr hr' (W.innL p0 hc hk) (W.innL hu hc' hk);subst e;have:=(W.one _ _ _ _ _ _ _ _ _ p0 hc hu hc').2.1;omega
  . rcases Am.mp hq with rfl|hq
    . exact .inl ⟨rfl,Ar _,_,p0⟩
    rcases Aq.mp hq with z|z
    . exact .inr ⟨j,t,Ar _,p0,i3 _ z⟩
    . rcases r3 _ z with⟨g1,g2,g3⟩|⟨i,u,g,hu,hI⟩
      . exact .inl ⟨g1,Gu g2,g3⟩
      . exact .inr ⟨i,u,Gu g,hu,hI⟩
theorem Rch.front{x b c:HW}{i s:Nat}{t:HW}(hp:Psn H lv x i t)(hi:Inn H t b s)(h:Rch H lv b c):Rch H lv x c:=by
 induction h with
 | refl=>exact .step x i t b s .refl hp hi
 | step b' i' t' c' s' h hp' hi' ih=>exact .step b' i' t' c' s' ih hp' hi'
theorem Wk.pos(W:Wk K hs so H lv S n):∀(bs:List Nat) (l:HW) (ds:List Deed) (k:Nat),ListX K H bs l ds->lv l=some k->∃qs:List (HW×Nat),qs.length=dcL bs ds/\qs.Nodup/\∀q∈qs,Rch H lv l q.1/\∃u,Psn H lv q.1 q.2 u
 | [],_,_,_,h,_=>h.elim
 | b::bs,l,ds,k,h,hk=>by
  obtain⟨ts,h1,h2,h3⟩:=h;obtain⟨qs,q1,q2,q3⟩:=W.seg (fun l ds k h hk=>Wk.pos W bs l ds k h hk) hk 0 h2 fun i t ht=>⟨k,ts,hk,h1,by rw[HN];exact ht⟩
  refine⟨qs,q1,q2,fun q hq=>?_⟩;rcases q3 q hq with⟨rfl,_,g⟩|⟨i,t,_,hu,g,c,s,hc,hr⟩
  . exact⟨.refl,g⟩
  . exact⟨hr.front hu hc,g⟩
end
end
section
variable{K:Ac}{H H':Hp}{hs:List Hd}{so:HW->Nat}{lv:Lv}{S:List HW}{n:Nat}
theorem Wk.owner(W:Wk K hs so H lv S n){x b:HW}{k:Nat}(h:Rch H lv x b)(hk:lv x=some k):∃k',lv b=some k'/\k' / 8=k / 8:=by
 induction h with
 | refl=>exact⟨k,hk,rfl⟩
 | step b i t c s h hp hi ih =>
  obtain⟨k',h1,h2⟩:=ih;have h3:=W.innL hp hi h1;have l1:=W.low _ _ h1;have l2:=W.low _ _ h3;exact⟨k'+1,h3,by omega⟩
theorem Wk.allQ(W:Wk K hs so H lv S n):∀(bds:List HW) (dss:List (List Deed)) (j:Nat),IE (fun bd ds=>ListX K H (B 5) bd ds) bds dss->(∀(i:Nat) (bd:HW),bds[i]?=some bd->lv bd=some (8*(j+i)))->∃qs:List (HW×Nat),qs.length=(dss.map (dcL (B 5))).sum/\qs.Nodup/\∀q∈qs,(∃u,Psn H lv q.1 q.2 u)/\∃k,lv q.1=some k/\j<=k / 8
 | _,_,_,.nil,_=>⟨[],rfl,.nil,fun q hq=>by cases hq⟩
 | bd::bds,ds::dss,j,.cons h r,hl=>by
  have h0:=hl 0 bd rfl;obtain⟨q0,a1,a2,a3⟩:=W.pos (B 5) bd ds _ h h0;obtain⟨q1,b1,b2,b3⟩:=Wk.allQ W bds dss (j+1) r fun i x hx=>by
   have:=hl (i+1) x (by simpa using hx);rw[show j+1+i=j+(i+1) by omega];exact this
  have own0:∀q∈q0,∃k,lv q.1=some k/\k / 8=j:=fun q hq=>by
   obtain⟨k,k1,k2⟩:=W.owner (a3 q hq).1 h0;exact⟨k,k1,by omega⟩
  refine⟨q0++q1,by rw[Ae,a1,b1,Be,BJ],Ce.mpr ⟨a2,b2,fun x hx y hy e=>?_⟩,fun q hq=>?_⟩
  . subst e;obtain⟨k,k1,k2⟩:=own0 x hx;obtain⟨_,k',k3,k4⟩:=b3 x hy;rw[k1] at k3;cases k3;omega
  . rcases Aq.mp hq with z|z
    . obtain⟨k,k1,k2⟩:=own0 q z;exact⟨(a3 q z).2,k,k1,by omega⟩
    . obtain⟨c1,k,k1,k2⟩:=b3 q z;exact⟨c1,k,k1,by omega⟩
theorem Wk.allFew(W:Wk K hs so H lv S n){bds:List HW}{dss:List (List Deed)}(h:IE (fun bd ds=>ListX K H (B 5) bd ds) bds dss)(hl:∀(i:Nat) (bd:HW),bds[i]?=some bd->lv bd=some (8*i)):(dss.map (dcL (B 5))).sum<=n:=by
 obtain⟨qs,q1,q2,q3⟩:=W.allQ bds dss 0 h fun i bd z=>by rw[HN];exact hl i bd z
 obtain⟨nm,n1,n2⟩:=W.num;have hd:(qs.map fun q=>nm q.1 q.2).Nodup:=by
  refine DE.mpr (List.Pairwise.imp_of_mem (fun {x y} hx hy ne e=>?_) q2);obtain⟨⟨u,hu⟩,_⟩:=q3 x hx;obtain⟨⟨v,hv⟩,_⟩:=q3 y hy;obtain⟨e1,e2⟩:=n2 _ _ _ _ _ _ hu hv e;exact ne (Prod.ext e1 e2)
 have:=Bv hd (l₂:=Bg n) fun x hx=>by
  obtain⟨q,hq,rfl⟩:=AF.mp hx;obtain⟨⟨u,hu⟩,_⟩:=q3 q hq;exact CY.mpr (n1 _ _ _ hu)
 rw[Ab,Bu,q1] at this;exact this
end
structure PcG(hs:List Hd)(g:Hd)(p:Prc):Prop where
 name:p.name=g.name
 res:p.res=g.res
 ps:p.ps=g.own.take g.par
 F1:∀r∈p.F1,em (yh g) r
 P1:∀r∈p.P1,gc (yh g) r
 F2:∀r∈p.F2,em (yl g) r
 P2:∀r∈p.P2,gc (yl g) r
 l1:p.F1.length<=2/\p.P1.length<=2
 l2:p.F2.length<=2/\p.P2.length<=2
 body:∀d∈p.body,DG g.own g.par hs d
structure PcH(K:Ac)(H:Hp)(X:HW->Prop)(t pt t1 t2 f1 p1 f2 p2 bd:HW)(us:List HW)(p:Prc):Prop where
 tup:rm X H t=some (.tup [.str p.name,.ref pt,.str p.res,.ref t1,.ref t2,.ref bd])
 pt:rm X H pt=some (.tup (p.ps.map V.str))
 t1:rm X H t1=some (.tup [.ref f1,.ref p1])
 t2:rm X H t2=some (.tup [.ref f2,.ref p2])
 f1:RowsAt K (rm X H) f1 p.F1
 p1:RowsAt K (rm X H) p1 p.P1
 f2:RowsAt K (rm X H) f2 p.F2
 p2:RowsAt K (rm X H) p2 p.P2
 at':H bd=some (.lst (us.map V.ref))
 body:IE (DeedX K (rm X H) (ListX K (rm X H) (B 4))) us p.body
 len:us.length<=30
 okn:Ok p.name
 okr:Ok p.res
 okp:∀y∈p.ps,Ok y
 ok1:(∀r∈p.F1,∀y∈r,Ok y)/\∀r∈p.P1,∀y∈r,Ok y
 ok2:(∀r∈p.F2,∀y∈r,Ok y)/\∀r∈p.P2,∀y∈r,Ok y
 l1:p.F1.length<=10/\p.P1.length<=10
 l2:p.F2.length<=10/\p.P2.length<=10
theorem PcH.at{K:Ac}{H:Hp}{X:HW->Prop}{t pt t1 t2 f1 p1 f2 p2 bd:HW}{us:List HW}{p:Prc}(h:PcH K H X t pt t1 t2 f1 p1 f2 p2 bd us p):PrcAt K H (B 5) t p :=
 ⟨pt,t1,t2,f1,p1,f2,p2,bd,rm_back _ _ h.tup,rm_back _ _ h.pt,rm_back _ _ h.t1,rm_back _ _ h.t2,h.f1.same rm_back,h.p1.same rm_back,h.f2.same rm_back,h.p2.same rm_back,⟨us,h.at',Paired.mapP h.body fun _ _ z=>z.same rm_back fun _ _ y=>y.same rm_back,h.len⟩,h.okn,h.okr,h.okp,h.ok1,h.ok2,h.l1,h.l2⟩
theorem PcH.more{K:Ac}{H H':Hp}{X:HW->Prop}{t pt t1 t2 f1 p1 f2 p2 bd:HW}{us vs:List HW}{p:Prc}{es:List Deed}(h:PcH K H X t pt t1 t2 f1 p1 f2 p2 bd us p)(e:Same (rm X H) (rm X H'))(hb:H' bd=some (.lst ((us++vs).map V.ref)))(hv:IE (DeedX K (rm X H') (ListX K (rm X H') (B 4))) vs es)(hl:(us++vs).length<=30):PcH K H' X t pt t1 t2 f1 p1 f2 p2 bd (us++vs) {p with body:=p.body++es} :=
 ⟨e _ _ h.tup,e _ _ h.pt,e _ _ h.t1,e _ _ h.t2,h.f1.same e,h.p1.same e,h.f2.same e,h.p2.same e,hb,Paired.app (Paired.mapP h.body fun _ _ z=>z.same e fun _ _ y=>y.same e) hv,hl,h.okn,h.okr,h.okp,h.ok1,h.ok2,h.l1,h.l2⟩
theorem PcH.same{K:Ac}{H H':Hp}{X:HW->Prop}{t pt t1 t2 f1 p1 f2 p2 bd:HW}{us:List HW}{p:Prc}(h:PcH K H X t pt t1 t2 f1 p1 f2 p2 bd us p)(e:Same (rm X H) (rm X H'))(hb:H' bd=some (.lst (us.map V.ref))):PcH K H' X t pt t1 t2 f1 p1 f2 p2 bd us p :=
 ⟨e _ _ h.tup,e _ _ h.pt,e _ _ h.t1,e _ _ h.t2,h.f1.same e,h.p1.same e,h.f2.same e,h.p2.same e,hb,Paired.mapP h.body fun _ _ z=>z.same e fun _ _ y=>y.same e,h.len,h.okn,h.okr,h.okp,h.ok1,h.ok2,h.l1,h.l2⟩
theorem a1j{xs:List Str}{g:Hd}(hx:∀x∈xs,b8 x=true)(ho:HdOk xs g):(∀y∈yh g,Ok y)/\(∀y∈yl g,Ok y)/\Ok g.name/\Ok g.res/\(∀y∈g.own.take g.par,Ok y)/\∀y∈g.own,Ok y:=by
 have o1:∀y∈g.own,Ok y:=fun y hy=>kd (hx y (ho.own y hy));have o2:∀y∈g.own.take g.par,Ok y:=fun y hy=>o1 y (BA hy);have o3:Ok g.res:=by
  rcases ho.res with z|z
  . rw[z];exact gz "" (by simp)
  . exact o1 _ z
 have on:Ok ("nil":Str):=gz "nil" (by simp);refine⟨fun y hy=>?_,fun y hy=>?_,kd (hx _ ho.name),o3,o2,o1⟩
 . rcases Aq.mp hy with z|z
   . exact o2 y z
   . rw[Ax.mp z];exact on
 . rcases Aq.mp hy with z|z
   . rcases Aq.mp z with z|z
     . exact o2 y z
     . rw[Ax.mp (AV.mp z).1];exact o3
   . rw[Ax.mp z];exact on
def X0(lv:Lv):HW->Prop:=fun b=>lv b=some 0
theorem Prog.data{K:Ac}{H H':Hp}{ns:List Int}{pl:HW}{ts:List HW}{lv:Lv}{S:List HW}{hs:List Hd}{so:HW->Nat}(h:Prog K H H' ns pl ts lv S hs so):∀(i:Nat) (t:HW),ts[i]?=some t->∃g p pt t1 t2 f1 p1 f2 p2 bd us,hs[i]?=some g/\PcG hs g p/\lv bd=some (8*i)/\PcH K H' (X0 lv) t pt t1 t2 f1 p1 f2 p2 bd us p:=by
 intro i t ht;have hXl:∀b,X0 lv b->∃us,H' b=some (.lst us):=fun b hb=>by
  obtain⟨ts,h1,_⟩:=h.wk.lists b 0 hb;exact⟨_,h1⟩
 have hXm:∀b,X0 lv b->Mt lv S b:=fun b hb=>.inl ⟨0,hb⟩;have rt:∀{b:HW} {vs:List V},H' b=some (.tup vs)->rm (X0 lv) H' b=some (.tup vs):=fun {b vs} z=>by
  rw[fg (fun y=>by obtain⟨us,hu⟩:=hXl b y;rw[z] at hu;cases hu)];exact z
 obtain⟨g,hg,pt,t1,t2,bd,z,hp,z1,z2,hb⟩:=h.procs i t ht;obtain⟨f1,p1,F1,P1,a1,a2,a3,a4,a5,a6,a7,a8,a9⟩:=z1;obtain⟨f2,p2,F2,P2,c1,c2,c3,c4,c5,c6,c7,c8,c9⟩:=z2;obtain⟨o1,o2,o3,o4,o5,_⟩:=a1j h.nms (h.hok g (Ak hg));obtain⟨us,ds,d1,d2,d3,d4⟩:=h.wk.listR (X:=X0 lv) (by decide) (fun a z=>⟨0,z,rfl⟩) (fun g' hg'=>(a1j h.nms (h.hok g' hg')).2.2.2.2.2) 4 (8*i) bd (by omega) hb;refine⟨g,⟨g.name,g.res,g.own.take g.par,F1,P1,F2,P2,ds⟩,pt,t1,t2,f1,p1,f2,p2,bd,us,hg,⟨rfl,rfl,rfl,a6,a7,c6,c7,⟨a8,a9⟩,⟨c8,c9⟩,fun d hd=>d4 d hd g (by rw[show 8*i / 8=i by omega];exact hg)⟩,hb,⟨rt z,rt hp,rt a1,rt c1,mq hXl (fun y=>a4 (hXm _ y)) a2,mq hXl (fun y=>a5 (hXm _ y)) a3,mq hXl (fun y=>c4 (hXm _ y)) c2,mq hXl (fun y=>c5 (hXm _ y)) c3,d1,d2,by omega,o3,o4,o5,⟨fun r hr=>p7 o1 (a6 r hr),fun r hr=>vn o1 (a7 r hr)⟩,⟨fun r hr=>p7 o2 (c6 r hr),fun r hr=>vn o2 (c7 r hr)⟩,⟨by show F1.length<=10;omega,by show P1.length<=10;omega⟩,⟨by show F2.length<=10;omega,by show P2.length<=10;omega⟩⟩⟩
theorem fu{y:Str}(h:b8 y=true):Short y:=by
 unfold b8 at h;by_cases c:y="" \/ 8<y.length\/y∈noNames
 . rw[if_pos c] at h;cases h
 . show y.length<=1000;have:¬ 8<y.length:=fun z=>c (.inr (.inl z));omega
theorem sd{y:Str}(h:b8 y=true):¬ y∈noNames:=fun z=>by
 unfold b8 at h;rw[if_pos (.inr (.inr z))] at h;cases h
theorem gh:∀y∈([("nil":Str),"any","first","second","is","not","cell","stretch","tree",""]:List Str),y.length<=1000:=by decide
section
variable{own:List Str}(N:∀y∈own,b8 y=true)
include N
theorem i9{y:Str}(h:y∈own++[("nil":Str)]):bh y=true/\Short y:=by
 rcases Aq.mp h with z|z
 . exact⟨by unfold bh;rw[N y z,HP],fu (N y z)⟩
 . rw[Ax.mp z];exact⟨by decide,gh "nil" (by simp)⟩
theorem qx{k y:Str}(h:ml own k y):uq k y/\Short y:=by
 rcases h with⟨h1,h2⟩|⟨h1,h2⟩|⟨h1,h2⟩
 . exact⟨.inl ⟨h1,h2⟩,by rcases h2 with rfl|rfl<;>exact gh _ (by simp)⟩
 . exact⟨.inr (.inl ⟨h1,N y h2⟩),fu (N y h2)⟩
 . exact⟨.inr (.inr ⟨h1,(i9 N h2).1⟩),(i9 N h2).2⟩
theorem iq{r:List Str}(h:em (own++[("nil":Str)]) r):fj r=true/\r.length=3/\∀y∈r,Short y:=by
 obtain⟨k,u,v,rfl,hk,hu,hv⟩:=h;obtain⟨u1,u2⟩:=i9 N hu;obtain⟨v1,v2⟩:=i9 N hv;refine⟨?_,rfl,fun y hy=>?_⟩
 . unfold fj;have e:decide (([k,u,v]:List Str).headD "" ∈ [("is":Str),"not"])=true:=decide_eq_true (by rcases hk with rfl|rfl<;>simp);rw[e];simp[u1,v1]
 . simp only[Am,Au,or_false] at hy;rcases hy with rfl|rfl|rfl
   . rcases hk with rfl|rfl<;>exact gh _ (by simp)
   . exact u2
   . exact v2
theorem sv{r:List Str}(h:gc (own++[("nil":Str)]) r):ip r=true/\r.length<=4/\r≠[]/\∀y∈r,Short y:=by
 have any:∀{y:Str},(y∈own++[("nil":Str)]\/y="any")->(decide (y="any") || bh y)=true/\Short y:=fun {y} z=>by
  rcases z with z|z
  . exact⟨by rw[(i9 N z).1,HP],(i9 N z).2⟩
  . rw[z];exact⟨by decide,gh _ (by simp)⟩
 rcases h with⟨a,f,s,rfl,h1,h2,h3⟩|⟨a,b,rfl,h1,h2⟩|⟨a,rfl,h1⟩
 . obtain⟨a1,a2⟩:=i9 N h1;refine⟨?_,by show 4<=4;decide,by simp,fun y hy=>?_⟩
   . show (decide (ef "cell"=some 4) && (if ("cell":Str)="cell" then bh a && ([f,s].all fun w=>decide (w="any") || bh w) else [a,f,s].all bh))=true;rw[if_pos rfl,a1];simp only[Di,(any h2).1,(any h3).1];decide
   . simp only[Am,Au,or_false] at hy;rcases hy with rfl|rfl|rfl|rfl
     . exact gh _ (by simp)
     . exact a2
     . exact (any h2).2
     . exact (any h3).2
 . obtain⟨a1,a2⟩:=i9 N h1;obtain⟨b1,b2⟩:=i9 N h2;refine⟨?_,by show 3<=4;decide,by simp,fun y hy=>?_⟩
   . show (decide (ef "stretch"=some 3) && (if ("stretch":Str)="cell" then bh a && ([b].all fun w=>decide (w="any") || bh w) else [a,b].all bh))=true;rw[if_neg (by decide)];simp only[Di,a1,b1];decide
   . simp only[Am,Au,or_false] at hy;rcases hy with rfl|rfl|rfl
     . exact gh _ (by simp)
     . exact a2
     . exact b2
 . obtain⟨a1,a2⟩:=i9 N h1;refine⟨?_,by show 2<=4;decide,by simp,fun y hy=>?_⟩
   . show (decide (ef "tree"=some 2) && (if ("tree":Str)="cell" then bh a && (([]:List Str).all fun w=>decide (w="any") || bh w) else [a].all bh))=true;rw[if_neg (by decide)];simp only[Di,a1];decide
   . simp only[Am,Au,or_false] at hy;rcases hy with rfl|rfl
     . exact gh _ (by simp)
     . exact a2
theorem xf{r:List Str}(h:em (own++[("nil":Str)]) r\/gc (own++[("nil":Str)]) r){y:Str}(hy:y∈gn r):y∈own:=by
 unfold gn at hy;obtain⟨h1,h2⟩:=AV.mp hy;have nn:¬ y∈noNames:=by simpa using h2
 have no:∀{z:Str},z∈own++[("nil":Str)]->z=y->y∈own:=fun {z} hz e=>by
  rcases Aq.mp hz with w|w
  . rw[<- e];exact w
  . rw[<- e,Ax.mp w] at nn;exact absurd (by decide) nn
 have noA:∀{z:Str},(z∈own++[("nil":Str)]\/z="any")->z=y->y∈own:=fun {z} hz e=>by
  rcases hz with w|w
  . exact no w e
  . rw[<- e,w] at nn;exact absurd (by decide) nn
 rcases h with⟨k,u,v,rfl,_,hu,hv⟩|⟨a,f,s,rfl,g1,g2,g3⟩|⟨a,b,rfl,g1,g2⟩|⟨a,rfl,g1⟩
 . simp only[B4,B9,Am,Au,or_false] at h1;rcases h1 with z|z
   . exact no hu z.symm
   . exact no hv z.symm
 . simp only[B4,B9,Am,Au,or_false] at h1;rcases h1 with z|z|z
   . exact no g1 z.symm
   . exact noA g2 z.symm
   . exact noA g3 z.symm
 . simp only[B4,B9,Am,Au,or_false] at h1;rcases h1 with z|z
   . exact no g1 z.symm
   . exact no g2 z.symm
 . simp only[B4,B9,Am,Au,or_false] at h1;exact no g1 h1.symm
theorem kh{F P:List (List Str)}(hF:∀r∈F,em (own++[("nil":Str)]) r)(hP:∀r∈P,gc (own++[("nil":Str)]) r){y:Str}(hy:y∈words (F++P)):y∈own:=by
 unfold words at hy;obtain⟨l,hl,hy⟩:=EL.mp hy;obtain⟨r,hr,rfl⟩:=AF.mp hl;rcases Aq.mp hr with z|z
 . exact xf N (.inl (hF r z)) hy
 . exact xf N (.inr (hP r z)) hy
omit N in
theorem a0o:∀(l:List Str),∃zs:List Str,zs.Nodup/\∀y,y∈zs↔y∈l
 | []=>⟨[],.nil,fun y=>Hv⟩
 | x::l=>by
  obtain⟨zs,h1,h2⟩:=a0o l;by_cases c:x∈zs
  . exact⟨zs,h1,fun y=>⟨fun h=>.tail _ ((h2 y).mp h),fun h=>by
     rcases Am.mp h with rfl|z
     . exact c
     . exact (h2 y).mpr z⟩⟩
  . exact⟨x::zs,Cn.mpr ⟨c,h1⟩,fun y=>by rw[Am,Am,h2 y]⟩
theorem su{F P:List (List Str)}(ho:own.length<=8)(hF:∀r∈F,em (own++[("nil":Str)]) r)(hP:∀r∈P,gc (own++[("nil":Str)]) r)(lF:F.length<=2)(lP:P.length<=2):jd [F,P]/\fz [F,P]/\TOk own F P:=by
 have sF:ShortRows F:=⟨by omega,fun r hr=>⟨by have:=(iq N (hF r hr)).2.1;omega,(iq N (hF r hr)).2.2⟩⟩
 have sP:ShortRows P:=⟨by omega,fun r hr=>⟨by have:=(sv N (hP r hr)).2.1;omega,(sv N (hP r hr)).2.2.2⟩⟩
 refine⟨⟨by show 2<=1000;decide,fun rs hrs=>?_⟩,⟨by omega,by omega,BD.mpr fun r hr=>(iq N (hF r hr)).1,BD.mpr fun r hr=>(sv N (hP r hr)).1,?_⟩,⟨sF,sP,fun r hr z=>?_,fun y hy=>kh N hF hP hy⟩⟩
 . simp only[Am,Au,or_false] at hrs;rcases hrs with rfl|rfl
   . exact sF
   . exact sP
 . obtain⟨zs,h1,h2⟩:=a0o (words (F++P));exact⟨zs,h1,h2,Aw (Bv h1 fun y hy=>kh N hF hP ((h2 y).mp hy)) ho⟩
 . rcases Aq.mp hr with w|w
   . have:=(iq N (hF r w)).2.1;rw[z] at this;cases this
   . exact (sv N (hP r w)).2.2.1 z
theorem DG.ck{par:Nat}{hs:List Hd}(ho:own.length<=6)(hh:∀g∈hs,b8 g.name=true/\g.par<=4){d:Deed}(h:DG own par hs d):CkD d:=by
 induction h with
 | plain p hp =>
  refine .plain p ?_;cases p with
  | row r =>
   obtain⟨k,r',fs,rfl,hf,hg,_⟩:=hp;refine⟨k,r',fs,rfl,hf,Paired.mapP hg fun _ _ z=>(qx N z).1,fun y hy=>?_⟩;obtain⟨i,hi⟩:=Bk hy;have hlt:i<fs.length:=by rw[Ao hg];exact (Av.mp hi).1
   obtain⟨y',hy',z⟩:=Paired.nth hg (Ag hlt);rw[hi] at hy';cases hy';exact (qx N z).2
  | call x c vs =>
   obtain⟨g,hg,rfl,hl,hv,hx⟩:=hp;have hx2:x="" \/ x∈own:=by
    rcases hx with⟨_,z⟩|⟨_,z⟩
    . exact .inl z
    . exact .inr (Bq z)
   have hg4:=(hh g hg).2;exact⟨by rcases hx2 with rfl|z;exact gh _ (by simp);exact fu (N x z),hx2.imp id (N x),fu (hh g hg).1,(hh g hg).1,by omega,fun y hy=>(i9 N (hv y hy)).2,fun y hy=>(i9 N (hv y hy)).1⟩
 | cond r a b hr ha hb iha ihb =>
  obtain⟨f1,f2,f3⟩:=iq N hr;exact .cond r a b ⟨by omega,f3⟩ (by omega) f1 iha ihb
 | loop r F P a hr hF hP lF lP ha iha =>
  obtain⟨f1,f2,f3⟩:=iq N hr;obtain⟨t1,t2,_⟩:=su N (by omega) hF hP lF lP;exact .loop r F P a ⟨by omega,f3⟩ (by omega) f1 t1 t2 iha
end
end K40
namespace L2
open PyProof.Rows
section
variable{P:IC}{w:IF}{A:IK}{E:HX->HZ->Prop}{s:HZ}
set_option maxHeartbeats 16000000 in
theorem wt{l:HW}{items:Array HX}{xs:List Str}{Q:HX->HZ->Prop}(hh:A.handled=none)(hl:s.heap.IsTuple l items)(hi:StrsAre items.toList xs)(hb:items.size+1<scanBound)(h:∀(h':IJ) (tk:Nat) (ss:List Str),SSet P w h' s.heap.objs.size ss->Dd xs ss->(∀b o,b<s.heap.objs.size->s.heap.get? b=some o->h'.get? b=some o)->Q (.ref s.heap.objs.size) {s with heap:=h',toks:=tk}):
 IB (ID P w) A (call (.type "set") [.ref l]) Q E s:=by
 obtain⟨c,tl,hmro⟩:=Bj.mro;have hmade:=Bj.made;have hsub:=Bj.sub;refine Hg (EX ?_);show IB _ _ (callAny (.type "set") _) _ _ _;refine Ai ⟨FY _ (by decide),Cf ER ?_⟩;rw[FZ (Fq "set" [.ref l] []) rfl];have h1:=Bj.notType;have h2:=Bj.canCreate;have hct:=Fi (.ref l)
 repeat (any_goals (first|assumption|wp_step))
 refine CH (nj (.ref l) (E:=E) (Q₁:=fun obj s₁=>obj=.ref s.heap.objs.size/\s₁={s with heap:=s.heap.push {cls:=.type "set",dict:=none,data:=.set #[] 0 (.fresh 0 0 (!w.params.followText "set-order"))}}) ⟨rfl,rfl⟩) fun r s₁ hr=>?_;cases r with
 | error e=>exact hr
 | ok fl =>
  cases fl with
  | ret obj =>
   obtain⟨rfl,rfl⟩:=hr;generalize hled:(!w.params.followText "set-order")=led;have hS:(s.heap.push {cls:=.type "set",dict:=none,data:=.set #[] 0 (.fresh 0 0 led)}).get? s.heap.objs.size=some {cls:=.type "set",dict:=none,data:=.set #[] 0 (.fresh 0 0 led)}:=AE _ rfl;have hT:Ew {s with heap:=s.heap.push {cls:=.type "set",dict:=none,data:=.set #[] 0 (.fresh 0 0 led)}} (.ref s.heap.objs.size) "set" := ⟨_,hS,rfl⟩
   have hli:=Bj.init.lookup;have hbi:=Bj.init.bind (.ref s.heap.objs.size)
   repeat (any_goals (first|assumption|wp_step))
   refine CH (DW (R:=wants (fun r s₂=>r=.none/\∃h' tk ss,s₂={s with heap:=h',toks:=tk}/\SSet P w h' s.heap.objs.size ss/\Dd xs ss/\
    (∀b o,b<s.heap.objs.size->s.heap.get? b=some o->h'.get? b=some o)) E) Bj.init.plain Fj (GO hT ?_)) fun r₂ s₂ hr₂=>?_
   . obtain⟨ol,hol,hcl,nl,hdl⟩:=hl;obtain⟨ocls,odict,odata,oslots⟩:=ol;simp only at hcl hdl;subst hcl;subst hdl;have hol':(s.heap.push {cls:=.type "set",dict:=none,data:=.set #[] 0 (.fresh 0 0 led)}).get? l=some {cls:=.type "tuple",dict:=odict,data:=.seq items nl,slots:=oslots}:=Af _ hol;have hsls:=PySem.F.sub_tuple_set;have hslf:=PySem.F.sub_tuple_frozenset;have hne:(Value.type "tuple"==Value.type "dict")=false:=by decide
     have hl1:(s.heap.push {cls:=.type "set",dict:=none,data:=.set #[] 0 (.fresh 0 0 led)}).IsTuple l items:=⟨_,hol',rfl,nl,rfl⟩
     unfold Builtin.«set.__init__» noKeywords Eg;generalize hPI:pyIter=PI
     wp_walk
     subst hPI;refine Ds hl1 ?_;refine Ad (Ft ?_);have hlS:l<s.heap.objs.size:=AC hol;have hh3:A.in1.in1.in1.handled=none:=by simp[hh]
     have hneI:l≠(s.heap.push {cls:=.type "set",dict:=none,data:=.set #[] 0 (.fresh 0 0 led)}).objs.size:=by
      rw[Bs];exact AL (BR hlS)
     have hSf:s.heap.objs.size∉[(s.heap.push {cls:=.type "set",dict:=none,data:=.set #[] 0 (.fresh 0 0 led)}).objs.size,l]:=by
      rw[Bs];simp only[Am,Ax,Au,or_false,not_or];exact⟨AL (Dh _),BW hlS⟩
     have hlen:xs.length=items.size:=by have:=hi.length;simpa using this.symm
     have hval:∀(i:Nat) (v:HX),items[i]?=some v->∃x t,xs[i]?=some x/\v=.str x t:=fun i v hv=>wj hi i v (by rw[BK];exact hv);refine o0 ((Walks.tuple hh3 _ l hneI items).toS) s.heap.objs.size hSf xs hlen hval hb (items.size-0) 0 _ [] (by omega) (AG _)
      ⟨⟨_,AE _ rfl,rfl,rfl⟩,(hl1.push _)⟩ ?hS0 (by rw[Eh];exact .nil) ?hR
     case hS0 =>
      have hget:((s.heap.push {cls:=.type "set",dict:=none,data:=.set #[] 0 (.fresh 0 0 led)}).push {cls:=.type "tuple_iterator",data:=.fields #[.ref l,.int 0 0]}).get? s.heap.objs.size
       =some {cls:=.type "set",dict:=none,data:=.set #[] 0 (.fresh 0 0 led)}:=Af _ hS
      exact⟨_,#[],0,_,hget,⟨rfl,rfl,rfl⟩,rfl,fun e he=>by simp at he,rfl,Fo,by decide,by rfl,hled.symm,fun q=>absurd q (by simp)⟩
     case hR =>
      intro s' ss' hm hS' hd';obtain⟨h',g',d',tk',os'⟩:=s';have eg:g'=s.gens:=hm.gens;have ed:d'=s.drawn:=hm.drawn;have eo:os'=s.os:=hm.os;subst eg;subst ed;subst eo;show IB _ _ _ _ _ _;refine Ai ?_;show IB _ _ (ret Value.none) _ _ _;refine Ai ⟨rfl,h',tk',ss',rfl,hS',hd',fun b o hb e=>?_⟩;have hb1:b≠s.heap.objs.size:=AL hb;have hb2:b≠(s.heap.push {cls:=.type "set",dict:=none,data:=.set #[] 0 (.fresh 0 0 led)}).objs.size:=by
       rw[Bs];exact AL (BR hb)
      exact hm.heap b o (by simp only[Am,Ax,Au,or_false,not_or];exact⟨hb1,hb2⟩) (Af _ (Af _ e))
   . cases r₂ with
     | error e=>exact hr₂
     | ok fl₂ =>
      cases fl₂ with
      | ret r =>
       obtain⟨rfl,h',tk,ss,rfl,hS',hd',hk'⟩:=hr₂
       repeat (any_goals (first|assumption|wp_step))
       exact h _ _ ss hS' hd' hk'
      | _=>exact hr₂.elim
  | _=>exact hr.elim
end
section
variable{X:Cx}
theorem a4i(hc:X.calm=true):dz X (.type "set") (fun vs H Q=>∃(a:HW) (xs:List Str),vs=[.ref a]/\SqT X.K H a (xs.map V.str)/\xs.length+1<scanBound/\
 ∀p ss,H p=none->Dd xs ss->Q (.ref p) (upd H p (SetO X.prog X.w p ss))):=by
 intro pins s σ H vs us Q I r h;obtain⟨a,xs,rfl,hq,hz,q⟩:=h;obtain⟨u,rfl,ru⟩:=r.one;cases ru;obtain⟨its,rv,p,_⟩:=I.tuple hq;have hs:=qw rv;have hl:its.length=xs.length:=hs.length;refine wt (I.ok.hd hc) (show s.heap.IsTuple a its.toArray from p) (by simpa using hs) (by rw[AB,hl];exact hz) fun h' tk ss hS hd hk=>?_;have fr:H s.heap.objs.size=none:=I.hok.fresh (Ar _);refine⟨.ref s.heap.objs.size,upd H s.heap.objs.size (SetO X.prog X.w s.heap.objs.size ss),I.laid (t':=tk) (fun b o e=>hk b o (AC e) e) (Ar _) ⟨hS,?_,fun h1 h2 h3 k=>?_⟩,rfl,q _ ss fr hd⟩
 . obtain⟨o,_,_,_,ho,_⟩:=hS;exact⟨o,ho⟩
 . exact SSet.at h3 k
theorem yc:dz X (.builtin "len") (fun vs H Q=>∃(a:HW) (ss:List Str),vs=[.ref a]/\H a=some (SetO X.prog X.w a ss)/\Q (.int (ss.length:Nat)) H):=by
 intro pins s σ H vs us Q I r h;obtain⟨a,ss,rfl,hq,q⟩:=h;obtain⟨u,rfl,ru⟩:=r.one;cases ru;have hS:SSet X.prog X.w s.heap a ss:=(I.hok a _ hq).1;obtain⟨o,es,ep,t,ho,hx,hd,_,he,_,hb,hf,_⟩:=hS;have hl:ss.length=es.size:=by rw[<- he,Ab];simp
 rw[hl] at q;have h9:scanBound<=1000000000:=by decide
 exact PySem.call_len_set ho hx hd hf (by omega) ⟨.int (es.size:Nat),H,I.tok _,⟨_,rfl⟩,q⟩
end
end L2
namespace K40
open L2 Mir
variable{P:IC}{w:IF}{K:Ac}{mg:Str->Option HX}{base:IJ}{f g gA gF gP gN gS gW gI gV gM gR gT gC gB gD gH gK gG gY:HW}{fd gd dA dF dP dN dS dW dI dV dM dR dT dC dB dD dH dK dG dY:II}
abbrev vq:IP:=top 42
structure CkH(p:Prc):Prop where
 name:b8 p.name=true
 ps:∀y∈p.ps,b8 y=true
 few:p.ps.length<=4
 nd:p.ps.Nodup
 no:¬ p.res∈p.ps
 res:p.res="" \/ b8 p.res=true
 t1:jd [p.F1,p.P1]/\fz [p.F1,p.P1]
 t2:jd [p.F2,p.P2]/\fz [p.F2,p.P2]
inductive spIsHead(K:Ac)(bs:List Nat)(vs:List V)(H:Hp)(Q:VK)(E:XK):Prop
 | mk (t:HW)(p:Prc)(h0:vs=[.ref t])(h1:PrcAt K H bs t p)(hc:CkH p)(q:∀H',Same H H'->Q (.bl true) H'):spIsHead K bs vs H Q E
section
variable{P:IC}{w:IF}{K:Ac}{mg:Str->Option HX}{base:IJ}{f gM gS gT:HW}{fd dM dS dT:II}{bs:List Nat}
theorem scIsHead:FnScope ["procedure","params"] ["procedure"] (b7 vq):=⟨rfl,rfl,rfl,by decide,rfl,by decide,by decide⟩
theorem a5u(C:Con K mg w)(F:Fun K "is_head" "is_head" vq f fd)(GM:FnOk P w K mg base CX0 3 gM dM ["sort","word"] spMay)(cM:Cal K mg "may_stand" gM dM ["sort","word"])(GS:FnOk P w K mg base CX0 4 gS dS ["sort","words"] (spSort K))(cS:Cal K mg "are_of_sort" gS dS ["sort","words"])(GT:FnOk P w K mg base CX0 4 gT dT ["telling"] (zz K ig))(cT:Cal K mg "is_telling" gT dT ["telling"]):FnOk P w K mg base CX0 5 f fd ["procedure"] (spIsHead K bs):=by
 refine F.okQ scIsHead (fun vs H Q E h=>?_) (fun cdv A outer s0 H vs Q E hr h=>?_)
 . obtain⟨t,p,rfl,_⟩:=h;rfl
 obtain⟨t,p,rfl,⟨pt,t1,t2,f1,p1,f2,p2,bd,x⟩,hc,q⟩:=h;have nd:=scIsHead.nd;have hr3:=hr.mono (j:=3) (by omega);refine⟨_,ae (bf (QW.qt (jk (fh (fm (aw ib rfl C.isi Ba (af (qv 0) (af ⟨gty C.tuple Bx⟩ aa))))) (je (ax jq (aw ap rfl C.len Ap (af (qv 0) aa)) ac (ay _))))) (aj (az ge)) bm)
  (ae (av (i:=1) nd rfl (Or.inl rfl) (ag ao (qv 0) ac (fun _ _=>rfl)))
  (ae (bf (QW.qt (jk (fh (fm (ak GM hr3 rfl cM.name cM.keep cM.bind .nil au (ba (ar (ag ao (qv 0) ac (fun _ _=>rfl)) aa))))) (je (fh (fm (ak GS hr rfl cS.name cS.keep cS.bind .nil au (ba (af (qv 1) aa)))))))) (aj (az ge)) bm)
  (ae (bf (QW.qt (jk (ax kg (aw ap rfl C.len Ap (af (qv 1) aa)) (qe_g C.mostParams) (ay _)) (jk (ax o8 (aw yc rfl C.len Ap (be (cg (a4i rfl) rfl C.set Dc (af (qv 1) aa)) aa)) (aw ap rfl C.len Ap (af (qv 1) aa)) (ay _)) (je (ax gw (ag ao (qv 0) ac (fun _ _=>rfl)) (qv 1) (by with_unfolding_all rfl)))))) (aj (az ge)) bm)
  (ae (bf (QW.qt (ia (ax jq (ag ao (qv 0) ac (fun _ _=>rfl)) bv (ay _)) (ie (fh (fm (ak GM hr3 rfl cM.name cM.keep cM.bind .nil au (ba (ar (ag ao (qv 0) ac (fun _ _=>rfl)) aa)))))))) (aj (az ge)) bm)
  (aj (az (jm (ak GT hr rfl cT.name cT.keep cT.bind .nil au (ar (ag ao (qv 0) ac (fun _ _=>rfl)) aa)) (kr (ak GT hr rfl cT.name cT.keep cT.bind .nil au (ar (ag ao (qv 0) ac (fun _ _=>rfl)) aa)))))))))),?_⟩
 have ps6:p.ps.length<=6:=by have:=hc.few;omega
 refine b9 (a:=tIfS _ _ _) fun D1 hN1 _ _=>?_;refine⟨_,rfl,t,_,rfl,SqT.of x.tup,_,rfl,(if_neg (by simp)).mpr ?_⟩;refine⟨_,rfl,t,_,rfl,.inr (SqT.of x.tup),rfl,_,rfl,?_⟩;refine (if_neg (by simp)).mpr (hN1 _ _ ?_);refine b9 (a:=tAsg _ _) fun D2 hN2 _ _=>?_;refine⟨_,rfl,t,_,1,_,rfl,rfl,SqT.of x.tup,rfl,?_⟩;refine hN2 [some (.ref t),some (.ref pt)] _ ?_;refine b9 (a:=tIfS _ _ _) fun D3 hN3 _ _=>?_;refine⟨_,rfl,t,_,0,_,rfl,rfl,SqT.of x.tup,rfl,_,_,rfl,fu hc.name,.inr (.inl ⟨rfl,hc.name⟩),fun H1 e1=>⟨_,rfl,(if_neg (by simp)).mpr ?_⟩⟩;refine⟨_,rfl,_,pt,p.ps,rfl,SqT.of (e1 _ _ x.pt),by omega,fun y hy=>fu (hc.ps y hy),fun y hy=>.inr (.inl ⟨rfl,hc.ps y hy⟩),fun H2 e2'=>⟨_,rfl,(if_neg (by simp)).mpr (hN3 _ _ ?_)⟩⟩;have e2:=e1.trans e2';refine b9 (a:=tIfS _ _ _) fun D4 hN4 _ _=>?_;refine⟨_,rfl,pt,_,rfl,.inr (SqT.of (e2 _ _ x.pt)),_,_,rfl,rfl,_,rfl,?_⟩;rw[decide_eq_false (by rw[Ab];have:=hc.few;omega)];refine (if_neg An).mpr ?_;refine⟨_,rfl,pt,p.ps,rfl,SqT.of (e2 _ _ x.pt),AO (show p.ps.length+1<=7 by omega) (by decide),fun st ss hst hd=>?_⟩;have s3:=ad hst (SetO P w st ss);have k3:(upd H2 st (SetO P w st ss)) st=some (SetO P w st ss):=ab;change (fun H'=>_) (upd H2 st (SetO P w st ss));generalize upd H2 st (SetO P w st ss)=H3 at s3 k3 |-;have e3:=e2.trans s3;have hsl:ss.length=p.ps.length:=((Dk hd.nodup hc.nd).mpr hd.mem).length_eq;refine⟨st,ss,rfl,k3,_,rfl,pt,_,rfl,.inr (SqT.of (e3 _ _ x.pt)),_,_,rfl,rfl,_,rfl,?_⟩;rw[decide_eq_false (by rw[Ab,hsl];omega)];refine (if_neg An).mpr ?_;refine⟨_,rfl,t,_,2,_,rfl,rfl,SqT.of (e3 _ _ x.tup),rfl,_,rfl,pt,_,rfl,.inr (SqT.of (e3 _ _ x.pt)),rfl,ee _,_,rfl,?_⟩;have ein:inV (.str p.res) (p.ps.map V.str)=false:=by rw[dm];exact decide_eq_false hc.no
 rw[ein];refine (if_neg An).mpr (hN4 _ _ ?_);refine b9 (a:=tIfS _ _ _) fun D5 hN5 _ _=>?_;have rest:∀H4,Same H H4->D5.nx [some (.ref t),some (.ref pt)] H4:=fun H4 e4=>by
  refine hN5 _ _ ?_;refine⟨_,rfl,t,_,3,_,rfl,rfl,SqT.of (e4 _ _ x.tup),rfl,t1,[p.F1,p.P1],rfl,⟨[f1,p1],SqT.of (e4 _ _ x.t1),.cons (x.f1.same e4) (.cons (x.p1.same e4) .nil)⟩,hc.t1.1,fun H5 e5=>⟨_,rfl,?_⟩⟩;rw[jp hc.t1.2];refine (if_pos rfl).mpr ?_;have e5:=e4.trans e5;refine⟨_,rfl,t,_,4,_,rfl,rfl,SqT.of (e5 _ _ x.tup),rfl,t2,[p.F2,p.P2],rfl,⟨[f2,p2],SqT.of (e5 _ _ x.t2),.cons (x.f2.same e5) (.cons (x.p2.same e5) .nil)⟩,hc.t2.1,fun H6 e6=>?_⟩;rw[jp hc.t2.2];exact q H6 (e5.trans e6)
 refine⟨_,rfl,t,_,2,_,rfl,rfl,SqT.of (e3 _ _ x.tup),rfl,rfl,_,rfl,iteB (fun c=>?_) (fun c=>?_)⟩
 . have nx:p.res≠"" := fun z=>by rw[z] at c;exact absurd c (by decide)
   have hn:=hc.res.resolve_left nx;exact⟨_,rfl,t,_,2,_,rfl,rfl,SqT.of (e3 _ _ x.tup),rfl,_,_,rfl,fu hn,.inr (.inl ⟨rfl,hn⟩),fun H4 e4=>⟨_,rfl,(if_neg (by simp)).mpr (rest H4 (e3.trans e4))⟩⟩
 . exact (if_neg (by simp)).mpr (rest H3 e3)
end
abbrev a2n:IP:=top 43
structure CkN(bs:List Nat)(p:Prc):Prop where
 w1:∀y∈words (p.F1++p.P1),y∈p.ps
 w2:∀y∈words (p.F2++p.P2),y∈p.ps++[p.res]
 giv:∀d∈allL bs p.body,∀(k:Str) (r:List Str),d=.plain (.row (k::r))->k∈[("set":Str),"read","new"]->∃x r2,r=x::r2/\¬ x∈p.ps
 gic:∀d∈allL bs p.body,∀x c vs,d=.plain (.call x c vs)->¬ x∈p.ps
 few:∀zs:List Str,zs.Nodup->(∀y∈zs,b8 y=true/\y∈allW bs p)->zs.length<=6
inductive spHasN(K:Ac)(bs:List Nat)(vs:List V)(H:Hp)(Q:VK)(E:XK):Prop
 | mk (t:HW)(p:Prc)(xs:List Str)(h0:vs=[.ref t])(h1:PrcAt K H bs t p)(h2:PrcOk bs xs p)(hc:CkN bs p)(q:∀H',Same H H'->Q (.bl true) H'):spHasN K bs vs H Q E
section
variable{P:IC}{w:IF}{K:Ac}{mg:Str->Option HX}{base:IJ}{f gN gA gI:HW}{fd dN dA dI:II}{n:Nat}{bs:List Nat}
theorem scHasN:FnScope ["procedure","params","deed"] ["procedure"] (b7 a2n):=⟨rfl,rfl,rfl,by decide,rfl,by decide,by decide⟩
theorem a8u(hn:1<=n)(C:Con K mg w)(F:Fun K "has_its_names" "has_its_names" a2n f fd)(GN:FnOk P w K mg base CX0 1 gN dN ["telling"] (p8 K))(cN:Cal K mg "names_of" gN dN ["telling"])(GA:FnOk P w K mg base CX0 n gA dA ["deeds"] (spAll K bs))(cA:Cal K mg "all_deeds" gA dA ["deeds"])(GI:FnOk P w K mg base CX0 n gI dI ["procedure"] (spNamesIn K bs))(cI:Cal K mg "names_in" gI dI ["procedure"]):FnOk P w K mg base CX0 (n+1) f fd ["procedure"] (spHasN K bs):=by
 refine F.okQ scHasN (fun vs H Q E h=>?_) (fun cdv A outer s0 H vs Q E hr h=>?_)
 . obtain⟨t,p,xs,rfl,_⟩:=h;rfl
 obtain⟨t,p,xs,rfl,hPA,hok,hc,q⟩:=h;have hPA2:=hPA;obtain⟨pt,t1,t2,f1,p1,f2,p2,bd,x⟩:=hPA;have nd:=scHasN.nd;have hr1:=hr.mono (j:=1) (by omega);obtain⟨aG,gG,tG⟩:=C.giving;refine⟨_,ae (av (i:=1) nd rfl (Or.inr rfl) (cg de rfl C.list AQ (ar (ag ao (qv 0) ac (fun _ _=>rfl)) aa)))
  (ae (bf (fh (fm (aw (du rfl) rfl C.all AZ (dh (ij ["name","params"] [1] (bz (ak GN hr1 rfl cN.name cN.keep cN.bind .nil au (ar (ag ao (qv 0) ac (fun _ _=>rfl)) aa))) (fun _ _ _ _=>db) (fun _ _ _ _=>(gr (a1g (K:=K) rfl) (qv 0) (qv 1) (by with_unfolding_all rfl)))) aa)))) (aj (az ge)) bm)
  (ae (bf (fh (fm (aw (du rfl) rfl C.all AZ (dh (ij ["name","procedure","params"] [0,1] (bz (ak GN hr1 rfl cN.name cN.keep cN.bind .nil au (ar (ag ao (qv 0) ac (fun _ _=>rfl)) aa))) (fun _ _ _ _=>db) (fun _ _ _ _=>(gr (a1g (K:=K) rfl) (qv 0) (am ce (qv 2) (bb (ar (ag (ixTK (K:=K) rfl) (qv 1) ac (fun _ _=>rfl)) aa))) (by with_unfolding_all rfl)))) aa)))) (aj (az ge)) bm)
  (ae (dq AS rfl (bz (ak GA hr rfl cA.name cA.keep cA.bind .nil au (ar (ag ao (qv 0) ac (fun _ _=>rfl)) aa))) (bj (i:=2) nd rfl (Or.inl rfl)) (aj (bf (QW.qt (ia (ax gw (ag ao (qv 2) ac (fun _ _=>rfl)) (qe_g gG) (by with_unfolding_all rfl)) (ie (ax gw (ag ao (qv 2) ac (fun _ _=>rfl)) (qv 1) (by with_unfolding_all rfl))))) (aj (az ge)) bm)))
  (aj (az (gr yg (aw ap rfl C.len Ap (be (ak GI hr rfl cI.name cI.keep cI.bind .nil au (af (qv 0) aa)) aa)) (qe_g C.mostNamesP) (ay _))))))),?_⟩
 have ps8:=hok.ps.1;refine b9 (a:=tAsg _ _) fun D1 hN1 _ _=>?_;refine⟨_,rfl,t,_,1,_,rfl,rfl,SqT.of x.tup,rfl,pt,_,rfl,.inr (SqT.of x.pt),fun pl hpl=>?_⟩;have s1:=ad hpl (.lst (p.ps.map V.str));have k1:(upd H pl (.lst (p.ps.map V.str))) pl=some (.lst (p.ps.map V.str)):=ab;change D1.nx _ (upd H pl (.lst (p.ps.map V.str)));generalize upd H pl (.lst (p.ps.map V.str))=H1 at s1 k1 |-;refine hN1 [some (.ref t),some (.ref pl),none] _ ?_;refine b9 (a:=tIfS _ _ _) fun D2 hN2 _ _=>?_;refine⟨_,rfl,t,_,3,_,rfl,rfl,SqT.of (s1 _ _ x.tup),rfl,t1,p.F1,p.P1,rfl,⟨[f1,p1],SqT.of (s1 _ _ x.t1),.cons (x.f1.same s1) (.cons (x.p1.same s1) .nil)⟩,hok.t1.f,hok.t1.p,hok.t1.ne,(fun ss h1 h2=>AO (hok.t1.few hok.len h1 h2) (by decide)),fun n1 zs H2 hn1 e2' k2 hzn hzm hzs=>?_⟩;have e2:=s1.trans e2';have hzl:=hok.t1.few hok.len hzn fun y hy=>(hzm y).mp hy;refine⟨n1,rfl,⟨_,SqL.of k2⟩,?_⟩;refine gq (zs.map V.str) zs (fun _=>true) cs (SqL.of k2) (by rw[Ab];omega) (by rw[Ab]) (fun i v r hx hr' H3 e3 Q' q'=>?_) (fun D H3 hD e3' hd=>?_)
 . rw[Ah,hr'] at hx;cases hx;have ein:inV (.str r) (p.ps.map V.str)=true:=by rw[dm];exact decide_eq_true (hc.w1 r ((hzm r).mp (Ak hr')))
   refine⟨_,rfl,_,rfl,pl,_,rfl,.inl (SqL.of (e3 _ _ (e2' _ _ k1))),rfl,ee _,?_⟩;show Q' (.bl (inV (.str r) (p.ps.map V.str))) H3;rw[ein];exact q' H3 (Same.refl _)
 refine⟨D,_,rfl,SqL.of hd,?_⟩;rw[jh];refine⟨_,rfl,(if_neg (by simp)).mpr (hN2 _ _ ?_)⟩;have e3:=e2.trans e3';have k3:=e3' _ _ (e2' _ _ k1);refine b9 (a:=tIfS _ _ _) fun D3 hN3 _ _=>?_;refine⟨_,rfl,t,_,4,_,rfl,rfl,SqT.of (e3 _ _ x.tup),rfl,t2,p.F2,p.P2,rfl,⟨[f2,p2],SqT.of (e3 _ _ x.t2),.cons (x.f2.same e3) (.cons (x.p2.same e3) .nil)⟩,hok.t2.f,hok.t2.p,hok.t2.ne,(fun ss h1 h2=>AO (hok.t2.few hok.len h1 h2) (by decide)),fun n2 ws H4 hn2 e4' k4 hwn hwm hws=>?_⟩;have e4:=e3.trans e4';have hwl:=hok.t2.few hok.len hwn fun y hy=>(hwm y).mp hy;refine⟨n2,rfl,⟨_,SqL.of k4⟩,?_⟩;refine gq (ws.map V.str) ws (fun _=>true) cs (SqL.of k4) (by rw[Ab];omega) (by rw[Ab]) (fun i v r hx hr' H5 e5 Q' q'=>?_) (fun D' H5 hD' e5' hd'=>?_)
 . rw[Ah,hr'] at hx;cases hx;have ein:inV (.str r) ((p.ps++[p.res]).map V.str)=true:=by rw[dm];exact decide_eq_true (hc.w2 r ((hwm r).mp (Ak hr')))
   refine⟨_,rfl,_,rfl,_,rfl,t,_,2,_,rfl,rfl,SqT.of (e5 _ _ (e4 _ _ x.tup)),rfl,(show 1<=HY by decide),fun l6 hl6=>?_⟩;have s6:=ad hl6 (.lst [.str p.res]);have k6:(upd H5 l6 (.lst [.str p.res])) l6=some (.lst [.str p.res]):=ab;generalize upd H5 l6 (.lst [.str p.res])=H6 at s6 k6 |-;refine⟨pl,l6,_,_,rfl,rfl,s6 _ _ (e5 _ _ (e4' _ _ k3)),k6,bx (by rw[Ab];show _+1<=1000;omega),fun l7 hl7=>?_⟩;have s7:=ad hl7 (.lst (p.ps.map V.str++[.str p.res]));have k7:(upd H6 l7 (.lst (p.ps.map V.str++[.str p.res]))) l7=some (.lst ((p.ps++[p.res]).map V.str)):=by rw[ab,Al];rfl
   generalize upd H6 l7 (.lst (p.ps.map V.str++[.str p.res]))=H7 at s7 k7 |-;refine⟨l7,_,rfl,.inl (SqL.of k7),rfl,ee _,?_⟩;show Q' (.bl (inV (.str r) ((p.ps++[p.res]).map V.str))) H7;rw[ein];exact q' H7 (s6.trans s7)
 refine⟨D',_,rfl,SqL.of hd',?_⟩;rw[jh];refine⟨_,rfl,(if_neg (by simp)).mpr (hN3 _ _ ?_)⟩;have e5:=e4.trans e5';have k5:=e5' _ _ (e4' _ _ k3);refine b9 (a:=tFor _ _ _) fun D4 hN4 _ _=>?_;have few100:(allL bs p.body).length<=100:=by have:=hok.few;omega
 refine⟨_,rfl,t,_,5,_,rfl,rfl,SqT.of (e5 _ _ x.tup),rfl,H5,bd,p.body,rfl,Same.refl _,x.body.same e5,few100,fun al us H6 e6' hal k6 hds=>?_⟩;have e6:=e5.trans e6';refine⟨al,rfl,⟨_,SqL.of k6⟩,?_⟩;have hul:=Ao hds;refine et (xs:=us.map V.ref) (fun i σ H'=>Same H6 H'/\∃z2,σ=[some (.ref t),some (.ref pl),z2]) ⟨Same.refl _,none,rfl⟩ (fun i σ H' _ z=>SqL.of (z.1 _ _ k6)) ?_ ?_
 . rintro i v σ H7 hv ⟨e7',z2,rfl⟩;rw[Ah] at hv;obtain⟨td,htd,rfl⟩:=AK.mp hv;obtain⟨d,hd,hD⟩:=Paired.nth hds htd;have hdm:=Ak hd;have e57:=e6'.trans e7';have hD7:=hD.same e57;have k7:=e57 _ _ k5;have skip:∀H8,Same H7 H8->(Same H6 H8/\∃z2,[some (V.ref t),some (V.ref pl),some (V.ref td)]=[some (.ref t),some (.ref pl),z2]):=fun H8 e8=>⟨e7'.trans e8,_,rfl⟩
   have giv:∀(w':Str) (vs:List V),H7 td=some (.tup (.str w'::vs))->(w'∈[("set":Str),"read","new","call"]->∃(x':Str) (r:List V),vs=.str x'::r/\¬ x'∈p.ps)->∀Q2:Bool->Hp->Prop,Q2 false H7->tAnd (kq (tOp (rIn K false) (tOp (rIxT K) (tVar 2) (tC (.int 0))) (tC (.ref aG)))) (kq (tOp (rIn K false) (tOp (rIxT K) (tVar 2) (tC (.int 1))) (tVar 1))) [some (V.ref t),some (V.ref pl),some (V.ref td)] H7 Q2:=fun w' vs hw hg Q2 q2=>by
    refine⟨_,rfl,td,_,0,.str w',rfl,rfl,SqT.of hw,at0,?_⟩;refine⟨aG,_,rfl,.inr (tG _),rfl,ee _,_,rfl,iteB (fun c=>?_) (fun _=>q2)⟩;have c':inV (.str w') (([("set":Str),"read","new","call"]:List Str).map V.str)=true:=c;rw[dm] at c';obtain⟨x',r,rfl,hx'⟩:=hg (of_decide_eq_true c');refine⟨_,rfl,td,_,1,.str x',rfl,rfl,SqT.of hw,dv (j:=1) rfl,_,rfl,?_⟩;refine⟨pl,_,rfl,.inl (SqL.of k7),rfl,ee _,_,rfl,?_⟩;rw[show inV (.str x') (p.ps.map V.str)=false by rw[dm];exact decide_eq_false hx'];exact q2
   dsimp only[bp];cases hD7 with
   | plain pl' h1 h2 =>
    cases pl' with
    | call x' c vs =>
     obtain⟨v',h1,_⟩:=h1;refine giv "call" _ h1 (fun _=>⟨x',_,rfl,hc.gic _ hdm x' c vs rfl⟩) _ ?_;exact (if_neg An).mpr (skip H7 (Same.refl _))
    | row r =>
     obtain⟨⟨k',r',fs,rfl,hf,hfl⟩,_⟩:=h2;have h1':H7 td=some (.tup (.str k'::r'.map V.str)):=h1;refine giv k' _ h1' (fun z=>?_) _ ?_
     . obtain⟨n1,n2,n3⟩:=jv _ hf;have z3:k'∈[("set":Str),"read","new"]:=by
        simp only[Am,Au,or_false] at z |-;rcases z with z|z|z|z
        . exact .inl z
        . exact .inr (.inl z)
        . exact .inr (.inr z)
        . exact absurd z n3
       obtain⟨x',r2,rfl,hx'⟩:=hc.giv _ hdm k' r' rfl z3;exact⟨x',_,rfl,hx'⟩
     . exact (if_neg An).mpr (skip H7 (Same.refl _))
   | cond c i' o r a b h hcr okr hi ho =>
    refine giv "if" _ h (fun z=>absurd z (by decide)) _ ?_;exact (if_neg An).mpr (skip H7 (Same.refl _))
   | loop c td' i' fa pa r F' P' a h hcr okr htd' hF hP okF okP lF lP hi =>
    refine giv "while" _ h (fun z=>absurd z (by decide)) _ ?_;exact (if_neg An).mpr (skip H7 (Same.refl _))
 . rintro σ H7 ⟨e7',z2,rfl⟩;have e7:=e6.trans e7';refine hN4 _ _ ?_;refine⟨_,rfl,H7,t,p,xs,rfl,Same.refl _,hPA2.same e7,hok,fun l zs' H8 e8 hl8 k8 zn zso zm=>?_⟩;refine⟨l,_,rfl,.inl (SqL.of k8),_,_,rfl,rfl,?_⟩;have hf:=hc.few zs' zn fun y hy=>(zm y).mp hy;show Q (.bl (decide (((zs'.map V.str).length:Int)<=6))) H8;rw[decide_eq_true (by rw[Ab];omega)];exact q H8 (e7.trans e8)
end
abbrev zo:IP:=top 44
abbrev wf:IP:=top 45
inductive spFinds(K:Ac)(bs:List Nat)(vs:List V)(H:Hp)(Q:VK)(E:XK):Prop
 | mk (t v c:HW)(x cn:Str)(ys:List Str)(p:Prc)(h0:vs=[.ref t,.ref c])(h1:H t=some (.tup [.str "call",.str x,.str cn,.ref v]))(h2:H v=some (.tup (ys.map V.str)))(h3:PrcAt K H bs c p)(hl:ys.length=p.ps.length)(hx:x="" ↔ p.res="")(q:∀H',Same H H'->Q (.bl true) H'):spFinds K bs vs H Q E
inductive spIsProc(K:Ac)(bs:List Nat)(vs:List V)(H:Hp)(Q:VK)(E:XK):Prop
 | mk (t:HW)(p:Prc)(xs:List Str)(h0:vs=[.ref t])(h1:PrcAt K H bs t p)(hH:CkH p)(hD:∀d∈p.body,CkD d)(h2:PrcOk bs xs p)(hN:CkN bs p)(hb:bs.length<=5)(q:∀H',Same H H'->Q (.bl true) H'):spIsProc K bs vs H Q E
section
variable{P:IC}{w:IF}{K:Ac}{mg:Str->Option HX}{base:IJ}{f gH gD gN:HW}{fd dH dD dN:II}{n m l:Nat}{bs:List Nat}
theorem scFinds:FnScope ["deed","called"] ["deed","called"] (b7 zo):=⟨rfl,rfl,rfl,by decide,rfl,by decide,by decide⟩
theorem a6p(C:Con K mg w)(F:Fun K "finds_procedure" "finds_procedure" zo f fd):FnOk P w K mg base CX0 1 f fd ["deed","called"] (spFinds K bs):=by
 refine F.okQ scFinds (fun vs H Q E h=>?_) (fun cdv A outer s0 H vs Q E hr h=>?_)
 . obtain⟨t,v,c,x,cn,ys,p,rfl,_⟩:=h;rfl
 obtain⟨t,v,c,x,cn,ys,p,rfl,h1,h2,⟨pt,t1,t2,f1,p1,f2,p2,bd,z⟩,hl,hx,q⟩:=h;have nd:=scFinds.nd;refine⟨_,(aj (az (jm (gr bo (aw ap rfl C.len Ap (ar (ag ao (qv 0) ac (fun _ _=>rfl)) aa)) (aw ap rfl C.len Ap (ar (ag ao (qv 1) ac (fun _ _=>rfl)) aa)) (ay _)) (kr (gr bo (gr bo (ag ao (qv 0) ac (fun _ _=>rfl)) bv (ay _)) (gr bo (ag ao (qv 1) ac (fun _ _=>rfl)) bv (ay _)) (ay _)))))),?_⟩;refine⟨_,rfl,t,_,3,_,rfl,rfl,SqT.of h1,rfl,v,_,rfl,.inr (SqT.of h2),_,rfl,c,_,1,_,rfl,rfl,SqT.of z.tup,rfl,pt,_,rfl,.inr (SqT.of z.pt),rfl,_,rfl,?_⟩;rw[decide_eq_true (by rw[Ab,Ab,hl])];refine (if_pos rfl).mpr ?_;refine⟨_,rfl,t,_,1,_,rfl,rfl,SqT.of h1,rfl,rfl,_,rfl,c,_,2,_,rfl,rfl,SqT.of z.tup,rfl,rfl,rfl,?_⟩;have e:(decide (V.str x=V.str ""))=decide (V.str p.res=V.str ""):=decide_eq_decide.mpr ⟨fun y=>by rw[hx.mp (V.str.inj y)],fun y=>by rw[hx.mpr (V.str.inj y)]⟩;rw[show decide (V.bl (decide (V.str x=V.str ""))=V.bl (decide (V.str p.res=V.str "")))=true from decide_eq_true (by rw[e])];exact q H (Same.refl _)
theorem scIsProc:FnScope ["procedure"] ["procedure"] (b7 wf):=⟨rfl,rfl,rfl,by decide,rfl,by decide,by decide⟩
theorem a4n(h5:5<=n)(hm:m<=n)(hl:l<=n)(C:Con K mg w)(F:Fun K "is_procedure" "is_procedure" wf f fd)(GH:FnOk P w K mg base CX0 5 gH dH ["procedure"] (spIsHead K bs))(cH:Cal K mg "is_head" gH dH ["procedure"])(GD:FnOk P w K mg base CX0 m gD dD ["deeds","around"] (spAreD K bs))(cD:Cal K mg "are_deeds" gD dD ["deeds","around"])(GN:FnOk P w K mg base CX0 l gN dN ["procedure"] (spHasN K bs))(cN:Cal K mg "has_its_names" gN dN ["procedure"]):FnOk P w K mg base CX0 (n+1) f fd ["procedure"] (spIsProc K bs):=by
 refine F.okQ scIsProc (fun vs H Q E h=>?_) (fun cdv A outer s0 H vs Q E hr h=>?_)
 . obtain⟨t,p,xs,rfl,_⟩:=h;rfl
 obtain⟨t,p,xs,rfl,hP,hH,hD,hok,hN,hb,q⟩:=h;have nd:=scIsProc.nd;have hr5:=hr.mono (j:=5) (by omega);have hrm:=hr.mono (j:=m) (by omega);have hrl:=hr.mono (j:=l) (by omega);refine⟨_,(aj (az (jm (ak GH hr5 rfl cH.name cH.keep cH.bind .nil au (af (qv 0) aa)) (jm (ak GD hrm rfl cD.name cD.keep cD.bind .nil au (ar (ag ao (qv 0) ac (fun _ _=>rfl)) (ci aa))) (kr (ak GN hrl rfl cN.name cN.keep cN.bind .nil au (af (qv 0) aa))))))),?_⟩;refine⟨_,rfl,t,p,rfl,hP,hH,fun H1 e1=>⟨_,rfl,(if_pos rfl).mpr ?_⟩⟩;have hP1:=hP.same e1;obtain⟨pt,t1,t2,f1,p1,f2,p2,bd,z⟩:=hP1;refine⟨_,rfl,t,_,5,_,rfl,rfl,SqT.of z.tup,rfl,bd,p.body,0,rfl,z.body,hD,by omega,fun H2 e2=>⟨_,rfl,(if_pos rfl).mpr ?_⟩⟩;exact⟨_,rfl,t,p,xs,rfl,hP.same (e1.trans e2),hok,hN,fun H3 e3=>q H3 ((e1.trans e2).trans e3)⟩
end
end K40
namespace L2
theorem a4x{α β:Type}{J:It}{H1:Hp}{σ:St}{ix:List Nat}{te:TE}{Q:VK}{I0:Hp->Prop}(xs:List V)(rs:List α)(R:HW->Hp->V->β->Prop)(f:α->β)(hJ:JSeq J I0 xs)(h0:I0 H1)(hz:xs.length<=1000)(hl:rs.length=xs.length)(hR:∀D H H' y r,R D H y r->md D H H'->R D H' y r)(he:∀(D:HW),H1 D=none->∀(i:Nat) (x:V) (r:α),xs[i]?=some x->rs[i]?=some r->∀H2,Same H1 H2->H2 D≠none->∀Q':VK,(∀y H3,Same H2 H3->R D H3 y (f r)->Q' y H3)->te (some x::cr σ ix) H2 Q')(hQ:∀D H' ys,H1 D=none->Same H1 H'->H' D=some (.lst ys)->IE (fun y r=>R D H' y r) ys (rs.map f)->Q (.ref D) H'):i8 J H1 σ ix tYes te Q:=by
 intro D hD;have put:∀H ys,Same H1 H->Same H1 (upd H D (.lst ys)):=fun H ys e b u q=>by rw[ai (aq q hD)];exact e b u q
 refine⟨fun i m H=>i<=xs.length/\m=xs.length-i/\Same H1 H/\∃ys:List V,H D=some (.lst ys)/\IE (fun y r=>R D H y r) ys ((rs.take i).map f),⟨xs.length,AG _,rfl,put _ _ (Same.refl _),[],ab,by simpa using Paired.nil⟩,?_⟩;rintro i m H ⟨hi,rfl,e,ys,hy,hp⟩;have hI:=hJ.stay _ _ h0 e;by_cases hlt:i<xs.length
 . refine .inr ⟨hJ.go i H hI hlt,fun x H' hy'=>?_⟩;obtain⟨rfl,hx⟩:=hJ.yld i H x H' hlt hI hy';have hri:i<rs.length:=by omega
   have hr:rs[i]?=some rs[i]:=Ag hri;have ht:rs.take (i+1)=rs.take i++[rs[i]]:=by rw[Bn,hr];rfl
   have hlen:ys.length=i:=by
    have h1:=Ao hp;rw[Ab,AX] at h1;omega
   dsimp only[tYes];rw[if_pos rfl];refine he D hD i x rs[i] hx hr _ e (by rw[hy];simp) _ fun y H4 e4 hR4=>?_;have hput:md D H4 (upd H4 D (.lst (ys++[y]))):=fun b u q hn=>by rw[ai hn];exact q
   refine⟨ys,e4 _ _ hy,by rw[hlen];exact AH hlt (Aw hz (by decide)),xs.length-(i+1),by omega,hlt,rfl,put _ _ (e.trans e4),ys++[y],ab,?_⟩;rw[ht,Al];exact Paired.snocP (Paired.mapP hp fun a r z=>hR _ _ _ _ _ (hR _ _ _ _ _ z (e4.x D)) hput) (hR _ _ _ _ _ hR4 hput)
 . have hi':i=xs.length:=by omega
   subst hi';refine .inl ⟨hJ.stop _ H hI (Ar _),?_⟩;rw[<- hl,B3] at hp;exact hQ D H ys hD e hy hp
end L2
namespace K40
open L2 Mir
variable{P:IC}{w:IF}{K:Ac}{mg:Str->Option HX}{base:IJ}{f g gA gF gP gN gS gW gI gV gM gR gT gC gB gD gH gK gG gY:HW}{fd gd dA dF dP dN dS dW dI dV dM dR dT dC dB dD dH dK dG dY:II}
def byK(ns:List Str)(ts:List HW):List (Str×V):=(ns.zip ts).map fun x=>(x.1,V.ref x.2)
inductive spBy(K:Ac)(vs:List V)(H:Hp)(Q:VK)(E:XK):Prop
 | mk (l:HW)(ts:List HW)(ns:List Str)(h0:vs=[.ref l])(h1:H l=some (.lst (ts.map V.ref)))(h2:IE (fun t n=>∃us,H t=some (.tup (.str n::us))) ts ns)(h3:ns.Nodup)(h4:ts.length<=10)(q:∀d H',Same H H'->H' d=some (.dK ((byK ns ts).map kk))->Q (.ref d) H'):spBy K vs H Q E
theorem a0m{K:Ac}{D:HW}{H:Hp}:∀{us:List HW}{zs:List (Str×HW)},IE (fun b (x:Str×HW)=>b≠D/\H b=some (.tup [.str x.1,.ref x.2])) us zs->IE (fun t (kv:Str×V)=>SqT K H t [.str kv.1,kv.2]) us (zs.map fun x=>(x.1,V.ref x.2))
 | _,_,.nil=>.nil
 | _,_,.cons h r=>.cons (SqT.of h.2) (a0m r)
theorem scByNames:FnScope ["program"] ["program"] (b7 u9):=⟨rfl,rfl,rfl,by decide,rfl,by decide,by decide⟩
theorem a3n(C:Con K mg w)(F:Fun K "by_names" "by_names" u9 f fd):FnOk P w K mg base CX0 1 f fd ["program"] (spBy K):=by
 refine F.okQ scByNames (fun vs H Q E h=>?_) (fun cdv A outer s0 H vs Q E hr h=>?_)
 . obtain⟨l,ts,ns,rfl,_⟩:=h;rfl
 obtain⟨l,ts,ns,rfl,hl,hts,hnd,h10,q⟩:=h;have nd:=scByNames.nd;refine⟨_,(aj (az (cg (a3c (K:=K) rfl rfl) rfl C.dict PyProof.Rows.boot_dict (dh (ik (bz (qv 0)) (fun _ _ _ _=>db) (fun _ _ _ _=>(er (ar (ag (ixTK (K:=K) rfl) (qv 0) ac (fun _ _=>rfl)) (af (qv 0) aa))))) aa)))),?_⟩;have hlen:=Ao hts;refine⟨_,rfl,l,rfl,⟨_,SqL.of hl⟩,?_⟩;refine a4x (ts.map V.ref) (ns.zip ts) (fun D G y (x:Str×HW)=>∃b,y=V.ref b/\b≠D/\G b=some (.tup [.str x.1,.ref x.2])) id cs (SqL.of hl) (by rw[Ab];omega) (by rw[Ab,Dr];omega) (fun D G G' y x z e=>?_) (fun D hD j x r hx hr' H2 e2 hD2 Q' q'=>?_) (fun D H2 ys hD e2 hD2 hpt=>?_)
 . obtain⟨b,rfl,nb,hb⟩:=z;exact⟨b,rfl,nb,e _ _ hb nb⟩
 . rw[Ah] at hx;obtain⟨t,ht,rfl⟩:=AK.mp hx;obtain⟨n,hn,us,hu⟩:=Paired.nth hts ht;have hr2:r=(n,t):=by
    have:(ns.zip ts)[j]?=some (n,t):=List.getElem?_zip_eq_some.mpr ⟨hn,ht⟩;rw[hr'] at this;exact Ay this
   subst hr2;refine⟨_,rfl,t,_,0,_,rfl,rfl,SqT.of (e2 _ _ hu),at0,_,rfl,(show 2<=HY by decide),fun b hb=>q' (.ref b) _ (ad hb _) ⟨b,rfl,fun z=>?_,ab⟩⟩;rw[z] at hb;exact hD2 hb
 rw[Ck] at hpt;obtain⟨us,rfl,hpp⟩:=i4 (R:=fun b (x:Str×HW)=>b≠D/\H2 b=some (.tup [.str x.1,.ref x.2])) hpt;have hlz:(ns.zip ts).length=ns.length:=by rw[Dr];omega
 have hul:=Ao hpp;refine⟨D,us,byK ns ts,rfl,SqL.of hD2,?_,?_,(by omega),fun d hd=>q d _ (e2.trans (ad hd _)) ab⟩
 . exact a0m hpp
 . unfold byK;rw[Cw];show ((ns.zip ts).map (·.1)).Nodup;rw[List.map_fst_zip (by omega)];exact hnd
end K40
namespace L2
theorem a6o{X:Cx}{a b c:Expr}{pos:Pos}{ta tb tc:TE}{op op':CmpOp}{r r':R2}(ho:OpR X (IM op) r)(ho':OpR X (IM op') r')(ha:QE X a ta)(hb:QE X b tb)(hc:QE X c tc)(hm:lastMarks [op,op'] [b,c]=false:=by with_unfolding_all rfl):QT X (.Compare a [op,op'] [b,c] pos) (kq (a5d r r' ta tb tc)):=⟨a77 ho ho' ha.run hb.run hc.run hm⟩
end L2
namespace K40
open L2 Mir
variable{P:IC}{w:IF}{K:Ac}{mg:Str->Option HX}{base:IJ}{f g gA gF gP gN gS gW gI gV gM gR gT gC gB gD gH gK gG gY:HW}{fd gd dA dF dP dN dS dW dI dV dM dR dT dC dB dD dH dK dG dY:II}
abbrev ww:IP:=top 47
abbrev we:IP:=top 48
theorem a5g:∀{ns:List Str}{ts:List HW}{j:Nat}{n:Str}{t:HW},ns.Nodup->ns[j]?=some n->ts[j]?=some t->valV ((byK ns ts).map kk) (Sum.inr n)=some (.ref t)
 | [],_,_,_,_,_,h,_=>by simp at h
 | _::_,[],_,_,_,_,_,h=>by simp at h
 | m::ns,u::ts,0,n,t,hn,h1,h2=>by
  simp at h1 h2;subst h1;subst h2;unfold valV byK;simp[kk]
 | m::ns,u::ts,j+1,n,t,hn,h1,h2=>by
  have h1':ns[j]?=some n:=by simpa using h1
  have h2':ts[j]?=some t:=by simpa using h2
  have ne:m≠n:=fun z=>(Cn.mp hn).1 (by rw[z];exact Ak h1');have ih:=a5g (Cn.mp hn).2 h1' h2';unfold valV byK at ih |-;simp only[List.zip_cons_cons,Be,Cp,kk];rw[decide_eq_false (fun z=>ne (Gv z))];exact ih
theorem qu{K:Ac}{H H2:Hp}{bs:List Nat}(e:Same H H2):∀{ts:List HW}{ps:List Prc},IE (PrcAt K H bs) ts ps->IE (fun t n=>∃us,H2 t=some (.tup (.str n::us))) ts (ps.map (·.name))
 | _,_,.nil=>.nil
 | _,_,.cons h r=>by
  obtain⟨pt,t1,t2,f1,p1,f2,p2,bd,x⟩:=h;exact .cons ⟨_,e _ _ x.tup⟩ (qu e r)
def mn(H:Hp):V->Bool
 | .ref b=>match H b with
  | some (.tup (.str w::_))=>decide (w="call")
  | _=>false
 | _=>false
theorem uz{H:Hp}{b:HW}{w:Str}{us:List V}(h:H b=some (.tup (.str w::us))):mn H (.ref b)=decide (w="call"):=by
 show (match H b with|some (.tup (.str w::_))=>decide (w="call")|_=>false)=_;rw[h]
theorem y6{K:Ac}{H:Hp}{t:HW}{d:Deed}(h:DeedS K H t d):∃(w:Str) (us:List V),H t=some (.tup (.str w::us))/\(w="call" -> ∃x c vs v,d=.plain (.call x c vs)/\H t=some (.tup [.str "call",.str x,.str c,.ref v])/\H v=some (.tup (vs.map V.str))):=by
 cases h with
 | plain p h1 h2 =>
  cases p with
  | call x c vs=>obtain⟨v,h1,h3⟩:=h1;exact⟨_,_,h1,fun _=>⟨x,c,vs,v,rfl,h1,h3⟩⟩
  | row r =>
   obtain⟨⟨k',r',fs,rfl,hf,_⟩,_⟩:=h2;exact⟨k',r'.map V.str,h1,fun z=>absurd z (jv _ hf).2.2⟩
 | cond c i o r a b h hc okr hi ho=>exact⟨_,_,h,fun z=>absurd z (by decide)⟩
 | loop c td i fa pa r F P a h hc okr htd hF hP okF okP lF lP hi=>exact⟨_,_,h,fun z=>absurd z (by decide)⟩
structure CkG(bs:List Nat)(xs:List Str)(ps:List Prc):Prop where
 pos:1<=ps.length
 few:ps.length<=4
 nd:(ps.map (·.name)).Nodup
 h:∀p∈ps,CkH p
 d:∀p∈ps,∀d∈p.body,CkD d
 ok:∀p∈ps,PrcOk bs xs p
 n:∀p∈ps,CkN bs p
 all:(ps.flatMap fun p=>allL bs p.body).length<=30
 call:∀p∈ps,∀d∈allL bs p.body,∀x c vs,d=.plain (.call x c vs)->∃(i:Nat) (q:Prc),ps[i]?=some q/\q.name=c/\vs.length=q.ps.length/\(x="" ↔ q.res="")
inductive spIsProg(K:Ac)(bs:List Nat)(vs:List V)(H:Hp)(Q:VK)(E:XK):Prop
 | mk (l:HW)(ts:List HW)(ps:List Prc)(xs:List Str)(h0:vs=[.ref l])(h1:H l=some (.lst (ts.map V.ref)))(h2:IE (PrcAt K H bs) ts ps)(hc:CkG bs xs ps)(hb:bs.length<=5)(q:∀H',Same H H'->Q (.bl true) H'):spIsProg K bs vs H Q E
section
variable{P:IC}{w:IF}{K:Ac}{mg:Str->Option HX}{base:IJ}{f gP gB gA gF:HW}{fd dP dB dA dF:II}{n m:Nat}{bs:List Nat}
theorem scIsProg:FnScope ["program","procedures","deeds","procedure","calls"] ["program"] (b7 ww):=⟨rfl,rfl,rfl,by decide,rfl,by decide,by decide⟩
theorem a58(h1n:1<=n)(hm:m<=n)(C:Con K mg w)(F:Fun K "is_program" "is_program" ww f fd)(GP:FnOk P w K mg base CX0 n gP dP ["procedure"] (spIsProc K bs))(cP:Cal K mg "is_procedure" gP dP ["procedure"])(GB:FnOk P w K mg base CX0 1 gB dB ["program"] (spBy K))(cB:Cal K mg "by_names" gB dB ["program"])(GA:FnOk P w K mg base CX0 m gA dA ["deeds"] (spAll K bs))(cA:Cal K mg "all_deeds" gA dA ["deeds"])(GF:FnOk P w K mg base CX0 1 gF dF ["deed","called"] (spFinds K bs))(cF:Cal K mg "finds_procedure" gF dF ["deed","called"]):FnOk P w K mg base CX0 (n+1) f fd ["program"] (spIsProg K bs):=by
 refine F.okQ scIsProg (fun vs H Q E h=>?_) (fun cdv A outer s0 H vs Q E hr h=>?_)
 . obtain⟨l,ts,ps,xs,rfl,_⟩:=h;rfl
 obtain⟨l,ts,ps,xs,rfl,hl,hps,hc,hb,q⟩:=h;have nd:=scIsProg.nd;have hu1:=aas hr;have hr1:=hr.mono (j:=1) (by omega);have hrm:=hr.mono (j:=m) (by omega);refine⟨_,ae (bf (QW.qt (jk (fh (fm (aw jt rfl C.isi Ba (af (qv 0) (af ⟨gty C.list AQ⟩ aa))))) (je (fh (a6o yg yg ac (aw ap rfl C.len Ap (af (qv 0) aa)) (qe_g C.mostProcs)))))) (aj (az ge)) bm)
  (ae (bf (fh (fm (aw (du rfl) rfl C.all AZ (dh (ik (bz (qv 0)) (fun _ _ _ _=>db) (fun _ _ _ _=>(ak GP hr rfl cP.name cP.keep cP.bind .nil au (af (qv 0) aa)))) aa)))) (aj (az ge)) bm)
  (ae (av (i:=1) nd rfl (Or.inr rfl) (ak GB hr1 rfl cB.name cB.keep cB.bind .nil au (af (qv 0) aa)))
  (ae (av (i:=2) nd rfl (Or.inl rfl) (bb aa))
  (ae (dq AS rfl (bz (qv 0)) (bj (i:=3) nd rfl (Or.inl rfl)) (aj (bu (cq (K:=K) rfl As Cq Cr lm (qv 2) (be (ak GA hrm rfl cA.name cA.keep cA.bind .nil au (ar (ag ao (qv 3) ac (fun _ _=>rfl)) aa)) aa)))))
  (ae (bf (QW.qt (jk (ax o8 (aw a4c rfl C.len Ap (af (qv 1) aa)) (aw ap rfl C.len Ap (af (qv 0) aa)) (ay _)) (je (ax kg (aw ap rfl C.len Ap (af (qv 2) aa)) (qe_g C.mostDeeds) (ay _))))) (aj (az ge)) bm)
  (ae (jc ["deed"] [] (i:=4) nd rfl (Or.inl rfl) (bz (qv 2)) (fun _ _ _ _=>(ke (ax bo (ag (ixTK (K:=K) rfl) (qv 0) ac (fun _ _=>rfl)) bv (ay _)))) (fun _ _ _ _=>(qv 0)))
  (aj (az (aw (du rfl) rfl C.all AZ (dh (ij ["deed","procedures"] [1] (bz (qv 4)) (fun _ _ _ _=>db) (fun _ _ _ _=>(jm (a9h hu1 (ag (ixTK (K:=K) rfl) (qv 0) ac (fun _ _=>rfl)) (qv 1)) (kr (ak GF hr1 rfl cF.name cF.keep cF.bind .nil au (af (qv 0) (ar (a84 hu1 (qv 1) (ag (ixTK (K:=K) rfl) (qv 0) ac (fun _ _=>rfl)) (fun _ _=>rfl)) aa))))))) aa)))))))))),?_⟩
 have hlen:=Ao hps;have c4:=hc.few;have c1:=hc.pos;refine b9 (a:=tIfS _ _ _) fun D1 hN1 _ _=>?_;refine⟨_,rfl,l,_,rfl,SqL.of hl,_,rfl,(if_neg (by simp)).mpr ?_⟩;refine⟨_,rfl,l,_,rfl,.inl (SqL.of hl),_,_,rfl,rfl,?_⟩;refine⟨_,rfl,?_⟩;rw[decide_eq_true (show (1:Int)<=((ts.map V.ref).length:Int) by rw[Ab];omega)];refine (if_pos rfl).mpr ?_;refine⟨_,_,rfl,rfl,_,rfl,?_⟩;rw[decide_eq_true (show ((ts.map V.ref).length:Int)<=4 by rw[Ab];omega)];refine (if_neg (by simp)).mpr (hN1 _ _ ?_);refine b9 (a:=tIfS _ _ _) fun D2 hN2 _ _=>?_;refine⟨_,rfl,l,rfl,⟨_,SqL.of hl⟩,?_⟩;refine gq (ts.map V.ref) ps (fun _=>true) cs (SqL.of hl) (by rw[Ab];omega) (by rw[Ab,hlen]) (fun i v r hx hr' H2 e2 Q' q'=>?_) (fun D H2 hD e2 hd=>?_)
 . rw[Ah] at hx;obtain⟨td,htd,rfl⟩:=AK.mp hx;obtain⟨r',hr2,z⟩:=Paired.nth hps htd;rw[hr'] at hr2;cases hr2;have hm':=Ak hr';exact⟨_,rfl,td,r,xs,rfl,z.same e2,hc.h r hm',hc.d r hm',hc.ok r hm',hc.n r hm',hb,q'⟩
 refine⟨D,_,rfl,SqL.of hd,?_⟩;rw[jh];refine⟨_,rfl,(if_neg (by simp)).mpr (hN2 _ _ ?_)⟩;refine b9 (a:=tAsg _ _) fun D3 hN3 _ _=>?_;have hnm:=qu e2 hps;refine⟨_,rfl,l,ts,ps.map (·.name),rfl,e2 _ _ hl,hnm,hc.nd,by omega,fun pd H3 e3' kpd=>?_⟩;have e3:=e2.trans e3';refine hN3 [rQ l,rQ pd,nQ,nQ,nQ] _ ?_;refine b9 (a:=tAsg _ _) fun D4 hN4 _ _=>?_;refine⟨AG _,fun dl hdl=>?_⟩;have s4:=ad hdl (.lst []);have k4:(upd H3 dl (.lst [])) dl=some (.lst []):=ab;change D4.nx _ (upd H3 dl (.lst []));have hup:∀us,Same H3 (upd (upd H3 dl (.lst [])) dl us):=fun us b o h=>by rw[ai (aq h hdl),ai (aq h hdl)];exact h
 generalize upd H3 dl (.lst [])=H4 at s4 k4 |-;refine hN4 [rQ l,rQ pd,rQ dl,nQ,nQ] _ ?_;refine b9 (a:=tFor _ _ _) fun D5 hN5 _ _=>?_;have hl4:=s4 _ _ (e3 _ _ hl);refine⟨_,rfl,l,rfl,⟨_,SqL.of hl4⟩,?_⟩;have ndl:∀{b:HW} {o:HO},H3 b=some o->b≠dl:=fun h=>aq h hdl;refine et (xs:=ts.map V.ref) (fun i σ H'=>Same H3 H'/\∃us z3,H' dl=some (.lst ((us:List HW).map V.ref))/\IE (DeedS K H) us ((ps.take i).flatMap fun p=>allL bs p.body)/\σ=[rQ l,rQ pd,rQ dl,z3,nQ]) ⟨s4,[],none,k4,.nil,rfl⟩ (fun i σ H' _ z=>SqL.of (z.1 _ _ (e3 _ _ hl))) ?_ ?_
 . rintro i v σ H5 hv ⟨e5,us,z3,k5,hus,rfl⟩;rw[Ah] at hv;obtain⟨td,htd,rfl⟩:=AK.mp hv;obtain⟨p,hp,hPA⟩:=Paired.nth hps htd;have hpm:=Ak hp;obtain⟨pt,t1,t2,f1,p1,f2,p2,bd,x⟩:=hPA;have eH5:=e3.trans e5;have few:=(hc.ok p hpm).few;have hul:=Ao hus;have htot:((ps.take i).flatMap fun p=>allL bs p.body).length<=30:=Aw (yj ps (fun p=>allL bs p.body) i) hc.all;refine⟨_,rfl,(.inl ⟨rfl,_,SqL.of k5⟩),_,rfl,td,_,5,_,rfl,rfl,SqT.of (eH5 _ _ x.tup),rfl,H,bd,p.body,rfl,eH5,x.body,by omega,fun al us' H6 e6 hal k6 hus'=>?_⟩;have hul':=Ao hus';refine⟨dl,al,_,_,rfl,rfl,e6 _ _ k5,k6,bx (by rw[Ab,Ab,hul,hul'];omega),?_⟩;refine⟨fun b o h=>by rw[ai (ndl h)];exact e6 _ _ (e5 _ _ h),us++us',_,by rw[ab,Al],?_,rfl⟩;rw[kb (g:=fun p:Prc=>allL bs p.body) hp];exact Paired.app hus hus'
 rintro σ H5 ⟨e5,us,z3,k5,hus,rfl⟩;rw[Bf (by rw[Ab,hlen];exact Ar _)] at hus;refine hN5 _ _ ?_;have hul:=Ao hus;have hul30:us.length<=30:=by rw[hul];exact hc.all
 have eH5:=e3.trans e5;have kpd5:=e5 _ _ kpd;refine b9 (a:=tIfS _ _ _) fun D6 hN6 _ _=>?_;refine⟨_,rfl,pd,_,rfl,kpd5,_,rfl,l,_,rfl,.inl (SqL.of (eH5 _ _ hl)),_,_,rfl,rfl,_,rfl,?_⟩;have hkl:((byK (ps.map (·.name)) ts).map kk).length=ts.length:=by
  unfold byK;rw[Ab,Ab,Dr,Ab,hlen,HK]
 rw[decide_eq_false (by rw[hkl,Ab];omega)];refine (if_neg An).mpr ?_;refine⟨_,rfl,dl,_,rfl,.inl (SqL.of k5),_,_,rfl,rfl,_,rfl,?_⟩;rw[decide_eq_false (by rw[Ab];omega)];refine (if_neg An).mpr (hN6 _ _ ?_);have hdw:∀b∈us,∃d,d∈(ps.flatMap fun p=>allL bs p.body)/\DeedS K H b d:=fun b hb'=>by
  obtain⟨i,hi⟩:=Bk hb';obtain⟨d,hd',z⟩:=Paired.nth hus hi;exact⟨d,Ak hd',z⟩
 refine b9 (a:=tAsg _ _) fun D7 hN7 _ _=>?_;refine⟨_,rfl,dl,rfl,⟨_,SqL.of k5⟩,?_⟩;refine ii (us.map V.ref) (mn H) id cs (SqL.of k5) (bx (by rw[Ab];omega)) (fun v hv H6 e6 Q' q'=>?_) (fun v hv hpv H6 e6 Q' q'=>?_) (fun cl H6 hcl e6 kcl=>?_)
 . obtain⟨b,hb',rfl⟩:=AF.mp hv;obtain⟨d,hd',z⟩:=hdw b hb';obtain⟨w',us',hw,_⟩:=y6 z;refine⟨_,rfl,b,_,0,.str w',rfl,rfl,SqT.of (e6 _ _ (eH5 _ _ hw)),at0,?_⟩;refine⟨rfl,_,rfl,?_⟩;rw[show decide (V.str w'=V.str "call")=mn H (.ref b) by rw[uz hw];exact decide_eq_decide.mpr ⟨V.str.inj,fun y=>by rw[y]⟩];exact q' H6 (Same.refl _)
 . exact⟨_,rfl,q' H6 (Same.refl _)⟩
 rw[Ck] at kcl;refine hN7 [rQ l,rQ pd,rQ dl,z3,rQ cl] _ ?_;have eH6:=eH5.trans e6;refine⟨_,rfl,cl,rfl,⟨_,SqL.of kcl⟩,?_⟩;have hcl30:((us.map V.ref).filter (mn H)).length<=30:=Aw (Bd _ _) (by rw[Ab];exact hul30);refine gq ((us.map V.ref).filter (mn H)) ((us.map V.ref).filter (mn H)) (fun _=>true) cs (SqL.of kcl) (by omega) rfl (fun i v r hx hr' H7 e7 Q' q'=>?_) (fun D' H7 hD' e7 hd'=>?_)
 . rw[hr'] at hx;cases hx;obtain⟨hr1',hr2'⟩:=AV.mp (Ak hr');obtain⟨b,hb',rfl⟩:=AF.mp hr1';obtain⟨d,hd',z⟩:=hdw b hb';obtain⟨w',us',hw,hcall⟩:=y6 z;rw[uz hw] at hr2';obtain⟨x,c,vs,v,rfl,h1,h2⟩:=hcall (of_decide_eq_true hr2');obtain⟨p,hpm,hdm⟩:=Br.mp hd';obtain⟨j,q2,hj,hq2,hvl,hxr⟩:=hc.call p hpm _ hdm x c vs rfl;have eH7:=eH6.trans e7;obtain⟨tq,htq⟩:∃tq,ts[j]?=some tq:=⟨_,Ag (by rw[hlen];exact (Av.mp hj).1)⟩
   have hPq:=Paired.at2 hps htq hj;have kpd7:=e7 _ _ (e6 _ _ kpd5);have hval:valV ((byK (ps.map (·.name)) ts).map kk) (Sum.inr c)=some (.ref tq):=a5g hc.nd (by rw[Ah,hj,<- hq2];rfl) htq;have dg:DGet H7 pd (.str c) (some (.ref tq)):=.inl ⟨_,Sum.inr c,.inl kpd7,rfl,hval.symm⟩;refine⟨_,rfl,b,_,2,.str c,rfl,rfl,SqT.of (eH7 _ _ h1),rfl,_,rfl,pd,_,rfl,dg,_,rfl,(if_pos rfl).mpr ?_⟩;refine⟨_,rfl,_,rfl,_,rfl,b,_,2,.str c,rfl,rfl,SqT.of (eH7 _ _ h1),rfl,pd,_,rfl,dg,?_⟩;exact⟨b,v,tq,x,c,vs,q2,rfl,eH7 _ _ h1,eH7 _ _ h2,hPq.same eH7,hvl,hxr,q'⟩
 . exact⟨D',_,rfl,SqL.of hd',by rw[jh];exact q H7 (eH6.trans e7)⟩
end
theorem aae{X:Cx}{body:List IP}:QB X body (fun _ _ _=>False):=⟨fun _ _ _ _ _ _ h=>h.elim⟩
inductive spCheckP(K:Ac)(bs:List Nat)(vs:List V)(H:Hp)(Q:VK)(E:XK):Prop
 | mk (l:HW)(ts:List HW)(ps:List Prc)(xs:List Str)(h0:vs=[.ref l])(h1:H l=some (.lst (ts.map V.ref)))(h2:IE (PrcAt K H bs) ts ps)(hc:CkG bs xs ps)(hb:bs.length<=5)(q:∀H',Same H H'->Q .non H'):spCheckP K bs vs H Q E
section
variable{P:IC}{w:IF}{K:Ac}{mg:Str->Option HX}{base:IJ}{f gP:HW}{fd dP:II}{n:Nat}{bs:List Nat}
theorem scCheckP:FnScope ["program"] ["program"] (b7 we):=⟨rfl,rfl,rfl,by decide,rfl,by decide,by decide⟩
theorem a4t(C:Con K mg w)(F:Fun K "check_program" "check_program" we f fd)(GP:FnOk P w K mg base CX0 n gP dP ["program"] (spIsProg K bs))(cP:Cal K mg "is_program" gP dP ["program"]):FnOk P w K mg base CX0 (n+1) f fd ["program"] (spCheckP K bs):=by
 refine F.okQ scCheckP (fun vs H Q E h=>?_) (fun cdv A outer s0 H vs Q E hr h=>?_)
 . obtain⟨l,ts,ps,xs,rfl,_⟩:=h;rfl
 obtain⟨l,ts,ps,xs,rfl,hl,hps,hc,hb,q⟩:=h;have nd:=scCheckP.nd;refine⟨_,(aj (bf (fh (fm (ak GP hr rfl cP.name cP.keep cP.bind .nil au (af (qv 0) aa)))) aae bm)),?_⟩;refine⟨_,rfl,l,ts,ps,xs,rfl,hl,hps,hc,hb,fun H1 e1=>⟨_,rfl,(if_neg (by simp)).mpr ?_⟩⟩;exact q H1 e1
end
abbrev a3x:IP:=top 66
inductive spCopy(K:Ac)(bs:List Nat)(vs:List V)(H:Hp)(Q:VK)(E:XK):Prop
 | mk (X:HW->Prop)(l:HW)(ds:List Deed)(h0:vs=[.ref l])(hX:∀c,X c->H c≠none)(h1:ListX K (rm X H) bs l ds)(q:∀l' H',Same H H'->ListX K (rm X H') bs l' ds->Q (.ref l') H'):spCopy K bs vs H Q E
inductive CI(K:Ac)(bs:List Nat)(X:HW->Prop)(H H1:Hp)(l fo:HW)(ds:List Deed)(i:Nat)(σ:St)(H2:Hp):Prop
 | mk (us:List HW)(z2:Option V)(e:Same (rm X H1) (rm X H2))(hf:H2 fo=some (.lst (us.map V.ref)))(hp:IE (DeedX K (rm X H2) (ListX K (rm X H2) bs)) us (ds.take i))(e0:Same H H2)(hi:i<=ds.length)(hσ:σ=[some (.ref l),some (.ref fo),z2])
theorem CI.put{K:Ac}{bs:List Nat}{X:HW->Prop}{H H1 H2 H3:Hp}{l fo t:HW}{ds:List Deed}{i:Nat}{us:List HW}{d:Deed}{z:V}(hX:X fo)(hfo:H fo=none)(e:Same (rm X H1) (rm X H2))(hp:IE (DeedX K (rm X H2) (ListX K (rm X H2) bs)) us (ds.take i))(e0:Same H H2)(hd:ds[i]?=some d)(e3:Same H2 H3)(ht:DeedX K (rm X H3) (ListX K (rm X H3) bs) t d):CI K bs X H H1 l fo ds (i+1) [some (.ref l),some (.ref fo),some z] (upd H3 fo (.lst (us.map V.ref++[.ref t]))):=by
 have r:=a0p (H:=H3) (o:=.lst (us.map V.ref++[.ref t])) hX;refine⟨us++[t],some z,by rw[r];exact e.trans (ff e3),by rw[ab,Al];rfl,?_,fun b o h=>?_,(Av.mp hd).1,rfl⟩
 . rw[r,Bn,hd];exact Paired.snocP (Paired.mapP hp fun _ _ z=>z.same (ff e3) fun _ _ y=>y.same (ff e3)) ht
 . rw[ai (aq h hfo)];exact e3 _ _ (e0 _ _ h)
theorem scCopy:FnScope ["_law_deeds","_law_found","_law_deed"] ["_law_deeds"] (b7 a3x):=⟨rfl,rfl,rfl,by decide,rfl,by decide,by decide⟩
theorem a6e:FnOk P w K mg base CX0 1 f fd ["_law_deeds"] (spCopy K []) :=
 ⟨fun vs H Q E h=>by obtain⟨X,l,ds,_,_,h1,_⟩:=h;exact h1.elim,fun A outer s H args us vs Q E _ _ _ _ h=>by obtain⟨X,l,ds,_,_,h1,_⟩:=h;exact h1.elim⟩
theorem ny{n b:Nat}{bs:List Nat}(hb:b<=900)(C:Con K mg w)(F:Fun K "_law_copy" "_law_copy" a3x f fd)(GR:FnOk P w K mg base CX0 (n+1) f fd ["_law_deeds"] (spCopy K bs))(cR:Cal K mg "_law_copy" f fd ["_law_deeds"]):FnOk P w K mg base CX0 (n+1+1) f fd ["_law_deeds"] (spCopy K (b::bs)):=by
 refine F.okQ scCopy (fun vs H Q E h=>?_) (fun cdv A outer s0 H vs Q E hr h=>?_)
 . obtain⟨X,l,ds,rfl,_⟩:=h;rfl
 obtain⟨X,l,ds,rfl,hX,⟨ts,hl,hp,hlen⟩,q⟩:=h;have nd:=scCopy.nd;refine⟨_,ae (av (i:=1) nd rfl (Or.inl rfl) (bb aa))
  (ae (dq AS rfl (bz (qv 0)) (bj (i:=2) nd rfl (Or.inl rfl)) (aj (bf (ax bo (ag ao (qv 2) ac (fun _ _=>rfl)) bv (ay _)) (aj (bu (cq (K:=K) rfl As Az AA bq (qv 1) (di (ba (ar (ag ao (qv 2) ac (fun _ _=>rfl)) (be (ak GR hr rfl cR.name cR.keep cR.bind .nil au (ar (ag ao (qv 2) ac (fun _ _=>rfl)) aa)) (be (ak GR hr rfl cR.name cR.keep cR.bind .nil au (ar (ag ao (qv 2) ac (fun _ _=>rfl)) aa)) aa)))) aa)))) (aj (bf (ax bo (ag ao (qv 2) ac (fun _ _=>rfl)) bv (ay _)) (aj (bu (cq (K:=K) rfl As Az AA bq (qv 1) (di (ba (ar (ag ao (qv 2) ac (fun _ _=>rfl)) (di (be (cg de rfl C.list AQ (ar (ag ao (ag ao (qv 2) ac (fun _ _=>rfl)) ac (fun _ _=>rfl)) aa)) (be (cg de rfl C.list AQ (ar (ag ao (ag ao (qv 2) ac (fun _ _=>rfl)) ac (fun _ _=>rfl)) aa)) aa)) (be (ak GR hr rfl cR.name cR.keep cR.bind .nil au (ar (ag ao (qv 2) ac (fun _ _=>rfl)) aa)) aa)))) aa)))) (aj (bu (cq (K:=K) rfl As Az AA bq (qv 1) (af (qv 2) aa)))))))))
  (aj (az (qv 1)))),?_⟩
 have hpl:=Ao hp;refine⟨AG _,fun fo hfo=>?_⟩;have nX:¬ X fo:=fun z=>hX fo z hfo;have g1:=aa6 (X:=X) (o:=.lst []) hfo;have k1:(upd H fo (.lst [])) fo=some (.lst []):=ab;have s1:=ad hfo (.lst []);generalize upd H fo (.lst [])=H1 at g1 k1 s1 |-;have hl1:=g1 _ _ hl;have hp1:=Paired.mapP hp fun _ _ z=>z.same g1 fun _ _ y=>y.same g1;dsimp only[bp];refine b9 (a:=tFor _ _ _) fun D1 hN1 hR1 hC1=>?_;refine⟨_,rfl,l,rfl,⟨_,SqL.of (rm_back _ _ hl1)⟩,?_⟩;refine et (xs:=ts.map V.ref) (CI K bs (fun c=>X c\/c=fo) H H1 l fo ds) ⟨[],none,Same.refl _,k1,.nil,s1,AG _,rfl⟩ (fun i σ H' _ h=>by obtain⟨_,_,e,_⟩:=h;exact SqL.of (rm_back _ _ (e _ _ hl1))) ?_ ?_
 . rintro i x σ H2 hx ⟨us,z2,e,hf,hpp,e0,hi,rfl⟩;rw[Ah] at hx;obtain⟨t,ht,rfl⟩:=AK.mp hx;obtain⟨d,hd,hX2⟩:=Paired.nth hp1 ht;have hi24:i<900:=AH (Av.mp ht).1 (Aw hlen hb);have hul:us.length<=900:=by rw[Ao hpp,AX];omega
   have hX2':=hX2.same e fun _ _ y=>y.same e;have hXX:∀{H':Hp},Same H2 H'->∀c,(X c\/c=fo)->H' c≠none:=fun {H'} e' c z y=>by
    rcases z with z|z
    . have:=hX c z;cases q:H c with
      | none=>exact this q
      | some o=>rw[e' _ _ (e0 _ _ q)] at y;cases y
    . rw[z,e' _ _ hf] at y;cases y
   have hlt:(us.map V.ref).length<HY:=cy (by rw[Ab];omega);have done:∀{H3:Hp} {t':HW},Same H2 H3->DeedX K (rm (fun c=>X c\/c=fo) H3) (ListX K (rm (fun c=>X c\/c=fo) H3) bs) t' d->CI K bs (fun c=>X c\/c=fo) H H1 l fo ds (i+1) [some (.ref l),some (.ref fo),some (.ref t)] (upd H3 fo (.lst (us.map V.ref++[.ref t']))):=fun e3 h3=>CI.put (.inr rfl) hfo e hpp e0 hd e3 h3;clear hX2 hp1 hp;cases hX2' with
   | plain p h1 h2 =>
    obtain⟨w,vs,hw,n1,n2⟩:=kz h1 h2;have hw':=rm_back _ _ hw;refine⟨_,rfl,t,_,0,_,rfl,rfl,SqT.of hw',at0,rfl,_,rfl,iteB (fun c=>absurd (V.str.inj (of_decide_eq_true c)) n1) (fun _=>?_)⟩;refine⟨_,rfl,t,_,0,_,rfl,rfl,SqT.of hw',at0,rfl,_,rfl,iteB (fun c=>absurd (V.str.inj (of_decide_eq_true c)) n2) (fun _=>?_)⟩;exact⟨_,rfl,(.inl ⟨rfl,_,SqL.of hf⟩),_,rfl,fo,_,_,rfl,rfl,hf,hlt,done (Same.refl _) (.plain p h1 h2)⟩
   | cond c i' o r a b' h hc okr hi' ho =>
    have h':=rm_back _ _ h;refine⟨_,rfl,t,_,0,_,rfl,rfl,SqT.of h',rfl,rfl,_,rfl,iteB (fun _=>?_) (fun c=>absurd c (by decide))⟩;refine⟨_,rfl,(.inl ⟨rfl,_,SqL.of hf⟩),_,rfl,t,_,1,_,rfl,rfl,SqT.of h',rfl,_,rfl,t,_,2,_,rfl,rfl,SqT.of h',rfl,(fun c=>X c\/c=fo),i',a,rfl,hXX (Same.refl _),hi',fun l1 H3 e3 hl3=>?_⟩;refine⟨_,rfl,t,_,3,_,rfl,rfl,SqT.of (e3 _ _ h'),rfl,(fun c=>X c\/c=fo),o,b',rfl,hXX e3,ho.same (ff e3),fun l2 H4 e4 hl4=>?_⟩;have e34:=e3.trans e4;refine⟨(show 4<=HY by decide),fun nt hnt=>?_⟩;have s5:=ad hnt (.tup [.str "if",.ref c,.ref l1,.ref l2]);have k5:(upd H4 nt (.tup [.str "if",.ref c,.ref l1,.ref l2])) nt=some (.tup [.str "if",.ref c,.ref l1,.ref l2]):=ab;have nn:¬ (X nt\/nt=fo):=fun z=>hXX e34 nt z hnt;generalize upd H4 nt (.tup [.str "if",.ref c,.ref l1,.ref l2])=H5 at s5 k5 |-;have e5:=e34.trans s5;exact⟨fo,_,_,rfl,rfl,e5 _ _ hf,hlt,done e5 (.cond c l1 l2 r a b' (by rw[fg nn];exact k5) (ff e5 _ _ hc) okr (hl3.same (ff (e4.trans s5))) (hl4.same (ff s5)))⟩
   | loop c td i' fa pa r F' P' a h hc okr htd hF hP okF okP lF lP hi' =>
    have h':=rm_back _ _ h;have htd':=rm_back _ _ htd;refine⟨_,rfl,t,_,0,_,rfl,rfl,SqT.of h',rfl,rfl,_,rfl,iteB (fun c=>absurd c (by decide)) (fun _=>?_)⟩;refine⟨_,rfl,t,_,0,_,rfl,rfl,SqT.of h',rfl,rfl,_,rfl,iteB (fun _=>?_) (fun c=>absurd c (by decide))⟩;obtain⟨as1,hF1,hF2⟩:=hF;obtain⟨as2,hP1,hP2⟩:=hP;refine⟨_,rfl,(.inl ⟨rfl,_,SqL.of hf⟩),_,rfl,t,_,1,_,rfl,rfl,SqT.of h',rfl,_,rfl,t,_,2,_,rfl,rfl,SqT.of h',rfl,td,_,0,_,rfl,rfl,SqT.of htd',rfl,fa,_,rfl,.inl (SqL.of (rm_back _ _ hF1)),fun n1 hn1=>?_⟩;have s3:=ad hn1 (.lst (as1.map V.ref));have k3:(upd H2 n1 (.lst (as1.map V.ref))) n1=some (.lst (as1.map V.ref)):=ab;have nn1:¬ (X n1\/n1=fo):=fun z=>hXX (Same.refl _) n1 z hn1;generalize upd H2 n1 (.lst (as1.map V.ref))=H3 at s3 k3 |-;refine⟨_,rfl,t,_,2,_,rfl,rfl,SqT.of (s3 _ _ h'),rfl,td,_,1,_,rfl,rfl,SqT.of (s3 _ _ htd'),rfl,pa,_,rfl,.inl (SqL.of (s3 _ _ (rm_back _ _ hP1))),fun n2 hn2=>?_⟩;have s4':=ad hn2 (.lst (as2.map V.ref));have k4:(upd H3 n2 (.lst (as2.map V.ref))) n2=some (.lst (as2.map V.ref)):=ab;have nn2:¬ (X n2\/n2=fo):=fun z=>hXX s3 n2 z hn2;generalize upd H3 n2 (.lst (as2.map V.ref))=H4 at s4' k4 |-;have s4:=s3.trans s4';refine⟨(show 2<=HY by decide),fun tt htt=>?_⟩;have s5':=ad htt (.tup [.ref n1,.ref n2]);have k5:(upd H4 tt (.tup [.ref n1,.ref n2])) tt=some (.tup [.ref n1,.ref n2]):=ab;have nn3:¬ (X tt\/tt=fo):=fun z=>hXX s4 tt z htt;generalize upd H4 tt (.tup [.ref n1,.ref n2])=H5 at s5' k5 |-;have s5:=s4.trans s5';refine⟨_,rfl,t,_,3,_,rfl,rfl,SqT.of (s5 _ _ h'),rfl,(fun c=>X c\/c=fo),i',a,rfl,hXX s5,hi'.same (ff s5),fun l1 H6 e6' hl6=>?_⟩;have e6:=s5.trans e6';refine⟨(show 4<=HY by decide),fun nt hnt=>?_⟩;have s7:=ad hnt (.tup [.str "while",.ref c,.ref tt,.ref l1]);have k7:(upd H6 nt (.tup [.str "while",.ref c,.ref tt,.ref l1])) nt=some (.tup [.str "while",.ref c,.ref tt,.ref l1]):=ab;have nn:¬ (X nt\/nt=fo):=fun z=>hXX e6 nt z hnt;generalize upd H6 nt (.tup [.str "while",.ref c,.ref tt,.ref l1])=H7 at s7 k7 |-;have e7:=e6.trans s7;have e57:=e6'.trans s7;have e47:=s5'.trans e57;have e37:=s4'.trans e47;exact⟨fo,_,_,rfl,rfl,e7 _ _ hf,hlt,done e7 (.loop c tt l1 n1 n2 r F' P' a (by rw[fg nn];exact k7) (ff e7 _ _ hc) okr (by rw[fg nn3];exact e57 _ _ k5) ⟨as1,by rw[fg nn1];exact e37 _ _ k3,Paired.mapP hF2 fun _ _ z=>RowAt.same z (ff e7)⟩ ⟨as2,by rw[fg nn2];exact e47 _ _ k4,Paired.mapP hP2 fun _ _ z=>RowAt.same z (ff e7)⟩ okF okP lF lP (hl6.same (ff s7)))⟩
 rintro σ H2 ⟨us,z2,e,hf,hpp,e0,hi,rfl⟩;refine hN1 _ _ ⟨_,rfl,?_⟩;have hsub:Same (rm (fun c=>X c\/c=fo) H2) (rm X H2):=aab fun c z=>.inl z;have htk:ds.take ((ts.map V.ref).length)=ds:=by rw[Ab,hpl,B3]
 rw[htk] at hpp;exact q fo H2 e0 ⟨us,by rw[fg nX];exact hf,Paired.mapP hpp fun _ _ z=>z.same hsub fun _ _ y=>y.same hsub,by rw[Ao hpp,<- hpl];exact hlen⟩
theorem a2i{X:Cx}{ix1 ix2 ix3 ix4 ix5 ix6:Nat}{x1 x2 x3 x4 x5 x6:Str}{px1 px2 px3 px4 px5 px6 pos:Pos}{k:Nat}(hx1:QG X (.Name x1 px1) (bp ix1))(hx2:QG X (.Name x2 px2) (bp ix2))(hx3:QG X (.Name x3 px3) (bp ix3))(hx4:QG X (.Name x4 px4) (bp ix4))(hx5:QG X (.Name x5 px5) (bp ix5))(hx6:QG X (.Name x6 px6) (bp ix6))(hc:X.calm=true:=by rfl)(a1:(IG [.Name x1 px1,.Name x2 px2,.Name x3 px3,.Name x4 px4,.Name x5 px5,.Name x6 px6] X.env).map (·.2)=assign (.Name x1 px1) X.env::(IG [.Name x2 px2,.Name x3 px3,.Name x4 px4,.Name x5 px5,.Name x6 px6] X.env).map (·.2):=by rfl)(a2:(IG [.Name x2 px2,.Name x3 px3,.Name x4 px4,.Name x5 px5,.Name x6 px6] X.env).map (·.2)=assign (.Name x2 px2) X.env::(IG [.Name x3 px3,.Name x4 px4,.Name x5 px5,.Name x6 px6] X.env).map (·.2):=by rfl)(a3:(IG [.Name x3 px3,.Name x4 px4,.Name x5 px5,.Name x6 px6] X.env).map (·.2)=assign (.Name x3 px3) X.env::(IG [.Name x4 px4,.Name x5 px5,.Name x6 px6] X.env).map (·.2):=by rfl)(a4:(IG [.Name x4 px4,.Name x5 px5,.Name x6 px6] X.env).map (·.2)=assign (.Name x4 px4) X.env::(IG [.Name x5 px5,.Name x6 px6] X.env).map (·.2):=by rfl)(a5:(IG [.Name x5 px5,.Name x6 px6] X.env).map (·.2)=assign (.Name x5 px5) X.env::(IG [.Name x6 px6] X.env).map (·.2):=by rfl)(a6:(IG [.Name x6 px6] X.env).map (·.2)=assign (.Name x6 px6) X.env::(IG [] X.env).map (·.2):=by rfl)(hn:(IG [.Name x1 px1,.Name x2 px2,.Name x3 px3,.Name x4 px4,.Name x5 px5,.Name x6 px6] X.env).length=6:=by rfl)(hst:(IG [.Name x1 px1,.Name x2 px2,.Name x3 px3,.Name x4 px4,.Name x5 px5,.Name x6 px6] X.env).findIdx? (·.1)=none:=by rfl):QG X (.Tuple [.Name x1 px1,.Name x2 px2,.Name x3 px3,.Name x4 px4,.Name x5 px5,.Name x6 px6] k pos) (gTup X.K 6 (il (bp ix1) (il (bp ix2) (il (bp ix3) (il (bp ix4) (il (bp ix5) (il (bp ix6) gNil))))))) :=
 ⟨v7 hc (fc hx1.run (fc hx2.run (fc hx3.run (fc hx4.run (fc hx5.run (fc hx6.run sf a6) a5) a4) a3) a2) a1) hn hst⟩
theorem a7d{X:Cx}{K:Ac}(h:X.K=K):dz X (.type "list") (fun xs H Q=>∃p ys,xs=[.ref p]/\(SqL K H p ys\/SqT K H p ys)/\∀l,H l=none->Q (.ref l) (upd H l (.lst ys))):=by subst h;exact de
abbrev wx:IP:=top 67
inductive spCopied(K:Ac)(bs:List Nat)(vs:List V)(H:Hp)(Q:VK)(E:XK):Prop
 | mk (pl:HW)(ts:List HW)(ps:List Prc)(h0:vs=[.ref pl])(h1:H pl=some (.lst (ts.map V.ref)))(h2:IE (PrcAt K H bs) ts ps)(h4:ts.length<=4)(q:∀cl us H',Same H H'->H' cl=some (.lst (us.map V.ref))->IE (PrcAt K H' bs) us ps->Q (.ref cl) H'):spCopied K bs vs H Q E
def RT(H3:Hp)(D:HW)(H:Hp)(tt:HW)(r:List HW×List HW):Prop:=∃n1 n2,H tt=some (.tup [.ref n1,.ref n2])/\H n1=some (.lst (r.1.map V.ref))/\H n2=some (.lst (r.2.map V.ref))/\tt≠D/\n1≠D/\n2≠D/\H3 tt=none/\H3 n1=none/\H3 n2=none
inductive CJ(K:Ac)(bs:List Nat)(H H1:Hp)(pl fo:HW)(ps:List Prc)(i:Nat)(σ:St)(H2:Hp):Prop
 | mk (us:List HW)(z2 z3 z4 z5 z6 z7 z8:Option V)(e:Same (rm (· = fo) H1) (rm (· = fo) H2))(hf:H2 fo=some (.lst (us.map V.ref)))(hp:IE (PrcAt K (rm (· = fo) H2) bs) us (ps.take i))(e0:Same H H2)(hi:i<=ps.length)(hσ:σ=[rQ pl,rQ fo,z2,z3,z4,z5,z6,z7,z8])
theorem scCopied:FnScope ["_law_program_here","_law_found","_law_name","_law_params","_law_result","_law_before","_law_behind","_law_body","_law_told_here"] ["_law_program_here"] (b7 wx):=⟨rfl,rfl,rfl,by decide,rfl,by decide,by decide⟩
theorem a4y{bs:List Nat}(C:Con K mg w)(F:Fun K "_law_copied" "_law_copied" wx f fd)(GC:FnOk P w K mg base CX0 6 gC dC ["_law_deeds"] (spCopy K bs))(cC:Cal K mg "_law_copy" gC dC ["_law_deeds"]):FnOk P w K mg base CX0 7 f fd ["_law_program_here"] (spCopied K bs):=by
 refine F.okQ scCopied (fun vs H Q E h=>?_) (fun cdv A outer s0 H vs Q E hr h=>?_)
 . obtain⟨pl,ts,ps,rfl,_⟩:=h;rfl
 obtain⟨pl,ts,ps,rfl,hl,hp,h4,q⟩:=h;have nd:=scCopied.nd;refine⟨_,ae (av (i:=1) nd rfl (Or.inl rfl) (bb aa))
  (ae (dq AS rfl (bz (qv 0)) (a2i (bj (i:=2) nd rfl (Or.inl rfl)) (bj (i:=3) nd rfl (Or.inl rfl)) (bj (i:=4) nd rfl (Or.inl rfl)) (bj (i:=5) nd rfl (Or.inl rfl)) (bj (i:=6) nd rfl (Or.inl rfl)) (bj (i:=7) nd rfl (Or.inl rfl))) (ae (jc ["_law_one"] [] (i:=8) nd rfl (Or.inl rfl) (bz (bb (af (qv 5) (af (qv 6) aa)))) (fun _ _ _ _=>db) (fun _ _ _ _=>(er (be (cg (a7d (K:=K) rfl) rfl C.list AQ (ar (ag (ixTK (K:=K) rfl) (qv 0) ac (fun _ _=>rfl)) aa)) (be (cg (a7d (K:=K) rfl) rfl C.list AQ (ar (ag (ixTK (K:=K) rfl) (qv 0) ac (fun _ _=>rfl)) aa)) aa)))))
  (aj (bu (cq (K:=K) rfl As Az AA bq (qv 1) (di (af (qv 2) (af (qv 3) (af (qv 4) (ar (ag bc (qv 8) ac (fun _ _=>rfl)) (ar (ag bc (qv 8) ac (fun _ _=>rfl)) (be (ak GC hr rfl cC.name cC.keep cC.bind .nil au (af (qv 7) aa)) aa)))))) aa))))))
  (aj (az (qv 1)))),?_⟩
 have hpl:=Ao hp;refine⟨AG _,fun fo hfo=>?_⟩;have g1:Same H (rm (· = fo) (upd H fo (.lst []))):=fun b o h=>by
  have nb:=aq h hfo;rw[fg (X:=(· = fo)) nb,ai nb];exact h
 have k1:(upd H fo (.lst [])) fo=some (.lst []):=ab;have s1:=ad hfo (.lst []);generalize upd H fo (.lst [])=H1 at g1 k1 s1 |-;have hl1:=g1 _ _ hl;have hp1:=Paired.mapP hp fun _ _ z=>z.same g1;dsimp only[bp];refine b9 (a:=tFor _ _ _) fun D1 hN1 hR1 hC1=>?_;refine⟨_,rfl,pl,rfl,⟨_,SqL.of (rm_back _ _ hl1)⟩,?_⟩;refine et (xs:=ts.map V.ref) (CJ K bs H H1 pl fo ps) ⟨[],none,none,none,none,none,none,none,Same.refl _,k1,.nil,s1,AG _,rfl⟩ (fun i σ H' _ h=>by obtain⟨_,_,_,_,_,_,_,_,e,_⟩:=h;exact SqL.of (rm_back _ _ (e _ _ hl1))) ?_ ?_
 . rintro i x σ H2 hx ⟨us,z2,z3,z4,z5,z6,z7,z8,e,hf,hpp,e0,hi,rfl⟩;rw[Ah] at hx;obtain⟨t,ht,rfl⟩:=AK.mp hx;obtain⟨p,hd,hP⟩:=Paired.nth hp1 ht;have hi4:i<4:=AH (Av.mp ht).1 h4;have hul:us.length<=4:=by rw[Ao hpp,AX];omega
   obtain⟨pt,t1,t2,f1,p1,f2,p2,bd,x⟩:=hP.same e;have hlt:(us.map V.ref).length<HY:=cy (by rw[Ab];omega);refine⟨t,_,rfl,SqT.of (rm_back _ _ x.tup),rfl,_,_,rfl,_,_,rfl,_,_,rfl,_,_,rfl,_,_,rfl,_,_,rfl,rfl,?_⟩;obtain⟨A1,hA1,hA1'⟩:=x.f1;obtain⟨B1,hB1,hB1'⟩:=x.p1;obtain⟨A2,hA2,hA2'⟩:=x.f2;obtain⟨B2,hB2,hB2'⟩:=x.p2;refine⟨_,rfl,_,rfl,(show 2<=HY by decide),fun x0 hx0=>?_⟩;have k3:(upd H2 x0 (.lst [.ref t1,.ref t2])) x0=some (.lst [.ref t1,.ref t2]):=ab;have s3:=ad hx0 (.lst [.ref t1,.ref t2]);generalize upd H2 x0 (.lst [.ref t1,.ref t2])=H3 at k3 s3 |-;have b3:Same (rm (· = fo) H2) H3:=rm_back.trans s3;refine⟨x0,rfl,⟨_,SqL.of k3⟩,?_⟩;refine a6l [.ref t1,.ref t2] [(A1,B1),(A2,B2)] (fun D H y r=>∃tt,y=V.ref tt/\RT H3 D H tt r) id cs (SqL.of k3) (show 2<=1000 by decide) rfl (fun D G G' y r z e'=>?_) (fun D j x' r hx' hr' H4 e4 hD Q' q'=>?_) (fun th H4 ys hth e4 hth4 hpt=>?_)
   . obtain⟨tt,rfl,n1,n2,h1,h2,h3,h4',h5,h6,h7⟩:=z;exact⟨tt,rfl,n1,n2,e' _ _ h1 h4',e' _ _ h2 h5,e' _ _ h3 h6,h4',h5,h6,h7⟩
   . obtain⟨tl,fa,pa,Aa,Bb,ht1,ht2,ht3,rfl,rfl⟩:∃(tl fa pa:HW) (Aa Bb:List HW),H3 tl=some (.tup [.ref fa,.ref pa])/\H3 fa=some (.lst (Aa.map V.ref))/\H3 pa=some (.lst (Bb.map V.ref))/\x'=.ref tl/\r=(Aa,Bb):=by
      match j,hx',hr' with
      | 0,hx',hr'=>exact⟨_,_,_,_,_,b3 _ _ x.t1,b3 _ _ hA1,b3 _ _ hB1,(Ay hx').symm,(Ay hr').symm⟩
      | 1,hx',hr'=>exact⟨_,_,_,_,_,b3 _ _ x.t2,b3 _ _ hA2,b3 _ _ hB2,(Ay hx').symm,(Ay hr').symm⟩
      | k+2,hx',_=>cases hx'
     refine⟨_,rfl,tl,_,0,_,rfl,rfl,SqT.of (e4 _ _ ht1),rfl,fa,_,rfl,.inl (SqL.of (e4 _ _ ht2)),fun n1 hn1=>?_⟩;have s5:=ad hn1 (.lst (Aa.map V.ref));have k5:(upd H4 n1 (.lst (Aa.map V.ref))) n1=some (.lst (Aa.map V.ref)):=ab;have hD5:(upd H4 n1 (.lst (Aa.map V.ref))) D≠none:=by
      intro z;exact hD (s5.free z)
     have nD1:n1≠D:=fun z=>hD (by rw[<- z];exact hn1);generalize upd H4 n1 (.lst (Aa.map V.ref))=H5 at s5 k5 hD5 |-;have e5:=e4.trans s5;refine⟨_,rfl,tl,_,1,_,rfl,rfl,SqT.of (e5 _ _ ht1),rfl,pa,_,rfl,.inl (SqL.of (e5 _ _ ht3)),fun n2 hn2=>?_⟩;have s6:=ad hn2 (.lst (Bb.map V.ref));have k6:(upd H5 n2 (.lst (Bb.map V.ref))) n2=some (.lst (Bb.map V.ref)):=ab;have hD6:(upd H5 n2 (.lst (Bb.map V.ref))) D≠none:=fun z=>hD5 (s6.free z);have nD2:n2≠D:=fun z=>hD5 (by rw[<- z];exact hn2);generalize upd H5 n2 (.lst (Bb.map V.ref))=H6 at s6 k6 hD6 |-;exact⟨(show 2<=HY by decide),fun tt htt=>q' (.ref tt) _ ((s5.trans s6).trans (ad htt _)) ⟨tt,rfl,n1,n2,ab,ad htt _ _ _ (s6 _ _ k5),ad htt _ _ _ k6,(fun z=>hD6 (by rw[<- z];exact htt)),nD1,nD2,e5.free (s6.free htt),e4.free hn1,e5.free hn2⟩⟩
   rw[Ck] at hpt;obtain⟨tts,rfl,hpt'⟩:=i4 hpt;obtain⟨tt1,tt2,rfl,⟨n1,n2,ha1,ha2,ha3,_,_,_,ha4,ha5,ha6⟩,⟨m1,m2,hb1,hb2,hb3,_,_,_,hb4,hb5,hb6⟩⟩:∃tt1 tt2,tts=[tt1,tt2]/\RT H3 th H4 tt1 (A1,B1)/\RT H3 th H4 tt2 (A2,B2):=by
    cases hpt' with
    | cons h1 h2 =>
     cases h2 with
     | cons h3 h4=>cases h4;exact⟨_,_,rfl,h1,h3⟩
   have e34:=s3.trans e4;have hf4:=e34 _ _ hf;have nf:∀{c:HW},H3 c=none->¬ c=fo:=fun h z=>by
    rw[z,s3 _ _ hf] at h;cases h
   have g4:Same (rm (· = fo) H2) (rm (· = fo) H4):=ff e34;refine⟨_,rfl,(.inl ⟨rfl,_,SqL.of hf4⟩),_,rfl,_,rfl,_,rfl,_,rfl,th,_,_,_,rfl,rfl,SqL.of hth4,rfl,_,rfl,th,_,_,_,rfl,rfl,SqL.of hth4,rfl,_,rfl,(· = fo),bd,p.body,rfl,(fun c z y=>by rw[z,hf4] at y;cases y),x.body.same g4,fun l' H5 e5 hl5=>?_⟩;refine⟨(show 6<=HY by decide),fun nt hnt=>?_⟩;have s6:=ad hnt (.tup [.str p.name,.ref pt,.str p.res,.ref tt1,.ref tt2,.ref l']);have k6:(upd H5 nt (.tup [.str p.name,.ref pt,.str p.res,.ref tt1,.ref tt2,.ref l'])) nt=some (.tup [.str p.name,.ref pt,.str p.res,.ref tt1,.ref tt2,.ref l']):=ab;have hf5:=e5 _ _ hf4;have nnt:¬ nt=fo:=(aq hf5 hnt).symm;generalize upd H5 nt (.tup [.str p.name,.ref pt,.str p.res,.ref tt1,.ref tt2,.ref l'])=H6 at s6 k6 |-;have e46:=e5.trans s6;have e26:=e34.trans e46;have g6:Same (rm (· = fo) H2) (rm (· = fo) H6):=ff e26;refine⟨fo,_,_,rfl,rfl,s6 _ _ hf5,hlt,?_⟩;have r:rm (· = fo) (upd H6 fo (.lst (us.map V.ref++[.ref nt])))=rm (· = fo) H6:=a0p (X:=(· = fo)) rfl;have at6:∀{c:HW} {o:HO},¬ c=fo->H4 c=some o->(rm (· = fo) H6) c=some o:=fun {c o} n h=>by rw[fg (X:=(· = fo)) n];exact e46 _ _ h
   refine⟨us++[nt],_,_,_,_,_,_,_,by rw[r];exact e.trans g6,by rw[ab,Al];rfl,?_,fun b o h=>by rw[ai (aq h hfo)];exact e26 _ _ (e0 _ _ h),(Av.mp hd).1,rfl⟩;rw[r,Bn,hd];refine Paired.snocP (Paired.mapP hpp fun _ _ z=>z.same g6) ⟨pt,tt1,tt2,n1,n2,m1,m2,l',?_⟩;exact⟨by rw[fg (X:=(· = fo)) nnt];exact k6,g6 _ _ x.pt,at6 (nf ha4) ha1,at6 (nf hb4) hb1,⟨A1,at6 (nf ha5) ha2,Paired.mapP hA1' fun _ _ z=>RowAt.same z g6⟩,⟨B1,at6 (nf ha6) ha3,Paired.mapP hB1' fun _ _ z=>RowAt.same z g6⟩,⟨A2,at6 (nf hb5) hb2,Paired.mapP hA2' fun _ _ z=>RowAt.same z g6⟩,⟨B2,at6 (nf hb6) hb3,Paired.mapP hB2' fun _ _ z=>RowAt.same z g6⟩,hl5.same (ff s6),x.okn,x.okr,x.okp,x.ok1,x.ok2,x.l1,x.l2⟩
 rintro σ H2 ⟨us,z2,z3,z4,z5,z6,z7,z8,e,hf,hpp,e0,hi,rfl⟩;refine hN1 _ _ ⟨_,rfl,?_⟩;have htk:ps.take ((ts.map V.ref).length)=ps:=by rw[Ab,hpl,B3]
 rw[htk] at hpp;exact q fo us H2 e0 hf (Paired.mapP hpp fun _ _ z=>z.same rm_back)
abbrev sTW:IP:=top 70
abbrev wb:IP:=top 68
abbrev a0n:IP:=top 69
def twR(r:List Str):List Str:=(r.drop 1).filter fun y => !decide (V.str y=V.str "any")
def tw(F P:List (List Str)):List Str:=(F++P).flatMap twR
inductive spTW(K:Ac)(vs:List V)(H:Hp)(Q:VK)(E:XK):Prop
 | mk (t fa pa:HW)(F P:List (List Str))(h0:vs=[.ref t])(h1:H t=some (.tup [.ref fa,.ref pa]))(hF:RowsAt K H fa F)(hP:RowsAt K H pa P)(lF:F.length<=10)(lP:P.length<=10)(lr:∀r∈F++P,r.length<=5)(q:∀l H',Same H H'->H' l=some (.lst ((tw F P).map V.str))->Q (.ref l) H'):spTW K vs H Q E
section
variable{P:IC}{w:IF}{K:Ac}{mg:Str->Option HX}{base:IJ}{f gT gW:HW}{fd dT dW:II}{n:Nat}{bs:List Nat}
theorem scTW:FnScope ["_law_telling","_law_found","_law_row"] ["_law_telling"] (b7 sTW):=⟨rfl,rfl,rfl,by decide,rfl,by decide,by decide⟩
theorem aag(C:Con K mg w)(F:Fun K "_law_told_words" "_law_told_words" sTW f fd):FnOk P w K mg base CX0 1 f fd ["_law_telling"] (spTW K):=by
 refine F.okQ scTW (fun vs H Q E h=>?_) (fun cdv A outer s0 H vs Q E hr h=>?_)
 . obtain⟨t,fa,pa,F',P',rfl,_⟩:=h;rfl
 obtain⟨t,fa,pa,F',P',rfl,h1,⟨as1,hf1,hf2⟩,⟨as2,hp1,hp2⟩,lF,lP,lr,q⟩:=h;have nd:=scTW.nd;refine⟨_,ae (av (i:=1) nd rfl (Or.inl rfl) (bb aa))
  (ae (dq AS rfl (bz (am ce (ag ao (qv 0) ac (fun _ _=>rfl)) (ag ao (qv 0) ac (fun _ _=>rfl)))) (bj (i:=2) nd rfl (Or.inl rfl)) (aj (av (i:=1) nd rfl (Or.inl rfl) (am ce (qv 1) (ik (a4o (dr mv (qv 2) (ek ac) ft)) (fun _ _ _ _=>(ke (ax jq (qv 0) bv (ay _)))) (fun _ _ _ _=>(qv 0)))))))
  (aj (az (qv 1)))),?_⟩
 have l1:=Ao hf2;have l2:=Ao hp2;refine b9 (a:=tAsg _ _) fun D1 hN1 _ _=>?_;refine⟨AG _,fun fo hfo=>?_⟩;have s1:=ad hfo (.lst []);have k1:(upd H fo (.lst [])) fo=some (.lst []):=ab;change D1.nx _ (upd H fo (.lst []));generalize upd H fo (.lst [])=H1 at s1 k1 |-;refine hN1 [some (.ref t),some (.ref fo),none] _ ?_;refine b9 (a:=tFor _ _ _) fun D2 hN2 _ _=>?_;refine⟨_,rfl,t,_,0,_,rfl,rfl,SqT.of (s1 _ _ h1),rfl,_,rfl,t,_,1,_,rfl,rfl,SqT.of (s1 _ _ h1),rfl,fa,pa,_,_,rfl,rfl,s1 _ _ hf1,s1 _ _ hp1,bx (by rw[Ab,Ab];omega),fun al hal=>?_⟩;have s2:=ad hal (.lst (as1.map V.ref++as2.map V.ref));have k2:(upd H1 al (.lst (as1.map V.ref++as2.map V.ref))) al=some (.lst ((as1++as2).map V.ref)):=by rw[ab,Al]
 generalize upd H1 al (.lst (as1.map V.ref++as2.map V.ref))=H2 at s2 k2 |-;have e2:=s1.trans s2;have hrows:IE (fun b r=>RowAt K H b r) (as1++as2) (F'++P'):=Paired.app hf2 hp2;refine⟨al,rfl,⟨_,SqL.of k2⟩,?_⟩;refine et (xs:=(as1++as2).map V.ref) (fun i σ H'=>Same H2 H'/\∃fo' z2,H' fo'=some (.lst ((((F'++P').take i).flatMap twR).map V.str))/\σ=[some (.ref t),some (.ref fo'),z2]) ⟨Same.refl _,fo,none,by simpa using s2 _ _ k1,rfl⟩ (fun i σ H' _ z=>SqL.of (z.1 _ _ k2)) ?_ ?_
 . rintro i v σ H3 hv ⟨e3,fo',z2,k3,rfl⟩;rw[Ah] at hv;obtain⟨b,hb,rfl⟩:=AK.mp hv;obtain⟨r,hr',hrow⟩:=Paired.nth hrows hb;have eH3:=e2.trans e3;have hrl:=lr r (Ak hr');refine⟨_,rfl,_,rfl,_,rfl,b,_,rfl,eH3.seqT hrow,fun p1 H4 e4 k4=>?_⟩;rw[show cutV (r.map V.str) (some (1:Int)) none=(r.drop 1).map V.str from iu (r:=r) (k:=1)] at k4;refine⟨p1,rfl,⟨_,k4⟩,?_⟩;refine mf (r.drop 1) (fun y => !decide (V.str y=V.str "any")) jb k4 (by rw[Bi];omega) (fun n hn H2' e Q' q'=>⟨_,rfl,rfl,_,rfl,q' H2' (Same.refl _)⟩) (fun n H2' Q' q'=>⟨_,rfl,q'⟩) (fun p2 H5 hp2' e5 k5=>?_);have hlen:(((F'++P').take i).flatMap twR).length<=100:=by
    refine Aw (yj _ _ _) ?_;have:∀l:List (List Str),(∀r∈l,r.length<=5)->(l.flatMap twR).length<=5*l.length:=fun l=>by
     induction l with
     | nil=>intro _;exact Ar _
     | cons x l ih =>
      intro hx;have h1:=ih fun r hr=>hx r (.tail _ hr);have h2:(twR x).length<=5:=Aw (Bd _ _) (by rw[Bi];have:=hx x (.head _);omega);rw[BI,Ae,AY];omega
    have h3:=this (F'++P') lr;rw[Ae] at h3;omega
   refine⟨fo',p2,_,_,rfl,rfl,e5 _ _ (e4 _ _ k3),k5,bx ?_,fun fo2 hfo2=>?_⟩
   . rw[Ab,Ab];have:=Bd (fun y => !decide (V.str y=V.str "any")) (r.drop 1);rw[Bi] at this;omega
   . refine⟨((e3.trans e4).trans e5).trans (ad hfo2 _),fo2,_,?_,rfl⟩;rw[ab,kb (g:=twR) hr',Al];rfl
 . rintro σ H3 ⟨e3,fo',z2,k3,rfl⟩;refine hN2 _ _ ⟨_,rfl,?_⟩;rw[Bf (by rw[Ab,Ao hrows];exact Ar _)] at k3;exact q fo' H3 (e2.trans e3) k3
end
def inC(f:List Deed->Nat):Deed->Nat
 | .plain _=>0
 | .cond _ a b=>f a+f b
 | .loop _ _ _ a=>f a
theorem a9z(f:List Deed->Nat)(d:Deed):dcD f d=1+inC f d:=by cases d<;>rfl
theorem zv(f:List Deed->Nat):∀ds:List Deed,(ds.map (dcD f)).sum=ds.length+(ds.map (inC f)).sum
 | []=>rfl
 | d::ds=>by rw[Be,BJ,zv f ds,a9z,Be,BJ,AY];omega
theorem a62{f:Deed->Nat}{ds:List Deed}{i:Nat}{d:Deed}(h:ds[i]?=some d):((ds.take (i+1)).map f).sum=((ds.take i).map f).sum+f d:=by
 rw[Bn,h,Al,Ht];simp
inductive spCount(K:Ac)(bs:List Nat)(vs:List V)(H:Hp)(Q:VK)(E:XK):Prop
 | mk (l:HW)(ds:List Deed)(h0:vs=[.ref l])(h1:ListX K H bs l ds)(q:∀H',Same H H'->Q (.int (dcL bs ds:Nat)) H'):spCount K bs vs H Q E
section
variable{P:IC}{w:IF}{K:Ac}{mg:Str->Option HX}{base:IJ}{f gT gW:HW}{fd dT dW:II}{n:Nat}{bs:List Nat}
theorem a5t:FnOk P w K mg base CX0 1 f fd ["_law_deeds"] (spCount K []) :=
 ⟨fun vs H Q E h=>by obtain⟨l,ds,_,h1,_⟩:=h;exact h1.elim,fun A outer s H args us vs Q E _ _ _ _ h=>by obtain⟨l,ds,_,h1,_⟩:=h;exact h1.elim⟩
theorem scCount:FnScope ["_law_deeds","_law_many","_law_deed"] ["_law_deeds"] (b7 a0n):=⟨rfl,rfl,rfl,by decide,rfl,by decide,by decide⟩
theorem ly{b:Nat}(hb:b<=900)(C:Con K mg w)(F:Fun K "_law_count" "_law_count" a0n f fd)(GR:FnOk P w K mg base CX0 (n+1) f fd ["_law_deeds"] (spCount K bs))(cR:Cal K mg "_law_count" f fd ["_law_deeds"]):FnOk P w K mg base CX0 (n+1+1) f fd ["_law_deeds"] (spCount K (b::bs)):=by
 refine F.okQ scCount (fun vs H Q E h=>?_) (fun cdv A outer s0 H vs Q E hr h=>?_)
 . obtain⟨l,ds,rfl,_⟩:=h;rfl
 obtain⟨l,ds,rfl,⟨ts,hl,hp,hlen⟩,q⟩:=h;have nd:=scCount.nd;refine⟨_,ae (av (i:=1) nd rfl (Or.inl rfl) (aw ap rfl C.len Ap (af (qv 0) aa)))
  (ae (dq AS rfl (bz (qv 0)) (bj (i:=2) nd rfl (Or.inl rfl)) (aj (bf (ax bo (ag ao (qv 2) ac (fun _ _=>rfl)) bv (ay _)) (aj (av (i:=1) nd rfl (Or.inl rfl) (am cw (am cw (qv 1) (ak GR hr rfl cR.name cR.keep cR.bind .nil au (ar (ag ao (qv 2) ac (fun _ _=>rfl)) aa))) (ak GR hr rfl cR.name cR.keep cR.bind .nil au (ar (ag ao (qv 2) ac (fun _ _=>rfl)) aa))))) (aj (bf (ax bo (ag ao (qv 2) ac (fun _ _=>rfl)) bv (ay _)) (aj (av (i:=1) nd rfl (Or.inl rfl) (am cw (qv 1) (ak GR hr rfl cR.name cR.keep cR.bind .nil au (ar (ag ao (qv 2) ac (fun _ _=>rfl)) aa))))) bm)))))
  (aj (az (qv 1)))),?_⟩
 have hpl:=Ao hp;refine b9 (a:=tAsg _ _) fun D1 hN1 _ _=>?_;refine⟨_,rfl,l,_,rfl,.inl (SqL.of hl),?_⟩;rw[show ((ts.map V.ref).length:Int)=((ds.length:Nat):Int) by rw[Ab,hpl]];refine hN1 [some (.ref l),some (.int (ds.length:Nat)),none] _ ?_;refine b9 (a:=tFor _ _ _) fun D2 hN2 _ _=>?_;refine⟨_,rfl,l,rfl,⟨_,SqL.of hl⟩,?_⟩;refine et (xs:=ts.map V.ref) (fun i σ H'=>Same H H'/\∃z2,σ=[some (.ref l),some (.int ((ds.length+((ds.take i).map (inC (dcL bs))).sum:Nat):Int)),z2]) ⟨Same.refl _,none,rfl⟩ (fun i σ H' _ z=>SqL.of (z.1 _ _ hl)) ?_ ?_
 . rintro i v σ H3 hv ⟨e3,z2,rfl⟩;rw[Ah] at hv;obtain⟨td,htd,rfl⟩:=AK.mp hv;obtain⟨d,hd,hX⟩:=Paired.nth hp htd;have hX3:=hX.same e3 fun _ _ y=>y.same e3;rw[a62 hd];cases hX3 with
   | plain p h1 h2 =>
    obtain⟨w',us,hw,n1,n2⟩:=kz h1 h2;refine⟨_,rfl,td,_,0,.str w',rfl,rfl,SqT.of hw,at0,rfl,_,rfl,iteB (fun c=>absurd (V.str.inj (of_decide_eq_true c)) n1) (fun _=>?_)⟩;refine⟨_,rfl,td,_,0,.str w',rfl,rfl,SqT.of hw,at0,rfl,_,rfl,iteB (fun c=>absurd (V.str.inj (of_decide_eq_true c)) n2) (fun _=>?_)⟩;exact⟨e3,_,rfl⟩
   | cond c i' o r a b h hc okr hi ho =>
    refine⟨_,rfl,td,_,0,_,rfl,rfl,SqT.of h,rfl,rfl,_,rfl,iteB (fun _=>?_) (fun c=>absurd c (by decide))⟩;refine⟨_,rfl,_,rfl,td,_,2,_,rfl,rfl,SqT.of h,rfl,i',a,rfl,hi,fun H4 e4=>?_⟩;refine⟨_,_,rfl,rfl,_,rfl,td,_,3,_,rfl,rfl,SqT.of (e4 _ _ h),rfl,o,b,rfl,ho.same e4,fun H5 e5=>?_⟩;refine⟨_,_,rfl,rfl,(e3.trans e4).trans e5,some (.ref td),?_⟩;refine congrArg (fun x=>[some (V.ref l),some (V.int x),some (V.ref td)]) ?_;show ((ds.length+((ds.take i).map (inC (dcL bs))).sum:Nat):Int)+(dcL bs a:Nat)+(dcL bs b:Nat)=((ds.length+(((ds.take i).map (inC (dcL bs))).sum+(dcL bs a+dcL bs b)):Nat):Int)
    omega
   | loop c td' i' fa pa r F' P' a h hc okr htd' hF hP okF okP lF lP hi =>
    refine⟨_,rfl,td,_,0,_,rfl,rfl,SqT.of h,rfl,rfl,_,rfl,iteB (fun c=>absurd c (by decide)) (fun _=>?_)⟩;refine⟨_,rfl,td,_,0,_,rfl,rfl,SqT.of h,rfl,rfl,_,rfl,iteB (fun _=>?_) (fun c=>absurd c (by decide))⟩;refine⟨_,rfl,_,rfl,td,_,3,_,rfl,rfl,SqT.of h,rfl,i',a,rfl,hi,fun H4 e4=>?_⟩;refine⟨_,_,rfl,rfl,e3.trans e4,some (.ref td),?_⟩;refine congrArg (fun x=>[some (V.ref l),some (V.int x),some (V.ref td)]) ?_;show ((ds.length+((ds.take i).map (inC (dcL bs))).sum:Nat):Int)+(dcL bs a:Nat)=((ds.length+(((ds.take i).map (inC (dcL bs))).sum+dcL bs a):Nat):Int)
    omega
 . rintro σ H3 ⟨e3,z2,rfl⟩;refine hN2 _ _ ⟨_,rfl,?_⟩;rw[Bf (by rw[Ab,hpl];exact Ar _)];have:=q H3 e3;rw[show dcL (b::bs) ds=(ds.map (dcD (dcL bs))).sum from rfl,zv] at this;exact this
end
def lwP:Pl->List Str
 | .row (k::r)=>if k="read" then r.take 2 else if k="write" then r.take 1++r.drop 2 else r
 | .row []=>[]
 | .call x _ vs=>x::vs
def lwD(f:List Deed->List Str):Deed->List Str
 | .plain p=>lwP p
 | .cond r a b=>r.drop 1++f a++f b
 | .loop r F P a=>r.drop 1++tw F P++f a
def lwL:List Nat->List Deed->List Str
 | [],_=>[]
 | _::bs,ds=>ds.flatMap (lwD (lwL bs))
def LwOk:Deed->Prop
 | .plain (.row r)=>∃k r' fs,r=k::r'/\(k,fs)∈forms/\fs.length=r'.length
 | .plain (.call _ _ vs)=>vs.length<=8
 | .cond r _ _=>r.length=3
 | .loop r F P _=>r.length=3/\∀r∈F++P,r.length<=5
theorem a0e:∀x∈forms,(x.1="read" \/ x.1="write")->x.2.length=3:=by decide
theorem len3{α:Type}{l:List α}(h:l.length=3):∃x y z,l=[x,y,z]:=by
 match l,h with
 | [x,y,z],_=>exact⟨x,y,z,rfl⟩
theorem v9(k:Str)(r:List Str):lwP (.row (k::r))=if k="read" then r.take 2 else if k="write" then r.take 1++r.drop 2 else r:=rfl
inductive spLW(K:Ac)(bs:List Nat)(vs:List V)(H:Hp)(Q:VK)(E:XK):Prop
 | mk (l:HW)(ds:List Deed)(h0:vs=[.ref l])(h1:ListX K H bs l ds)(h2:∀d∈allL bs ds,LwOk d)(h3:(lwL bs ds).length<=900)(q:∀l' H',Same H H'->H' l'=some (.lst ((lwL bs ds).map V.str))->Q (.ref l') H'):spLW K bs vs H Q E
section
variable{P:IC}{w:IF}{K:Ac}{mg:Str->Option HX}{base:IJ}{f gT:HW}{fd dT:II}{n:Nat}{bs:List Nat}
theorem a9a:FnOk P w K mg base CX0 n f fd ["_law_deeds"] (spLW K []) :=
 ⟨fun vs H Q E h=>by obtain⟨l,ds,_,h1,_⟩:=h;exact h1.elim,fun A outer s H args us vs Q E _ _ _ _ h=>by obtain⟨l,ds,_,h1,_⟩:=h;exact h1.elim⟩
theorem scLW:FnScope ["_law_deeds","_law_found","_law_deed"] ["_law_deeds"] (b7 wb):=⟨rfl,rfl,rfl,by decide,rfl,by decide,by decide⟩
theorem r9{b:Nat}(hn:1<=n)(C:Con K mg w)(F:Fun K "_law_words" "_law_words" wb f fd)(GT:FnOk P w K mg base CX0 1 gT dT ["_law_telling"] (spTW K))(cT:Cal K mg "_law_told_words" gT dT ["_law_telling"])(GR:FnOk P w K mg base CX0 n f fd ["_law_deeds"] (spLW K bs))(cR:Cal K mg "_law_words" f fd ["_law_deeds"]):FnOk P w K mg base CX0 (n+1) f fd ["_law_deeds"] (spLW K (b::bs)):=by
 refine F.okQ scLW (fun vs H Q E h=>?_) (fun cdv A outer s0 H vs Q E hr h=>?_)
 . obtain⟨l,ds,rfl,_⟩:=h;rfl
 obtain⟨l,ds,rfl,⟨ts,hl,hp,hlen⟩,hok,h900,q⟩:=h;have nd:=scLW.nd;have hr1:=hr.mono (j:=1) (by omega);refine⟨_,ae (av (i:=1) nd rfl (Or.inl rfl) (bb aa))
  (ae (dq AS rfl (bz (qv 0)) (bj (i:=2) nd rfl (Or.inl rfl)) (aj (bf (ax bo (ag ao (qv 2) ac (fun _ _=>rfl)) bv (ay _)) (aj (av (i:=1) nd rfl (Or.inl rfl) (am ce (qv 1) (bb (ar (ag ao (qv 2) ac (fun _ _=>rfl)) (ar (ag ao (qv 2) ac (fun _ _=>rfl)) aa)))))) (aj (bf (ax bo (ag ao (qv 2) ac (fun _ _=>rfl)) bv (ay _)) (aj (av (i:=1) nd rfl (Or.inl rfl) (am ce (qv 1) (bb (ar (ag ao (qv 2) ac (fun _ _=>rfl)) (ar (ag ao (qv 2) ac (fun _ _=>rfl)) aa)))))) (aj (bf (ax bo (ag ao (qv 2) ac (fun _ _=>rfl)) bv (ay _)) (aj (av (i:=1) nd rfl (Or.inl rfl) (am ce (am ce (qv 1) (bb (ar (ag ao (qv 2) ac (fun _ _=>rfl)) aa))) (cg de rfl C.list AQ (ar (ag ao (qv 2) ac (fun _ _=>rfl)) aa))))) (aj (bf (ax bo (ag ao (qv 2) ac (fun _ _=>rfl)) bv (ay _)) (aj (av (i:=1) nd rfl (Or.inl rfl) (am ce (am ce (am ce (qv 1) (bb (ar (ag ao (ag ao (qv 2) ac (fun _ _=>rfl)) ac (fun _ _=>rfl)) (ar (ag ao (ag ao (qv 2) ac (fun _ _=>rfl)) ac (fun _ _=>rfl)) aa)))) (ak GR hr rfl cR.name cR.keep cR.bind .nil au (ar (ag ao (qv 2) ac (fun _ _=>rfl)) aa))) (ak GR hr rfl cR.name cR.keep cR.bind .nil au (ar (ag ao (qv 2) ac (fun _ _=>rfl)) aa))))) (aj (bf (ax bo (ag ao (qv 2) ac (fun _ _=>rfl)) bv (ay _)) (aj (av (i:=1) nd rfl (Or.inl rfl) (am ce (am ce (am ce (qv 1) (bb (ar (ag ao (ag ao (qv 2) ac (fun _ _=>rfl)) ac (fun _ _=>rfl)) (ar (ag ao (ag ao (qv 2) ac (fun _ _=>rfl)) ac (fun _ _=>rfl)) aa)))) (ak GT hr1 rfl cT.name cT.keep cT.bind .nil au (ar (ag ao (qv 2) ac (fun _ _=>rfl)) aa))) (ak GR hr rfl cR.name cR.keep cR.bind .nil au (ar (ag ao (qv 2) ac (fun _ _=>rfl)) aa))))) (aj (av (i:=1) nd rfl (Or.inl rfl) (am ce (qv 1) (cg de rfl C.list AQ (ar (dr mv (qv 2) (ek ac) ft) aa))))))))))))))))
  (aj (az (qv 1)))),?_⟩
 have hpl:=Ao hp;refine b9 (a:=tAsg _ _) fun D1 hN1 _ _=>?_;refine⟨AG _,fun fo hfo=>?_⟩;have s1:=ad hfo (.lst []);have k1:(upd H fo (.lst [])) fo=some (.lst []):=ab;change D1.nx _ (upd H fo (.lst []));generalize upd H fo (.lst [])=H1 at s1 k1 |-;refine hN1 [some (.ref l),some (.ref fo),none] _ ?_;refine b9 (a:=tFor _ _ _) fun D2 hN2 _ _=>?_;refine⟨_,rfl,l,rfl,⟨_,SqL.of (s1 _ _ hl)⟩,?_⟩;refine et (xs:=ts.map V.ref) (fun i σ H'=>Same H H'/\∃fo' z2,H' fo'=some (.lst (((ds.take i).flatMap (lwD (lwL bs))).map V.str))/\σ=[some (.ref l),some (.ref fo'),z2]) ⟨s1,fo,none,k1,rfl⟩ (fun i σ H' _ z=>SqL.of (z.1 _ _ hl)) ?_ ?_
 . rintro i v σ H3 hv ⟨e3,fo',z2,k3,rfl⟩;rw[Ah] at hv;obtain⟨td,htd,rfl⟩:=AK.mp hv;obtain⟨d,hd,hX⟩:=Paired.nth hp htd;have hX3:=hX.same e3 fun _ _ y=>y.same e3;have hdm:=Ak hd;have hall:∀d',d'∈allD (allL bs) d->d'∈allL (b::bs) ds:=fun d' hd'=>Br.mpr ⟨d,hdm,hd'⟩;have hLw:=hok d (hall d (.head _));have hle:((ds.take i).flatMap (lwD (lwL bs))).length+(lwD (lwL bs) d).length<=900:=by
    have h1:=yj ds (lwD (lwL bs)) (i+1);rw[kb (g:=lwD (lwL bs)) hd,Ae] at h1;exact Aw h1 h900
   rw[kb (g:=lwD (lwL bs)) hd];generalize (ds.take i).flatMap (lwD (lwL bs))=pre at k3 hle |-;have cat:∀{G:Hp} {as ws vs:List Str} {fa fb:HW},Same H3 G->G fa=some (.lst (as.map V.str))->G fb=some (.lst (ws.map V.str))->as.length+ws.length<=900->∀Q2:VK,(∀(l2:HW) (G2:Hp),Same G G2->G2 l2=some (.lst ((as++ws).map V.str))->Q2 (.ref l2) G2)->rCat (.ref fa) (.ref fb) G Q2:=fun {G as ws vs fa fb} e ha hb' hle2 Q2 q2=>⟨fa,fb,_,_,rfl,rfl,ha,hb',bx (by rw[Ab,Ab];omega),fun l2 hl2=>q2 l2 _ (ad hl2 _) (by rw[ab,Al])⟩
   have fin:∀{G:Hp} {l2:HW} {ws:List Str},Same H3 G->G l2=some (.lst ((pre++ws).map V.str))->ws=lwD (lwL bs) d->(Same H G/\∃fo' z2,G fo'=some (.lst ((pre++lwD (lwL bs) d).map V.str))/\[some (V.ref l),some (V.ref l2),some (V.ref td)]=[some (.ref l),some (.ref fo'),z2]):=fun {G l2 ws} e k h=>⟨e3.trans e,l2,_,by rw[<- h];exact k,rfl⟩
   have no:∀{w':Str} {us:List V} {k:Str},H3 td=some (.tup (.str w'::us))->w'≠k->∀(t1 t2:TS) (D:Ends),t2 D [some (.ref l),some (.ref fo'),some (.ref td)] H3->tIfS (kq (tOp rEq (tOp (rIxT K) (tVar 2) (tC (.int 0))) (tC (.str k)))) t1 t2 D [some (.ref l),some (.ref fo'),some (.ref td)] H3:=fun {w' us k} hw hne t1 t2 D h=>⟨_,rfl,td,_,0,.str w',rfl,rfl,SqT.of hw,at0,rfl,_,rfl,iteB (fun c=>absurd (V.str.inj (of_decide_eq_true c)) hne) (fun _=>h)⟩
   have yes:∀{us:List V} {k:Str},H3 td=some (.tup (.str k::us))->∀(t1 t2:TS) (D:Ends),t1 D [some (.ref l),some (.ref fo'),some (.ref td)] H3->tIfS (kq (tOp rEq (tOp (rIxT K) (tVar 2) (tC (.int 0))) (tC (.str k)))) t1 t2 D [some (.ref l),some (.ref fo'),some (.ref td)] H3:=fun {us k} hw t1 t2 D h=>⟨_,rfl,td,_,0,.str k,rfl,rfl,SqT.of hw,at0,rfl,_,rfl,iteB (fun _=>h) (fun c=>absurd rfl (of_decide_eq_false c))⟩
   cases hX3 with
   | plain p h1 h2 =>
    cases p with
    | call x c vs =>
     obtain⟨v,h1,h1'⟩:=h1;refine no h1 (by decide) _ _ _ (no h1 (by decide) _ _ _ (yes h1 _ _ _ ?_));have hle':pre.length+(vs.length+1)<=900:=hle;refine⟨_,rfl,_,rfl,td,_,1,.str x,rfl,rfl,SqT.of h1,rfl,(show 1<=HY by decide),fun l2 hl2=>?_⟩;have s4:=ad hl2 (.lst [.str x]);have k4:(upd H3 l2 (.lst [.str x])) l2=some (.lst ([x].map V.str)):=ab;generalize upd H3 l2 (.lst [.str x])=H4 at s4 k4 |-;refine cat (vs:=[]) s4 (s4 _ _ k3) k4 (by rw[AN];omega) _ fun l3 H5 e5 k5=>?_;have e35:=s4.trans e5;refine⟨_,rfl,td,_,3,_,rfl,rfl,SqT.of (e35 _ _ h1),rfl,v,_,rfl,.inr (SqT.of (e35 _ _ h1')),fun l4 hl4=>?_⟩;have s6:=ad hl4 (.lst (vs.map V.str));have k6:(upd H5 l4 (.lst (vs.map V.str))) l4=some (.lst (vs.map V.str)):=ab;generalize upd H5 l4 (.lst (vs.map V.str))=H6 at s6 k6 |-;refine cat (vs:=[]) (e35.trans s6) (s6 _ _ k5) k6 (by rw[Ae,AN];omega) _ fun l5 H7 e7 k7=>?_;rw[B5] at k7;exact fin ((e35.trans s6).trans e7) k7 rfl
    | row r =>
     obtain⟨k',r',fs,rfl,hf,hfl⟩:=hLw;have h1':H3 td=some (.tup (.str k'::r'.map V.str)):=h1;obtain⟨n4,n5,n3⟩:=jv _ hf;have hle':pre.length+(lwP (.row (k'::r'))).length<=900:=hle;by_cases c1:k'="read"
     . subst c1;obtain⟨x,y,z,rfl⟩:=len3 (hfl.symm.trans (a0e _ hf (.inl rfl)));have hl2:(lwP (.row [("read":Str),x,y,z]))=[x,y]:=by rw[v9,if_pos rfl];rfl
       rw[hl2] at hle';refine yes h1' _ _ _ ?_;refine⟨_,rfl,_,rfl,td,_,1,.str x,rfl,rfl,SqT.of h1',rfl,_,rfl,td,_,2,.str y,rfl,rfl,SqT.of h1',rfl,(show 2<=HY by decide),fun l2 hl2'=>?_⟩;exact cat (ws:=[x,y]) (vs:=[]) (ad hl2' _) (ad hl2' _ _ _ k3) ab hle' _ fun l3 H5 e5 k5=>fin ((ad hl2' _).trans e5) k5 hl2.symm
     by_cases c2:k'="write"
     . subst c2;obtain⟨x,y,z,rfl⟩:=len3 (hfl.symm.trans (a0e _ hf (.inr rfl)));have hl2:(lwP (.row [("write":Str),x,y,z]))=[x,z]:=by rw[v9,if_neg (by decide),if_pos rfl];rfl
       rw[hl2] at hle';refine no h1' c1 _ _ _ (yes h1' _ _ _ ?_);refine⟨_,rfl,_,rfl,td,_,1,.str x,rfl,rfl,SqT.of h1',rfl,_,rfl,td,_,3,.str z,rfl,rfl,SqT.of h1',rfl,(show 2<=HY by decide),fun l2 hl2'=>?_⟩;exact cat (ws:=[x,z]) (vs:=[]) (ad hl2' _) (ad hl2' _ _ _ k3) ab hle' _ fun l3 H5 e5 k5=>fin ((ad hl2' _).trans e5) k5 hl2.symm
     . have hl2:lwP (.row (k'::r'))=r':=by rw[v9,if_neg c1,if_neg c2]
       rw[hl2] at hle';refine no h1' c1 _ _ _ (no h1' c2 _ _ _ (no h1' n3 _ _ _ (no h1' n4 _ _ _ (no h1' n5 _ _ _ ?_))));refine⟨_,rfl,_,rfl,_,rfl,td,_,rfl,SqT.of h1',fun p1 H4 e4 k4=>?_⟩;have hcut:cutV (V.str k'::r'.map V.str) (some 1) none=r'.map V.str:=by
        have:=iu (r:=k'::r') (k:=1);simpa using this
       rw[show cutV (V.str k'::r'.map V.str) (some (1:Int)) none=r'.map V.str from hcut] at k4;refine⟨p1,_,rfl,.inr k4,fun l2 hl2'=>?_⟩;exact cat (ws:=r') (vs:=[]) (e4.trans (ad hl2' _)) (ad hl2' _ _ _ (e4 _ _ k3)) ab hle' _ fun l3 H5 e5 k5=>fin ((e4.trans (ad hl2' _)).trans e5) k5 hl2.symm
   | cond c i' o r a b' h hc okr hi ho =>
    obtain⟨kk',u,v,rfl⟩:=len3 hLw;have hc':H3 c=some (.tup [.str kk',.str u,.str v]):=hc;have hle':pre.length+(([u,v]++lwL bs a)++lwL bs b').length<=900:=hle;rw[Ae,Ae,show ([u,v]:List Str).length=2 from rfl] at hle';refine no h (by decide) _ _ _ (no h (by decide) _ _ _ (no h (by decide) _ _ _ (yes h _ _ _ ?_)));refine⟨_,rfl,_,rfl,td,_,1,_,rfl,rfl,SqT.of h,rfl,c,_,1,.str u,rfl,rfl,SqT.of hc',rfl,_,rfl,td,_,1,_,rfl,rfl,SqT.of h,rfl,c,_,2,.str v,rfl,rfl,SqT.of hc',rfl,(show 2<=HY by decide),fun l2 hl2=>?_⟩;have s4:=ad hl2 (.lst [.str u,.str v]);have k4:(upd H3 l2 (.lst [.str u,.str v])) l2=some (.lst ([u,v].map V.str)):=ab;generalize upd H3 l2 (.lst [.str u,.str v])=H4 at s4 k4 |-;refine cat (vs:=[]) s4 (s4 _ _ k3) k4 (by rw[show ([u,v]:List Str).length=2 from rfl];omega) _ fun l3 H5 e5' k5=>?_;have e5:=s4.trans e5';refine⟨_,rfl,td,_,2,_,rfl,rfl,SqT.of (e5 _ _ h),rfl,i',a,rfl,hi.same e5,(fun d' hd'=>hok d' (hall d' (.tail _ (Br.mpr ⟨a,.head _,hd'⟩)))),by omega,fun l4 H6 e6 k6=>?_⟩;refine cat (vs:=[]) (e5.trans e6) (e6 _ _ k5) k6 (by rw[Ae,show ([u,v]:List Str).length=2 from rfl];omega) _ fun l5 H7 e7 k7=>?_;have e7:=(e5.trans e6).trans e7;refine⟨_,rfl,td,_,3,_,rfl,rfl,SqT.of (e7 _ _ h),rfl,o,b',rfl,ho.same e7,(fun d' hd'=>hok d' (hall d' (.tail _ (Br.mpr ⟨b',.tail _ (.head _),hd'⟩)))),by omega,fun l6 H8 e8 k8=>?_⟩;refine cat (vs:=[]) (e7.trans e8) (e8 _ _ k7) k8 (by rw[Ae,Ae,show ([u,v]:List Str).length=2 from rfl];omega) _ fun l7 H9 e9 k9=>?_;rw[B5 pre,B5 pre] at k9;exact fin ((e7.trans e8).trans e9) k9 rfl
   | loop c td' i' fa pa r F' P' a h hc okr htd' hF hP okF okP lF lP hi =>
    obtain⟨kk',u,v,rfl⟩:=len3 hLw.1;have hc':H3 c=some (.tup [.str kk',.str u,.str v]):=hc;have hle':pre.length+(([u,v]++tw F' P')++lwL bs a).length<=900:=hle;rw[Ae,Ae,show ([u,v]:List Str).length=2 from rfl] at hle';refine no h (by decide) _ _ _ (no h (by decide) _ _ _ (no h (by decide) _ _ _ (no h (by decide) _ _ _ (yes h _ _ _ ?_))));refine⟨_,rfl,_,rfl,td,_,1,_,rfl,rfl,SqT.of h,rfl,c,_,1,.str u,rfl,rfl,SqT.of hc',rfl,_,rfl,td,_,1,_,rfl,rfl,SqT.of h,rfl,c,_,2,.str v,rfl,rfl,SqT.of hc',rfl,(show 2<=HY by decide),fun l2 hl2=>?_⟩;have s4:=ad hl2 (.lst [.str u,.str v]);have k4:(upd H3 l2 (.lst [.str u,.str v])) l2=some (.lst ([u,v].map V.str)):=ab;generalize upd H3 l2 (.lst [.str u,.str v])=H4 at s4 k4 |-;refine cat (vs:=[]) s4 (s4 _ _ k3) k4 (by rw[show ([u,v]:List Str).length=2 from rfl];omega) _ fun l3 H5 e5' k5=>?_;have e5:=s4.trans e5';refine⟨_,rfl,td,_,2,_,rfl,rfl,SqT.of (e5 _ _ h),rfl,td',fa,pa,F',P',rfl,e5 _ _ htd',hF.same e5,hP.same e5,lF,lP,hLw.2,fun l4 H6 e6 k6=>?_⟩;refine cat (vs:=[]) (e5.trans e6) (e6 _ _ k5) k6 (by rw[Ae,show ([u,v]:List Str).length=2 from rfl];omega) _ fun l5 H7 e7 k7=>?_;have e7:=(e5.trans e6).trans e7;refine⟨_,rfl,td,_,3,_,rfl,rfl,SqT.of (e7 _ _ h),rfl,i',a,rfl,hi.same e7,(fun d' hd'=>hok d' (hall d' (.tail _ (Br.mpr ⟨a,.head _,hd'⟩)))),by omega,fun l6 H8 e8 k8=>?_⟩;refine cat (vs:=[]) (e7.trans e8) (e8 _ _ k7) k8 (by rw[Ae,Ae,show ([u,v]:List Str).length=2 from rfl];omega) _ fun l7 H9 e9 k9=>?_;rw[B5 pre,B5 pre] at k9;exact fin ((e7.trans e8).trans e9) k9 rfl
 . rintro σ H3 ⟨e3,fo',z2,k3,rfl⟩;refine hN2 _ _ ⟨_,rfl,?_⟩;rw[Bf (by rw[Ab,hpl];exact Ar _)] at k3;exact q fo' H3 e3 k3
end
theorem DG.inner{own:List Str}{par:Nat}{hs:List Hd}{d:Deed}(h:DG own par hs d):∀l∈innL d,∀d'∈l,DG own par hs d':=by
 cases h with
 | plain p hp=>intro l hl;cases hl
 | cond r a b hr ha hb =>
  intro l hl;rcases Am.mp hl with rfl|hl
  . exact ha
  . rw[Ax.mp hl];exact hb
 | loop r F P a hr hF hP lF lP ha =>
  intro l hl;rw[Ax.mp hl];exact ha
theorem DG.all{own:List Str}{par:Nat}{hs:List Hd}:∀(bs:List Nat) {ds:List Deed},(∀d∈ds,DG own par hs d)->∀d∈allL bs ds,DG own par hs d
 | [],_,_,d,hd=>by cases hd
 | b::bs,ds,h,d,hd=>by
  obtain⟨d0,h0,hd⟩:=Br.mp hd;rcases Am.mp hd with rfl|hd
  . exact h _ h0
  . obtain⟨l,hl,hd⟩:=Br.mp hd;exact DG.all bs ((h d0 h0).inner l hl) d hd
theorem nq:∀(bs:List Nat) (ds:List Deed),(allL bs ds).length=dcL bs ds
 | [],_=>rfl
 | b::bs,ds=>by
  show (ds.flatMap (allD (allL bs))).length=(ds.map (dcD (dcL bs))).sum;induction ds with
  | nil=>rfl
  | cons d ds ih =>
   rw[BI,Ae,ih,Be,BJ]
   congr 1
   cases d with
   | plain p=>rfl
   | cond r x y =>
    show (_::([x,y].flatMap (allL bs))).length=1+(dcL bs x+dcL bs y)
    rw[AY,BI,BI,DM,Cy,Ae,nq bs x,nq bs y];omega
   | loop r F P x =>
    show (_::([x].flatMap (allL bs))).length=1+dcL bs x;rw[AY,BI,DM,Cy,nq bs x];omega
section
variable{xs:List Str}{hs:List Hd}{g:Hd}{p:Prc}(hx:∀x∈xs,b8 x=true)(ho:HdOk xs g)(hh:∀g∈hs,HdOk xs g)(h:PcG hs g p)
include hx ho
theorem jy:∀y∈g.own,b8 y=true:=fun y hy=>hx y (ho.own y hy)
theorem kw:(∀y∈g.own.take g.par,b8 y=true)/\(g.own.take g.par).length=g.par/\(g.own.take g.par).Nodup/\¬ g.res∈g.own.take g.par/\(g.res="" \/ b8 g.res=true)/\∀x,x∈g.own.drop g.par->¬ x∈g.own.take g.par:=by
 have n1:∀y∈g.own.take g.par,b8 y=true:=fun y hy=>jy hx ho y (BA hy);have dj:∀x,x∈g.own.drop g.par->¬ x∈g.own.take g.par:=fun x h1 h2=>by
  have:=ho.nodup;rw[<- Fz g.par g.own,Ce] at this;exact this.2.2 x h2 x h1 rfl
 have no:¬ b8 ""=true:=by decide
 refine⟨n1,by rw[AX];have:=ho.par;omega,ho.nodup.sublist (Gh ..),fun z=>?_,?_,dj⟩
 . rcases ho.resA with e|e
   . rw[e] at z;exact no (n1 _ z)
   . refine dj g.res (Ak (i:=0) ?_) z;rw[Gf,HM];exact e
 . rcases ho.res with e|e
   . exact .inl e
   . exact .inr (jy hx ho _ e)
include h
theorem PcG.told:(jd [p.F1,p.P1]/\fz [p.F1,p.P1]/\TOk p.ps p.F1 p.P1)/\(jd [p.F2,p.P2]/\fz [p.F2,p.P2])/\(∀y∈words (p.F2++p.P2),y∈p.ps++[p.res])/\TOk xs p.F2 p.P2:=by
 obtain⟨n1,n2,n3,n4,n5,n6⟩:=kw hx ho;have h4:=ho.p4;have t1:=su n1 (by omega) h.F1 h.P1 h.l1.1 h.l1.2;rw[h.ps];have fl:∀y∈[g.res].filter (fun w => !decide (V.str w=V.str "")),y=g.res/\b8 y=true:=fun y hy=>by
  obtain⟨y1,y2⟩:=AV.mp hy;have y1:=Ax.mp y1;refine⟨y1,?_⟩;rcases n5 with e|e
  . rw[y1,e] at y2;exact absurd y2 (by decide)
  . rw[y1];exact e
 have nE:∀y∈g.own.take g.par++[g.res].filter (fun w => !decide (V.str w=V.str "")),b8 y=true:=fun y hy=>by
  rcases Aq.mp hy with z|z
  . exact n1 y z
  . exact (fl y z).2
 have lE:(g.own.take g.par++[g.res].filter (fun w => !decide (V.str w=V.str ""))).length<=8:=by
  have:=Bd (fun w => !decide (V.str w=V.str "")) [g.res];rw[Ae,n2];simp only[AY,EZ] at this;omega
 have t2:=su nE lE h.F2 h.P2 h.l2.1 h.l2.2;have w2:∀y∈words (p.F2++p.P2),y∈g.own.take g.par++[p.res]:=fun y hy=>by
  rcases Aq.mp (kh nE h.F2 h.P2 hy) with z|z
  . exact CC _ z
  . rw[h.res,(fl y z).1];exact AU _ (.head _)
 refine⟨t1,⟨t2.1,t2.2.1⟩,w2,⟨t2.2.2.f,t2.2.2.p,t2.2.2.ne,fun y hy=>?_⟩⟩;rcases Aq.mp (kh nE h.F2 h.P2 hy) with z|z
 . exact ho.own y (BA z)
 . obtain⟨e,hn⟩:=fl y z;rw[e];rcases ho.res with w|w
   . rw[e,w] at hn;exact absurd hn (by decide)
   . exact ho.own _ w
theorem PcG.head:CkH p:=by
 obtain⟨n1,n2,n3,n4,n5,n6⟩:=kw hx ho;obtain⟨t1,t2,_⟩:=h.told hx ho;exact⟨by rw[h.name];exact hx _ ho.name,by rw[h.ps];exact n1,by rw[h.ps,n2];exact ho.p4,by rw[h.ps];exact n3,by rw[h.ps,h.res];exact n4,by rw[h.res];exact n5,⟨t1.1,t1.2.1⟩,t2⟩
end
def lwO:Deed->List Str
 | .plain p=>lwP p
 | .cond r _ _=>r.drop 1
 | .loop r F P _=>r.drop 1++tw F P
theorem um:∀(bs:List Nat) (ds:List Deed),lwL bs ds=(allL bs ds).flatMap lwO
 | [],_=>rfl
 | b::bs,ds=>by
  show ds.flatMap (lwD (lwL bs))=(ds.flatMap (allD (allL bs))).flatMap lwO;rw[List.flatMap_assoc]
  congr 1
  funext d
  cases d with
  | plain p=>exact (Cy _).symm
  | cond r x z =>
   show r.drop 1++lwL bs x++lwL bs z=r.drop 1++([x,z].flatMap (allL bs)).flatMap lwO;rw[um bs x,um bs z,BI,BI,DM,Cy,Ee,B5]
  | loop r F P x =>
   show r.drop 1++tw F P++lwL bs x=r.drop 1++tw F P++([x].flatMap (allL bs)).flatMap lwO;rw[um bs x,BI,DM,Cy]
theorem a1y{k:Str}{r fs:List Str}(hf:(k,fs)∈forms)(hl:fs.length=r.length):jo k r=lwP (.row (k::r)):=by
 unfold jo;rw[im iz hf,v9];simp only[forms,Am,Au,or_false,HE] at hf;rcases hf with⟨rfl,rfl⟩|⟨rfl,rfl⟩|⟨rfl,rfl⟩|⟨rfl,rfl⟩|⟨rfl,rfl⟩
 . match r,hl with
   | [x,y],_=>rfl
 . match r,hl with
   | [x,y,z],_=>rfl
 . match r,hl with
   | [x,y,z],_=>rfl
 . match r,hl with
   | [x,y,z],_=>rfl
 . match r,hl with
   | [x],_=>rfl
theorem no_name:¬ b8 ""=true/\¬ b8 "nil"=true:=by decide
section
variable{own:List Str}(N:∀y∈own,b8 y=true)
include N
theorem gp{y:Str}(h:y∈own++[("nil":Str)])(hn:y≠"nil"):y∈own:=by
 rcases Aq.mp h with z|z
 . exact z
 . exact absurd (Ax.mp z) hn
theorem rq{y:Str}(h:b8 y=true):y≠"" /\ y≠"nil" := ⟨fun z=>no_name.1 (z ▸ h),fun z=>no_name.2 (z ▸ h)⟩
theorem wu{r:List Str}(h:em (own++[("nil":Str)]) r\/gc (own++[("nil":Str)]) r){y:Str}(hy:y∈r.drop 1)(ha:y≠"any"):y∈own++[("nil":Str)]:=by
 rcases h with⟨k,u,v,rfl,_,hu,hv⟩|⟨a,f,s,rfl,g1,g2,g3⟩|⟨a,b,rfl,g1,g2⟩|⟨a,rfl,g1⟩
 . simp only[B4,B9,Am,Au,or_false] at hy;rcases hy with rfl|rfl
   . exact hu
   . exact hv
 . simp only[B4,B9,Am,Au,or_false] at hy;rcases hy with rfl|rfl|rfl
   . exact g1
   . exact g2.resolve_right ha
   . exact g3.resolve_right ha
 . simp only[B4,B9,Am,Au,or_false] at hy;rcases hy with rfl|rfl
   . exact g1
   . exact g2
 . simp only[B4,B9,Am,Au,or_false] at hy;rw[hy];exact g1
theorem tz{F P:List (List Str)}(hF:∀r∈F,em (own++[("nil":Str)]) r)(hP:∀r∈P,gc (own++[("nil":Str)]) r)(y:Str):(y∈tw F P/\y≠"" /\ y≠"nil")↔(b8 y=true/\y∈words (F++P)):=by
 have hR:∀r∈F++P,em (own++[("nil":Str)]) r\/gc (own++[("nil":Str)]) r:=fun r hr=>by
  rcases Aq.mp hr with z|z
  . exact .inl (hF r z)
  . exact .inr (hP r z)
 constructor
 . rintro⟨h1,h2,h3⟩;obtain⟨r,hr,h1⟩:=Br.mp h1;obtain⟨h4,h5⟩:=AV.mp h1;have ha:y≠"any" := fun z=>by rw[z] at h5;exact absurd h5 (by decide)
   have ho:=gp N (wu N (hR r hr) h4 ha) h3;refine⟨N y ho,?_⟩;unfold words;refine List.mem_flatten.mpr ⟨_,AF.mpr ⟨r,hr,rfl⟩,AV.mpr ⟨h4,?_⟩⟩;simp[sd (N y ho)]
 . rintro⟨h1,h2⟩;refine⟨?_,rq N h1⟩;unfold words at h2;obtain⟨l,hl,h2⟩:=EL.mp h2;obtain⟨r,hr,rfl⟩:=AF.mp hl;obtain⟨h4,h5⟩:=AV.mp h2;refine Br.mpr ⟨r,hr,AV.mpr ⟨h4,?_⟩⟩;have:y≠"any" := fun z=>sd h1 (by rw[z];decide);simp[this]
theorem DG.lw{par:Nat}{hs:List Hd}{d:Deed}(h:DG own par hs d)(y:Str):(y∈lwO d/\y≠"" /\ y≠"nil")↔(b8 y=true/\y∈wrd d):=by
 have back:b8 y=true->y≠"" /\ y≠"nil" := rq N;cases h with
 | plain p hp =>
  cases p with
  | row r =>
   obtain⟨k,r',fs,rfl,hf,hg,_⟩:=hp;show (y∈lwP (.row (k::r'))/\_)↔(_/\y∈jo k r');rw[<- a1y hf (Ao hg)];refine⟨fun⟨h1,h2,h3⟩=>⟨?_,h1⟩,fun⟨h1,h2⟩=>⟨h2,back h1⟩⟩;unfold jo at h1;rw[im iz hf] at h1;unfold zipF at h1;obtain⟨⟨s',y'⟩,hz,rfl⟩:=AF.mp h1;obtain⟨hz,hs'⟩:=AV.mp hz;obtain⟨i,hi⟩:=Bk hz;obtain⟨g1,g2⟩:=EC.mp hi;obtain⟨y2,hy2,hG⟩:=Paired.nth hg g1;rw[g2] at hy2;cases hy2;rcases hG with⟨e,_⟩|⟨_,e⟩|⟨_,e⟩
   . dsimp only at e hs';rw[e] at hs';exact absurd hs' (by decide)
   . exact N _ e
   . exact N _ (gp N e h3)
  | call x c vs =>
   obtain⟨g,hg,rfl,hl,hv,hx⟩:=hp;show (y∈x::vs/\_)↔(_/\y∈x::vs);refine⟨fun⟨h1,h2,h3⟩=>⟨?_,h1⟩,fun⟨h1,h2⟩=>⟨h2,back h1⟩⟩;rcases Am.mp h1 with rfl|h1
   . rcases hx with⟨_,z⟩|⟨_,z⟩
     . exact absurd z h2
     . exact N _ (Bq z)
   . exact N _ (gp N (hv y h1) h3)
 | cond r a b hr ha hb =>
  show (y∈r.drop 1/\_)↔(_/\y∈r.drop 1);refine⟨fun⟨h1,h2,h3⟩=>⟨?_,h1⟩,fun⟨h1,h2⟩=>⟨h2,back h1⟩⟩;obtain⟨k,u,v,rfl,_,hu,hv⟩:=hr;simp only[B4,B9,Am,Au,or_false] at h1;rcases h1 with rfl|rfl
  . exact N _ (gp N hu h3)
  . exact N _ (gp N hv h3)
 | loop r F P a hr hF hP lF lP ha =>
  show (y∈r.drop 1++tw F P/\_)↔(_/\y∈r.drop 1++words (F++P));have e:=tz N hF hP y;constructor
  . rintro⟨h1,h2,h3⟩;rcases Aq.mp h1 with z|z
    . refine⟨?_,CC _ z⟩;obtain⟨k,u,v,rfl,_,hu,hv⟩:=hr;simp only[B4,B9,Am,Au,or_false] at z;rcases z with rfl|rfl
      . exact N _ (gp N hu h3)
      . exact N _ (gp N hv h3)
    . obtain⟨n1,n2⟩:=e.mp ⟨z,h2,h3⟩;exact⟨n1,AU _ n2⟩
  . rintro⟨h1,h2⟩;refine⟨?_,back h1⟩;rcases Aq.mp h2 with z|z
    . exact CC _ z
    . exact AU _ (e.mpr ⟨h1,z⟩).1
end
section
open PyProof.Rows
theorem pw:∀(r:List Str) (p:Str),risingS p r=true->(∀y∈r,p.cps.toList<=y.cps.toList)/\sortedS r=true
 | [],p,_=>⟨by simp,rfl⟩
 | x::r,p,h=>by
  have h':(!ltCps x.cps.toList p.cps.toList && risingS x r)=true:=h;rw[BC,ltCps_eq] at h';have h1:p.cps.toList<=x.cps.toList:=by
   have:=h'.1;simp only[Bool.not_eq_true',decide_eq_false_iff_not] at this;exact this
  have ih:=pw r x h'.2;refine⟨fun y hy=>?_,h'.2⟩;rcases Am.mp hy with rfl|hy'
  . exact h1
  . exact List.le_trans h1 (ih.1 y hy')
theorem qj:∀{zs ys:List Str},sortedS zs=true->sortedS ys=true->zs.Perm ys->zs=ys
 | [],ys,_,_,p=>(List.nil_perm.mp p).symm
 | x::r,[],_,_,p=>absurd p.length_eq (by simp)
 | x::r,y::t,h1,h2,p=>by
  have g1:=pw r x h1;have g2:=pw t y h2;have e:x=y:=by
   have hx:x∈y::t:=p.mem_iff.mp (By ..);have hy:y∈x::r:=p.mem_iff.mpr (By ..);have le1:x.cps.toList<=y.cps.toList:=by
    rcases Am.mp hy with h|h
    . rw[h];exact HQ _
    . exact g1.1 y h
   have le2:y.cps.toList<=x.cps.toList:=by
    rcases Am.mp hx with h|h
    . rw[h];exact HQ _
    . exact g2.1 x h
   exact Str.ext' (GX.mp (List.le_antisymm le1 le2))
  subst e;rw[qj g1.2 g2.2 (List.Perm.cons_inv p)]
end
theorem DG.own{own:List Str}(N:∀y∈own,b8 y=true){par:Nat}{hs:List Hd}{d:Deed}(h:DG own par hs d){y:Str}(hy:y∈wrd d)(hn:b8 y=true):y∈own:=by
 have ne:=rq N hn;cases h with
 | plain p hp =>
  cases p with
  | row r =>
   obtain⟨k,r',fs,rfl,hf,hg,_⟩:=hp;have hy:y∈jo k r':=hy;unfold jo at hy;rw[im iz hf] at hy;unfold zipF at hy;obtain⟨⟨s',y'⟩,hz,rfl⟩:=AF.mp hy;obtain⟨hz,hs'⟩:=AV.mp hz;obtain⟨i,hi⟩:=Bk hz;obtain⟨g1,g2⟩:=EC.mp hi;obtain⟨y2,hy2,hG⟩:=Paired.nth hg g1;rw[g2] at hy2;cases hy2;rcases hG with⟨e,_⟩|⟨_,e⟩|⟨_,e⟩
   . dsimp only at e hs';rw[e] at hs';exact absurd hs' (by decide)
   . exact e
   . exact gp N e ne.2
  | call x c vs =>
   obtain⟨g,hg,rfl,hl,hv,hx⟩:=hp;rcases Am.mp (show y∈x::vs from hy) with rfl|h1
   . rcases hx with⟨_,z⟩|⟨_,z⟩
     . exact absurd z ne.1
     . exact Bq z
   . exact gp N (hv y h1) ne.2
 | cond r a b hr ha hb=>exact gp N (wu N (.inl hr) hy (fun z=>sd hn (by rw[z];decide))) ne.2
 | loop r F P a hr hF hP lF lP ha =>
  rcases Aq.mp (show y∈r.drop 1++words (F++P) from hy) with z|z
  . exact gp N (wu N (.inl hr) z (fun z=>sd hn (by rw[z];decide))) ne.2
  . exact kh N hF hP z
theorem a6n:∀x∈forms,x.1.length<=1000:=by decide
theorem nr{ys r:List Str}(h:em ys r):r.length=3:=by obtain⟨k,u,v,rfl,_⟩:=h;rfl
theorem a6f{ys r:List Str}(h:gc ys r):r.length<=4:=by
 rcases h with⟨a,f,s,rfl,_⟩|⟨a,b,rfl,_⟩|⟨a,rfl,_⟩<;>simp
theorem og{ys:List Str}{F P:List (List Str)}(hF:∀r∈F,em ys r)(hP:∀r∈P,gc ys r):∀r∈F++P,r.length<=5:=fun r hr=>by
 rcases Aq.mp hr with z|z
 . have:=nr (hF r z);omega
 . have:=a6f (hP r z);omega
theorem zg{α β:Type}{g:α->List β}{k:Nat}:∀{l:List α},(∀x∈l,(g x).length<=k)->(l.flatMap g).length<=l.length*k
 | [],_=>AG _
 | x::l,h=>by
  rw[BI,Ae,AY,FW];have:=h x (.head _);have:=zg (l:=l) fun y hy=>h y (.tail _ hy);omega
theorem a0d{F P:List (List Str)}(lF:F.length<=2)(lP:P.length<=2)(h:∀r∈F++P,r.length<=5):(tw F P).length<=16:=by
 have h1:=zg (g:=twR) (k:=4) (l:=F++P) fun r hr=>by
  have h2:=Bd (fun y => !decide (V.str y=V.str "any")) (r.drop 1);have h3:=h r hr;rw[Bi] at h2;show ((r.drop 1).filter _).length<=4;omega
 rw[Ae] at h1;show ((F++P).flatMap twR).length<=16;omega
theorem DG.lwok{own:List Str}{par:Nat}{hs:List Hd}{d:Deed}(h4:∀g∈hs,g.par<=4)(h:DG own par hs d):LwOk d/\(lwO d).length<=18:=by
 cases h with
 | plain p hp =>
  cases p with
  | row r =>
   obtain⟨k,r',fs,rfl,hf,hg,_⟩:=hp;refine⟨⟨k,r',fs,rfl,hf,Ao hg⟩,?_⟩;rw[show lwO (.plain (.row (k::r')))=lwP (.row (k::r')) from rfl,<- a1y hf (Ao hg)];unfold jo;rw[im iz hf];have h1:=za uj fs r';have h2:=qm _ hf;exact Aw h1 (Aw h2 (by decide))
  | call x c vs =>
   obtain⟨g,hg,rfl,hl,hv,hx⟩:=hp;have:=h4 g hg;exact⟨show vs.length<=8 by omega,show (x::vs).length<=18 by rw[AY];omega⟩
 | cond r a b hr ha hb=>exact⟨nr hr,by show (r.drop 1).length<=18;rw[Bi,nr hr];decide⟩
 | loop r F P a hr hF hP lF lP ha =>
  refine⟨⟨nr hr,og hF hP⟩,?_⟩;have:=a0d lF lP (og hF hP);show (r.drop 1++tw F P).length<=18;rw[Ae,Bi,nr hr];omega
theorem DG.dok{own xs:List Str}(N:∀y∈own,b8 y=true)(ho:own.length<=8)(hs':∀y∈own,y∈xs){par:Nat}{hs:List Hd}(hh:∀g∈hs,g.par<=4){d:Deed}(h:DG own par hs d):DOk xs d:=by
 cases h with
 | plain p hp =>
  cases p with
  | row r =>
   obtain⟨k,r',fs,rfl,hf,hg,_⟩:=hp;intro y hy;rcases Am.mp hy with rfl|hy
   . exact a6n _ hf
   . obtain⟨i,hi⟩:=Bk hy;have hlt:i<fs.length:=by rw[Ao hg];exact (Av.mp hi).1
     obtain⟨y',hy',z⟩:=Paired.nth hg (Ag hlt);rw[hi] at hy';cases hy';exact (qx N z).2
  | call x c vs =>
   obtain⟨g,hg,rfl,hl,hv,hx⟩:=hp;have:=hh g hg;refine⟨?_,by omega,fun y hy=>(i9 N (hv y hy)).2⟩;rcases hx with⟨_,z⟩|⟨_,z⟩
   . rw[z];exact gh _ (by simp)
   . exact fu (N x (Bq z))
 | cond r a b hr ha hb=>exact⟨(iq N hr).2.1,(iq N hr).2.2⟩
 | loop r F P a hr hF hP lF lP ha =>
  obtain⟨_,_,t⟩:=su N ho hF hP lF lP;exact⟨⟨(iq N hr).2.1,(iq N hr).2.2⟩,⟨t.f,t.p,t.ne,fun y hy=>hs' y (t.sub y hy)⟩⟩
section
variable{xs:List Str}{hs:List Hd}{g:Hd}{p:Prc}(hx:∀x∈xs,b8 x=true)(ho:HdOk xs g)(hh:∀g∈hs,HdOk xs g)(h:PcG hs g p)
include hx ho h
theorem PcG.own{bs:List Nat}{y:Str}(hy:y∈allW bs p)(hn:b8 y=true):y∈g.own:=by
 have N:=jy hx ho;obtain⟨t1,_,t3,_⟩:=h.told hx ho;have hps:∀z∈p.ps,z∈g.own:=fun z hz=>by rw[h.ps] at hz;exact BA hz
 have hre:y=p.res->y∈g.own:=fun e=>by
  rcases ho.res with w|w
  . rw[e,h.res,w] at hn;exact absurd hn no_name.1
  . rw[e,h.res];exact w
 unfold allW at hy;simp only[Aq,Ax] at hy;rcases hy with (((hy|hy)|hy)|hy)|hy
 . exact hps y hy
 . exact hre hy
 . exact hps y (t1.2.2.sub y hy)
 . rcases Aq.mp (t3 y hy) with z|z
   . exact hps y z
   . exact hre (Ax.mp z)
 . obtain⟨d,hd,hy⟩:=Br.mp hy;exact (DG.all bs h.body d hd).own N hy hn
include hh
theorem PcG.prc{bs:List Nat}(h8:xs.length=8)(few:(allL bs p.body).length<=30):PrcOk bs xs p:=by
 have N:=jy hx ho;obtain⟨t1,_,_,t4⟩:=h.told hx ho;obtain⟨n1,n2,n3,n4,n5,n6⟩:=kw hx ho;have hf:=ho.few;have h4:=ho.p4;refine⟨⟨by rw[h.ps,n2];omega,fun y hy=>fu (n1 y (by rw[<- h.ps];exact hy))⟩,?_,⟨t1.2.2.f,t1.2.2.p,t1.2.2.ne,fun y hy=>?_⟩,t4,fun d hd=>(DG.all bs h.body d hd).dok N (by omega) ho.own (fun g hg=>(hh g hg).p4),few,by omega,fun y hy hn=>ho.own y (h.own hx ho hy hn)⟩
 . rw[h.res];rcases n5 with e|e
   . rw[e];exact gh _ (by simp)
   . exact fu e
 . have:=t1.2.2.sub y hy;rw[h.ps] at this;exact ho.own y (BA this)
theorem PcG.ckn{bs:List Nat}:CkN bs p:=by
 obtain⟨t1,_,t3,_⟩:=h.told hx ho;obtain⟨n1,n2,n3,n4,n5,n6⟩:=kw hx ho;refine⟨t1.2.2.sub,t3,fun d hd k r e hk=>?_,fun d hd x c vs e=>?_,fun zs hz hm=>Aw (Bv hz fun y hy=>h.own hx ho (hm y hy).2 (hm y hy).1) ho.few⟩
 . have:=DG.all bs h.body d hd;rw[e] at this;cases this with
   | plain _ hp =>
    obtain⟨k',r',fs,e',hf,hg,hgv⟩:=hp;cases e';obtain⟨x,r2,e2,e3⟩:=hgv hk;exact⟨x,r2,e2,by rw[h.ps];exact n6 x e3⟩
 . have:=DG.all bs h.body d hd;rw[e] at this;cases this with
   | plain _ hp =>
    obtain⟨g',hg',rfl,hl,hv,hx'⟩:=hp;rw[h.ps];rcases hx' with⟨_,z⟩|⟨_,z⟩
    . rw[z];exact fun y=>no_name.1 (n1 _ y)
    . exact n6 x z
theorem PcG.due{bs:List Nat}(y:Str):(y∈p.ps++[p.res]++lwL bs p.body++tw p.F1 p.P1++tw p.F2 p.P2/\y≠"" /\ y≠"nil")↔(b8 y=true/\y∈allW bs p):=by
 have N:=jy hx ho;obtain⟨n1,n2,n3,n4,n5,n6⟩:=kw hx ho;have nE:∀y∈g.own.take g.par++[g.res].filter (fun w => !decide (V.str w=V.str "")),b8 y=true:=fun y hy=>by
  rcases Aq.mp hy with z|z
  . exact n1 y z
  . obtain⟨y1,y2⟩:=AV.mp z;have y1:=Ax.mp y1;rcases n5 with e|e
    . rw[y1,e] at y2;exact absurd y2 (by decide)
    . rw[y1];exact e
 have w1:=tz n1 h.F1 h.P1 y;have w2:=tz nE h.F2 h.P2 y;have back:b8 y=true->y≠"" /\ y≠"nil" := rq N;rw[um];unfold allW;simp only[Aq,Ax];constructor
 . rintro⟨(((hy|hy)|hy)|hy)|hy,h1,h2⟩
   . exact⟨n1 y (by rw[<- h.ps];exact hy),.inl (.inl (.inl (.inl hy)))⟩
   . refine⟨?_,.inl (.inl (.inl (.inr hy)))⟩;rw[h.res] at hy;rcases n5 with e|e
     . exact absurd (hy.trans e) h1
     . rw[hy];exact e
   . obtain⟨d,hd,hy⟩:=Br.mp hy;obtain⟨e1,e2⟩:=((DG.all bs h.body d hd).lw N y).mp ⟨hy,h1,h2⟩;exact⟨e1,.inr (Br.mpr ⟨d,hd,e2⟩)⟩
   . obtain⟨e1,e2⟩:=w1.mp ⟨hy,h1,h2⟩;exact⟨e1,.inl (.inl (.inr e2))⟩
   . obtain⟨e1,e2⟩:=w2.mp ⟨hy,h1,h2⟩;exact⟨e1,.inl (.inr e2)⟩
 . rintro⟨hn,hy⟩;refine⟨?_,back hn⟩;rcases hy with (((hy|hy)|hy)|hy)|hy
   . exact .inl (.inl (.inl (.inl hy)))
   . exact .inl (.inl (.inl (.inr hy)))
   . exact .inl (.inr (w1.mpr ⟨hn,hy⟩).1)
   . exact .inr (w2.mpr ⟨hn,hy⟩).1
   . obtain⟨d,hd,hy⟩:=Br.mp hy;exact .inl (.inl (.inr (Br.mpr ⟨d,hd,(((DG.all bs h.body d hd).lw N y).mpr ⟨hn,hy⟩).1⟩)))
theorem PcG.lens{bs:List Nat}(few:(allL bs p.body).length<=30):(∀d∈allL bs p.body,LwOk d)/\(lwL bs p.body).length<=540/\(tw p.F1 p.P1).length<=16/\(tw p.F2 p.P2).length<=16/\(∀r∈p.F1++p.P1,r.length<=5)/\∀r∈p.F2++p.P2,r.length<=5:=by
 have k:∀d∈allL bs p.body,LwOk d/\(lwO d).length<=18:=fun d hd=>(DG.all bs h.body d hd).lwok fun g hg=>(hh g hg).p4;have r1:=og h.F1 h.P1;have r2:=og h.F2 h.P2;refine⟨fun d hd=>(k d hd).1,?_,a0d h.l1.1 h.l1.2 r1,a0d h.l2.1 h.l2.2 r2,r1,r2⟩;rw[um];have:=zg (g:=lwO) (k:=18) fun d hd=>(k d hd).2;omega
end
theorem xj{α β γ:Type}{R:α->β->Prop}{f:α->γ}{g:β->γ}(k:∀a b,R a b->g b=f a):∀{l:List α}{m:List β},IE R l m->m.map g=l.map f
 | _,_,.nil=>rfl
 | _,_,.cons h r=>by rw[Be,Be,k _ _ h,xj k r]
theorem ld{α β:Type}{R:α->β->Prop}:∀{l:List α}{m:List β},IE R l m->∀{b:β},b∈m->∃a∈l,R a b
 | _,_,.nil,_,hb=>by cases hb
 | _,_,.cons h r,b,hb=>by
  rcases Am.mp hb with rfl|hb
  . exact⟨_,.head _,h⟩
  . obtain⟨a,ha,z⟩:=ld r hb;exact⟨a,.tail _ ha,z⟩
theorem a6b{xs:List Str}{hs:List Hd}(xn:xs.Nodup)(h8:xs.length=8)(few:hs.length<=4)(nm:NmAt xs hs):(hs.map (·.name)).Nodup:=by
 refine DE.mpr (List.pairwise_iff_getElem.mpr fun i j hi hj hij e=>?_);have a:=nm i hs[i] (Ag hi);have b:=nm j hs[j] (Ag hj);rw[e,<- b] at a;have:=(E6 (i:=7-i) (j:=7-j) (by omega) xn).mp a;omega
theorem w6:∀{l:List Nat}{x:Nat},x∈l->x<=l.sum
 | y::l,x,h=>by
  rw[BJ];rcases Am.mp h with rfl|h
  . omega
  . have:=w6 h;omega
theorem a7n{bs:List Nat}:∀(ps:List Prc),(ps.flatMap fun p=>allL bs p.body).length=(ps.map fun p=>dcL bs p.body).sum
 | []=>rfl
 | p::ps=>by rw[BI,Ae,Be,BJ,nq,a7n ps]
theorem ckg{xs:List Str}{hs:List Hd}{ps:List Prc}{bs:List Nat}(hx:∀x∈xs,b8 x=true)(h8:xs.length=8)(xn:xs.Nodup)(hok:∀g∈hs,HdOk xs g)(nm:NmAt xs hs)(pos:0<hs.length)(few:hs.length<=4)(hp:IE (PcG hs) hs ps)(hall:(ps.map fun p=>dcL bs p.body).sum<=30):CkG bs xs ps:=by
 have hl:=Ao hp;have hm:∀p∈ps,∃g∈hs,PcG hs g p:=fun p h=>ld hp h;refine⟨by omega,by omega,?_,fun p h=>?_,fun p h d hd=>?_,fun p h=>?_,fun p h=>?_,by rw[a7n];exact hall,fun p h d hd x c vs e=>?_⟩
 . rw[xj (g:=(·.name)) (f:=(·.name)) (fun a b z=>z.name) hp];exact a6b xn h8 few nm
 . obtain⟨g,hg,z⟩:=hm p h;exact z.head hx (hok g hg)
 . obtain⟨g,hg,z⟩:=hm p h;exact (z.body d hd).ck (jy hx (hok g hg)) (hok g hg).few fun g' hg'=>⟨hx _ (hok g' hg').name,(hok g' hg').p4⟩
 . obtain⟨g,hg,z⟩:=hm p h;refine z.prc hx (hok g hg) hok h8 ?_;rw[nq];exact Aw (w6 (AF.mpr ⟨p,h,rfl⟩)) hall
 . obtain⟨g,hg,z⟩:=hm p h;exact z.ckn hx (hok g hg) hok
 . obtain⟨g,hg,z⟩:=hm p h;have:=DG.all bs z.body d hd;rw[e] at this;cases this with
   | plain _ hpl =>
    obtain⟨g',hg',rfl,hlv,hv,hx'⟩:=hpl;obtain⟨i,hi⟩:=Bk hg';obtain⟨q,hq,zq⟩:=Paired.nth hp hi;refine⟨i,q,hq,zq.name,by rw[zq.ps,(kw hx (hok g' hg')).2.1,hlv],?_⟩;rw[zq.res];rcases hx' with⟨a,b⟩|⟨a,b⟩
    . exact⟨fun _=>a,fun _=>b⟩
    . exact⟨fun y=>absurd (hx _ ((hok g hg).own x (Bq b))) (by rw[y];exact no_name.1),fun y=>absurd y a⟩
theorem rh{α:Type}{R:Nat->α->Prop}:∀(n:Nat),(∀i,i<n->∃p,R i p)->∃ps:List α,ps.length=n/\∀i p,ps[i]?=some p->R i p
 | 0,_=>⟨[],rfl,fun i p h=>by cases h⟩
 | n+1,h=>by
  obtain⟨ps,h1,h2⟩:=rh n fun i hi=>h i (by omega);obtain⟨p,hp⟩:=h n (by omega);refine⟨ps++[p],by rw[Ae,h1];rfl,fun i q hq=>?_⟩;by_cases c:i<ps.length
  . rw[Bo c] at hq;exact h2 i q hq
  . rw[Bw (by omega)] at hq;have hi:=(Av.mp hq).1;rw[AN] at hi;have:i=n:=by omega
    subst this;rw[h1,Ea] at hq;cases hq;exact hp
theorem oi{α β:Type}{R:α->β->Prop}:∀{l:List α}{m:List β},l.length=m.length->(∀(i:Nat) a b,l[i]?=some a->m[i]?=some b->R a b)->IE R l m
 | [],[],_,_=>.nil
 | a::l,b::m,h,k=>.cons (k 0 a b rfl rfl) (oi (by simpa using h) fun i x y hx hy=>k (i+1) x y (by simpa using hx) (by simpa using hy))
inductive PH(K:Ac)(H:Hp)(lv:Lv)(ts:List HW)(hs:List Hd)(i:Nat)(p:Prc):Prop
 | mk (t:HW)(g:Hd)(pt t1 t2 f1 p1 f2 p2 bd:HW)(us:List HW)(ht:ts[i]?=some t)(hg:hs[i]?=some g)(hc:PcG hs g p)(hb:lv bd=some (8*i))(hp:PcH K H (X0 lv) t pt t1 t2 f1 p1 f2 p2 bd us p)
structure PGd(K:Ac)(xs:List Str)(H:Hp)(pl:HW)(ts:List HW)(hs:List Hd)(ps:List Prc):Prop where
 list:H pl=some (.lst (ts.map V.ref))
 ats:IE (PrcAt K H (B 5)) ts ps
 gs:IE (PcG hs) hs ps
 sum:(ps.map fun p=>dcL (B 5) p.body).sum<=30
 pos:0<hs.length
 few:hs.length<=4
 nms:∀x∈xs,b8 x=true
 hok:∀h∈hs,HdOk xs h
 x8:xs.length=8
 xn:xs.Nodup
 nm:NmAt xs hs
section
variable{K:Ac}{H H1:Hp}{ns:List Int}{pl:HW}{ts:List HW}{lv:Lv}{S:List HW}{hs:List Hd}{so:HW->Nat}
theorem Prog.lists(h:Prog K H H1 ns pl ts lv S hs so):∃ps:List Prc,ps.length=ts.length/\(∀i p,ps[i]?=some p->PH K H1 lv ts hs i p)/\(ps.map fun p=>dcL (B 5) p.body).sum<=24:=by
 obtain⟨ps,h1,h2⟩:=rh (R:=PH K H1 lv ts hs) ts.length fun i hi=>by
  obtain⟨g,p,pt,t1,t2,f1,p1,f2,p2,bd,us,a1,a2,a3,a4⟩:=h.data i ts[i] (Ag hi);exact⟨p,ts[i],g,pt,t1,t2,f1,p1,f2,p2,bd,us,Ag hi,a1,a2,a3,a4⟩
 refine⟨ps,h1,h2,?_⟩;obtain⟨bds,b1,b2⟩:=rh (R:=fun i bd=>lv bd=some (8*i)/\∀p,ps[i]?=some p->ListX K H1 (B 5) bd p.body) ps.length fun i hi=>by
  obtain⟨t,g,pt,t1,t2,f1,p1,f2,p2,bd,us,ht,hg,hc,hb,hp⟩:=h2 i ps[i] (Ag hi);refine⟨bd,hb,fun p z=>?_⟩;rw[Ag hi] at z;cases z;exact⟨us,hp.at',Paired.mapP hp.body fun _ _ z=>z.same rm_back fun _ _ y=>y.same rm_back,hp.len⟩
 have:=h.wk.allFew (bds:=bds) (dss:=ps.map (·.body)) (oi (by rw[b1,Ab]) fun i bd ds e1 e2=>by
  rw[Ah] at e2;obtain⟨p,e3,rfl⟩:=AK.mp e2;exact (b2 i bd e1).2 p e3) fun i bd e=>(b2 i bd e).1
 rw[Cw] at this;exact this
theorem Prog.good(h:Prog K H H1 ns pl ts lv S hs so){H2:Hp}{ps:List Prc}(hl:H2 pl=some (.lst (ts.map V.ref)))(h1:ps.length=ts.length)(h2:∀i p,ps[i]?=some p->PH K H2 lv ts hs i p)(h3:(ps.map fun p=>dcL (B 5) p.body).sum<=30):PGd K (iw ns) H2 pl ts hs ps:=by
 refine⟨hl,oi h1.symm fun i t p e1 e2=>?_,oi (by rw[h1,h.len]) fun i g p e1 e2=>?_,h3,h.pos,h.few,h.nms,h.hok,h.x8,h.xn,h.nm⟩
 . obtain⟨t',g,pt,t1,t2,f1,p1,f2,p2,bd,us,ht,hg,hc,hb,hp⟩:=h2 i p e2;rw[e1] at ht;cases ht;exact hp.at
 . obtain⟨t',g',pt,t1,t2,f1,p1,f2,p2,bd,us,ht,hg,hc,hb,hp⟩:=h2 i p e2;rw[e1] at hg;cases hg;exact hc
end
abbrev frD(x:Str):Deed:=.plain (.row ["free",x])
theorem a98(b:Nat)(bs:List Nat)(ds:List Deed)(k:Nat)(x:Str):dcL (b::bs) (ds++AD k (frD x))=dcL (b::bs) ds+k:=by
 show ((ds++AD k (frD x)).map (dcD (dcL bs))).sum=(ds.map (dcD (dcL bs))).sum+k;rw[Al,Ht,Gg]
 congr 1
 show (AD k 1).sum=k;induction k with
 | zero=>rfl
 | succ k ih=>rw[BG,BJ,ih];omega
theorem a9r(b:Nat)(bs:List Nat)(ds:List Deed):ds.length<=dcL (b::bs) ds:=by
 show ds.length<=(ds.map (dcD (dcL bs))).sum;rw[zv];omega
theorem ux{α β:Type}{R:α->β->Prop}{a:α}{b:β}(h:R a b):∀k:Nat,IE R (AD k a) (AD k b)
 | 0=>.nil
 | k+1=>.cons h (ux h k)
theorem r6:(("free":Str),[("name":Str)])∈forms:=by decide
theorem a8p:Ok ("free":Str):=a0h _ r6
section
variable{K:Ac}{H H1 H6:Hp}{ns:List Int}{pl:HW}{ts:List HW}{lv:Lv}{S:List HW}{hs:List Hd}{so:HW->Nat}
theorem Prog.more(h:Prog K H H1 ns pl ts lv S hs so){p:Prc}{ps:List Prc}(h1:(p::ps).length=ts.length)(h2:∀i q,(p::ps)[i]?=some q->PH K H1 lv ts hs i q){t:HW}{g:Hd}{pt t1 t2 f1 p1 f2 p2 bd:HW}{us:List HW}(ht:ts[0]?=some t)(hg:hs[0]?=some g)(hc:PcG hs g p)(hb:lv bd=some 0)(hp:PcH K H1 (X0 lv) t pt t1 t2 f1 p1 f2 p2 bd us p)(e:Same H1 H6){u:HW}{x:Str}(hu:H1 u=none)(hu6:H6 u=some (.tup [.str "free",.str x]))(hx:x∈g.own){k:Nat}(hk:((p::ps).map fun p=>dcL (B 5) p.body).sum+k<=30):
 PGd K (iw ns) (upd H6 bd (.lst ((us++AD k u).map V.ref))) pl ts hs ({p with body:=p.body++AD k (frD x)}::ps):=by
 have hX:X0 lv bd:=hb;have eR:Same (rm (X0 lv) H1) (rm (X0 lv) (upd H6 bd (.lst ((us++AD k u).map V.ref)))):=by rw[a0p hX];exact ff e
 have g0:g∈hs:=Ak hg;have okx:Ok x:=kd (h.nms x ((h.hok g g0).own x hx));have nu:¬ X0 lv u:=fun z=>by
  obtain⟨us',z1,_⟩:=h.wk.lists u 0 z;rw[hu] at z1;cases z1
 have bdu:u≠bd:=fun z=>nu (z ▸ hX);rw[Be,BJ] at hk;have hus:us.length=p.body.length:=Ao hp.body;have hlen:(us++AD k u).length<=30:=by
  rw[Ae,BS,hus];have:p.body.length<=dcL (B 5) p.body:=a9r 30 (B 4) p.body;omega
 have dgf:DG g.own g.par hs (frD x):=.plain _ ⟨"free",[x],["name"],rfl,r6,.cons (.inr (.inl ⟨rfl,hx⟩)) .nil,fun z=>absurd z (by decide)⟩;refine h.good ?_ h1 (fun i q hq=>?_) ?_
 . rw[ai (show pl≠bd from fun z=>h.npl (.inl ⟨0,by rw[z];exact hb⟩))];exact e _ _ h.list
 . cases i with
   | zero =>
    cases hq;refine⟨t,g,pt,t1,t2,f1,p1,f2,p2,bd,us++AD k u,ht,hg,⟨hc.name,hc.res,hc.ps,hc.F1,hc.P1,hc.F2,hc.P2,hc.l1,hc.l2,fun d hd=>?_⟩,hb,hp.more eR ab (ux (.plain _ ?_ ?_) k) hlen⟩
    . rcases Aq.mp hd with z|z
      . exact hc.body d z
      . rw[Dx z];exact dgf
    . show rm (X0 lv) _ u=_;rw[fg nu,ai bdu];exact hu6
    . exact⟨⟨"free",[x],["name"],rfl,r6,rfl⟩,fun y hy=>by
       simp only[Am,Au,or_false] at hy;rcases hy with rfl|rfl
       . exact a8p
       . exact okx⟩
   | succ i =>
    obtain⟨t',g',pt',t1',t2',f1',p1',f2',p2',bd',us',ht',hg',hc',hb',hp'⟩:=h2 (i+1) q (by simpa using hq);refine⟨t',g',pt',t1',t2',f1',p1',f2',p2',bd',us',ht',hg',hc',hb',hp'.same eR ?_⟩;rw[ai (fun z=>by rw[z,hb] at hb';cases hb')];exact e _ _ hp'.at'
 . rw[Be,BJ];show dcL (B 5) (p.body++AD k (frD x))+_<=30;have:=a98 30 (B 4) p.body k x;show dcL (30::B 4) (p.body++AD k (frD x))+_<=30;have e5:dcL (B 5) p.body=dcL (30::B 4) p.body:=rfl;omega
end
abbrev sLaw:IP:=top 71
theorem yz:∀ps:List Prc,(ps.map fun p=>((dcL (B 5) p.body:Nat):Int)).sum=(((ps.map fun p=>dcL (B 5) p.body).sum:Nat):Int)
 | []=>rfl
 | p::ps=>by rw[Be,BJ,Be,BJ,yz ps];omega
def tExt(K:Ac)(ns:List Int)(a:HW):TS:=fun D σ H=>∃pl,σ=[rQ a,rQ pl,nQ,nQ,nQ,nQ,nQ,nQ,nQ,nQ,nQ,nQ,nQ,nQ]/\SqL K H a (ns.map V.int)/\(∃H0 ts lv S hs so,Prog K H0 H ns pl ts lv S hs so)/\∀z2 H2 ts hs ps,PGd K (iw ns) H2 pl ts hs ps->D.nx [rQ a,rQ pl,z2,nQ,nQ,nQ,nQ,nQ,nQ,nQ,nQ,nQ,nQ,nQ] H2
theorem a89{zs:List Str}(h:∀y∈zs,Ok y):Dn 1 (.list (yf zs)):=Dn.lst (n:=0) fun d hd=>by
 obtain⟨y,hy,rfl⟩:=AF.mp hd;exact⟨h y hy,Ar _⟩
theorem scLaw:FnScope ["_law_script","_law_program_here","_law_many","_law_kept","_law_procedure","_law_name","_law_params","_law_result","_law_before","_law_behind","_law_body","_law_words_here","_law_due","_law_found"] ["_law_script"] (b7 sLaw):=⟨rfl,rfl,rfl,by decide,rfl,by decide,by decide⟩
theorem a9i(C:Con K mg w)(F:Fun K "law" "law" sLaw f fd)(GC:FnOk P w K mg base CX0 1 gC dC ["_law_script","_law_k"] (qo K))(cC:Cal K mg "_law_cell_at" gC dC ["_law_script","_law_k"])(GG:FnOk P w K mg base CX0 6 gG dG ["_law_script"] (spProg K))(cG:Cal K mg "_law_program" gG dG ["_law_script"])(GH:FnOk P w K mg base CX0 3 gH dH ["_law_script"] (spHeads K))(cH:Cal K mg "_law_heads" gH dH ["_law_script"])(GN:FnOk P w K mg base CX0 6 gN dN ["_law_deeds"] (spCount K (B 5)))(cN:Cal K mg "_law_count" gN dN ["_law_deeds"])(GY:FnOk P w K mg base CX0 7 gY dY ["_law_program_here"] (spCopied K (B 5)))(cY:Cal K mg "_law_copied" gY dY ["_law_program_here"])(GP:FnOk P w K mg base CX0 23 gP dP ["program"] (spCheckP K (B 5)))(cP:Cal K mg "check_program" gP dP ["program"])(GW:FnOk P w K mg base CX0 6 gW dW ["_law_deeds"] (spLW K (B 5)))(cW:Cal K mg "_law_words" gW dW ["_law_deeds"])(GT:FnOk P w K mg base CX0 1 gT dT ["_law_telling"] (spTW K))(cT:Cal K mg "_law_told_words" gT dT ["_law_telling"])(GI:FnOk P w K mg base CX0 7 gI dI ["procedure"] (spNamesIn K (B 5)))(cI:Cal K mg "names_in" gI dI ["procedure"]):FnOk P w K mg base CX0 24 f fd ["_law_script"] (yo K):=by
 refine F.okQ scLaw (fun vs H Q E h=>?_) (fun cdv A outer s0 H vs Q E hr h=>?_)
 . obtain⟨a,ns,rfl,_⟩:=h;rfl
 obtain⟨a,ns,rfl,hS,q⟩:=h;have nd:=scLaw.nd;have hu:=AO (FL (show 32<=64 by decide) _) hr.units;have hr1:=hr.mono (j:=1) (by omega);have hr3:=hr.mono (j:=3) (by omega);have hr6:=hr.mono (j:=6) (by omega);have hr7:=hr.mono (j:=7) (by omega);refine⟨_,ae (av (i:=1) nd rfl (Or.inl rfl) (ak GG hr6 rfl cG.name cG.keep cG.bind .nil au (af (qv 0) aa)))
  (ae (vm (t':=tExt K ns a) (bf (ax bo (am br (am bt (ak GC hr1 rfl cC.name cC.keep cC.bind .nil au (af (qv 0) (ci aa))) ac) ac) ac (ay _)) (ae (av (i:=2) nd rfl (Or.inl rfl) (aw (ye rfl) rfl C.sum PyProof.Rows.boot_sum (dh (ik (bz (qv 1)) (fun _ _ _ _=>db) (fun _ _ _ _=>(ak GN hr6 rfl cN.name cN.keep cN.bind .nil au (ar (ag (ixTK (K:=K) rfl) (qv 0) ac (fun _ _=>rfl)) aa)))) aa)))
  (aj (bu (cq (K:=K) rfl As Cq Cr lm (ag ao (ag bc (qv 1) ac (fun _ _=>rfl)) ac (fun _ _=>rfl)) (da (am a8y (bb (di (ba (ar (ag bc (ag ao (ag bc (ak GH hr3 rfl cH.name cH.keep cH.bind .nil au (af (qv 0) aa)) ac (fun _ _=>rfl)) ac (fun _ _=>rfl)) ac (fun _ _=>rfl)) aa)) aa)) (am ja ac (qv 2))) aa))))) bm) (fun D σ H1 h=>by
   obtain⟨pl,rfl,hS1,⟨H0,ts,lv,S,hs,so,PG⟩,hD⟩:=h;obtain⟨ps,l1,l2,l3⟩:=PG.lists;have l4:ts.length<=4:=by rw[PG.len];exact PG.few
   refine⟨_,rfl,a,ns,2,rfl,hS1,_,_,rfl,rfl,(show CDiv _ 7 from⟨by decide,by decide⟩),_,_,rfl,rfl,(show (0:Int)<8 by decide),rfl,_,rfl,iteB (fun _=>?_) (fun _=>hD _ _ _ _ _ (PG.good PG.list l1 l2 (Aw l3 (by decide))))⟩;refine⟨_,rfl,pl,rfl,⟨_,SqL.of PG.list⟩,?_⟩;refine vo (ts.map V.ref) (ps.map fun p=>V.int ((dcL (B 5) p.body:Nat):Int)) cs (SqL.of PG.list) (bx (by rw[Ab];omega)) (by rw[Ab,Ab,l1]) (fun i x y hx hy H2 e2 Q' q'=>?_) (fun D' H2 hD' e2 k2=>?_)
   . rw[Ah] at hx hy;obtain⟨t,ht,rfl⟩:=AK.mp hx;obtain⟨p,hp,rfl⟩:=AK.mp hy;obtain⟨t',g,pt,t1,t2,f1,p1,f2,p2,bd,us,ht',hg,hc,hb,hP⟩:=l2 i p hp;rw[ht] at ht';cases ht';obtain⟨pt,t1,t2,f1,p1,f2,p2,bd,z⟩:=hP.at.same e2;exact⟨_,rfl,t,_,5,_,rfl,rfl,SqT.of z.tup,rfl,bd,p.body,rfl,z.body,fun H3 e3=>q' H3 e3⟩
   have k2':H2 D'=some (.lst ((ps.map fun p=>((dcL (B 5) p.body:Nat):Int)).map V.int)):=by rw[k2,Cw];rfl
   obtain⟨ms,hms⟩:∃ms:Nat,(ps.map fun p=>((dcL (B 5) p.body:Nat):Int)).sum=(ms:Int)/\ms=(ps.map fun p=>dcL (B 5) p.body).sum:=⟨_,yz ps,rfl⟩
   refine⟨D',_,rfl,SqL.of k2',(fun n hn=>?_),by rw[Ab,l1];omega,?_⟩
   . obtain⟨p,hp,rfl⟩:=AF.mp hn;have:=w6 (AF.mpr ⟨p,hp,rfl⟩:dcL (B 5) p.body∈ps.map fun p=>dcL (B 5) p.body);omega
   rw[hms.1];have hpos:0<ps.length:=by rw[l1,PG.len];exact PG.pos
   obtain⟨p,ps',rfl⟩:∃p ps',ps=p::ps':=by cases ps with
    | nil=>cases hpos
    | cons p ps'=>exact⟨p,ps',rfl⟩
   obtain⟨t,g,pt,t1,t2,f1,p1,f2,p2,bd,us,ht,hg,hc,hb,hP⟩:=l2 0 p rfl;have aT:atI (ts.map V.ref) 0=some (.ref t):=dv (j:=0) (by rw[Ah,ht];rfl);refine⟨_,rfl,pl,_,0,_,rfl,rfl,SqL.of (e2 _ _ PG.list),aT,t,_,5,_,rfl,rfl,SqT.of (e2 _ _ (rm_back _ _ hP.tup)),rfl,(.inl ⟨rfl,_,SqL.of (e2 _ _ hP.at')⟩),?_⟩;refine⟨_,rfl,a,ns,rfl,e2.seq hS1,fun hl hs' xs' H3 e3 hfr hAt hp' hf' _ _ ex _ _ _ hfst=>?_⟩;obtain⟨ts',hT1,hT2⟩:=hAt;obtain⟨g',gs',rfl⟩:∃g' gs',hs'=g'::gs':=by cases hs' with
    | nil=>cases hp'
    | cons g' gs'=>exact⟨g',gs',rfl⟩
   cases hT2 with
   | cons hX hT2 =>
   obtain⟨ow,x1,x2,_⟩:=hX;have g0:=PG.hok g (Ak hg);obtain⟨x,hx0⟩:∃x,g.own[0]?=some x:=⟨_,Ag g0.pos⟩
   have hx1:g'.own[0]?=some x:=by rw[hfst g' rfl,ex,<- PG.fst g hg];exact hx0
   refine⟨hl,_,0,_,rfl,rfl,SqL.of hT1,dv (j:=0) rfl,_,_,1,_,rfl,rfl,SqT.of x1,rfl,ow,_,0,.str x,rfl,rfl,SqL.of x2,dv (j:=0) (by rw[Ah,hx1];rfl),?_⟩;refine⟨(show 2<=HY by decide),fun u hu=>?_⟩;have s4:=ad hu (.tup [.str "free",.str x]);have k4:(upd H3 u (.tup [.str "free",.str x])) u=some (.tup [.str "free",.str x]):=ab;generalize upd H3 u (.tup [.str "free",.str x])=H4 at s4 k4 |-;refine⟨(show 1<=HY by decide),fun lu hlu=>?_⟩;have s5:=ad hlu (.lst [.ref u]);have k5:(upd H4 lu (.lst [.ref u])) lu=some (.lst [.ref u]):=ab;generalize upd H4 lu (.lst [.ref u])=H5 at s5 k5 |-;obtain⟨k,hk1,hk2⟩:∃k:Nat,(30-(ms:Int))=(k:Int)/\ms+k=30:=⟨30-ms,by omega,by omega⟩
   refine⟨_,rfl,_,_,rfl,rfl,lu,_,_,rfl,rfl,k5,by omega,by omega,bx (by rw[hk1,AN,Bh];omega),fun lr hlr=>?_⟩;rw[hk1,Bh,show (AD k [V.ref u]).flatten=(AD k u).map V.ref by rw[List.flatten_replicate_singleton,Gg]];have s6:=ad hlr (.lst ((AD k u).map V.ref));have k6:(upd H5 lr (.lst ((AD k u).map V.ref))) lr=some (.lst ((AD k u).map V.ref)):=ab;generalize upd H5 lr (.lst ((AD k u).map V.ref))=H6 at s6 k6 |-;have e6:=((e3.trans s4).trans s5).trans s6;refine⟨bd,lr,_,_,rfl,rfl,(e2.trans e6) _ _ hP.at',k6,bx (by rw[Ab,Ab,BS];have:=hP.len;omega),?_⟩;rw[<- Al];exact hD _ _ _ _ _ (PG.more l1 l2 ht hg hc hb hP (e2.trans e6) ((e2.trans e3).free hu) (s6 _ _ (s5 _ _ k4)) (Ak hx0) (by omega))))
  (ae (av (i:=3) nd rfl (Or.inl rfl) (ak GY hr7 rfl cY.name cY.keep cY.bind .nil au (af (qv 1) aa)))
  (ae (bf (QW.qt (jk (ax vp (ak GP hr rfl cP.name cP.keep cP.bind .nil au (af (qv 1) aa)) jl (ay _)) (je (ax (a05 hu) (qv 1) (qv 3) (ay _))))) (aj (az ge)) bm)
  (ae (dq AS rfl (bz (qv 1)) (bj (i:=4) nd rfl (Or.inl rfl)) (ae (om (qv 4) (a2i (bj (i:=5) nd rfl (Or.inl rfl)) (bj (i:=6) nd rfl (Or.inl rfl)) (bj (i:=7) nd rfl (Or.inl rfl)) (bj (i:=8) nd rfl (Or.inl rfl)) (bj (i:=9) nd rfl (Or.inl rfl)) (bj (i:=10) nd rfl (Or.inl rfl))))
  (ae (av (i:=11) nd rfl (Or.inl rfl) (am ce (am ce (cg de rfl C.list AQ (af (qv 6) aa)) (bb (af (qv 7) aa))) (ak GW hr6 rfl cW.name cW.keep cW.bind .nil au (af (qv 10) aa))))
  (ae (av (i:=11) nd rfl (Or.inl rfl) (am ce (am ce (qv 11) (ak GT hr1 rfl cT.name cT.keep cT.bind .nil au (af (qv 8) aa))) (ak GT hr1 rfl cT.name cT.keep cT.bind .nil au (af (qv 9) aa))))
  (ae (av (i:=12) nd rfl (Or.inl rfl) (aw (kn rfl) rfl C.sorted Dv (be (cg (ua rfl) rfl C.set Dc (dh (ik (bz (qv 11)) (fun _ _ _ _=>(ke (ax (a8m (K:=K) rfl) (qv 0) (er (ba (ba aa))) (by with_unfolding_all rfl)))) (fun _ _ _ _=>(qv 0))) aa)) aa)))
  (ae (av (i:=13) nd rfl (Or.inl rfl) (ak GI hr7 rfl cI.name cI.keep cI.bind .nil au (af (qv 4) aa)))
  (ae (bf (QW.qt (jk (fh (fm (aw jt rfl C.isi Ba (af (qv 13) (af ⟨gty C.list AQ⟩ aa))))) (je (ax (a05 hu) (qv 13) (qv 12) (ay _))))) (aj (az ge)) bm)
  (ae (bu (cq (K:=K) rfl As Az AA bq (qv 13) (ba aa)))
  (aj (bf (ax (a05 hu) (ak GI hr7 rfl cI.name cI.keep cI.bind .nil au (af (qv 4) aa)) (qv 12) (ay _)) (aj (az ge)) bm))))))))))
  (aj (az (gr (a92 hu) (qv 1) (qv 3) (ay _)))))))),?_⟩
 refine⟨_,rfl,a,ns,rfl,hS,fun pl ts lv S hs so H1 PG=>?_⟩;refine b9 (a:=tExt K ns a) fun D1 hN1 _ _=>?_;refine⟨pl,rfl,PG.e.seq hS,⟨_,_,_,_,_,_,PG⟩,fun z2 H2 ts hs ps PD=>hN1 [rQ a,rQ pl,z2,nQ,nQ,nQ,nQ,nQ,nQ,nQ,nQ,nQ,nQ,nQ] _ ?_⟩;clear PG hN1;have hc:=ckg PD.nms PD.x8 PD.xn PD.hok PD.nm PD.pos PD.few PD.gs PD.sum;have hl4:ts.length<=4:=by rw[Ao PD.ats,<- Ao PD.gs];exact PD.few
 refine b9 (a:=tAsg _ _) fun D2 hN2 _ _=>?_;refine⟨_,rfl,pl,ts,ps,rfl,PD.list,PD.ats,hl4,fun cl us H3 e3 hcl hus=>?_⟩;refine hN2 [rQ a,rQ pl,z2,rQ cl,nQ,nQ,nQ,nQ,nQ,nQ,nQ,nQ,nQ,nQ] _ ?_;refine b9 (a:=tIfS _ _ _) fun D3 hN3 _ _=>?_;refine⟨_,rfl,pl,ts,ps,_,rfl,e3 _ _ PD.list,Paired.mapP PD.ats fun _ _ z=>z.same e3,hc,by decide,fun H4 e4=>?_⟩;refine⟨rfl,_,rfl,(if_neg (by simp)).mpr ?_⟩;have e24:=e3.trans e4;have dps:Dn 16 (.list (ps.map (prcD (B 5)))):=(Dn.lst (n:=14) fun d hd=>by
  obtain⟨p,hp,rfl⟩:=AF.mp hd;obtain⟨t,_,hx⟩:=ld PD.ats hp;exact hx.dn).mono (by decide)
 have same:∀{H5:Hp},Same H4 H5->Dp K H5 (.ref pl) (.list (ps.map (prcD (B 5))))/\Dp K H5 (.ref cl) (.list (ps.map (prcD (B 5)))):=fun {H5} e5 =>
  ⟨.lst (SqL.of ((e24.trans e5) _ _ PD.list)) (rz PD.ats fun _ _ z=>(z.same (e24.trans e5)).dp),.lst (SqL.of ((e4.trans e5) _ _ hcl)) (rz hus fun _ _ z=>(z.same (e4.trans e5)).dp)⟩
 refine⟨_,rfl,_,rfl,_,_,(same (Same.refl _)).1,(same (Same.refl _)).2,dps.ok (by decide),dps.ok (by decide),_,rfl,?_⟩;rw[Em _ dps.lay];refine (if_neg An).mpr (hN3 [rQ a,rQ pl,z2,rQ cl,nQ,nQ,nQ,nQ,nQ,nQ,nQ,nQ,nQ,nQ] _ ?_);refine b9 (a:=tFor _ _ _) fun D4 hN4 _ _=>?_;refine⟨_,rfl,pl,rfl,⟨_,SqL.of (e24 _ _ PD.list)⟩,?_⟩;refine et (xs:=ts.map V.ref) (fun i σ H5=>Same H4 H5/\∃z4 z5 z6 z7 z8 z9 z10 z11 z12 z13:Option V,σ=[rQ a,rQ pl,z2,rQ cl,z4,z5,z6,z7,z8,z9,z10,z11,z12,z13]) ⟨Same.refl _,none,none,none,none,none,none,none,none,none,none,rfl⟩ (fun i σ H' _ h=>SqL.of (h.1 _ _ (e24 _ _ PD.list))) ?_ ?_
 . rintro i x σ H5 hx ⟨e5,z4,z5,z6,z7,z8,z9,z10,z11,z12,z13,rfl⟩;rw[Ah] at hx;obtain⟨t,ht,rfl⟩:=AK.mp hx;obtain⟨p,hp,hPA⟩:=Paired.nth PD.ats ht;obtain⟨g,hg,hG⟩:=ld PD.gs (Ak hp);have e25:=e24.trans e5;have hPA5:=hPA.same e25;obtain⟨pt,t1,t2,f1,p1,f2,p2,bd,z⟩:=id hPA5;have hPrc:=hc.ok p (Ak hp);obtain⟨n1,n2,n3,n4,n5,n6⟩:=hG.lens PD.nms (PD.hok g hg) PD.hok hPrc.few;have due:=hG.due PD.nms (PD.hok g hg) PD.hok (bs:=B 5);refine b9 (a:=tAsg _ _) fun D5 hN5 _ _=>?_;refine⟨_,rfl,t,_,rfl,SqT.of z.tup,rfl,_,_,rfl,_,_,rfl,_,_,rfl,_,_,rfl,_,_,rfl,_,_,rfl,rfl,?_⟩;refine hN5 [rQ a,rQ pl,z2,rQ cl,rQ t,some (.str p.name),rQ pt,some (.str p.res),rQ t1,rQ t2,rQ bd,z11,z12,z13] _ ?_;refine b9 (a:=tAsg _ _) fun D6 hN6 _ _=>?_;have ps8:=hPrc.ps.1;refine⟨_,rfl,pt,_,rfl,.inr (SqT.of z.pt),fun l1 hl1=>?_⟩;have s6:=ad hl1 (.lst (p.ps.map V.str));have k1:(upd H5 l1 (.lst (p.ps.map V.str))) l1=some (.lst (p.ps.map V.str)):=ab;generalize upd H5 l1 (.lst (p.ps.map V.str))=H6 at s6 k1 |-;refine⟨_,rfl,(show 1<=HY by decide),fun l2 hl2=>?_⟩;have s7:=ad hl2 (.lst [.str p.res]);have k2:(upd H6 l2 (.lst [.str p.res])) l2=some (.lst [.str p.res]):=ab;generalize upd H6 l2 (.lst [.str p.res])=H7 at s7 k2 |-;refine⟨l1,l2,_,_,rfl,rfl,s7 _ _ k1,k2,bx (by rw[Ab,AN];omega),fun l3 hl3=>?_⟩;have s8:=ad hl3 (.lst (p.ps.map V.str++[.str p.res]));have k3:(upd H7 l3 (.lst (p.ps.map V.str++[.str p.res]))) l3=some (.lst ((p.ps++[p.res]).map V.str)):=by rw[ab,Al];rfl
   generalize upd H7 l3 (.lst (p.ps.map V.str++[.str p.res]))=H8 at s8 k3 |-;have e8:=(s6.trans s7).trans s8;refine⟨_,rfl,bd,p.body,rfl,z.body.same e8,n1,by omega,fun l4 H9 e9 k4=>?_⟩;refine⟨l3,l4,_,_,rfl,rfl,e9 _ _ k3,k4,bx (by rw[Ab,Ae,Ab,AN];omega),fun l5 hl5=>?_⟩;have s10:=ad hl5 (.lst ((p.ps++[p.res]).map V.str++(lwL (B 5) p.body).map V.str));have k5:(upd H9 l5 (.lst ((p.ps++[p.res]).map V.str++(lwL (B 5) p.body).map V.str))) l5=some (.lst ((p.ps++[p.res]++lwL (B 5) p.body).map V.str)):=by rw[ab,<- Al]
   generalize upd H9 l5 (.lst ((p.ps++[p.res]).map V.str++(lwL (B 5) p.body).map V.str))=H10 at s10 k5 |-;have e10:=(e8.trans e9).trans s10;refine hN6 [rQ a,rQ pl,z2,rQ cl,rQ t,some (.str p.name),rQ pt,some (.str p.res),rQ t1,rQ t2,rQ bd,rQ l5,z12,z13] _ ?_;refine b9 (a:=tAsg _ _) fun D7 hN7 _ _=>?_;refine⟨_,rfl,_,rfl,t1,f1,p1,p.F1,p.P1,rfl,e10 _ _ z.t1,z.f1.same e10,z.p1.same e10,z.l1.1,z.l1.2,n5,fun l6 H11 e11 k6=>?_⟩;refine⟨l5,l6,_,_,rfl,rfl,e11 _ _ k5,k6,bx (by rw[Ab,Ab,Ae,Ae,AN];omega),fun l7 hl7=>?_⟩;have s12:=ad hl7 (.lst ((p.ps++[p.res]++lwL (B 5) p.body).map V.str++(tw p.F1 p.P1).map V.str));have k7:(upd H11 l7 (.lst ((p.ps++[p.res]++lwL (B 5) p.body).map V.str++(tw p.F1 p.P1).map V.str))) l7=some (.lst ((p.ps++[p.res]++lwL (B 5) p.body++tw p.F1 p.P1).map V.str)):=by rw[ab,<- Al]
   generalize upd H11 l7 (.lst ((p.ps++[p.res]++lwL (B 5) p.body).map V.str++(tw p.F1 p.P1).map V.str))=H12 at s12 k7 |-;have e12:=(e10.trans e11).trans s12;refine⟨_,rfl,t2,f2,p2,p.F2,p.P2,rfl,e12 _ _ z.t2,z.f2.same e12,z.p2.same e12,z.l2.1,z.l2.2,n6,fun l8 H13 e13 k8=>?_⟩;refine⟨l7,l8,_,_,rfl,rfl,e13 _ _ k7,k8,bx (by rw[Ab,Ab,Ae,Ae,Ae,AN];omega),fun l9 hl9=>?_⟩;have s14:=ad hl9 (.lst ((p.ps++[p.res]++lwL (B 5) p.body++tw p.F1 p.P1).map V.str++(tw p.F2 p.P2).map V.str));have k9:(upd H13 l9 (.lst ((p.ps++[p.res]++lwL (B 5) p.body++tw p.F1 p.P1).map V.str++(tw p.F2 p.P2).map V.str))) l9=some (.lst ((p.ps++[p.res]++lwL (B 5) p.body++tw p.F1 p.P1++tw p.F2 p.P2).map V.str)):=by rw[ab,<- Al]
   generalize upd H13 l9 (.lst ((p.ps++[p.res]++lwL (B 5) p.body++tw p.F1 p.P1).map V.str++(tw p.F2 p.P2).map V.str))=H14 at s14 k9 |-;have e14:=(e12.trans e13).trans s14;have hwl:(p.ps++[p.res]++lwL (B 5) p.body++tw p.F1 p.P1++tw p.F2 p.P2).length<=900:=by simp only[Ae,AN];omega
   generalize p.ps++[p.res]++lwL (B 5) p.body++tw p.F1 p.P1++tw p.F2 p.P2=ws at due hwl k9 |-;refine hN7 [rQ a,rQ pl,z2,rQ cl,rQ t,some (.str p.name),rQ pt,some (.str p.res),rQ t1,rQ t2,rQ bd,rQ l9,z12,z13] _ ?_;refine b9 (a:=tAsg _ _) fun D8 hN8 _ _=>?_;refine⟨_,rfl,l9,rfl,⟨_,SqL.of k9⟩,?_⟩;refine ii (ws.map V.str) (fun v => !inV v ([("":Str),"nil"].map V.str)) id cs (SqL.of k9) (bx (by rw[Ab];omega)) (fun x hx H15 e15 Q' q'=>?_) (fun x hx hp H15 e15 Q' q'=>⟨_,rfl,q' _ (Same.refl _)⟩) (fun D H15 hD e15 hD2=>?_)
   . obtain⟨y,hy,rfl⟩:=AF.mp hx;exact⟨_,rfl,(show 2<=HY by decide),fun tp htp=>⟨tp,_,rfl,.inr (SqT.of ab),rfl,rfl,_,rfl,q' _ (ad htp _)⟩⟩
   have hw:((ws.map V.str).filter (fun v => !inV v ([("":Str),"nil"].map V.str))).map id=(ws.filter fun x => !decide (x∈[("":Str),"nil"])).map V.str:=by
    rw[Ck,DZ]
    congr 1
    apply E7;intro x _;show (!inV (.str x) ([("":Str),"nil"].map V.str))=_;rw[dm]
   rw[hw] at hD2;refine⟨D,_,rfl,SqL.of hD2,(show _<4096 from AO (DV (Bd _ _) 1) (by omega)),fun S ss hS hd=>?_⟩;have s16:=ad hS (SetO P w S ss);have k10:(upd H15 S (SetO P w S ss)) S=some (SetO P w S ss):=ab;change (fun H'=>_) (upd H15 S (SetO P w S ss));generalize upd H15 S (SetO P w S ss)=H16 at s16 k10 |-;have mss:∀y,y∈ss↔b8 y=true/\y∈allW (B 5) p:=fun y=>by
    rw[hd.mem y,<- due y,AV];simp
   refine⟨S,ss,rfl,k10,AO ((hc.n p (Ak hp)).few ss hd.nodup fun y hy=>(mss y).mp hy) (by decide),fun dl zs hdl hzs hso=>?_⟩;have s17:=ad hdl (.lst (zs.map V.str));have k11:(upd H16 dl (.lst (zs.map V.str))) dl=some (.lst (zs.map V.str)):=ab;change (fun H'=>_) (upd H16 dl (.lst (zs.map V.str)));generalize upd H16 dl (.lst (zs.map V.str))=H17 at s17 k11 |-;have e17:=((e14.trans e15).trans s16).trans s17;have mzs:∀y,y∈zs↔b8 y=true/\y∈allW (B 5) p:=fun y=>hzs.mem_iff.trans (mss y);have nzs:zs.Nodup:=hzs.nodup_iff.mpr hd.nodup;have zl:zs.length<=6:=(hc.n p (Ak hp)).few zs nzs fun y hy=>(mzs y).mp hy;have okz:Dn 1 (.list (yf zs)):=a89 fun y hy=>kd ((mzs y).mp hy).1;have uniq:∀{zs':List Str},zs'.Nodup->Eb zs'=true->(∀y,y∈zs'↔b8 y=true/\y∈allW (B 5) p)->zs'=zs:=fun {zs'} a1 a2 a3=>qj a2 hso ((Dk a1 nzs).mpr fun y=>(a3 y).trans (mzs y).symm);refine hN8 [rQ a,rQ pl,z2,rQ cl,rQ t,some (.str p.name),rQ pt,some (.str p.res),rQ t1,rQ t2,rQ bd,rQ l9,rQ dl,z13] _ ?_;clear hN8 hD2 k10 mss hd hzs hdl hS hD hw due k9 hl9 k8 k7 hl7 k6 k5 hl5 k4 k3 hl3 k2 hl2 k1 hl1 e15 s16 s17 s14 e13 e12 s12 e11 e10 s10 e9 e8 s8 s7 s6;refine b9 (a:=tAsg _ _) fun D9 hN9 _ _=>?_;refine⟨_,rfl,H5,t,p,iw ns,rfl,e17,hPA5,hPrc,fun fl zs1 H18 e18 hfl kfl d1 d2 d3=>?_⟩;rw[uniq d1 d2 d3] at kfl;refine hN9 [rQ a,rQ pl,z2,rQ cl,rQ t,some (.str p.name),rQ pt,some (.str p.res),rQ t1,rQ t2,rQ bd,rQ l9,rQ dl,rQ fl] _ ?_;refine b9 (a:=tIfS _ _ _) fun D10 hN10 _ _=>?_;refine⟨_,rfl,fl,_,rfl,SqL.of kfl,_,rfl,(if_neg (by simp)).mpr ?_⟩;refine⟨_,rfl,_,rfl,_,_,.lst (SqL.of kfl) (mw zs),.lst (SqL.of (e18 _ _ k11)) (mw zs),okz.ok (by decide),okz.ok (by decide),_,rfl,?_⟩;rw[Em _ okz.lay];refine (if_neg An).mpr (hN10 [rQ a,rQ pl,z2,rQ cl,rQ t,some (.str p.name),rQ pt,some (.str p.res),rQ t1,rQ t2,rQ bd,rQ l9,rQ dl,rQ fl] _ ?_);refine b9 (a:=a2w _) fun D11 hN11 _ _=>?_;refine⟨_,rfl,(.inl ⟨rfl,_,SqL.of kfl⟩),fl,zs.map V.str,_,rfl,rfl,kfl,cy (by rw[Ab];omega),?_⟩;have e19:Same H17 (upd H18 fl (.lst (zs.map V.str++[.str "x"]))):=fun b o h=>by rw[ai (aq h hfl)];exact e18 _ _ h
   generalize upd H18 fl (.lst (zs.map V.str++[.str "x"]))=H19 at e19 |-;refine hN11 [rQ a,rQ pl,z2,rQ cl,rQ t,some (.str p.name),rQ pt,some (.str p.res),rQ t1,rQ t2,rQ bd,rQ l9,rQ dl,rQ fl] _ ?_;refine⟨_,rfl,H5,t,p,iw ns,rfl,e17.trans e19,hPA5,hPrc,fun gl zs2 H20 e20 hgl kgl d4 d5 d6=>?_⟩;rw[uniq d4 d5 d6] at kgl;refine⟨_,rfl,_,_,.lst (SqL.of kgl) (mw zs),.lst (SqL.of ((e19.trans e20) _ _ k11)) (mw zs),okz.ok (by decide),okz.ok (by decide),_,rfl,?_⟩;rw[Em _ okz.lay];exact (if_neg An).mpr ⟨((e5.trans e17).trans e19).trans e20,_,_,_,_,_,_,_,_,_,_,rfl⟩
 . rintro σ H5 ⟨e5,z4,z5,z6,z7,z8,z9,z10,z11,z12,z13,rfl⟩;refine hN4 _ _ ⟨_,rfl,_,rfl,_,_,(same e5).1,(same e5).2,dps.ok (by decide),dps.ok (by decide),?_⟩;rw[Em _ dps.lay];exact q _
theorem ky{K:Ac}{h:IJ}{mg:Str->Option HX}{x:Str}{a:HW}(X:K.In h)(G:h.Ns IA mg)(e:Aj K IA x=some (some (.ref a))):Glob mg x (.ref a):=⟨_,DL X G e,rfl⟩
theorem zp{K:Ac}{h:IJ}{mg:Str->Option HX}{x y z:Str}{t:Tok}(X:K.In h)(G:h.Ns IA mg)(e:Aj K IA x=some (some (.str y t)))(hy:y=z):Glob mg x (.str z):=⟨_,DL X G e,t,by rw[hy]⟩
theorem gy{K:Ac}{h:IJ}{mg:Str->Option HX}{x:Str}{i j:Int}{t:Tok}(X:K.In h)(G:h.Ns IA mg)(e:Aj K IA x=some (some (.int i t)))(hj:i=j):Glob mg x (.int j):=⟨_,DL X G e,t,by rw[hj]⟩
theorem rel_find{es:Array DictEntry}{kvs:List (Str×V)}(h:IE (fun (kv:Str×V) (e:DictEntry)=>∃hh t u,e=⟨hh,.str kv.1 t,u⟩/\RelV kv.2 u) kvs es.toList)(x:Str):RelO (kvs.lookup x) (findBy BN es x):=by
 unfold findBy;rw[<- Array.find?_toList];generalize es.toList=l at h;have b:∀y t,BN x (.str y t)=(x==y):=fun y t=>by
  show (y==x)=(x==y)
  exact Bool.eq_iff_iff.mpr ⟨fun z=>beq_iff_eq.mpr (beq_iff_eq.mp z).symm,fun z=>beq_iff_eq.mpr (beq_iff_eq.mp z).symm⟩
 induction h with
 | nil=>exact trivial
 | cons h1 _ ih =>
  rename_i kv e _ _ _;obtain⟨k,v⟩:=kv;obtain⟨hh,t,u,rfl,r⟩:=h1;simp only[Cp,b,Cu];dsimp only at r ih |-;cases x==k with
  | true=>exact r
  | false=>exact ih
theorem bg{K:Ac}{h:IJ}{mg:Str->Option HX}{x qual:Str}{st:IP}{f:HW}{fd:II}(F:Fun K x qual st f fd)(X:K.In h)(G:h.Ns IA mg)(a:Aj K IA x=some (some (.ref f)))(ps:List Str)(hb:∀(kV doc pm:HX) (an:Option HW) (cdv ct:HX) (us:List HX),us.length=ps.length->bindArgs (CK x qual (mr st) (jw st) (b7 st) .none kV doc pm an cdv ct) ⟨us,[]⟩=pure (ps.zip us):=by intro _ _ _ _ _ _ us hl;rcases us with _|⟨_,_|⟨_,_|⟨_,_|⟨_,_|⟨_,_|⟨_,_|⟨_,_⟩⟩⟩⟩⟩⟩⟩<;>first|rfl|cases hl):Cal K mg x f fd ps:=⟨DL X G a,F.kp,F.binds hb⟩
theorem all_mk{l:EW}{w:IF}{K:Ac}{h:IJ}{mg:Str->Option HX}{fa f1 f2 f3 f4 f5 f6 f7 f8 f9 f10 f11 f12 f13 f14 f15 f16 f17 f18 f19 f20 f21 f22 f23 f24 f25 f26 f27 f28 f29 f30 f31 f32 f33 f34 f35 f36 f37 f38 f39 f40 f41 f42 f43 f44 f45 f46 f47 f48:HW}(X:K.In h)(G:h.Ns IA mg)(hfa:mg "law"=some (.ref fa)){d1 d2 d3 d4 d5 d6 d7 d8 d9 d10 d11 d12 d13 d14 d15 d16 d17 d18 d19 d20 d21 d22 d23 d24 d25 d26 d27 d28 d29 d30 d31 d32 d33 d34 d35 d36 d37 d38 d39 d40 d41 d42 d43 d44 d45 d46 d47 d48:II}(a1:Aj K IA "is_name"=some (some (.ref f1)))(F1:Fun K "is_name" "is_name" wv f1 d1)(a2:Aj K IA "is_value"=some (some (.ref f2)))(F2:Fun K "is_value" "is_value" uc f2 d2)(a3:Aj K IA "is_fact"=some (some (.ref f3)))(F3:Fun K "is_fact" "is_fact" wq f3 d3)(a4:Aj K IA "is_part"=some (some (.ref f4)))(F4:Fun K "is_part" "is_part" w8 f4 d4)(a5:Aj K IA "are_rows"=some (some (.ref f5)))(F5:Fun K "are_rows" "are_rows" ui f5 d5)(a6:Aj K IA "is_telling"=some (some (.ref f6)))(F6:Fun K "is_telling" "is_telling" qf f6 d6)(a7:Aj K IA "names_of"=some (some (.ref f7)))(F7:Fun K "names_of" "names_of" tj f7 d7)(a8:Aj K IA "may_stand"=some (some (.ref f8)))(F8:Fun K "may_stand" "may_stand" sMay f8 d8)(a9:Aj K IA "are_of_sort"=some (some (.ref f9)))(F9:Fun K "are_of_sort" "are_of_sort" a2o f9 d9)(a10:Aj K IA "is_plain_deed"=some (some (.ref f10)))(F10:Fun K "is_plain_deed" "is_plain_deed" ue f10 d10)(a11:Aj K IA "is_call"=some (some (.ref f11)))(F11:Fun K "is_call" "is_call" vv f11 d11)(a12:Aj K IA "is_condition"=some (some (.ref f12)))(F12:Fun K "is_condition" "is_condition" wc f12 d12)(a13:Aj K IA "is_branching"=some (some (.ref f13)))(F13:Fun K "is_branching" "is_branching" a3u f13 d13)(a14:Aj K IA "is_deed"=some (some (.ref f14)))(F14:Fun K "is_deed" "is_deed" wm f14 d14)(a15:Aj K IA "are_deeds"=some (some (.ref f15)))(F15:Fun K "are_deeds" "are_deeds" a2p f15 d15)(a16:Aj K IA "lists_in"=some (some (.ref f16)))(F16:Fun K "lists_in" "lists_in" ug f16 d16)(a17:Aj K IA "all_deeds"=some (some (.ref f17)))(F17:Fun K "all_deeds" "all_deeds" sAll f17 d17)(a18:Aj K IA "words_of"=some (some (.ref f18)))(F18:Fun K "words_of" "words_of" zc f18 d18)(a19:Aj K IA "names_in"=some (some (.ref f19)))(F19:Fun K "names_in" "names_in" tu f19 d19)(a20:Aj K IA "is_head"=some (some (.ref f20)))(F20:Fun K "is_head" "is_head" vq f20 d20)(a21:Aj K IA "has_its_names"=some (some (.ref f21)))(F21:Fun K "has_its_names" "has_its_names" a2n f21 d21)(a22:Aj K IA "finds_procedure"=some (some (.ref f22)))(F22:Fun K "finds_procedure" "finds_procedure" zo f22 d22)(a23:Aj K IA "is_procedure"=some (some (.ref f23)))(F23:Fun K "is_procedure" "is_procedure" wf f23 d23)(a24:Aj K IA "by_names"=some (some (.ref f24)))(F24:Fun K "by_names" "by_names" u9 f24 d24)(a25:Aj K IA "is_program"=some (some (.ref f25)))(F25:Fun K "is_program" "is_program" ww f25 d25)(a26:Aj K IA "check_program"=some (some (.ref f26)))(F26:Fun K "check_program" "check_program" we f26 d26)(a27:Aj K IA "_law_cell_at"=some (some (.ref f27)))(F27:Fun K "_law_cell_at" "_law_cell_at" a3d f27 d27)(a28:Aj K IA "_law_names"=some (some (.ref f28)))(F28:Fun K "_law_names" "_law_names" a0k f28 d28)(a29:Aj K IA "_law_told"=some (some (.ref f29)))(F29:Fun K "_law_told" "_law_told" a2k f29 d29)(a30:Aj K IA "_law_take"=some (some (.ref f30)))(F30:Fun K "_law_take" "_law_take" a2l f30 d30)(a31:Aj K IA "_law_any_names"=some (some (.ref f31)))(F31:Fun K "_law_any_names" "_law_any_names" rn f31 d31)(a32:Aj K IA "_law_any_row"=some (some (.ref f32)))(F32:Fun K "_law_any_row" "_law_any_row" wg f32 d32)(a33:Aj K IA "_law_any_told"=some (some (.ref f33)))(F33:Fun K "_law_any_told" "_law_any_told" ud f33 d33)(a34:Aj K IA "_law_any_heads"=some (some (.ref f34)))(F34:Fun K "_law_any_heads" "_law_any_heads" rp f34 d34)(a35:Aj K IA "_law_heads"=some (some (.ref f35)))(F35:Fun K "_law_heads" "_law_heads" yt f35 d35)(a36:Aj K IA "_law_condition"=some (some (.ref f36)))(F36:Fun K "_law_condition" "_law_condition" a3t f36 d36)(a37:Aj K IA "_law_plain"=some (some (.ref f37)))(F37:Fun K "_law_plain" "_law_plain" zr f37 d37)(a38:Aj K IA "_law_put"=some (some (.ref f38)))(F38:Fun K "_law_put" "_law_put" sPut f38 d38)(a39:Aj K IA "_law_any_plain"=some (some (.ref f39)))(F39:Fun K "_law_any_plain" "_law_any_plain" rk f39 d39)(a40:Aj K IA "_law_any_put"=some (some (.ref f40)))(F40:Fun K "_law_any_put" "_law_any_put" vz f40 d40)(a41:Aj K IA "_law_any_program"=some (some (.ref f41)))(F41:Fun K "_law_any_program" "_law_any_program" ub f41 d41)(a42:Aj K IA "_law_program"=some (some (.ref f42)))(F42:Fun K "_law_program" "_law_program" a3s f42 d42)(a43:Aj K IA "_law_copy"=some (some (.ref f43)))(F43:Fun K "_law_copy" "_law_copy" a3x f43 d43)(a44:Aj K IA "_law_copied"=some (some (.ref f44)))(F44:Fun K "_law_copied" "_law_copied" wx f44 d44)(a45:Aj K IA "_law_words"=some (some (.ref f45)))(F45:Fun K "_law_words" "_law_words" wb f45 d45)(a46:Aj K IA "_law_count"=some (some (.ref f46)))(F46:Fun K "_law_count" "_law_count" a0n f46 d46)(a47:Aj K IA "_law_told_words"=some (some (.ref f47)))(F47:Fun K "_law_told_words" "_law_told_words" sTW f47 d47)(a48:Aj K IA "law"=some (some (.ref f48)))(F48:Fun K "law" "law" sLaw f48 d48)(z1:Aj K IA "len"=some none)(z2:Aj K IA "all"=some none)(z3:Aj K IA "any"=some none)(z4:Aj K IA "isinstance"=some none)(z5:Aj K IA "list"=some none)(z6:Aj K IA "int"=some none)(z7:Aj K IA "bool"=some none)(z8:Aj K IA "str"=some none)(z9:Aj K IA "dict"=some none)(z10:Aj K IA "sorted"=some none)(z11:Aj K IA "set"=some none)(z12:Aj K IA "sum"=some none)(z13:Aj K IA "range"=some none)(z14:Aj K IA "tuple"=some none)(z15:Aj K IA "max"=some none)(z16:Aj K IA "zip"=some none)(z17:Aj K IA "min"=some none)(z18:Aj K IA "enumerate"=some none){yL yF:Str}{tL tF:Tok}(gL:Aj K IA "LETTERS"=some (some (.str yL tL)))(eL:yL=Mir.letters)(gF:Aj K IA "FIGURES"=some (some (.str yF tF)))(eF:yF=Mir.figures){j0 j1 j2 j3 j4 j5 j6 j7 j8 j9:Int}{k0 k1 k2 k3 k4 k5 k6 k7 k8 k9:Tok}(m0:Aj K IA "MOST_SIGNS"=some (some (.int j0 k0)))(e0:j0=8)(m1:Aj K IA "FACT_LENGTH"=some (some (.int j1 k1)))(e1:j1=3)(m2:Aj K IA "MOST_FACTS"=some (some (.int j2 k2)))(e2:j2=8)(m3:Aj K IA "MOST_PARTS"=some (some (.int j3 k3)))(e3:j3=6)(m4:Aj K IA "MOST_NAMES_tellings"=some (some (.int j4 k4)))(e4:j4=8)(m5:Aj K IA "MOST_PROCEDURES"=some (some (.int j5 k5)))(e5:j5=4)(m6:Aj K IA "MOST_PARAMS"=some (some (.int j6 k6)))(e6:j6=4)(m7:Aj K IA "MOST_NAMES_programs"=some (some (.int j7 k7)))(e7:j7=6)(m8:Aj K IA "MOST_DEEDS"=some (some (.int j8 k8)))(e8:j8=30)(m9:Aj K IA "MOST_AROUND"=some (some (.int j9 k9)))(e9:j9=4){aN aP aE aT aW aV t1 t2 t3 t4 t5:HW}{oN oT oW oV o1 o2 o3 o4 o5:Obj}{itN itT itW itV it1 it2 it3 it4 it5:Array HX}{nN nT nW nV nP nE n1 n2 n3 n4 n5:Nat}{es ec:Array DictEntry}(gN:Aj K IA "NO_NAMES"=some (some (.ref aN)))(lN:K.lookup aN=some oN)(cN:oN.cls=.type "tuple")(dN:oN.data=.seq itN nN)(sN:itN.size<=100)(vN:Vals (Mir.noNames.map V.str) itN.toList)(gT:Aj K IA "FIELDS"=some (some (.ref aT)))(lT:K.lookup aT=some oT)(cT:oT.cls=.type "tuple")(dT:oT.data=.seq itT nT)(sT:itT.size<=100)(bT:oT.dict=none)(vT:Vals (([("first":Str),"second"]:List Str).map V.str) itT.toList)(gW:Aj K IA "FACT_WORDS"=some (some (.ref aW)))(lW:K.lookup aW=some oW)(cW:oW.cls=.type "tuple")(dW:oW.data=.seq itW nW)(sW:itW.size<=100)(vW:Vals (([("is":Str),"not"]:List Str).map V.str) itW.toList)(gV:Aj K IA "GIVING_WORDS"=some (some (.ref aV)))(lV:K.lookup aV=some oV)(cV:oV.cls=.type "tuple")(dV:oV.data=.seq itV nV)(sV:itV.size<=100)(vV:Vals (([("set":Str),"read","new","call"]:List Str).map V.str) itV.toList)(gP:Aj K IA "PLAIN_FORMS"=some (some (.ref aP)))(lP:K.lookup aP=some ⟨.type "dict",none,.dict es nP,#[]⟩)(hP:EY w.params es.toList)(mP:(aP==IR)=false)(rP:∀x,RelO (([("set",.ref t1),("read",.ref t2),("write",.ref t3),("new",.ref t4),("free",.ref t5)]:List (Str×V)).lookup x) (findBy BN es x))(lT1:K.lookup t1=some o1)(cT1:o1.cls=.type "tuple")(dT1:o1.data=.seq it1 n1)(sT1:it1.size<=100)(vT1:Vals ((["name","value"]:List Str).map V.str) it1.toList)(lT2:K.lookup t2=some o2)(cT2:o2.cls=.type "tuple")(dT2:o2.data=.seq it2 n2)(sT2:it2.size<=100)(vT2:Vals ((["name","name","field"]:List Str).map V.str) it2.toList)(lT3:K.lookup t3=some o3)(cT3:o3.cls=.type "tuple")(dT3:o3.data=.seq it3 n3)(sT3:it3.size<=100)(vT3:Vals ((["name","field","value"]:List Str).map V.str) it3.toList)(lT4:K.lookup t4=some o4)(cT4:o4.cls=.type "tuple")(dT4:o4.data=.seq it4 n4)(sT4:it4.size<=100)(vT4:Vals ((["name","value","value"]:List Str).map V.str) it4.toList)(lT5:K.lookup t5=some o5)(cT5:o5.cls=.type "tuple")(dT5:o5.data=.seq it5 n5)(sT5:it5.size<=100)(vT5:Vals ((["name"]:List Str).map V.str) it5.toList)(gE:Aj K IA "PART_LENGTHS"=some (some (.ref aE)))(lE:K.lookup aE=some ⟨.type "dict",none,.dict ec nE,#[]⟩)(hE:EY w.params ec.toList)(mE:(aE==IR)=false)(rE:∀x,RelO (([("cell",.int 4),("stretch",.int 3),("tree",.int 2)]:List (Str×V)).lookup x) (findBy BN ec x)):
 ∃fd:II,(∀(s:HZ) (v:HX),BindsTo s fd ⟨[v],[]⟩ [("_law_script",v)])/\∀base:IJ,K.In base->base.Ns IA mg->FnOk l.prog w K mg base CX0 24 fa fd ["_law_script"] (yo K):=by
 have e:=hfa.symm.trans (DL X G a48);cases e;have C1:=bg F1 X G a1 ["text"];have C2:=bg F2 X G a2 ["text"];have C3:=bg F3 X G a3 ["row"];have C4:=bg F4 X G a4 ["row"];have C5:=bg F5 X G a5 ["rows"];have C6:=bg F6 X G a6 ["telling"];have C7:=bg F7 X G a7 ["telling"];have C8:=bg F8 X G a8 ["sort","word"];have C9:=bg F9 X G a9 ["sort","words"];have C10:=bg F10 X G a10 ["deed"];have C11:=bg F11 X G a11 ["deed"];have C12:=bg F12 X G a12 ["condition"];have C13:=bg F13 X G a13 ["deed","around"];have C14:=bg F14 X G a14 ["deed","around"];have C15:=bg F15 X G a15 ["deeds","around"];have C16:=bg F16 X G a16 ["deed"];have C17:=bg F17 X G a17 ["deeds"];have C18:=bg F18 X G a18 ["deed"];have C19:=bg F19 X G a19 ["procedure"];have C20:=bg F20 X G a20 ["procedure"];have C21:=bg F21 X G a21 ["procedure"];have C22:=bg F22 X G a22 ["deed","called"];have C23:=bg F23 X G a23 ["procedure"];have C24:=bg F24 X G a24 ["program"];have C25:=bg F25 X G a25 ["program"];have C26:=bg F26 X G a26 ["program"];have C27:=bg F27 X G a27 ["_law_script","_law_k"];have C28:=bg F28 X G a28 ["_law_cell"];have C29:=bg F29 X G a29 ["_law_cell","_law_names_here"];have C30:=bg F30 X G a30 ["_law_feed","_law_many"];have C31:=bg F31 X G a31 ["_law_cell"];have C32:=bg F32 X G a32 ["_law_feed","_law_some","_law_sort"];have C33:=bg F33 X G a33 ["_law_feed","_law_own","_law_most"];have C34:=bg F34 X G a34 ["_law_cell","_law_names_here"];have C35:=bg F35 X G a35 ["_law_script"];have C36:=bg F36 X G a36 ["_law_mixed","_law_own"];have C37:=bg F37 X G a37 ["_law_way","_law_mixed","_law_head","_law_heads_here"];have C38:=bg F38 X G a38 ["_law_open_lists","_law_cell","_law_mixed","_law_head","_law_heads_here"];have C39:=bg F39 X G a39 ["_law_feed","_law_head","_law_heads_here"];have C40:=bg F40 X G a40 ["_law_open_lists","_law_feed","_law_head","_law_heads_here"];have C41:=bg F41 X G a41 ["_law_script"];have C42:=bg F42 X G a42 ["_law_script"];have C43:=bg F43 X G a43 ["_law_deeds"];have C44:=bg F44 X G a44 ["_law_program_here"];have C45:=bg F45 X G a45 ["_law_deeds"];have C46:=bg F46 X G a46 ["_law_deeds"];have C47:=bg F47 X G a47 ["_law_telling"];have C:Con K mg w:={
  len:=Bc X G z1
  all:=Bc X G z2
  any:=Bc X G z3
  isi:=Bc X G z4
  list:=Bc X G z5
  int:=Bc X G z6
  bool:=Bc X G z7
  str:=Bc X G z8
  dict:=Bc X G z9
  sorted:=Bc X G z10
  set:=Bc X G z11
  sum:=Bc X G z12
  range:=Bc X G z13
  tuple:=Bc X G z14
  max:=Bc X G z15
  zip:=Bc X G z16
  min:=Bc X G z17
  enumerate:=Bc X G z18
  mostSigns:=gy X G m0 e0
  factLen:=gy X G m1 e1
  mostFacts:=gy X G m2 e2
  mostParts:=gy X G m3 e3
  mostNames:=gy X G m4 e4
  mostProcs:=gy X G m5 e5
  mostParams:=gy X G m6 e6
  mostNamesP:=gy X G m7 e7
  mostDeeds:=gy X G m8 e8
  mostAround:=gy X G m9 e9
  letters:=zp X G gL eL
  figures:=zp X G gF eF
  noNames:=⟨aN,ky X G gN,fun _=>.inr ⟨oN,itN,nN,lN,cN,dN,Aw sN (by decide),vN⟩⟩
  factWords:=⟨aW,ky X G gW,fun _=>.inr ⟨oW,itW,nW,lW,cW,dW,Aw sW (by decide),vW⟩⟩
  giving:=⟨aV,ky X G gV,fun _=>.inr ⟨oV,itV,nV,lV,cV,dV,Aw sV (by decide),vV⟩⟩
  fields:=⟨aT,ky X G gT,(fun _=>.inr ⟨oT,itT,nT,lT,cT,dT,Aw sT (by decide),vT⟩),oT,lT,cT,bT⟩
  partLens:=⟨aE,ky X G gE,ec,nE,lE,hE,mE,rE⟩
  forms:=⟨aP,[("set",t1),("read",t2),("write",t3),("new",t4),("free",t5)],ky X G gP,⟨es,nP,lP,hP,mP,rP⟩,rfl,fun w t r h1 h2 H=>by
   have S1:SqT K H t1 (([("name":Str),"value"]:List Str).map V.str):=.inr ⟨o1,it1,n1,lT1,cT1,dT1,Aw sT1 (by decide),vT1⟩;have S2:SqT K H t2 (([("name":Str),"name","field"]:List Str).map V.str):=.inr ⟨o2,it2,n2,lT2,cT2,dT2,Aw sT2 (by decide),vT2⟩;have S3:SqT K H t3 (([("name":Str),"field","value"]:List Str).map V.str):=.inr ⟨o3,it3,n3,lT3,cT3,dT3,Aw sT3 (by decide),vT3⟩;have S4:SqT K H t4 (([("name":Str),"value","value"]:List Str).map V.str):=.inr ⟨o4,it4,n4,lT4,cT4,dT4,Aw sT4 (by decide),vT4⟩;have S5:SqT K H t5 (([("name":Str)]:List Str).map V.str):=.inr ⟨o5,it5,n5,lT5,cT5,dT5,Aw sT5 (by decide),vT5⟩;have hl:=im iz h2;simp only[Am,Au,or_false,HE] at h1;rcases h1 with⟨rfl,rfl⟩|⟨rfl,rfl⟩|⟨rfl,rfl⟩|⟨rfl,rfl⟩|⟨rfl,rfl⟩
   . rw[show forms.lookup ("set":Str)=some [("name":Str),"value"] by decide] at hl;cases hl;exact S1
   . rw[show forms.lookup ("read":Str)=some [("name":Str),"name","field"] by decide] at hl;cases hl;exact S2
   . rw[show forms.lookup ("write":Str)=some [("name":Str),"field","value"] by decide] at hl;cases hl;exact S3
   . rw[show forms.lookup ("new":Str)=some [("name":Str),"value","value"] by decide] at hl;cases hl;exact S4
   . rw[show forms.lookup ("free":Str)=some [("name":Str)] by decide] at hl;cases hl;exact S5⟩}
 obtain⟨_,_,kV,dc,pm,an,cd,ct,_,rfl,_,_⟩:=id F48.ex;refine⟨CK "law" "law" (mr sLaw) (jw sLaw) (b7 sLaw) .none kV dc pm an cd ct,fun s v=>.of_eq rfl,fun base _ _=>?_⟩;have O1:=a53 (P:=l.prog) (base:=base) C F1;have O2:=a3i  C F2 O1 C1.bind C1.keep C1.name;have O3:=a4q  C F3 O2 C2.bind C2.keep C2.name;have O4:=a59  C F4 O2 C2.bind C2.keep C2.name;have O5:=a3w (P:=l.prog) (base:=base) C F5;have O7:=a3k (P:=l.prog) (base:=base) C F7;have O6:=a0q  C F6 O5 C5 O3 C3 O4 C4 O7 C7;have O8:=aa7  C F8 O1 C1 O2 C2;have O9:=a8x  C F9 O8 C8;have O10:=a2z  C F10 O8 C8;have O11:=a5e  C F11 O8 C8 O9 C9;have O12:=a4e  C F12 O5 C5 O3 C3;have O16:=a3o (P:=l.prog) (base:=base) C F16;have s0:FnOk l.prog w K mg base CX0 1 f17 d17 ["deeds"] (spAll K []):=a88;have s1:=ou (n:=0) (b:=30) (bs:=B 0) C F17 O16 C16 s0 C17;have s2:=ou (n:=1) (b:=30) (bs:=B 1) C F17 O16 C16 s1 C17;have s3:=ou (n:=2) (b:=30) (bs:=B 2) C F17 O16 C16 s2 C17;have s4:=ou (n:=3) (b:=30) (bs:=B 3) C F17 O16 C16 s3 C17;have s5:=ou (n:=4) (b:=30) (bs:=B 4) C F17 O16 C16 s4 C17;have u0:FnOk l.prog w K mg base CX0 5 f15 d15 ["deeds","around"] (spAreD K []):=a6y;have v1:=oy (n:=5) (bs:=B 0) (by decide) C F13 O12 C12 O6 C6 O16 C16 u0 C15;have w1:=lx (n:=5) (bs:=B 0) (by decide) C F14 v1 C13 O11 C11 O10 C10;have u1:=nw (n:=5) (b:=30) (bs:=B 0) (by decide) C F15 w1 C14;have v2:=oy (n:=8) (bs:=B 1) (by decide) C F13 O12 C12 O6 C6 O16 C16 u1 C15;have w2:=lx (n:=8) (bs:=B 1) (by decide) C F14 v2 C13 O11 C11 O10 C10;have u2:=nw (n:=8) (b:=30) (bs:=B 1) (by decide) C F15 w2 C14;have v3:=oy (n:=11) (bs:=B 2) (by decide) C F13 O12 C12 O6 C6 O16 C16 u2 C15;have w3:=lx (n:=11) (bs:=B 2) (by decide) C F14 v3 C13 O11 C11 O10 C10;have u3:=nw (n:=11) (b:=30) (bs:=B 2) (by decide) C F15 w3 C14;have v4:=oy (n:=14) (bs:=B 3) (by decide) C F13 O12 C12 O6 C6 O16 C16 u3 C15;have w4:=lx (n:=14) (bs:=B 3) (by decide) C F14 v4 C13 O11 C11 O10 C10;have u4:=nw (n:=14) (b:=30) (bs:=B 3) (by decide) C F15 w4 C14;have v5:=oy (n:=17) (bs:=B 4) (by decide) C F13 O12 C12 O6 C6 O16 C16 u4 C15;have w5:=lx (n:=17) (bs:=B 4) (by decide) C F14 v5 C13 O11 C11 O10 C10;have u5:=nw (n:=17) (b:=30) (bs:=B 4) (by decide) C F15 w5 C14;have O18:=a1c  C F18 O7 C7;have O19:=a3m (n:=5) (bs:=B 5) (by decide) C F19 O7 C7 s5 C17 O18 C18 O1 C1;have O20:=a5u (bs:=B 5) C F20 O8 C8 O9 C9 O6 C6;have O21:=a8u (n:=7) (bs:=B 5) (by decide) C F21 O7 C7 (s5.mono (by decide)) C17 O19 C19;have O22:=a6p (P:=l.prog) (base:=base) (bs:=B 5) C F22;have O23:=a4n (n:=20) (m:=20) (l:=8) (bs:=B 5) (by decide) (by decide) (by decide) C F23 O20 C20 u5 C15 O21 C21;have O24:=a3n (P:=l.prog) (base:=base) C F24;have O25:=a58 (n:=21) (m:=6) (bs:=B 5) (by decide) (by decide) C F25 O23 C23 O24 C24 s5 C17 O22 C22;have O26:=a4t (n:=22) C F26 O25 C25;have O27:=a4r (P:=l.prog) (base:=base) C F27;have O28:=a64 (P:=l.prog) (base:=base) C C.range F28;have O29:=a85 (P:=l.prog) (base:=base) C F29;have O30:=a7x (P:=l.prog) (w:=w) (mg:=mg) (base:=base) F30;have O31:=a0t  C C.range F31 O30 C30;have O32:=a5z  C F32 O30 C30;have O33:=a3h  C F33 O30 C30 O32 C32;have O34:=a1d  C F34 O30 C30;have O35:=a6g  C F35 O27 C27 O34 C34 O31 C31 O28 C28;have O36:=a8d (P:=l.prog) (base:=base) C F36;have O37:=a6a (P:=l.prog) (base:=base) C F37;have O38:=a91  C F38 O36 C36 O29 C29 O37 C37;have O39:=a0z  C F39 O30 C30;have O40:=a4g  C F40 O30 C30 O32 C32 O33 C33 O39 C39;have O41:=a2q  C F41 O27 C27 O35 C35 O40 C40 O33 C33 O30 C30;have O42:=a8q  C F42 O41 C41 O27 C27 O35 C35 O38 C38 O29 C29;have x0:FnOk l.prog w K mg base CX0 1 f43 d43 ["_law_deeds"] (spCopy K []):=a6e;have x1:=ny (n:=0) (b:=30) (bs:=B 0) (by decide) C F43 x0 C43;have x2:=ny (n:=1) (b:=30) (bs:=B 1) (by decide) C F43 x1 C43;have x3:=ny (n:=2) (b:=30) (bs:=B 2) (by decide) C F43 x2 C43;have x4:=ny (n:=3) (b:=30) (bs:=B 3) (by decide) C F43 x3 C43;have x5:=ny (n:=4) (b:=30) (bs:=B 4) (by decide) C F43 x4 C43;have O44:=a4y (bs:=B 5) C F44 x5 C43;have O47:=aag (P:=l.prog) (base:=base) C F47;have y0:FnOk l.prog w K mg base CX0 1 f45 d45 ["_law_deeds"] (spLW K []):=a9a;have y1:=r9 (n:=1) (b:=30) (bs:=B 0) (by decide) C F45 O47 C47 y0 C45;have y2:=r9 (n:=2) (b:=30) (bs:=B 1) (by decide) C F45 O47 C47 y1 C45;have y3:=r9 (n:=3) (b:=30) (bs:=B 2) (by decide) C F45 O47 C47 y2 C45;have y4:=r9 (n:=4) (b:=30) (bs:=B 3) (by decide) C F45 O47 C47 y3 C45;have y5:=r9 (n:=5) (b:=30) (bs:=B 4) (by decide) C F45 O47 C47 y4 C45;have r0:FnOk l.prog w K mg base CX0 1 f46 d46 ["_law_deeds"] (spCount K []):=a5t;have r1:=ly (n:=0) (b:=30) (bs:=B 0) (by decide) C F46 r0 C46;have r2:=ly (n:=1) (b:=30) (bs:=B 1) (by decide) C F46 r1 C46;have r3:=ly (n:=2) (b:=30) (bs:=B 2) (by decide) C F46 r2 C46;have r4:=ly (n:=3) (b:=30) (bs:=B 3) (by decide) C F46 r3 C46;have r5:=ly (n:=4) (b:=30) (bs:=B 4) (by decide) C F46 r4 C46;exact a9i C F48 O27 C27 O42 C42 O35 C35 r5 C46 O44 C44 O26 C26 y5 C45 O47 C47 O19 C19
theorem walk{l:EW}{q:IC}{loose:List Str}{XP:(Str->Option HX)->IJ->Prop}{YP:IF->IJ->Prop}{d:DefRec}{K:Params->Ac}(hn:l.most=some 63)(hdf:d.params.defaults=[])(hY:∀(w:IF) (h:IJ),YP w h->(K w.params).In h)(F:∀(w:IF) (mg:Str->Option HX) (fa:HW) (h:IJ),(K w.params).In h->h.Ns IA mg->mg d.name=some (.ref fa)->
 ∃fd:II,(∀(s:HZ) (u:HX),BindsTo s fd ⟨[u],[]⟩ [("_law_script",u)])/\∀base:IJ,(K w.params).In base->base.Ns IA mg->FnOk l.prog w (K w.params) mg base CX0 24 fa fd ["_law_script"] (yo (K w.params))):
 HA q loose XP YP l.row.toRowW d [] (fun f vs=>Hm f vs) :=
 L2.walk_of (n:=63) (k:=24) (x := "_law_script") (CX:=fun _=>CX0) (sp:=fun w=>yo (K w.params)) hn (by decide) hdf ⟨rfl,by decide,by decide⟩ hY F (fun _ _ a ns hl _ hS=>⟨a,ns,rfl,hS,fun _=>rfl⟩) fun _ _ _ _ _ z=>z
end K40
end
open PySem PySem.W PyProof.Rows
structure PySem.W.Fast:Prop where(tw9174391073248623682 tw16715285613396873447 tw18075818273147588502 tw8797845849238838781 tw5102183737859356485 tw2376398081667621855 tw6447526594913292460 tw2680903883401239054 tw9912945930200957040 tw2578105519649483400 tw11071385164247336567 tw12956481910338004270 tw3248011037198908701 tw529419196673081810 tw529326566460089319 tw15483953517173238790 tw11955208463392009050 tw5114726563640820203 tw9955405570131882512 tw11374190186421357745 tw706765818822898437 tw4170583979794879957 tw15093506428355263794 tw2696944766970584182 tw5027704718342551500 tw5502061189698457905 tw10599598818368919019 tw12132139069671531118 tw7580723450942119362 tw9958938106504344438 tw15778193000694981504 tw5304572576048282570 tw13975637626996627603 tw4456607439857474376 tw4001234984353211533 tw9778646140716411300 tw1436840332023333906 tw557189446114352502 tw7197925593887791352 tw1770873807331918709 tw3207502070515867831 tw13844593536773033981 tw15913306807162697826 tw4148330255909863974 tw1677532973239610667 tw17021005942871185380 tw15245192788794175954 tw16408570289335877031 tw9757370947147678860 tw13575527410429615195 tw4357189209933487576 tw2713472568654369381 tw659834123917948785 tw12817925608520512769 tw16712075567686027700 tw8903786907417211511 tw6897403070702634402 tw5837786949255002249 tw4784629247929111684 tw15639072678811177951 tw12017066792163070930 tw3979434627811370366 tw3400908868578160954 tw136670524614987269 tw14413915880431776999 tw2272667790467142705 tw3645233168681741009 tw3948590428382135015 tw8366424255719380490 tw3566997043228347008 tw7486455519963921930 tw10382858876812007254 tw12286664834154872581 tw14473932498983610905 tw10129978435209353779 tw9402082030355060570 tw7538717028473973344 tw4362260916538700031 tw12042683190540986590 tw3593240367700202816 tw1631762253231439022 tw6110700686736087246 tw5166501404548130988 tw4654368762076799944 tw11772926731876752026 tw16760791284401560395 tw730632253967734409 tw8917008355512532499 tw685162206515556175 tw10278843588983469394 tw8513664930297029839 tw1370495189066616929 tw17546782351139100316 tw5260298765233576360 tw680702487356726685 tw14707307627778264226 tw6849761044319896895 tw5459734562057211846 tw3206878460154540024 tw10410888548547600503 tw7399851153030619590 tw14911421295746073032 tw1923876052681781217 tw7740017674700143654 tw116781552301028919 tw583463997636633819 tw9968343685786768343 tw8424501727139287934 tw3587356484823103083 tw10635785328295931346 tw10548595455889049384 tw10426401353933204845 tw857189948105667691 tw15398457007389611268 tw8356274631273311007 tw11563738526328076608 tw2423052790581146353 tw16679403308569272785 tw3632259143509408206 tw4894586441505818600 tw6780349203150787548 tw9568794440273347311 tw1935556922646462388 tw1143677502283904790 tw8263931568278269873 tw14386733917646476785 tw5397870592941471825 tw2440975375017245147 tw14942233819750063239 tw17399458255600579905 tw7594618675344604895 tw14627589775344837931 tw16057960657867966646 tw3805217004515621096 tw11873996175993586644 tw1932740313310862921 tw14865414744900613900 tw17498690278774525255 tw10795384128513744476 tw17084049471468467230 tw14912961202914055235 tw9090547537808671797 tw16628254291592093334 tw4692715277445805195 tw1539199731225650290 tw10891743090588558466 tw10267053770908873750 tw938936014181534297 tw9296633438017219447 tw6760869894100859301 tw15467313018778561630 tw15063770227577921459 tw5670021422212723005 tw8175015676966133853 tw3330432140299995767 tw18153335955833200629 tw17619740979003702748 tw1221298218044119299 tw180729189892313419 tw5380606259348959302 tw10032244460479019803 tw5032486328404630862 tw4737797790100839188 tw3847873125486666709 tw3205004322826389815 tw2425164292551372876 tw14091531099101311109 tw4076084498683449326 tw11374374896303629871 tw15152607704627700996 tw12587150811310979814 tw11929949265719496535 tw3963607770408523883 tw9669576257773832460 tw9828459179732333310 tw8253464788118568067 tw11117523384042753243 tw8665458602105376260 tw13805608755929708914 tw17263128886076284965 tw706872869438467989 tw13775260471900976021 tw1802636737235096620 tw15450046708958575850 tw13604734856933323255 tw7894741559437915763 tw17094136306820947470 tw18411040781127449815 tw7628881628474152356 tw1201742888254244026 tw237509029003728830:True)
set_option maxRecDepth 100000 in
set_option maxHeartbeats 0 in
theorem PySem.Challenge.cw_apart_k40_programs_holds : PySem.Challenge.rw_apart_k40_programs.Holds := by
 w_on; o_law; k_head; (case hw => w_witness2)
 k_fill
 refine K40.walk (l := PySem.Challenge.rw_apart_k40_programs) rfl rfl (fun w h Y => PySem.W.kIn_of Y) ?F
 case F =>
   intro w mg fa h KX G hmg
   refine' K40.all_mk KX G hmg ..
   all_goals first
     | (refine' L2.fun_mk ?l ?c ?k; (case l => k_is); (case c => k_is); (case k => k_is))
     | k_is
     | rfl
     | decide
     | decide +kernel
     | exact ⟨⟨_, _, rfl, rfl⟩, ⟨_, _, rfl, rfl⟩, ⟨_, _, rfl, rfl⟩, ⟨_, _, rfl, rfl⟩, ⟨_, _, rfl, rfl⟩, trivial⟩
     | exact ⟨⟨_, _, rfl, rfl⟩, ⟨_, _, rfl, rfl⟩, ⟨_, _, rfl, rfl⟩, trivial⟩
     | exact K40.rel_find (.cons ⟨_, _, _, rfl, rfl⟩ (.cons ⟨_, _, _, rfl, rfl⟩ (.cons ⟨_, _, _, rfl, rfl⟩ (.cons ⟨_, _, _, rfl, rfl⟩ (.cons ⟨_, _, _, rfl, rfl⟩ .nil)))))
     | exact K40.rel_find (.cons ⟨_, _, _, rfl, ⟨_, rfl⟩⟩ (.cons ⟨_, _, _, rfl, ⟨_, rfl⟩⟩ (.cons ⟨_, _, _, rfl, ⟨_, rfl⟩⟩ .nil)))
     | (repeat (first | exact .nil | refine .cons ⟨_, rfl⟩ ?_)
        done)
     | skip
