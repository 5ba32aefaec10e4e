import PyProof.Rows.All
import Wide.All
import OpenK.AllK
import Wide.FinOn
import Lean
import PyProof.EqAt
import PyProof.EqKinds
import PyProof.TupleCall
import PySem.Challenge.RW_apart_k31_the_same_follows
set_option maxHeartbeats 16000000
set_option Elab.async false
set_option linter.all false
set_option compiler.extract_closed false
set_option maxRecDepth 100000
open PySem.W renaming Frag->Aa,findIn->Ak,nsIn->Av,isFn->A7,mg_none_of->AC,emptyDict->Bu,keepIn->B3,instObj->B6,fnOf->BL,plainGet->Ca,hasDictIn->Co,plainOver->CG,mg_of->CO,makesIn->De,plainGet_of->Dq,lookIn->Du,callWith_K->DC,methodObj->DK,takerIn->Er,OpenLaw->Et,cellsFrom_some->E2,methodCall_KW->E9,codeIn->EA,handedIn->FK,WalkO->Gh
open PySem renaming wpAny_bind->Ab,wpAny_pure->Af,boot_len->AH,wpAny_newObj_type->AJ,Spec->AO,mem_of_lookup->Bg,wpAny_mono->Bh,wpAny_setField_rec->Bn,wpAny_call_entry->Bo,lookup_relabel_local->Bp,wpAny_truthy_bool->Bt,wpAny_callSpecial?_slot->Bx,codeAny_builtin->B7,wpAny_holding->B8,wpAny_passesOwn->BP,builtinLookup_eq_fast->BQ,wpAny_field->BY,plainId_quiet->Cd,tupleKind_room_in1->Cj,wpAny_typeNameOfWhole_keyiter->Cm,wpAny_setState_of->Cp,codeAny_mono->Cq,typeLookup_type->Cy,wpAny_Call_Name_kw->Cz,wpAny_typeNameOf_keyiter->CC,wpAny_pyIter_list->CF,wpAny_attempt->CN,wpAny_isInstance->CQ,wpAny_isOneOf_keyiter->CW,wpAny_execs_nil->Dc,wpAny_typeOf->Df,wpAny_rule->Dh,wpAny_setEntries_of->Ds,isSubtype_type->Dv,wpAny_fieldsOf->Dy,sizeLine_eq->DB,wpAny_assign_Name->DL,slot_list_getitem->DM,fits_of_scanBound->DN,wpAny_pyIter_slot->DP,wpAny_setEpoch_of->DQ,wpAny_getItem_list_slice->DV,wpAny_comprehension_free->DX,wpAny_askSetting->DY,codeAny_compStart_list->E3,wpAny_isTrue_Compare1->E8,entryFor_alias->ED,wpAny_seqItems->EE,isSubtype_stop->EF,wpAny_notOrdered_dict->EI,typeIs_str->EO,call_meets->ES,wpAny_newFunctionEnv->ET,codeAny_call_builtin->EV,wpAny_pyIter_keyiter->EW,evalPart_none->EZ,Within->Fj,putSet_of->Fq,call_meetsIn->Fu,wpAny_storeSet_of->Fz,wpAny_Call_method->FB,wpAny_dictEntries->FC,wpAny_of_eq->FG,wpAny_execs_cons->FJ,wpAny_Dict_empty->FM,wpAny_Name->FR,wpAny_load->FS,wpAny_call->FT,call->FV,strKind_is->FX,Builtin->Gi
open List renaming length_map->Ac,mem_append->Ad,getElem?_eq_getElem->Ae,mem_singleton->Ai,length_append->Aj,getElem?_map->Al,getElem?_eq_some_iff->Am,mem_cons->Ar,size_toArray->As,mem_of_getElem?->Au,not_mem_nil->Ax,mem_cons_of_mem->Ay,map_append->A1,length_take->A2,mem_map->A3,length_singleton->AD,mem_append_right->AG,map_cons->AI,mem_cons_self->AK,length_cons->AM,mem_of_mem_take->AQ,take_add_one->AR,range->AV,mem_filter->AW,getElem_mem->AX,any_eq_true->Ba,take_length->Bb,mem_range->Bc,length_drop->Bd,take_of_length_le->Bf,length_filter_le->Bl,getD_eq_getElem?_getD->Bs,length_range->By,find?_cons->B0,take_zero->B5,eq_nil_of_length_eq_zero->B9,getElem?_cons_succ->BA,filterMap_cons->BB,all_eq_true->BD,map_nil->BM,map_map->BO,getElem?_eq_none->BR,getElem?_of_mem->BX,map_take->Ce,append_nil->Cf,nodup_cons->Cg,lookup->Ct,map_congr_left->Cv,filter_append->CB,reverse_cons->CI,any_cons->CM,filter_cons->CS,getElem?_toArray->CU,filter_nil->Dl,mem_of_mem_drop->Dn,length_reverse->Dt,drop_zero->Dz,length_eraseIdx_of_lt->DJ,append_assoc->DO,filter_congr->DR,getElem?_eq_none_iff->DS,cons_append->Eb,length_erase_of_mem->Eg,mem_reverse->Ei,of_mem_zip->Es,length_nil->Eu,filter_map->Ex,getElem?_set_self->E1,length_pos_of_mem->E6,nodup_nil->EB,filterMap_append->EL,mem_append_left->EM,getElem?_set_ne->EN,mem_iff_getElem->EU,mem_erase_of_ne->EX,map_drop->Fb,filter_sublist->Ff,filterMap_map->Fo,any_map->Fv,map_inj_right->Fx,nodup_append->F0,find?_isSome->FE,length->FF,getElem_inj->FI,nodup_range->FO,countP_cons->FP,cons_ne_nil->FQ,all_cons->Gg,map_id->Gu,filter->Gv
open PySem.Heap renaming get?_push_of_some->Ag,get?_push_size->An,lt_size->Ao,size_push->Bj,SameBut->Bq,get?_update_self->B4,get?_update_other->BG,get?_none_of_le->Da,ExtBut->FH
open Nat renaming le_refl->Ah,ne_of_lt->Aw,lt_of_lt_of_le->A4,zero_le->A5,le_trans->AB,lt_of_le_of_lt->AL,lt_irrefl->Bi,lt_succ_self->BC,le_of_lt->BH,ne_of_gt->BI,lt_succ_of_lt->BU,le_succ->CL,le_add_right->CP,sub_zero->Dk,le_of_not_lt->DW,lt_trans->Ec,min_eq_left->Ew,zero_lt_one->Ey,mul_le_mul_right->EY,add_le_add_left->Fe,le_of_eq->Fk,min_eq_right->FN,not_lt_zero->FZ,sub_self->Gm
open Option.some renaming inj->Ap
open Bool renaming false_ne_true->Aq,false_eq_true->AY,and_eq_true->Be,eq_iff_iff->Bm,false_and->Ga,or_false->Gf
open Array renaming length_toList->Az,getElem?_toList->Bk,eq_empty_of_size_eq_zero->Dj,getElem?_eq_getElem->DU,toList_append->Fg,toList_push->Fy,toList->Gk
open PySem.F renaming plainAttrs_list->A0,slot_list_append->AE,type_list_append->AF,slot_enumerate_next->Cr,slot_dict_keyiterator_next->CJ,slot_dict_get->CV,slot_dict_setdefault->D8,plain_extend_loop->DT,slot_list_extend->Ed,type_list_extend->Ee,plain_list_iadd->Ej,args_dict_get_3->Ek,plainAttrs_dict->El,args_enumerate_next_1->Em,entry_dict_get->E4,slot_dict_iter->E5,entry_enumerate_next->E7,plain_set_new->EC,slot_set_iter->EG
open PySem.Paired renaming length->A8,snoc->Gr
open Ne renaming symm->A9
open PySem.PassesOwn renaming never->AA
open Int renaming emod_nonneg->AN,emod_lt_of_pos->AS,toNat_natCast->AU,toNat->Ci,fdiv_eq_ediv_of_nonneg->DG,zero_add->Eh
open PySem.PyData renaming depthAll->AZ,canLayAll0->Bz,canLay0->BZ,depth->CD,strOk->Gn
open PySem.Str renaming ofString->Br,length->BF,cps_append->D9,empty->Gc
open Option renaming isSome_iff_exists->Bv,isSome_map->BV,getD_some->Cc,map_some->Dm,getD_none->FL
open PySem.Around renaming under_plainId->Bw,under->Fm
open PyProof.Rows renaming boot_list->B1,callWith_type1->BJ,boot_isinstance->Cs,boot_any->CY,slot_tuple_getitem->CZ,boot_sorted->Ef,boot_tuple->Ep,boot_set->EK
open False renaming elim->B2
open PySem.SetTable renaming grown->BE,below->Dx
open PySem.Calls renaming spliced_cons->BK,callWith_builtin->Ck,spliced_nil->CH,evalArgs_plain->Dg,Name_function_global->DF
open PyProof.Rows.F renaming plain_set_update_loop->BN,entry_set_update_loop->CA
open PySem.Builtin.SmallTypes renaming ownedTupleIsFree->BS
open PySem.Builtin.Slice renaming slicePlaces->BW,sliceAdjust->Cw,sliceApplied->DH
open PySem.Builtin.Tuple renaming tupleExact->Cb
open PySem.Heap.SameBut renaming update->Cu
open PySem.Builtin.List renaming listTooLong->C0,listExtendWith->DD,listSameRef->Ea
open PySem.Obj renaming putSet->Di,data_mapFields->DE,isFreed_of_fields->EH,mapSeq->ER,cls_mapFields->FD,mapFields->Gj
open List.Perm renaming refl->Dw
open Sum.inr renaming inj->DA
open PySem.Shared renaming TypeIs->DI
open PySem.Builtin.Frozenset renaming sizeOf->DZ
open PySem.Builtin.Dict renaming updateFrom->Eo,showsAll->EJ
open Sum.inl renaming inj->Ez
open PySem.Value renaming isStrOf_shape->Fc,isStrOf->Ge,isInt->Gp
open PySem.SeqAt.EqAt renaming int_str->Fh,str_int->Fi
open PySem.Code renaming isFrame->Fn,frames->Gq
open PySem.Heap.IsSliceOf renaming new->Fp
open PySem.pickOrder renaming go->Ft
open List.Nodup renaming sublist->Fw
open PySem.SetTable.below renaming go->FA
open PySem.SeqAt renaming in_listAt->FU,EqAt->Gw
open PySem.Walks renaming list->FW
open List.cons renaming injEq->FY
open PySem.Manifest renaming find?->Gb
open PySem renaming Value->GQ,Addr->GV,Shared->GW,sizeLine->GX,wpAny->GY,mainGlobals->GZ,Program->Gx,model->Gy,starEach->Gz,World->G9,FuncData->HA,Heap->HB,Around->HC,Paired->HD,foldedSetIterable->HE,Stmt->HF,behindInMarks->HG,relabel->HH,compareOp->HI,sysModules->HJ,assignEach->HK,attributeBase->HL,backTo->HM,swapsWith->HN,codeAny->HP,pyNext->HQ,binaryOp->HR,strKind->HS,keywordEach->HU,sliceBounds->HV,rawInt->HW,backToKw->HX
noncomputable section
local macro_rules | `(tactic| decide) => `(tactic| decide +kernel)
open PySem PySem.Spec
namespace L2
open PyProof.Rows
abbrev Key:=Sum Int Str
def jj:Key->GQ->Bool
 | .inl k,v=>Gp k v
 | .inr x,v=>Ge x v
def keyH(w:G9):Key->Int
 | .inl k=>hashInt k
 | .inr x=>hashStr w x
theorem ca:∀{k:Key}{v:GQ},jj k v=true->(∃i t,k=Sum.inl i/\v=Value.int i t)\/(∃x t,k=Sum.inr x/\v=Value.str x t)
 | .inl i,v,h=>by
  obtain⟨t,e⟩:=Value.isInt_shape (k:=i) (v:=v) h;exact .inl ⟨i,t,rfl,e⟩
 | .inr x,v,h=>by
  obtain⟨t,e⟩:=Fc (x:=x) (v:=v) h;exact .inr ⟨x,t,rfl,e⟩
theorem ym(i:Int)(t:Tok):jj (.inl i) (.int i t)=true:=by simp[jj,Gp]
theorem za(x:Str)(t:Tok):jj (.inr x) (.str x t)=true:=by simp[jj,Ge]
theorem a5k(a b:Int):decide ((Sum.inl a:Key)=Sum.inl b)=(a==b):=by
 by_cases e:a=b
 . subst e;simp
 . have h:¬ (Sum.inl a:Key)=Sum.inl b:=fun q=>e (Ez q);rw[decide_eq_false h];exact (beq_eq_false_iff_ne.mpr e).symm
theorem a6f(a b:Str):decide ((Sum.inr a:Key)=Sum.inr b)=decide (a=b):=by
 by_cases e:a=b
 . subst e;simp
 . have h:¬ (Sum.inr a:Key)=Sum.inr b:=fun q=>e (DA q);rw[decide_eq_false h,decide_eq_false e]
theorem a62(a:Int)(b:Str):decide ((Sum.inl a:Key)=Sum.inr b)=false:=decide_eq_false (fun q=>nomatch q)
theorem a5e(a:Str)(b:Int):decide ((Sum.inr a:Key)=Sum.inl b)=false:=decide_eq_false (fun q=>nomatch q)
def c4(prog:Gx)(w:G9):PySem.KeyKind prog w Key where
 is:=jj
 hash:=keyH w
 inj:=fun v a b ha hb=>by
  rcases ca ha with⟨i,t,rfl,rfl⟩|⟨x,t,rfl,rfl⟩
  . rcases ca hb with⟨j,u,rfl,e⟩|⟨y,u,rfl,e⟩
    . injection e with e1 _;rw[e1]
    . exact nomatch e
  . rcases ca hb with⟨j,u,rfl,e⟩|⟨y,u,rfl,e⟩
    . exact nomatch e
    . injection e with e1 _;rw[e1]
 byValue:=fun k v h=>by
  rcases ca h with⟨i,t,rfl,rfl⟩|⟨x,t,rfl,rfl⟩<;>rfl
 pyHash:=fun hv h=>by
  rcases ca hv with⟨i,t,rfl,rfl⟩|⟨x,t,rfl,rfl⟩
  . exact wpAny_pyHash_int h
  . exact wpAny_pyHash_str h
 eqBool:=fun hu hv h=>by
  rcases ca hu with⟨i,t,rfl,rfl⟩|⟨x,t,rfl,rfl⟩
  . rcases ca hv with⟨j,u,rfl,rfl⟩|⟨y,u,rfl,rfl⟩
    . rw[a5k] at h;exact wpAny_eqBool_int h
    . rw[a62] at h;exact Fh i t y u _ _ _ _ h
  . rcases ca hv with⟨j,u,rfl,rfl⟩|⟨y,u,rfl,rfl⟩
    . rw[a5e] at h;exact Fi x t j u _ _ _ _ h
    . rw[a6f] at h;exact wpAny_eqBool_str h
 «strs» := fun k x t v h=>by
  rcases ca h with⟨i,u,rfl,e⟩|⟨y,u,rfl,e⟩
  . exact nomatch e
  . injection e with e1 _;subst e1;cases v<;>rfl
theorem t0(prog:Gx)(w:G9)(i:Int)(t:Tok):(c4 prog w).is (.inl i) (.int i t)=true:=ym i t
theorem tf(prog:Gx)(w:G9)(x:Str)(t:Tok):(c4 prog w).is (.inr x) (.str x t)=true:=za x t
inductive V where
 | non|bl (b:Bool)|int (i:Int)|str (x:Str)|byt (b:Array UInt8)|flt (b:UInt64)|ref (a:GV)|ty (n:String)
 deriving DecidableEq
def RelV:V->GQ->Prop
 | .non,u=>u=Value.none
 | .bl b,u=>u=Value.bool b
 | .int i,u=>∃t,u=Value.int i t
 | .str x,u=>∃t,u=Value.str x t
 | .byt b,u=>∃t,u=Value.bytes b t
 | .flt b,u=>∃t,u=Value.float b t
 | .ref a,u=>u=Value.ref a
 | .ty n,u=>u=Value.type n
abbrev Vals:List V->List GQ->Prop:=HD RelV
theorem Vals.length{xs:List V}{us:List GQ}(r:Vals xs us):xs.length=us.length:=A8 r
theorem Vals.get:∀{xs:List V}{us:List GQ}{i:Nat}{x:V},Vals xs us->xs[i]?=some x->∃u,us[i]?=some u/\RelV x u
 | _,_,_,_,.nil,e=>by simp at e
 | _,_,0,_,.cons r _,e=>by simp at e;subst e;exact⟨_,rfl,r⟩
 | _,_,i+1,x,.cons _ t,e=>by
  obtain⟨u,h1,h2⟩:=Vals.get (i:=i) (x:=x) t (by simpa using e);exact⟨u,by simpa using h1,h2⟩
theorem Vals.append:∀{xs ys:List V}{us ws:List GQ},Vals xs us->Vals ys ws->Vals (xs++ys) (us++ws)
 | _,_,_,_,.nil,s=>s
 | _,_,_,_,.cons r t,s=>.cons r (Vals.append t s)
theorem Vals.take:∀{xs:List V}{us:List GQ}(n:Nat),Vals xs us->Vals (xs.take n) (us.take n)
 | _,_,0,_=>.nil
 | _,_,_+1,.nil=>.nil
 | _,_,n+1,.cons r t=>.cons r (Vals.take n t)
theorem Vals.drop:∀{xs:List V}{us:List GQ}(n:Nat),Vals xs us->Vals (xs.drop n) (us.drop n)
 | _,_,0,r=>r
 | _,_,_+1,.nil=>.nil
 | _,_,n+1,.cons _ t=>Vals.drop n t
def RelO:Option V->Option GQ->Prop
 | some v,some u=>RelV v u
 | none,none=>True
 | _,_=>False
def KV{κ:Type}:List (κ×V)->List (κ×GQ)->Prop:=HD fun (p:κ×V) (q:κ×GQ)=>p.1=q.1/\RelV p.2 q.2
def kV:Key->V
 | .inl i=>.int i
 | .inr x=>.str x
inductive HO where
 /-- a list -/
 | lst (xs:List V)
 /-- a tuple (never changes) -/
 | tup (xs:List V)
 /-- a dict whose keys are ints and texts;one whose keys are tuples of ints and texts (the empty one is both) -/
 | dK (kvs:List (Key×V))|dT (kvs:List (List Key×V))
 /-- a set of ints: its members,its size -/
 | set (S:Int->Bool)(n:Nat)
 /-- an instance of the class at C,its dict at dx,its attributes -/
 | ins (C dx:GV)(fs:List (Str×V))
 /-- the dict of the instance at x -/
 | own (x:GV)
 /-- the dict of an exception -/
 | xd (fs:List (Str×V))
 /-- a bound method,f of x -/
 | met (f x:GV)
 /-- a range object lo,lo+1,.. below hi -/
 | rng (lo hi:Int)
 /-- a thing that is known to the object (the script;a dict while a loop walks it): read,never written while it is so -/
 | frz (o:Obj)(u:HO)
 /-- a code object's table -/
 | tbl (ps:Array GQ)
 /-- any other thing,by what is true of its one object (a def of one's own: SetO a S n:=HO.ext fun h=>..) -/
 | ext (φ:HB->Prop)
abbrev Hp:=GV->Option HO
def upd(H:Hp)(a:GV)(o:HO):Hp:=fun b=>if b=a then some o else H b
theorem aa{H:Hp}{a:GV}{o:HO}:upd H a o a=some o:=by unfold upd;rw[if_pos rfl]
theorem ag{H:Hp}{a b:GV}{o:HO}(h:b≠a):upd H a o b=H b:=by unfold upd;rw[if_neg h]
theorem db{H:Hp}{a b:GV}{o u:HO}(h:H a=some o)(h':H b=some u)(d:o≠u):a≠b:=by
 intro e;subst e;rw[h] at h';exact d (Ap h')
theorem ax{H:Hp}{a b:GV}{o:HO}(h:H a=some o)(h':H b=none):a≠b:=by
 intro e;subst e;rw[h] at h';cases h'
section
variable(P:Gx)(w:G9)
def ObjOk(H:Hp)(h:HB)(a:GV):HO->Prop
 | .lst xs=>xs.length<=GX/\∃(its:List GQ) (n:Nat),Vals xs its/\h.get? a=some {cls:=.type "list",data:=.seq its.toArray n}
 | .tup xs=>xs.length<=GX/\∃its:List GQ,Vals xs its/\IsTup h a its.toArray
 | .dK kvs=>kvs.length<=GX/\(a==HJ)=false/\∃vs,KV kvs vs/\h.DictOf (c4 P w) a vs
 | .dT kvs=>kvs.length<=GX/\(a==HJ)=false/\∃xs:List (List Key×GV×GQ),
  HD (fun (p:List Key×V) (q:List Key×GV×GQ)=>p.1=q.1/\H q.2.1=some (.tup (p.1.map kV))/\RelV p.2 q.2.2) kvs xs/\
  ∃o es ep,h.get? a=some o/\o.ExactDict/\o.data=.dict es ep/\es.toList=xs.map (entryOfKey (tupleKind (c4 P w)))/\(xs.map (·.1)).Nodup
 | .set S n=>h.SetOf (intKind P w) a S n
 | .ins C dx fs=>H dx=some (.own a)/\fs.length<=1000/\dx≠a/\h.get? a=some (B6 C dx)/\
  ∃mA,h.Ns1 dx mA/\(∀f,RelO (fs.lookup f) (mA f))/\Fj mA (fs.map (·.1))
 | .own _=>∃o,h.get? a=some o
 | .xd fs=>∃mA,h.Ns1 a mA/\∀f,RelO (fs.lookup f) (mA f)
 | .rng lo hi=>∃t u v,h.get? a=some {cls:=.type "range",data:=.fields #[.int lo t,.int hi u,.int 1 v]}
 | .frz o u=>h.get? a=some o/\ObjOk H h a u
 | .tbl ps=>h.get? a=some {cls:=.none,data:=.fields ps}
 | .met f x=>h.get? a=some (DK (.ref f) (.ref x))
 | .ext φ=>φ h/\(∃o,h.get? a=some o)/\∀h1 h2:HB,φ h1->(∀o,h1.get? a=some o->h2.get? a=some o)->φ h2
def HOk(H:Hp)(h:HB):Prop:=∀a o,H a=some o->ObjOk P w H h a o
end
section
variable{P:Gx}{w:G9}{H H':Hp}{h h':HB}{a:GV}{o:HO}
theorem ObjOk.lt(x:ObjOk P w H h a o):a<h.objs.size:=by
 cases o with
 | lst xs=>obtain⟨_,_,_,_,e⟩:=x;exact Ao e
 | tup xs=>obtain⟨_,_,_,p⟩:=x;exact p.lt
 | dK kvs=>obtain⟨_,_,_,_,o,_,_,e,_⟩:=x;exact Ao e
 | dT kvs=>obtain⟨_,_,_,_,o,_,_,e,_⟩:=x;exact Ao e
 | set S n=>obtain⟨o,_,_,_,e,_⟩:=x;exact Ao e
 | ins C dx fs=>obtain⟨_,_,_,e,_⟩:=x;exact Ao e
 | own y=>obtain⟨_,e⟩:=x;exact Ao e
 | xd fs=>obtain⟨_,⟨_,_,_,e,_⟩,_⟩:=x;exact Ao e
 | rng lo hi=>obtain⟨_,_,_,e⟩:=x;exact Ao e
 | frz ob u=>obtain⟨e,_⟩:=x;exact Ao e
 | tbl ps=>exact Ao (show h.get? a=some _ from x)
 | met f y=>exact Ao (show h.get? a=some _ from x)
 | ext φ=>obtain⟨_,⟨_,e⟩,_⟩:=x;exact Ao e
theorem Paired.mapP{α β:Type}{F G:α->β->Prop}:∀{l₁:List α}{l₂:List β},HD F l₁ l₂->(∀a b,F a b->G a b)->HD G l₁ l₂
 | _,_,.nil,_=>.nil
 | _,_,.cons r t,f=>.cons (f _ _ r) (Paired.mapP t f)
theorem ObjOk.stay(x:ObjOk P w H h a o)(k:∀b u,(b=a\/H b=some (.own a))->h.get? b=some u->h'.get? b=some u)(ho:∀b,H b=some (.own a)->H' b=some (.own a))(ht:∀b xs,H b=some (.tup xs)->H' b=some (.tup xs)):ObjOk P w H' h' a o:=by
 induction o with
 | lst xs=>obtain⟨z,its,n,r,e⟩:=x;exact⟨z,its,n,r,k _ _ (.inl rfl) e⟩
 | tup xs=>obtain⟨z,its,r,ob,e,c⟩:=x;exact⟨z,its,r,ob,k _ _ (.inl rfl) e,c⟩
 | dK kvs=>obtain⟨z,y,vs,r,ob,es,ep,e,c⟩:=x;exact⟨z,y,vs,r,ob,es,ep,k _ _ (.inl rfl) e,c⟩
 | dT kvs =>
  obtain⟨z,y,xs,r,ob,es,ep,e,c⟩:=x;exact⟨z,y,xs,Paired.mapP r fun p q z=>⟨z.1,ht _ _ z.2.1,z.2.2⟩,ob,es,ep,k _ _ (.inl rfl) e,c⟩
 | set S n=>obtain⟨ob,es,ep,t,e,c⟩:=x;exact⟨ob,es,ep,t,k _ _ (.inl rfl) e,c⟩
 | ins C dx fs =>
  obtain⟨d,z,ne,e,mA,⟨od,es,ep,e2,c⟩,r⟩:=x;exact⟨ho _ d,z,ne,k _ _ (.inl rfl) e,mA,⟨od,es,ep,k _ _ (.inr d) e2,c⟩,r⟩
 | own y=>obtain⟨ob,e⟩:=x;exact⟨ob,k _ _ (.inl rfl) e⟩
 | xd fs=>obtain⟨mA,⟨od,es,ep,e,c⟩,r⟩:=x;exact⟨mA,⟨od,es,ep,k _ _ (.inl rfl) e,c⟩,r⟩
 | rng lo hi=>obtain⟨t,u,v,e⟩:=x;exact⟨t,u,v,k _ _ (.inl rfl) e⟩
 | frz ob u ih=>obtain⟨e,q⟩:=x;exact⟨k _ _ (.inl rfl) e,ih q⟩
 | tbl ps =>
  have e:h.get? a=some {cls:=.none,data:=.fields ps}:=x;show h'.get? a=some {cls:=.none,data:=.fields ps};exact k a _ (.inl rfl) e
 | met f y =>
  have e:h.get? a=some (DK (.ref f) (.ref y)):=x;show h'.get? a=some (DK (.ref f) (.ref y));exact k a _ (.inl rfl) e
 | ext φ=>obtain⟨p,⟨o,e⟩,st⟩:=x;exact⟨st _ _ p fun o q=>k _ _ (.inl rfl) q,⟨o,k _ _ (.inl rfl) e⟩,st⟩
theorem HOk.lt(x:HOk P w H h)(e:H a=some o):a<h.objs.size:=(x a o e).lt
theorem HOk.fresh(x:HOk P w H h)(e:h.objs.size<=a):H a=none:=by
 cases q:H a with
 | none=>rfl
 | some u=>exact absurd (A4 (x.lt q) e) (Bi _)
theorem HOk.kept(x:HOk P w H h)(k:∀b u,h.get? b=some u->h'.get? b=some u):HOk P w H h':=fun a o e =>
 (x a o e).stay (fun b u _ q=>k b u q) (fun _ q=>q) fun _ _ q=>q
theorem HOk.laid(x:HOk P w H h)(k:∀b u,h.get? b=some u->h'.get? b=some u)(hp:h.objs.size<=a)(new:ObjOk P w (upd H a o) h' a o):HOk P w (upd H a o) h':=fun b u e=>by
 have hn:=x.fresh hp;by_cases hb:b=a
 . subst hb;rw[aa] at e;cases e;exact new
 . rw[ag hb] at e;exact (x b u e).stay (fun c v _ q=>k c v q) (fun c q=>by rw[ag (ax q hn)];exact q) fun c xs q=>by rw[ag (ax q hn)];exact q
end
def Rd(H:Hp)(a:GV)(u:HO):Prop:=H a=some u\/∃o,H a=some (.frz o u)
theorem Rd.ok{P:Gx}{w:G9}{H:Hp}{h:HB}{a:GV}{u:HO}(r:Rd H a u)(x:HOk P w H h):ObjOk P w H h a u:=by
 rcases r with r|⟨o,r⟩
 . exact x a u r
 . obtain⟨_,q⟩:=x a _ r;exact q
def Mut:Option HO->Prop
 | some (.lst _)=>True
 | some (.dK _)=>True
 | some (.dT _)=>True
 | some (.set _ _)=>True
 | some (.ins _ _ _)=>True
 | some (.ext _)=>True
 | _=>False
section
variable{P:Gx}{w:G9}{H:Hp}{h h':HB}{x e:GV}{o':HO}
theorem HOk.write(ok:HOk P w H h)(mu:Mut (H x))(he:e=x\/H e=some (.own x))(k:∀b u,b≠e->h.get? b=some u->h'.get? b=some u)(heo:∃u,h'.get? e=some u)(new:ObjOk P w (upd H x o') h' x o'):HOk P w (upd H x o') h':=fun b u q=>by
 have nown:∀c y,H c=some (.own y)->c≠x:=fun c y r z=>by subst z;rw[r] at mu;exact mu
 have ntup:∀c xs,H c=some (.tup xs)->c≠x:=fun c xs r z=>by subst z;rw[r] at mu;exact mu
 by_cases hb:b=x
 . subst hb;rw[aa] at q;cases q;exact new
 . rw[ag hb] at q;by_cases hbe:b=e
   . have q':H b=some (.own x):=by
      rcases he with z|z
      . exact absurd (hbe.trans z) hb
      . rw[hbe];exact z
     rw[q] at q';cases q';obtain⟨v,hv⟩:=heo;exact⟨v,by rw[hbe];exact hv⟩
   . refine (ok b u q).stay (fun c v hc r=>k c v ?_ r) (fun c r=>by rw[ag (nown c b r)];exact r) fun c xs r=>by rw[ag (ntup c xs r)];exact r
     rcases hc with rfl|hc
     . exact hbe
     . rintro rfl;rcases he with z|z
       . exact nown c b hc z
       . rw[hc] at z;cases z;exact hb rfl
end
structure Un(fs ex:List GV)(H H':Hp)(h h':HB):Prop where
 keep:∀b o,h.get? b=some o->H b=none->b∉fs->b∉ex->h'.get? b=some o
 slot:∀b o,h.get? b=some o->H b=none->b∈fs->b∉ex->∃sl,h'.get? b=some {o with slots:=sl}
 free:∀b o,h.get? b=some o->H b=none->b∉ex->H' b=none
 there:∀b o,h.get? b=some o->b∉ex->∃o',h'.get? b=some o'
 tups:∀b xs,H b=some (.tup xs)->H' b=some (.tup xs)
 frzs:∀b o u,H b=some (.frz o u)->H' b=some (.frz o u)
 tbls:∀b ps,H b=some (.tbl ps)->∃more,H' b=some (.tbl (ps++more))
section
variable{fs fs' ex ex':List GV}{H H1 H2:Hp}{h h1 h2 h':HB}{a x e:GV}{o:HO}
theorem Un.any(u:Un fs ex H H1 h h1){b:GV}{ob:Obj}(q:h.get? b=some ob)(n:H b=none)(hx:b∉ex):∃sl,h1.get? b=some {ob with slots:=sl}:=by
 by_cases hb:b∈fs
 . exact u.slot b ob q n hb hx
 . exact⟨ob.slots,u.keep b ob q n hb hx⟩
theorem Un.kept(k:∀b u,h.get? b=some u->h'.get? b=some u):Un fs ex H H h h' :=
 ⟨fun b ob q _ _ _=>k b ob q,fun b ob q _ _ _=>⟨ob.slots,k b ob q⟩,fun _ _ _ n _=>n,fun b ob q _=>⟨ob,k b ob q⟩,fun _ _ q=>q,fun _ _ _ q=>q,fun _ ps q=>⟨#[],by rw[q];simp⟩⟩
theorem Un.refl:Un fs ex H H h h:=Un.kept fun _ _ q=>q
theorem Un.laid(k:∀b u,h.get? b=some u->h'.get? b=some u)(hp:h.objs.size<=a)(hn:H a=none):Un fs ex H (upd H a o) h h' where
 keep:=fun b u q _ _ _=>k b u q
 slot:=fun b u q _ _ _=>⟨u.slots,k b u q⟩
 free:=fun b u q n _=>by rw[ag (Aw (A4 (Ao q) hp))];exact n
 there:=fun b u q _=>⟨u,k b u q⟩
 tups:=fun b xs q=>by rw[ag (ax q hn)];exact q
 frzs:=fun b u xs q=>by rw[ag (ax q hn)];exact q
 tbls:=fun b ps q=>⟨#[],by rw[ag (ax q hn),q];simp⟩
theorem Un.write(mu:Mut (H x))(he:e=x\/H e=some (.own x))(k:∀b u,b≠e->h.get? b=some u->h'.get? b=some u)(heo:∃u,h'.get? e=some u):Un fs ex H (upd H x o) h h':=by
 have hx:∀b,H b=none->b≠x:=fun b n z=>by subst z;rw[n] at mu;exact mu
 have hb:∀b,H b=none->b≠e:=fun b n z=>by
  subst z;rcases he with r|r
  . exact hx b n r
  . rw[n] at r;cases r
 have hm:∀b u,H b=some u->¬ Mut (some u)->b≠x:=fun b u q nm z=>by subst z;rw[q] at mu;exact nm mu
 refine⟨fun b u q n _ _=>k b u (hb b n) q,fun b u q n _ _=>⟨u.slots,k b u (hb b n) q⟩,fun b u q n _=>by rw[ag (hx b n)];exact n,fun b u q _=>?_,
  fun b xs q=>by rw[ag (hm b _ q fun z=>z)];exact q,fun b u xs q=>by rw[ag (hm b _ q fun z=>z)];exact q,fun b ps q=>⟨#[],by rw[ag (hm b _ q fun z=>z),q];simp⟩⟩
 by_cases hbe:b=e
 . subst hbe;exact heo
 . exact⟨u,k b u hbe q⟩
end
def trk(h:HB)(H:Hp):List GV:=(AV h.objs.size).filter fun a=>(H a).isSome
def hidT(h:HB)(H:Hp):HB:=PySem.W.hideAll h (trk h H)
theorem a01(h:HB)(H:Hp):(hidT h H).objs.size=h.objs.size:=PySem.W.hideAll_size _ _
theorem a1t{h:HB}{H:Hp}{b:GV}{o:Obj}(e:h.get? b=some o)(n:H b=none):(hidT h H).get? b=some o :=
 PySem.W.hideAll_get _ e fun hm=>by
  have q:(H b).isSome=true:=(AW.mp hm).2;rw[n] at q;simp at q
theorem a56{h:HB}{H:Hp}{b:GV}{o:Obj}(e:(hidT h H).get? b=some o):h.get? b=some o/\H b=none:=by
 have e':h.get? b=some o:=PySem.W.of_hideAll (trk h H) e;refine⟨e',?_⟩;cases q:H b with
 | none=>rfl
 | some x =>
  have hm:b∈trk h H:=AW.mpr ⟨Bc.mpr (Ao e'),by simp[q]⟩;have z:(hidT h H).get? b=none:=PySem.W.hideAll_none (trk h H) hm;rw[z] at e;cases e
def a4u(g h:HB)(L:GV):List (GV×Obj):=(AV h.objs.size).filterMap fun a=>if a=L\/(g.get? a).isSome=true then none else (h.get? a).map fun o=>(a,o)
def rest(g h:HB)(L d:GV):List (GV×Obj):=(a4u g h L).filter fun p=>decide (p.1≠d)
structure Mod(K:Aa)(mg:Str->Option GQ)(base:HB):Prop where
 kin:K.In base
 glob:base.Ns GZ mg
 blt:∃mb,base.Ns builtinsNs mb/\∀x:Str,x≠"__name__" -> mb x=bootBuiltins x
 nolimit:base.NoLimit
structure Cx where
 prog:Gx
 w:G9
 K:Aa
 mg:Str->Option GQ
 base:HB
 A:HC
 N:List Str
 s₀:GW
 H₀:Hp
 env:Env
 outer:List Env
 stack:List Env
 ex:List GV
 fn:Str->Bool
 calm:Bool
 pn:List (GV×Obj)
 xe:GQ->GW->Prop
def frs(l:List Env):List GV:=l.filterMap (·.frame)
abbrev Cx.fs(X:Cx):List GV:=frs X.outer
def Vis(sc:Scope)(x:Str):Prop:=sc.names.lookup x=some .local\/sc.names.lookup x=some .cell\/sc.names.lookup x=some .free
def Loc(sc:Scope)(x:Str):Prop:=sc.names.lookup x=some .local\/sc.names.lookup x=some .cell
def Look(env:Env)(h:HB)(m:Str->Option GQ)(x:Str)(u:GQ):Prop :=
 (env.kindOf x=some .local/\m x=some u)\/((env.kindOf x=some .cell\/env.kindOf x=some .free)/\∃c,env.cells.lookup x=some c/\h.IsCell c (some u))
structure Cx.Ok(X:Cx):Prop where
 mod:Mod X.K X.mg X.base
 kind:X.env.scope.kind=.function
 glob:X.env.globals=GZ
 blt:X.env.builtins=builtinsNs
 above:X.s₀.heap.objs.size<=X.env.locals
 inj:∀x y c,X.env.cells.lookup x=some c->X.env.cells.lookup y=some c->x=y
 has:∀x,(X.env.kindOf x=some .cell\/X.env.kindOf x=some .free)->∃c,X.env.cells.lookup x=some c
 cab:∀x c,X.fn x=true->X.env.cells.lookup x=some c->X.s₀.heap.objs.size<=c
 hd:X.calm=true->X.A.handled=none
 frames:X.A.frames=some X.stack
 stk:X.stack=X.outer\/(X.stack=X.env::X.outer/\X.env.frame=some X.env.locals)
 exf:∀b∈X.ex,b≠X.env.locals/\∀x c,X.env.cells.lookup x=some c->c≠b
 bs:∀b o,X.base.get? b=some o->X.s₀.heap.get? b=some o/\X.H₀ b=none
 bsz:X.base.objs.size<=X.s₀.heap.objs.size
 noex:∀b o,X.base.get? b=some o->b∉X.ex
 exfs:∀b∈X.ex,b∉X.fs
 funs:X.s₀.heap.FunFrames X.base X.outer
 frf:∀b∈X.fs,X.H₀ b=none
structure Inv(X:Cx)(pins:List (GV×Obj))(σ:List (Option V))(H:Hp)(s:GW):Prop where
 ok:X.Ok
 os:s.os=X.s₀.os
 bare:AllBare s.gens
 base:Un X.fs X.ex X.H₀ H X.s₀.heap s.heap
 loc:∃m,s.heap.Ns X.env.locals m/\∀(i:Nat) (x:Str) (v:V),X.N[i]?=some x->σ[i]?=some (some v)->Vis X.env.scope x->∃u,RelV v u/\Look X.env s.heap m x u
 cell:∀x c,X.env.cells.lookup x=some c->∃v,s.heap.IsCell c v
 free:H X.env.locals=none
 freeC:∀x c,X.env.cells.lookup x=some c->H c=none
 pin:∀p∈X.pn++pins,s.heap.get? p.1=some p.2/\H p.1=none/\p.1≠X.env.locals/\p.1∉X.fs/\∀v,p.2.data≠.cell v
 hok:HOk X.prog X.w H s.heap
 len:σ.length=X.N.length
section
variable{X:Cx}{pins:List (GV×Obj)}{σ:List (Option V)}{H H':Hp}{s:GW}{h':HB}
theorem Cx.Ok.nofr(ok:X.Ok){b:GV}{o:Obj}(e:X.base.get? b=some o):b∉X.fs:=fun hb=>by
 have:=(ok.funs.mem hb).1;rw[e] at this;cases this
theorem Inv.bs(I:Inv X pins σ H s):∀b o,X.base.get? b=some o->s.heap.get? b=some o/\H b=none:=fun b o e =>
 ⟨I.base.keep b o (I.ok.bs b o e).1 (I.ok.bs b o e).2 (I.ok.nofr e) (I.ok.noex b o e),I.base.free b o (I.ok.bs b o e).1 (I.ok.bs b o e).2 (I.ok.noex b o e)⟩
theorem Inv.bk(I:Inv X pins σ H s):∀b o,X.base.get? b=some o->s.heap.get? b=some o:=fun b o e=>(I.bs b o e).1
theorem Inv.mod(I:Inv X pins σ H s):Mod X.K X.mg X.base:=I.ok.mod
theorem Inv.kIn(I:Inv X pins σ H s):X.K.In s.heap:=I.ok.mod.kin.keeps I.bk
theorem Inv.lt(I:Inv X pins σ H s):X.env.locals<s.heap.objs.size:=let ⟨_,hn,_⟩:=I.loc;hn.lt
theorem Inv.sz(I:Inv X pins σ H s):X.s₀.heap.objs.size<=s.heap.objs.size:=AB I.ok.above (BH I.lt)
theorem Inv.nofs(I:Inv X pins σ H s){a:GV}(h:s.heap.objs.size<=a):a∉X.fs:=fun hb=>by
 obtain⟨_,o,ho,_⟩:=I.ok.funs.mem hb;exact absurd (A4 (Ao ho) (AB I.sz h)) (Bi _)
theorem Inv.cne(I:Inv X pins σ H s):∀x c,X.env.cells.lookup x=some c->c≠X.env.locals:=fun x c e z=>by
 obtain⟨v,o,ho,hd⟩:=I.cell x c e;obtain⟨m,⟨o',es,ep,ho',hd',_⟩,_⟩:=I.loc;rw[z,ho'] at ho;cases ho;rw[hd'] at hd;cases hd
theorem Inv.funs(I:Inv X pins σ H s):s.heap.FunFrames X.base X.outer:=by
 have all:∀(l:List Env),(∀b∈frs l,b∈X.fs)->X.s₀.heap.FunFrames X.base l->s.heap.FunFrames X.base l:=by
  intro l;induction l with
  | nil=>intro _ _;trivial
  | cons env r ih =>
   intro hs hl;obtain⟨hk,⟨L,o,hf,hn,ho,hd⟩,hr⟩:=hl;have hL:L∈X.fs:=hs L (by unfold frs;rw[BB,hf];exact AK);obtain⟨sl,e⟩:=I.base.slot L o ho (I.ok.frf L hL) hL fun z=>I.ok.exfs L z hL;exact⟨hk,⟨L,_,hf,hn,e,hd⟩,ih (fun b hb=>hs b (by unfold frs;rw[BB,hf];exact Ay _ hb)) hr⟩
 exact all X.outer (fun _ hb=>hb) I.ok.funs
theorem Inv.stack(I:Inv X pins σ H s):s.heap.FunFrames X.base X.stack:=by
 rcases I.ok.stk with e|⟨e,hf⟩
 . rw[e];exact I.funs
 . rw[e];obtain⟨m,hn,_⟩:=I.loc;refine .cons (by rw[I.ok.kind];decide) hf hn ?_ I.funs;exact Da (AB I.ok.bsz I.ok.above)
theorem Inv.stkSub(I:Inv X pins σ H s):∀b∈frs X.stack,b∈X.env.locals::X.fs:=fun b hb=>by
 rcases I.ok.stk with e|⟨e,hf⟩
 . rw[e] at hb;exact Ay _ hb
 . rw[e] at hb;unfold frs at hb;rw[BB,hf] at hb;exact hb
theorem Inv.stkFree(I:Inv X pins σ H s):∀b∈frs X.stack,H b=none:=fun b hb=>by
 rcases Ar.mp (I.stkSub b hb) with e|hb
 . rw[e];exact I.free
 . obtain⟨_,o,ho,_⟩:=I.ok.funs.mem hb;exact I.base.free b o ho (I.ok.frf b hb) fun z=>I.ok.exfs b z hb
theorem Inv.step{g':Array GenState}{t':Nat}{d':Drawn}{ch:List GV}(I:Inv X pins σ H s)(hch:∀b∈ch,(b∈X.ex\/X.s₀.heap.objs.size<=b)/\b≠X.env.locals/\(∀x c,X.env.cells.lookup x=some c->c≠b)/\∀p∈X.pn++pins,p.1≠b)(keep:∀b o,b≠X.env.locals->b∉X.fs->b∉ch->s.heap.get? b=some o->H b=none->h'.get? b=some o)(slot:∀b o,b≠X.env.locals->b∈X.fs->b∉ch->s.heap.get? b=some o->H b=none->∃sl,h'.get? b=some {o with slots:=sl})(free:∀b o,b∉ch->s.heap.get? b=some o->H b=none->H' b=none)(there:∀b o,b∉ch->s.heap.get? b=some o->∃o',h'.get? b=some o')(tups:∀b xs,H b=some (.tup xs)->H' b=some (.tup xs))(frzs:∀b o u,H b=some (.frz o u)->H' b=some (.frz o u))(tbls:∀b ps,H b=some (.tbl ps)->∃more,H' b=some (.tbl (ps++more)))(ns:∀m,s.heap.Ns X.env.locals m->h'.Ns X.env.locals m)(hok:HOk X.prog X.w H' h')(hg:AllBare g'):
 Inv X pins σ H' {s with heap:=h',gens:=g',drawn:=d',toks:=t'}:=by
 have neL:∀b o,X.s₀.heap.get? b=some o->b≠X.env.locals:=fun b o e=>Aw (A4 (Ao e) I.ok.above);have neC:∀b o,X.s₀.heap.get? b=some o->b∉X.ex->b∉ch:=fun b o e hx hb=>by
  rcases (hch b hb).1 with z|z
  . exact hx z
  . exact absurd (A4 (Ao e) z) (Bi _)
 have cellK:∀x c,X.env.cells.lookup x=some c->∀v,s.heap.IsCell c v->h'.IsCell c v:=fun x c e v ⟨o,ho,hd⟩=>by
  have nch:c∉ch:=fun z=>(hch c z).2.2.1 x c e rfl;by_cases hc:c∈X.fs
  . obtain⟨sl,q⟩:=slot c o (I.cne x c e) hc nch ho (I.freeC x c e);exact⟨_,q,hd⟩
  . exact⟨o,keep c o (I.cne x c e) hc nch ho (I.freeC x c e),hd⟩
 refine⟨I.ok,I.os,hg,⟨fun b o e n hb hx=>?_,fun b o e n hb hx=>?_,fun b o e n hx=>?_,fun b o e hx=>?_,fun b xs e=>tups b xs (I.base.tups b xs e),fun b o xs e=>frzs b o xs (I.base.frzs b o xs e),fun b ps e=>?_⟩,?_,fun x c e=>?_,?_,fun x c e=>?_,fun p hp=>?_,hok,I.len⟩
 . exact keep b o (neL b o e) hb (neC b o e hx) (I.base.keep b o e n hb hx) (I.base.free b o e n hx)
 . obtain⟨sl,e1⟩:=I.base.slot b o e n hb hx;obtain⟨sl',e2⟩:=slot b _ (neL b o e) hb (neC b o e hx) e1 (I.base.free b o e n hx);exact⟨sl',e2⟩
 . obtain⟨o',e1⟩:=I.base.there b o e hx;exact free b o' (neC b o e hx) e1 (I.base.free b o e n hx)
 . obtain⟨o',e1⟩:=I.base.there b o e hx;exact there b o' (neC b o e hx) e1
 . obtain⟨m1,e1⟩:=I.base.tbls b ps e;obtain⟨m2,e2⟩:=tbls b _ e1;exact⟨m1++m2,by rw[e2,Array.append_assoc]⟩
 . obtain⟨m,hn,hl⟩:=I.loc;refine⟨m,ns m hn,fun i x v e1 e2 e3=>?_⟩;obtain⟨u,r,l⟩:=hl i x v e1 e2 e3;refine⟨u,r,?_⟩;rcases l with l|⟨k,c,e,z⟩
   . exact .inl l
   . exact .inr ⟨k,c,e,cellK x c e _ z⟩
 . obtain⟨v,z⟩:=I.cell x c e;exact⟨v,cellK x c e v z⟩
 . obtain⟨m,⟨o,_,_,ho,_⟩,_⟩:=I.loc;exact free _ o (fun z=>(hch _ z).2.1 rfl) ho I.free
 . obtain⟨v,o,ho,hd⟩:=I.cell x c e;exact free c o (fun z=>(hch c z).2.2.1 x c e rfl) ho (I.freeC x c e)
 . obtain⟨e,n,ne,nf,d⟩:=I.pin p hp;have nch:p.1∉ch:=fun z=>(hch p.1 z).2.2.2 p hp rfl;exact⟨keep p.1 p.2 ne nf nch e n,free p.1 p.2 nch e n,ne,nf,d⟩
theorem Inv.un{t':Nat}(I:Inv X pins σ H s)(u:Un X.fs [] H H' s.heap h')(hok:HOk X.prog X.w H' h'):Inv X pins σ H' {s with heap:=h',toks:=t'}:=by
 obtain⟨m,⟨o,es,ep,ho,r⟩,_⟩:=id I.loc;obtain⟨sl,hL⟩:=u.any ho I.free (by simp);exact I.step (g':=s.gens) (d':=s.drawn) (ch:=[]) (fun _ z=>nomatch z) (fun b o _ hb _ e n=>u.keep b o e n hb (by simp)) (fun b o _ hb _ e n=>u.slot b o e n hb (by simp)) (fun b o _ e n=>u.free b o e n (by simp)) (fun b o _ e=>u.there b o e (by simp)) u.tups u.frzs u.tbls (fun m' hm=>by
  obtain⟨o',es',ep',ho',r'⟩:=hm;rw[ho] at ho';cases ho';exact⟨_,es',ep',hL,r'⟩) hok I.bare
theorem Inv.call{g':Array GenState}{t':Nat}{d':Drawn}{ch:List GV}(I:Inv X pins σ H s)(u:Un (frs X.stack) ch H H' s.heap h')(hok:HOk X.prog X.w H' h')(hg:AllBare g')(hch:∀b∈ch,(b∈X.ex\/X.s₀.heap.objs.size<=b)/\b≠X.env.locals/\(∀x c,X.env.cells.lookup x=some c->c≠b)/\∀p∈X.pn++pins,p.1≠b):
 Inv X pins σ H' {s with heap:=h',gens:=g',drawn:=d',toks:=t'}:=by
 obtain⟨m,⟨o,es,ep,ho,r⟩,_⟩:=id I.loc;obtain⟨sl,hL⟩:=u.any ho I.free fun z=>(hch _ z).2.1 rfl;exact I.step (ch:=ch) hch (fun b o hL hb hc e n=>u.keep b o e n (fun z=>(Ar.mp (I.stkSub b z)).elim hL hb) hc) (fun b o _ _ hc e n=>u.any e n hc) (fun b o hc e n=>u.free b o e n hc) (fun b o hc e=>u.there b o e hc) u.tups u.frzs u.tbls (fun m' hm=>by
  obtain⟨o',es',ep',ho',r'⟩:=hm;rw[ho] at ho';cases ho';exact⟨_,es',ep',hL,r'⟩) hok hg
theorem Inv.turned{t':Nat}{it:GV}(I:Inv X pins σ H s)(k:∀b o,b≠it->s.heap.get? b=some o->h'.get? b=some o)(hn:H it=none)(hL:it≠X.env.locals)(h1:it∈X.ex\/X.s₀.heap.objs.size<=it)(h2:∀x c,X.env.cells.lookup x=some c->c≠it)(h3:∀p∈X.pn++pins,p.1≠it):Inv X pins σ H {s with heap:=h',toks:=t'}:=by
 have nit:∀b u,H b=some u->b≠it:=fun b u e z=>by rw[z,hn] at e;cases e
 refine I.step (g':=s.gens) (d':=s.drawn) (ch:=[it]) (fun b hb=>?_) (fun b o _ _ hc e _=>k b o (fun z=>hc (by simp[z])) e) (fun b o _ _ hc e _=>⟨o.slots,k b o (fun z=>hc (by simp[z])) e⟩) (fun _ _ _ _ n=>n)
  (fun b o hc e=>⟨o,k b o (fun z=>hc (by simp[z])) e⟩) (fun _ _ e=>e) (fun _ _ _ e=>e) (fun b ps e=>⟨#[],by rw[e];simp⟩) (fun m hm=>?_) (fun b u e=>?_) I.bare
 . have e:b=it:=by simpa using hb
   subst e;exact⟨h1,hL,h2,h3⟩
 . obtain⟨o,es,ep,ho,r⟩:=hm;exact⟨o,es,ep,k _ o (A9 hL) ho,r⟩
 . refine (I.hok b u e).stay (fun c v hc q=>k c v ?_ q) (fun _ q=>q) fun _ _ q=>q;rcases hc with z|z
   . rw[z];exact nit b u e
   . exact nit c _ z
theorem Inv.tok(I:Inv X pins σ H s)(t:Nat):Inv X pins σ H {s with toks:=t}:=I.un (h':=s.heap) (t':=t) Un.refl I.hok
theorem Inv.kept{t':Nat}(I:Inv X pins σ H s)(k:∀b u,s.heap.get? b=some u->h'.get? b=some u):Inv X pins σ H {s with heap:=h',toks:=t'}:=I.un (Un.kept k) (I.hok.kept k)
theorem Inv.laid{a:GV}{o:HO}{t':Nat}(I:Inv X pins σ H s)(k:∀b u,s.heap.get? b=some u->h'.get? b=some u)(hp:s.heap.objs.size<=a)(new:ObjOk X.prog X.w (upd H a o) h' a o):
 Inv X pins σ (upd H a o) {s with heap:=h',toks:=t'}:=I.un (Un.laid k hp (I.hok.fresh hp)) (I.hok.laid k hp new)
theorem Inv.write{x e:GV}{o:HO}{t':Nat}(I:Inv X pins σ H s)(mu:Mut (H x))(he:e=x\/H e=some (.own x))(k:∀b u,b≠e->s.heap.get? b=some u->h'.get? b=some u)(heo:∃u,h'.get? e=some u)(new:ObjOk X.prog X.w (upd H x o) h' x o):Inv X pins σ (upd H x o) {s with heap:=h',toks:=t'}:=I.un (Un.write mu he k heo) (I.hok.write mu he k heo new)
theorem Inv.pins_of{pins':List (GV×Obj)}(I:Inv X pins σ H s)(h:∀p∈pins',s.heap.get? p.1=some p.2/\H p.1=none/\p.1≠X.env.locals/\p.1∉X.fs/\∀v,p.2.data≠.cell v):Inv X pins' σ H s :=
 ⟨I.ok,I.os,I.bare,I.base,I.loc,I.cell,I.free,I.freeC,fun p hp=>(Ad.mp hp).elim (fun z=>I.pin p (EM _ z)) (h p),I.hok,I.len⟩
theorem p6{N:List Str}(hN:N.Nodup){i j:Nat}{x:Str}(a:N[i]?=some x)(b:N[j]?=some x):i=j:=by
 obtain⟨h1,e1⟩:=Am.mp a;obtain⟨h2,e2⟩:=Am.mp b;exact (FI hN).mp (e1.trans e2.symm)
theorem my{M:Model}{A:HC}{E:GQ->GW->Prop}{i:Nat}{x:Str}{v:V}{u:GQ}{Q:Unit->GW->Prop}(I:Inv X pins σ H s)(hN:X.N.Nodup)(hi:X.N[i]?=some x)(hx:Loc X.env.scope x)(r:RelV v u)(h:∀s',Inv X pins (σ.set i (some v)) H s'->(∃a,Bq a s.heap s'.heap/\(a=X.env.locals\/X.env.cells.lookup x=some a))->Q () s')(hf:X.fn x=true\/X.env.scope.names.lookup x=some .local:=by first|exact .inl rfl|exact .inr rfl|assumption):GY M A (storeName X.env x u) Q E s:=by
 obtain⟨m,hn,hl⟩:=id I.loc;have hcls:(X.env.scope.kind==.class || (X.env.scope.kind==.module && X.env.locals != X.env.globals))=false:=by rw[I.ok.kind];rfl
 have hiσ:i<σ.length:=by rw[I.len];exact (Am.mp hi).1
 have cne:=I.cne;have tracked:∀{a:GV} {h':HB},(∃o,s.heap.get? a=some o/\H a=none)->Bq a s.heap h'->HOk X.prog X.w H h':=fun {a h'} ha hs b ob e=>by
  obtain⟨_,_,hfree⟩:=ha;refine (I.hok b ob e).stay (fun c w' hc q=>(hs.2 c ?_).trans q) (fun _ q=>q) fun _ _ q=>q;rintro rfl;rcases hc with rfl|hc
  . rw[hfree] at e;cases e
  . rw[hfree] at hc;cases hc
 rcases hx with hk|hk
 . refine wpAny_storeName_local hk hn (fun h' hn' hs=>?_) hcls;obtain⟨oL,_,_,hoL,_⟩:=id hn;refine h _ ⟨I.ok,I.os,I.bare,⟨fun b o e n hb hx=>?_,fun b o e n hb hx=>?_,I.base.free,fun b o e hx=>?_,I.base.tups,I.base.frzs,I.base.tbls⟩,⟨_,hn',fun j y v' e1 e2 e3=>?_⟩,fun y c e=>?_,I.free,I.freeC,fun p hp=>?_,tracked ⟨oL,hoL,I.free⟩ hs,by simpa using I.len⟩ ⟨_,hs,.inl rfl⟩
   . exact (hs.2 b (Aw (A4 (Ao e) I.ok.above))).trans (I.base.keep b o e n hb hx)
   . obtain⟨sl,e1⟩:=I.base.slot b o e n hb hx;exact⟨sl,(hs.2 b (Aw (A4 (Ao e) I.ok.above))).trans e1⟩
   . obtain⟨o',e1⟩:=I.base.there b o e hx;exact⟨o',(hs.2 b (Aw (A4 (Ao e) I.ok.above))).trans e1⟩
   . by_cases hj:j=i
     . subst hj;rw[hi] at e1;cases e1;rw[E1 hiσ] at e2;cases e2;exact⟨u,r,.inl ⟨hk,by simp⟩⟩
     . rw[EN (A9 hj)] at e2;obtain⟨u',r',q⟩:=hl j y v' e1 e2 e3;refine⟨u',r',?_⟩;rcases q with⟨k,e⟩|⟨k,c,e,z⟩
       . refine .inl ⟨k,?_⟩;have:y≠x:=fun e=>hj (p6 hN e1 (e ▸ hi));simp[this,e]
       . exact .inr ⟨k,c,e,z.sameBut hs (cne y c e)⟩
   . obtain⟨w',z⟩:=I.cell y c e;exact⟨w',z.sameBut hs (cne y c e)⟩
   . obtain⟨e,n,ne,nf,d⟩:=I.pin p hp;exact⟨(hs.2 p.1 ne).trans e,n,ne,nf,d⟩
 . have hfn:X.fn x=true:=by
    rcases hf with z|z
    . exact z
    . rw[z] at hk;cases hk
   obtain⟨c,hc⟩:=I.ok.has x (.inl hk);obtain⟨w',z⟩:=I.cell x c hc;refine wpAny_storeName_cell I.ok.kind hk hc z (fun h' hc' hs=>?_);obtain⟨oc,hoc,hocd⟩:=id z;refine h {s with heap:=h'} ⟨I.ok,I.os,I.bare,⟨fun b o e n hb hx=>?_,fun b o e n hb hx=>?_,I.base.free,fun b o e hx=>?_,I.base.tups,I.base.frzs,I.base.tbls⟩,⟨m,hn.sameBut hs (A9 (cne x c hc)),fun j y v' e1 e2 e3=>?_⟩,fun y c' e=>?_,I.free,I.freeC,fun p hp=>?_,tracked ⟨oc,hoc,I.freeC x c hc⟩ hs,by simpa using I.len⟩ ⟨c,hs,.inr hc⟩
   . exact (hs.2 b (Aw (A4 (Ao e) (I.ok.cab x c hfn hc)))).trans (I.base.keep b o e n hb hx)
   . obtain⟨sl,e1⟩:=I.base.slot b o e n hb hx;exact⟨sl,(hs.2 b (Aw (A4 (Ao e) (I.ok.cab x c hfn hc)))).trans e1⟩
   . obtain⟨o',e1⟩:=I.base.there b o e hx;exact⟨o',(hs.2 b (Aw (A4 (Ao e) (I.ok.cab x c hfn hc)))).trans e1⟩
   . by_cases hj:j=i
     . subst hj;rw[hi] at e1;cases e1;rw[E1 hiσ] at e2;cases e2;exact⟨u,r,.inr ⟨.inl hk,c,hc,hc'⟩⟩
     . rw[EN (A9 hj)] at e2;obtain⟨u',r',q⟩:=hl j y v' e1 e2 e3;refine⟨u',r',?_⟩;rcases q with q|⟨k,c',e,z'⟩
       . exact .inl q
       . refine .inr ⟨k,c',e,z'.sameBut hs ?_⟩;rintro rfl;exact hj (p6 hN e1 (I.ok.inj _ _ _ e hc ▸ hi))
   . by_cases hcc:c'=c
     . subst hcc;exact⟨_,hc'⟩
     . obtain⟨w2,z2⟩:=I.cell y c' e;exact⟨w2,z2.sameBut hs hcc⟩
   . obtain⟨e,n,ne,nf,d⟩:=I.pin p hp;refine⟨(hs.2 p.1 ?_).trans e,n,ne,nf,d⟩;intro q;rw[q,hoc] at e;have q':oc=p.2:=Ap e;exact d w' (by rw[<- q'];exact hocd)
theorem jx{M:Model}{A:HC}{E:GQ->GW->Prop}{i:Nat}{x:Str}{v:V}{u:GQ}{Q:Unit->GW->Prop}(I:Inv X pins σ H s)(hN:X.N.Nodup)(hi:X.N[i]?=some x)(hx:Loc X.env.scope x)(r:RelV v u)(h:∀s',Inv X pins (σ.set i (some v)) H s'->Q () s')(hf:X.fn x=true\/X.env.scope.names.lookup x=some .local:=by first|exact .inl rfl|exact .inr rfl|assumption):GY M A (storeName X.env x u) Q E s :=
 my I hN hi hx r (fun s' I' _=>h s' I') hf
theorem Inv.call'{s':GW}{ch:List GV}(I:Inv X pins σ H s)(ho:s'.os=s.os)(u:Un (frs X.stack) ch H H' s.heap s'.heap)(hok:HOk X.prog X.w H' s'.heap)(hg:AllBare s'.gens)(hch:∀b∈ch,(b∈X.ex\/X.s₀.heap.objs.size<=b)/\b≠X.env.locals/\(∀x c,X.env.cells.lookup x=some c->c≠b)/\∀p∈X.pn++pins,p.1≠b):Inv X pins σ H' s':=by
 obtain⟨h',g',d',t',o'⟩:=s';have e:o'=s.os:=ho;subst e;exact I.call (g':=g') (t':=t') (d':=d') u hok hg hch
end
abbrev XK:=GQ->Option GV->Hp->Prop
abbrev St:=List (Option V)
abbrev VK:=V->Hp->Prop
abbrev TE:=St->Hp->VK->Prop
abbrev TT:=St->Hp->(Bool->Hp->Prop)->Prop
abbrev TA:=St->Hp->(List V->Hp->Prop)->Prop
structure Ends where
 nx:St->Hp->Prop
 rt:VK
 bk:St->Hp->Prop:=fun _ _=>False
 ct:St->Hp->Prop:=fun _ _=>False
abbrev TS:=Ends->St->Hp->Prop
def EP(X:Cx)(pins:List (GV×Obj))(σ:St)(Q:VK)(u:GQ)(s':GW):Prop:=∃v H',Inv X pins σ H' s'/\RelV v u/\Q v H'
def TP(X:Cx)(pins:List (GV×Obj))(σ:St)(Q:Bool->Hp->Prop)(b:Bool)(s':GW):Prop:=∃H',Inv X pins σ H' s'/\Q b H'
def AP(X:Cx)(pins:List (GV×Obj))(σ:St)(Q:List V->Hp->Prop)(us:List GQ)(s':GW):Prop:=∃vs H',Inv X pins σ H' s'/\Vals vs us/\Q vs H'
def SP(X:Cx)(pins:List (GV×Obj))(D:Ends)(f:Flow)(s':GW):Prop :=
 match f with
 | .next=>∃σ' H',Inv X pins σ' H' s'/\D.nx σ' H'
 | .brk=>∃σ' H',Inv X pins σ' H' s'/\D.bk σ' H'
 | .cont=>∃σ' H',Inv X pins σ' H' s'/\D.ct σ' H'
 | .ret u=>∃v σ' H',Inv X pins σ' H' s'/\RelV v u/\D.rt v H'
def PE(X:Cx)(e:Expr)(t:TE):Prop :=
 ∀(pins:List (GV×Obj)) (s:GW) (σ:St) (H:Hp) (Q:VK),Inv X pins σ H s->t σ H Q->GY (Gy X.prog X.w) X.A (eval e X.env) (EP X pins σ Q) X.xe s
def PT(X:Cx)(e:Expr)(t:TT):Prop :=
 ∀(pins:List (GV×Obj)) (s:GW) (σ:St) (H:Hp) (Q:Bool->Hp->Prop),Inv X pins σ H s->t σ H Q->GY (Gy X.prog X.w) X.A (isTrue e X.env (eval e X.env)) (TP X pins σ Q) X.xe s
def PW(X:Cx)(e:Expr)(t:TT):Prop :=
 ∀(whole:Sem GQ) (pins:List (GV×Obj)) (s:GW) (σ:St) (H:Hp) (Q:Bool->Hp->Prop),Inv X pins σ H s->t σ H Q->GY (Gy X.prog X.w) X.A (isTrue e X.env whole) (TP X pins σ Q) X.xe s
theorem PW.pt{X:Cx}{e:Expr}{t:TT}(h:PW X e t):PT X e t:=h _
def PA(X:Cx)(es:List Expr)(t:TA):Prop :=
 ∀(pos:Pos) (pins:List (GV×Obj)) (s:GW) (σ:St) (H:Hp) (Q:List V->Hp->Prop),Inv X pins σ H s->t σ H Q->GY (Gy X.prog X.w) X.A (spliced (HM pos (Gz es X.env))) (AP X pins σ Q) X.xe s
def PS(X:Cx)(st:HF)(t:TS):Prop :=
 ∀(pins:List (GV×Obj)) (s:GW) (σ:St) (H:Hp) (D:Ends),Inv X pins σ H s->t D σ H->GY (Gy X.prog X.w) X.A (exec st X.env) (SP X pins D) X.xe s
def PSs(X:Cx)(st:List HF)(t:TS):Prop :=
 ∀(pins:List (GV×Obj)) (s:GW) (σ:St) (H:Hp) (D:Ends),Inv X pins σ H s->t D σ H->GY (Gy X.prog X.w) X.A (execs st X.env) (SP X pins D) X.xe s
theorem thn{α:Type}{t:Sem α}{Q Q':α->GW->Prop}{M:Model}{A:HC}{E:GQ->GW->Prop}{s:GW}(h:GY M A t Q E s)(hQ:∀a s,Q a s->Q' a s):GY M A t Q' E s:=Bh h hQ fun _ _ x=>x
section
variable{X:Cx}
def tVar(i:Nat):TE:=fun σ H Q=>∃v,σ[i]?=some (some v)/\Q v H
def tC(v:V):TE:=fun _ H Q=>Q v H
theorem a6c{i:Nat}{x:Str}{pos:Pos}(hN:X.N[i]?=some x)(hv:Vis X.env.scope x)(hd:(x==("__debug__":Str))=false:=by decide)(hcd:(x==("__classdict__":Str))=false:=by decide):PE X (.Name x pos) (tVar i):=by
 intro pins s σ H Q I h;obtain⟨v,e,h⟩:=h;obtain⟨m,hn,hl⟩:=I.loc;obtain⟨u,r,l⟩:=hl i x v hN e hv;have fin:EP X pins σ Q u s:=⟨v,H,I,r,h⟩
 rcases l with⟨hk,hm⟩|⟨hk,c,hc,hcell⟩
 . exact FR (wpAny_loadName_local I.ok.kind hk hn hm fin) hd
 . rcases hk with hk|hk
   . exact FR (wpAny_loadName_cell I.ok.kind hk hc hcell fin) hd
   . exact FR (wpAny_loadName_free I.ok.kind hk hc hcell fin hcd) hd
theorem i4{i j pos}:PE X (.Constant (.int i) j pos) (tC (.int i)):=fun _ _ _ H _ I h=>wpAny_Constant_int ⟨.int i,H,I.tok _,⟨_,rfl⟩,h⟩
theorem a3c{b j pos}:PE X (.Constant (.bool b) j pos) (tC (.bl b)):=fun _ _ _ H _ I h=>Constant_bool ⟨.bl b,H,I,rfl,h⟩
theorem a64{j pos}:PE X (.Constant .none j pos) (tC .non):=fun _ _ _ H _ I h=>Constant_none ⟨.non,H,I,rfl,h⟩
theorem yo{x j pos}:PE X (.Constant (.str x) j pos) (tC (.str x)):=fun _ _ _ H _ I h=>Calls.Constant_str ⟨.str x,H,I.tok _,⟨_,rfl⟩,h⟩
def Gl(X:Cx)(x:Str):Prop:=X.env.kindOf x=some .globalImplicit
theorem mq{E:GQ->GW->Prop}{pins:List (GV×Obj)}{s:GW}{σ:St}{H:Hp}{x:Str}{u:GQ}{pos:Pos}{Q:GQ->GW->Prop}(I:Inv X pins σ H s)(hg:Gl X x)(hm:X.mg x=some u)(h:Q u s)(hd:(x==("__debug__":Str))=false:=by decide):GY (Gy X.prog X.w) X.A (eval (.Name x pos) X.env) Q E s :=
 DF I.ok.kind hg (Calls.loadGlobal_global (by rw[I.ok.glob];exact I.mod.glob.keeps I.bk) hm h) hd
theorem ia{E:GQ->GW->Prop}{pins:List (GV×Obj)}{s:GW}{σ:St}{H:Hp}{x:Str}{u:GQ}{pos:Pos}{Q:GQ->GW->Prop}(I:Inv X pins σ H s)(hg:Gl X x)(hm:X.mg x=none)(hv:bootBuiltins x=some u)(h:Q u s)(hn:x≠"__name__" := by decide)(hd:(x==("__debug__":Str))=false:=by decide):GY (Gy X.prog X.w) X.A (eval (.Name x pos) X.env) Q E s:=by
 obtain⟨mb,h1,h2⟩:=I.mod.blt;exact DF I.ok.kind hg (Calls.loadGlobal_builtin (by rw[I.ok.glob];exact I.mod.glob.keeps I.bk) hm (by rw[I.ok.blt];exact h1.keeps I.bk) ((h2 x hn).trans hv) h) hd
theorem a5a{x:Str}{v:V}{u:GQ}{pos:Pos}(hg:Gl X x)(hm:X.mg x=some u)(r:RelV v u)(hd:(x==("__debug__":Str))=false:=by decide):PE X (.Name x pos) (tC v) :=
 fun _ _ _ H _ I h=>mq I hg hm ⟨v,H,I,r,h⟩ hd
theorem a3s{x:Str}{v:V}{u:GQ}{pos:Pos}(hg:Gl X x)(hm:X.mg x=none)(hv:bootBuiltins x=some u)(r:RelV v u)(hn:x≠"__name__" := by decide)(hd:(x==("__debug__":Str))=false:=by decide):PE X (.Name x pos) (tC v) :=
 fun _ _ _ H _ I h=>ia I hg hm hv ⟨v,H,I,r,h⟩ hn hd
variable{a b:Expr}{ta tb:TE}{pos:Pos}
def PC(X:Cx)(op:CmpOp)(a b:Expr)(t:TE):Prop :=
 ∀(pins:List (GV×Obj)) (s:GW) (σ:St) (H:Hp) (Q:VK),Inv X pins σ H s->t σ H Q->
   GY (Gy X.prog X.w) X.A (eval a X.env) (fun v s₁=>GY (Gy X.prog X.w) X.A (eval b X.env) (fun u s₂=>GY (Gy X.prog X.w) X.A (HI op v u) (EP X pins σ Q) X.xe s₂) X.xe s₁) X.xe s
def tB(t:TE):TT:=fun σ H Q=>t σ H fun x H1=>∃c,x=.bl c/\Q c H1
theorem zm{op:CmpOp}{t:TE}(h:PC X op a b t)(h1:HG op b=false:=by first|exact nobehind _ (by decide) (by decide)|rfl):PE X (.Compare a [op] [b] pos) t:=fun pins s σ H Q I hw=>wpAny_Compare1 (h pins s σ H Q I hw) h1
theorem zi{op:CmpOp}{t:TE}(h:PC X op a b t)(h1:HG op b=false:=by first|exact nobehind _ (by decide) (by decide)|rfl):PT X (.Compare a [op] [b] pos) (tB t):=by
 intro pins s σ H Q I hw;refine E8 (thn (h pins s σ H _ I hw) fun v s1 h1=>thn h1 fun u s2 h2=>thn h2 fun c s3 ⟨x,H1,I1,r1,q1⟩=>?_) h1;obtain⟨d,rfl,q⟩:=q1;cases r1;exact Bt ⟨H1,I1,q⟩
theorem a5z{e:Expr}{t:TE}(h:PE X e t)(he:∀whole,isTrue e X.env whole=(do let v<-whole;standAt e.pos;holding [v] (truthy v)):=by intro _;rfl):PT X e (tB t):=by
 intro pins s σ H Q I hw;refine isTrue_plain (thn (h pins s σ H _ I hw) fun v s1 ⟨x,H1,I1,r1,q1⟩=>?_) (he _);obtain⟨d,rfl,q⟩:=q1;cases r1;exact Bt ⟨H1,I1,q⟩
variable{tA tB':TT}{rest:List Expr}
def tAnd(t u:TT):TT:=fun σ H Q=>t σ H fun c H1=>if c=true then u σ H1 Q else Q false H1
def tOr(t u:TT):TT:=fun σ H Q=>t σ H fun c H1=>if c=true then Q true H1 else u σ H1 Q
def tNot(t:TT):TT:=fun σ H Q=>t σ H fun c H1=>Q (!c) H1
theorem a4d(ha:PT X a tA):PW X (.BoolOp .And [a] pos) tA:=by
 intro wh pins s σ H Q I h;refine isTrue_and (thn (ha pins s σ H Q I h) fun c s1 e=>?_);cases c with
 | true=>exact isTrue_and_nil e
 | false=>exact e
theorem a6r(ha:PT X a tA):PW X (.BoolOp .Or [a] pos) tA:=by
 intro wh pins s σ H Q I h;refine isTrue_or (thn (ha pins s σ H Q I h) fun c s1 e=>?_);cases c with
 | false=>exact isTrue_or_nil e
 | true=>exact e
theorem a5i(ha:PT X a tA)(hb:PW X (.BoolOp .And (b::rest) pos) tB'):PW X (.BoolOp .And (a::b::rest) pos) (tAnd tA tB'):=by
 intro wh pins s σ H Q I h;refine isTrue_and (thn (ha pins s σ H _ I h) fun c s1 ⟨H1,I1,q1⟩=>?_);cases c with
 | true=>exact hb wh pins s1 σ H1 Q I1 q1
 | false=>exact⟨H1,I1,q1⟩
theorem a7g(ha:PT X a tA)(hb:PW X (.BoolOp .Or (b::rest) pos) tB'):PW X (.BoolOp .Or (a::b::rest) pos) (tOr tA tB'):=by
 intro wh pins s σ H Q I h;refine isTrue_or (thn (ha pins s σ H _ I h) fun c s1 ⟨H1,I1,q1⟩=>?_);cases c with
 | true=>exact⟨H1,I1,q1⟩
 | false=>exact hb wh pins s1 σ H1 Q I1 q1
theorem a67(ha:PT X a tA):PT X (.UnaryOp .Not a pos) (tNot tA):=by
 intro pins s σ H Q I h;exact isTrue_not (ha pins s σ H (fun c H1=>Q (!c) H1) I h)
def a2w(ta tb:TE):TE:=fun σ H Q=>ta σ H fun x H1=>∃c,x=.bl c/\if c=true then tb σ H1 Q else Q (.bl false) H1
def tOrV(ta tb:TE):TE:=fun σ H Q=>ta σ H fun x H1=>∃c,x=.bl c/\if c=true then Q (.bl true) H1 else tb σ H1 Q
def a3e(ta:TE):TE:=fun σ H Q=>ta σ H fun x H1=>∃c,x=.bl c/\Q (.bl (!c)) H1
theorem a6s{op}{t:TE}(h:PE X a t):PE X (.BoolOp op [a] pos) t:=fun pins s σ H Q I hw=>BoolOp_one (h pins s σ H Q I hw)
theorem a6g(ha:PE X a ta)(hb:PE X (.BoolOp .And (b::rest) pos) tb):PE X (.BoolOp .And (a::b::rest) pos) (a2w ta tb):=by
 intro pins s σ H Q I h;refine BoolOp_and (thn (ha pins s σ H _ I h) fun v s1 ⟨x,H1,I1,r1,q1⟩=>?_);obtain⟨c,rfl,q1⟩:=q1;cases r1;refine Bt ?_;cases c with
 | true=>exact hb pins s1 σ H1 Q I1 q1
 | false=>exact⟨.bl false,H1,I1,rfl,q1⟩
theorem a7h(ha:PE X a ta)(hb:PE X (.BoolOp .Or (b::rest) pos) tb):PE X (.BoolOp .Or (a::b::rest) pos) (tOrV ta tb):=by
 intro pins s σ H Q I h;refine BoolOp_or (thn (ha pins s σ H _ I h) fun v s1 ⟨x,H1,I1,r1,q1⟩=>?_);obtain⟨c,rfl,q1⟩:=q1;cases r1;refine Bt ?_;cases c with
 | false=>exact hb pins s1 σ H1 Q I1 q1
 | true=>exact⟨.bl true,H1,I1,rfl,q1⟩
theorem a5n(ha:PE X a ta):PE X (.UnaryOp .Not a pos) (a3e ta):=by
 intro pins s σ H Q I h;refine UnaryOp_ (thn (ha pins s σ H _ I h) fun v s1 ⟨x,H1,I1,r1,q1⟩=>?_);obtain⟨c,rfl,q1⟩:=q1;cases r1;exact not_of (Bt ⟨.bl (!c),H1,I1,rfl,q1⟩)
def tIf(t:TT)(ta tb:TE):TE:=fun σ H Q=>t σ H fun c H1=>if c=true then ta σ H1 Q else tb σ H1 Q
theorem a0h{c:Expr}(hc:PT X c tA)(ha:PE X a ta)(hb:PE X b tb):PE X (.IfExp c a b pos) (tIf tA ta tb):=by
 intro pins s σ H Q I h;refine wpAny_IfExp (thn (hc pins s σ H _ I h) fun d s1 ⟨H1,I1,q1⟩=>?_);cases d with
 | true=>exact ha pins s1 σ H1 Q I1 q1
 | false=>exact hb pins s1 σ H1 Q I1 q1
end
def SqL(K:Aa)(H:Hp)(a:GV)(xs:List V):Prop :=
 Rd H a (.lst xs)\/
  ∃(o:Obj) (its:Array GQ) (n:Nat),K.lookup a=some o/\o.cls=.type "list" /\ o.dict=none/\o.data=.seq its n/\its.size<=GX/\Vals xs its.toList
def SqT(K:Aa)(H:Hp)(a:GV)(xs:List V):Prop :=
 Rd H a (.tup xs)\/
  ∃(o:Obj) (its:Array GQ) (n:Nat),K.lookup a=some o/\o.cls=.type "tuple" /\ o.data=.seq its n/\its.size<=GX/\Vals xs its.toList
def absV:GQ->Option V
 | .none=>some .non
 | .bool b=>some (.bl b)
 | .int i _=>some (.int i)
 | .str x _=>some (.str x)
 | .bytes b _=>some (.byt b)
 | .float b _=>some (.flt b)
 | .ref a=>some (.ref a)
 | .type n=>some (.ty n)
 | _=>none
theorem RelV.abs{x:V}{u:GQ}(r:RelV x u):absV u=some x:=by
 cases x with
 | non=>cases r;rfl
 | bl _=>cases r;rfl
 | int _=>obtain⟨t,rfl⟩:=r;rfl
 | str _=>obtain⟨t,rfl⟩:=r;rfl
 | byt _=>obtain⟨t,rfl⟩:=r;rfl
 | flt _=>obtain⟨t,rfl⟩:=r;rfl
 | ref _=>cases r;rfl
 | ty _=>cases r;rfl
theorem RelV.inj{x y:V}{u:GQ}(r:RelV x u)(q:RelV y u):x=y:=Ap (r.abs.symm.trans q.abs)
theorem Vals.inj:∀{xs ys:List V}{us:List GQ},Vals xs us->Vals ys us->xs=ys
 | _,_,_,.nil,.nil=>rfl
 | _,_,_,.cons r t,.cons r' t'=>by rw[r.inj r',Vals.inj t t']
section
variable{X:Cx}{pins:List (GV×Obj)}{σ:St}{H:Hp}{s:GW}{a:GV}{xs ys:List V}
theorem SqL.of{K:Aa}(h:H a=some (.lst xs)):SqL K H a xs:=.inl (.inl h)
theorem SqT.of{K:Aa}(h:H a=some (.tup xs)):SqT K H a xs:=.inl (.inl h)
theorem Inv.list(I:Inv X pins σ H s)(h:SqL X.K H a xs):∃its:List GQ,Vals xs its/\PlainL s.heap a its.toArray/\xs.length<=GX:=by
 rcases h with h|⟨o,its,n,hk,hc,hd,hs,hz,r⟩
 . obtain⟨z,its,n,r,e⟩:=h.ok I.hok;exact⟨its,r,⟨_,n,e,rfl,rfl,rfl⟩,z⟩
 . refine⟨its.toList,r,⟨o,n,I.kIn a o hk,hc,hd,by simpa using hs⟩,?_⟩;have e:=r.length;simp only[Az] at e;omega
theorem Inv.tuple(I:Inv X pins σ H s)(h:SqT X.K H a xs):∃its:List GQ,Vals xs its/\IsTup s.heap a its.toArray/\xs.length<=GX:=by
 rcases h with h|⟨o,its,n,hk,hc,hs,hz,r⟩
 . obtain⟨z,its,r,p⟩:=h.ok I.hok;exact⟨its,r,p,z⟩
 . refine⟨its.toList,r,⟨o,I.kIn a o hk,hc,n,by simpa using hs⟩,?_⟩;have e:=r.length;simp only[Az] at e;omega
theorem Inv.list_inj(I:Inv X pins σ H s)(h:SqL X.K H a xs)(h':SqL X.K H a ys):xs=ys:=by
 obtain⟨its,r,⟨o,n,e,_,_,d⟩,_⟩:=I.list h;obtain⟨its',r',⟨o',n',e',_,_,d'⟩,_⟩:=I.list h';rw[e] at e';cases e';rw[d] at d';injection d' with d1 _;have:its=its':=by simpa using congrArg Gk d1
 subst this;exact r.inj r'
theorem Inv.tuple_inj(I:Inv X pins σ H s)(h:SqT X.K H a xs)(h':SqT X.K H a ys):xs=ys:=by
 obtain⟨its,r,⟨o,e,_,n,d⟩,_⟩:=I.tuple h;obtain⟨its',r',⟨o',e',_,n',d'⟩,_⟩:=I.tuple h';rw[e] at e';cases e';rw[d] at d';injection d' with d1 _;have:its=its':=by simpa using congrArg Gk d1
 subst this;exact r.inj r'
end
abbrev Cx.wish(X:Cx)(E:GQ->GW->Prop):Cx:={X with xe:=E}
abbrev Cx.nox(X:Cx):Cx:=X.wish fun _ _=>False
theorem Cx.Ok.wish{X:Cx}(ok:X.Ok)(E:GQ->GW->Prop):(X.wish E).Ok :=
 ⟨ok.mod,ok.kind,ok.glob,ok.blt,ok.above,ok.inj,ok.has,ok.cab,ok.hd,ok.frames,ok.stk,ok.exf,ok.bs,ok.bsz,ok.noex,ok.exfs,ok.funs,ok.frf⟩
theorem Cx.Ok.unwish{X:Cx}{E:GQ->GW->Prop}(ok:(X.wish E).Ok):X.Ok :=
 ⟨ok.mod,ok.kind,ok.glob,ok.blt,ok.above,ok.inj,ok.has,ok.cab,ok.hd,ok.frames,ok.stk,ok.exf,ok.bs,ok.bsz,ok.noex,ok.exfs,ok.funs,ok.frf⟩
section
variable{X:Cx}{pins:List (GV×Obj)}{σ:St}{H:Hp}{s:GW}{E:GQ->GW->Prop}
theorem Inv.wish(I:Inv X pins σ H s)(E:GQ->GW->Prop):Inv (X.wish E) pins σ H s:=⟨I.ok.wish E,I.os,I.bare,I.base,I.loc,I.cell,I.free,I.freeC,I.pin,I.hok,I.len⟩
theorem Inv.unwish(I:Inv (X.wish E) pins σ H s):Inv X pins σ H s:=⟨I.ok.unwish,I.os,I.bare,I.base,I.loc,I.cell,I.free,I.freeC,I.pin,I.hok,I.len⟩
theorem SP.unwish{D:Ends}{f:Flow}{s':GW}(h:SP (X.wish E) pins D f s'):SP X pins D f s':=by
 cases f with
 | next=>obtain⟨σ',H',I,q⟩:=h;exact⟨σ',H',I.unwish,q⟩
 | brk=>obtain⟨σ',H',I,q⟩:=h;exact⟨σ',H',I.unwish,q⟩
 | cont=>obtain⟨σ',H',I,q⟩:=h;exact⟨σ',H',I.unwish,q⟩
 | ret u=>obtain⟨v,σ',H',I,r,q⟩:=h;exact⟨v,σ',H',I.unwish,r,q⟩
theorem PSs.nox{st:List HF}{t:TS}(h:PSs X.nox st t):PSs X st t:=fun pins s σ H D I hw =>
 Bh (h pins s σ H D (I.wish _) hw) (fun _ _ q=>q.unwish) fun _ _ z=>B2 z
end
section
variable{X:Cx}{st:HF}{rest:List HF}{t u:TS}{e:Expr}{te:TE}{pos:Pos}
def a2p:TS:=fun D σ H=>D.nx σ H
def tSeq(t u:TS):TS:=fun D σ H=>t {D with nx:=u D} σ H
theorem a4q:PSs X [] a2p:=fun _ _ σ H _ I h=>Dc ⟨σ,H,I,h⟩
theorem kf(h1:PS X st t)(h2:PSs X rest u):PSs X (st::rest) (tSeq t u):=by
 intro pins s σ H D I h;refine FJ (thn (h1 pins s σ H {D with nx:=u D} I h) fun f s1 q=>?_);cases f with
 | next =>
  obtain⟨σ',H',I',q⟩:=q;exact h2 pins s1 σ' H' D I' q
 | ret v=>exact q
 | brk=>exact q
 | cont=>exact q
theorem ly(h1:PS X st t):PSs X [st] t:=by
 intro pins s σ H D I h;refine FJ (thn (h1 pins s σ H D I h) fun f s1 q=>?_);cases f with
 | next=>exact Dc q
 | ret v=>exact q
 | brk=>exact q
 | cont=>exact q
def xp:TS:=fun D σ H=>D.bk σ H
theorem a1e:PS X (.Break pos) xp:=fun _ _ σ H _ I h=>wpAny_Break ⟨σ,H,I,h⟩
theorem Inv.quiet{pins:List (GV×Obj)}{σ:St}{H:Hp}{s:GW}(I:Inv X pins σ H s):interactive X.env=false:=by simp[interactive,I.ok.kind]
def a3b(te:TE):TS:=fun D σ H=>te σ H fun _ H1=>D.nx σ H1
theorem v8(he:PE X e te)(hs:HN e none pos.line X.env=pure false:=by rfl):PS X (.Expr e pos) (a3b te):=by
 intro pins s σ H D I h;exact wpAny_Expr_any (thn (he pins s σ H _ I h) fun v s1 ⟨x,H1,I1,r1,q1⟩=>⟨σ,H1,I1,q1⟩) I.quiet hs
def tRet(te:TE):TS:=fun D σ H=>te σ H D.rt
theorem xn(he:PE X e te):PS X (.Return (some e) pos) (tRet te):=by
 intro pins s σ H D I h;exact wpAny_Return_some (thn (he pins s σ H _ I h) fun v s1 ⟨x,H1,I1,r1,q1⟩=>⟨x,σ,H1,I1,r1,q1⟩)
def tIfS(c:TT)(t u:TS):TS:=fun D σ H=>c σ H fun b H1=>if b=true then t D σ H1 else u D σ H1
theorem a78{c:Expr}{a b:List HF}{tc:TT}(hc:PT X c tc)(ha:PSs X a t)(hb:PSs X b u):PS X (.If c a b pos) (tIfS tc t u):=by
 intro pins s σ H D I h;refine wpAny_If (thn (hc pins s σ H _ I h) fun d s1 ⟨H1,I1,q1⟩=>?_);cases d with
 | true=>exact ha pins s1 σ H1 D I1 q1
 | false=>exact hb pins s1 σ H1 D I1 q1
end
abbrev TG:=V->St->Hp->(St->Hp->Prop)->Prop
abbrev TGs:=List V->St->Hp->(St->Hp->Prop)->Prop
def PG(X:Cx)(target:Expr)(t:TG):Prop :=
 ∀(pins:List (GV×Obj)) (s:GW) (σ:St) (H:Hp) (v:V) (u:GQ) (Q:St->Hp->Prop),Inv X pins σ H s->RelV v u->t v σ H Q->
   GY (Gy X.prog X.w) X.A (assign target X.env u) (fun _ s'=>∃σ' H',Inv X pins σ' H' s'/\Q σ' H') X.xe s
def PGs(X:Cx)(ts:List Expr)(t:TGs):Prop :=
 ∀(pins:List (GV×Obj)) (s:GW) (σ:St) (H:Hp) (vs:List V) (us:List GQ) (Q:St->Hp->Prop),Inv X pins σ H s->Vals vs us->t vs σ H Q->
   GY (Gy X.prog X.w) X.A (assignInOrder ((HK ts X.env).map (·.2)) us) (fun _ s'=>∃σ' H',Inv X pins σ' H' s'/\Q σ' H') X.xe s
section
variable{X:Cx}{pos:Pos}
def c8(i:Nat):TG:=fun v σ H Q=>Q (σ.set i (some v)) H
theorem i5{i:Nat}{x:Str}(hN:X.N.Nodup)(hi:X.N[i]?=some x)(hx:Loc X.env.scope x)(hf:X.fn x=true\/X.env.scope.names.lookup x=some .local:=by first|exact .inl rfl|exact .inr rfl|assumption):PG X (.Name x pos) (c8 i):=by
 intro pins s σ H v u Q I r h;exact DL (jx I hN hi hx r (fun s' I'=>⟨_,H,I',h⟩) hf)
def gNil:TGs:=fun vs σ H Q=>vs=[]/\Q σ H
def jm(t:TG)(u:TGs):TGs:=fun vs σ H Q=>∃v r,vs=v::r/\t v σ H fun σ' H'=>u r σ' H' Q
theorem va:PGs X [] gNil:=by
 intro pins s σ H vs us Q I r h;obtain⟨e,h⟩:=h;subst e;cases r;exact assignInOrder_nil ⟨σ,H,I,h⟩
theorem gi{e:Expr}{es:List Expr}{t:TG}{u:TGs}(h1:PG X e t)(h2:PGs X es u)(hs:(HK (e::es) X.env).map (·.2)=assign e X.env::(HK es X.env).map (·.2):=by rfl):PGs X (e::es) (jm t u):=by
 intro pins s σ H vs us Q I r h;obtain⟨v,vr,e1,h⟩:=h;subst e1;cases r with
 | cons r rr =>
  rw[hs];refine assignInOrder_cons (thn (h1 pins s σ H _ _ _ I r h) fun _ s1 ⟨σ1,H1,I1,q1⟩=>?_);exact h2 pins s1 σ1 H1 _ _ Q I1 rr q1
def gTup(K:Aa)(n:Nat)(t:TGs):TG:=fun v σ H Q=>∃a xs,v=.ref a/\SqT K H a xs/\xs.length=n/\t xs σ H Q
theorem xz{es:List Expr}{k:Nat}{t:TGs}{n:Nat}(hc:X.calm=true)(h:PGs X es t)(hn:(HK es X.env).length=n:=by rfl)(hst:(HK es X.env).findIdx? (·.1)=none:=by rfl):PG X (.Tuple es k pos) (gTup X.K n t):=by
 intro pins s σ H v u Q I r hw;obtain⟨a,xs,e1,hq,hl,hw⟩:=hw;subst e1;cases r;obtain⟨its,rv,ht,hz⟩:=I.tuple hq;refine assign_Tuple_tuple (I.ok.hd hc) ht (by simp[hn,<- hl,rv.length]) hst fun h' hx=>?_;have I1:Inv X pins σ H {s with heap:=h'}:=I.kept (t':=s.toks) fun b o e=>hx b o (Aw (Ao e)) e;exact h pins _ σ H xs _ Q I1 (by simpa using rv) hw
def tAsg(te:TE)(g:TG):TS:=fun D σ H=>te σ H fun x H1=>g x σ H1 D.nx
theorem a6t{tg e:Expr}{te:TE}{g:TG}(he:PE X e te)(hg:PG X tg g)(hs:swapsWithSole [tg] e pos.line X.env=pure false:=by rfl)(hw:swappedStores [tg] e X.env=pure none:=by rfl)(h1:(HK [tg] X.env).map (·.2)=[assign tg X.env]:=by rfl):PS X (.Assign [tg] e pos) (tAsg te g):=by
 intro pins s σ H D I h;refine wpAny_Assign_stores (thn (he pins s σ H _ I h) fun v s1 ⟨x,H1,I1,r1,q1⟩=>?_) hs hw;rw[h1];exact thn (hg pins s1 σ H1 x v _ I1 r1 q1) fun _ s2 q=>q
theorem yt{i:Nat}{x:Str}{e:Expr}{te:TE}{pos':Pos}(hN:X.N.Nodup)(hi:X.N[i]?=some x)(hx:Loc X.env.scope x)(he:PE X e te)(hs:HN e (some (.Name x pos')) pos.line X.env=pure false:=by rfl)(hf:X.fn x=true\/X.env.scope.names.lookup x=some .local:=by first|exact .inl rfl|exact .inr rfl|assumption):
 PS X (.Assign [.Name x pos'] e pos) (tAsg te (c8 i)):=by
 intro pins s σ H D I h;refine wpAny_Assign_Name (thn (he pins s σ H _ I h) fun v s1 ⟨y,H1,I1,r1,q1⟩=>?_) hs;exact jx I1 hN hi hx r1 (fun s2 I2=>⟨_,H1,I2,q1⟩) hf
end
section
variable{X:Cx}{pos:Pos}
def se(c:TT)(tb:TS):TS:=fun D σ H=>∃W:Nat->St->Hp->Prop,(∃m,W m σ H)/\∀m σ H,W m σ H->
 c σ H fun b H1=>if b=true then ∃N:St->Hp->Prop,(∀σ' H',N σ' H'->∃m',m'<m/\W m' σ' H')/\tb {D with nx:=N,ct:=N,bk:=D.nx} σ H1 else D.nx σ H1
theorem a0l{c:Expr}{body:List HF}{tc:TT}{tb:TS}(hp:PassesOwn (Gy X.prog X.w) X.A X.env X.xe)(hc:PT X c tc)(hb:PSs X body tb):PS X (.While c body [] pos) (se tc tb):=by
 intro pins s σ H D I h;obtain⟨W,⟨m0,w0⟩,turn⟩:=h;refine wpAny_While (codeAny_whileLoop (fun n s'=>∃σ' H',Inv X pins σ' H' s'/\W n σ' H') ?_ m0 ⟨σ,H,I,w0⟩);rintro n s1 ⟨σ1,H1,I1,w1⟩;refine BP hp (thn (hc pins s1 σ1 H1 _ I1 (turn n σ1 H1 w1)) fun b s2 ⟨H2,I2,q2⟩=>?_);cases b with
 | true =>
  obtain⟨N,hN,q2⟩:=q2;rw[if_pos rfl];refine BP hp (thn (hb pins s2 σ1 H2 _ I2 q2) fun f s3 q3=>?_);cases f with
  | next =>
   obtain⟨σ3,H3,I3,n3⟩:=q3;obtain⟨m',hm,w3⟩:=hN σ3 H3 n3;exact⟨m',hm,σ3,H3,I3,w3⟩
  | cont =>
   obtain⟨σ3,H3,I3,n3⟩:=q3;obtain⟨m',hm,w3⟩:=hN σ3 H3 n3;exact⟨m',hm,σ3,H3,I3,w3⟩
  | brk=>exact q3
  | ret v=>exact q3
 | false =>
  rw[if_neg Aq];exact Dc ⟨σ1,H2,I2,q2⟩
end
structure It where
 go:Nat->Hp->Prop
 yld:Nat->Hp->V->Hp->Prop
 stop:Nat->Hp->Prop
def FpOk(X:Cx)(pins:List (GV×Obj))(H:Hp)(b:GV):Prop :=
 H b=none/\b≠X.env.locals/\b∉X.fs/\(b∈X.ex\/X.s₀.heap.objs.size<=b)/\(∀x c,X.env.cells.lookup x=some c->c≠b)/\∀p∈X.pn++pins,p.1≠b
theorem Inv.fpOk{X:Cx}{pins:List (GV×Obj)}{σ:St}{H H':Hp}{s:GW}{b:GV}(I:Inv X pins σ H s)(hb:s.heap.objs.size<=b)(hn:H' b=none):FpOk X pins H' b:=by
 refine⟨hn,BI (A4 I.lt hb),I.nofs hb,.inr (AB I.sz hb),fun x c e z=>?_,fun p hp z=>?_⟩
 . obtain⟨v,q⟩:=I.cell x c e;exact absurd (A4 q.lt (by rw[z];exact hb)) (Bi _)
 . exact absurd (A4 (Ao (I.pin p hp).1) (by rw[z];exact hb)) (Bi _)
structure Turn(P:Gx)(w:G9)(K:Aa)(tg:Expr)(J:It)(fp:List GV)(it:GV)(tn:Nat->HB->Prop):Prop where
 mem:it∈fp
 obj:∀i h,tn i h->∀b∈fp,∃o,h.get? b=some o/\∀v,o.data≠.cell v
 keep:∀i h h',tn i h->(∀b∈fp,∀o,h.get? b=some o->h'.get? b=some o)->tn i h'
 item:∀(X:Cx),X.prog=P->X.w=w->X.K=K->X.calm=true->∀(i:Nat) (pins:List (GV×Obj)) (s:GW) (σ:St) (H:Hp) (E:GQ->GW->Prop),Inv X pins σ H s->(∀b∈fp,FpOk X pins H b)->tn i s.heap->J.go i H->
  GY (Gy P w) X.A (HQ (.ref it)) (fun r s1=>∃u,r=some u/\
   GY (Gy P w) X.A (letOwnedTupleGo tg (.ref it) u) (fun _ s2=>∃x H',Inv X pins σ H' s2/\RelV x u/\J.yld i H x H'/\tn (i+1) s2.heap/\∀b∈fp,H' b=none) E s1) E s
 done:∀(X:Cx),X.prog=P->X.w=w->X.K=K->X.calm=true->∀(i:Nat) (pins:List (GV×Obj)) (s:GW) (σ:St) (H:Hp) (E:GQ->GW->Prop),Inv X pins σ H s->(∀b∈fp,FpOk X pins H b)->tn i s.heap->J.stop i H->
  GY (Gy P w) X.A (HQ (.ref it)) (fun r s1=>r=none/\Inv X pins σ H s1) E s
 self:∀(A:HC) (i:Nat) (s:GW) (Q:GQ->GW->Prop) (E:GQ->GW->Prop),tn i s.heap->Q (.ref it) s->GY (Gy P w) A (pyIter (.ref it)) Q E s
abbrev TI:=St->Hp->(It->Hp->Prop)->Prop
def PIE(X:Cx)(pins:List (GV×Obj))(σ:St)(tg:Expr)(R:It->Hp->Prop)(itv:GQ)(s2:GW):Prop :=
 ∃(it:GV) (fp:List GV) (tn:Nat->HB->Prop) (J:It) (H':Hp),itv=.ref it/\Inv X pins σ H' s2/\Turn X.prog X.w X.K tg J fp it tn/\tn 0 s2.heap/\(∀b∈fp,FpOk X pins H' b)/\R J H'
def PI(X:Cx)(tg iter:Expr)(wi:TI):Prop :=
 ∀(pins:List (GV×Obj)) (s:GW) (σ:St) (H:Hp) (R:It->Hp->Prop),Inv X pins σ H s->wi σ H R->
   GY (Gy X.prog X.w) X.A (eval iter X.env) (fun v s1=>GY (Gy X.prog X.w) X.A (pyIter v) (PIE X pins σ tg R) X.xe s1) X.xe s
theorem oi{M:Model}{A:HC}{E:GQ->GW->Prop}{s:GW}{tg:Expr}{it:GV}{u:GQ}{o:Obj}{n:String}{vs:Array GQ}{Q:Unit->GW->Prop}(ho:s.heap.get? it=some o)(hc:o.cls=.type n)(hd:o.data=.fields vs)(hn:["enumerate","zip","dict_itemiterator","dict_reverseitemiterator","odict_iterator","itertools.zip_longest","itertools.pairwise"].contains n=false)(hQ:Q () s):GY M A (letOwnedTupleGo tg (.ref it) u) Q E s:=by
 unfold letOwnedTupleGo;cases tg<;>first
  | exact Af hQ
  | (cases u<;>first
   | exact Af hQ
   | (refine Ab (FS ho ?_)
      rw[hc,hd];show GY M A (if (["enumerate","zip","dict_itemiterator","dict_reverseitemiterator","odict_iterator","itertools.zip_longest","itertools.pairwise"].contains n && vs[0]?==some (HW _))=true then _ else _) Q E s;rw[if_neg (by intro h;rw[hn,Ga] at h;cases h)];exact Af hQ))
def Itl(K:Aa)(a:GV):It :=
 ⟨fun i H=>∃xs x,SqL K H a xs/\xs[i]?=some x,fun i H x H'=>H'=H/\∀xs,SqL K H a xs->xs[i]?=some x,fun i H=>∃xs,SqL K H a xs/\xs.length<=i⟩
def Itt(K:Aa)(a:GV):It :=
 ⟨fun i H=>∃xs x,SqT K H a xs/\xs[i]?=some x,fun i H x H'=>H'=H/\∀xs,SqT K H a xs->xs[i]?=some x,fun i H=>∃xs,SqT K H a xs/\xs.length<=i⟩
def Itr(lo:Int)(n:Nat):It:=⟨fun i _=>i<n,fun i H x H'=>H'=H/\x=.int (lo+i),fun i _=>n<=i⟩
theorem xc{P:Gx}{w:G9}{K:Aa}{tg:Expr}(a it:GV):Turn P w K tg (Itl K a) [it] it (fun i h=>h.IsListIter it a i) where
 mem:=by simp
 obj:=fun i h st b hb=>by
  have e:b=it:=by simpa using hb
  subst e;obtain⟨o,e,c,d⟩:=st;exact⟨o,e,fun v z=>by rw[d] at z;cases z⟩
 keep:=fun i h h' st k=>st.at fun o e=>k it (by simp) o e
 item:=by
  intro X hP hw hK hc i pins s σ H E I hf st hg;subst hP hw hK;obtain⟨xs,x,hq,hx⟩:=hg;obtain⟨its,rv,p,hz⟩:=I.list hq;obtain⟨u,hu,ru⟩:=rv.get hx;obtain⟨f0,f1,f2,f3,f4,f5⟩:=hf it (by simp);refine wpAny_pyNext_list_item st p.isList (x:=u) (by simpa using hu) fun h' st' sb=>?_;have I1:Inv X pins σ H {s with heap:=h'}:=I.turned (t':=s.toks) (fun b o hb e=>(sb.2 b hb).trans e) f0 f1 f3 f4 f5;obtain⟨o,e,c,d⟩:=id st';exact⟨u,rfl,oi (s:={s with heap:=h'}) e c d (by decide) ⟨x,H,I1,ru,⟨rfl,fun ys hy=>by rw[I.list_inj hy hq];exact hx⟩,st',fun b hb=>(hf b hb).1⟩⟩
 done:=by
  intro X hP hw hK hc i pins s σ H E I hf st hg;subst hP hw hK;obtain⟨xs,hq,hx⟩:=hg;obtain⟨its,rv,p,hz⟩:=I.list hq;obtain⟨f0,f1,f2,f3,f4,f5⟩:=hf it (by simp);have hl:=rv.length;exact wpAny_pyNext_list_end (I.ok.hd hc) st p.isList (by simp;omega) fun h' eb=>⟨rfl,I.turned (t':=s.toks) (fun b o hb e=>eb b o hb e) f0 f1 f3 f4 f5⟩
 self:=fun _ _ _ _ _ st h=>wpAny_pyIter_listiter st h
theorem w8{P:Gx}{w:G9}{K:Aa}{tg:Expr}(a it:GV):Turn P w K tg (Itt K a) [it] it (fun i h=>h.IsTupleIter it a i) where
 mem:=by simp
 obj:=fun i h st b hb=>by
  have e:b=it:=by simpa using hb
  subst e;obtain⟨o,e,c,d⟩:=st;exact⟨o,e,fun v z=>by rw[d] at z;cases z⟩
 keep:=fun i h h' st k=>st.at fun o e=>k it (by simp) o e
 item:=by
  intro X hP hw hK hc i pins s σ H E I hf st hg;subst hP hw hK;obtain⟨xs,x,hq,hx⟩:=hg;obtain⟨its,rv,p,hz⟩:=I.tuple hq;obtain⟨u,hu,ru⟩:=rv.get hx;obtain⟨f0,f1,f2,f3,f4,f5⟩:=hf it (by simp);refine wpAny_pyNext_tuple_item st (show s.heap.IsTuple a its.toArray from p) (x:=u) (by simpa using hu) fun h' st' sb=>?_;have I1:Inv X pins σ H {s with heap:=h'}:=I.turned (t':=s.toks) (fun b o hb e=>(sb.2 b hb).trans e) f0 f1 f3 f4 f5;obtain⟨o,e,c,d⟩:=id st';exact⟨u,rfl,oi (s:={s with heap:=h'}) e c d (by decide) ⟨x,H,I1,ru,⟨rfl,fun ys hy=>by rw[I.tuple_inj hy hq];exact hx⟩,st',fun b hb=>(hf b hb).1⟩⟩
 done:=by
  intro X hP hw hK hc i pins s σ H E I hf st hg;subst hP hw hK;obtain⟨xs,hq,hx⟩:=hg;obtain⟨its,rv,p,hz⟩:=I.tuple hq;obtain⟨f0,f1,f2,f3,f4,f5⟩:=hf it (by simp);have hl:=rv.length;exact wpAny_pyNext_tuple_end (I.ok.hd hc) st (show s.heap.IsTuple a its.toArray from p) (by simp;omega) fun h' eb=>⟨rfl,I.turned (t':=s.toks) (fun b o hb e=>eb b o hb e) f0 f1 f3 f4 f5⟩
 self:=fun _ _ _ _ _ st h=>wpAny_pyIter_tupleiter st h
theorem vv{P:Gx}{w:G9}{K:Aa}{tg:Expr}(it:GV)(lo:Int)(n:Nat):Turn P w K tg (Itr lo n) [it] it (fun i h=>IsRangeIter h it (lo+(i:Nat)*1) ((n:Int)-(i:Nat)) 1) where
 mem:=by simp
 obj:=fun i h st b hb=>by
  have e:b=it:=by simpa using hb
  subst e;exact⟨_,st,fun v z=>by
   have z':Data.fields _=Data.cell v:=z;cases z'⟩
 keep:=fun i h h' st k=>k it (by simp) _ st
 item:=by
  intro X hP hw hK hc i pins s σ H E I hf st hg;subst hP hw hK;obtain⟨f0,f1,f2,f3,f4,f5⟩:=hf it (by simp);have W:=Walks.range (prog:=X.prog) (w:=X.w) (I.ok.hd hc) it lo 1 n;refine W.item i s _ _ hg st fun v h' tk hv st' kk=>?_;obtain⟨t,rfl⟩:=hv;have I1:Inv X pins σ H {s with heap:=h',toks:=tk}:=I.turned (fun b o hb e=>kk b o (by simpa using hb) e) f0 f1 f3 f4 f5;refine⟨_,rfl,oi (s:={s with heap:=h',toks:=tk}) (n := "range_iterator") st' rfl rfl (by decide) ⟨.int (lo+i),H,I1,⟨t,?_⟩,⟨rfl,rfl⟩,st',fun b hb=>(hf b hb).1⟩⟩;rw[Int.mul_one]
 done:=by
  intro X hP hw hK hc i pins s σ H E I hf st hg;subst hP hw hK;obtain⟨f0,f1,f2,f3,f4,f5⟩:=hf it (by simp);exact wpAny_pyNext_range_end (I.ok.hd hc) st (by have:n<=i:=hg;omega) fun h' eb=>⟨rfl,I.turned (t':=s.toks) (fun b o hb e=>eb b o hb e) f0 f1 f3 f4 f5⟩
 self:=fun _ _ _ _ _ st h=>wpAny_pyIter_rangeiter st h
section
variable{X:Cx}{tg:Expr}
def a2s(K:Aa)(tl:TE):TI:=fun σ H R=>tl σ H fun x H1=>∃a,x=.ref a/\(∃xs,SqL K H1 a xs)/\R (Itl K a) H1
def iTup(K:Aa)(tl:TE):TI:=fun σ H R=>tl σ H fun x H1=>∃a,x=.ref a/\(∃xs,SqT K H1 a xs)/\R (Itt K a) H1
theorem tz{l:Expr}{tl:TE}(hl:PE X l tl):PI X tg l (a2s X.K tl):=by
 intro pins s σ H R I h;refine thn (hl pins s σ H _ I h) fun v s1 ⟨x,H1,I1,r1,q1⟩=>?_;obtain⟨a,e,⟨xs,hq⟩,q⟩:=q1;subst e;cases r1;obtain⟨its,rv,p,hz⟩:=I1.list hq;refine CF p.isList ?_;refine⟨s1.heap.objs.size,[s1.heap.objs.size],_,_,H1,rfl,I1.kept (t':=s1.toks) fun b o e=>Ag _ e,xc a _,⟨_,An _ rfl,rfl,rfl⟩,fun b hb=>?_,q⟩;have e:b=s1.heap.objs.size:=by simpa using hb
 subst e;exact I1.fpOk (Ah _) (I1.hok.fresh (Ah _))
theorem xg{l:Expr}{tl:TE}(hl:PE X l tl):PI X tg l (iTup X.K tl):=by
 intro pins s σ H R I h;refine thn (hl pins s σ H _ I h) fun v s1 ⟨x,H1,I1,r1,q1⟩=>?_;obtain⟨a,e,⟨xs,hq⟩,q⟩:=q1;subst e;cases r1;obtain⟨its,rv,p,hz⟩:=I1.tuple hq;refine wpAny_pyIter_tuple (show s1.heap.IsTuple a its.toArray from p) ?_;refine⟨s1.heap.objs.size,[s1.heap.objs.size],_,_,H1,rfl,I1.kept (t':=s1.toks) fun b o e=>Ag _ e,w8 a _,⟨_,An _ rfl,rfl,rfl⟩,fun b hb=>?_,q⟩;have e:b=s1.heap.objs.size:=by simpa using hb
 subst e;exact I1.fpOk (Ah _) (I1.hok.fresh (Ah _))
theorem a0m{pins:List (GV×Obj)}{σ:St}{H:Hp}{s:GW}{R:It->Hp->Prop}{E:GQ->GW->Prop}{lo hi:Int}{t u v:Tok}{tk:Nat}(I:Inv X pins σ H s)(h1 : -(2 ^ 62)<=lo)(h2:lo<2 ^ 62)(h3 : -(2 ^ 62)<=hi)(h4:hi<2 ^ 62)(q:R (Itr lo (hi-lo).toNat) H):GY (Gy X.prog X.w) X.A (pyIter (.ref s.heap.objs.size)) (PIE X pins σ tg R) E {s with heap:=s.heap.push {cls:=.type "range",data:=.fields #[.int lo t,.int hi u,.int 1 v]},toks:=tk}:=by
 refine wpAny_pyIter_range (IsRange.new ..) (small_one h1 h2 h3 h4) ?_;have I1:Inv X pins σ H {s with heap:=s.heap.push {cls:=.type "range",data:=.fields #[.int lo t,.int hi u,.int 1 v]},toks:=tk}:=I.kept fun b o e=>Ag _ e;refine⟨(s.heap.push {cls:=.type "range",data:=.fields #[.int lo t,.int hi u,.int 1 v]}).objs.size,[(s.heap.push {cls:=.type "range",data:=.fields #[.int lo t,.int hi u,.int 1 v]}).objs.size],_,_,H,rfl,
  I1.kept (t':=tk) fun b o e=>Ag _ e,vv _ lo (hi-lo).toNat,?_,fun b hb=>?_,q⟩
 . have e1:lo+((0:Nat):Int)*1=lo:=by simp
   have e2:(((hi-lo).toNat:Nat):Int)-((0:Nat):Int)=Builtin.Range.rangeSize lo hi 1:=by rw[rangeSize_one];split<;>omega
   show IsRangeIter _ _ (lo+((0:Nat):Int)*1) ((((hi-lo).toNat:Nat):Int)-((0:Nat):Int)) 1;rw[e1,e2];exact An _ rfl
 . have e:b=(s.heap.push {cls:=.type "range",data:=.fields #[.int lo t,.int hi u,.int 1 v]}).objs.size:=by simpa using hb
   subst e;exact I1.fpOk (Ah _) (I1.hok.fresh (Ah _))
def a3h(ta:TA):TI:=fun σ H R=>ta σ H fun vs H1=>∃j:Int,vs=[.int j] /\ -(2 ^ 62)<=j/\j<2 ^ 62/\R (Itr 0 j.toNat) H1
theorem yk{a:Expr}{ta:TA}{p pos:Pos}(hg:Gl X "range")(hm:X.mg "range"=none)(ha:PA X [a] ta)(hs:Gz [a] X.env=[(false,eval a X.env)]:=by rfl):PI X tg (.Call (.Name "range" p) [a] [] pos) (a3h ta):=by
 intro pins s σ H R I h;refine Call_ (ia I hg hm boot_range (BJ (thn (ha pos pins s σ H _ I h) fun us s1 ⟨vs,H1,I1,r1,q1⟩=>?_) hs rfl));obtain⟨j,e,q1,q2,q⟩:=q1;subst e;cases r1 with
 | cons r rr =>
  cases rr;obtain⟨t,rfl⟩:=r;exact call_range_1 (a0m I1 (by omega) (by omega) q1 q2 (by simpa using q))
def tFor(wi:TI)(g:TG)(tb:TS):TS:=fun D σ H=>wi σ H fun J H1=>∃W:Nat->Nat->St->Hp->Prop,(∃m,W 0 m σ H1)/\∀i m σ H,W i m σ H->
 (J.stop i H/\D.nx σ H)\/(J.go i H/\∃N:St->Hp->Prop,(∀σ' H',N σ' H'->∃m',m'<m/\W (i+1) m' σ' H')/\∀x H',J.yld i H x H'->g x σ H' fun σ2 H2=>tb {D with nx:=N,ct:=N,bk:=D.nx} σ2 H2)
def gg(fp:List GV)(h:HB):List (GV×Obj):=fp.filterMap fun b=>(h.get? b).map fun o=>(b,o)
theorem eh{fp:List GV}{h:HB}{b:GV}{o:Obj}(hb:b∈fp)(e:h.get? b=some o):(b,o)∈gg fp h:=List.mem_filterMap.mpr ⟨b,hb,by rw[e];rfl⟩
theorem xk{fp:List GV}{h:HB}{p:GV×Obj}(hp:p∈gg fp h):p.1∈fp/\h.get? p.1=some p.2:=by
 obtain⟨b,hb,e⟩:=List.mem_filterMap.mp hp;cases q:h.get? b with
 | none=>rw[q] at e;cases e
 | some o =>
  rw[q] at e;have e':(b,o)=p:=Ap e;subst e';exact⟨hb,q⟩
theorem Inv.pinned{pins:List (GV×Obj)}{σ:St}{H:Hp}{s:GW}{fp:List GV}(I:Inv X pins σ H s)(hf:∀b∈fp,FpOk X pins H b)(ho:∀b∈fp,∃o,s.heap.get? b=some o/\∀v,o.data≠.cell v):Inv X (pins++gg fp s.heap) σ H s :=
 I.pins_of fun p hp=>(Ad.mp hp).elim (fun z=>I.pin p (AG _ z)) fun z=>by
  obtain⟨hb,e⟩:=xk z;obtain⟨f0,f1,f2,_⟩:=hf p.1 hb;obtain⟨o,e',d⟩:=ho p.1 hb;rw[e] at e';cases e';exact⟨e,f0,f1,f2,d⟩
theorem Inv.unpinned{pins pl:List (GV×Obj)}{σ:St}{H:Hp}{s:GW}(I:Inv X (pins++pl) σ H s):Inv X pins σ H s:=I.pins_of fun p hp=>I.pin p (AG _ (EM _ hp))
theorem a00{iter:Expr}{body:List HF}{wi:TI}{g:TG}{tb:TS}{pos:Pos}(hp:PassesOwn (Gy X.prog X.w) X.A X.env X.xe)(hc:X.calm=true)(hi:PI X tg iter wi)(hg:PG X tg g)(hb:PSs X body tb)(hs:∀x,HE iter X.env x=pure x:=by intro _;rfl):PS X (.For tg iter body [] pos) (tFor wi g tb):=by
 intro pins s σ H D I h;refine wpAny_For (thn (hi pins s σ H _ I h) fun v s1 h1=>thn h1 fun itv s2 h2=>?_) hs;obtain⟨it,fp,tn,J,H2,e,I2,T,st2,f2,W,⟨m0,w0⟩,turn⟩:=h2;subst e;have stat:∀{H':Hp},(∀b∈fp,H' b=none)->∀b∈fp,FpOk X pins H' b:=fun hn b hb=>⟨hn b hb,(f2 b hb).2⟩
 refine codeAny_forLoop_any (fun n s'=>∃i σ' H',Inv X pins σ' H' s'/\tn i s'.heap/\(∀b∈fp,H' b=none)/\W i n σ' H') ?_ m0 ⟨0,σ,H2,I2,st2,fun b hb=>(f2 b hb).1,w0⟩;rintro n s3 ⟨i,σ3,H3,I3,st3,fr3,w3⟩;rcases turn i n σ3 H3 w3 with⟨stop,qn⟩|⟨go,N,hN,step⟩
 . refine BP hp (thn (T.done X rfl rfl rfl hc i pins s3 σ3 H3 X.xe I3 (stat fr3) st3 stop) fun r s4 ⟨hr,I4⟩=>?_);subst hr;exact Dc ⟨σ3,H3,I4,qn⟩
 . refine BP hp (thn (T.item X rfl rfl rfl hc i pins s3 σ3 H3 X.xe I3 (stat fr3) st3 go) fun r s4 ⟨u,hr,h4⟩=>?_);subst hr;refine BP hp (thn h4 fun _ s5 ⟨x,H5,I5,r5,y5,st5,fr5⟩=>?_);have I5':=I5.pinned (stat fr5) (T.obj _ _ st5);refine BP hp (thn (hg _ s5 σ3 H5 x u _ I5' r5 (step x H5 y5)) fun _ s6 ⟨σ6,H6,I6,q6⟩=>?_);refine BP hp (thn (hb _ s6 σ6 H6 _ I6 q6) fun f s7 q7=>?_);have again:∀{σ7:St} {H7:Hp},Inv X (pins++gg fp s5.heap) σ7 H7 s7->N σ7 H7->∃m,m<n/\∃i σ' H',Inv X pins σ' H' s7/\tn i s7.heap/\(∀b∈fp,H' b=none)/\W i m σ' H':=fun {σ7 H7} I7 n7=>by
    obtain⟨m',hm,w7⟩:=hN σ7 H7 n7;refine⟨m',hm,i+1,σ7,H7,I7.unpinned,T.keep _ _ _ st5 fun b hb o e=>(I7.pin (b,o) (AG _ (AG _ (eh hb e)))).1,fun b hb=>?_,w7⟩;obtain⟨o,e,d⟩:=T.obj _ _ st5 b hb;exact (I7.pin (b,o) (AG _ (AG _ (eh hb e)))).2.1
   cases f with
   | next=>obtain⟨σ7,H7,I7,n7⟩:=q7;exact again I7 n7
   | cont=>obtain⟨σ7,H7,I7,n7⟩:=q7;exact again I7 n7
   | brk=>obtain⟨σ7,H7,I7,q7⟩:=q7;exact⟨σ7,H7,I7.unpinned,q7⟩
   | ret v=>obtain⟨x7,σ7,H7,I7,r7,q7⟩:=q7;exact⟨x7,σ7,H7,I7.unpinned,r7,q7⟩
end
theorem dm{K:Aa}{a:GV}{xs:List V}{g:TG}{tb:TS}{D:Ends}{σ:St}{H:Hp}(Pv:Nat->St->Hp->Prop)(h0:Pv 0 σ H)(hl:∀i σ H,i<=xs.length->Pv i σ H->SqL K H a xs)(hs:∀i x σ H,xs[i]?=some x->Pv i σ H->g x σ H fun σ2 H2=>tb {D with nx:=Pv (i+1),ct:=Pv (i+1),bk:=D.nx} σ2 H2)(hd:∀σ H,Pv xs.length σ H->D.nx σ H):
 ∃W:Nat->Nat->St->Hp->Prop,(∃m,W 0 m σ H)/\∀i m σ H,W i m σ H->
  ((Itl K a).stop i H/\D.nx σ H)\/((Itl K a).go i H/\∃N:St->Hp->Prop,(∀σ' H',N σ' H'->∃m',m'<m/\W (i+1) m' σ' H')/\∀x H',(Itl K a).yld i H x H'->g x σ H' fun σ2 H2=>tb {D with nx:=N,ct:=N,bk:=D.nx} σ2 H2):=by
 refine⟨fun i m σ H=>m=xs.length-i/\i<=xs.length/\Pv i σ H,⟨xs.length,by simp,A5 _,h0⟩,?_⟩;rintro i m σ H ⟨rfl,hi,p⟩;have q:=hl i σ H hi p;by_cases hlt:i<xs.length
 . refine .inr ⟨⟨xs,xs[i],q,by simp[hlt]⟩,Pv (i+1),fun σ' H' p'=>⟨xs.length-(i+1),by omega,rfl,hlt,p'⟩,fun x H' y=>?_⟩;obtain⟨e,y⟩:=y;subst e;exact hs i x σ _ (y xs q) p
 . have e:i=xs.length:=by omega
   subst e;exact .inl ⟨⟨xs,q,Ah _⟩,hd σ H p⟩
theorem a4b{K:Aa}{a:GV}{xs:List V}{g:TG}{tb:TS}{D:Ends}{σ:St}{H:Hp}(Pv:Nat->St->Hp->Prop)(h0:Pv 0 σ H)(hl:∀i σ H,i<=xs.length->Pv i σ H->SqT K H a xs)(hs:∀i x σ H,xs[i]?=some x->Pv i σ H->g x σ H fun σ2 H2=>tb {D with nx:=Pv (i+1),ct:=Pv (i+1),bk:=D.nx} σ2 H2)(hd:∀σ H,Pv xs.length σ H->D.nx σ H):
 ∃W:Nat->Nat->St->Hp->Prop,(∃m,W 0 m σ H)/\∀i m σ H,W i m σ H->
  ((Itt K a).stop i H/\D.nx σ H)\/((Itt K a).go i H/\∃N:St->Hp->Prop,(∀σ' H',N σ' H'->∃m',m'<m/\W (i+1) m' σ' H')/\∀x H',(Itt K a).yld i H x H'->g x σ H' fun σ2 H2=>tb {D with nx:=N,ct:=N,bk:=D.nx} σ2 H2):=by
 refine⟨fun i m σ H=>m=xs.length-i/\i<=xs.length/\Pv i σ H,⟨xs.length,by simp,A5 _,h0⟩,?_⟩;rintro i m σ H ⟨rfl,hi,p⟩;have q:=hl i σ H hi p;by_cases hlt:i<xs.length
 . refine .inr ⟨⟨xs,xs[i],q,by simp[hlt]⟩,Pv (i+1),fun σ' H' p'=>⟨xs.length-(i+1),by omega,rfl,hlt,p'⟩,fun x H' y=>?_⟩;obtain⟨e,y⟩:=y;subst e;exact hs i x σ _ (y xs q) p
 . have e:i=xs.length:=by omega
   subst e;exact .inl ⟨⟨xs,q,Ah _⟩,hd σ H p⟩
theorem di{lo:Int}{n:Nat}{g:TG}{tb:TS}{D:Ends}{σ:St}{H:Hp}(Pv:Nat->St->Hp->Prop)(h0:Pv 0 σ H)(hs:∀i σ H,i<n->Pv i σ H->g (.int (lo+i)) σ H fun σ2 H2=>tb {D with nx:=Pv (i+1),ct:=Pv (i+1),bk:=D.nx} σ2 H2)(hd:∀σ H,Pv n σ H->D.nx σ H):
 ∃W:Nat->Nat->St->Hp->Prop,(∃m,W 0 m σ H)/\∀i m σ H,W i m σ H->
  ((Itr lo n).stop i H/\D.nx σ H)\/((Itr lo n).go i H/\∃N:St->Hp->Prop,(∀σ' H',N σ' H'->∃m',m'<m/\W (i+1) m' σ' H')/\∀x H',(Itr lo n).yld i H x H'->g x σ H' fun σ2 H2=>tb {D with nx:=N,ct:=N,bk:=D.nx} σ2 H2):=by
 refine⟨fun i m σ H=>m=n-i/\i<=n/\Pv i σ H,⟨n,by simp,A5 _,h0⟩,?_⟩;rintro i m σ H ⟨rfl,hi,p⟩;by_cases hlt:i<n
 . refine .inr ⟨hlt,Pv (i+1),fun σ' H' p'=>⟨n-(i+1),by omega,rfl,hlt,p'⟩,fun x H' y=>?_⟩;obtain⟨e,y⟩:=y;subst e y;exact hs i σ _ hlt p
 . have e:i=n:=by omega
   subst e;exact .inl ⟨Ah _,hd σ H p⟩
abbrev R2:=V->V->Hp->VK->Prop
def OpR(X:Cx)(f:GQ->GQ->Sem GQ)(r:R2):Prop :=
 ∀(pins:List (GV×Obj)) (s:GW) (σ:St) (H:Hp) (x y:V) (v u:GQ) (Q:VK),Inv X pins σ H s->RelV x v->RelV y u->r x y H Q->
   GY (Gy X.prog X.w) X.A (f v u) (EP X pins σ Q) X.xe s
def UnR(X:Cx)(f:GQ->Sem GQ)(r:V->Hp->VK->Prop):Prop :=
 ∀(pins:List (GV×Obj)) (s:GW) (σ:St) (H:Hp) (x:V) (v:GQ) (Q:VK),Inv X pins σ H s->RelV x v->r x H Q->
   GY (Gy X.prog X.w) X.A (f v) (EP X pins σ Q) X.xe s
def du(X:Cx)(f:GQ)(r:List V->Hp->VK->Prop):Prop :=
 ∀(pins:List (GV×Obj)) (s:GW) (σ:St) (H:Hp) (xs:List V) (us:List GQ) (Q:VK),Inv X pins σ H s->Vals xs us->r xs H Q->
   GY (Gy X.prog X.w) X.A (call f us) (EP X pins σ Q) X.xe s
def TruR(X:Cx)(r:V->Hp->(Bool->Hp->Prop)->Prop):Prop :=
 ∀(pins:List (GV×Obj)) (s:GW) (σ:St) (H:Hp) (x:V) (v:GQ) (Q:Bool->Hp->Prop),Inv X pins σ H s->RelV x v->r x H Q->
   GY (Gy X.prog X.w) X.A (truthy v) (TP X pins σ Q) X.xe s
def tOp(r:R2)(ta tb:TE):TE:=fun σ H Q=>ta σ H fun x H1=>tb σ H1 fun y H2=>r x y H2 Q
def tUn(r:V->Hp->VK->Prop)(ta:TE):TE:=fun σ H Q=>ta σ H fun x H1=>r x H1 Q
def rI(C:Int->Int->Prop)(g:Int->Int->V):R2:=fun x y H Q=>∃i j,x=.int i/\y=.int j/\C i j/\Q (g i j) H
def rI0(g:Int->Int->V):R2:=fun x y H Q=>∃i j,x=.int i/\y=.int j/\Q (g i j) H
def rU(g:Int->V):V->Hp->VK->Prop:=fun x H Q=>∃i,x=.int i/\Q (g i) H
section
variable{X:Cx}{a b c:Expr}{ta tb tc:TE}{pos:Pos}
theorem binT(ha:PE X a ta)(hb:PE X b tb){pins:List (GV×Obj)}{s:GW}{σ:St}{H:Hp}{R:V->V->Hp->Prop}(I:Inv X pins σ H s)(h:ta σ H fun x H1=>tb σ H1 fun y H2=>R x y H2){Q:GQ->GW->Prop}{f:GQ->GQ->Sem GQ}(hf:∀v u s2 x y H2,Inv X pins σ H2 s2->RelV x v->RelV y u->R x y H2->GY (Gy X.prog X.w) X.A (f v u) Q X.xe s2):
 GY (Gy X.prog X.w) X.A (eval a X.env) (fun v s₁=>GY (Gy X.prog X.w) X.A (eval b X.env) (fun u s₂=>GY (Gy X.prog X.w) X.A (f v u) Q X.xe s₂) X.xe s₁) X.xe s:=by
 refine thn (ha pins s σ H _ I h) fun v s1 ⟨x,H1,I1,r1,q1⟩=>?_;refine thn (hb pins s1 σ H1 _ I1 q1) fun u s2 ⟨y,H2,I2,r2,q2⟩=>?_;exact hf v u s2 x y H2 I2 r1 r2 q2
theorem a2r{op:Operator}{r:R2}(ho:OpR X (HR op) r)(ha:PE X a ta)(hb:PE X b tb):PE X (.BinOp a op b pos) (tOp r ta tb):=by
 intro pins s σ H Q I h;exact wpAny_BinOp (binT ha hb I h fun v u s2 x y H2 I2 rx ry q=>ho pins s2 σ H2 x y v u Q I2 rx ry q)
theorem a3f{op:UnaryOp}{r:V->Hp->VK->Prop}(ho:UnR X (unaryOp op) r)(ha:PE X a ta):PE X (.UnaryOp op a pos) (tUn r ta):=by
 intro pins s σ H Q I h;exact UnaryOp_ (thn (ha pins s σ H _ I h) fun v s1 ⟨x,H1,I1,r1,q1⟩=>ho pins s1 σ H1 x v Q I1 r1 q1)
theorem opI{f:GQ->GQ->Sem GQ}{C:Int->Int->Prop}{g:Int->Int->Int}(rule:∀(i j:Int) (t u:Tok) (s:GW) (Q:GQ->GW->Prop) (E:GQ->GW->Prop),C i j->Q (.int (g i j) s.toks) {s with toks:=s.toks+1}->GY (Gy X.prog X.w) X.A (f (.int i t) (.int j u)) Q E s):
 OpR X f (rI C fun i j=>.int (g i j)):=by
 intro pins s σ H x y v u Q I rx ry h;obtain⟨i,j,rfl,rfl,hc,q⟩:=h;obtain⟨t,rfl⟩:=rx;obtain⟨t',rfl⟩:=ry;exact rule i j t t' s _ _ hc ⟨.int (g i j),H,I.tok _,⟨_,rfl⟩,q⟩
theorem opI0{f:GQ->GQ->Sem GQ}{g:Int->Int->Int}(rule:∀(i j:Int) (t u:Tok) (s:GW) (Q:GQ->GW->Prop) (E:GQ->GW->Prop),Q (.int (g i j) s.toks) {s with toks:=s.toks+1}->GY (Gy X.prog X.w) X.A (f (.int i t) (.int j u)) Q E s):
 OpR X f (rI0 fun i j=>.int (g i j)):=by
 intro pins s σ H x y v u Q I rx ry h;obtain⟨i,j,rfl,rfl,q⟩:=h;obtain⟨t,rfl⟩:=rx;obtain⟨t',rfl⟩:=ry;exact rule i j t t' s _ _ ⟨.int (g i j),H,I.tok _,⟨_,rfl⟩,q⟩
theorem opB0{f:GQ->GQ->Sem GQ}{g:Int->Int->Bool}(rule:∀(i j:Int) (t u:Tok) (s:GW) (Q:GQ->GW->Prop) (E:GQ->GW->Prop),Q (.bool (g i j)) s->GY (Gy X.prog X.w) X.A (f (.int i t) (.int j u)) Q E s):
 OpR X f (rI0 fun i j=>.bl (g i j)):=by
 intro pins s σ H x y v u Q I rx ry h;obtain⟨i,j,rfl,rfl,q⟩:=h;obtain⟨t,rfl⟩:=rx;obtain⟨t',rfl⟩:=ry;exact rule i j t t' s _ _ ⟨.bl (g i j),H,I,rfl,q⟩
def CDiv(i j:Int):Prop:=0<j/\j<1073741824
def CPow(i j:Int):Prop:=0<=j/\j<=1000000/\i.natAbs<2 ^ 64
def CMul(i j:Int):Prop:=(-(2 ^ 64)<i/\i<2 ^ 64)\/(-(2 ^ 64)<j/\j<2 ^ 64)
theorem CMul.ok{i j:Int}(h:CMul i j):IntMulOk i j:=by
 rcases h with⟨h1,h2⟩|⟨h1,h2⟩
 . exact .of_left (intBits_le_64 h1 h2)
 . exact .of_right (intBits_le_64 h1 h2)
theorem bu:OpR X (HR .Add) (rI0 fun i j=>.int (i+j)):=opI0 fun _ _ _ _ _ _ _ q=>add_int q
theorem a6v:OpR X (HR .Sub) (rI0 fun i j=>.int (i-j)):=opI0 fun _ _ _ _ _ _ _ q=>sub_int q
theorem g5:OpR X (HR .Mult) (rI CMul fun i j=>.int (i*j)):=opI fun _ _ _ _ _ _ _ hc q=>mul_int q hc.ok
theorem bo:OpR X (HR .FloorDiv) (rI CDiv fun i j=>.int (i / j)):=opI fun i j _ _ _ _ _ hc q=>by
 have h1:(0:Int)<j:=hc.1;have h2:j<1073741824:=hc.2;exact floordiv_int (by omega) (by rw[DG i (by omega)];exact q) (.inl (PyProof.noPylong_small (by omega)))
theorem bb:OpR X (HR .Mod) (rI (fun _ j=>0<j) fun i j=>.int (i % j)):=opI fun i j _ _ _ _ _ hc q=>by
 have h1:(0:Int)<j:=hc;exact mod_int' (by omega) (by rw[Int.fmod_eq_emod_of_nonneg i (by omega)];exact q)
theorem a6e:OpR X (HR .Pow) (rI CPow fun i j=>.int (i ^ j.toNat)):=opI fun _ _ _ _ _ _ _ hc q=>pow_int_small hc.1 hc.2.1 hc.2.2 q
theorem unI{f:GQ->Sem GQ}{g:Int->Int}(rule:∀(i:Int) (t:Tok) (s:GW) (Q:GQ->GW->Prop) (E:GQ->GW->Prop),Q (.int (g i) s.toks) {s with toks:=s.toks+1}->GY (Gy X.prog X.w) X.A (f (.int i t)) Q E s):
 UnR X f (rU fun i=>.int (g i)):=by
 intro pins s σ H x v Q I rx h;obtain⟨i,rfl,q⟩:=h;obtain⟨t,rfl⟩:=rx;exact rule i t s _ _ ⟨.int (g i),H,I.tok _,⟨_,rfl⟩,q⟩
theorem ll:UnR X (unaryOp .USub) (rU fun i=>.int (-i)):=unI fun _ _ _ _ _ q=>neg_int q
end
def scal:V->V->Bool
 | .non,.non=>true|.non,.int _=>true|.int _,.non=>true|.non,.bl _=>true|.bl _,.non=>true|.non,.str _=>true|.str _,.non=>true
 | .int _,.int _=>true|.bl _,.bl _=>true|.str _,.str _=>true|.byt _,.byt _=>true
 | .int _,.str _=>true|.str _,.int _=>true|.bl _,.str _=>true|.str _,.bl _=>true
 | _,_=>false
def rEq:R2:=fun x y H Q=>scal x y=true/\Q (.bl (decide (x=y))) H
def rNe:R2:=fun x y H Q=>scal x y=true/\Q (.bl (!decide (x=y))) H
theorem ut{i j:Int}:decide (V.int i=V.int j)=(i==j):=by
 rw[Bm];simp
theorem zq{i j:Bool}:decide (V.bl i=V.bl j)=(i==j):=by
 rw[Bm];simp
theorem uy{i j:Str}:decide (V.str i=V.str j)=(i==j):=by
 rw[Bm];simp
theorem uh{i j:Array UInt8}:decide (V.byt i=V.byt j)=(i.toList==j.toList):=by
 rw[Bm];cases i;cases j;simp
section
variable{X:Cx}{a b c:Expr}{ta tb tc:TE}{pos:Pos}
theorem bj{pins:List (GV×Obj)}{σ:St}{H:Hp}{s:GW}{Q:VK}{k k':Bool}(I:Inv X pins σ H s)(q:Q (.bl k) H)(e:k=k'):EP X pins σ Q (.bool k') s:=by
 subst e;exact⟨.bl k,H,I,rfl,q⟩
theorem c3:OpR X (HI .Eq) rEq:=by
 intro pins s σ H x y v u Q I rx ry h;obtain⟨hs,q⟩:=h;cases x with
 | non =>
  cases rx;cases y with
  | non=>cases ry;exact PySem.EqNone.eq_none_none (bj I q (by simp))
  | bl j=>cases ry;exact PySem.EqNone.eq_none_bool (bj I q (by simp))
  | int j=>obtain⟨t',rfl⟩:=ry;exact PySem.EqNone.eq_none_int (bj I q (by simp))
  | str j=>obtain⟨t',rfl⟩:=ry;exact PySem.EqNone.eq_none_str (bj I q (by simp))
  | _=>exact absurd (show false=true from hs) Aq
 | bl i =>
  cases rx;cases y with
  | non=>cases ry;exact PySem.EqNone.eq_bool_none (bj I q (by simp))
  | bl j=>cases ry;exact eq_bool (bj I q zq)
  | str j=>obtain⟨t',rfl⟩:=ry;exact PySem.EqMixed.eq_bool_str (bj I q (by simp))
  | _=>exact absurd (show false=true from hs) Aq
 | int i =>
  obtain⟨t,rfl⟩:=rx;cases y with
  | non=>cases ry;exact PySem.EqNone.eq_int_none (bj I q (by simp))
  | int j=>obtain⟨t',rfl⟩:=ry;exact eq_int (bj I q ut)
  | str j=>obtain⟨t',rfl⟩:=ry;exact PySem.EqMixed.eq_int_str (bj I q (by simp))
  | _=>exact absurd (show false=true from hs) Aq
 | str i =>
  obtain⟨t,rfl⟩:=rx;cases y with
  | non=>cases ry;exact PySem.EqNone.eq_str_none (bj I q (by simp))
  | bl j=>cases ry;exact PySem.EqMixed.eq_str_bool (bj I q (by simp))
  | int j=>obtain⟨t',rfl⟩:=ry;exact PySem.EqMixed.eq_str_int (bj I q (by simp))
  | str j=>obtain⟨t',rfl⟩:=ry;exact eq_str (bj I q uy)
  | _=>exact absurd (show false=true from hs) Aq
 | byt i =>
  obtain⟨t,rfl⟩:=rx;cases y with
  | byt j=>obtain⟨t',rfl⟩:=ry;exact PySem.W.eq_bytes (bj I q uh)
  | _=>exact absurd (show false=true from hs) Aq
 | _=>cases y<;>exact absurd (show false=true from hs) Aq
theorem gz:OpR X (HI .NotEq) rNe:=by
 intro pins s σ H x y v u Q I rx ry h;obtain⟨hs,q⟩:=h;cases x with
 | non =>
  cases rx;cases y with
  | non=>cases ry;exact PySem.EqNone.ne_none_none (bj I q (by simp))
  | bl j=>cases ry;exact PySem.EqNone.ne_none_bool (bj I q (by simp))
  | int j=>obtain⟨t',rfl⟩:=ry;exact PySem.EqNone.ne_none_int (bj I q (by simp))
  | str j=>obtain⟨t',rfl⟩:=ry;exact PySem.EqNone.ne_none_str (bj I q (by simp))
  | _=>exact absurd (show false=true from hs) Aq
 | bl i =>
  cases rx;cases y with
  | non=>cases ry;exact PySem.EqNone.ne_bool_none (bj I q (by simp))
  | bl j=>cases ry;exact ne_bool (bj I q (congrArg not zq))
  | str j=>obtain⟨t',rfl⟩:=ry;exact PySem.EqMixed.ne_bool_str (bj I q (by simp))
  | _=>exact absurd (show false=true from hs) Aq
 | int i =>
  obtain⟨t,rfl⟩:=rx;cases y with
  | non=>cases ry;exact PySem.EqNone.ne_int_none (bj I q (by simp))
  | int j=>obtain⟨t',rfl⟩:=ry;exact ne_int (bj I q (congrArg not ut))
  | str j=>obtain⟨t',rfl⟩:=ry;exact PySem.EqMixed.ne_int_str (bj I q (by simp))
  | _=>exact absurd (show false=true from hs) Aq
 | str i =>
  obtain⟨t,rfl⟩:=rx;cases y with
  | non=>cases ry;exact PySem.EqNone.ne_str_none (bj I q (by simp))
  | bl j=>cases ry;exact PySem.EqMixed.ne_str_bool (bj I q (by simp))
  | int j=>obtain⟨t',rfl⟩:=ry;exact PySem.EqMixed.ne_str_int (bj I q (by simp))
  | str j=>obtain⟨t',rfl⟩:=ry;exact ne_str (bj I q (congrArg not uy))
  | _=>exact absurd (show false=true from hs) Aq
 | byt i =>
  obtain⟨t,rfl⟩:=rx;cases y with
  | byt j=>obtain⟨t',rfl⟩:=ry;exact PySem.W.ne_bytes (bj I q (congrArg not uh))
  | _=>exact absurd (show false=true from hs) Aq
 | _=>cases y<;>exact absurd (show false=true from hs) Aq
theorem j1:OpR X (HI .Lt) (rI0 fun i j=>.bl (decide (i<j))):=opB0 fun _ _ _ _ _ _ _ q=>lt_int q
theorem a2u:OpR X (HI .Gt) (rI0 fun i j=>.bl (decide (j<i))):=opB0 fun _ _ _ _ _ _ _ q=>gt_int q
theorem fi:OpR X (HI .Is) (fun x y H Q=>y=.non/\Q (.bl (decide (x=.non))) H):=by
 intro pins s σ H x y v u Q I rx ry h;obtain⟨rfl,q⟩:=h;cases ry;refine is_none_gen (bj I q ?_);cases x<;>first
  | (cases rx;rfl)
  | (obtain⟨t,rfl⟩:=rx;rfl)
theorem a53:OpR X (HI .IsNot) (fun x y H Q=>y=.non/\Q (.bl (!decide (x=.non))) H):=by
 intro pins s σ H x y v u Q I rx ry h;obtain⟨rfl,q⟩:=h;cases ry;refine isnot_none_gen (bj I q ?_);cases x<;>first
  | (cases rx;rfl)
  | (obtain⟨t,rfl⟩:=rx;rfl)
theorem b0(b:Expr){op:CmpOp}(h:op≠.In:=by decide)(h2:op≠.NotIn:=by decide):HG op b=false:=by
 have e1:(op==CmpOp.In)=false:=by cases op<;>first|rfl|exact absurd rfl h
 have e2:(op==CmpOp.NotIn)=false:=by cases op<;>first|rfl|exact absurd rfl h2
 cases b<;>simp[HG,e1,e2]
theorem a4v{op:CmpOp}{r:R2}(ho:OpR X (HI op) r)(ha:PE X a ta)(hb:PE X b tb)(hm:HG op b=false):PE X (.Compare a [op] [b] pos) (tOp r ta tb):=by
 intro pins s σ H Q I h;exact wpAny_Compare1 (binT ha hb I h fun v u s2 x y H2 I2 rx ry q=>ho pins s2 σ H2 x y v u Q I2 rx ry q) hm
def a2v(t:TE):TT:=fun σ H Q=>t σ H fun x H'=>∃k,x=.bl k/\Q k H'
theorem u9{op:CmpOp}{r:R2}(ho:OpR X (HI op) r)(ha:PE X a ta)(hb:PE X b tb)(hm:HG op b=false):PT X (.Compare a [op] [b] pos) (a2v (tOp r ta tb)):=by
 intro pins s σ H Q I h;refine E8 (thn (ha pins s σ H _ I h) fun v s1 ⟨x,H1,I1,r1,q1⟩=>thn (hb pins s1 σ H1 _ I1 q1) fun u s2 ⟨y,H2,I2,r2,q2⟩ =>
  thn (ho pins s2 σ H2 x y v u _ I2 r1 r2 q2) fun c s3 ⟨z,H3,I3,r3,k,e,q3⟩=>?_) hm
 subst e;cases r3;exact Bt ⟨H3,I3,q3⟩
def TruV(K:Aa)(x:V)(H:Hp)(k:Bool):Prop :=
 match x with
 | .non=>k=false
 | .bl b=>k=b
 | .int i=>k=(i != 0)
 | .str y=>y.length<=GX/\k=((y.length:Int) != 0)
 | .byt y=>y.size<=GX/\k=((y.size:Int) != 0)
 | .ref p=>(∃xs,SqL K H p xs/\k = !xs.isEmpty)\/(∃xs,SqT K H p xs/\k = !xs.isEmpty)\/∃kvs,H p=some (.dK kvs)/\k = !kvs.isEmpty
 | _=>False
theorem w4{κ:Type}{kvs:List (κ×V)}{vs:List (κ×GQ)}(r:KV kvs vs):(!vs.isEmpty) = !kvs.isEmpty:=by
 cases r<;>rfl
theorem ld{xs:List V}{its:List GQ}(r:Vals xs its):(!its.toArray.isEmpty) = !xs.isEmpty:=by
 cases r<;>simp
theorem jc:(GX:Nat)<2 ^ 63:=by rw[DB];decide
theorem a6x:TruR X (fun x H Q=>∃k,TruV X.K x H k/\Q k H):=by
 intro pins s σ H x v Q I rx h;obtain⟨k,e,q⟩:=h;have hl:=jc;have hs:GX=16777216:=DB;cases x with
 | non =>
  cases rx;have e':k=false:=e;subst e';exact truthy_none ⟨H,I,q⟩
 | bl b =>
  cases rx;have e':k=b:=e;subst e';exact Bt ⟨H,I,q⟩
 | int i =>
  obtain⟨t,rfl⟩:=rx;have e':k=(i != 0):=e;subst e';exact PySem.P.truthy_int ⟨H,I,q⟩
 | str y =>
  obtain⟨t,rfl⟩:=rx;obtain⟨hy,e'⟩:y.length<=GX/\k=((y.length:Int) != 0):=e;subst e';exact PySem.P.truthy_str (by omega) ⟨H,I.tok _,q⟩
 | byt y =>
  obtain⟨t,rfl⟩:=rx;obtain⟨hy,e'⟩:y.size<=GX/\k=((y.size:Int) != 0):=e;subst e';exact PySem.W.truthy_bytes (by omega) ⟨H,I.tok _,q⟩
 | ref p =>
  cases rx;have e':(∃xs,SqL X.K H p xs/\k = !xs.isEmpty)\/(∃xs,SqT X.K H p xs/\k = !xs.isEmpty)\/∃kvs,H p=some (.dK kvs)/\k = !kvs.isEmpty:=e;rcases e' with⟨xs,hx,e'⟩|⟨xs,hx,e'⟩|⟨kvs,hx,e'⟩
  . subst e';obtain⟨its,r,pl,hz⟩:=I.list hx;have hlen:=r.length;exact wpAny_truthy_list pl.isList (by simp only[As];omega) ⟨H,I.tok _,by rw[ld r];exact q⟩
  . subst e';obtain⟨its,r,pl,hz⟩:=I.tuple hx;have hlen:=r.length;exact truthy_tuple pl (by simp only[As];omega) ⟨H,I.tok _,by rw[ld r];exact q⟩
  . subst e';obtain⟨hz,hS,vs,r,m⟩:kvs.length<=GX/\(p==HJ)=false/\∃vs,KV kvs vs/\s.heap.DictOf (c4 X.prog X.w) p vs:=I.hok p _ hx;have hlen:kvs.length=vs.length:=A8 r;exact wpAny_truthy_dict hS m (by omega) ⟨H,I.tok _,by rw[w4 r];exact q⟩
 | _=>exact (show False from e).elim
theorem a07(ha:PE X a ta)(he:∀whole,isTrue a X.env whole=(do let v<-whole;standAt a.pos;holding [v] (truthy v))):
 PT X a (fun σ H Q=>ta σ H fun x H'=>∃k,TruV X.K x H' k/\Q k H'):=by
 intro pins s σ H Q I h;exact isTrue_plain (thn (ha pins s σ H _ I h) fun v s1 ⟨x,H1,I1,r1,q1⟩=>a6x pins s1 σ H1 x v Q I1 r1 q1) (he _)
theorem g9:OpR X (HR .Add) (fun x y H Q=>∃i j,x=.str i/\y=.str j/\i.length+j.length<=GX/\Q (.str (i++j)) H):=by
 intro pins s σ H x y v u Q I rx ry h;obtain⟨i,j,rfl,rfl,hz,q⟩:=h;obtain⟨t,rfl⟩:=rx;obtain⟨t',rfl⟩:=ry;exact add_str (fun t' tk=>⟨.str (i++j),H,I.tok _,⟨_,rfl⟩,q⟩) hz
theorem wf{x:V}{us:List GQ}(r:Vals [x] us):∃u,us=[u]/\RelV x u:=by
 cases r with
 | cons r1 r2=>cases r2;exact⟨_,rfl,r1⟩
theorem a76{x y:V}{us:List GQ}(r:Vals [x,y] us):∃u w',us=[u,w']/\RelV x u/\RelV y w':=by
 cases r with
 | cons r1 r2 =>
  cases r2 with
  | cons r3 r4=>cases r4;exact⟨_,_,rfl,r1,r3⟩
end
structure ObjM(h:HB)(x dx C:GV)(mA:Str->Option GQ):Prop where
 obj:h.get? x=some (B6 C dx)
 ns:h.Ns1 dx mA
 ne:dx≠x
theorem a03{h:HB}{dx:GV}{mA:Str->Option GQ}(n:h.Ns1 dx mA):∃od,h.get? dx=some od/\∀name,Du name od=some (mA name):=by
 obtain⟨o,es,ep,ho,hd,hk,_,hm⟩:=n;refine⟨o,ho,fun name=>?_⟩;have e:=hm name;unfold nsFind findBy at e;rw[<- Array.find?_toList] at e;unfold Du;rw[hd];dsimp only;split
 . rename_i y q;rw[q] at e;exact congrArg some e
 . rename_i q;rw[q] at e;have a:es.toList.any (·.refKey)=false:=by
    rw[List.any_eq_false];intro y hy;obtain⟨z,t,hkey⟩:=hk y (Array.mem_toList_iff.mp hy);simp[DictEntry.refKey,hkey]
   have a':¬ es.toList.any (·.refKey)=true:=by rw[a];exact Aq
   rw[if_neg a'];exact congrArg some e
theorem ObjM.look{h:HB}{x dx C:GV}{mA:Str->Option GQ}(I:ObjM h x dx C mA):∃od,PySem.W.InstAt h x (B6 C dx) C (some od)/\∀name,Du name od=some (mA name) :=
 let ⟨od,ho,hl⟩:=a03 I.ns
 ⟨od,⟨I.obj,rfl,rfl,ho⟩,hl⟩
section
variable{prog:Gx}{w:G9}{A:HC}{E:GQ->GW->Prop}{s:GW}{K:Aa}{x dx C f:GV}{mA:Str->Option GQ}{name:Str}{v:GQ}
theorem a3p{expr:Bool}{Q:GQ->GW->Prop}(X:K.In s.heap)(I:ObjM s.heap x dx C mA)(hg:Ca K C name=true)(hh:Co K C=true)(ha:Ak K (.ref C) name=some none)(hv:mA name=some v)(hv':FK v=true)(h:Q v {s with toks:=s.toks+1}):
 GY (Gy prog w) A (getAttr (.ref x) name expr) Q E s:=by
 obtain⟨od,J,hl⟩:=I.look;exact PySem.W.get_value X J (Dq hg).1 (PySem.W.findObj_own hh ha rfl (by rw[hl,hv])) hv' h
theorem a0a{pl:Sem Bool}{Q:GQ×List GQ->GW->Prop}(X:K.In s.heap)(I:ObjM s.heap x dx C mA)(hg:Ca K C name=true)(hf:Ak K (.ref C) name=some (some (.ref f)))(ht:A7 K (.ref f)=true)(hv:mA name=none)(h:Q (.ref f,[.ref x]) s):
 GY (Gy prog w) A (getMethod (.ref x) name pl) Q E s:=by
 obtain⟨od,J,hl⟩:=I.look;exact PySem.W.method_fn X J (Dq hg).1 (Dq hg).2 hf (beq_iff_eq.mp ht) (by show (Du name od).map (·.isSome)=some false;rw[hl,hv];rfl) h
theorem a58{ns:List Str}{Q:Unit->GW->Prop}(X:K.In s.heap)(I:ObjM s.heap x dx C mA)(hs:Ak K (.ref C) "__setattr__"=some (some (.builtin "object.__setattr__")))(hp:CG K C=true)(ht:Er K C name=some none)(hh:Co K C=true)(hw:Fj mA ns)(hsz:ns.length<=GX)(h:∀h',ObjM h' x dx C (fun y=>if y=name then some v else mA y)->Bq dx s.heap h'->Q () {s with heap:=h',toks:=s.toks+2}):
 GY (Gy prog w) A (setAttr (.ref x) name v) Q E s:=by
 obtain⟨od,J,hl⟩:=I.look;refine PySem.W.set_plain X J hs (PySem.W.osa_open (s:={s with toks:=s.toks+1}) (r:=none) X J hp ht fun b=>?_);obtain⟨cd,hc,hd'⟩:=PySem.W.any_some hh;have hx:s.heap.get? x=some ⟨.ref C,some dx,.plain,#[]⟩:=I.obj;refine Ab (Af (Ab (Ab (wpAny_loadPart hx (Ab (PySem.W.Looks.here (s:={s with toks:=s.toks+1}) (PySem.W.looks_clsIn X hc) ?_))))));rw[hd'];refine Af (a:=some dx) (Ab (Af (Ab ?_)));refine wpAny_nsSet1 (s:={s with toks:=s.toks+1}) I.ns fun h' hn2 hs2=>?_;obtain⟨oD,esD,epD,hoD,hdD,hcD⟩:=hn2.count (PySem.Within.cons name v hw);refine Ab (wpAny_lookBehind hoD (by rw[hdD];exact pastItsLine_dict (AB hcD (by rw[AM];omega))) ?_);exact Af (h _ ⟨(hs2.2 _ (A9 I.ne)).trans I.obj,hn2,I.ne⟩ hs2)
theorem a1p{R:Result->GW->Prop}{vs:List GQ}{kw:List (Str×GQ)}(X:K.In s.heap)(hm:De K C=true)(hi:Ak K (.ref C) "__init__"=some (some (.ref f)))(hf:PySem.W.typeIn K (.ref f)=some (.type "function"))(h:HP (Gy prog w) (A.under (.builtin "type.__call__" ⟨.ref C::vs,kw⟩)) (.call (.ref f) ⟨.ref (s.heap.objs.size+1)::vs,kw⟩) (PySem.W.InitBack (s.heap.objs.size+1) R)
 {s with heap:=(s.heap.push Bu).push (B6 C s.heap.objs.size)}):
 HP (Gy prog w) A (.call (.ref C) ⟨vs,kw⟩) R s:=by
 obtain⟨hh,g,d,t,os⟩:=s;exact PySem.W.make_core (PySem.W.makes_of X hm) (PySem.W.looks_findIn X hi) (fun self=>PySem.W.bind_fn X self hf) (.inl rfl) h
end
def putF(f:Str)(v:V):List (Str×V)->List (Str×V)
 | []=>[(f,v)]
 | (g,x)::r=>if g=f then (g,v)::r else (g,x)::putF f v r
theorem ao(f g:Str)(v:V):∀fs:List (Str×V),(putF f v fs).lookup g=if g=f then some v else fs.lookup g
 | []=>by
  show Ct g [(f,v)]=_;by_cases h:g=f
  . have hb:(g==f)=true:=beq_iff_eq.mpr h;simp only[Ct,hb,if_pos h]
  . have hb:(g==f)=false:=beq_eq_false_iff_ne.mpr h;simp only[Ct,hb,if_neg h]
 | (k,x)::r=>by
  have ih:=ao f g v r;rw[show putF f v ((k,x)::r)=(if k=f then (k,v)::r else (k,x)::putF f v r) from rfl];by_cases hk:k=f
  . rw[if_pos hk];by_cases h:g=k
    . have hb:(g==k)=true:=beq_iff_eq.mpr h;simp only[Ct,hb,if_pos (h.trans hk)]
    . have hb:(g==k)=false:=beq_eq_false_iff_ne.mpr h;simp only[Ct,hb,if_neg (fun e:g=f=>h (e.trans hk.symm))]
  . rw[if_neg hk];by_cases h:g=k
    . have hb:(g==k)=true:=beq_iff_eq.mpr h;simp only[Ct,hb,if_neg (fun e:g=f=>hk (h.symm.trans e))]
    . have hb:(g==k)=false:=beq_eq_false_iff_ne.mpr h;simp only[Ct,hb];exact ih
theorem j4(f:Str)(v:V):∀fs:List (Str×V),f∈(putF f v fs).map (·.1)/\∀g,g∈fs.map (·.1)->g∈(putF f v fs).map (·.1)
 | []=>⟨by simp[putF],fun g h=>by simp at h⟩
 | (k,x)::r=>by
  obtain⟨i1,i2⟩:=j4 f v r;rw[show putF f v ((k,x)::r)=(if k=f then (k,v)::r else (k,x)::putF f v r) from rfl];by_cases hk:k=f
  . rw[if_pos hk];subst hk;exact⟨by simp,fun g h=>by simpa using h⟩
  . rw[if_neg hk];refine⟨?_,fun g h=>?_⟩
    . rw[AI];exact Ay _ i1
    . rw[AI] at h |-;rcases Ar.mp h with e|e
      . exact List.mem_cons.mpr (.inl e)
      . exact Ay _ (i2 g e)
theorem bg(f:Str)(v:V):∀fs:List (Str×V),(putF f v fs).length<=fs.length+1
 | []=>by simp[putF]
 | (k,x)::r=>by
  have ih:=bg f v r;rw[show putF f v ((k,x)::r)=(if k=f then (k,v)::r else (k,x)::putF f v r) from rfl];by_cases hk:k=f
  . rw[if_pos hk,AM,AM];omega
  . rw[if_neg hk,AM,AM];omega
theorem RelO.some_of{v:V}{o:Option GQ}(r:RelO (some v) o):∃u,o=some u/\RelV v u:=by
 cases o with
 | none=>exact (show False from r).elim
 | some u=>exact⟨u,rfl,r⟩
theorem RelO.none_of{o:Option GQ}(r:RelO none o):o=none:=by
 cases o with
 | none=>rfl
 | some u=>exact (show False from r).elim
theorem yw{v:V}{u:GQ}(r:RelV v u):FK u=true:=by
 cases v with
 | non=>cases (show u=Value.none from r);rfl
 | bl b=>cases (show u=Value.bool b from r);rfl
 | int i=>obtain⟨t,e⟩:=(show ∃t,u=Value.int i t from r);cases e;rfl
 | str x=>obtain⟨t,e⟩:=(show ∃t,u=Value.str x t from r);cases e;rfl
 | byt b=>obtain⟨t,e⟩:=(show ∃t,u=Value.bytes b t from r);cases e;rfl
 | flt b=>obtain⟨t,e⟩:=(show ∃t,u=Value.float b t from r);cases e;rfl
 | ref a=>cases (show u=Value.ref a from r);rfl
 | ty n=>cases (show u=Value.type n from r);rfl
section
variable{P:Gx}{w:G9}{H H':Hp}{h h':HB}{a C dx:GV}{fs fs':List (Str×V)}
theorem mh(hok:HOk P w H h)(e:H a=some (.ins C dx fs)):∃mA,ObjM h a dx C mA/\(∀f,RelO (fs.lookup f) (mA f))/\Fj mA (fs.map (·.1))/\fs.length<=1000/\H dx=some (.own a):=by
 obtain⟨d,z,ne,ob,mA,n,r,q⟩:=(show ObjOk P w H h a (.ins C dx fs) from hok a _ e)
 exact⟨mA,⟨ob,n,ne⟩,r,q,z,d⟩
end
structure Cls(K:Aa)(C:GV):Prop where
 pg:Ca K C Gc=true
 hd:Co K C=true
 po:CG K C=true
 sa:Ak K (.ref C) "__setattr__"=some (some (.builtin "object.__setattr__"))
theorem Cls.get{K:Aa}{C:GV}(c:Cls K C)(f:Str):Ca K C f=true:=c.pg
def NoAttr(K:Aa)(C:GV)(f:Str):Prop:=Ak K (.ref C) f=some none
theorem NoAttr.taker{K:Aa}{C:GV}{f:Str}(n:NoAttr K C f):Er K C f=some none:=by
 unfold Er;rw[show Ak K (.ref C) f=some none from n];rfl
structure Con(K:Aa)(C:GV)(f:Str)(v:V)(u:GQ):Prop where
 at_:Ak K (.ref C) f=some (some u)
 rel:RelV v u
 get:PySem.W.specialIn K u "__get__"=some none
 cp:PySem.W.copiedNames.contains f=false
structure Meth(K:Aa)(C:GV)(m:Str)(f:GV):Prop where
 at_:Ak K (.ref C) m=some (some (.ref f))
 fn:A7 K (.ref f)=true
 kp:B3 K (.ref f)=true
section
variable{X:Cx}{pins:List (GV×Obj)}{σ:St}{H:Hp}{s:GW}{a C dx:GV}{fs:List (Str×V)}{f:Str}{v:V}{A:HC}{E:GQ->GW->Prop}
theorem vw{b:Bool}{Q:GQ->GW->Prop}(I:Inv X pins σ H s)(e:H a=some (.ins C dx fs))(c:Cls X.K C)(n:NoAttr X.K C f)(l:fs.lookup f=some v)(h:∀u s',Inv X pins σ H s'->RelV v u->Q u s'):GY (Gy X.prog X.w) A (getAttr (.ref a) f b) Q E s:=by
 obtain⟨mA,O,r,_,_,_⟩:=mh I.hok e;obtain⟨u,hu,ru⟩:=RelO.some_of (v:=v) (o:=mA f) (by rw[<- l];exact r f);exact a3p I.kIn O (c.get f) c.hd n hu (yw ru) (h u _ (I.tok _) ru)
theorem le{m:Str}{g:GV}{pl:Sem Bool}{Q:GQ×List GQ->GW->Prop}(I:Inv X pins σ H s)(e:H a=some (.ins C dx fs))(c:Cls X.K C)(k:Meth X.K C m g)(l:fs.lookup m=none)(h:Q (.ref g,[.ref a]) s):GY (Gy X.prog X.w) A (getMethod (.ref a) m pl) Q E s:=by
 obtain⟨mA,O,r,_,_,_⟩:=mh I.hok e;have hn:mA m=none:=RelO.none_of (by rw[<- l];exact r m);exact a0a I.kIn O (c.get m) k.at_ k.fn hn h
theorem x9{y:V}{u:GQ}{Q:Unit->GW->Prop}(I:Inv X pins σ H s)(e:H a=some (.ins C dx fs))(c:Cls X.K C)(n:NoAttr X.K C f)(hl:fs.length<1000)(ry:RelV y u)(h:∀s',Inv X pins σ (upd H a (.ins C dx (putF f y fs))) s'->Q () s'):GY (Gy X.prog X.w) A (setAttr (.ref a) f u) Q E s:=by
 obtain⟨mA,O,r,wi,_,ho⟩:=mh I.hok e;have hz:(fs.map (·.1)).length<=GX:=by rw[Ac,DB];omega
 refine a58 I.kIn O c.sa c.po n.taker c.hd wi hz fun h' O' sb=>h _ ?_;have hd:∃o,h'.get? dx=some o:=let ⟨o,_,_,e',_⟩:=O'.ns;⟨o,e'⟩;refine I.write (x:=a) (e:=dx) (by rw[e];exact True.intro) (.inr ho) (fun b q hb z=>(sb.2 b hb).trans z) hd ?_;refine⟨by rw[ag O.ne];exact ho,?_,O.ne,O'.obj,_,O'.ns,fun g=>?_,fun g hg=>?_⟩
 . have:=bg f y fs;omega
 . show RelO ((putF f y fs).lookup g) (if g=f then some u else mA g);rw[ao];by_cases q:g=f
   . rw[if_pos q,if_pos q];exact ry
   . rw[if_neg q,if_neg q];exact r g
 . by_cases q:g=f
   . rw[q];exact (j4 f y fs).1
   . refine (j4 f y fs).2 g (wi g fun z=>hg ?_);show (if g=f then some u else mA g)=none;rw[if_neg q];exact z
theorem Inv.made(I:Inv X pins σ H s):Inv X pins σ (upd (upd H s.heap.objs.size (.own (s.heap.objs.size+1))) (s.heap.objs.size+1) (.ins C s.heap.objs.size []))
 {s with heap:=(s.heap.push Bu).push (B6 C s.heap.objs.size)}:=by
 have e1:(s.heap.push Bu).get? s.heap.objs.size=some Bu:=An s.heap rfl;have e2:((s.heap.push Bu).push (B6 C s.heap.objs.size)).get? (s.heap.objs.size+1)=some (B6 C s.heap.objs.size):=by
  have:=An (s.heap.push Bu) (o:=B6 C s.heap.objs.size) rfl
  rwa [Bj] at this
 have e3:(s.heap.push Bu).Ns s.heap.objs.size (fun _=>none):=⟨Bu,#[],_,e1,rfl,(fun e he=>absurd he (by simp)),fun _=>rfl⟩
 have I1:=I.laid (a:=s.heap.objs.size) (o:=.own (s.heap.objs.size+1)) (h':=s.heap.push Bu) (t':=s.toks) (fun b u q=>Ag _ q) (Ah _) ⟨_,e1⟩;refine I1.laid (a:=s.heap.objs.size+1) (o:=.ins C s.heap.objs.size []) (t':=s.toks) (fun b u q=>Ag _ q) (Fk (Bj _ _)) ?_;have ne:s.heap.objs.size≠s.heap.objs.size+1:=Aw (BC _);refine⟨by rw[ag ne,aa],A5 _,ne,e2,fun _=>none,(Heap.Ns1.of_empty e3).at fun o q=>Ag _ q,fun _=>True.intro,fun y hy=>absurd rfl hy⟩
theorem a3n{prog:Gx}{w:G9}{env:Env}{e:Expr}{f:Str}{pos:Pos}{s:GW}{Q:GQ->GW->Prop}(hb:HL e f env (eval e env)=eval e env)(h:GY (Gy prog w) A (eval e env) (fun o s₁=>GY (Gy prog w) A (getAttr o f true) Q E s₁) E s):GY (Gy prog w) A (eval (.Attribute e f pos) env) Q E s :=
 Attribute_any_ h (by rw[arm_eval_Attribute,hb])
end
def tFld(K:Aa)(ta:TE)(f:Str):TE:=fun σ H Q=>ta σ H fun x H1=>∃a C dx fs v,x=.ref a/\H1 a=some (.ins C dx fs)/\Cls K C/\NoAttr K C f/\fs.lookup f=some v/\Q v H1
def sFld(K:Aa)(ta tv:TE)(f:Str):TS:=fun D σ H=>tv σ H fun y H1=>ta σ H1 fun x H2=>∃a C dx fs,x=.ref a/\H2 a=some (.ins C dx fs)/\Cls K C/\NoAttr K C f/\fs.length<1000/\
 D.nx σ (upd H2 a (.ins C dx (putF f y fs)))
section
variable{X:Cx}{o e value:Expr}{f:Str}{pos pos' tpos:Pos}{ta tv:TE}
theorem a6b(he:PE X e ta)(hb:HL e f X.env (eval e X.env)=eval e X.env):PE X (.Attribute e f pos) (tFld X.K ta f):=by
 intro pins s σ H Q I h;refine a3n hb (thn (he pins s σ H _ I h) fun u s1 ⟨x,H1,I1,rx,a,C,dx,fs,v,ex,ea,c,n,l,q⟩=>?_);subst ex;obtain rfl:u=Value.ref a:=rx;exact vw I1 ea c n l fun u' s2 I2 ru=>⟨v,H1,I2,ru,q⟩
theorem a5m(ha:PE X o ta)(hv:PE X value tv)(hs:HN value (some (.Attribute o f pos')) pos.line X.env=pure false):PS X (.Assign [.Attribute o f pos'] value pos) (sFld X.K ta tv f):=by
 intro pins s σ H D I h;refine plainObj_wpAny_Assign_Attribute (thn (hv pins s σ H _ I h) fun u s1 ⟨y,H1,I1,ry,q⟩=>thn (ha pins s1 σ H1 _ I1 q) fun ov s2 ⟨x,H2,I2,rx,a,C,dx,fs,ex,ea,c,n,l,q2⟩=>?_) hs;subst ex;obtain rfl:ov=Value.ref a:=rx;exact x9 I2 ea c n l ry fun s3 I3=>⟨σ,_,I3,q2⟩
end
section
variable{X:Cx}{pins:List (GV×Obj)}{σ:St}{H:Hp}{s:GW}{A:HC}{E:GQ->GW->Prop}{Q:GQ->GW->Prop}{c:GQ}{b:Bool}
end
structure Room(k:Nat)(A:HC):Prop where
 hd:A.handled=none
 dp:A.depth+3*k+5<recursionLimit
 un:A.units+16*k+200<cLine
theorem Room.mono{j k:Nat}{A:HC}(r:Room k A)(h:j<=k):Room j A:=⟨r.hd,by have:=r.dp;omega,by have:=r.un;omega⟩
theorem Room.deeper{k:Nat}{A:HC}(r:Room (k+1) A)(env:Env):Room k (A.deeper env) :=
 ⟨r.hd,by have:=r.dp;show A.depth+1+3*k+5<_;omega,by have:=r.un;show A.units+3+16*k+200<_;omega⟩
theorem wp{A:HC}{C:GV}{us:List GQ}{kw:List (Str×GQ)}:(A.under (.builtin "type.__call__" ⟨.ref C::us,kw⟩)).depth=A.depth+1:=by
 first|rfl|simp[Fm,Code.weight,Code.isCreation,Code.isGuard,Code.isCaller,Gq,Fn,guardIds]
theorem vt{A:HC}{C:GV}{us:List GQ}{kw:List (Str×GQ)}:(A.under (.builtin "type.__call__" ⟨.ref C::us,kw⟩)).units=A.units+1:=by
 first|rfl|simp[Fm,Code.cUnits,Gq,Fn]
theorem Room.make{k:Nat}{A:HC}(r:Room (k+1) A)(C:GV)(us:List GQ)(kw:List (Str×GQ)):Room k (A.under (.builtin "type.__call__" ⟨.ref C::us,kw⟩)) :=
 ⟨r.hd,by have:=r.dp;rw[wp];omega,by have:=r.un;rw[vt];omega⟩
theorem Room.depth{k:Nat}{A:HC}(r:Room k A):A.depth<recursionLimit:=by have:=r.dp;omega
theorem Room.units{k:Nat}{A:HC}(r:Room k A):A.units+64<cLine:=by have:=r.un;omega
def tNil:TA:=fun _ H Q=>Q [] H
def cm(ta:TE)(tr:TA):TA:=fun σ H Q=>ta σ H fun x H1=>tr σ H1 fun xs H2=>Q (x::xs) H2
section
variable{X:Cx}{e:Expr}{es:List Expr}{te:TE}{t:TA}{pos:Pos}
theorem jg:PA X [] tNil:=fun _ _ _ _ H Q I h=>CH ⟨[],H,I,.nil,h⟩
theorem cv(ha:PE X e te)(hr:PA X es t)(hs:Gz (e::es) X.env=(false,eval e X.env)::Gz es X.env:=by rfl):PA X (e::es) (cm te t):=by
 intro pos pins s σ H Q I h;rw[hs];show GY _ _ (spliced ((false,eval e X.env)::HM pos (Gz es X.env))) _ _ s;refine BK (thn (ha pins s σ H _ I h) fun u s1 ⟨x,H1,I1,r1,q1⟩=>?_);exact thn (hr pos pins s1 σ H1 _ I1 q1) fun us s2 ⟨xs,H2,I2,r2,q2⟩=>⟨x::xs,H2,I2,.cons r1 r2,q2⟩
def tTup(t:TA):TE:=fun σ H Q=>t σ H fun xs H1=>xs.length<=GX/\∀p,H1 p=none->Q (.ref p) (upd H1 p (.tup xs))
def tLst(t:TA):TE:=fun σ H Q=>t σ H fun xs H1=>xs.length<=GX/\∀p,H1 p=none->Q (.ref p) (upd H1 p (.lst xs))
theorem yd{x1}(h:PA X es t):PE X (.Tuple es x1 pos) (tTup t):=by
 intro pins s σ H Q I hq;refine wpAny_Tuple_spliced (thn (h pos pins s σ H _ I hq) fun us s1 ⟨xs,H1,I1,r,z,q⟩=>⟨by rw[<- r.length];exact z,?_⟩);have hf:H1 s1.heap.objs.size=none:=I1.hok.fresh (Ah _);refine⟨.ref s1.heap.objs.size,upd H1 s1.heap.objs.size (.tup xs),I1.laid (t':=s1.toks) (fun b u e=>Ag _ e) (Ah _) ?_,rfl,q _ hf⟩;exact⟨z,us,r,⟨_,An _ rfl,rfl,_,rfl⟩⟩
theorem r9(h:PA X es t):PE X (.List es pos) (tLst t):=by
 intro pins s σ H Q I hq;refine wpAny_List_spliced (thn (h pos pins s σ H _ I hq) fun us s1 ⟨xs,H1,I1,r,z,q⟩=>⟨by rw[<- r.length];exact z,?_⟩);have hf:H1 s1.heap.objs.size=none:=I1.hok.fresh (Ah _);refine⟨.ref s1.heap.objs.size,upd H1 s1.heap.objs.size (.lst xs),I1.laid (t':=s1.toks) (fun b u e=>Ag _ e) (Ah _) ?_,rfl,q _ hf⟩;exact⟨z,us,0,r,An _ rfl⟩
end
abbrev Sp:=List V->Hp->VK->XK->Prop
abbrev CXT:=List Env->Hp->GW->XK->GQ->GW->Prop
structure Env0(P:Gx)(w:G9)(K:Aa)(mg:Str->Option GQ)(base:HB)(A:HC)(outer:List Env)(s:GW)(H:Hp):Prop where
 frames:A.frames=some outer
 mod:Mod K mg base
 bs:∀b o,base.get? b=some o->s.heap.get? b=some o/\H b=none
 bsz:base.objs.size<=s.heap.objs.size
 funs:s.heap.FunFrames base outer
 frf:∀b∈frs outer,H b=none
 hok:HOk P w H s.heap
 bare:AllBare s.gens
def CE(outer:List Env)(P:Gx)(w:G9)(H:Hp)(s:GW)(Q:VK)(u:GQ)(s':GW):Prop :=
 ∃v H',s'.os=s.os/\AllBare s'.gens/\Un (frs outer) [] H H' s.heap s'.heap/\HOk P w H' s'.heap/\RelV v u/\Q v H'
def CR(CX:CXT)(outer:List Env)(P:Gx)(w:G9)(H:Hp)(s:GW)(Q:VK)(E:XK)(r:Result)(s':GW):Prop :=
 match r with
 | .ok (.ret u)=>CE outer P w H s Q u s'
 | .ok _=>False
 | .error e=>CX outer H s E e s'
structure FnOk(P:Gx)(w:G9)(K:Aa)(mg:Str->Option GQ)(base:HB)(CX:CXT)(k:Nat)(f:GV)(fd:HA)(ps:List Str)(sp:Sp):Prop where
 len:∀vs H Q E,sp vs H Q E->vs.length=ps.length
 run:∀(A:HC) (outer:List Env) (s:GW) (H:Hp) (args:Args) (us:List GQ) (vs:List V) (Q:VK) (E:XK),Room k A->Env0 P w K mg base A outer s H->BindsTo s fd args (ps.zip us)->Vals vs us->sp vs H Q E->
  HP (Gy P w) A (.call (.ref f) args) (CR CX outer P w H s Q E) s
theorem Env0.make{P:Gx}{w:G9}{K:Aa}{mg:Str->Option GQ}{base:HB}{A:HC}{outer:List Env}{s:GW}{H:Hp}(e:Env0 P w K mg base A outer s H)(C:GV)(us:List GQ)(kw:List (Str×GQ)):
 Env0 P w K mg base (A.under (.builtin "type.__call__" ⟨.ref C::us,kw⟩)) outer s H:=⟨by first|exact e.frames|(simpa [Fm,Code.envs,Fn,pushEnvs] using e.frames),e.mod,e.bs,e.bsz,e.funs,e.frf,e.hok,e.bare⟩
section
variable{X:Cx}{pins:List (GV×Obj)}{σ:St}{H:Hp}{s s':GW}
theorem Inv.env0(I:Inv X pins σ H s):Env0 X.prog X.w X.K X.mg X.base X.A X.stack s H :=
 ⟨I.ok.frames,I.ok.mod,I.bs,AB I.ok.bsz I.sz,I.stack,I.stkFree,I.hok,I.bare⟩
theorem Inv.after{Q:VK}{u:GQ}(I:Inv X pins σ H s)(h:CE X.stack X.prog X.w H s Q u s'):EP X pins σ Q u s':=by
 obtain⟨v,H',os,bare,un,hok,r,q⟩:=h;obtain⟨hh,g,d,t,os'⟩:=s';obtain rfl:os'=s.os:=os;exact⟨v,H',I.call (h':=hh) (g':=g) (d':=d) (t':=t) (ch:=[]) un hok bare (fun b z=>absurd z (by simp)),r,q⟩
end
def a3k(sp:Sp)(dvs:List V)(E:XK)(t:TA):TE:=fun σ H Q=>t σ H fun vs H1=>sp (vs++dvs) H1 Q E
def oq(C:GV)(m:Str)(sp:Sp)(dvs:List V)(E:XK)(ta:TE)(t:TA):TE:=fun σ H Q=>ta σ H fun x H1=>∃a dx fs,x=.ref a/\H1 a=some (.ins C dx fs)/\fs.lookup m=none/\
 t σ H1 fun vs H2=>sp (x::(vs++dvs)) H2 Q E
def a3i(C:GV)(sp:Sp)(dvs:List V)(E:XK)(t:TA):TE:=fun σ H Q=>t σ H fun vs H1=>∀x dx,H1 x=none->H1 dx=none->dx≠x->
 sp (.ref x::(vs++dvs)) (upd (upd H1 dx (.own x)) x (.ins C dx [])) (fun v H2=>v=.non/\Q (.ref x) H2) E
def Binds(K:Aa)(fd:HA)(ps:List Str)(ds:List GQ):Prop :=
 ∀(s:GW) (us:List GQ),K.In s.heap->(us++ds).length=ps.length->BindsTo s fd ⟨us,[]⟩ (ps.zip (us++ds))
theorem Binds.all{K:Aa}{fd:HA}{ps:List Str}(h:∀us:List GQ,us.length=ps.length->bindArgs fd ⟨us,[]⟩=pure (ps.zip us)):Binds K fd ps []:=fun s us _ hl=>by
 rw[Cf] at hl |-;exact .of_eq (h us hl)
def dw(CX:CXT)(X:Cx)(E:XK):Prop:=∀(pins:List (GV×Obj)) (σ:St) (H:Hp) (s:GW) (e:GQ) (s':GW),Inv X pins σ H s->CX X.stack H s E e s'->X.xe e s'
section
variable{X:Cx}{CX:CXT}{k:Nat}{f C:GV}{fd:HA}{ps:List Str}{sp:Sp}{dvs:List V}{ds:List GQ}{E:XK}{x m:Str}{p pos apos:Pos}{e o:Expr}{es:List Expr}{ta:TE}{t:TA}
theorem qx{pins:List (GV×Obj)}{σ:St}{H:Hp}{s:GW}{Q:VK}{us:List GQ}{vs:List V}(F:FnOk X.prog X.w X.K X.mg X.base CX k f fd ps sp)(hr:Room k X.A)(hb:Binds X.K fd ps ds)(hd:Vals dvs ds)(hx:dw CX X E)(I:Inv X pins σ H s)(r:Vals vs us)(h:sp (vs++dvs) H Q E):GY (Gy X.prog X.w) X.A (call (.ref f) us) (EP X pins σ Q) X.xe s:=by
 have r2:Vals (vs++dvs) (us++ds):=r.append hd;have hl:(us++ds).length=ps.length:=by rw[<- r2.length];exact F.len _ _ _ _ h
 refine FT (Cq (F.run X.A X.stack s H ⟨us,[]⟩ (us++ds) (vs++dvs) Q E hr I.env0 (hb s us I.kIn hl) r2 h) fun r s' hq=>?_);cases r with
 | error e=>exact hx pins σ H s e s' I hq
 | ok fl =>
  cases fl with
  | ret u=>exact I.after hq
  | next=>exact B2 hq
  | brk=>exact B2 hq
  | cont=>exact B2 hq
theorem a4c(F:FnOk X.prog X.w X.K X.mg X.base CX k f fd ps sp)(hr:Room k X.A)(hg:Gl X x)(hm:X.mg x=some (.ref f))(hk:B3 X.K (.ref f)=true)(hb:Binds X.K fd ps ds)(hd:Vals dvs ds)(hx:dw CX X E)(ha:PA X (e::es) t)(hdb:(x==("__debug__":Str))=false:=by decide)(he:Gz (e::es) X.env=(false,eval e X.env)::Gz es X.env:=by rfl)(hpl:(HM pos (Gz es X.env)).any (·.1)=false:=by rfl):
 PE X (.Call (.Name x p) (e::es) [] pos) (a3k sp dvs E t):=by
 intro pins s σ H Q I h;refine Cz (mq I hg hm ?_ hdb);refine DC (h₀:=X.base) I.ok.mod.kin hk (thn (ha pos pins s σ H _ I h) fun us s1 ⟨vs,H1,I1,r,q⟩=>⟨I1.kIn,?_⟩) he hpl;exact qx F hr hb hd hx I1 r q
theorem a51{pl:Sem Bool}(he:PE X o ta)(c:Cls X.K C)(hm:Meth X.K C m f)(F:FnOk X.prog X.w X.K X.mg X.base CX k f fd ps sp)(hr:Room k X.A)(hb:Binds X.K fd ps ds)(hd:Vals dvs ds)(hx:dw CX X E)(ha:PA X (e::es) t)(hst:Gz (e::es) X.env=(false,eval e X.env)::Gz es X.env:=by rfl)(hpl:(HM pos (Gz es X.env)).any (·.1)=false:=by rfl)(ht:eval (.Call (.Attribute o m apos) (e::es) [] pos) X.env=(do
 let ov<-eval o X.env
 standAt apos.atName
 let (f,first)<-holding [ov] (getMethod ov m pl)
 callWith pos f first (HM pos (Gz (e::es) X.env)) (HX pos (HU [] X.env))):=by rfl):
 PE X (.Call (.Attribute o m apos) (e::es) [] pos) (oq C m sp dvs E ta t):=by
 intro pins s σ H Q I h;refine E9 (pl:=pl) (thn (he pins s σ H _ I h) fun u s1 ⟨x,H1,I1,rx,a,dx,fs,ex,ea,l,q⟩=>?_) ht;subst ex;obtain rfl:u=Value.ref a:=rx;refine le I1 ea c hm l ?_;refine DC (first:=[.ref a]) (h₀:=X.base) I.ok.mod.kin hm.kp (thn (ha pos pins s1 σ H1 _ I1 q) fun us s2 ⟨vs,H2,I2,r,q2⟩=>⟨I2.kIn,?_⟩) hst hpl;exact qx (us:=.ref a::us) (vs:=.ref a::vs) F hr hb hd hx I2 (.cons rfl r) q2
theorem a1c{pl:Sem Bool}(he:PE X o ta)(c:Cls X.K C)(hm:Meth X.K C m f)(F:FnOk X.prog X.w X.K X.mg X.base CX k f fd ps sp)(hr:Room k X.A)(hb:Binds X.K fd ps ds)(hd:Vals dvs ds)(hx:dw CX X E)(ht:eval (.Call (.Attribute o m apos) [] [] pos) X.env=(do
 let ov<-eval o X.env
 standAt apos.atName
 let (f,first)<-holding [ov] (getMethod ov m pl)
 callWith pos f first (HM pos (Gz [] X.env)) (HX pos (HU [] X.env))):=by rfl):
 PE X (.Call (.Attribute o m apos) [] [] pos) (oq C m sp dvs E ta tNil):=by
 intro pins s σ H Q I h;refine E9 (pl:=pl) (thn (he pins s σ H _ I h) fun u s1 ⟨x,H1,I1,rx,a,dx,fs,ex,ea,l,q⟩=>?_) ht;subst ex;obtain rfl:u=Value.ref a:=rx;refine le I1 ea c hm l ?_;exact PySem.W.callWith_K0 (first:=[.ref a]) I1.kIn hm.kp (qx (us:=[.ref a]) (vs:=[.ref a]) F hr hb hd hx I1 (.cons rfl .nil) q)
structure Mk(K:Aa)(C f:GV):Prop where
 makes:De K C=true
 init:Ak K (.ref C) "__init__"=some (some (.ref f))
 fn:A7 K (.ref f)=true
 kp:B3 K (.ref C)=true
theorem a0o{pins:List (GV×Obj)}{σ:St}{H:Hp}{s:GW}{Q:VK}{us:List GQ}{vs:List V}(M:Mk X.K C f)(F:FnOk X.prog X.w X.K X.mg X.base CX k f fd ps sp)(hr:Room (k+1) X.A)(hb:Binds X.K fd ps ds)(hd:Vals dvs ds)(hx:dw CX X E)(I:Inv X pins σ H s)(r:Vals vs us)(h:∀x dx,H x=none->H dx=none->dx≠x->sp (.ref x::(vs++dvs)) (upd (upd H dx (.own x)) x (.ins C dx [])) (fun v H2=>v=.non/\Q (.ref x) H2) E):
 GY (Gy X.prog X.w) X.A (call (.ref C) us) (EP X pins σ Q) X.xe s:=by
 have hq:=h (s.heap.objs.size+1) s.heap.objs.size (I.hok.fresh (CL _)) (I.hok.fresh (Ah _)) (Aw (BC _));have I2:=Inv.made (C:=C) I;have r2:Vals (V.ref (s.heap.objs.size+1)::(vs++dvs)) (Value.ref (s.heap.objs.size+1)::(us++ds)):=.cons rfl (r.append hd);have hl:(Value.ref (s.heap.objs.size+1)::us++ds).length=ps.length:=by
  have e:=r2.length;rw[F.len _ _ _ _ hq] at e;exact e.symm
 refine FT (a1p (f:=f) I.kIn M.makes M.init (beq_iff_eq.mp M.fn) (Cq (F.run _ X.stack _ _ ⟨Value.ref (s.heap.objs.size+1)::us,[]⟩ (Value.ref (s.heap.objs.size+1)::(us++ds)) _ _ E (hr.make C us [])
  (I2.env0.make C us []) (hb _ (Value.ref (s.heap.objs.size+1)::us) I2.kIn hl) r2 hq) fun r s' hq'=>?_))
 cases r with
 | error e=>exact hx pins σ _ _ e s' I2 hq'
 | ok fl =>
  cases fl with
  | ret u =>
   obtain⟨v,H',I3,rv,ev,q3⟩:=I2.after hq';subst ev;exact⟨rv,⟨V.ref (s.heap.objs.size+1),H',I3,rfl,q3⟩⟩
  | next=>exact B2 hq'
  | brk=>exact B2 hq'
  | cont=>exact B2 hq'
theorem a3l(M:Mk X.K C f)(F:FnOk X.prog X.w X.K X.mg X.base CX k f fd ps sp)(hr:Room (k+1) X.A)(hg:Gl X x)(hm:X.mg x=some (.ref C))(hb:Binds X.K fd ps ds)(hd:Vals dvs ds)(hx:dw CX X E)(ha:PA X (e::es) t)(hdb:(x==("__debug__":Str))=false:=by decide)(he:Gz (e::es) X.env=(false,eval e X.env)::Gz es X.env:=by rfl)(hpl:(HM pos (Gz es X.env)).any (·.1)=false:=by rfl):
 PE X (.Call (.Name x p) (e::es) [] pos) (a3i C sp dvs E t):=by
 intro pins s σ H Q I h;refine Cz (mq I hg hm ?_ hdb);refine DC (h₀:=X.base) I.ok.mod.kin M.kp (thn (ha pos pins s σ H _ I h) fun us s1 ⟨vs,H1,I1,r,q⟩=>⟨I1.kIn,?_⟩) he hpl;exact a0o M F hr hb hd hx I1 r q
end
section
variable{X:Cx}{CX:CXT}{k:Nat}{f C:GV}{fd:HA}{ps ks:List Str}{sp:Sp}{E:XK}{x m:Str}{p pos apos kpos:Pos}{e o:Expr}{es:List Expr}{kws:List Keyword}{te ta:TE}{t tk:TA}{nm:Option Str}
variable{g:List GQ->List GQ->List GQ}{gV:List V->List V->List V}
end
structure FnScope(N P:List Str)(sc:Scope):Prop where
 kind:sc.kind=.function
 co:sc.isCoroutine=false
 gen:sc.isGenerator=false
 nd:N.Nodup
 pre:N.take P.length=P
 par:∀x∈P,sc.names.lookup x=some .local\/sc.names.lookup x=some .cell
 nofree:∀y∈sc.names,y.2≠.free
theorem nw{kindOf:Str->Option NameKind}{x:Str}:∀{binds:List (Str×GQ)}{m:Str->Option GQ},(∀v,(x,v)∉binds)->bindL kindOf binds m x=m x
 | [],_,_=>rfl
 | (n,v)::r,m,h=>by
  unfold bindL;rw[nw fun w hw=>h w (Ay _ hw)];split
  . have:x≠n:=by rintro rfl;exact h v AK
    simp[this]
  . rfl
theorem mw{kindOf:Str->Option NameKind}{x:Str}:∀{binds:List (Str×GQ)}{m:Str->Option GQ},(∀v,(x,v)∉binds)->bindC kindOf binds m x=m x
 | [],_,_=>rfl
 | (n,v)::r,m,h=>by
  unfold bindC;rw[mw fun w hw=>h w (Ay _ hw)];split
  . rfl
  . have:x≠n:=by rintro rfl;exact h v AK
    simp[this]
theorem o5{kindOf:Str->Option NameKind}{x:Str}{v:GQ}:∀{P:List Str}{vs:List GQ}{i:Nat}{m:Str->Option GQ},P.Nodup->P[i]?=some x->vs[i]?=some v->kindOf x=some .local->
 bindL kindOf (P.zip vs) m x=some v
 | [],_,_,_,_,h,_,_=>by simp at h
 | _::_,[],_,_,_,_,h,_=>by simp at h
 | p::P,w::vs,0,m,nd,h1,h2,hk=>by
  simp at h1 h2;subst h1;subst h2;show bindL kindOf ((p,w)::P.zip vs) m p=_;unfold bindL;rw[nw fun v hv=>(Cg.mp nd).1 (Es hv).1,if_pos hk];simp
 | p::P,w::vs,i+1,m,nd,h1,h2,hk=>by
  show bindL kindOf ((p,w)::P.zip vs) m x=_;unfold bindL;exact o5 (i:=i) (Cg.mp nd).2 (by simpa using h1) (by simpa using h2) hk
theorem o7{kindOf:Str->Option NameKind}{x:Str}{v:GQ}:∀{P:List Str}{vs:List GQ}{i:Nat}{m:Str->Option GQ},P.Nodup->P[i]?=some x->vs[i]?=some v->kindOf x≠some .local->
 bindC kindOf (P.zip vs) m x=some v
 | [],_,_,_,_,h,_,_=>by simp at h
 | _::_,[],_,_,_,_,h,_=>by simp at h
 | p::P,w::vs,0,m,nd,h1,h2,hk=>by
  simp at h1 h2;subst h1;subst h2;show bindC kindOf ((p,w)::P.zip vs) m p=_;unfold bindC;rw[mw fun v hv=>(Cg.mp nd).1 (Es hv).1,if_neg hk];simp
 | p::P,w::vs,i+1,m,nd,h1,h2,hk=>by
  show bindC kindOf ((p,w)::P.zip vs) m x=_;unfold bindC;exact o7 (i:=i) (Cg.mp nd).2 (by simpa using h1) (by simpa using h2) hk
def start(N:List Str)(vs:List V):St:=vs.map some++List.replicate (N.length-vs.length) none
def cxOf(CX:CXT)(P:Gx)(w:G9)(K:Aa)(mg:Str->Option GQ)(base:HB)(N:List Str)(qual:Str)(scope:Scope)(f:GV)(cd:GQ)(A:HC)(outer:List Env)(s:GW)(H:Hp)(E:XK):Cx where
 prog:=P
 w:=w
 K:=K
 mg:=mg
 base:=base
 A:=A.deeper (envOfC qual scope s.heap.objs.size f cd)
 N:=N
 s₀:=s
 H₀:=H
 env:=envOfC qual scope s.heap.objs.size f cd
 outer:=outer
 stack:=envOfC qual scope s.heap.objs.size f cd::outer
 ex:=[]
 calm:=true
 fn:=fun _=>true
 pn:=[]
 xe:=fun e s'=>GY (Gy P w) (A.deeper (envOfC qual scope s.heap.objs.size f cd)) (leaving (envOfC qual scope s.heap.objs.size f cd) e) (fun _ s''=>CX outer H s E e s'') (fun e' s''=>CX outer H s E e' s'') s'
theorem qg{sc:Scope}{n:Nat}{x:Str}(h:sc.names.lookup x=some .cell):∃c,(cellsFrom n sc.names []).lookup x=some c:=by
 have q:=E2 sc.names n [] (.inl h);exact Bv.mp q
theorem xj{CX:CXT}{P:Gx}{w:G9}{K:Aa}{mg:Str->Option GQ}{base:HB}{N ps:List Str}{qual:Str}{scope:Scope}{f:GV}{cd:GQ}{A:HC}{outer:List Env}{s s1:GW}{H:Hp}{E:XK}{us:List GQ}{vs:List V}(S:FnScope N ps scope)(hd:A.handled=none)(e0:Env0 P w K mg base A outer s H)(hl:vs.length=ps.length)(r:Vals vs us)(x:InCallC s s.heap.objs.size (bindL (envOfC qual scope s.heap.objs.size f cd).kindOf (ps.zip us) fun _=>none) (cellsFrom (s.heap.objs.size+1) scope.names []) (bindC (envOfC qual scope s.heap.objs.size f cd).kindOf (ps.zip us) fun _=>none) s1):
 Inv (cxOf CX P w K mg base N qual scope f cd A outer s H E) [] (start N vs) H s1:=by
 have hpl:ps.length<=N.length:=by have:=congrArg FF S.pre;rw[A2] at this;omega
 obtain⟨h1,tk,rfl,hk⟩:=x.done;have noA:∀b:GV,b∉(cxOf CX P w K mg base N qual scope f cd A outer s H E).ex:=fun b z=>absurd (show b∈([]:List GV) from z) (by simp);refine⟨⟨e0.mod,S.kind,rfl,rfl,Ah _,fun y z c h1 h2=>?_,fun y hy=>?_,fun y c _ h=>?_,fun _=>hd,Around.frames_deeper e0.frames,.inr ⟨rfl,rfl⟩,fun b z=>absurd z (noA b),e0.bs,e0.bsz,fun b _ _=>noA b,fun b z=>absurd z (noA b),e0.funs,e0.frf⟩,
  rfl,e0.bare,Un.kept hk,⟨_,x.toInCall.ns,fun i y v h1 h2 h3=>?_⟩,fun y c h=>⟨_,x.cell y c h⟩,e0.hok.fresh (Ah _),fun y c h=>?_,fun p hp=>absurd (show p∈([]:List (GV×Obj)) from hp) (by simp),e0.hok.kept hk,?_⟩
 . exact name_of_addr x.apart (Bg h1) (Bg h2)
 . have hy:scope.names.lookup y=some .cell\/scope.names.lookup y=some .free:=hy;rcases hy with hy|hy
   . exact qg hy
   . exact absurd rfl (S.nofree _ (Bg hy))
 . exact BH (x.above y c (Bg h))
 . have hi:i<vs.length:=by
    unfold start at h2;by_cases hi:i<vs.length
    . exact hi
    . rw[List.getElem?_append_right (by simpa using hi)] at h2;rw[List.getElem?_replicate] at h2;split at h2<;>cases h2
   have ha:vs[i]?=some v:=by
    unfold start at h2;rw[List.getElem?_append_left (by simpa using hi),Al] at h2;cases e:vs[i]? with
    | none=>rw[e] at h2;cases h2
    | some a=>rw[e] at h2;cases h2;rfl
   obtain⟨u,hu,rv⟩:=r.get ha;have hp:ps[i]?=some y:=by
    rw[<- S.pre,List.getElem?_take_of_lt (by omega)];exact h1
   have ndP:ps.Nodup:=by rw[<- S.pre];exact S.nd.sublist (List.take_sublist _ _)
   refine⟨u,rv,?_⟩;rcases S.par y (Au hp) with k|k
   . exact .inl ⟨k,o5 ndP hp hu k⟩
   . obtain⟨c,e⟩:=qg (n:=s.heap.objs.size+1) k;refine .inr ⟨.inl k,c,e,?_⟩;have q:=x.cell y c e;rw[o7 ndP hp hu (by show scope.names.lookup y≠_;rw[k];decide)] at q;exact q
 . exact e0.hok.fresh (BH (x.above y c (Bg h)))
 . unfold start;show _=N.length;rw[Aj,Ac,List.length_replicate];omega
theorem a6z{CX:CXT}{P:Gx}{w:G9}{K:Aa}{mg:Str->Option GQ}{base:HB}{k:Nat}{f:GV}{name qual:Str}{params:Arguments}{body:List HF}{scope:Scope}{dV kV doc pm cdv ct oc:GQ}{an od:Option GV}{osl:Array (Option GQ)}{N ps:List Str}{sp:Sp}(lk:K.lookup f=some ⟨oc,od,.func (BL name qual params body scope dV kV doc pm an cdv ct),osl⟩)(hcd:EA K cdv qual=true)(S:FnScope N ps scope)(len:∀vs H Q E,sp vs H Q E->vs.length=ps.length)(hbody:∀(A:HC) (outer:List Env) (s:GW) (H:Hp) (vs:List V) (Q:VK) (E:XK),Room k (A.deeper (envOfC qual scope s.heap.objs.size f cdv))->sp vs H Q E->
 ∃t,PSs (cxOf CX P w K mg base N qual scope f cdv A outer s H E) body t/\t {nx:=fun _ H'=>Q .non H',rt:=Q} (start N vs) H):
 FnOk P w K mg base CX (k+1) f (BL name qual params body scope dV kV doc pm an cdv ct) ps sp:=by
 refine⟨len,fun A outer s H args us vs Q E hr e0 hb r hsp=>?_⟩;have hl:=len _ _ _ _ hsp;have KX:K.In s.heap:=e0.mod.kin.keeps fun b o e=>(e0.bs b o e).1;have lim:s.heap.NoLimit:=e0.mod.nolimit.keeps fun b o e=>(e0.bs b o e).1;have hkind:∀y∈ps.zip us,scope.names.lookup y.1=some .local\/(scope.names.lookup y.1=some .cell/\((cellsFrom (s.heap.objs.size+1) scope.names []).lookup y.1).isSome=true):=fun⟨n,v⟩ hy=>by
  rcases S.par n (Es hy).1 with q|q
  . exact .inl q
  . exact .inr ⟨q,E2 _ _ _ (.inl q)⟩
 refine codeAny_call_function hr.depth (KX _ _ lk) rfl S.co S.gen rfl (PySem.W.codeRec_of KX hcd) (hb _ _ _ _ ?_);refine wpAny_newFunctionEnv_cells S.kind hkind fun env he s1 x=>?_;subst he;refine⟨lim.keeps x.toInCall.keep,codeAny_func ?_⟩;obtain⟨t,ht,hq⟩:=hbody A outer s H vs Q E (hr.deeper _) hsp;have I:Inv (cxOf CX P w K mg base N qual scope f cdv A outer s H E) [] (start N vs) H s1:=xj S hr.hd e0 hl r x;refine Bh (ht [] s1 (start N vs) H _ I hq) (fun fl s' hs=>?_) fun e s' hs=>hs;have fin:∀{σ':St} {H':Hp} {v:V} {u:GQ},Inv (cxOf CX P w K mg base N qual scope f cdv A outer s H E) [] σ' H' s'->RelV v u->Q v H'->CE outer P w H s Q u s' :=
  fun {σ' H' v u} J rv q=>⟨v,H',J.os,J.bare,J.base,J.hok,rv,q⟩
 cases fl with
 | ret u =>
  obtain⟨v,σ',H',J,rv,q⟩:=hs;exact fin J rv q
 | next =>
  obtain⟨σ',H',J,q⟩:=hs;exact fin (v:=V.non) (u:=Value.none) J rfl q
 | brk =>
  obtain⟨_,_,_,q⟩:=hs;exact B2 q
 | cont =>
  obtain⟨_,_,_,q⟩:=hs;exact B2 q
section
variable{X:Cx}{x:Str}{p pos:Pos}{e:Expr}{es:List Expr}{t:TA}{id T:String}{r:List V->Hp->VK->Prop}
def tCB(r:List V->Hp->VK->Prop)(t:TA):TE:=fun σ H Q=>t σ H fun vs H1=>r vs H1 Q
theorem qc(hc:du X (.builtin id) r)(hg:Gl X x)(hm:X.mg x=none)(hv:bootBuiltins x=some (.builtin id))(ha:PA X (e::es) t)(hn:x≠"__name__" := by decide)(hdb:(x==("__debug__":Str))=false:=by decide)(he:Gz (e::es) X.env=(false,eval e X.env)::Gz es X.env:=by rfl)(hpl:(HM pos (Gz es X.env)).any (·.1)=false:=by rfl):PE X (.Call (.Name x p) (e::es) [] pos) (tCB r t):=by
 intro pins s σ H Q I h;refine Cz (ia I hg hm hv ?_ hn hdb);exact PyProof.Rows.callWith_builtin1 (thn (ha pos pins s σ H _ I h) fun us s1 ⟨vs,H1,I1,r1,q1⟩=>hc pins s1 σ H1 vs us Q I1 r1 q1) he hpl
theorem o3(hc:du X (.type T) r)(hg:Gl X x)(hm:X.mg x=none)(hv:bootBuiltins x=some (.type T))(ha:PA X (e::es) t)(hn:x≠"__name__" := by decide)(hdb:(x==("__debug__":Str))=false:=by decide)(he:Gz (e::es) X.env=(false,eval e X.env)::Gz es X.env:=by rfl)(hpl:(HM pos (Gz es X.env)).any (·.1)=false:=by rfl):PE X (.Call (.Name x p) (e::es) [] pos) (tCB r t):=by
 intro pins s σ H Q I h;refine Cz (ia I hg hm hv ?_ hn hdb);exact BJ (thn (ha pos pins s σ H _ I h) fun us s1 ⟨vs,H1,I1,r1,q1⟩=>hc pins s1 σ H1 vs us Q I1 r1 q1) he hpl
end
end L2
namespace HT
open PySem PyProof.Rows
section
open PySem.SeqAt
open PySem.AutoSeq1 (wpAny_loadPart')
open PySem.MeetsSeq PySem.MeetsSeq2 PySem.MeetsSeq3
end
section
variable{prog:Gx}{w:G9}{A:HC}{E:GQ->GW->Prop}{s:GW}
def sIx(n d:Nat):Option Int->Nat
 | none=>d
 | some v=>if v<0 then (v+(n:Int)).toNat else min v.toNat n
theorem sIx_none(n d:Nat):sIx n d none=d:=rfl
theorem sIx_nat(n d k:Nat):sIx n d (some (k:Int))=min k n:=by
 show (if (k:Int)<0 then ((k:Int)+(n:Int)).toNat else min (k:Int).toNat n)=min k n;rw[if_neg (by omega),AU]
theorem lm(n d:Nat)(hd:d<=n)(o:Option Int):sIx n d o<=n:=by
 cases o with
 | none=>exact hd
 | some v =>
  show (if v<0 then (v+(n:Int)).toNat else min v.toNat n)<=n;by_cases hv:v<0
  . rw[if_pos hv];omega
  . rw[if_neg hv];exact Nat.min_le_right _ _
theorem v7(v:Int)(n d:Nat):(if v<0 then max (v+(n:Int)) 0 else min v (n:Int))=((sIx n d (some v):Nat):Int):=by
 show (if v<0 then max (v+(n:Int)) 0 else min v (n:Int))=(((if v<0 then (v+(n:Int)).toNat else min v.toNat n):Nat):Int)
 by_cases hv:v<0
 . simp only[if_pos hv];omega
 . simp only[if_neg hv];omega
theorem wy(lo hi:Option Int)(n:Nat):Cw lo hi 1 (n:Int)=(((sIx n 0 lo:Nat):Int),((sIx n n hi:Nat):Int)):=by
 have h1:¬ ((1:Int)<0):=by omega
 unfold Cw;simp only[h1,if_false];refine Prod.ext ?_ ?_
 . cases lo with
   | none=>rfl
   | some v=>exact v7 v n 0
 . cases hi with
   | none=>rfl
   | some v=>exact v7 v n n
theorem ve(i j:Nat):BW (i:Int) (j:Int) 1=j-i:=by
 unfold BW;have h1:(1:Int)>0:=by omega
 simp only[h1,if_true,Int.ediv_one];split<;>omega
theorem l8{v:GQ}{o:Option Int}{Q:Option Int->GW->Prop}(p:IsPart v o)(h:Q o s):GY (Gy prog w) A (Builtin.Slice.slicePartIndex v) Q E s:=by
 cases p with
 | none=>exact slicePart_none h
 | int i t=>exact slicePart_int h
theorem jw{sl:GV}{vl vu:GQ}{lo hi:Option Int}{n:Nat}{Q:Int×Int×Nat->GW->Prop}(hs:s.heap.IsSliceOf sl vl vu .none)(pl:IsPart vl lo)(pu:IsPart vu hi)(h:Q (((sIx n 0 lo:Nat):Int),1,sIx n n hi-sIx n 0 lo) s):GY (Gy prog w) A (DH (.ref sl) (pure (n:Int))) Q E s:=by
 obtain⟨os,hos,hcs,hds⟩:=id hs;unfold DH Builtin.Slice.sliceFields;refine Ab (Ab (BY hos hds (x:=vl) rfl (Ab (BY hos hds (x:=vu) rfl (Ab (BY hos hds (x:=.none) rfl (Af ?_)))))));refine Ab (slicePart_none ?_);show GY _ _ (if ((1:Int)==0)=true then _ else _) _ _ s;rw[if_neg (by decide)];refine Ab (l8 pl (Ab (l8 pu (Ab (Af ?_)))));show GY _ _ (match Cw lo hi 1 (n:Int) with|(lo,hi)=>pure (lo,(1:Int),BW lo hi 1)) _ _ s;rw[wy lo hi n];show GY _ _ (pure (((sIx n 0 lo:Nat):Int),(1:Int),BW ((sIx n 0 lo:Nat):Int) ((sIx n n hi:Nat):Int) 1)) _ _ s;rw[ve];exact Af h
theorem a1l(xs:Array GQ)(i k:Nat):((AV k).filterMap fun (m:Nat)=>xs[((i:Int)+(m:Int)*1).toNat]?).toArray=((xs.toList.drop i).take k).toArray:=by
 have e:(fun (m:Nat)=>xs[((i:Int)+(m:Int)*1).toNat]?)=fun m=>xs[i+m]?:=by
  funext m
  have:((i:Int)+(m:Int)*1).toNat=i+m:=by omega
  rw[this]
 rw[e];have:=pick_run xs i k;rw[Fo] at this;have e2:((fun x=>xs[x]?)∘fun x=>i+x)=fun m=>xs[i+m]?:=rfl;rw[e2] at this;rw[this]
theorem getItem_tuple_cut{t sl:GV}{items:Array GQ}{vl vu:GQ}{lo hi:Option Int}{Q:GQ->GW->Prop}(ht:IsTup s.heap t items)(hs:s.heap.IsSliceOf sl vl vu .none)(pl:IsPart vl lo)(pu:IsPart vu hi)(hw:¬ (sIx items.size 0 lo=0/\sIx items.size items.size hi=items.size))(h:Q (.ref s.heap.objs.size) {s with heap:=s.heap.push {cls:=.type "tuple",data:=.seq ((items.toList.drop (sIx items.size 0 lo)).take (sIx items.size items.size hi-sIx items.size 0 lo)).toArray}})(hsz:items.size<=GX):GY (Gy prog w) A (getItem (.ref t) (.ref sl)) Q E s:=by
 have htake:sizeOk (.seq ((items.toList.drop (sIx items.size 0 lo)).take (sIx items.size items.size hi-sIx items.size 0 lo)).toArray):=by
  show ((items.toList.drop (sIx items.size 0 lo)).take (sIx items.size items.size hi-sIx items.size 0 lo)).toArray.size<=GX;rw[As,A2,Bd,Az];omega
 have hj:sIx items.size items.size hi<=items.size:=lm _ _ (Ah _) hi;obtain⟨os,hos,hcs,hds⟩:=id hs;have hTs:s.TypeIs (.ref sl) "slice" := ⟨os,hos,hcs⟩
 unfold getItem
 try with_reducible refine B8 ?_
 first|refine Ab (Af ?_)|skip
 refine Ab (wpAny_sequenceKey ht.typeIs (by decide) ?_);refine Ab (Bx (name:=Br "__getitem__") ht.typeIs CZ
  (Bo CZ ht.typeIs entry_tuple_getitem ?_ (args_tuple_getitem _ _)))
 show GY _ _ (Builtin.Tuple.tupleItemsOf (.ref t)>>=_) _ _ s;refine Ab (tupleItemsOf_ ht ?_);refine Ab (Df hTs ?_);rw[if_pos (by decide)];refine Ab (jw hs pl pu ?_);have hno:¬ ((((sIx items.size 0 lo:Nat):Int)==0 && (1:Int)==1 && (sIx items.size items.size hi-sIx items.size 0 lo)==items.size)=true):=by
  intro q;rw[Be,Be] at q;have q1:((sIx items.size 0 lo:Nat):Int)=0:=eq_of_beq q.1.1;have q2:sIx items.size items.size hi-sIx items.size 0 lo=items.size:=eq_of_beq q.2;exact hw ⟨by omega,by omega⟩
 show GY _ _ (if (((sIx items.size 0 lo:Nat):Int)==0 && (1:Int)==1 && (sIx items.size items.size hi-sIx items.size 0 lo)==items.size)=true then _ else _) _ _ s;rw[if_neg hno,a1l]
 first
  | exact Ab (m:=Cb _) (AJ (Af ⟨_,rfl,Af h⟩) htake)
  | exact Ab (m:=Cb _) (AJ (Ab (Af (Af ⟨_,rfl,Af h⟩))) htake)
  | exact Ab (Ab (m:=Cb _) (AJ (Af (Af ⟨_,rfl,Af h⟩)) htake))
  | exact Ab (Ab (m:=Cb _) (AJ (Af ⟨_,rfl,Af h⟩) htake))
end
end HT
namespace L2
open PyProof.Rows
abbrev TO:=St->Hp->(Option Int->Hp->Prop)->Prop
def PO(X:Cx)(e:Option Expr)(t:TO):Prop :=
 ∀(pins:List (GV×Obj)) (s:GW) (σ:St) (H:Hp) (Q:Option Int->Hp->Prop),Inv X pins σ H s->t σ H Q->
   GY (Gy X.prog X.w) X.A (evalPart e X.env) (fun u s'=>∃o H',Inv X pins σ H' s'/\IsPart u o/\Q o H') X.xe s
def tm:TO:=fun _ H Q=>Q none H
def a2q(t:TE):TO:=fun σ H Q=>t σ H fun x H1=>∃i,x=.int i/\Q (some i) H1
section
variable{X:Cx}{e:Expr}{te:TE}{lo hi:Option Expr}{tl th:TO}{pos p2:Pos}
theorem uf:PO X none tm:=by
 intro pins s σ H Q I h;rw[EZ];exact Af ⟨none,H,I,.none,h⟩
theorem ug(h:PE X e te):PO X (some e) (a2q te):=by
 intro pins s σ H Q I hw;rw[evalPart_some];refine thn (h pins s σ H _ I hw) fun u s1 ⟨x,H1,I1,r1,q1⟩=>?_;obtain⟨i,rfl,q⟩:=q1;obtain⟨t,rfl⟩:=r1;exact⟨some i,H1,I1,.int i t,q⟩
def SlR(X:Cx)(r:V->Option Int->Option Int->Hp->VK->Prop):Prop :=
 ∀(pins:List (GV×Obj)) (s:GW) (σ:St) (H:Hp) (x:V) (v vl vu:GQ) (lo hi:Option Int) (sl:GV) (Q:VK),Inv X pins σ H s->RelV x v->s.heap.IsSliceOf sl vl vu .none->IsPart vl lo->IsPart vu hi->r x lo hi H Q->
   ∃T id,typeLookup (.type T) "__getitem__"=pure (some (.builtin id))/\s.TypeIs v T/\GY (Gy X.prog X.w) X.A (getItem v (.ref sl)) (EP X pins σ Q) X.xe s
def tSl(r:V->Option Int->Option Int->Hp->VK->Prop)(te:TE)(tl th:TO):TE:=fun σ H Q=>te σ H fun x H1=>tl σ H1 fun l H2=>th σ H2 fun u H3=>r x l u H3 Q
theorem p9{r:V->Option Int->Option Int->Hp->VK->Prop}(hr:SlR X r)(he:PE X e te)(hl:PO X lo tl)(hu:PO X hi th):PE X (.Subscript e (.Slice lo hi none p2) pos) (tSl r te tl th):=by
 intro pins s σ H Q I h;refine Subscript_ (thn (he pins s σ H _ I h) fun v s1 ⟨x,H1,I1,r1,q1⟩=>?_);refine wpAny_Slice (thn (hl pins s1 σ H1 _ I1 q1) fun vl s2 ⟨l,H2,I2,pl,q2⟩=>thn (hu pins s2 σ H2 _ I2 q2) fun vu s3 ⟨u,H3,I3,pu,q3⟩=>?_);rw[EZ];refine Af ?_;have I4:Inv X pins σ H3 {s3 with heap:=s3.heap.push {cls:=.type "slice",data:=.fields #[vl,vu,.none]}}:=I3.kept (t':=s3.toks) fun b ob q=>Ag _ q;obtain⟨T,id,hT,ht,hg⟩:=hr pins {s3 with heap:=s3.heap.push {cls:=.type "slice",data:=.fields #[vl,vu,.none]}} σ H3 x v vl vu l u s3.heap.objs.size Q I4 r1 (Fp ..) pl pu q3;show GY (Gy X.prog X.w) X.A (subscriptTail e (.Slice lo hi none p2) v (.ref s3.heap.objs.size)) (EP X pins σ Q) X.xe {s3 with heap:=s3.heap.push {cls:=.type "slice",data:=.fields #[vl,vu,.none]}};exact tail_any (ops:=[.ref s3.heap.objs.size,v]) ht hT hg (by with_unfolding_all rfl)
def cutV(xs:List V)(lo hi:Option Int):List V:=(xs.drop (HT.sIx xs.length 0 lo)).take (HT.sIx xs.length xs.length hi-HT.sIx xs.length 0 lo)
theorem jv(xs:List V)(lo hi:Option Int):(cutV xs lo hi).length<=xs.length:=by
 unfold cutV;rw[A2,Bd];omega
def rSlT(K:Aa):V->Option Int->Option Int->Hp->VK->Prop:=fun x lo hi H Q=>∃a xs,x=.ref a/\SqT K H a xs/\
 ¬ (HT.sIx xs.length 0 lo=0/\HT.sIx xs.length xs.length hi=xs.length)/\∀p,H p=none->Q (.ref p) (upd H p (.tup (cutV xs lo hi)))
theorem a5r:SlR X (rSlT X.K):=by
 intro pins s σ H x v vl vu lo hi sl Q I rx hs pl pu h;obtain⟨a,xs,rfl,hx,hw,q⟩:=h;cases rx;obtain⟨its,r,ht,hz⟩:=I.tuple hx;have hlen:its.toArray.size=xs.length:=by rw[As];exact r.length.symm
 refine⟨"tuple",_,PyProof.Rows.slot_tuple_getitem.lookup,ht.typeIs,?_⟩;refine HT.getItem_tuple_cut ht hs pl pu (by rw[hlen];exact hw) ?_ (by rw[hlen];exact hz);rw[hlen];refine⟨.ref s.heap.objs.size,_,I.laid (t':=s.toks) (o:=.tup (cutV xs lo hi)) (fun b ob q=>Ag _ q) (Ah _) ?_,rfl,q _ (I.hok.fresh (Ah _))⟩;exact⟨AB (jv xs lo hi) hz,_,(r.drop (HT.sIx xs.length 0 lo)).take (HT.sIx xs.length xs.length hi-HT.sIx xs.length 0 lo),IsTup.new _ _⟩
end
def ixN(n:Nat)(i:Int):Option Nat:=if 0<=i then (if i<n then some i.toNat else none) else if -(n:Int)<=i then some (i+n).toNat else none
def atI{α:Type}(xs:List α)(i:Int):Option α:=(ixN xs.length i).bind fun j=>xs[j]?
theorem a4l{n:Nat}{i:Int}{j:Nat}(h:ixN n i=some j):seqIndex? i n=some j/\j<n /\ -(n:Int)<=i/\i<n:=by
 unfold ixN at h;by_cases h0:0<=i
 . rw[if_pos h0] at h;by_cases h1:i<n
   . rw[if_pos h1] at h;have e:i.toNat=j:=Ap h;exact⟨by rw[seqIndex_of h0 h1,e],by omega,by omega,h1⟩
   . rw[if_neg h1] at h;cases h
 . rw[if_neg h0] at h;by_cases h1 : -(n:Int)<=i
   . rw[if_pos h1] at h;have e:(i+n).toNat=j:=Ap h;exact⟨by rw[seqIndex_neg (by omega) h1,e],by omega,h1,by omega⟩
   . rw[if_neg h1] at h;cases h
theorem me{α:Type}{xs:List α}{i:Int}{v:α}(h:atI xs i=some v):∃j,seqIndex? i xs.length=some j/\xs[j]?=some v/\j<xs.length /\ -(xs.length:Int)<=i/\i<xs.length:=by
 unfold atI at h;cases e:ixN xs.length i with
 | none=>rw[e] at h;cases h
 | some j =>
  rw[e] at h;obtain⟨h1,h2,h3,h4⟩:=a4l e;exact⟨j,h1,h,h2,h3,h4⟩
theorem ef{α:Type}{xs:List α}{j:Nat}{v:α}(h:xs[j]?=some v):atI xs (j:Int)=some v:=by
 have hj:j<xs.length:=(Am.mp h).1;have e:ixN xs.length (j:Int)=some j:=by
  unfold ixN;rw[if_pos (by omega),if_pos (by omega)];simp
 unfold atI;rw[e];exact h
def ux(b:Expr):Prop:=∀o i,subscripted b false o i=operate [o,i] (getItem o i)
def IxR(X:Cx)(r:R2):Prop :=
 ∀(value slice:Expr) (pins:List (GV×Obj)) (s:GW) (σ:St) (H:Hp) (x y:V) (v u:GQ) (Q:VK),Inv X pins σ H s->RelV x v->RelV y u->r x y H Q->
   subscripted slice false v u=operate [v,u] (getItem v u)->GY (Gy X.prog X.w) X.A (subscriptTail value slice v u) (EP X pins σ Q) X.xe s
def MtR(X:Cx)(id:String)(r:V->List V->Hp->VK->Prop):Prop :=
 ∀(pins:List (GV×Obj)) (s:GW) (σ:St) (H:Hp) (x:V) (xs:List V) (v:GQ) (us:List GQ) (Q:VK),Inv X pins σ H s->RelV x v->Vals xs us->r x xs H Q->
   GY (Gy X.prog X.w) X.A (call (.builtin id) (v::us)) (EP X pins σ Q) X.xe s
section
variable{X:Cx}{a b:Expr}{ta tb:TE}{pos:Pos}
theorem wx{r:R2}(hr:IxR X r)(ha:PE X a ta)(hb:PE X b tb)(hs:ux b):PE X (.Subscript a b pos) (tOp r ta tb):=by
 intro pins s σ H Q I h;exact Subscript_ (binT ha hb I h fun v u s2 x y H2 I2 rx ry q=>hr a b pins s2 σ H2 x y v u Q I2 rx ry q (hs _ _))
def rIxL(K:Aa):R2:=fun x y H Q=>∃p xs i v,x=.ref p/\y=.int i/\SqL K H p xs/\atI xs i=some v/\Q v H
def rIxT(K:Aa):R2:=fun x y H Q=>∃p xs i v,x=.ref p/\y=.int i/\SqT K H p xs/\atI xs i=some v/\Q v H
def rIxS:R2:=fun x y H Q=>∃z i c,x=.str z/\y=.int i/\z.length<=GX/\atI z.cps.toList i=some c/\Q (.str ⟨#[c]⟩) H
theorem ba:IxR X (rIxL X.K):=by
 intro value slice pins s σ H x y v u Q I rx ry h hs;obtain⟨p,xs,i,z,rfl,rfl,hq,he,q⟩:=h;cases rx;obtain⟨t,rfl⟩:=ry;obtain⟨its,r,pl,hz⟩:=I.list hq;obtain⟨j,h1,h2,h3,h4,h5⟩:=me he;obtain⟨w,ew,rw'⟩:=r.get h2;have hl:=r.length;have hn:=jc;have fin:EP X pins σ Q w s:=⟨z,H,I,rw',q⟩
 by_cases h0:0<=i
 . have hj:i.toNat=j:=by
    rw[seqIndex_of h0 h5] at h1;exact Ap h1
   exact item_listR pl.isList h0 (by omega) (by rw[hj];simpa using ew) fin hs
 . have hj:(i+(its.toArray.size:Int)).toNat=j:=by
    rw[seqIndex_neg (by omega) h4] at h1;rw[As,<- hl];exact Ap h1
   exact subscriptTail_builtinR (x:=w) pl.isList.typeIs DM.lookup
    (wpAny_getItem_list_neg (Q:=fun r s'=>r=w/\EP X pins σ Q r s') pl.isList (by omega) (by rw[As]<;>omega) (by omega) (by rw[hj];simpa using ew) ⟨rfl,fin⟩) hs
theorem aj:IxR X (rIxT X.K):=by
 intro value slice pins s σ H x y v u Q I rx ry h hs;obtain⟨p,xs,i,z,rfl,rfl,hq,he,q⟩:=h;cases rx;obtain⟨t,rfl⟩:=ry;obtain⟨its,r,pl,hz⟩:=I.tuple hq;obtain⟨j,h1,h2,h3,h4,h5⟩:=me he;obtain⟨w,ew,rw'⟩:=r.get h2;have hl:=r.length;have hn:=jc;have fin:EP X pins σ Q w s:=⟨z,H,I,rw',q⟩
 exact subscriptTail_builtinR (x:=w) pl.typeIs slot_tuple_getitem.lookup
  (getItem_tuple (j:=j) (Q:=fun r s'=>r=w/\EP X pins σ Q r s') pl (by omega) (by omega) (by rw[As,<- hl];exact h1) (by simpa using ew) ⟨rfl,fin⟩) hs
theorem lh:IxR X rIxS:=by
 intro value slice pins s σ H x y v u Q I rx ry h hs;obtain⟨z,i,c,rfl,rfl,hz,he,q⟩:=h;obtain⟨t,rfl⟩:=rx;obtain⟨t',rfl⟩:=ry;obtain⟨j,h1,h2,h3,h4,h5⟩:=me he;have hl:z.cps.toList.length=z.length:=by simp[BF]
 rw[hl] at h1 h4 h5;have hn:=jc;exact tail_any (EO s z t) slot_str_getitem.lookup (getItem_str (c:=c) (by
  have e1:decide (i < -(2 ^ 63:Int))=false:=decide_eq_false (by omega);have e2:decide (i >= 2 ^ 63)=false:=decide_eq_false (by omega);rw[e1,e2,Gf]) (by rw[h1];simpa using h2) ⟨.str ⟨#[c]⟩,H,I.tok _,⟨_,rfl⟩,q⟩) hs
theorem qf(lo hi:Option Int)(n:Nat):(HV lo hi none n).1=((HT.sIx n 0 lo:Nat):Int)/\(HV lo hi none n).2.1=((HT.sIx n n hi:Nat):Int)/\(HV lo hi none n).2.2=1:=by
 refine⟨?_,?_,rfl⟩
 . cases lo with
   | none=>simp[HV,HT.sIx]
   | some i =>
    simp only[HV,HT.sIx,FL,show (1:Int)>0 by decide,if_true];by_cases h:i<0
    . simp only[h,if_true]<;>omega
    . simp only[h,if_false]<;>omega
 . cases hi with
   | none=>simp[HV,HT.sIx]
   | some i =>
    simp only[HV,HT.sIx,FL,show (1:Int)>0 by decide,if_true];by_cases h:i<0
    . simp only[h,if_true]<;>omega
    . simp only[h,if_false]<;>omega
theorem oa(its:List GQ)(lo hi:Option Int):slicePick its.toArray lo hi none=((its.drop (HT.sIx its.length 0 lo)).take (HT.sIx its.length its.length hi-HT.sIx its.length 0 lo)).toArray:=by
 obtain⟨h1,h2,h3⟩:=qf lo hi its.toArray.size;unfold slicePick;rw[h1,h2,h3];simp only[sliceRange_one,pick_run,As]<;>rfl
def rSlL(K:Aa):V->Option Int->Option Int->Hp->VK->Prop:=fun x lo hi H Q=>∃a xs,x=.ref a/\SqL K H a xs/\∀p,H p=none->Q (.ref p) (upd H p (.lst (cutV xs lo hi)))
theorem fm:SlR X (rSlL X.K):=by
 intro pins s σ H x v vl vu lo hi sl Q I rx hs pl pu h;obtain⟨a,xs,rfl,hx,q⟩:=h;cases rx;obtain⟨its,r,ht,hz⟩:=I.list hx;have hlen:=r.length;refine⟨"list",_,DM.lookup,ht.isList.typeIs,?_⟩;refine DV ht.isList hs pl pu .none (by simp) ?_ (by rw[As]<;>omega);rw[oa,<- hlen];refine⟨.ref s.heap.objs.size,_,I.laid (t':=s.toks) (o:=.lst (cutV xs lo hi)) (fun b ob q=>Ag _ q) (Ah _) ?_,rfl,q _ (I.hok.fresh (Ah _))⟩;exact⟨AB (jv xs lo hi) hz,_,0,(r.drop (HT.sIx xs.length 0 lo)).take (HT.sIx xs.length xs.length hi-HT.sIx xs.length 0 lo),An _ rfl⟩
def g8:V->Bool
 | .non=>true
 | .bl _=>true
 | .int _=>true
 | .str _=>true
 | _=>false
def eqV:V->V->Bool
 | .non,.non=>true
 | .bl a,.bl b=>a==b
 | .bl a,.int b=>(if a then 1 else 0)==b
 | .int a,.bl b=>a==(if b then 1 else 0)
 | .int a,.int b=>a==b
 | .str a,.str b=>a==b
 | _,_=>false
theorem a5s{A:HC}{s:GW}{y x:V}{u v:GQ}(ry:RelV y u)(rx:RelV x v)(fy:g8 y=true)(fx:g8 x=true):Gw A s u v (eqV y x):=by
 cases y with
 | non =>
  cases ry;cases x with
  | non=>cases rx;exact SeqAt.EqAt.same _
  | bl b=>cases rx;exact SeqAt.EqAt.none_bool b
  | int b=>obtain⟨t,rfl⟩:=rx;exact SeqAt.EqAt.none_int b t
  | str b=>obtain⟨t,rfl⟩:=rx;exact SeqAt.EqAt.none_str b t
  | _=>exact absurd (show false=true from fx) Aq
 | bl a =>
  cases ry;cases x with
  | non=>cases rx;exact SeqAt.EqAt.bool_none a
  | bl b=>cases rx;exact SeqAt.EqAt.bool_bool a b
  | int b=>obtain⟨t,rfl⟩:=rx;exact SeqAt.EqAt.bool_int a b t
  | str b=>obtain⟨t,rfl⟩:=rx;exact SeqAt.EqAt.bool_str a b t
  | _=>exact absurd (show false=true from fx) Aq
 | int a =>
  obtain⟨t',rfl⟩:=ry;cases x with
  | non=>cases rx;exact SeqAt.EqAt.int_none a t'
  | bl b=>cases rx;exact SeqAt.EqAt.int_bool a t' b
  | int b=>obtain⟨t,rfl⟩:=rx;exact SeqAt.EqAt.int_int a t' b t
  | str b=>obtain⟨t,rfl⟩:=rx;exact Fh a t' b t
  | _=>exact absurd (show false=true from fx) Aq
 | str a =>
  obtain⟨t',rfl⟩:=ry;cases x with
  | non=>cases rx;exact SeqAt.EqAt.str_none a t'
  | bl b=>cases rx;exact SeqAt.EqAt.str_bool a t' b
  | int b=>obtain⟨t,rfl⟩:=rx;exact Fi a t' b t
  | str b=>obtain⟨t,rfl⟩:=rx;exact SeqAt.EqAt.str_str a t' b t
  | _=>exact absurd (show false=true from fx) Aq
 | _=>exact absurd (show false=true from fy) Aq
def eqU(x:V)(u:GQ):Bool:=match u with
 | .none=>eqV .non x
 | .bool b=>eqV (.bl b) x
 | .int i _=>eqV (.int i) x
 | .str z _=>eqV (.str z) x
 | _=>false
theorem zg{x y:V}{u:GQ}(r:RelV y u)(f:g8 y=true):eqU x u=eqV y x:=by
 cases y with
 | non=>cases r;rfl
 | bl b=>cases r;rfl
 | int i=>obtain⟨t,rfl⟩:=r;rfl
 | str z=>obtain⟨t,rfl⟩:=r;rfl
 | _=>exact absurd (show false=true from f) Aq
theorem i6{x:V}:∀{xs:List V}{us:List GQ},Vals xs us->xs.all g8=true->us.any (eqU x)=xs.any fun y=>eqV y x
 | _,_,.nil,_=>rfl
 | y::xs,u::us,.cons r t,f=>by
  rw[Gg,Be] at f;rw[CM,CM,zg r f.1,i6 t f.2]
theorem gj{A:HC}{s:GW}{x:V}{v:GQ}(rx:RelV x v)(fx:g8 x=true):∀{xs:List V}{us:List GQ},Vals xs us->xs.all g8=true->∀u∈us,Gw A s u v (eqU x u)
 | _,_,.nil,_=>fun u hu=>by cases hu
 | y::xs,u::us,.cons r t,f=>fun u' hu=>by
  rw[Gg,Be] at f;rcases Ar.mp hu with rfl|hu
  . rw[zg r f.1];exact a5s r rx f.1 fx
  . exact gj rx fx t f.2 u' hu
def inV(x:V)(xs:List V):Bool:=xs.any fun y=>eqV y x
def rIn(K:Aa)(neg:Bool):R2:=fun x y H Q=>∃p xs,y=.ref p/\(SqL K H p xs\/SqT K H p xs)/\g8 x=true/\xs.all g8=true/\Q (.bl (if neg then !inV x xs else inV x xs)) H
theorem nv:OpR X (HI .In) (rIn X.K false):=by
 intro pins s σ H x y v u Q I rx ry h;obtain⟨p,xs,rfl,hq,fx,fs,q⟩:=h;cases ry;rcases hq with hq|hq
 . obtain⟨its,r,pl,hz⟩:=I.list hq;refine FU (eqU x) pl.isList (fun w hw=>gj rx fx r fs w (by simpa using hw)) ⟨.bl _,H,I,rfl,?_⟩;rw[show its.toArray.any (eqU x)=its.any (eqU x) by simp,i6 r fs];exact q
 . obtain⟨its,r,pl,hz⟩:=I.tuple hq;refine SeqAt.in_tupleAt (eqU x) pl (fun w hw=>gj rx fx r fs w (by simpa using hw)) ⟨.bl _,H,I,rfl,?_⟩;rw[show its.toArray.any (eqU x)=its.any (eqU x) by simp,i6 r fs];exact q
theorem qu:OpR X (HI .NotIn) (rIn X.K true):=by
 intro pins s σ H x y v u Q I rx ry h;obtain⟨p,xs,rfl,hq,fx,fs,q⟩:=h;cases ry;rcases hq with hq|hq
 . obtain⟨its,r,pl,hz⟩:=I.list hq;refine SeqAt.notIn_listAt (eqU x) pl.isList (fun w hw=>gj rx fx r fs w (by simpa using hw)) ⟨.bl _,H,I,rfl,?_⟩;rw[show its.toArray.any (eqU x)=its.any (eqU x) by simp,i6 r fs];exact q
 . obtain⟨its,r,pl,hz⟩:=I.tuple hq;refine SeqAt.notIn_tupleAt (eqU x) pl (fun w hw=>gj rx fx r fs w (by simpa using hw)) ⟨.bl _,H,I,rfl,?_⟩;rw[show its.toArray.any (eqU x)=its.any (eqU x) by simp,i6 r fs];exact q
theorem bc:du X (.builtin "len") (fun xs H Q=>∃p ys,xs=[.ref p]/\(SqL X.K H p ys\/SqT X.K H p ys)/\Q (.int ys.length) H):=by
 intro pins s σ H xs us Q I r h;obtain⟨p,ys,rfl,hq,q⟩:=h;obtain⟨u,rfl,rx⟩:=wf r;cases rx;have hn:=jc;rcases hq with hq|hq
 . obtain⟨its,r',pl,hz⟩:=I.list hq;have hlen:=r'.length;exact Calls.call_len_list pl.isList (by simp only[As]<;>omega) ⟨.int ys.length,H,I.tok _,⟨s.toks+1,by rw[As,hlen]⟩,q⟩
 . obtain⟨its,r',pl,hz⟩:=I.tuple hq;have hlen:=r'.length;exact len_tuple pl (by simp only[As]<;>omega) ⟨.int ys.length,H,I.tok _,⟨s.toks+1,by rw[As,hlen]⟩,q⟩
theorem dv:du X (.type "list") (fun xs H Q=>∃p ys,xs=[.ref p]/\(SqL X.K H p ys\/SqT X.K H p ys)/\∀l,H l=none->Q (.ref l) (upd H l (.lst ys))):=by
 intro pins s σ H xs us Q I r h;obtain⟨p,ys,rfl,hq,q⟩:=h;obtain⟨u,rfl,rx⟩:=wf r;cases rx;have fin:∀(its:List GQ),Vals ys its->ys.length<=GX->∀(h':HB) (c':Nat),(∀b o',s.heap.get? b=some o'->h'.get? b=some o')->
  h'.get? s.heap.objs.size=some {cls:=.type "list",dict:=none,data:=.seq its.toArray c',slots := #[]}->EP X pins σ Q (.ref s.heap.objs.size) {s with heap:=h'}:=fun its r' hz h' c' kp e =>
  ⟨.ref s.heap.objs.size,_,I.laid (t':=s.toks) kp (Ah _) (show ObjOk X.prog X.w _ h' _ (.lst ys) from⟨hz,its,c',r',e⟩),rfl,q _ (I.hok.fresh (Ah _))⟩
 rcases hq with hq|hq
 . obtain⟨its,r',pl,hz⟩:=I.list hq;have hlen:=r'.length;obtain⟨o,ho,hc,n,hd⟩:=pl.isList;exact call_list_seq p (.inl rfl) ho hc hd (fun h' c' kp e=>fin its r' hz h' c' kp e) (by simp only[As]<;>omega)
 . obtain⟨its,r',pl,hz⟩:=I.tuple hq;have hlen:=r'.length;obtain⟨o,ho,hc,n,hd⟩:=pl;exact call_list_seq p (.inr rfl) ho hc hd (fun h' c' kp e=>fin its r' hz h' c' kp e) (by simp only[As]<;>omega)
def tyV(K:Aa)(T:String)(x:V)(H:Hp):Prop:=match x with
 | .str _=>T="str"
 | .int _=>T="int"
 | .ref p=>(T="list" /\ ∃xs,SqL K H p xs)\/(T="tuple" /\ ∃o,K.lookup p=some o/\o.cls=.type "tuple" /\ o.dict=none)\/
  (T="dict" /\ ((∃kvs,H p=some (.dK kvs))\/∃kvs,H p=some (.dT kvs)))\/(T="set" /\ ∃S n,H p=some (.set S n))
 | _=>False
theorem zo{pins:List (GV×Obj)}{σ:St}{H:Hp}{s:GW}{T:String}{x:V}{v:GQ}(I:Inv X pins σ H s)(r:RelV x v)(ty:tyV X.K T x H):
 s.TypeIs v T/\∀a,v=.ref a->∃ob,s.heap.get? a=some ob/\ob.dict=none:=by
 cases x with
 | str z =>
  obtain⟨t,rfl⟩:=r;cases (show T="str" from ty);exact⟨EO s z t,fun _ e=>nomatch e⟩
 | int i =>
  obtain⟨t,rfl⟩:=r;cases (show T="int" from ty);exact⟨typeIs_int s i t,fun _ e=>nomatch e⟩
 | ref p =>
  cases r;rcases ty with⟨rfl,xs,hq⟩|⟨rfl,o,hk,hc,hd⟩|⟨rfl,hk⟩|⟨rfl,S,n,hk⟩
  . obtain⟨its,_,pl,_⟩:=I.list hq;refine⟨pl.isList.typeIs,fun a e=>?_⟩;cases e;obtain⟨o,n,e,c,hd,_⟩:=pl;exact⟨o,e,hd⟩
  . refine⟨⟨o,I.kIn p o hk,hc⟩,fun a e=>?_⟩;cases e;exact⟨o,I.kIn _ o hk,hd⟩
  . have z:∃o,s.heap.get? p=some o/\o.ExactDict:=by
     rcases hk with⟨kvs,hk⟩|⟨kvs,hk⟩
     . obtain⟨_,_,_,_,o,_,_,e,ex,_⟩:=I.hok p _ hk;exact⟨o,e,ex⟩
     . obtain⟨_,_,_,_,o,_,_,e,ex,_⟩:=I.hok p _ hk;exact⟨o,e,ex⟩
    obtain⟨o,e,ex⟩:=z;refine⟨⟨o,e,ex.1⟩,fun a e2=>?_⟩;cases e2;exact⟨o,e,ex.2.1⟩
  . obtain⟨o,_,_,_,e,ex,_⟩:=I.hok p _ hk;refine⟨⟨o,e,ex.1⟩,fun a e2=>?_⟩;cases e2;exact⟨o,e,ex.2.1⟩
 | _=>exact B2 ty
def tBM0(K:Aa)(T:String)(r:V->List V->Hp->VK->Prop)(to:TE):TE:=fun σ H Q=>to σ H fun x H1=>tyV K T x H1/\r x [] H1 Q
def tBM(K:Aa)(T:String)(r:V->List V->Hp->VK->Prop)(to:TE)(t:TA):TE:=fun σ H Q=>to σ H fun x H1=>tyV K T x H1/\t σ H1 fun xs H2=>r x xs H2 Q
variable{o e:Expr}{es:List Expr}{to:TE}{t:TA}{name:Str}{apos cpos:Pos}{T id:String}{r:V->List V->Hp->VK->Prop}
theorem a6d(pa:PlainAttrs T)(slot:Slot T name id)(hty:typeOf (.builtin id)=pure (.type "method_descriptor"))(hm:MtR X id r)(ho:PE X o to)(hbase:HL o name X.env (eval o X.env)=eval o X.env:=by rfl)(hline:(apos.endLine==cpos.line)=true:=by rfl):PE X (.Call (.Attribute o name apos) [] [] cpos) (tBM0 X.K T r to):=by
 intro pins s σ H Q I h;refine wpAny_Call_method0_late hbase hline (thn (ho pins s σ H _ I h) fun v s1 ⟨x,H1,I1,r1,ty,q1⟩=>?_);obtain⟨h1,h2⟩:=zo I1 r1 ty;exact⟨T,id,pa,slot,hty,h1,h2,Ck rfl (PySem.evalArgs_none (hm pins s1 σ H1 x [] v [] Q I1 r1 .nil q1))⟩
theorem a3a(pa:PlainAttrs T)(slot:Slot T name id)(hty:typeOf (.builtin id)=pure (.type "method_descriptor"))(hm:MtR X id r)(ho:PE X o to)(ha:PA X (e::es) t)(hbase:HL o name X.env (eval o X.env)=eval o X.env:=by rfl)(hfew:((HM cpos (Gz (e::es) X.env)).all (fun x => !x.1) && (HX cpos (HU [] X.env)).all (fun x=>x.1.isSome)
 && decide ((e::es).length+([]:List Keyword).length+(if ([]:List Keyword).isEmpty then 0 else 1)<30))=true:=by rfl)(hline:(apos.endLine==cpos.line)=true:=by rfl)(hs:Gz (e::es) X.env=(false,eval e X.env)::Gz es X.env:=by rfl)(hplain:(HM cpos (Gz es X.env)).any (·.1)=false:=by rfl):
 PE X (.Call (.Attribute o name apos) (e::es) [] cpos) (tBM X.K T r to t):=by
 intro pins s σ H Q I h;refine wpAny_Call_method_late hbase hfew hline rfl (thn (ho pins s σ H _ I h) fun v s1 ⟨x,H1,I1,r1,ty,q1⟩=>?_);obtain⟨h1,h2⟩:=zo I1 r1 ty;refine⟨T,id,pa,slot,hty,h1,h2,?_⟩;have hA:=ha cpos pins s1 σ H1 _ I1 q1;rw[hs] at hA |-;refine Ck (by show (false || (HM cpos (Gz es X.env)).any (·.1))=false;rw[hplain]<;>rfl) (Dg ?_);exact thn hA fun us s2 ⟨vs,H2,I2,r2,q2⟩=>hm pins s2 σ H2 x vs v us Q I2 r1 r2 q2
/- xs.append(e),list.index on a module's tuple .. are MtR facts of 06m -/
end
def MtM(X:Cx)(id:String)(r:V->List V->Hp->VK->Prop):Prop :=
 ∀(pins:List (GV×Obj)) (s:GW) (σ:St) (H:Hp) (x:V) (xs:List V) (v:GQ) (us:List GQ) (Q:VK),Inv X pins σ H s->RelV x v->Vals xs us->r x xs H Q->
   GY (Gy X.prog X.w) X.A (call (.builtin id) (v::us)) (EP X pins σ Q) X.xe s
theorem Vals.one:∀{x:V}{us:List GQ},Vals [x] us->∃u,us=[u]/\RelV x u
 | _,_,.cons r .nil=>⟨_,rfl,r⟩
theorem Vals.zero:∀{us:List GQ},Vals [] us->us=[]
 | _,.nil=>rfl
theorem Vals.dropLast{xs:List V}{us:List GQ}(h:Vals xs us):Vals xs.dropLast us.dropLast:=by
 induction h with
 | nil=>exact .nil
 | cons r t ih =>
  cases t with
  | nil=>exact .nil
  | cons q t'=>exact .cons r ih
theorem wu{α:Type}(l:List α):l.eraseIdx (l.length-1)=l.dropLast:=by
 induction l with
 | nil=>rfl
 | cons a r ih =>
  cases r with
  | nil=>rfl
  | cons b r =>
   have e:(a::b::r).length-1=((b::r).length-1)+1:=by
    have h1:(a::b::r).length=r.length+2:=rfl;have h2:(b::r).length=r.length+1:=rfl;omega
   rw[e,List.eraseIdx_cons_succ,ih]
   all_goals rfl
section
variable{X:Cx}{pins:List (GV×Obj)}{σ:St}{H:Hp}{s:GW}{l b:GV}{xs ys zs:List V}
theorem Inv.lset{its its':List GQ}{n:Nat}{f:Array GQ->Array GQ}{t':Nat}(I:Inv X pins σ H s)(hH:H l=some (.lst xs))(e:s.heap.get? l=some {cls:=.type "list",data:=.seq its.toArray n})(hf:f its.toArray=its'.toArray)(hv:Vals ys its')(hz:ys.length<=GX):
 Inv X pins σ (upd H l (.lst ys)) {s with heap:=s.heap.update l (ER f),toks:=t'}:=by
 have q:=PySem.IsL.update e f;rw[hf] at q;refine I.write (x:=l) (e:=l) (by rw[hH];exact trivial) (.inl rfl) (fun b' u hb hu=>(BG s.heap (ER f) (A9 hb)).trans hu) ⟨_,q⟩ ?_;exact⟨hz,its',_,hv,q⟩
theorem Inv.lnew{its:List GQ}{t':Nat}(I:Inv X pins σ H s)(hv:Vals ys its)(hz:ys.length<=GX):
 Inv X pins σ (upd H s.heap.objs.size (.lst ys)) {s with heap:=s.heap.push {cls:=.type "list",data:=.seq its.toArray},toks:=t'} :=
 I.laid (fun _ _ q=>Ag _ q) (Ah _) ⟨hz,its,0,hv,An _ rfl⟩
theorem Inv.fresh(I:Inv X pins σ H s):H s.heap.objs.size=none:=I.hok.fresh (Ah _)
theorem Inv.lstM(I:Inv X pins σ H s)(hH:H l=some (.lst xs)):xs.length<=GX/\∃(its:List GQ) (n:Nat),Vals xs its/\xs.length=its.length/\s.heap.get? l=some {cls:=.type "list",data:=.seq its.toArray n}:=by
 obtain⟨z,its,n,r,e⟩:=I.hok l _ hH;exact⟨z,its,n,r,r.length,e⟩
theorem a0d{n:Nat}(h:n<=GX):C0 n=false:=by
 unfold C0;exact decide_eq_false (by omega)
end
section
variable{X:Cx}
def a48:V->List V->Hp->VK->Prop:=fun x vs H Q=>∃l xs y,x=.ref l/\vs=[y]/\H l=some (.lst xs)/\xs.length<GX/\Q .non (upd H l (.lst (xs++[y])))
theorem bz:MtM X "list.append" a48:=by
 intro pins s σ H x vs v us Q I rx rv h;obtain⟨l,xs,y,rfl,rfl,hH,hz,q⟩:=h;cases rx;obtain⟨u,rfl,ru⟩:=rv.one;obtain⟨z,its,n,r,hl,e⟩:=I.lstM hH;refine ES F.slot_list_append ⟨_,e,rfl⟩ F.entry_list_append (F.args_list_append_2 _ _) (PySem.list_append l its.toArray n u (by rw[As];omega)) ⟨e,?_⟩;refine⟨.non,_,I.lset (its':=its++[u]) hH e (by simp) (r.append (.cons ru .nil)) ?_,rfl,q⟩;rw[Aj,AD];omega
def a57:V->List V->Hp->VK->Prop:=fun x vs H Q=>∃l b xs zs,x=.ref l/\vs=[.ref b]/\H l=some (.lst xs)/\H b=some (.lst zs)/\xs.length+zs.length<=GX/\Q .non (upd H l (.lst (xs++zs)))
theorem mx:MtM X "list.extend" a57:=by
 intro pins s σ H x vs v us Q I rx rv h;obtain⟨l,b,xs,zs,rfl,rfl,hH,hB,hz,q⟩:=h;cases rx;obtain⟨u,rfl,ru⟩:=rv.one;cases ru;obtain⟨z,its,n,r,hl,e⟩:=I.lstM hH;obtain⟨z2,its2,n2,r2,hl2,e2⟩:=I.lstM hB;have hsz:its.toArray.size+its2.toArray.size<=GX:=by rw[As,As];omega
 have hlong:¬ (!its.toArray.isEmpty && C0 (its.toArray.size+its2.toArray.size))=true:=by
  rw[a0d hsz,Bool.and_false];exact Aq
 refine ES F.slot_list_extend ⟨_,e,rfl⟩ F.entry_list_extend (F.args_list_extend_2 _ _)
  (AutoSeq1.list_extend_list_list_0 l its.toArray n b its2.toArray n2 hlong (by rw[As];omega) (by omega)) ⟨e,e2,?_⟩
 refine⟨.non,_,I.lset (its':=its++its2) hH e (by simp) (r.append r2) ?_,rfl,q⟩;rw[Aj];omega
def rPop:V->List V->Hp->VK->Prop:=fun x vs H Q=>∃l xs y,x=.ref l/\vs=[]/\H l=some (.lst xs)/\xs[xs.length-1]?=some y/\Q y (upd H l (.lst xs.dropLast))
theorem a63:MtM X "list.pop" rPop:=by
 intro pins s σ H x vs v us Q I rx rv h;obtain⟨l,xs,y,rfl,rfl,hH,hy,q⟩:=h;cases rx;have hus:=rv.zero;subst hus;obtain⟨z,its,n,r,hl,e⟩:=I.lstM hH;obtain⟨u,hu,ru⟩:=r.get hy;have hy':its.toArray[its.toArray.size-1]?=some u:=by
  show its.toArray[its.length-1]?=some u;rw[<- Bk,<- hl];exact hu
 refine ES F.slot_list_pop ⟨_,e,rfl⟩ F.entry_list_pop (F.args_list_pop_1 _) (MeetsSeq.list_pop_last l its.toArray n u hy' (by rw[As];omega)) ⟨e,?_⟩;refine⟨y,_,I.lset (its':=its.dropLast) hH e ?_ r.dropLast ?_,ru,q⟩
 . show its.toArray.eraseIdxIfInBounds (its.toArray.size-1)=its.dropLast.toArray;rw[As,List.eraseIdxIfInBounds_toArray,wu]
 . rw[List.length_dropLast];omega
def rCat:R2:=fun x y H Q=>∃l b xs zs,x=.ref l/\y=.ref b/\H l=some (.lst xs)/\H b=some (.lst zs)/\xs.length+zs.length<=GX/\∀p,H p=none->Q (.ref p) (upd H p (.lst (xs++zs)))
theorem dh:OpR X (HR .Add) rCat:=by
 intro pins s σ H x y v u Q I rx ry h;obtain⟨l,b,xs,zs,rfl,rfl,hH,hB,hz,q⟩:=h;cases rx;cases ry;obtain⟨z,its,n,r,hl,e⟩:=I.lstM hH;obtain⟨z2,its2,n2,r2,hl2,e2⟩:=I.lstM hB;refine PySem.P.add_list e e2 ?_ (by rw[As,As];omega);have ea:its.toArray++its2.toArray=(its++its2).toArray:=by simp
 rw[ea];exact⟨.ref _,_,I.lnew (t':=s.toks) (r.append r2) (by rw[Aj];omega),rfl,q _ I.fresh⟩
end
section
variable{prog:Gx}{w:G9}{A:HC}{E:GQ->GW->Prop}{s:GW}
end
section
variable{X:Cx}
end
end L2
namespace Att
open PySem PySem.W PySem.Calls PyProof.Rows
theorem kz{P:Params}{h:HB}:∀(ns:List Int) (vs:List GQ),WellAll P h vs (ns.map WData.int)->IntsAre vs ns:=by
 intro ns;induction ns with
 | nil =>
  intro vs w;rw[BM] at w;cases w;exact .nil
 | cons n ns ih =>
  intro vs w;rw[AI] at w;cases w with
  | cons a b =>
   cases a;exact .cons _ _ (ih _ b)
theorem xm{l:OpenLaw}{n:Nat}(hn:l.most=some n){P:Params}{h:HB}{args:List WData}{vals:List GQ}(hpre:l.row.toRowW.claim.pre args=true)(hwl:WellAll P h vals args):
 ∃a vs ns,vals=[Value.ref a]/\args=[WData.list (ns.map WData.int)]/\h.get? a=some {cls:=.type "list",data:=.seq vs.toArray}/\IntsAre vs ns/\ns.length<=n:=by
 have hsh:WShape.hasAll [] args [.list .int]=true:=(pre_splitW hpre).1;have hc:l.pre.holds [] {args:=args}=true:=(pre_splitW hpre).2;obtain⟨d,r,rfl,h1,h2⟩:=hasAllW_cons hsh;obtain rfl:=hasAllW_nil h2;obtain⟨xs,rfl,h3⟩:=hasW_list h1;obtain⟨ns,rfl⟩:=items_int h3;have hlen:ns.length<=n:=by
  unfold OpenLaw.pre at hc;have h4:(WTm.not (.lt (.lit (.int (n:Int))) (.len (.arg 0)))).holds [] {args:=[.list (ns.map .int)]}=true:=by
   have h4:=(holds_andW hc).1;rw[hn] at h4;exact h4
  have h5:=condW_of h4 (w_not (w_lt w_lit (w_len_list (w_arg rfl))));rw[Ac] at h5;refine DW fun q=>?_;have q':(n:Int)<((ns.length:Nat):Int):=by omega
  first
   | (rw[decide_eq_true q'] at h5;exact absurd h5 (by decide))
   | (simp at h5;omega)
 cases hwl with
 | cons w1 w2 =>
  cases w2;cases w1 with
  | list ho hall=>exact⟨_,_,ns,rfl,rfl,ho,kz ns _ hall,hlen⟩
theorem zk(l:OpenLaw)(args:List WData):l.row.toRowW.claim.post args (.bool true) args=true :=
 postW_of (r:=l.row.toRowW) (X:=(true==true))
  (show WShape.has [] (.bool true) .bool=true by first|rfl|decide|simp[WShape.has,WShape.arms,WShape.armsAll])
  (show (WTm.eq .res (.lit (.bool true))).value [] {args:=args,res:=some (.bool true),after:=args}=some (.bool (true==true)) from w_eq_bool (w_res rfl) w_lit) rfl
theorem attach_call{l:OpenLaw}{n:Nat}{q:Gx}{loose:List Str}{XP:(Str->Option GQ)->HB->Prop}{YP:G9->HB->Prop}{d:DefRec}(hn:l.most=some n)(hdf:d.params.defaults=[])(call:∀(w:G9) (s₀ s₁:GW) (mg mb:Str->Option GQ) (fa:GV) (o:Obj) (pm cd doc:GQ) (a:GV) (vs:List GQ) (ns:List Int),
 Ground q loose [] XP w s₀ mg mb s₁.heap->YP w s₁.heap->
 s₁.heap.get? fa=some o->o.data=.func (docDef d.name d.params d.body d.scope pm cd doc)->s₁.heap.CodeRec cd d.name->mg d.name=some (.ref fa)->
 s₁.heap.get? a=some {cls:=.type "list",data:=.seq vs.toArray}->IntsAre vs ns->ns.length<=n->s₁.gens = #[]->
 HP (Gy l.prog w) callerA (.call (.ref fa) ⟨[.ref a],[]⟩) (fun r s'=>r=.ok (.ret (.bool true))/\OldK s₁.heap s'.heap/\s'.os=s₁.os/\AllBare s'.gens) s₁):
 WalkO q loose XP YP l.row.toRowW d [] (fun f vs=>FV f vs):=by
 intro w s₀ s₁ mg mb G Y fa o pm cd doc dV kV ho hd hcd hD hmg hg args vals as hpre hlay hrd hwl hlo;obtain rfl:dV=.none:=Dflts.none hD hdf;obtain rfl:kV=.none:=Dflts.noKw hD;obtain⟨a,vs,ns,rfl,rfl,hobj,hints,hlen⟩:=xm hn hpre hwl;refine enter_call (Cq (call w s₀ s₁ mg mb fa o pm cd doc a vs ns G Y ho (fd_plain hd) hcd hmg hobj hints hlen hg) fun r s' hq=>?_);obtain⟨rfl,h2,h3,h4⟩:=hq;exact⟨.inl ⟨.bool true,.bool true,[],rfl,fun _=>rfl,.bool true,zk l _,fun _=>⟨List.Pairwise.nil,fun _ hm=>(nomatch hm)⟩⟩,h2,h3,h4⟩
section
variable{prog:Gx}{w:G9}{A:HC}{E:GQ->GW->Prop}{s:GW}{K:Frag}
end
end Att
namespace L2
open PyProof.Rows
theorem nu:∀{vs:List GQ}{ns:List Int},IntsAre vs ns->Vals (ns.map V.int) vs
 | _,_,.nil=>.nil
 | _,_,.cons n t h=>.cons ⟨t,rfl⟩ (nu h)
def Only(H:Hp):Prop:=∀b,H b=none\/∃o xs,H b=some (.frz o (.lst xs))
theorem a1a{P:Gx}{w:G9}{K:Aa}{mg mb:Str->Option GQ}{CX:CXT}{k:Nat}{fa a:GV}{fd:HA}{x:Str}{sp:Sp}{s₁:GW}{vs:List GQ}{ns:List Int}(KX:K.In s₁.heap)(hns:s₁.heap.Ns GZ mg)(hb:s₁.heap.Ns builtinsNs mb)(hbb:∀x:Str,x≠"__name__" -> mb x=bootBuiltins x)(hlim:s₁.heap.NoLimit)(hg:s₁.gens = #[])(ha:s₁.heap.get? a=some {cls:=.type "list",data:=.seq vs.toArray})(hi:IntsAre vs ns)(hl:ns.length<=GX)(hr:Room k callerA)(F:∀base:HB,K.In base->base.Ns GZ mg->FnOk P w K mg base CX k fa fd [x] sp)(hbind:∀(s:GW) (u:GQ),BindsTo s fd ⟨[u],[]⟩ [(x,u)])(hsp:∀H:Hp,Only H->SqL K H a (ns.map V.int)->sp [.ref a] H (fun v _=>v=.bl true) fun _ _ _=>False)(hCX:∀H e s',CX [] H s₁ (fun _ _ _=>False) e s'->False):
 HP (Gy P w) callerA (.call (.ref fa) ⟨[.ref a],[]⟩) (fun r s'=>r=.ok (.ret (.bool true))/\OldK s₁.heap s'.heap/\s'.os=s₁.os/\AllBare s'.gens) s₁:=by
 have rv:=nu hi;have lenV:=hi.length;have core:∀H:Hp,Only H->SqL K H a (ns.map V.int)->HOk P w H s₁.heap->(∀b,H b≠none->b=a)->(H a≠none->K.lookup a=none)->
  HP (Gy P w) callerA (.call (.ref fa) ⟨[.ref a],[]⟩) (fun r s'=>r=.ok (.ret (.bool true))/\OldK s₁.heap s'.heap/\s'.os=s₁.os/\AllBare s'.gens) s₁:=by
  intro H hO hS hok hA hK;have base_of:∀{b:GV} {o:Obj},s₁.heap.get? b=some o->H b=none->(hidT s₁.heap H).get? b=some o:=fun e n=>a1t e n;have noA:∀{b:GV} {o:Obj} {es:Array DictEntry} {ep:Nat},s₁.heap.get? b=some o->o.data=.dict es ep->H b=none:=fun {b o es ep} e d=>by
   cases q:H b with
   | none=>rfl
   | some u =>
    have e':b=a:=hA b (by rw[q];simp);subst e';rw[ha] at e;cases e;have d':Data.seq vs.toArray _=Data.dict es ep:=d;cases d'
  have nsK:∀{b:GV} {m:Str->Option GQ},s₁.heap.Ns b m->(hidT s₁.heap H).Ns b m:=fun {b m} ⟨o,es,ep,e,d,r⟩=>⟨o,es,ep,base_of e (noA e d),d,r⟩
  have hKb:K.In (hidT s₁.heap H):=fun b o e=>base_of (KX b o e) (by
   cases q:H b with
   | none=>rfl
   | some u =>
    have e':b=a:=hA b (by rw[q];simp);subst e';rw[hK (by rw[q];simp)] at e;cases e)
  have hM:Mod K mg (hidT s₁.heap H):=⟨hKb,nsK hns,⟨mb,nsK hb,hbb⟩,let ⟨mc,h1,h2⟩:=hlim;⟨mc,nsK h1,h2⟩⟩
  have e0:Env0 P w K mg (hidT s₁.heap H) callerA [] s₁ H:=⟨rfl,hM,fun b o e=>a56 e,Fk (a01 _ _),trivial,fun b hb=>absurd (show b∈([]:List GV) from hb) (by simp),hok,.of_eq hg⟩
  refine Cq ((F _ hKb (nsK hns)).run callerA [] s₁ H ⟨[.ref a],[]⟩ [.ref a] [.ref a] _ _ hr e0 (hbind s₁ (.ref a)) (.cons rfl .nil) (hsp H hO hS)) fun r s' h=>?_;cases r with
  | error e=>exact (hCX H e s' h).elim
  | ok fl =>
   cases fl with
   | next=>exact B2 h
   | brk=>exact B2 h
   | cont=>exact B2 h
   | ret u =>
    obtain⟨v,H',os,bare,un,hok',r',q⟩:=h;have q':v=.bl true:=q;subst q';obtain rfl:u=Value.bool true:=r';refine⟨rfl,OldK.of_keep fun b o e=>?_,os,bare⟩;cases q:H b with
    | none=>exact un.keep b o e q (by intro z;exact absurd (show b∈([]:List GV) from z) (by simp)) (by simp)
    | some u =>
     rcases hO b with z|⟨ob,xs,z⟩
     . rw[q] at z;cases z
     . have z2:=un.frzs b ob _ z;obtain⟨e1,_⟩:=hok b _ z;obtain⟨e2,_⟩:=hok' b _ z2;rw[e] at e1;cases e1;exact e2
 cases hk:K.lookup a with
 | some o =>
  have e:=KX a o hk;rw[ha] at e;cases e;refine core (fun _=>none) (fun _=>.inl rfl) (.inr ⟨_,vs.toArray,_,hk,rfl,rfl,rfl,by rw[As,lenV];exact hl,by simpa using rv⟩) (fun b u z=>by have z':(none:Option HO)=some u:=z;cases z') (fun b z=>absurd rfl z) fun z=>absurd rfl z
 | none =>
  refine core (fun b=>if b=a then some (.frz {cls:=.type "list",data:=.seq vs.toArray} (.lst (ns.map V.int))) else none) (fun b=>?_) (.inl (.inr ⟨{cls:=.type "list",data:=.seq vs.toArray},if_pos rfl⟩)) (fun b u z=>?_) (fun b z=>?_) fun _=>hk
  . by_cases hb:b=a
    . exact .inr ⟨_,_,if_pos hb⟩
    . exact .inl (if_neg hb)
  . by_cases hb:b=a
    . have z':=(if_pos hb).symm.trans z;cases z';subst hb;exact⟨ha,by rw[Ac];exact hl,vs,_,rv,ha⟩
    . have z':=(if_neg hb).symm.trans z;cases z'
  . by_cases hb:b=a
    . exact hb
    . exact absurd (if_neg hb) z
theorem walk_of{l:Et}{n k:Nat}{q:Gx}{loose:List Str}{XP:(Str->Option GQ)->HB->Prop}{YP:G9->HB->Prop}{d:DefRec}{K:Params->Aa}{CX:G9->CXT}{sp:G9->Sp}{x:Str}(hn:l.most=some n)(hn2:n<=GX)(hdf:d.params.defaults=[])(hr:Room k callerA)(hY:∀(w:G9) (h:HB),YP w h->(K w.params).In h)(F:∀(w:G9) (mg:Str->Option GQ) (fa:GV) (h:HB),(K w.params).In h->h.Ns GZ mg->mg d.name=some (.ref fa)->
 ∃fd:HA,(∀(s:GW) (u:GQ),BindsTo s fd ⟨[u],[]⟩ [(x,u)])/\
  ∀base:HB,(K w.params).In base->base.Ns GZ mg->FnOk l.prog w (K w.params) mg base (CX w) k fa fd [x] (sp w))(hsp:∀(w:G9) (H:Hp) (a:GV) (ns:List Int),ns.length<=n->Only H->SqL (K w.params) H a (ns.map V.int)->sp w [.ref a] H (fun v _=>v=.bl true) fun _ _ _=>False)(hCX:∀(w:G9) (H:Hp) (s:GW) (e:GQ) (s':GW),CX w [] H s (fun _ _ _=>False) e s'->False):
 Gh q loose XP YP l.row.toRowW d [] (fun f vs=>FV f vs):=by
 refine Att.attach_call hn hdf fun w s₀ s₁ mg mb fa o pm cd doc a vs ns G Y ho hd hcd hmg hobj hints hlen hg=>?_;have KX:=hY w _ Y;obtain⟨fd,hb,hF⟩:=F w mg fa _ KX G.T.g hmg;exact a1a KX G.T.g G.T.b G.T.builtins G.T.nolimit hg hobj hints (AB hlen hn2) hr hF hb (fun H hO hS=>hsp w H a ns hlen hO hS) fun H e s'=>hCX w H s₁ e s'
end L2
/- THE LAST THEOREM (shape;LID,My.* are yours):
 My.Adr: a structure of the addresses that your layer names (classes,functions);My.Txt K t: a structure (Prop) of the equations over K;
 My.txt_mk:{K} {implicit addresses ..} (e1:nsIn K GZ "law"=some (some (.ref f))) (e2:K.lookup f=some ⟨oc,od,.func (fnOf "law" "law" params body scope dV kV doc pm an cdv ct),sl⟩) (e3:codeIn K cdv "law"=true) .. : ∃t,My.Txt K t
(the tactic k_is has no namespace: write k_is) -/
namespace L2
open PyProof.Rows
def bm(s:HF)(j:Nat):HF:=match s with
 | .ClassDef _ _ _ body _ _ _ _ _ _ _=>body.getD j (.Pass ⟨0,0,0,0⟩)
 | _=>.Pass ⟨0,0,0,0⟩
def fj(s:HF):Arguments:=match s with
 | .FunctionDef _ a _ _ _ _ _ _ _ _=>a
 | _=>{posonlyargs:=[],args:=[],vararg:=none,kwonlyargs:=[],kw_defaults:=[],kwarg:=none,defaults:=[]}
def em(s:HF):List HF:=match s with
 | .FunctionDef _ _ b _ _ _ _ _ _ _=>b
 | _=>[]
def ap(s:HF):Scope:=match s with
 | .FunctionDef _ _ _ _ _ _ sc _ _ _=>sc
 | _=>{kind:=.function,names:=[],isGenerator:=false,isCoroutine:=false}
abbrev CX0:CXT:=fun _ _ _ _ _ _=>False
abbrev E0:XK:=fun _ _ _=>False
theorem ar{X:Cx}:dw CX0 X E0:=fun _ _ _ _ _ _ _ h=>h.elim
structure Fun(K:Aa)(x qual:Str)(st:HF)(f:GV)(fd:HA):Prop where
 ex:∃(oc:GQ) (od:Option GV) (kV doc pm:GQ) (an:Option GV) (cdv ct:GQ) (osl:Array (Option GQ)),
  fd=BL x qual (fj st) (em st) (ap st) .none kV doc pm an cdv ct/\K.lookup f=some ⟨oc,od,.func fd,osl⟩/\EA K cdv qual=true
 kp:B3 K (.ref f)=true
section
variable{P:Gx}{w:G9}{K:Aa}{mg:Str->Option GQ}{base:HB}
theorem Fun.ok{x qual:Str}{st:HF}{f:GV}{fd:HA}{N ps:List Str}{k:Nat}{sp:Sp}(F:Fun K x qual st f fd)(S:FnScope N ps (ap st))(len:∀vs H Q E,sp vs H Q E->vs.length=ps.length)(hbody:∀(cdv:GQ) (A:HC) (outer:List Env) (s:GW) (H:Hp) (vs:List V) (Q:VK) (E:XK),Room k (A.deeper (envOfC qual (ap st) s.heap.objs.size f cdv))->sp vs H Q E->
 ∃t,PSs (cxOf CX0 P w K mg base N qual (ap st) f cdv A outer s H E).nox (em st) t/\t {nx:=fun _ H'=>Q .non H',rt:=Q} (start N vs) H):FnOk P w K mg base CX0 (k+1) f fd ps sp:=by
 obtain⟨oc,od,kV,doc,pm,an,cdv,ct,osl,rfl,lk,hcd⟩:=F.ex;refine a6z lk hcd S len fun A outer s H vs Q E hr hsp=>?_;obtain⟨t,h,q⟩:=hbody cdv A outer s H vs Q E hr hsp;exact⟨t,h.nox,q⟩
theorem Fun.binds{x qual:Str}{st:HF}{f:GV}{fd:HA}{ps:List Str}(F:Fun K x qual st f fd)(h:∀(kV doc pm:GQ) (an:Option GV) (cdv ct:GQ) (us:List GQ),us.length=ps.length->bindArgs (BL x qual (fj st) (em st) (ap st) .none kV doc pm an cdv ct) ⟨us,[]⟩=pure (ps.zip us)):Binds K fd ps []:=by
 obtain⟨oc,od,kV,doc,pm,an,cdv,ct,osl,rfl,lk,hcd⟩:=F.ex;exact .all (h kV doc pm an cdv ct)
theorem fun_mk{x qual:Str}{st:HF}{f:GV}{oc:GQ}{od an:Option GV}{osl:Array (Option GQ)}{kV doc pm cdv ct:GQ}(l:K.lookup f=some ⟨oc,od,.func (BL x qual (fj st) (em st) (ap st) .none kV doc pm an cdv ct),osl⟩)(c:EA K cdv qual=true)(k:B3 K (.ref f)=true):Fun K x qual st f (BL x qual (fj st) (em st) (ap st) .none kV doc pm an cdv ct):=⟨⟨oc,od,kV,doc,pm,an,cdv,ct,osl,rfl,l,c⟩,k⟩
end
theorem cz{A:HC}{k:Nat}(hr:Room k A):A.units+1<cLine:=AL (Fe (by decide:1<=64) _) hr.units
theorem g7{n:Nat}(h:n<=1000):n<GX:=AL h (by decide)
section
variable{X:Cx}
theorem pv(i:Nat){x:Str}{pos:Pos}(hN:X.N[i]?=some x:=by rfl)(hv:Vis X.env.scope x:=by first|exact Or.inl rfl|exact Or.inr (Or.inl rfl)|exact Or.inr (Or.inr rfl))(hd:(x==("__debug__":Str))=false:=by decide)(hcd:(x==("__classdict__":Str))=false:=by decide):PE X (.Name x pos) (tVar i):=a6c hN hv hd hcd
end
def Same(H H':Hp):Prop:=∀b o,H b=some o->H' b=some o
theorem Same.refl(H:Hp):Same H H:=fun _ _ h=>h
theorem Same.trans{H H1 H2:Hp}(a:Same H H1)(b:Same H1 H2):Same H H2:=fun c o h=>b c o (a c o h)
theorem Same.free{H H':Hp}(e:Same H H'){l:GV}(h:H' l=Option.none):H l=Option.none:=by
 cases q:H l with
 | none=>rfl
 | some o =>
  rw[e l o q] at h;cases h
theorem Same.seq{K:Aa}{H H':Hp}{a:GV}{xs:List V}(e:Same H H')(h:SqL K H a xs):SqL K H' a xs:=by
 rcases h with (h|⟨o,h⟩)|h
 . exact .inl (.inl (e _ _ h))
 . exact .inl (.inr ⟨o,e _ _ h⟩)
 . exact .inr h
set_option maxHeartbeats 16000000
def blk(X:Cx)(N:List Str)(s:GW)(H:Hp)(sc:Scope)(cl:List (Str×GV))(C:GV)(ex:List GV):Cx where
 prog:=X.prog
 w:=X.w
 K:=X.K
 mg:=X.mg
 base:=X.base
 A:=X.A
 N:=N
 s₀:=s
 H₀:=H
 env:=compEnvC sc cl C X.env
 outer:=X.stack
 stack:=X.stack
 ex:=ex
 fn:=fun _=>false
 calm:=X.calm
 pn:=[]
 xe:=fun _ _=>False
section
variable{prog:Gx}{w:G9}{A:HC}{R:Result->GW->Prop}{s:GW}
theorem ju{elt target iter:Expr}{ifs:List Expr}{scope:Scope}{pos:Pos}{it acc:GQ}{env:Env}(I:Nat->GW->Prop)(turn:∀n s,I n s->GY (Gy prog w) A (HQ it) (fun r s₁=>match r with
 | none=>R (.ok .next) s₁
 | some v=>GY (Gy prog w) A (letOwnedTupleGo target it v) (fun _ s₁'=>GY (Gy prog w) A (assign target env v) (fun _ s₂ =>
  GY (Gy prog w) A (forIn ifs true fun c r=>if r=true then do let ok<-isTrue c env (eval c env);pure (ForInStep.yield ok) else pure (ForInStep.yield r)) (fun ok s₃ =>
   if ok=true then GY (Gy prog w) A (eval elt env) (fun x s₄ =>
    GY (Gy prog w) A (call (.builtin "list.append") [acc,x]) (fun _ s₅=>∃m,m<n/\I m s₅) (fun _ _=>False) s₄) (fun _ _=>False) s₃
   else ∃m,m<n/\I m s₃) (fun _ _=>False) s₂) (fun _ _=>False) s₁') (fun _ _=>False) s₁) (fun _ _=>False) s)(n:Nat)(h:I n s):
 HP (Gy prog w) A (.compLoop (.ListComp elt [⟨target,iter,ifs,0⟩] scope pos) 0 it acc env) R s:=by
 refine codeAny_loop rfl I (fun n s hI=>?_) n h;show GY _ A ((compTurn (.ListComp elt [⟨target,iter,ifs,0⟩] scope pos) 0 it acc env).onRaise (fun x=>do noteFrame x env;theTreesLotGoes x)) _ _ s;refine wpAny_noted ?_;rw[compTurn_list];refine Ab (wpAny_standAt (Ab (Bh (turn n s hI) (fun r s₁ h₁=>?_) fun _ _ h'=>h'.elim)));cases r with
 | none=>exact Af h₁
 | some v =>
  refine Ab (Bh h₁ (fun _ s₁' h₁'=>?_) fun _ _ h'=>h'.elim);refine Ab (Bh h₁' (fun _ s₂ h₂=>Ab (Bh h₂ (fun ok s₃ h₃=>?_) fun _ _ h'=>h'.elim)) fun _ _ h'=>h'.elim);cases ok with
  | false=>exact Af ⟨rfl,h₃⟩
  | true =>
   exact Ab (Ab (Bh h₃ (fun x s₄ h₄=>Ab (Bh h₄ (fun _ s₅ h₅=>Af (Af ⟨rfl,h₅⟩)) fun _ _ h'=>h'.elim)) fun _ _ h'=>h'.elim))
end
def PTs(X:Cx)(ifs:List Expr)(t:TT):Prop :=
 ∀(pins:List (GV×Obj)) (s:GW) (σ:St) (H:Hp) (Q:Bool->Hp->Prop),Inv X pins σ H s->t σ H Q->
   GY (Gy X.prog X.w) X.A (forIn ifs true fun c r=>if r=true then do let ok<-isTrue c X.env (eval c X.env);pure (ForInStep.yield ok) else pure (ForInStep.yield r)) (TP X pins σ Q) X.xe s
def tYes:TT:=fun _ H Q=>Q true H
theorem a4w{X:Cx}:PTs X [] tYes:=fun _ _ _ H _ I h=>wpAny_tests_nil ⟨H,I,h⟩
theorem ue{X:Cx}{c:Expr}{t:TT}(h:PT X c t):PTs X [c] t:=fun pins s σ H Q I q=>wpAny_tests_one (h pins s σ H Q I q)
def br(σ:St)(ix:List Nat):St:=ix.map fun j=>(σ[j]?).getD none
def i8(J:It)(H1:Hp)(σ:St)(ix:List Nat)(tc:TT)(te:TE)(Q:VK):Prop:=∀D,H1 D=none->
 ∃W:Nat->Nat->Hp->Prop,(∃m,W 0 m (upd H1 D (.lst [])))/\∀i m H,W i m H->
  (J.stop i H/\Q (.ref D) H)\/(J.go i H/\∀x H',J.yld i H x H'->tc (some x::br σ ix) H' fun b H2 =>
   if b=true then te (some x::br σ ix) H2 fun y H3=>∃ys,H3 D=some (.lst ys)/\ys.length<GX/\∃m',m'<m/\W (i+1) m' (upd H3 D (.lst (ys++[y])))
   else ∃m',m'<m/\W (i+1) m' H2)
def im(ix:List Nat)(wi:TI)(tc:TT)(te:TE):TE:=fun σ H Q=>wi σ H fun J H1=>i8 J H1 σ ix tc te Q
section
variable{X:Cx}
theorem a59{pins:List (GV×Obj)}{σ:St}{H:Hp}{s:GW}{N:List Str}{x:Str}{sc:Scope}{cl:List (Str×GV)}{fp:List GV}{ix:List Nat}{h1:HB}{m:Str->Option GQ}{tk:Nat}(I:Inv X pins σ H s)(hkind:sc.kind=.function)(hN:N=x::ix.map fun j=>(X.N[j]?).getD "")(hsub:∀y c,cl.lookup y=some c->X.env.cells.lookup y=some c)(hhas:∀y,((HH sc X.env).names.lookup y=some .cell\/(HH sc X.env).names.lookup y=some .free)->∃c,cl.lookup y=some c)(hix:∀j∈ix,∃y,X.N[j]?=some y/\X.env.kindOf y=some .cell/\(HH sc X.env).names.lookup y=some .cell)(hfp:∀b∈fp,FpOk X pins H b)(hlt:∀b∈fp,b<s.heap.objs.size)(hns:h1.Ns s.heap.objs.size m)(hk:∀b o,s.heap.get? b=some o->h1.get? b=some o):
 Inv (blk X N s H sc cl s.heap.objs.size fp) [] (none::br σ ix) H {s with heap:=h1,toks:=tk}:=by
 have fresh:H s.heap.objs.size=none:=I.hok.fresh (Ah _);refine⟨⟨I.ok.mod,hkind,I.ok.glob,I.ok.blt,Ah _,fun y z c h1 h2=>I.ok.inj y z c (hsub y c h1) (hsub z c h2),fun y hy=>hhas y hy,fun y c z _=>absurd (show false=true from z) (by decide),I.ok.hd,I.ok.frames,.inl rfl,
  fun b hb=>⟨Aw (hlt b hb),fun y c e=>(hfp b hb).2.2.2.2.1 y c (hsub y c e)⟩,I.bs,AB I.ok.bsz I.sz,fun b o e hb=>?_,fun b hb z=>?_,I.stack,I.stkFree⟩,
  rfl,I.bare,Un.kept hk,⟨m,hns,fun i y v e1 e2 e3=>?_⟩,fun y c e=>?_,fresh,fun y c e=>I.freeC y c (hsub y c e),fun p hp=>absurd (show p∈([]:List (GV×Obj)) from hp) (by simp),I.hok.kept hk,?_⟩
 . rcases (hfp b hb).2.2.2.1 with z|z
   . exact I.ok.noex b o e z
   . exact absurd (A4 (Ao e) (AB I.ok.bsz z)) (Bi _)
 . rcases Ar.mp (I.stkSub b z) with q|q
   . exact (hfp b hb).2.1 q
   . exact (hfp b hb).2.2.1 q
 . cases i with
   | zero =>
    have e2':(some none:Option (Option V))=some (some v):=e2;cases e2'
   | succ i =>
    have e2':(br σ ix)[i]?=some (some v):=by simpa using e2
    unfold br at e2';rw[Al] at e2';cases q:ix[i]? with
    | none=>rw[q] at e2';cases e2'
    | some j =>
     rw[q] at e2';have e3':(σ[j]?).getD none=some v:=by simpa using e2'
     have e4:σ[j]?=some (some v):=by
      cases q2:σ[j]? with
      | none=>rw[q2] at e3';cases e3'
      | some w=>rw[q2] at e3';simpa using e3'
     obtain⟨y',hy,hc,hr⟩:=hix j (Au q);have ey:y'=y:=by
      have e1':N[i+1]?=some y:=e1;rw[hN,BA,Al,q] at e1';have:=Ap e1';simpa [hy] using this
     subst ey;obtain⟨m0,hn0,hl0⟩:=I.loc;obtain⟨u,r,l⟩:=hl0 j y' v hy e4 (.inr (.inl hc));refine⟨u,r,.inr ⟨.inl hr,?_⟩⟩;rcases l with⟨k,_⟩|⟨_,c,ec,ic⟩
     . rw[hc] at k;cases k
     . obtain⟨c',ec'⟩:=hhas y' (.inl hr);have:=hsub y' c' ec';rw[ec] at this;cases this;obtain⟨o,ho,hd⟩:=ic;exact⟨c,ec',o,hk c o ho,hd⟩
 . obtain⟨v,o,ho,hd⟩:=I.cell y c (hsub y c e);exact⟨v,o,hk c o ho,hd⟩
 . show (none::br σ ix).length=N.length;rw[hN];simp[br]
theorem o0{elt iter:Expr}{x:Str}{px pos p0:Pos}{ifs:List Expr}{sc:Scope}{cl:List (Str×GV)}{ix:List Nat}{wi:TI}{tc:TT}{te:TE}(N:List Str)(hc:X.calm=true)(hi:PI X (.Name x px) iter wi)(hif:∀s H C ex,PTs (blk X N s H sc cl C ex) ifs tc)(he:∀s H C ex,PE (blk X N s H sc cl C ex) elt te)(hkind:sc.kind=.function)(hN:N=x::ix.map fun j=>(X.N[j]?).getD "")(hnd:N.Nodup)(hx:sc.names.lookup x=some .local)(hcl:closureFor sc X.env=pure cl)(hcell:∀y∈sc.names,y.2≠.cell)(hnames:∀y∈sc.names,y.2=.local->sc.names.lookup y.1=some .local)(hsub:∀y c,cl.lookup y=some c->X.env.cells.lookup y=some c)(hhas:∀y,((HH sc X.env).names.lookup y=some .cell\/(HH sc X.env).names.lookup y=some .free)->∃c,cl.lookup y=some c)(hix:∀j∈ix,∃y,X.N[j]?=some y/\X.env.kindOf y=some .cell/\(HH sc X.env).names.lookup y=some .cell)(hs:∀x,HE iter X.env x=pure x){use:Option (GQ->Sem Unit)}{RP:GQ->GW->Prop}{Q:VK}{pins:List (GV×Obj)}{s:GW}{σ:St}{H:Hp}(I:Inv X pins σ H s)(h:im ix wi tc te σ H Q)(hfin:∀(D C:GV) (s6:GW) (H5:Hp) (mm:Str->Option GQ),Inv X pins σ H5 s6->s6.heap.Ns C mm->H5 C=none->C≠X.env.locals->(∀z c,X.env.cells.lookup z=some c->c≠C)->X.s₀.heap.objs.size<=C->(∀p∈X.pn++pins,p.1≠C)->Q (.ref D) H5->compPost (Gy X.prog X.w) X.A X.xe use RP (.ref D) C (.ok .next) s6):
 GY (Gy X.prog X.w) X.A (comprehension (.ListComp elt [⟨.Name x px,iter,ifs,0⟩] sc pos) sc X.env p0 (newList []) false (eval iter X.env) use) RP X.xe s:=by
 refine DX (use:=use) rfl hs hcl hkind hnames (thn (hi pins s σ H _ I h) fun v s1 h1=>thn h1 fun itv s2 h2=>?_);obtain⟨it,fp,tn,J,H2,e,I2,T,st2,f2,q2⟩:=h2;subst e;have fr2:H2 s2.heap.objs.size=none:=I2.hok.fresh (Ah _);obtain⟨W,⟨m0,w0⟩,turn⟩:=q2 s2.heap.objs.size fr2;refine AJ ?_;have I3:Inv X pins σ (upd H2 s2.heap.objs.size (.lst [])) {s2 with heap:=s2.heap.push {cls:=.type "list",dict:=none,data:=.seq ([]:List GQ).toArray}}:=by
  exact I2.lnew (its:=[]) (ys:=[]) (t':=s2.toks) .nil (A5 _)
 have lt2:∀b∈fp,b<s2.heap.objs.size:=fun b hb=>by
  obtain⟨o,ho,_⟩:=T.obj _ _ st2 b hb;exact Ao ho
 have f3:∀b∈fp,FpOk X pins (upd H2 s2.heap.objs.size (.lst [])) b:=fun b hb=>⟨by rw[ag (Aw (lt2 b hb))];exact (f2 b hb).1,(f2 b hb).2⟩
 generalize hs3:({s2 with heap:=s2.heap.push {cls:=.type "list",dict:=none,data:=.seq ([]:List GQ).toArray}}:GW)=s3 at I3;have hsz3:s2.heap.objs.size<=s3.heap.objs.size:=by rw[<- hs3];show _<=(s2.heap.push _).objs.size;rw[Bj];exact CL _
 have tn3:tn 0 s3.heap:=T.keep _ _ _ st2 fun b _ o e=>by rw[<- hs3];exact Ag _ e
 have lt3:∀b∈fp,b<s3.heap.objs.size:=fun b hb=>A4 (lt2 b hb) hsz3;refine ET hcell (by intro y hy;simp at hy) (fun h4 hns4 hsb4=>?_) hkind;have old:∀b o,s3.heap.get? b=some o->h4.get? b=some o:=fun b o e=>hsb4.extBut b o (Aw (Ao e)) (Ag _ e);have I4:=a59 (m:=_) (tk:=s3.toks+([]:List (Str×GQ)).length) (N:=N) I3 hkind hN hsub hhas hix f3 lt3 hns4 old;have tn4:tn 0 h4:=T.keep _ _ _ tn3 fun b _ o e=>old b o e;have fpB:∀{H':Hp},(∀b∈fp,H' b=none)->∀b∈fp,FpOk (blk X N s3 (upd H2 s2.heap.objs.size (.lst [])) sc cl s3.heap.objs.size fp) [] H' b:=fun {H'} hn b hb =>
  ⟨hn b hb,Aw (lt3 b hb),I4.ok.exfs b hb,.inl hb,fun y c e=>(I4.ok.exf b hb).2 y c e,fun p hp=>absurd (show p∈([]:List (GV×Obj)) from hp) (by simp)⟩
 have loop:HP (Gy X.prog X.w) X.A (.compLoop (.ListComp elt [⟨.Name x px,iter,ifs,0⟩] sc pos) 0 (.ref it) (.ref s2.heap.objs.size) (compEnvC sc cl s3.heap.objs.size X.env))
  (compPost (Gy X.prog X.w) X.A X.xe use RP (.ref s2.heap.objs.size) s3.heap.objs.size) {s3 with heap:=h4,toks:=s3.toks+([]:List (Str×GQ)).length}:=by
  refine ju (fun n s'=>∃i v0 H',Inv (blk X N s3 (upd H2 s2.heap.objs.size (.lst [])) sc cl s3.heap.objs.size fp) [] (v0::br σ ix) H' s'/\tn i s'.heap/\(∀b∈fp,H' b=none)/\W i n H') ?_ m0
   ⟨0,none,_,I4,tn4,fun b hb=>(f3 b hb).1,w0⟩
  rintro n s5 ⟨i,v0,H5,I5,st5,fr5,w5⟩;rcases turn i n H5 w5 with⟨stop,qn⟩|⟨go,step⟩
  . refine thn (T.done (blk X N s3 (upd H2 s2.heap.objs.size (.lst [])) sc cl s3.heap.objs.size fp) rfl rfl rfl hc i [] s5 _ H5 _ I5 (fpB fr5) st5 stop) fun r s6 ⟨hr,I6⟩=>?_;subst hr;obtain⟨mm,hm,_⟩:=I6.loc;have I7:Inv X pins σ H5 s6:=by
     have hC:H5 s3.heap.objs.size=none:=I6.free;have hc3:s3.heap.get? s3.heap.objs.size=none:=Da (Ah _);have up:∀b o,b≠s3.heap.objs.size->s6.heap.get? b=some o->s6.heap.get? b=some o:=fun b o hb e=>e;have neC:∀b o,s3.heap.get? b=some o->b≠s3.heap.objs.size:=fun b o e=>Aw (Ao e);have u:=I6.base;refine I3.call' (s':=s6) (ch:=fp) I6.os ⟨fun b o e n hb hx=>?_,fun b o e n hb hx=>?_,fun b o e n hx=>u.free b o e n hx,fun b o e hx=>?_,u.tups,u.frzs,u.tbls⟩ (fun b o e=>?_) I6.bare fun b hb=>⟨(f3 b hb).2.2.2.1,(f3 b hb).2.1,(f3 b hb).2.2.2.2.1,(f3 b hb).2.2.2.2.2⟩
     . exact up b o (neC b o e) (u.keep b o e n hb hx)
     . obtain⟨sl,e1⟩:=u.slot b o e n hb hx;exact⟨sl,up b _ (neC b o e) e1⟩
     . obtain⟨o',e1⟩:=u.there b o e hx;exact⟨o',up b _ (neC b o e) e1⟩
     . refine (I6.hok b o e).stay (fun c v hc' q=>up c v ?_ q) (fun _ q=>q) fun _ _ q=>q;rintro rfl;rcases hc' with z|z
       . rw[<- z,hC] at e;cases e
       . rw[hC] at z;cases z
    have hCn:H5 s3.heap.objs.size=none:=I6.free;have hCl:s3.heap.objs.size≠X.env.locals:=BI I3.lt;have hCc:∀z c,X.env.cells.lookup z=some c->c≠s3.heap.objs.size:=fun z c e e2=>by
     obtain⟨v',q⟩:=I3.cell z c e;exact absurd (e2 ▸ q.lt) (Bi _)
    exact hfin _ _ s6 H5 mm I7 hm hCn hCl hCc I3.sz (fun p hp e2=>absurd (e2 ▸ Ao (I3.pin p hp).1) (Bi _)) qn
  . refine thn (T.item (blk X N s3 (upd H2 s2.heap.objs.size (.lst [])) sc cl s3.heap.objs.size fp) rfl rfl rfl hc i [] s5 _ H5 _ I5 (fpB fr5) st5 go) fun r s6 ⟨u,hr,h6⟩=>?_;subst hr;refine thn h6 fun _ s7 ⟨y,H7,I7,r7,y7,st7,fr7⟩=>?_;have I7':=I7.pinned (fpB fr7) (T.obj _ _ st7);refine DL (jx (i:=0) I7' hnd (by show N[0]?=some x;rw[hN];rfl) (.inl (Bp hx)) r7 (fun s8 I8=>?_) (.inr (Bp hx)));have I8':Inv (blk X N s3 (upd H2 s2.heap.objs.size (.lst [])) sc cl s3.heap.objs.size fp) ([]++gg fp s7.heap) (some y::br σ ix) H7 s8:=I8;refine thn (hif _ _ _ _ _ s8 _ H7 _ I8' (step y H7 y7)) fun ok s9 ⟨H9,I9,q9⟩=>?_;have again:∀{H':Hp} {s':GW} {m':Nat},Inv (blk X N s3 (upd H2 s2.heap.objs.size (.lst [])) sc cl s3.heap.objs.size fp) ([]++gg fp s7.heap) (some y::br σ ix) H' s'->m'<n->W (i+1) m' H'->
     ∃m,m<n/\∃i v0 H',Inv (blk X N s3 (upd H2 s2.heap.objs.size (.lst [])) sc cl s3.heap.objs.size fp) [] (v0::br σ ix) H' s'/\tn i s'.heap/\(∀b∈fp,H' b=none)/\W i m H':=fun {H' s' m'} Ia hm wa=>by
     refine⟨m',hm,i+1,some y,H',Ia.unpinned,T.keep _ _ _ st7 fun b hb o e=>(Ia.pin (b,o) (AG _ (AG _ (eh hb e)))).1,fun b hb=>?_,wa⟩;obtain⟨o,e,d⟩:=T.obj _ _ st7 b hb;exact (Ia.pin (b,o) (AG _ (AG _ (eh hb e)))).2.1
    cases ok with
    | false =>
     rw[if_neg Aq] at q9 |-;obtain⟨m',hm,wa⟩:=q9;exact again I9 hm wa
    | true =>
     rw[if_pos rfl] at q9 |-;refine thn (he _ _ _ _ _ s9 _ H9 _ I9 q9) fun v10 s10 ⟨z,H10,I10,r10,ys,hD,hl,m',hm,wa⟩=>?_;exact thn (bz _ s10 _ H10 (.ref s2.heap.objs.size) [z] (.ref s2.heap.objs.size) [v10] (fun _ H'=>H'=upd H10 s2.heap.objs.size (.lst (ys++[z]))) I10 rfl (.cons r10 .nil) ⟨_,ys,z,rfl,rfl,hD,hl,rfl⟩)
      fun _ s11 ⟨_,H11,I11,_,e11⟩=>again I11 hm (by rw[e11];exact wa)
 subst hs3;exact E3 loop (T.self _ 0 _ _ _ tn4 loop)
theorem v4{elt iter:Expr}{x:Str}{px pos:Pos}{ifs:List Expr}{sc:Scope}{cl:List (Str×GV)}{ix:List Nat}{wi:TI}{tc:TT}{te:TE}(N:List Str)(hc:X.calm=true)(hi:PI X (.Name x px) iter wi)(hif:∀s H C ex,PTs (blk X N s H sc cl C ex) ifs tc)(he:∀s H C ex,PE (blk X N s H sc cl C ex) elt te)(hkind:sc.kind=.function)(hN:N=x::ix.map fun j=>(X.N[j]?).getD "")(hnd:N.Nodup)(hx:sc.names.lookup x=some .local)(hcl:closureFor sc X.env=pure cl)(hcell:∀y∈sc.names,y.2≠.cell)(hnames:∀y∈sc.names,y.2=.local->sc.names.lookup y.1=some .local)(hsub:∀y c,cl.lookup y=some c->X.env.cells.lookup y=some c)(hhas:∀y,((HH sc X.env).names.lookup y=some .cell\/(HH sc X.env).names.lookup y=some .free)->∃c,cl.lookup y=some c)(hix:∀j∈ix,∃y,X.N[j]?=some y/\X.env.kindOf y=some .cell/\(HH sc X.env).names.lookup y=some .cell)(hs:∀x,HE iter X.env x=pure x:=by intro _;rfl):
 PE X (.ListComp elt [⟨.Name x px,iter,ifs,0⟩] sc pos) (im ix wi tc te):=by
 intro pins s σ H Q I h;rw[eval_ListComp];exact o0 N hc hi hif he hkind hN hnd hx hcl hcell hnames hsub hhas hix hs I h fun D C s6 H5 mm I7 hm hCn hCl hCc hsz hpin qn =>
  ⟨mm,hm,fun h7 sb7=>⟨.ref D,H5,I7.turned (t':=s6.toks) (it:=C) (fun b o hb e=>sb7.extBut b o hb e) hCn hCl (.inr hsz) hCc hpin,rfl,qn⟩⟩
end
def Its(x:Str):It:=⟨fun i _=>i<x.cps.size,fun i H v H'=>H'=H/\∃c,x.cps[i]?=some c/\v=.str ⟨#[c]⟩,fun i _=>x.cps.size<=i⟩
theorem a2j{P:Gx}{w:G9}{K:Aa}{tg:Expr}{x:Str}{t:Tok}(it:GV)(T:String)(hT:T="str_ascii_iterator" \/ T="str_iterator"):Turn P w K tg (Its x) [it] it (fun i h=>h.IsStrIter it T x t i/\i<=x.cps.size) where
 mem:=by simp
 obj:=fun i h st b hb=>by
  have e:b=it:=by simpa using hb
  subst e;obtain⟨⟨o,e,c,d⟩,_⟩:=st;exact⟨o,e,fun v z=>by rw[d] at z;cases z⟩
 keep:=fun i h h' st k=>⟨let ⟨o,ho,r⟩:=st.1;⟨o,k it (by simp) o ho,r⟩,st.2⟩
 item:=by
  intro X hP hw hK hc i pins s σ H E I hf st hg;subst hP hw hK;obtain⟨f0,f1,f2,f3,f4,f5⟩:=hf it (by simp);have hi:i<x.cps.size:=hg;have fin:∀h',h'.IsStrIter it T x t (i+1)->(∀b o,b≠it->s.heap.get? b=some o->h'.get? b=some o)->∀u:Tok,∃uv,some (Value.str ⟨#[x.cps[i]]⟩ u)=some uv/\
   GY (Gy X.prog X.w) X.A (letOwnedTupleGo tg (.ref it) uv) (fun _ s2=>∃v H',Inv X pins σ H' s2/\RelV v uv/\(Its x).yld i H v H'/\(s2.heap.IsStrIter it T x t (i+1)/\i+1<=x.cps.size)/\∀b∈[it],H' b=none) E {s with heap:=h',toks:=s.toks+1}:=fun h' st' kk u=>by
   have I1:Inv X pins σ H {s with heap:=h',toks:=s.toks+1}:=I.turned (fun b o hb e=>kk b o hb e) f0 f1 f3 f4 f5;obtain⟨o,e,c,d⟩:=id st';refine⟨_,rfl,oi (s:={s with heap:=h',toks:=s.toks+1}) e c d (by rcases hT with rfl|rfl<;>decide) ⟨.str ⟨#[x.cps[i]]⟩,H,I1,⟨u,rfl⟩,⟨rfl,_,by simp[hi],rfl⟩,⟨st',hi⟩,fun b hb=>?_⟩⟩;exact (hf b hb).1
  rcases hT with rfl|rfl
  . exact wpAny_pyNext_ascii_item st.1 (c:=x.cps[i]) (by simp[hi]) fun h' hit' hs'=>fin h' hit' (fun b o hb e=>hs'.extBut b o hb e) _
  . exact wpAny_pyNext_wide_item st.1 (c:=x.cps[i]) (by simp[hi]) fun h' hit' hs'=>fin h' hit' (fun b o hb e=>hs'.extBut b o hb e) _
 done:=by
  intro X hP hw hK hc i pins s σ H E I hf st hg;subst hP hw hK;obtain⟨f0,f1,f2,f3,f4,f5⟩:=hf it (by simp);have hi:x.cps.size<=i:=hg;rcases hT with rfl|rfl
  . exact wpAny_pyNext_ascii_end (I.ok.hd hc) st.1 (by simp;omega) fun h' eb=>⟨rfl,I.turned (t':=s.toks) (fun b o hb e=>eb b o hb e) f0 f1 f3 f4 f5⟩
  . exact wpAny_pyNext_wide_end (I.ok.hd hc) st.1 (by simp;omega) fun h' eb=>⟨rfl,I.turned (t':=s.toks) (fun b o hb e=>eb b o hb e) f0 f1 f3 f4 f5⟩
 self:=fun _ _ _ _ _ st h=>by
  rcases hT with rfl|rfl
  . exact wpAny_pyIter_striter_ascii st.1 h
  . exact wpAny_pyIter_striter_wide st.1 h
section
variable{X:Cx}{tg:Expr}
def iStr(tl:TE):TI:=fun σ H R=>tl σ H fun x H1=>∃z,x=.str z/\R (Its z) H1
theorem a5f{l:Expr}{tl:TE}(hl:PE X l tl):PI X tg l (iStr tl):=by
 intro pins s σ H R I h;refine thn (hl pins s σ H _ I h) fun v s1 ⟨x,H1,I1,r1,q1⟩=>?_;obtain⟨z,e,q⟩:=q1;subst e;obtain⟨t,rfl⟩:=r1;have fin:∀(o:Obj) (T:String),(T="str_ascii_iterator" \/ T="str_iterator")->(s1.heap.push o).IsStrIter s1.heap.objs.size T z t 0->PIE X pins σ tg R (.ref s1.heap.objs.size) {s1 with heap:=s1.heap.push o}:=fun o T hT hs=>by
  refine⟨s1.heap.objs.size,[s1.heap.objs.size],_,_,H1,rfl,I1.kept (t':=s1.toks) fun b o e=>Ag _ e,a2j (x:=z) (t:=t) _ T hT,⟨hs,A5 _⟩,fun b hb=>?_,q⟩;have e:b=s1.heap.objs.size:=by simpa using hb
  subst e;exact I1.fpOk (Ah _) (I1.hok.fresh (Ah _))
 cases ha:z.cps.all (· < 128)
 . exact wpAny_pyIter_wide ha (fin _ _ (.inr rfl) ⟨_,An _ rfl,rfl,rfl⟩)
 . exact wpAny_pyIter_ascii ha (fin _ _ (.inl rfl) ⟨_,An _ rfl,rfl,rfl⟩)
theorem a0y(hc:X.calm=true):du X (.builtin "all") (fun xs H Q=>∃(a:GV) (bs:List Bool),xs=[.ref a]/\SqL X.K H a (bs.map V.bl)/\Q (.bl (bs.all id)) H):=by
 intro pins s σ H xs us Q I r h;obtain⟨a,bs,rfl,hq,q⟩:=h;obtain⟨u,rfl,ru⟩:=r.one;cases ru;obtain⟨its,rv,p,hz⟩:=I.list hq;have hlt:a<s.heap.objs.size:=by obtain⟨o,n,e,_⟩:=p;exact Ao e
 refine call_all_walk (CF p.isList ?_);have len:bs.length=its.length:=by have:=rv.length;simpa using this
 refine⟨s.heap.objs.size,_,_,_,_,_,fun i=>(bs[i]?).getD false,rfl,FW (A:=X.A.in1) (show X.A.in1.handled=none from I.ok.hd hc) s.heap.objs.size a (Aw hlt) its.toArray,⟨⟨_,An _ rfl,rfl,rfl⟩,p.isList.at fun o e=>Ag _ e⟩,?_,?_⟩
 . intro i v s' Q' E' hv hQ;have hv':its[i]?=some v:=by simpa using hv
   cases hb:bs[i]? with
   | none =>
    have h1:=DS.mp hb;have h2:=(Am.mp hv').1;omega
   | some b =>
    obtain⟨u,hu,ru⟩:=rv.get (i:=i) (x:=V.bl b) (by rw[Al,hb]<;>rfl);rw[hv'] at hu;cases hu;cases ru;simp only[hb,Cc] at hQ;exact Bt hQ
 . intro h' tk hk;have e:(AV its.toArray.size).all (fun i=>(bs[i]?).getD false)=bs.all id:=by
    rw[As,<- len];rw[Bm];simp only[BD,Bc,_root_.id];constructor
    . intro h b hb;obtain⟨i,hi,e⟩:=EU.mp hb;have:=h i hi;rw[Ae hi,Cc,e] at this;exact this
    . intro h i hi;rw[Ae hi,Cc];exact h _ (AX hi)
   have fr:FpOk X pins H s.heap.objs.size:=I.fpOk (Ah _) (I.hok.fresh (Ah _));refine⟨.bl (bs.all id),H,?_,by rw[e];rfl,q⟩;have I1:Inv X pins σ H {s with heap:=h',toks:=tk}:=I.kept (h':=h') (t':=tk) fun b o e=>hk b o (fun z=>by
    have:b=s.heap.objs.size:=by simpa using z
    exact absurd (Ao e) (by rw[this];exact Bi _)) (Ag _ e)
   exact I1
theorem i3:du X (.builtin "isinstance") (fun xs H Q=>∃a ys,xs=[.ref a,.ty "tuple"]/\SqT X.K H a ys/\Q (.bl true) H):=by
 intro pins s σ H xs us Q I r h;obtain⟨a,ys,rfl,hq,q⟩:=h;cases r with
 | cons r1 r =>
  cases r with
  | cons r2 r =>
   cases r;cases r1;cases r2;obtain⟨its,rv,p,hz⟩:=I.tuple hq;obtain⟨o,e,hc,_⟩:=p;exact IsiPair.tuple_tuple e hc ⟨.bl true,H,I,rfl,q⟩
theorem qp:du X (.builtin "isinstance") (fun xs H Q=>∃z,xs=[.str z,.ty "str"]/\Q (.bl true) H):=by
 intro pins s σ H xs us Q I r h;obtain⟨z,rfl,q⟩:=h;cases r with
 | cons r1 r =>
  cases r with
  | cons r2 r =>
   cases r;obtain⟨t,rfl⟩:=r1;cases r2;exact IsiPair.str_str ⟨.bl true,H,I,rfl,q⟩
end
theorem vd(t:SetTable)(es:Array (Int×GQ))(h:Int)(x:GQ):(layNew t es h x).2.1.led=t.led:=by
 unfold layNew;split
 . dsimp only;unfold SetTable.orStandIn;split<;>rfl
 . rfl
theorem jb{t t':SetTable}{hs:Array Int}{n:Nat}{o:Array Nat}(h:t.relaid hs n=some (t',o)):t'.led=t.led/\t'.plain=t.plain:=by
 unfold SetTable.relaid SetTable.laid at h;cases e:SetTable.layClean (SetTable.sizeAbove n-1) hs with
 | none=>rw[e] at h;cases h
 | some ow =>
  rw[e] at h;have h':=Ap h;cases h';exact⟨rfl,rfl⟩
theorem re(t:SetTable)(es:Array (Int×GQ))(n:Nat):(relayAll t es n).2.1.led=t.led:=by
 unfold relayAll;split
 . rename_i t' o e;dsimp only;split
   . exact (jb e).1
   . rfl
 . rfl
theorem lu(t:SetTable)(es:Array (Int×GQ))(n:Nat)(hp:(relayAll t es n).2.1.plain=true):t.plain=true:=by
 unfold relayAll at hp;split at hp
 . rename_i t' o e;dsimp only at hp;split at hp
   . rw[<- (jb e).2];exact hp
   . cases hp
 . cases hp
def en:GQ->Str
 | .str x _=>x
 | _=>⟨#[]⟩
def SSet(P:Gx)(w:G9)(h:HB)(a:GV)(ss:List Str):Prop :=
 ∃o es ep t,h.get? a=some o/\o.ExactSet/\o.data=.set es ep t/\ElemsOf (HS P w) es.toList/\es.toList.map (fun e=>en e.2)=ss/\ss.Nodup/\es.size<scanBound/\t.fits es.size=true/\
  t.led = !w.params.followText "set-order" /\ (1<=es.size->t.plain=false)
theorem zv{P:Gx}{w:G9}{x:Str}{v:GQ}(h:(HS P w).is x v=true):∃u,v=.str x u:=Fc h
theorem ni{P:Gx}{w:G9}{l:List (Int×GQ)}(h:ElemsOf (HS P w) l){e:Int×GQ}(he:e∈l):∃u,e.2=.str (en e.2) u:=by
 obtain⟨⟨k,hk,_⟩,_⟩:=h e he;obtain⟨u,hu⟩:=zv hk;exact⟨u,by rw[hu];rfl⟩
theorem a0n{P:Gx}{w:G9}{l:List (Int×GQ)}(h:ElemsOf (HS P w) l)(x:Str):(l.findIdx? (fun e=>(HS P w).is x e.2)).isSome=decide (x∈l.map fun e=>en e.2):=by
 rw[Bm,List.findIdx?_isSome,Ba,decide_eq_true_eq,List.mem_map];constructor
 . rintro⟨e,he,hk⟩;obtain⟨u,hu⟩:=zv hk;exact⟨e,he,by rw[hu];rfl⟩
 . rintro⟨e,he,rfl⟩;obtain⟨u,hu⟩:=ni h he;refine⟨e,he,?_⟩;rw[hu];exact FX _ _ _ _
section
variable{P:Gx}{w:G9}{A:HC}{E:GQ->GW->Prop}{s:GW}
theorem a0w{a:GV}{ss:List Str}{x:Str}{u:Tok}{Q:Bool->GW->Prop}(hS:SSet P w s.heap a ss)(hroom:ss.length+1<scanBound)(h:∀h' ss' b,Bq a s.heap h'->SSet P w h' a ss'->(if x∈ss then ss'=ss else ss'.Perm (ss++[x]))->Q b {s with heap:=h'}):
 GY (Gy P w) A (setAddHashed a (.str x u) (hashStr w x)) Q E s:=by
 obtain⟨o,es,ep,t,ho,hex,hd,hel,hss,hnd,hb,hf,hled,hpl⟩:=hS;have hkey:(HS P w).is x (.str x u)=true:=FX _ _ _ _;have hn:es.size=ss.length:=by rw[<- hss,Ac,Az]
 unfold setAddHashed setAddHashedIn;refine B8 (Ab (Cp ho hd hf ?_));dsimp only;rw[byScan_of (knd:=HS P w) rfl hb hel];simp only[↓reduceIte];unfold setAddByScan;refine Ab ?_;refine Ab (Dh ?_);refine Ab (wpAny_setScan_of (knd:=HS P w) hkey ho hd hf hel ?_);have hfm:=a0n hel x;rw[hss] at hfm;cases hr:List.findIdx? (fun e=>(HS P w).is x e.2) es.toList with
 | some j =>
  dsimp only;rw[hr] at hfm;have hx:x∈ss:=of_decide_eq_true (Eq.symm hfm);refine Af (Af ?_);have:=h s.heap ss false (Heap.SameBut.refl a s.heap) ⟨o,es,ep,t,ho,hex,hd,hel,hss,hnd,hb,hf,hled,hpl⟩ (by rw[if_pos hx]);exact this
 | none =>
  dsimp only;rw[hr] at hfm;have hx:x∉ss:=of_decide_eq_false (Eq.symm hfm);have hgw:∀(b:Bool) {s₁:GW} {Q':Unit->GW->Prop},Q' () s₁->GY (Gy P w) A (match b with|true=>rule "set.scan.the-table-gave-way" | false=>pure ()) Q' E s₁ :=
   fun b s₁ Q' hq=>by cases b<;>first|exact Af hq|exact Dh hq
  have hperm:=layNew_perm t es (hashStr w x) (.str x u);have hfits:=layNew_fits t es (hashStr w x) (.str x u);have hled1:=vd t es (hashStr w x) (.str x u);show GY (Gy P w) A _ _ E s;have hash:(HS P w).hash x=hashStr w x:=rfl
  try rw[hash]
  generalize hL:layNew t es (hashStr w x) (.str x u)=L at hperm hfits hled1 |-;obtain⟨es1,t1,wasDummy,gave⟩:=L;dsimp only at hperm hfits hled1 |-;rw[Fy] at hperm;have hel1:ElemsOf (HS P w) es1.toList:=(ElemsOf.push (knd:=HS P w) hel hkey rfl).perm hperm;have hss1:(es1.toList.map fun e=>en e.2).Perm (ss++[x]):=by
   have:=hperm.map (fun e:Int×GQ=>en e.2);rw[A1,hss] at this;exact this
  have hsz1:es1.size=ss.length+1:=by rw[<- Az,hperm.length_eq,Aj,Az,hn];rfl
  have hb1:es1.size<scanBound:=by rw[hsz1];exact hroom
  have hnd1:(es1.toList.map fun e=>en e.2).Nodup:=by
   refine hss1.nodup_iff.mpr ?_;rw[List.nodup_append];exact⟨hnd,by simp,fun y hy z hz e=>by rw[Ai.mp hz] at e;exact hx (e ▸ hy)⟩
  refine Ab (hgw _ ?_);have tail:∀t2:SetTable,t2.fits es1.size=true->t2.led=t.led->t2.plain=false->∀(g:Bool->Sem Unit),(∀(b:Bool) (s₁:GW) (Q':Unit->GW->Prop),Q' () s₁->GY (Gy P w) A (g b) Q' E s₁)->
   GY (Gy P w) A (do
    storeSet a es1 t2
    if (!wasDummy && t2.tooFull)=true then do
        g (relayAll t2 es1 (BE es1.size)).2.2
        storeSet a (relayAll t2 es1 (BE es1.size)).1 (relayAll t2 es1 (BE es1.size)).2.1
        pure (some true)
     else pure (some true)) (fun r s'=>r=some true/\∃h' ss',s'={s with heap:=h'}/\Bq a s.heap h'/\SSet P w h' a ss'/\ss'.Perm (ss++[x])) E s:=by
   intro t2 hf2 hl2 hp2 g hg;refine Ab (Fz ho hd ?_ (DN hb1));have ho1:(s.heap.update a (Di es1 t2)).get? a=some {o with data:=.set es1 (ep+1) t2}:=by
    have:=B4 (Di es1 t2) ho (by rw[Fq es1 t2 hd];rfl);rw[Fq es1 t2 hd] at this;exact this
   have hsb1:=Cu s.heap a (Di es1 t2);split
   . have hp:=relayAll_perm t2 es1 (BE es1.size);have hfr:=relayAll_fits t2 es1 (BE es1.size);have hlr:=re t2 es1 (BE es1.size);have hpr:=lu t2 es1 (BE es1.size);generalize hRl:relayAll t2 es1 (BE es1.size)=Rl at hp hfr hlr hpr |-;obtain⟨es2,t3,gave2⟩:=Rl;dsimp only at hp hfr hlr hpr |-;have hsz:es2.size=es1.size:=by rw[<- Az,hp.length_eq,Az]
     have hb2:es2.size<scanBound:=by rw[hsz];exact hb1
     refine Ab (hg _ _ _ ?_);refine Ab (Fz ho1 rfl ?_ (DN hb2));have ho2:((s.heap.update a (Di es1 t2)).update a (Di es2 t3)).get? a=some {o with data:=.set es2 (ep+1+1) t3}:=by
      have:=B4 (Di es2 t3) ho1 (by rw[Fq es2 t3 rfl];rfl);rw[Fq (o:={o with data:=.set es1 (ep+1) t2}) es2 t3 rfl] at this;exact this
     have hss2:=hp.map (fun e:Int×GQ=>en e.2);refine Af ⟨rfl,_,es2.toList.map (fun e=>en e.2),rfl,hsb1.trans (Cu _ a _),⟨_,es2,ep+1+1,t3,ho2,hex,rfl,hel1.perm hp,rfl,hss2.nodup_iff.mpr hnd1,hb2,hfr,hlr.trans (hl2.trans hled),fun _=>?_⟩,hss2.trans hss1⟩;cases hq:t3.plain with
     | false=>rfl
     | true=>rw[hpr hq] at hp2;cases hp2
   . exact Af ⟨rfl,_,es1.toList.map (fun e=>en e.2),rfl,hsb1,⟨_,es1,ep+1,t2,ho1,hex,rfl,hel1,rfl,hnd1,hb1,hf2,hl2.trans hled,fun _=>hp2⟩,hss1⟩
  have fin:∀s':GW,(∃h' ss',s'={s with heap:=h'}/\Bq a s.heap h'/\SSet P w h' a ss'/\ss'.Perm (ss++[x]))->Q true s':=by
   rintro s' ⟨h',ss',rfl,hsb,hS',hp'⟩;exact h h' ss' true hsb hS' (by rw[if_neg hx];exact hp')
  split
  . refine Ab ?_;rw[hashByValue_scannable 8 (x:=.str x u) rfl];refine Af ?_;dsimp only[plainKind];simp only[AY,if_false];refine Bh (tail {t1 with plain:=false} (SetTable.fits_plain_off hfits) hled1 rfl _ ?_) (fun r s' hq=>?_) fun _ _ e=>e
    . intro b s₁ Q' hq;cases b<;>first|exact Af hq|exact Dh hq
    . obtain⟨rfl,hq⟩:=hq;exact Af (fin s' hq)
  . rename_i hnp;refine Ab (Af ?_);simp only[↓reduceIte];refine Bh (tail t1 hfits hled1 (by simpa using hnp) _ ?_) (fun r s' hq=>?_) fun _ _ e=>e
    . intro b s₁ Q' hq;cases b<;>first|exact Af hq|exact Dh hq
    . obtain⟨rfl,hq⟩:=hq;exact Af (fin s' hq)
end
inductive Dd:List Str->List Str->Prop
 | nil:Dd [] []
 | old{xs ss:List Str}{x:Str}:Dd xs ss->x∈ss->Dd (xs++[x]) ss
 | new{xs ss ss':List Str}{x:Str}:Dd xs ss->x∉ss->ss'.Perm (ss++[x])->Dd (xs++[x]) ss'
theorem Dd.mem{xs ss:List Str}(h:Dd xs ss):∀y,y∈ss↔y∈xs:=by
 induction h with
 | nil=>intro y;exact Iff.rfl
 | old d hx ih =>
  rename_i zs ss x;intro y;rw[ih y,Ad,Ai];constructor
  . exact .inl
  . rintro (q|rfl)
    . exact q
    . exact (ih y).mp hx
 | new d hx hp ih =>
  rename_i zs ss ss' x;intro y;rw[hp.mem_iff,Ad,Ad,ih y]
theorem Dd.nodup{xs ss:List Str}(h:Dd xs ss):ss.Nodup:=by
 induction h with
 | nil=>exact EB
 | old d hx ih=>exact ih
 | new d hx hp ih =>
  rename_i zs ss ss' x;refine hp.nodup_iff.mpr (F0.mpr ⟨ih,by simp,fun y hy z hz e=>?_⟩);rw[Ai.mp hz] at e;exact hx (e ▸ hy)
theorem Dd.len{xs ss:List Str}(h:Dd xs ss):ss.length<=xs.length:=by
 induction h with
 | nil=>exact Ah _
 | old d hx ih=>rw[Aj];exact AB ih (CP _ _)
 | new d hx hp ih=>rw[hp.length_eq,Aj,Aj];exact Nat.add_le_add_right ih _
theorem tu:∀{vs:List GQ}{xs:List Str},StrsAre vs xs->∀(i:Nat) (v:GQ),vs[i]?=some v->∃x t,xs[i]?=some x/\v=.str x t
 | _,_,.nil,i,v,h=>by simp at h
 | _,_,.cons x t r,0,v,h=>by simp at h;exact⟨x,t,rfl,h.symm⟩
 | _,_,.cons x t r,i+1,v,h=>by
  obtain⟨y,u,e1,e2⟩:=tu r i v (by simpa using h);exact⟨y,u,by simpa using e1,e2⟩
section
variable{P:Gx}{w:G9}{A:HC}{R:Result->GW->Prop}{I:GV}{fp wr:List GV}{G:Array GenState->Array GenState->Prop}{n:Nat}{Pv:Nat->GQ->Prop}{St:Nat->GW->Prop}
theorem SSet.at{h h':HB}{a:GV}{ss:List Str}(hS:SSet P w h a ss)(k:∀o,h.get? a=some o->h'.get? a=some o):SSet P w h' a ss:=by
 obtain⟨o,es,ep,tb,ho,rest⟩:=hS;exact⟨o,es,ep,tb,k o ho,rest⟩
theorem kc(W:WalksS P w A.in1 I fp wr G n Pv St)(S:GV)(hSf:S∉fp)(xs:List Str)(hn:xs.length=n)(hval:∀i v,Pv i v->∃x t,xs[i]?=some x/\v=.str x t)(hb:n+1<scanBound):
 ∀(k i:Nat) (s:GW) (ss:List Str),n-i=k->i<=n->St i s->SSet P w s.heap S ss->Dd (xs.take i) ss->
   (∀s' ss',Moved (S::wr) G s s'->SSet P w s'.heap S ss'->Dd xs ss'->R (.ok (.ret .none)) s')->
   HP (Gy P w) A (.builtin "set.update.loop" ⟨[.ref S,.ref I],[]⟩) R s:=by
 have hSw:S∉wr:=fun h=>hSf (W.sub _ h);have hsub:∀b∈wr,b∈S::wr:=fun b hb=>Ay _ hb;intro k;induction k with
 | zero =>
  intro i s ss hk hi hst hS hd hR;have hin:i=n:=by omega
  subst hin;refine B7 CA ?_;rw[Bw BN _];show GY _ A.in1 (HQ (.ref I)>>=_) _ _ s;refine Ab (W.done s _ _ hst fun s' hm=>?_);show GY _ A.in1 (ret Value.none) _ _ s';refine Af (hR s' ss (hm.mono hsub) (hS.at fun o e=>hm.heap S _ hSw e) ?_);rw[Bf (Fk hn)] at hd;exact hd
 | succ k ih =>
  intro i s ss hk hi hst hS hd hR;have hlt:i<n:=by omega
  refine B7 CA ?_;rw[Bw BN _];show GY _ A.in1 (HQ (.ref I)>>=_) _ _ s;refine Ab (W.item i s _ _ hlt hst fun v s' hP hst' hm=>?_);obtain⟨x,t,hx,rfl⟩:=hval i v hP;have hS':SSet P w s'.heap S ss:=hS.at fun o e=>hm.heap S _ hSw e;show GY _ A.in1 (holding [Value.str x t] (setAdd S (.str x t))>>=_) _ _ s';refine Ab (B8 ?_);unfold setAdd;refine B8 ?_;refine Ab ((HS P w).pyHash (k:=x) (FX _ _ _ _) ?_);have hl:ss.length<=i:=by have:=hd.len;rw[A2] at this;omega
  refine a0w (s:={s' with toks:=s'.toks+1}) hS' (by omega) fun h' ss' b hsb hS2 hss=>?_;have hd':Dd (xs.take (i+1)) ss':=by
   have e:xs.take (i+1)=xs.take i++[x]:=by rw[AR,hx];rfl
   rw[e];by_cases hm:x∈ss
   . rw[if_pos hm] at hss;rw[hss];exact .old hd hm
   . rw[if_neg hm] at hss;exact .new hd hm hss
  refine Af ⟨Cd BN _,ih (i+1) _ ss' (by omega) hlt (W.frame _ s' _ _ hst' (CL _) fun b hb o e=>?_) hS2 hd' fun s'' ss'' hm'' hS'' hd''=>?_⟩
  . rw[hsb.2 b (fun h:b=S=>hSf (by rw[<- h];exact hb))];exact e
  . refine hR s'' ss'' (Moved.trans W.gtrans ((hm.mono hsub).then_heap (CL _) fun b o hb e=>?_) hm'') hS'' hd'';rw[hsb.2 b (fun h:b=S=>hb (by rw[h];exact AK))];exact e
end
section
variable{P:Gx}{w:G9}{A:HC}{E:GQ->GW->Prop}{s:GW}
theorem kd(a:GQ){Q₁:GQ->GW->Prop}(h:Q₁ (.ref s.heap.objs.size) {s with heap:=s.heap.push {cls:=.type "set",dict:=none,data:=.set #[] 0 (.fresh 0 0 (!w.params.followText "set-order"))}}):
 HP (Gy P w) A (.call (.builtin "set.__new__") ⟨[.type "set",a],[]⟩) (wants Q₁ E) s:=by
 refine codeAny_of_tree ?_;show GY _ A.in1 (do checkBuiltinCall "set.__new__" ⟨[.type "set",a],[]⟩;again (.builtin "set.__new__" ⟨[.type "set",a],[]⟩)) _ _ s;refine Ab (FG (PySem.F.newCall_set_1 a) (Af ⟨Cd EC _,B7 PySem.F.entry_set_new ?_⟩));rw[Bw EC _];unfold Builtin.«set.__new__» Builtin.Frozenset.newClass;have hsub:=sub_set_self;obtain⟨hp,g,d,tk,os⟩:=s;dsimp only
 wp_walk
 refine DY (Af ?_);dsimp only;simp only[newObj];refine Ab (wpAny_alloc (Af ?_));exact Af h
set_option maxHeartbeats 16000000 in
theorem o8{l:GV}{items:Array GQ}{xs:List Str}{Q:GQ->GW->Prop}(hh:A.handled=none)(hl:s.heap.IsList l items)(hi:StrsAre items.toList xs)(hb:items.size+1<scanBound)(h:∀(h':HB) (tk:Nat) (ss:List Str),SSet P w h' s.heap.objs.size ss->Dd xs ss->(∀b o,b<s.heap.objs.size->s.heap.get? b=some o->h'.get? b=some o)->Q (.ref s.heap.objs.size) {s with heap:=h',toks:=tk}):
 GY (Gy P w) A (call (.type "set") [.ref l]) Q E s:=by
 obtain⟨c,tl,hmro⟩:=PySem.F.called_set.mro;have hmade:=PySem.F.called_set.made;have hsub:=PySem.F.called_set.sub;refine FT (codeAny_of_tree ?_);show GY _ _ (callAny (.type "set") _) _ _ _;refine Af ⟨Code.quiet_builtin _ (by decide),B7 PySem.F.entry_type_call ?_⟩;rw[Around.under_plain (weight_type_call_type "set" [.ref l] []) rfl];have h1:=PySem.F.called_set.notType;have h2:=PySem.F.called_set.canCreate;have hct:=PySem.F.typeCall_set_1 (.ref l)
 repeat (any_goals (first|assumption|wp_step))
 refine Cq (kd (.ref l) (E:=E) (Q₁:=fun obj s₁=>obj=.ref s.heap.objs.size/\s₁={s with heap:=s.heap.push {cls:=.type "set",dict:=none,data:=.set #[] 0 (.fresh 0 0 (!w.params.followText "set-order"))}}) ⟨rfl,rfl⟩) fun r s₁ hr=>?_;cases r with
 | error e=>exact hr
 | ok fl =>
  cases fl with
  | ret obj =>
   obtain⟨rfl,rfl⟩:=hr;generalize hled:(!w.params.followText "set-order")=led;have hS:(s.heap.push {cls:=.type "set",dict:=none,data:=.set #[] 0 (.fresh 0 0 led)}).get? s.heap.objs.size=some {cls:=.type "set",dict:=none,data:=.set #[] 0 (.fresh 0 0 led)}:=An _ rfl;have hT:DI {s with heap:=s.heap.push {cls:=.type "set",dict:=none,data:=.set #[] 0 (.fresh 0 0 led)}} (.ref s.heap.objs.size) "set" := ⟨_,hS,rfl⟩
   have hli:=PySem.F.called_set.init.lookup;have hbi:=PySem.F.called_set.init.bind (.ref s.heap.objs.size)
   repeat (any_goals (first|assumption|wp_step))
   refine Cq (EV (R:=wants (fun r s₂=>r=.none/\∃h' tk ss,s₂={s with heap:=h',toks:=tk}/\SSet P w h' s.heap.objs.size ss/\Dd xs ss/\
    (∀b o,b<s.heap.objs.size->s.heap.get? b=some o->h'.get? b=some o)) E) PySem.F.called_set.init.plain PySem.F.entry_set_init (check_set_init_1 hT ?_)) fun r₂ s₂ hr₂=>?_
   . obtain⟨ol,hol,hcl,nl,hdl⟩:=hl;obtain⟨ocls,odict,odata,oslots⟩:=ol;simp only at hcl hdl;subst hcl;subst hdl;have hol':(s.heap.push {cls:=.type "set",dict:=none,data:=.set #[] 0 (.fresh 0 0 led)}).get? l=some {cls:=.type "list",dict:=odict,data:=.seq items nl,slots:=oslots}:=Ag _ hol;have hsls:=PySem.F.sub_list_set;have hslf:=PySem.F.sub_list_frozenset;have hne:(Value.type "list"==Value.type "dict")=false:=by decide
     have hl1:(s.heap.push {cls:=.type "set",dict:=none,data:=.set #[] 0 (.fresh 0 0 led)}).IsList l items:=⟨_,hol',rfl,nl,rfl⟩
     unfold Builtin.«set.__init__» noKeywords Builtin.Frozenset.updateFrom;generalize hPI:pyIter=PI
     wp_walk
     subst hPI;refine CF hl1 ?_;refine Ab (wpAny_runValue ?_);have hlS:l<s.heap.objs.size:=Ao hol;have hh3:A.in1.in1.in1.handled=none:=by simp[hh]
     have hneI:l≠(s.heap.push {cls:=.type "set",dict:=none,data:=.set #[] 0 (.fresh 0 0 led)}).objs.size:=by
      rw[Bj];exact Aw (BU hlS)
     have hSf:s.heap.objs.size∉[(s.heap.push {cls:=.type "set",dict:=none,data:=.set #[] 0 (.fresh 0 0 led)}).objs.size,l]:=by
      rw[Bj];simp only[Ar,Ai,Ax,or_false,not_or];exact⟨Aw (BC _),BI hlS⟩
     have hlen:xs.length=items.size:=by have:=hi.length;simpa using this.symm
     have hval:∀(i:Nat) (v:GQ),items[i]?=some v->∃x t,xs[i]?=some x/\v=.str x t:=fun i v hv=>tu hi i v (by rw[Bk];exact hv);refine kc ((FW hh3 _ l hneI items).toS) s.heap.objs.size hSf xs hlen hval hb (items.size-0) 0 _ [] (by omega) (A5 _)
      ⟨⟨_,An _ rfl,rfl,rfl⟩,(hl1.push _)⟩ ?hS0 (by rw[B5];exact .nil) ?hR
     case hS0 =>
      have hget:((s.heap.push {cls:=.type "set",dict:=none,data:=.set #[] 0 (.fresh 0 0 led)}).push {cls:=.type "list_iterator",data:=.fields #[.ref l,.int 0 0]}).get? s.heap.objs.size
       =some {cls:=.type "set",dict:=none,data:=.set #[] 0 (.fresh 0 0 led)}:=Ag _ hS
      exact⟨_,#[],0,_,hget,⟨rfl,rfl,rfl⟩,rfl,fun e he=>by simp at he,rfl,EB,by decide,by rfl,hled.symm,fun q=>absurd q (by simp)⟩
     case hR =>
      intro s' ss' hm hS' hd';obtain⟨h',g',d',tk',os'⟩:=s';have eg:g'=s.gens:=hm.gens;have ed:d'=s.drawn:=hm.drawn;have eo:os'=s.os:=hm.os;subst eg;subst ed;subst eo;show GY _ _ _ _ _ _;refine Af ?_;show GY _ _ (ret Value.none) _ _ _;refine Af ⟨rfl,h',tk',ss',rfl,hS',hd',fun b o hb e=>?_⟩;have hb1:b≠s.heap.objs.size:=Aw hb;have hb2:b≠(s.heap.push {cls:=.type "set",dict:=none,data:=.set #[] 0 (.fresh 0 0 led)}).objs.size:=by
       rw[Bj];exact Aw (BU hb)
      exact hm.heap b o (by simp only[Ar,Ai,Ax,or_false,not_or];exact⟨hb1,hb2⟩) (Ag _ (Ag _ e))
   . cases r₂ with
     | error e=>exact hr₂
     | ok fl₂ =>
      cases fl₂ with
      | ret r =>
       obtain⟨rfl,h',tk,ss,rfl,hS',hd',hk'⟩:=hr₂
       repeat (any_goals (first|assumption|wp_step))
       exact h _ _ ss hS' hd' hk'
      | _=>exact hr₂.elim
  | _=>exact hr.elim
end
namespace SF
theorem entry_set_iter:entryFor table "set.__iter__"=some Builtin.«frozenset.__iter__» := ED (id' := "frozenset.__iter__") (by kernel_rfl) rfl (by decide) (by kernel_rfl)
theorem slot_next:Slot "set_iterator" "__next__" "set_iterator.__next__" :=
 .of (owner := "set_iterator") (n := "__next__") (by rw[Cy,BQ];kernel_rfl) (by decide) (by decide) (by decide)
  (by first|exact .inl (by decide)|exact .inr (by decide)) (by rw[Dv];kernel_rfl)
theorem entry_next:entryFor table "set_iterator.__next__"=some Builtin.«set_iterator.__next__» := entryFor_of_tree (by kernel_rfl)
theorem args_next(a:GQ):argsOk "set_iterator.__next__" ⟨[a],[]⟩:=by unfold argsOk;kernel_rfl
theorem slot_self:Slot "set_iterator" "__iter__" "set_iterator.__iter__" :=
 .of (owner := "set_iterator") (n := "__iter__") (by rw[Cy,BQ];kernel_rfl) (by decide) (by decide) (by decide)
  (by first|exact .inl (by decide)|exact .inr (by decide)) (by rw[Dv];kernel_rfl)
theorem entry_self:entryFor table "set_iterator.__iter__"=some Builtin.«dict_keyiterator.__iter__» :=
 ED (id' := "dict_keyiterator.__iter__") (by kernel_rfl) rfl (by decide) (by kernel_rfl)
theorem args_self(a:GQ):argsOk "set_iterator.__iter__" ⟨[a],[]⟩:=by unfold argsOk;kernel_rfl
theorem set_len:typeLookup (.type "set") "__len__"=pure (some (.builtin "set.__len__")):=by rw[Cy,BQ];kernel_rfl
theorem sub_set:isSubtype (.type "set") (.type "set")=pure true:=by rw[Dv];kernel_rfl
end SF
open PyProof.Rows
theorem ip{α:Type}:∀(l:List α) (i:Nat) (h:i<l.length),(l[i]::l.eraseIdx i).Perm l
 | x::r,0,_=>Dw _
 | x::r,i+1,h=>by
  have h':i<r.length:=by simpa using h
  exact (List.Perm.swap x r[i] (r.eraseIdx i)).trans ((ip r i h').cons x)
theorem jt{α:Type}(next:Nat->Nat):∀(fuel k:Nat) (left:List α) (out:Array α),left.length=fuel->(Ft next fuel k left out).toList.Perm (out.toList++left)
 | 0,k,left,out,h=>by
  have e:left=[]:=B9 h;subst e;simp[Ft]
 | fuel+1,k,left,out,h=>by
  have hlt:next k % left.length<left.length:=Nat.mod_lt _ (by omega)
  unfold Ft;rw[Ae hlt];dsimp only;refine (jt next fuel (k+1) _ _ (by rw[DJ hlt];omega)).trans ?_;rw[Fy,DO];refine List.Perm.append_left _ ?_;rw[List.singleton_append];exact ip _ _ hlt
theorem mz{α:Type}(next:Nat->Nat)(xs:Array α):(pickOrder next xs).toList.Perm xs.toList:=by
 have:=jt next xs.size 0 xs.toList #[] (by simp)
 simpa [pickOrder] using this
section
variable{P:Gx}{w:G9}{A:HC}{E:GQ->GW->Prop}
theorem vj{src:Source}{n:Nat}{s:GW}{Q:Nat->GW->Prop}(hn:n≠0)(h:∀i d,i<n->Q i {s with drawn:=d}):GY (Gy P w) A (choose src n) Q E s:=by
 intro Γ p hΓ;unfold choose;rw[Sem.wp_choose];exact⟨hn,h _ _ (Nat.mod_lt _ (Nat.pos_of_ne_zero hn))⟩
theorem i0{α:Type}:∀(n:Nat) (xs:List α) (s:GW) (Q:List α->GW->Prop),xs.length=n->(∀ys d,ys.Perm xs->Q ys {s with drawn:=d})->GY (Gy P w) A (drawOrder n xs) Q E s
 | 0,xs,s,Q,hl,h=>by
  have e:xs=[]:=B9 hl;subst e;exact Af (h [] s.drawn (Dw _))
 | n+1,[],s,Q,hl,h=>by simp at hl
 | n+1,x::r,s,Q,hl,h=>by
  unfold drawOrder;refine Ab (vj (by rw[hl];exact Nat.succ_ne_zero n) fun i d hi=>?_);rw[Ae hi];dsimp only;refine Ab (i0 n _ _ _ (by rw[DJ hi];omega) fun ys d' hp=>?_);refine Af (h _ d' ?_);exact (hp.cons _).trans (ip _ _ hi)
end
theorem nj{α:Type}:∀l:List α,(AV l.length).filterMap (fun i=>l[i]?)=l
 | []=>rfl
 | x::r=>by
  rw[AM,List.range_succ_eq_map,BB];simp only[List.getElem?_cons_zero];rw[Fo];exact congrArg (x :: ·) (nj r)
def oo(first:GQ)(i:Nat)(S:GV)(n ep:Nat):Obj:={cls:=.type "set_iterator",dict:=none,data:=.fields #[first,.int i 0,.ref S,.int n 0,.int ep 0],slots := #[]}
inductive Ord(w:G9)(S:GV)(es:Array (Int×GQ))(ep:Nat)(t:SetTable)(h:HB):GQ->Nat->List GQ->Prop
 | text (i:Nat):w.params.followText "set-order"=true->Ord w S es ep t h (.int 0 0) i ((pickOrder (w.params.setOrder S ep) es).toList.map (·.2))
 | drawn (i:Nat)(T:GV)(ps:List Nat):w.params.followText "set-order"=false->IsTup h T (ps.map fun (p:Nat)=>Value.int p 0).toArray->(∀p∈ps,p<es.size)->Ord w S es ep t h (.ref T) i (ps.filterMap fun p=>(es[p]?).map (·.2))
 | none (k i:Nat):w.params.followText "set-order"=false->es.size=0->Ord w S es ep t h (.int k 0) i []
 | one0 (e:Int×GQ):w.params.followText "set-order"=false->es = #[e]->Ord w S es ep t h (.int 0 0) 0 [e.2]
 | one1 (e:Int×GQ)(j:Nat):w.params.followText "set-order"=false->es = #[e]->t.place = #[j]->Ord w S es ep t h (.int (j+1:Nat) 0) 1 [e.2]
def a3d(P:Gx)(w:G9)(S I T0:GV)(es:Array (Int×GQ))(ep:Nat)(t:SetTable)(ord:List GQ)(i:Nat)(h:HB):Prop :=
 ∃first o,h.get? I=some (oo first i S es.size ep)/\h.get? S=some o/\o.data=.set es ep t/\Ord w S es ep t h first i ord/\∀T,first=.ref T->T=T0
section
variable{P:Gx}{w:G9}{A:HC}{E:GQ->GW->Prop}{s:GW}
theorem a5l(j:Nat):Dx #[j] (j+1)=1:=by
 simp[Dx,FA]
theorem a6h(j:Nat):Dx #[j] 0=0:=by
 simp[Dx,FA]
theorem ja{Q:Bool->GW->Prop}(h:Q (w.params.followText "set-order") s):GY (Gy P w) A setsByText Q E s:=by
 unfold setsByText;exact Ab (DY (Af h))
theorem la{S:GV}{es:Array (Int×GQ)}{ep i k:Nat}{t:SetTable}{ord:List GQ}{o:Obj}{Q:Option (GQ×Nat)->GW->Prop}(ho:s.heap.get? S=some o)(hd:o.data=.set es ep t)(hf:t.fits es.size=true)(hled:t.led = !w.params.followText "set-order")(od:Ord w S es ep t s.heap (.int (k:Int) 0) i ord)(h:∀k':Nat,(∀v,ord[i]?=some v->Ord w S es ep t s.heap (.int (k':Int) 0) (i+1) ord)->Q ((ord[i]?).map fun v=>(v,k')) s):GY (Gy P w) A (setNext S k i ep) Q E s:=by
 unfold setNext;refine Ab (Cp ho hd hf ?_);dsimp only;refine Ab (ja ?_);generalize hk:(k:Int)=ki at od;generalize hfst:Value.int ki 0=first at od
 cases od with
 | text i ht =>
  cases hfst;obtain rfl:k=0:=by omega
  rw[ht];simp only[if_true,bne_self_eq_false,AY,if_false];unfold setWalk;refine Ab ?_;refine Ab (Cp ho hd hf ?_);dsimp only;refine Ab (ja ?_);rw[ht];simp only[if_true];refine Ab (DY (Af ?_));refine Af ?_;have:=h 0 fun v _=>Ord.text (i+1) ht;rw[Al,Bk] at this;rw[Option.map_map] at this;exact this
 | drawn=>cases hfst
 | none k' i ht h0 =>
  cases hfst;rw[ht];have e0:es = #[]:=Dj h0;subst e0;have hl:t.led=true:=by rw[hled,ht];rfl
  rw[if_neg Aq];split
  . rename_i hdr;have hdr':(!t.plain && decide ((#[]:Array (Int×GQ)).size>1))=true:=hdr;simp at hdr'
  . refine Ab (show GY (Gy P w) A (if (!t.led && !(#[]:Array (Int×GQ)).isEmpty)=true then unsupported "set:maker-not-led" else pure ()) _ _ _ from ?_);rw[hl];refine Af (Af ?_);have:=h k fun v e=>by simp at e
    simpa using this
 | one0 e ht he =>
  cases hfst;obtain rfl:k=0:=by omega
  rw[ht];subst he;have hl:t.led=true:=by rw[hled,ht];rfl
  have hpz:t.place.size=1:=by
   simp only[SetTable.fits,Be,beq_iff_eq] at hf;exact hf.1
  obtain⟨j,hj⟩:∃j,t.place = #[j]:=by
   generalize t.place=pl at hpz;obtain⟨l⟩:=pl
   match l,hpz with
   | [j],_=>exact⟨j,rfl⟩
  rw[if_neg Aq];split
  . rename_i hdr;have hdr':(!t.plain && decide ((#[e]:Array (Int×GQ)).size>1))=true:=hdr;simp at hdr'
  . refine Ab (show GY (Gy P w) A (if (!t.led && !(#[e]:Array (Int×GQ)).isEmpty)=true then unsupported "set:maker-not-led" else pure ()) _ _ _ from ?_);rw[hl];refine Af (Af ?_);rw[hj,a6h];exact h (j+1) fun v _=>Ord.one1 e j ht rfl hj
 | one1 e j ht he hp =>
  cases hfst;obtain rfl:k=j+1:=by omega
  rw[ht];subst he;have hl:t.led=true:=by rw[hled,ht];rfl
  rw[if_neg Aq];split
  . rename_i hdr;have hdr':(!t.plain && decide ((#[e]:Array (Int×GQ)).size>1))=true:=hdr;simp at hdr'
  . refine Ab (show GY (Gy P w) A (if (!t.led && !(#[e]:Array (Int×GQ)).isEmpty)=true then unsupported "set:maker-not-led" else pure ()) _ _ _ from ?_);rw[hl];refine Af (Af ?_);rw[hp,a5l];exact h 0 fun v e=>by simp at e
theorem Ord.keep{S:GV}{es:Array (Int×GQ)}{ep i:Nat}{t:SetTable}{ord:List GQ}{first:GQ}{h h':HB}(od:Ord w S es ep t h first i ord)(k:∀T o,first=.ref T->h.get? T=some o->h'.get? T=some o):Ord w S es ep t h' first i ord:=by
 cases od with
 | text i ht=>exact .text i ht
 | drawn i T ps ht hT hp =>
  obtain⟨o,e,c⟩:=hT;exact .drawn i T ps ht ⟨o,k T o rfl e,c⟩ hp
 | none kk i ht h0=>exact .none kk i ht h0
 | one0 e ht he=>exact .one0 e ht he
 | one1 e j ht he hp=>exact .one1 e j ht he hp
theorem Ord.kind{S:GV}{es:Array (Int×GQ)}{ep i:Nat}{t:SetTable}{ord:List GQ}{first:GQ}{h:HB}(od:Ord w S es ep t h first i ord):
 (∃k:Nat,first=.int (k:Int) 0)\/∃(T:GV) (ps:List Nat),first=.ref T/\w.params.followText "set-order"=false/\IsTup h T (ps.map fun (p:Nat)=>Value.int p 0).toArray/\(∀p∈ps,p<es.size)/\ord=ps.filterMap fun p=>(es[p]?).map (·.2):=by
 cases od with
 | text i ht=>exact .inl ⟨0,rfl⟩
 | drawn i T ps ht hT hp=>exact .inr ⟨T,ps,rfl,ht,hT,hp,rfl⟩
 | none k i ht h0=>exact .inl ⟨k,rfl⟩
 | one0 e ht he=>exact .inl ⟨0,rfl⟩
 | one1 e j ht he hp=>exact .inl ⟨j+1,rfl⟩
theorem Ord.step{S:GV}{es:Array (Int×GQ)}{ep i:Nat}{t:SetTable}{ord:List GQ}{T:GV}{h:HB}(od:Ord w S es ep t h (.ref T) i ord):Ord w S es ep t h (.ref T) (i+1) ord:=by
 cases od with
 | drawn i T ps ht hT hp=>exact .drawn (i+1) T ps ht hT hp
end
theorem su{es:Array (Int×GQ)}:∀{ps:List Nat},(∀p∈ps,p<es.size)->∀(i:Nat),(ps.filterMap fun p=>(es[p]?).map (·.2))[i]?=(ps[i]?).bind fun p=>(es[p]?).map (·.2)
 | [],_,i=>by simp
 | p::r,hp,i=>by
  have h1:p<es.size:=hp p (by simp);have e:es[p]?=some es[p]:=by simp[h1]
  rw[BB,e];cases i with
  | zero=>simp[e]
  | succ i=>simpa using su (fun q hq=>hp q (Ay _ hq)) i
section
variable{P:Gx}{w:G9}{A:HC}
theorem yh(hh:A.handled=none){S I:GV}{es:Array (Int×GQ)}{ep:Nat}{t:SetTable}{ord:List GQ}(fp:List GV)(hI:I∈fp)(hS:S∈fp)(hne:S≠I)(hf:t.fits es.size=true)(hled:t.led = !w.params.followText "set-order"){T0:GV}(hT:T0∈fp)(hTI:T0≠I):
 Walks P w A I fp [I] ord.length (fun i v=>ord[i]?=some v) (a3d P w S I T0 es ep t ord) where
 sub:=fun b hb=>by rw[Ai.mp hb];exact hI
 frame:=fun i h h' st hk=>by
  obtain⟨first,o,h1,h2,h3,h4,h5⟩:=st;exact⟨first,o,hk I hI _ h1,hk S hS _ h2,h3,h4.keep (fun T o e q=>hk T (by rw[h5 T e];exact hT) o q),h5⟩
 item:=fun i s Q E hi st hQ=>by
  obtain⟨first,o,h1,h2,h3,h4,h5⟩:=st;have ty:s.TypeIs (.ref I) "set_iterator" := ⟨_,h1,rfl⟩
  unfold HQ;refine Ab (CN (Bx (name:=Br "__next__") ty SF.slot_next (Bo SF.slot_next ty SF.entry_next ?_ (SF.args_next _))));show GY _ _ (fieldsOf (.ref I)>>=_) _ _ s;refine Ab (Dy h1 rfl ?_);show GY _ _ (setEntries S>>=_) _ _ s;refine Ab (Ds h2 h3 hf ?_);simp only[bne_self_eq_false,AY,if_false];have hv:ord[i]?=some ord[i]:=Ae hi;rcases h4.kind with⟨k,rfl⟩|⟨T,ps,rfl,ht,hTt,hps,hord⟩
  . show GY _ _ (setNext S (Ci (k:Int)) (Ci (i:Int)) (Ci (ep:Int))>>=_) _ _ s;simp only[AU];refine Ab (la h2 h3 hf hled h4 fun k' hk'=>?_);rw[hv];show GY _ _ (setField (.ref I) 0 (HW k')>>=_) _ _ s;refine Ab (Bn h1 (by simp) fun ha ha1 ha2=>?_);refine Ab (Bn ha1 (by simp) fun hb hb1 hb2=>?_);refine Af ⟨_,rfl,Af (hQ _ hb s.toks hv ⟨.int (k':Int) 0,o,hb1,?_,h3,(hk' _ hv).keep (fun T o e=>by cases e),(fun T e=>by cases e)⟩ fun b o hb' e=>?_)⟩
    . rw[hb2.2 S hne,ha2.2 S hne];exact h2
    . have:b≠I:=fun z=>hb' (by simp[z]);rw[hb2.2 b this,ha2.2 b this];exact e
  . have hTne:T≠I:=by rw[h5 T rfl];exact hTI
    have hg:=su hps i;rw[<- hord,hv] at hg;cases hpi:ps[i]? with
    | none=>rw[hpi] at hg;cases hg
    | some p =>
     rw[hpi] at hg;have hp:p<es.size:=hps p (Au hpi);have hep:es[p]?=some es[p]:=by simp[hp]
     have hg':some ord[i]=(es[p]?).map (·.2):=hg;rw[hep] at hg';have hval:ord[i]=es[p].2:=Ap hg';show GY _ _ (seqItems? (.ref T)>>=_) _ _ s;obtain⟨oT,eT,cT,nT,dT⟩:=hTt;refine Ab (EE eT dT ?_);dsimp only;have hpl:((ps.map fun (p:Nat)=>Value.int p 0).toArray)[Ci (i:Int)]?=some (.int (p:Int) 0):=by
      rw[AU,CU,Al,hpi];rfl
     rw[hpl];show GY _ _ (setNextDrawn S (Ci (p:Int)) (Ci (ep:Int))>>=_) _ _ s;simp only[AU];unfold setNextDrawn;refine Ab (Ab (Cp h2 h3 hf ?_));simp only[bne_self_eq_false,AY,if_false];rw[hep];refine Af ?_;refine Ab (Bn h1 (by simp) fun hb hb1 hb2=>?_);refine Af ⟨_,rfl,Af (hQ _ hb s.toks (by rw[hv,hval];rfl) ⟨.ref T,o,hb1,?_,h3,h4.step.keep (fun T' o e q=>?_),h5⟩ fun b o hb' e=>?_)⟩
     . rw[hb2.2 S hne];exact h2
     . cases e;rw[hb2.2 T hTne];exact q
     . have:b≠I:=fun z=>hb' (by simp[z]);rw[hb2.2 b this];exact e
 done:=fun s Q E st hQ=>by
  obtain⟨first,o,h1,h2,h3,h4,h5⟩:=st;have ty:s.TypeIs (.ref I) "set_iterator" := ⟨_,h1,rfl⟩
  have hv:ord[ord.length]?=none:=BR (Ah _);have stop:∀h':HB,(∀b o,b≠I->s.heap.get? b=some o->h'.get? b=some o)->GY (Gy P w) A.in1 (do raiseNew (<- newExc (.type "StopIteration") []):Sem Fin) (fun _ _=>False)
   (fun x s'=>GY (Gy P w) A (do let b<-isInstance x (.type "StopIteration");if b=true then pure Option.none else throw x) Q E s') {s with heap:=h'}:=by
   intro h' hk;refine Ab ?_;simp only[newExc,newTuple];refine Ab (AJ ?_ (by size_fits));refine Ab (m:=firstArgMember _ _) (FG (a:=Value.none) (by first|rfl|(simp only[firstArgMember];rfl)) ?_);refine AJ ?_ (by size_fits);simp only[raiseNew];refine Ab (wpAny_handled ?_);rw[show A.in1.handled=none from hh];refine Ab (Af (wpAny_throw ?_));refine Ab (CQ (T := "StopIteration") (b:=true) ⟨_,An _ rfl,rfl⟩ EF ?_);exact Af (hQ _ _ fun b o hb e=>Ag _ (Ag _ (hk b o (fun z=>hb (by simp[z])) e)))
  unfold HQ;refine Ab (CN (Bx (name:=Br "__next__") ty SF.slot_next (Bo SF.slot_next ty SF.entry_next ?_ (SF.args_next _))));show GY _ _ (fieldsOf (.ref I)>>=_) _ _ s;refine Ab (Dy h1 rfl ?_);show GY _ _ (setEntries S>>=_) _ _ s;refine Ab (Ds h2 h3 hf ?_);simp only[bne_self_eq_false,AY,if_false];rcases h4.kind with⟨k,rfl⟩|⟨T,ps,rfl,ht,hTt,hps,hord⟩
  . show GY _ _ (setNext S (Ci (k:Int)) (Ci (ord.length:Int)) (Ci (ep:Int))>>=_) _ _ s;simp only[AU];refine Ab (la h2 h3 hf hled h4 fun k' hk'=>?_);rw[hv];show GY _ _ (setField (.ref I) 2 .none>>=_) _ _ s;refine Ab (Bn h1 (by simp) fun ha ha1 ha2=>?_);refine Bh (stop ha fun b o hb e=>by rw[ha2.2 b hb];exact e) (fun _ _ z=>z.elim) fun x s' z=>?_;exact z
  . have hpi:ps[ord.length]?=none:=by
     have hg:=su hps ord.length;rw[<- hord,hv] at hg;cases hpi:ps[ord.length]? with
     | none=>rfl
     | some p =>
      rw[hpi] at hg;have hp:p<es.size:=hps p (Au hpi);have hep:es[p]?=some es[p]:=by simp[hp]
      have hg':(none:Option GQ)=(es[p]?).map (·.2):=hg;rw[hep] at hg';cases hg'
    show GY _ _ (seqItems? (.ref T)>>=_) _ _ s;obtain⟨oT,eT,cT,nT,dT⟩:=hTt;refine Ab (EE eT dT ?_);dsimp only;have hpl:((ps.map fun (p:Nat)=>Value.int p 0).toArray)[Ci (ord.length:Int)]?=none:=by
     rw[AU,CU,Al,hpi];rfl
    rw[hpl];show GY _ _ (setField (.ref I) 0 (HW 0)>>=_) _ _ s;refine Ab (Bn h1 (by simp) fun ha ha1 ha2=>?_);refine Ab (Bn ha1 (by simp) fun hb hb1 hb2=>?_);refine Bh (stop hb fun b o hb' e=>by rw[hb2.2 b hb',ha2.2 b hb'];exact e) (fun _ _ z=>z.elim) fun x s' z=>?_;exact z
 self:=fun i s Q E st hQ=>by
  obtain⟨first,o,h1,h2,h3,h4,h5⟩:=st;have ty:s.TypeIs (.ref I) "set_iterator" := ⟨_,h1,rfl⟩
  refine DP ty SF.slot_self (Bo SF.slot_self ty SF.entry_self ?_ (SF.args_self _));show GY _ _ (ret (.ref I)) _ _ s;exact Af ⟨_,rfl,"set_iterator",_,ty,SF.slot_next.lookup,hQ⟩
theorem sy{E:GQ->GW->Prop}{s:GW}{S:GV}{ss:List Str}{Q:GQ->GW->Prop}(hS:SSet P w s.heap S ss)(h:∀(h':HB) (d':Drawn) (I:GV) (fp:List GV) (ord:List GQ) (St:Nat->HB->Prop),(∀b o,s.heap.get? b=some o->h'.get? b=some o)->s.heap.objs.size<=I->I∈fp->(∀b∈fp,b<h'.objs.size/\(b=S\/s.heap.objs.size<=b))->
 (∀A':HC,A'.handled=none->Walks P w A' I fp [I] ord.length (fun i v=>ord[i]?=some v) St)->St 0 h'->(∃ys,StrsAre ord ys/\ys.Perm ss)->Q (.ref I) {s with heap:=h',drawn:=d'}):
 GY (Gy P w) A (pyIter (.ref S)) Q E s:=by
 obtain⟨o,es,ep,t,ho,hex,hd,hel,hss,hnd,hb,hf,hled,hpl⟩:=hS;have ty:s.TypeIs (.ref S) "set" := ⟨o,ho,hex.1⟩
 have hlt:S<s.heap.objs.size:=Ao ho;have hstr:∀l:List (Int×GQ),(∀e∈l,e∈es.toList)->StrsAre (l.map (·.2)) (l.map fun e=>en e.2):=by
  intro l;induction l with
  | nil=>intro _;exact .nil
  | cons e r ih =>
   intro hm;obtain⟨u,hu⟩:=ni hel (hm e (by simp));have:=StrsAre.cons (en e.2) u (ih fun x hx=>hm x (Ay _ hx));rw[<- hu] at this;exact this
 refine DP ty EG (Bo EG ty SF.entry_set_iter ?_ (PySem.F.args_set_iter_1 _));show GY _ _ (DZ S>>=_) _ _ s;unfold DZ;refine Ab (Ab (Ds ho hd hf (Af ?_)));unfold setDrawn;refine Ab (Ab (Cp ho hd hf ?_));dsimp only;refine Ab (ja (Af ?_));have make:∀(first:GQ) (T0:GV) (ord:List GQ) (h1:HB) (d1:Drawn),(∀b ob,s.heap.get? b=some ob->h1.get? b=some ob)->s.heap.objs.size<=h1.objs.size->(∀T,first=.ref T->T=T0)->T0<h1.objs.size->(T0=S\/s.heap.objs.size<=T0)->Ord w S es ep t h1 first 0 ord->(∃ys,StrsAre ord ys/\ys.Perm ss)->
  Q (.ref h1.objs.size) {s with heap:=h1.push (oo first 0 S es.size ep),drawn:=d1}:=by
  intro first T0 ord h1 d1 hk hsz hT hT1 hT2 od hord
  have hne:S≠h1.objs.size:=Aw (A4 hlt hsz);have szp:(h1.push (oo first 0 S es.size ep)).objs.size=h1.objs.size+1:=Bj ..;refine h _ d1 h1.objs.size [h1.objs.size,S,T0] ord (a3d P w S h1.objs.size T0 es ep t ord) (fun b ob e=>Ag _ (hk b ob e)) hsz (by simp) (fun b hb=>?_) (fun A' hA=>?_) ⟨first,o,An _ rfl,Ag _ (hk S o ho),hd,od.keep (fun T ob _ e=>Ag _ e),hT⟩ hord
  . rw[szp];have hb':b=h1.objs.size\/b=S\/b=T0:=by simpa using hb
    rcases hb' with rfl|rfl|rfl
    . exact⟨BC _,.inr hsz⟩
    . exact⟨BU (A4 hlt hsz),.inl rfl⟩
    . exact⟨BU hT1,hT2⟩
  . exact yh hA _ (by simp) (by simp) hne hf hled (by simp) (Aw hT1)
 have plain0:∀(ord:List GQ),Ord w S es ep t s.heap (.int 0 0) 0 ord->(∃ys,StrsAre ord ys/\ys.Perm ss)->Q (.ref s.heap.objs.size) {s with heap:=s.heap.push (oo (.int 0 0) 0 S es.size ep)}:=fun ord od hord =>
  make (.int 0 0) S ord s.heap s.drawn (fun _ _ e=>e) (Ah _) (fun T e=>by cases e) hlt (.inl rfl) od hord
 cases hbt:w.params.followText "set-order" with
 | true =>
  simp only[Bool.not_true,Ga,AY,if_false];refine Ab (Af (Ab (DQ ho hd hf ?_)));refine Ab (AJ (Af ⟨_,rfl,"set_iterator",_,⟨_,An _ rfl,rfl⟩,SF.slot_next.lookup,?_⟩));refine plain0 _ (.text 0 hbt) ⟨_,hstr _ (fun e he=>(mz _ es).mem_iff.mp he),?_⟩;rw[<- hss];exact (mz _ es).map _
 | false =>
  show GY _ _ (if (!false && (!t.plain && decide (es.size>1)))=true then _ else _) _ _ s;by_cases h2:es.size>1
  . have hp0:t.plain=false:=hpl (by omega);rw[if_pos (by simp[hp0,h2])];refine Ab (i0 es.size (AV es.size) s _ (by simp) fun ps d hps=>?_);have hpsl:ps.length=es.size:=by rw[hps.length_eq,By]
    refine Ab (AJ ?_ ?_)
    . refine (Ab (DQ (s:={s with heap:=s.heap.push _,drawn:=d}) (Ag _ ho) hd hf ?_));refine Ab (AJ (Af ⟨_,rfl,"set_iterator",_,⟨_,An _ rfl,rfl⟩,SF.slot_next.lookup,?_⟩));have hlp:∀p∈ps,p<es.size:=fun p hp=>Bc.mp (hps.mem_iff.mp hp);refine make (.ref s.heap.objs.size) s.heap.objs.size (ps.filterMap fun p=>(es[p]?).map (·.2)) (s.heap.push _) d (fun b ob e=>Ag _ e) (by rw[Bj];exact CL _) (fun T e=>by cases e;rfl) (by rw[Bj];exact BC _) (.inr (Ah _))
       (.drawn 0 _ ps hbt ⟨_,An _ rfl,rfl,_,rfl⟩ hlp) ?_
      have e1:(ps.filterMap fun p=>(es[p]?).map (·.2))=(ps.filterMap fun p=>es[p]?).map (·.2):=by rw[List.map_filterMap]
      have hpm:(ps.filterMap fun p=>es[p]?).Perm es.toList:=by
       have:=hps.filterMap (fun p=>es[p]?);have e2:=nj es.toList;simp only[Bk,Az] at e2;rw[e2] at this;exact this
      refine⟨_,by rw[e1];exact hstr _ (fun e he=>hpm.mem_iff.mp he),?_⟩;rw[<- hss];exact hpm.map _
    . have hz:ps.length<=GX:=by rw[hpsl];exact DN hb
      show (ps.map _).toArray.size<=GX;rw[As,Ac];exact hz
  . rw[if_neg (by simp[h2])];refine Ab (Af (Ab (DQ ho hd hf ?_)));refine Ab (AJ (Af ⟨_,rfl,"set_iterator",_,⟨_,An _ rfl,rfl⟩,SF.slot_next.lookup,?_⟩));by_cases h1:es.size=0
    . refine plain0 [] (.none 0 0 hbt h1) ⟨[],.nil,?_⟩;rw[<- hss,Dj h1];exact Dw _
    . obtain⟨e,he⟩:∃e,es = #[e]:=by
       obtain⟨l⟩:=es;have hl:l.length=1:=by
        have a1:¬ l.length>1:=h2;have a2:¬ l.length=0:=h1;omega
       obtain⟨e,rfl⟩:=List.length_eq_one_iff.mp hl;exact⟨e,rfl⟩
      refine plain0 [e.2] (.one0 e hbt he) ⟨[en e.2],hstr [e] (fun x hx=>by rw[he];exact hx),?_⟩;rw[<- hss,he];exact Dw _
theorem pe{E:GQ->GW->Prop}{s:GW}{S:GV}{ss:List Str}{Q:List GQ->GW->Prop}(hh:A.handled=none)(hS:SSet P w s.heap S ss)(hl:ss.length<=GX)(h:∀(h':HB) (d':Drawn) (tk:Nat) (ord:List GQ) (ys:List Str),(∀b o,s.heap.get? b=some o->h'.get? b=some o)->s.heap.objs.size<=h'.objs.size->StrsAre ord ys->ys.Perm ss->Q ord {s with heap:=h',drawn:=d',toks:=tk}):
 GY (Gy P w) A (collect (.ref S)) Q E s:=by
 obtain⟨o,es,ep,t,ho,hex,hd,hrest⟩:=id hS;have hlt:S<s.heap.objs.size:=Ao ho;unfold collect;refine Ab (wpAny_runValue (B7 entry_proto_collect' ?_));rw[Bw PySem.F.plain_proto_collect _];show GY _ A.in1 (newList []>>=fun l=>again (.builtin "list.__iadd__" ⟨[l,.ref S],[]⟩)) _ _ s;refine Ab (AJ ?_);refine Af ⟨Cd Ej _,B7 entry_list_iadd' ?_⟩;rw[Bw Ej _];generalize hH:s.heap.push {cls:=.type "list",data:=.seq ([]:List GQ).toArray}=H;have hHs:H.objs.size=s.heap.objs.size+1:=by rw[<- hH,Bj]
 have old:∀b ob,s.heap.get? b=some ob->H.get? b=some ob:=fun b ob e=>by rw[<- hH];exact Ag _ e
 have hS1:SSet P w H S ss:=hS.at fun o e=>old S o e;have hD:H.get? s.heap.objs.size=some {cls:=.type "list",data:=.seq #[]}:=by rw[<- hH];exact An _ rfl
 show GY _ A.in1 (DD (.ref s.heap.objs.size) (.ref S) (.ref s.heap.objs.size)) _ _ {s with heap:=H};unfold DD;refine Ab (Df (T := "set") (v:=.ref S) (show DI {s with heap:=H} (.ref S) "set" from⟨o,old S o ho,hex.1⟩) ?_);have h1:Ea (.ref s.heap.objs.size) (.ref S)=false:=by simp[Ea,BI hlt]
 have h2:(Value.type "set"==Value.type "list")=false:=by decide
 have h3:(Value.type "set"==Value.type "tuple")=false:=by decide
 simp only[h1,h2,h3,Gf,AY,if_false];refine Ab (sy (s:={s with heap:=H}) hS1 fun h' d' I fp ord St hk hI hIf hfp W st ⟨ys,hys,hp⟩=>?_);have ty':DI {s with heap:=h',drawn:=d'} (.ref S) "set" := ⟨o,hk S o (old S o ho),hex.1⟩
 refine Ab (B8 ?_);unfold Builtin.List.listLengthHint;refine Ab (wpAny_specialOf (T := "set") (v:=.ref S) ty' SF.set_len ?_)
 wp_delta
 refine Ab (CQ (T := "set") (v:=.ref S) (b:=true) ty' SF.sub_set ?_);show GY _ A.in1 (typeOf (Value.ref S)>>=_) _ _ _;refine Ab (Df (T := "set") (v:=.ref S) ty' ?_);refine Af ?_;have hDI:s.heap.objs.size≠I:=fun z=>by
  have:H.objs.size<=I:=hI;rw[hHs] at this;omega
 have hSf:s.heap.objs.size∉fp:=fun hb=>by
  rcases (hfp _ hb).2 with z|z
  . exact absurd z (BI hlt)
  . have:H.objs.size<=s.heap.objs.size:=z;rw[hHs] at this;omega
 have hlen:ord.length=ss.length:=by
  have a1:ord.length=ys.length:=hys.length;rw[a1,hp.length_eq]
 have key:∀(h1:HB) (c₁:Nat),St 0 h1->(∀b ob,b≠s.heap.objs.size->h'.get? b=some ob->h1.get? b=some ob)->h1.get? s.heap.objs.size=some {cls:=.type "list",data:=.seq #[] c₁}->
  HP (Gy P w) A (.builtin "list.extend.loop" ⟨[.ref s.heap.objs.size,.ref I,.ref s.heap.objs.size],[]⟩)
   (fun r s'=>r=.ok (.ret (.ref s.heap.objs.size))/\∃acc' c',s'.heap.get? s.heap.objs.size=some {cls:=.type "list",data:=.seq acc' c'}/\Q acc'.toList s') {s with heap:=h1,drawn:=d'}:=by
  intro h1 c₁ st1 hk1 hD1;refine codeAny_extend_loopS (W A.in1 hh).toS (by rw[hlen];exact hl) _ hSf _ ord.length 0 _ #[] c₁ rfl (A5 _) st1 hD1 (ItemsOf.nil _) fun s' acc' c' hm hS' hacc=>?_;refine⟨rfl,acc',c',hS',?_⟩;have eacc:acc'.toList=ord:=by
   refine List.ext_getElem? fun i=>?_;rw[Bk];by_cases hi:i<acc'.size
   . have e:acc'[i]?=some acc'[i]:=by simp[hi]
     rw[e,hacc.2 i _ e]
   . have hi':ord.length<=i:=by have:=hacc.1;omega
     rw[BR hi'];simp;omega
  have heq:s'={s with heap:=s'.heap,drawn:=d',toks:=s'.toks}:=Moved.eq_with hm;rw[eacc,heq];refine h s'.heap d' s'.toks ord ys (fun b ob e=>?_) (BH (Ao hS')) hys hp;have hb1:b≠s.heap.objs.size:=Aw (Ao e);have hb2:b≠I:=fun z=>by
   have hz:H.objs.size<=b:=by rw[z];exact hI
   rw[hHs] at hz;exact Bi _ (A4 (BU (Ao e)) hz)
  exact hm.heap b ob (by simp[hb1,hb2]) (hk1 b ob hb1 (hk b ob (old b ob e)))
 have hD':h'.get? s.heap.objs.size=some {cls:=.type "list",data:=.seq #[]}:=hk _ _ hD;have fin:∀(h1:HB) (c₁:Nat),St 0 h1->(∀b ob,b≠s.heap.objs.size->h'.get? b=some ob->h1.get? b=some ob)->h1.get? s.heap.objs.size=some {cls:=.type "list",data:=.seq #[] c₁}->∀(R:Result->GW->Prop),
  (∀s' acc' c',s'.heap.get? s.heap.objs.size=some {cls:=.type "list",data:=.seq acc' c'}->Q acc'.toList s'->R (.ok (.ret (.ref s.heap.objs.size))) s')->
  HP (Gy P w) A (.builtin "list.extend.loop" ⟨[.ref s.heap.objs.size,.ref I,.ref s.heap.objs.size],[]⟩) R {s with heap:=h1,drawn:=d'}:=by
  intro h1 c₁ a1 a2 a3 R hR;refine Cq (key h1 c₁ a1 a2 a3) fun r s' ⟨e,acc',c',q1,q2⟩=>?_;subst e;exact hR s' acc' c' q1 q2
 have last:∀(R:Result->GW->Prop),R=R->True:=fun _ _=>trivial;refine wpAny_ite_split (fun _=>?_) (fun _=>Af ⟨Cd DT _,fin h' 0 st (fun b ob _ e=>e) hD' _ fun s' acc' c' q1 q2=>?_⟩)
 . refine Ab (Dh ?_);refine Ab ?_;show GY _ _ (updateSeq s.heap.objs.size (·.push .none)>>=fun _=>updateSeq s.heap.objs.size (·.pop)) _ _ _;refine Ab (wpAny_updateSeq hD' rfl ?_);have hS₂:=B4 (ER (·.push Value.none)) hD' rfl;refine wpAny_updateSeq (hz:=by seq_fits) hS₂ rfl ?_;have hS₃:=B4 (ER (·.pop)) hS₂ rfl;refine Af ⟨Cd DT _,fin _ _ ?_ (fun b ob hb e=>?_) hS₃ _ fun s' acc' c' q1 q2=>?_⟩
   . refine (W A.in1 hh).frame 0 _ _ st fun b hb o e=>?_;have hbS:b≠s.heap.objs.size:=fun z=>hSf (z ▸ hb);exact (BG _ _ (A9 hbS)).trans ((BG _ _ (A9 hbS)).trans e)
   . exact (BG _ _ (A9 hb)).trans ((BG _ _ (A9 hb)).trans e)
   . show GY _ A (load s.heap.objs.size>>=_) _ _ _;exact Ab (FS q1 (Af q2))
 . show GY _ A (load s.heap.objs.size>>=_) _ _ _;exact Ab (FS q1 (Af q2))
theorem sx{E:GQ->GW->Prop}{s:GW}{S:GV}{ss:List Str}{Q:GQ->GW->Prop}(hh:A.handled=none)(hS:SSet P w s.heap S ss)(h64:ss.length<64)(h:∀(h':HB) (d':Drawn) (tk:Nat) (l:GV) (vs:List GQ) (zs:List Str) (e:Nat),(∀b o,s.heap.get? b=some o->h'.get? b=some o)->s.heap.objs.size<=l->h'.get? l=some {cls:=.type "list",data:=.seq vs.toArray e}->StrsAre vs zs->zs.Perm ss->sortedS zs=true->
 Q (.ref l) {s with heap:=h',drawn:=d',toks:=tk}):
 GY (Gy P w) A (call (.builtin "sorted") [.ref S]) Q E s:=by
 refine Calls.call_function_entry kind_sorted plain_sorted entry_sorted (args_sorted1 _) ?_;unfold Builtin.«sorted»;refine Ab (m:=checkCount "sorted" 1 1 _) (Af ?_);refine Ab (pe (A:=A.in1) (show A.in1.handled=none from hh) hS (by rw[DB];omega) fun h1 d1 tk1 ord ys hk1 hsz1 hys hp1=>?_);have hn:ord.length<64:=by
  have:ord.length=ys.length:=hys.length;rw[this,hp1.length_eq];exact h64
 refine Ab (wpAny_newList ?_ (by rw[DB];omega));have hoL:(h1.push (seqObj "list" ord.toArray 0)).get? h1.objs.size=some (seqObj "list" ord.toArray 0):=An _ rfl;show GY _ _ _ _ _ {s with heap:=h1.push (seqObj "list" ord.toArray 0),drawn:=d1,toks:=tk1};refine Ab (B8 (Bo slot_list_sort ⟨_,hoL,rfl⟩ entry_list_sort (list_sort_treeK strKind_oneLt hoL hys.keysOf (fun v₁ v₂ rest e=>keyKind_strs (by rw[<- e];exact hys)) hn fun st' a1 a2=>⟨_,rfl,?_⟩) (args_list_sort _)));obtain⟨zs,q1,q2,q3⟩:=sorted_out_str hys a1 a2;refine Af ⟨_,rfl,?_⟩;obtain⟨e,he⟩:=sortedHeap_at (out:=(arrOf st').map (·.2)) hoL;refine h _ d1 tk1 h1.objs.size ((arrOf st').map (·.2)).toList zs e (fun b o q=>?_) hsz1 he q1 (q2.trans hp1) q3;have hb:=Ao (hk1 b o q);rw[sortedHeap_old (Aw hb) (by rw[Bj];exact BU hb)];exact Ag _ (hk1 b o q)
end
section
variable{X:Cx}
def SetO(P:Gx)(w:G9)(a:GV)(ss:List Str):HO:=.ext fun h=>SSet P w h a ss
theorem ny:∀{xs:List Str}{us:List GQ},Vals (xs.map V.str) us->StrsAre us xs
 | [],_,h=>by cases h;exact .nil
 | x::r,_,h=>by
  cases h with
  | cons h1 h2=>obtain⟨t,rfl⟩:=h1;exact .cons x t (ny h2)
theorem o4:∀{us:List GQ}{xs:List Str},StrsAre us xs->Vals (xs.map V.str) us
 | _,_,.nil=>.nil
 | _,_,.cons x t r=>.cons ⟨t,rfl⟩ (o4 r)
theorem pc(hc:X.calm=true):du X (.type "set") (fun vs H Q=>∃(a:GV) (xs:List Str),vs=[.ref a]/\SqL X.K H a (xs.map V.str)/\xs.length+1<scanBound/\
 ∀p ss,H p=none->Dd xs ss->Q (.ref p) (upd H p (SetO X.prog X.w p ss))):=by
 intro pins s σ H vs us Q I r h;obtain⟨a,xs,rfl,hq,hz,q⟩:=h;obtain⟨u,rfl,ru⟩:=r.one;cases ru;obtain⟨its,rv,p,_⟩:=I.list hq;have hs:=ny rv;have hl:its.length=xs.length:=hs.length;refine o8 (I.ok.hd hc) p.isList (by simpa using hs) (by rw[As,hl];exact hz) fun h' tk ss hS hd hk=>?_;have fr:H s.heap.objs.size=none:=I.hok.fresh (Ah _);refine⟨.ref s.heap.objs.size,upd H s.heap.objs.size (SetO X.prog X.w s.heap.objs.size ss),I.laid (t':=tk) (fun b o e=>hk b o (Ao e) e) (Ah _) ⟨hS,?_,fun h1 h2 h3 k=>?_⟩,rfl,q _ ss fr hd⟩
 . obtain⟨o,_,_,_,ho,_⟩:=hS;exact⟨o,ho⟩
 . exact SSet.at h3 k
theorem gw(hc:X.calm=true):du X (.builtin "sorted") (fun vs H Q=>∃(a:GV) (ss:List Str),vs=[.ref a]/\H a=some (SetO X.prog X.w a ss)/\ss.length<64/\
 ∀p zs,H p=none->zs.Perm ss->sortedS zs=true->Q (.ref p) (upd H p (.lst (zs.map V.str)))):=by
 intro pins s σ H vs us Q I r h;obtain⟨a,ss,rfl,hq,hz,q⟩:=h;obtain⟨u,rfl,ru⟩:=r.one;cases ru;have hS:SSet X.prog X.w s.heap a ss:=(I.hok a _ hq).1;refine sx (I.ok.hd hc) hS hz fun h' d' tk l ws zs e hk hl hget hs hp hso=>?_;have fr:H l=none:=I.hok.fresh hl;have hzl:zs.length<64:=by rw[hp.length_eq];exact hz
 have ok':HOk X.prog X.w (upd H l (.lst (zs.map V.str))) h':=I.hok.laid (a:=l) (o:=.lst (zs.map V.str)) hk hl ⟨by rw[Ac];exact BH (g7 (by omega)),ws,e,o4 hs,hget⟩;have un:Un (frs X.stack) [] H (upd H l (.lst (zs.map V.str))) s.heap h':=Un.laid hk hl fr;exact⟨.ref l,_,I.call (g':=s.gens) (d':=d') (t':=tk) (ch:=[]) un ok' I.bare (fun b z=>absurd z (by simp)),rfl,q l zs fr hp hso⟩
end
section
variable{P:Gx}{w:G9}{K:Aa}{mg:Str->Option GQ}{base:HB}{N:List Str}{qual:Str}{scope:Scope}{f:GV}{cd:GQ}{A:HC}{outer:List Env}{s₀:GW}{H₀:Hp}{E:XK}
end
section
variable{P:Gx}{w:G9}{K:Aa}{mg:Str->Option GQ}{base:HB}{N:List Str}{qual:Str}{scope:Scope}{f:GV}{cd:GQ}{A:HC}{outer:List Env}{s₀:GW}{H₀:Hp}{E:XK}
end
section
variable{X:Cx}{E:XK}{x:Str}{C:GV}{B newId initId:String}{bmB:List GQ}{np cpos pos:Pos}{e:Expr}{es:List Expr}{t:TA}
end
section
variable{X:Cx}{pins₀:List (GV×Obj)}{E:XK}
end
section
variable{X:Cx}{E:XK}{c n:Str}{C:GV}{i:Nat}{body suite:List HF}{b₀:HF}{tb ts:TS}{np hpos pos:Pos}
end
open PySem.Builtin PySem.Builtin.ObjectAttr PySem.Builtin.Getset_descriptor
section
variable{prog:Gx}{w:G9}{A:HC}{E:GQ->GW->Prop}{h:HB}{g:Array GenState}{d:Drawn}{t:Nat}{os:OsState}{K:Aa}{a C:GV}{o:Obj}
end
section
variable{X:Cx}
end
mutual
inductive Dp(K:Aa)(H:Hp):V->PyData->Prop
 | non:Dp K H .non .none
 | bl (b:Bool):Dp K H (.bl b) (.bool b)
 | int (i:Int):Dp K H (.int i) (.int i)
 | str (x:Str):Dp K H (.str x) (.str x)
 | lst{a:GV}{xs:List V}{ds:List PyData}:SqL K H a xs->DpAll K H xs ds->Dp K H (.ref a) (.list ds)
 | tup{a:GV}{xs:List V}{ds:List PyData}:SqT K H a xs->DpAll K H xs ds->Dp K H (.ref a) (.tuple ds)
inductive DpAll(K:Aa)(H:Hp):List V->List PyData->Prop
 | nil:DpAll K H [] []
 | cons{v:V}{vs:List V}{d:PyData}{ds:List PyData}:Dp K H v d->DpAll K H vs ds->DpAll K H (v::vs) (d::ds)
end
section
variable{X:Cx}{pins:List (GV×Obj)}{σ:St}{H:Hp}{s:GW}
mutual
theorem Dp.reads(I:Inv X pins σ H s):∀{v:V}{d:PyData},Dp X.K H v d->∀{u:GQ},RelV v u->∃as,Reads s.heap u d as
 | _,_,.non,_,r=>by cases r;exact⟨_,.none⟩
 | _,_,.bl b,_,r=>by cases r;exact⟨_,.bool b⟩
 | _,_,.int i,_,r=>by obtain⟨t,rfl⟩:=r;exact⟨_,.int i t⟩
 | _,_,.str x,_,r=>by obtain⟨t,rfl⟩:=r;exact⟨_,.str x t⟩
 | _,_,.lst hs ha,_,r=>by
  cases r;obtain⟨its,rv,⟨o,n,e,hc,_,hd⟩,_⟩:=I.list hs;obtain⟨as,ra⟩:=DpAll.reads I ha rv;exact⟨_,.list e hc hd (by simpa using ra)⟩
 | _,_,.tup hs ha,_,r=>by
  cases r;obtain⟨its,rv,⟨o,e,hc,n,hd⟩,_⟩:=I.tuple hs;obtain⟨as,ra⟩:=DpAll.reads I ha rv;exact⟨_,.tuple e hc hd (by simpa using ra)⟩
theorem DpAll.reads(I:Inv X pins σ H s):∀{vs:List V}{ds:List PyData},DpAll X.K H vs ds->∀{us:List GQ},Vals vs us->∃as,ReadsAll s.heap us ds as
 | _,_,.nil,_,r=>by cases r;exact⟨_,.nil⟩
 | _,_,.cons h1 h2,_,r=>by
  cases r with
  | cons r1 r2 =>
   obtain⟨as,q1⟩:=Dp.reads I h1 r1;obtain⟨bs,q2⟩:=DpAll.reads I h2 r2;exact⟨_,.cons q1 q2⟩
end
end
def EqOk(d:PyData):Prop:=d.canLay0=true/\d.depth<=16
section
variable{X:Cx}
def rNeD(K:Aa):R2:=fun x y H Q=>∃dx dy,Dp K H x dx/\Dp K H y dy/\EqOk dx/\EqOk dy/\Q (.bl (!PyData.eqv dx dy)) H
theorem a65(hu:X.A.units+32<cLine):OpR X (HI .NotEq) (rNeD X.K):=by
 intro pins s σ H x y v u Q I rx ry h;obtain⟨dx,dy,h1,h2,o1,o2,q⟩:=h;obtain⟨as,ra⟩:=Dp.reads I h1 rx;obtain⟨bs,rb⟩:=Dp.reads I h2 ry;exact SeqAt.compareNe_reads ra rb o1.1 o2.1 (by have:=o1.2;have:=Nat.min_le_left dx.depth dy.depth;omega) ⟨.bl _,H,I,rfl,q⟩
end
def gy(r:List Str):List PyData:=r.map .str
def dRow(r:List Str):PyData:=.tuple (gy r)
def RowAt(K:Aa)(H:Hp)(a:GV)(r:List Str):Prop:=SqT K H a (r.map V.str)
def RowsAt(K:Aa)(H:Hp)(a:GV)(rs:List (List Str)):Prop:=∃as:List GV,H a=some (.lst (as.map V.ref))/\HD (fun b r=>RowAt K H b r) as rs
def TellAt(K:Aa)(H:Hp)(a:GV)(rss:List (List (List Str))):Prop:=∃as:List GV,SqT K H a (as.map V.ref)/\HD (fun b rs=>RowsAt K H b rs) as rss
theorem Same.seqT{K:Aa}{H H':Hp}{a:GV}{xs:List V}(e:Same H H')(h:SqT K H a xs):SqT K H' a xs:=by
 rcases h with (h|⟨o,h⟩)|h
 . exact .inl (.inl (e _ _ h))
 . exact .inl (.inr ⟨o,e _ _ h⟩)
 . exact .inr h
theorem RowAt.same{K:Aa}{H H':Hp}{a:GV}{r:List Str}(h:RowAt K H a r)(e:Same H H'):RowAt K H' a r:=e.seqT h
theorem RowsAt.same{K:Aa}{H H':Hp}{a:GV}{rs:List (List Str)}(h:RowsAt K H a rs)(e:Same H H'):RowsAt K H' a rs:=by
 obtain⟨as,h1,h2⟩:=h;exact⟨as,e _ _ h1,Paired.mapP h2 fun b r z=>z.same e⟩
theorem ur{K:Aa}{H:Hp}:∀r:List Str,DpAll K H (r.map V.str) (gy r)
 | []=>.nil
 | x::r=>.cons (.str x) (ur r)
theorem RowAt.dp{K:Aa}{H:Hp}{a:GV}{r:List Str}(h:RowAt K H a r):Dp K H (.ref a) (dRow r):=.tup h (ur r)
theorem u3{K:Aa}{H:Hp}:∀{as:List GV}{rs:List (List Str)},HD (fun b r=>RowAt K H b r) as rs->DpAll K H (as.map V.ref) (rs.map dRow)
 | _,_,.nil=>.nil
 | _,_,.cons h1 h2=>.cons h1.dp (u3 h2)
theorem RowsAt.dp{K:Aa}{H:Hp}{a:GV}{rs:List (List Str)}(h:RowsAt K H a rs):Dp K H (.ref a) (.list (rs.map dRow)):=by
 obtain⟨as,h1,h2⟩:=h;exact .lst (SqL.of h1) (u3 h2)
theorem ro{K:Aa}{H:Hp}:∀{as:List GV}{rss:List (List (List Str))},HD (fun b rs=>RowsAt K H b rs) as rss->DpAll K H (as.map V.ref) (rss.map fun rs=>PyData.list (rs.map dRow))
 | _,_,.nil=>.nil
 | _,_,.cons h1 h2=>.cons h1.dp (ro h2)
theorem TellAt.dp{K:Aa}{H:Hp}{a:GV}{rss:List (List (List Str))}(h:TellAt K H a rss):Dp K H (.ref a) (.tuple (rss.map fun rs=>.list (rs.map dRow))):=by
 obtain⟨as,h1,h2⟩:=h;exact .tup h1 (ro h2)
theorem ad{H:Hp}{p:GV}(h:H p=none)(o:HO):Same H (upd H p o):=fun b u q=>by rw[ag (ax q h)];exact q
section
variable{X:Cx}{o e:Expr}{to:TE}{t:TA}{apos cpos:Pos}
end
open PySem.Builtin.Str
def cutS(z:Str)(lo hi:Option Int):Str:=⟨((z.cps.toList.drop (HT.sIx z.length 0 lo)).take (HT.sIx z.length z.length hi-HT.sIx z.length 0 lo)).toArray⟩
theorem lm(n d:Nat)(hd:d<=n)(v:Option Int)(hv:∀i,v=some i -> -(n:Int)<=i\/0<=i\/True):HT.sIx n d v<=n:=by
 cases v with
 | none=>exact hd
 | some i =>
  show (if i<0 then (i+(n:Int)).toNat else min i.toNat n)<=n;split<;>omega
theorem qk(n d:Nat)(hd:d<=n)(v:Option Int):(match v with|none=>(d:Int)|some i=>max 0 (min (if i<0 then i+(n:Int) else i) (n:Int)))=((HT.sIx n d v:Nat):Int):=by
 cases v with
 | none=>rfl
 | some i =>
  show max 0 (min (if i<0 then i+(n:Int) else i) (n:Int))=((if i<0 then (i+(n:Int)).toNat else min i.toNat n:Nat):Int)
  split<;>omega
theorem uo(lo hi:Option Int)(n:Nat):strSliceIndices lo hi 1 n=(AV (HT.sIx n n hi-HT.sIx n 0 lo)).map (fun k=>HT.sIx n 0 lo+k):=by
 have e1:=qk n 0 (A5 _) lo;have e2:=qk n n (Ah _) hi;have key:strSliceIndices lo hi 1 n=sliceRange ((HT.sIx n 0 lo:Nat):Int) ((HT.sIx n n hi:Nat):Int) 1:=by
  rw[<- e1,<- e2];cases lo<;>cases hi<;>rfl
 rw[key];generalize HT.sIx n 0 lo=a;generalize HT.sIx n n hi=b;unfold sliceRange;simp only[show ((1:Int)>0)=True from by simp,if_true];by_cases h:(a:Int)<b
 . rw[if_pos h];have e3:(((b:Int)-a+1-1) / 1).toNat=b-a:=by omega
   rw[e3];refine Cv fun k _=>?_;omega
 . rw[if_neg h];have e4:b-a=0:=by omega
   rw[e4];rfl
theorem zd(z:Str)(lo hi:Option Int):((strSliceIndices lo hi 1 z.length).filterMap (z.cps[·]?))=(z.cps.toList.drop (HT.sIx z.length 0 lo)).take (HT.sIx z.length z.length hi-HT.sIx z.length 0 lo):=by
 rw[uo];have hz:z.length=z.cps.toList.length:=by simp[BF]
 have hb:HT.sIx z.length z.length hi<=z.length:=lm _ _ (Ah _) hi fun _ _=>.inr (.inr trivial);generalize HT.sIx z.length 0 lo=a at*;generalize HT.sIx z.length z.length hi=b at*;by_cases h:a<=b
 . have:=StrLaws.picks z.cps.toList (b-a) a (by omega);simpa using this
 . have e:b-a=0:=by omega
   rw[e];simp
section
variable{X:Cx}
def rSlS:V->Option Int->Option Int->Hp->VK->Prop:=fun x lo hi H Q=>∃z,x=.str z/\z.length<=GX/\Q (.str (cutS z lo hi)) H
theorem a02:SlR X rSlS:=by
 intro pins s σ H x v vl vu lo hi sl Q I rx hs pl pu h;obtain⟨z,rfl,hz,q⟩:=h;obtain⟨t,rfl⟩:=rx;refine⟨"str",_,PySem.F.slot_str_getitem.lookup,EO s z t,?_⟩;obtain⟨l,hl,el⟩:∃l:Option (Int×Tok),partValue l=vl/\l.map (·.1)=lo:=by
  cases pl with
  | none=>exact⟨none,rfl,rfl⟩
  | int i t=>exact⟨some (i,t),rfl,rfl⟩
 obtain⟨u,hu,eu⟩:∃u:Option (Int×Tok),partValue u=vu/\u.map (·.1)=hi:=by
  cases pu with
  | none=>exact⟨none,rfl,rfl⟩
  | int i t=>exact⟨some (i,t),rfl,rfl⟩
 have hS:s.heap.IsSlice sl l u none:=by
  obtain⟨o,ho,hc,hd⟩:=hs;exact⟨o,ho,hc,by rw[hd,hl,hu];rfl⟩
 refine getItem_meets (EO s z t) (by decide) PySem.F.slot_str_getitem PySem.F.entry_str_getitem (PySem.F.args_str_getitem_2 _ _) (meets_str_getitem_slice z t sl l u none (by decide)) ⟨hS,?_⟩;have epick:slicePicked z l u none=strSliceIndices lo hi 1 z.length:=by
  unfold slicePicked;rw[el,eu];rfl
 have ecut:((slicePicked z l u none).filterMap (z.cps[·]?))=(z.cps.toList.drop (HT.sIx z.length 0 lo)).take (HT.sIx z.length z.length hi-HT.sIx z.length 0 lo):=by rw[epick];exact zd z lo hi
 unfold sliceMade;split
 . rename_i hw;have hlen:(slicePicked z l u none).length=z.length:=by simpa using hw
   have eq:cutS z lo hi=z:=by
    have e1:((z.cps.toList.drop (HT.sIx z.length 0 lo)).take (HT.sIx z.length z.length hi-HT.sIx z.length 0 lo))=z.cps.toList:=by
     rw[epick,uo,Ac,By] at hlen;have hb:HT.sIx z.length z.length hi<=z.length:=lm _ _ (Ah _) hi fun _ _=>.inr (.inr trivial);rcases Nat.eq_zero_or_pos z.length with h0|h0
     . have:z.cps.toList=[]:=by
        have:z.cps.toList.length=0:=by simpa [BF] using h0
        exact B9 this
       rw[this];simp
     . have ea:HT.sIx z.length 0 lo=0:=by omega
       have eb:HT.sIx z.length z.length hi=z.length:=by omega
       rw[ea,eb,Dz,Dk];exact Bf (by simp[BF])
    unfold cutS;rw[e1]
   rw[eq] at q;exact⟨.str z,H,I,⟨t,rfl⟩,q⟩
 . show (Made.str _).post _ s;rw[ecut];refine⟨?_,.str (cutS z lo hi),H,I.tok _,⟨_,rfl⟩,q⟩;refine AB ?_ hz;show ((z.cps.toList.drop (HT.sIx z.length 0 lo)).take (HT.sIx z.length z.length hi-HT.sIx z.length 0 lo)).toArray.size<=z.cps.size;rw[As,A2,Bd,Az];omega
end
def Glob(mg:Str->Option GQ)(x:Str)(v:V):Prop:=∃u,mg x=some u/\RelV v u
theorem pe_g{X:Cx}{x:Str}{v:V}{pos:Pos}(h:Glob X.mg x v)(hg:Gl X x:=by rfl)(hd:(x==("__debug__":Str))=false:=by decide):PE X (.Name x pos) (tC v):=by
 obtain⟨u,hm,r⟩:=h;exact a5a hg hm r hd
theorem rf{sc:Scope}{env:Env}(hfree:∀y∈sc.names,y.2≠.free)(hcell:∀y∈sc.names,y.2≠.cell)(y:Str)(h:(HH sc env).names.lookup y=some .cell\/(HH sc env).names.lookup y=some .free):False:=by
 have key:∀k,(HH sc env).names.lookup y=some k->∃z∈sc.names,z.2=k\/z.2=.free:=fun k e=>by
  have hm:=Bg e;obtain⟨z,hz,ez⟩:=A3.mp hm;refine⟨z,hz,?_⟩;obtain⟨n,kk⟩:=z;dsimp only at ez;split at ez
  . rename_i hc;simp only[Be,beq_iff_eq] at hc;exact .inr hc.1.1
  . exact .inl (congrArg Prod.snd ez)
 rcases h with h|h
 . obtain⟨z,hz,q|q⟩:=key _ h
   . exact hcell z hz q
   . exact hfree z hz q
 . obtain⟨z,hz,q|q⟩:=key _ h
   . exact hfree z hz q
   . exact hfree z hz q
theorem qr{X:Cx}{elt iter:Expr}{x:Str}{px pos:Pos}{ifs:List Expr}{sc:Scope}{wi:TI}{tc:TT}{te:TE}(hi:PI X (.Name x px) iter wi)(hif:∀s H C ex,PTs (blk X [x] s H sc [] C ex) ifs tc)(he:∀s H C ex,PE (blk X [x] s H sc [] C ex) elt te)(hc:X.calm=true:=by rfl)(hkind:sc.kind=.function:=by rfl)(hx:sc.names.lookup x=some .local:=by decide)(hfree:∀y∈sc.names,y.2≠.free:=by decide)(hcell:∀y∈sc.names,y.2≠.cell:=by decide)(hnames:∀y∈sc.names,y.2=.local->sc.names.lookup y.1=some .local:=by decide)(hs:∀x,HE iter X.env x=pure x:=by intro _;rfl):
 PE X (.ListComp elt [⟨.Name x px,iter,ifs,0⟩] sc pos) (im [] wi tc te) :=
 v4 [x] hc hi hif he hkind rfl (by simp) hx (PySem.closureFor_none hfree) hcell hnames (fun y c e=>by simp at e) (fun y h=>(rf hfree hcell y h).elim) (fun j hj=>by simp at hj) hs
structure JSeq(J:It)(I0:Hp->Prop)(xs:List V):Prop where
 go:∀i H,I0 H->i<xs.length->J.go i H
 stop:∀i H,I0 H->xs.length<=i->J.stop i H
 yld:∀i H x H',i<xs.length->I0 H->J.yld i H x H'->H'=H/\xs[i]?=some x
 stay:∀H H',I0 H->Same H H'->I0 H'
theorem a1g{K:Aa}{a:GV}{xs:List V}:JSeq (Itt K a) (fun H=>SqT K H a xs) xs where
 go:=fun i H h hi=>⟨xs,xs[i],h,by simp[hi]⟩
 stop:=fun i H h hi=>⟨xs,h,hi⟩
 yld:=fun i H x H' _ h y=>⟨y.1,y.2 xs h⟩
 stay:=fun H H' h e=>e.seqT h
theorem fb{K:Aa}{a:GV}{xs:List V}:JSeq (Itl K a) (fun H=>SqL K H a xs) xs where
 go:=fun i H h hi=>⟨xs,xs[i],h,by simp[hi]⟩
 stop:=fun i H h hi=>⟨xs,h,hi⟩
 yld:=fun i H x H' _ h y=>⟨y.1,y.2 xs h⟩
 stay:=fun H H' h e=>e.seq h
def nums(lo:Int)(n:Nat):List V:=(AV n).map fun i=>V.int (lo+(i:Nat))
theorem sk{lo:Int}{n:Nat}:JSeq (Itr lo n) (fun _=>True) (nums lo n) where
 go:=fun i H _ hi=>by simpa [nums,Itr] using hi
 stop:=fun i H _ hi=>by simpa [nums,Itr] using hi
 yld:=fun i H x H' hi _ y=>by
  refine⟨y.1,?_⟩;have hi':i<n:=by simpa [nums] using hi
  have e:x=.int (lo+i):=y.2;unfold nums;rw[Al,List.getElem?_range hi',e];rfl
 stay:=fun _ _ _ _=>trivial
theorem Paired.snocP{α β:Type}{F:α->β->Prop}{x:α}{y:β}:∀{l₁:List α}{l₂:List β},HD F l₁ l₂->F x y->HD F (l₁++[x]) (l₂++[y])
 | _,_,.nil,h=>.cons h .nil
 | _,_,.cons h₁ t,h=>.cons h₁ (Paired.snocP t h)
def wq(D:GV)(H H':Hp):Prop:=∀b u,H b=some u->b≠D->H' b=some u
theorem Same.x{H H':Hp}(e:Same H H')(D:GV):wq D H H':=fun b u q _=>e b u q
theorem a1n{J:It}{H1:Hp}{σ:St}{ix:List Nat}{tc:TT}{te:TE}{Q:VK}{I0:Hp->Prop}(xs:List V)(p:V->Bool)(R:GV->V->V->Hp->Prop)(hJ:JSeq J I0 xs)(h0:I0 H1)(hz:xs.length<=GX)(hR:∀D x y H H',R D x y H->wq D H H'->R D x y H')(hc:∀x∈xs,∀H2,Same H1 H2->∀Q':Bool->Hp->Prop,(∀H3,Same H2 H3->Q' (p x) H3)->tc (some x::br σ ix) H2 Q')(he:∀D,∀x∈xs,p x=true->∀H2,Same H1 H2->H2 D≠none->∀Q':VK,(∀y H3,Same H2 H3->R D x y H3->Q' y H3)->te (some x::br σ ix) H2 Q')(hQ:∀D H' ys,H1 D=none->Same H1 H'->H' D=some (.lst ys)->HD (fun x y=>R D x y H') (xs.filter p) ys->Q (.ref D) H'):
 i8 J H1 σ ix tc te Q:=by
 intro D hD;have put:∀H ys,Same H1 H->Same H1 (upd H D (.lst ys)):=fun H ys e b u q=>by rw[ag (ax q hD)];exact e b u q
 refine⟨fun i m H=>i<=xs.length/\m=xs.length-i/\Same H1 H/\∃ys,H D=some (.lst ys)/\HD (fun x y=>R D x y H) ((xs.take i).filter p) ys,⟨xs.length,A5 _,rfl,put _ _ (Same.refl _),[],aa,by simpa using Paired.nil⟩,?_⟩;rintro i m H ⟨hi,rfl,e,ys,hy,hp⟩;have hI:=hJ.stay _ _ h0 e;by_cases hlt:i<xs.length
 . refine .inr ⟨hJ.go i H hI hlt,fun x H' hy'=>?_⟩;obtain⟨rfl,hx⟩:=hJ.yld i H x H' hlt hI hy';have hm:x∈xs:=Au hx;have ht:xs.take (i+1)=xs.take i++[x]:=by rw[AR,hx];rfl
   have hlen:ys.length<=i:=by
    have h1:=A8 hp;have h2:=Bl p (xs.take i);rw[A2] at h2;omega
   refine hc x hm _ e _ fun H3 e3=>?_;cases hpx:p x with
   | false =>
    rw[if_neg Aq];refine⟨xs.length-(i+1),by omega,hlt,rfl,e.trans e3,ys,e3 _ _ hy,?_⟩;rw[ht,CB];simp only[CS,hpx,Dl,Cf,AY,if_false];exact Paired.mapP hp fun x y z=>hR _ _ _ _ _ z (e3.x D)
   | true =>
    rw[if_pos rfl];refine he D x hm hpx _ (e.trans e3) (by rw[e3 _ _ hy];simp) _ fun y H4 e4 hr=>?_;have e5:wq D H4 (upd H4 D (.lst (ys++[y]))):=fun b u q hb=>by rw[ag hb];exact q
    refine⟨ys,e4 _ _ (e3 _ _ hy),by omega,xs.length-(i+1),by omega,hlt,rfl,put _ _ (e.trans (e3.trans e4)),ys++[y],aa,?_⟩;rw[ht,CB];simp only[CS,hpx,Dl,if_true];exact Paired.snocP (Paired.mapP hp fun x y z=>hR _ _ _ _ _ (hR _ _ _ _ _ z ((e3.trans e4).x D)) e5) (hR _ _ _ _ _ hr e5)
 . have hi':i=xs.length:=by omega
   subst hi';refine .inl ⟨hJ.stop _ H hI (Ah _),?_⟩;rw[Bb] at hp;exact hQ D H ys hD e hy hp
theorem lj{α β:Type}{f:α->β}:∀{l:List α}{l':List β},HD (fun x y=>y=f x) l l'->l'=l.map f
 | _,_,.nil=>rfl
 | _,_,.cons h t=>by rw[h,lj t];rfl
theorem kj{J:It}{H1:Hp}{σ:St}{ix:List Nat}{tc:TT}{te:TE}{Q:VK}{I0:Hp->Prop}(xs:List V)(p:V->Bool)(f:V->V)(hJ:JSeq J I0 xs)(h0:I0 H1)(hz:xs.length<=GX)(hc:∀x∈xs,∀H2,Same H1 H2->∀Q':Bool->Hp->Prop,(∀H3,Same H2 H3->Q' (p x) H3)->tc (some x::br σ ix) H2 Q')(he:∀x∈xs,p x=true->∀H2,Same H1 H2->∀Q':VK,(∀H3,Same H2 H3->Q' (f x) H3)->te (some x::br σ ix) H2 Q')(hQ:∀D H',H1 D=none->Same H1 H'->H' D=some (.lst ((xs.filter p).map f))->Q (.ref D) H'):
 i8 J H1 σ ix tc te Q :=
 a1n xs p (fun _ x y _=>y=f x) hJ h0 hz (fun _ _ _ _ _ h _=>h) hc (fun _ x hx hp H2 e _ Q' q=>he x hx hp H2 e Q' fun H3 e3=>q _ H3 e3 rfl) fun D H' ys hD e hy hp=>hQ D H' hD e (by rw[hy,lj hp])
theorem a54{J:It}{H1:Hp}{σ:St}{ix:List Nat}{te:TE}{Q:VK}{I0:Hp->Prop}(xs:List V)(ws:List V)(hJ:JSeq J I0 xs)(h0:I0 H1)(hz:xs.length<=GX)(hl:ws.length=xs.length)(he:∀(i:Nat) (x y:V),xs[i]?=some x->ws[i]?=some y->∀H2,Same H1 H2->∀Q':VK,(∀H3,Same H2 H3->Q' y H3)->te (some x::br σ ix) H2 Q')(hQ:∀D H',H1 D=none->Same H1 H'->H' D=some (.lst ws)->Q (.ref D) H'):i8 J H1 σ ix tYes te Q:=by
 intro D hD;have put:∀H ys,Same H1 H->Same H1 (upd H D (.lst ys)):=fun H ys e b u q=>by rw[ag (ax q hD)];exact e b u q
 refine⟨fun i m H=>i<=xs.length/\m=xs.length-i/\Same H1 H/\H D=some (.lst (ws.take i)),⟨xs.length,A5 _,rfl,put _ _ (Same.refl _),by rw[aa,B5]⟩,?_⟩;rintro i m H ⟨hi,rfl,e,hy⟩;have hI:=hJ.stay _ _ h0 e;by_cases hlt:i<xs.length
 . refine .inr ⟨hJ.go i H hI hlt,fun x H' hy'=>?_⟩;obtain⟨rfl,hx⟩:=hJ.yld i H x H' hlt hI hy';have hw:ws[i]?=some ws[i]:=Ae (by omega);unfold tYes;dsimp only;rw[if_pos rfl];refine he i x ws[i] hx hw _ e _ fun H3 e3=>?_;refine⟨ws.take i,e3 _ _ hy,by rw[A2];omega,xs.length-(i+1),by omega,hlt,rfl,put _ _ (e.trans e3),?_⟩;rw[aa,AR,hw];rfl
 . have hi':i=xs.length:=by omega
   subst hi';refine .inl ⟨hJ.stop _ H hI (Ah _),hQ D H hD e ?_⟩;rw[hy,Bf (by omega)]
theorem iw{α:Type}{J:It}{H1:Hp}{σ:St}{ix:List Nat}{te:TE}{Q:VK}{I0:Hp->Prop}(xs:List V)(rs:List α)(p:α->Bool)(hJ:JSeq J I0 xs)(h0:I0 H1)(hz:xs.length<=1000)(hl:rs.length=xs.length)(he:∀(i:Nat) (x:V) (r:α),xs[i]?=some x->rs[i]?=some r->∀H2,Same H1 H2->∀Q':VK,(∀H3,Same H2 H3->Q' (.bl (p r)) H3)->te (some x::br σ ix) H2 Q')(hQ:∀D H',H1 D=none->Same H1 H'->H' D=some (.lst ((rs.map p).map V.bl))->Q (.ref D) H'):i8 J H1 σ ix tYes te Q :=
 a54 xs ((rs.map p).map V.bl) hJ h0 (BH (g7 hz)) (by simp[hl]) (fun i x y hx hy H2 e Q' q=>by
  rw[Al,Al] at hy;cases hr:rs[i]? with
  | none=>rw[hr] at hy;cases hy
  | some r =>
   rw[hr] at hy;have:y=.bl (p r):=(Ap hy).symm;subst this;exact he i x r hx hr H2 e Q' q) hQ
section
variable{κ:Type}[DecidableEq κ]
def valV(kvs:List (κ×V))(k:κ):Option V:=(kvs.find? fun kv=>decide (kv.1=k)).map (·.2)
def putK(kvs:List (κ×V))(k:κ)(v:V):List (κ×V) :=
 if (kvs.any fun kv=>decide (kv.1=k))=true then kvs.map (fun kv=>if kv.1=k then (kv.1,v) else kv) else kvs++[(k,v)]
theorem cg{p:κ×V}{r:List (κ×V)}{k:κ}(e:p.1=k):valV (p::r) k=some p.2:=by simp[valV,B0,e]
theorem ci{p:κ×V}{r:List (κ×V)}{k:κ}(e:¬ p.1=k):valV (p::r) k=valV r k:=by simp[valV,B0,e]
theorem dz(k:κ):∀kvs:List (κ×V),(kvs.any fun kv=>decide (kv.1=k))=(valV kvs k).isSome
 | []=>rfl
 | p::r=>by
  rw[CM];by_cases e:p.1=k
  . simp only[cg e,decide_eq_true e,Bool.true_or,Option.isSome_some]
  . rw[ci e,decide_eq_false e,Bool.false_or];exact dz k r
theorem pq(k j:κ)(y:V):∀kvs:List (κ×V),valV (kvs.map fun kv=>if kv.1=k then (kv.1,y) else kv) j=(valV kvs j).map fun x=>if j=k then y else x
 | []=>rfl
 | p::r=>by
  have ih:=pq k j y r;rw[AI];by_cases h:p.1=k
  . rw[if_pos h];by_cases e:p.1=j
    . rw[cg (p:=(p.1,y)) e,cg e,Dm,if_pos (e.symm.trans h)]
    . rw[ci (p:=(p.1,y)) e,ci e,ih]
  . rw[if_neg h];by_cases e:p.1=j
    . rw[cg (p:=p) e,cg e,Dm,if_neg (fun z=>h (e.trans z))]
    . rw[ci (p:=p) e,ci e,ih]
theorem nt(k j:κ)(y:V):∀kvs:List (κ×V),valV kvs k=none->valV (kvs++[(k,y)]) j=if j=k then some y else valV kvs j
 | [],_=>by
  by_cases e:k=j
  . rw[if_pos e.symm];exact cg (p:=(k,y)) e
  . rw[if_neg (fun z=>e z.symm)];exact ci (p:=(k,y)) e
 | p::r,hn=>by
  rw[Eb];have hk:¬ p.1=k:=fun z=>by rw[cg z] at hn;cases hn
  rw[ci hk] at hn;have ih:=nt k j y r hn;by_cases e:p.1=j
  . rw[cg e,cg e,if_neg (fun z=>hk (e.trans z))]
  . rw[ci e,ci e,ih]
theorem rl(kvs:List (κ×V))(k j:κ)(y:V):valV (putK kvs k y) j=if j=k then some y else valV kvs j:=by
 unfold putK;by_cases a:(kvs.any fun kv=>decide (kv.1=k))=true
 . rw[if_pos a,pq];rw[dz] at a;by_cases e:j=k
   . obtain⟨x,hx⟩:=Bv.mp a;rw[if_pos e,e,hx,Dm,if_pos rfl]
   . rw[if_neg e];cases valV kvs j with
     | none=>rfl
     | some x=>rw[Dm,if_neg e]
 . rw[if_neg a];refine nt k j y kvs ?_;rw[dz] at a;cases q:valV kvs k with
   | none=>rfl
   | some x=>rw[q] at a;exact (a rfl).elim
theorem df(kvs:List (κ×V))(k:κ)(v:V):(putK kvs k v).length<=kvs.length+1:=by
 unfold putK;split
 . rw[Ac];omega
 . rw[Aj,AM,Eu];omega
theorem kl{kvs:List (κ×V)}{k:κ}(v:V)(h:valV kvs k=none):putK kvs k v=kvs++[(k,v)]:=by
 unfold putK;rw[dz,h];exact if_neg (by decide)
theorem RelO.isSome_eq{o:Option V}{u:Option GQ}(r:RelO o u):o.isSome=u.isSome:=by
 cases o with
 | none=>cases u with
  | none=>rfl
  | some _=>exact (show False from r).elim
 | some _=>cases u with
  | none=>exact (show False from r).elim
  | some _=>rfl
theorem RelO.getD{o:Option V}{u:Option GQ}{d:V}{d':GQ}(r:RelO o u)(rd:RelV d d'):RelV (o.getD d) (u.getD d'):=by
 cases o with
 | none=>cases u with
  | none=>exact rd
  | some _=>exact (show False from r).elim
 | some _=>cases u with
  | none=>exact (show False from r).elim
  | some _=>exact r
theorem KV.val{kvs:List (κ×V)}{vs:List (κ×GQ)}(r:KV kvs vs)(k:κ):RelO (valV kvs k) (valueAt vs k):=by
 unfold KV at r;induction r with
 | nil=>exact True.intro
 | @cons p q ps qs h t ih =>
  obtain⟨h1,h2⟩:=h;by_cases e:p.1=k
  . have e':q.1=k:=h1.symm.trans e;have b:valueAt (q::qs) k=some q.2:=by simp[valueAt,B0,e']
    rw[cg e,b];exact h2
  . have e':¬ q.1=k:=fun z=>e (h1.trans z);have b:valueAt (q::qs) k=valueAt qs k:=by simp[valueAt,B0,e']
    rw[ci e,b];exact ih
theorem KV.any{kvs:List (κ×V)}{vs:List (κ×GQ)}(r:KV kvs vs)(k:κ):(kvs.any fun kv=>decide (kv.1=k))=vs.any fun kv=>decide (kv.1=k):=by
 unfold KV at r;induction r with
 | nil=>rfl
 | cons h t ih=>rw[CM,CM,ih,h.1]
theorem KV.repl{kvs:List (κ×V)}{vs:List (κ×GQ)}(r:KV kvs vs)(k:κ){y:V}{u:GQ}(ry:RelV y u):
 KV (kvs.map fun kv=>if kv.1=k then (kv.1,y) else kv) (vs.map fun kv=>if kv.1=k then (kv.1,u) else kv):=by
 unfold KV at r |-;induction r with
 | nil=>exact .nil
 | @cons p q ps qs h t ih =>
  rw[AI,AI];refine .cons ?_ ih;obtain⟨h1,h2⟩:=h;by_cases e:p.1=k
  . rw[if_pos e,if_pos (h1.symm.trans e)];exact⟨h1,ry⟩
  . rw[if_neg e,if_neg (fun z=>e (h1.trans z))];exact⟨h1,h2⟩
theorem KV.put{kvs:List (κ×V)}{vs:List (κ×GQ)}(r:KV kvs vs)(k:κ){y:V}{u:GQ}(ry:RelV y u):KV (putK kvs k y) (stored vs k u):=by
 unfold putK stored;rw[r.any k];by_cases e:(vs.any fun kv=>decide (kv.1=k))=true
 . rw[if_pos e,if_pos e];exact r.repl k ry
 . rw[if_neg e,if_neg e];exact Gr r ⟨rfl,ry⟩
theorem KV.keys{kvs:List (κ×V)}{vs:List (κ×GQ)}(r:KV kvs vs):kvs.map (·.1)=vs.map (·.1):=by
 unfold KV at r;induction r with
 | nil=>rfl
 | cons h t ih=>rw[AI,AI,ih,h.1]
theorem KV.length{kvs:List (κ×V)}{vs:List (κ×GQ)}(r:KV kvs vs):kvs.length=vs.length:=A8 r
end
theorem gx{P:Gx}{w:G9}{k:Key}{u:GQ}(r:RelV (kV k) u):(c4 P w).is k u=true:=by
 cases k with
 | inl i=>obtain⟨t,e⟩:=(show ∃t,u=Value.int i t from r);subst e;exact t0 P w i t
 | inr x=>obtain⟨t,e⟩:=(show ∃t,u=Value.str x t from r);subst e;exact tf P w x t
theorem nr{P:Gx}{w:G9}:∀{ks:List Key}{us:List GQ},Vals (ks.map kV) us->ItemsAre (c4 P w) ks us
 | [],_,r=>by rw[BM] at r;cases r;exact .nil
 | k::ks,_,r=>by
  rw[AI] at r;cases r with
  | cons h t=>exact .cons (gx h) (nr t)
abbrev KT(H:Hp):List (List Key×V)->List (List Key×GV×GQ)->Prop:=HD fun p q=>p.1=q.1/\H q.2.1=some (.tup (p.1.map kV))/\RelV p.2 q.2.2
theorem KT.val{H:Hp}{kvs:List (List Key×V)}{xs:List (List Key×GV×GQ)}(r:KT H kvs xs)(k:List Key):RelO (valV kvs k) ((atKey xs k).map (·.2)):=by
 induction r with
 | nil=>exact True.intro
 | @cons p q ps qs h t ih =>
  obtain⟨h1,_,h2⟩:=h;by_cases e:p.1=k
  . have e':q.1=k:=h1.symm.trans e;have b:atKey (q::qs) k=some q.2:=by simp[atKey,B0,e']
    rw[cg e,b];exact h2
  . have e':¬ q.1=k:=fun z=>e (h1.trans z);have b:atKey (q::qs) k=atKey qs k:=by simp[atKey,B0,e']
    rw[ci e,b];exact ih
theorem KT.repl{H:Hp}{kvs:List (List Key×V)}{xs:List (List Key×GV×GQ)}(r:KT H kvs xs)(k:List Key){y:V}{u:GQ}(ry:RelV y u):
 KT H (kvs.map fun kv=>if kv.1=k then (kv.1,y) else kv) (xs.map (putAt k u)):=by
 induction r with
 | nil=>exact .nil
 | @cons p q ps qs h t ih =>
  rw[AI,AI];refine .cons ?_ ih;obtain⟨h1,h2,h3⟩:=h;unfold putAt;by_cases e:p.1=k
  . rw[if_pos e,if_pos (h1.symm.trans e)];exact⟨h1,h2,ry⟩
  . rw[if_neg e,if_neg (fun z=>e (h1.trans z))];exact⟨h1,h2,h3⟩
theorem KT.put{H:Hp}{kvs:List (List Key×V)}{xs:List (List Key×GV×GQ)}(r:KT H kvs xs)(k:List Key){b:GV}{y:V}{u:GQ}(hb:H b=some (.tup (k.map kV)))(ry:RelV y u):
 KT H (putK kvs k y) (storedH xs k b u):=by
 have e:(kvs.any fun kv=>decide (kv.1=k))=(atKey xs k).isSome:=by
  rw[dz,(r.val k).isSome_eq,BV]
 unfold putK storedH;rw[e];by_cases q:(atKey xs k).isSome=true
 . rw[if_pos q,if_pos q];exact r.repl k ry
 . rw[if_neg q,if_neg q];exact Gr r ⟨rfl,hb,ry⟩
theorem KT.keeps{H H':Hp}{kvs:List (List Key×V)}{xs:List (List Key×GV×GQ)}(r:KT H kvs xs)(ht:∀b ys,H b=some (.tup ys)->H' b=some (.tup ys)):KT H' kvs xs :=
 Paired.mapP r fun _ _ z=>⟨z.1,ht _ _ z.2.1,z.2.2⟩
section
variable{P:Gx}{w:G9}{H:Hp}{h:HB}{a:GV}
theorem a2o{u:HO}(ok:HOk P w H h)(e:Rd H a u):ObjOk P w H h a u:=e.ok ok
theorem gk{kvs:List (Key×V)}(ok:HOk P w H h)(e:Rd H a (.dK kvs)):kvs.length<=GX/\(a==HJ)=false/\∃vs,KV kvs vs/\h.DictOf (c4 P w) a vs :=
 show ObjOk P w H h a (.dK kvs) from a2o ok e
theorem ox{kvs:List (Key×V)}(ok:HOk P w H h)(e:H a=some (.dK kvs)):kvs.length<=GX/\(a==HJ)=false/\∃vs,KV kvs vs/\h.DictOf (c4 P w) a vs:=gk ok (.inl e)
theorem ig{ks:List Key}(ok:HOk P w H h)(e:H a=some (.tup (ks.map kV))):(tupleKind (c4 P w)).is h ks a:=by
 obtain⟨_,its,r,o,h1,h2,n,h3⟩:=(show ObjOk P w H h a (.tup (ks.map kV)) from ok a _ e)
 exact⟨o,its.toArray,n,h1,h2,h3,by simpa using nr r⟩
theorem ij{kvs:List (List Key×V)}(ok:HOk P w H h)(e:Rd H a (.dT kvs)):kvs.length<=GX/\(a==HJ)=false/\
 ∃xs,KT H kvs xs/\h.DictOfH (tupleKind (c4 P w)) a xs:=by
 obtain⟨z,y,xs,r,o,es,ep,h1,h2,h3,h4,h5⟩:=(show ObjOk P w H h a (.dT kvs) from a2o ok e)
 refine⟨z,y,xs,r,o,es,ep,h1,h2,h3,h4,fun x hx=>?_,h5⟩;have all:∀{l:List (List Key×V)} {m:List (List Key×GV×GQ)},KT H l m->∀x∈m,(tupleKind (c4 P w)).is h x.1 x.2.1:=by
  intro l m q;induction q with
  | nil=>intro x hx;exact nomatch hx
  | @cons p q ps qs hq t ih =>
   intro x hx;rcases Ar.mp hx with e|hx
   . subst e;exact ig ok (by rw[<- hq.1];exact hq.2.1)
   . exact ih x hx
 exact all r x hx
theorem a7c{kvs:List (List Key×V)}(ok:HOk P w H h)(e:H a=some (.dT kvs)):kvs.length<=GX/\(a==HJ)=false/\
 ∃xs,KT H kvs xs/\h.DictOfH (tupleKind (c4 P w)) a xs:=ij ok (.inl e)
end
def DGet(H:Hp)(a:GV)(y:V)(r:Option V):Prop :=
 (∃kvs k,Rd H a (.dK kvs)/\y=kV k/\r=valV kvs k)\/∃kvs k b,Rd H a (.dT kvs)/\y=.ref b/\H b=some (.tup (k.map kV))/\r=valV kvs k
def DPut(H:Hp)(a:GV)(y v:V)(H':Hp):Prop :=
 (∃kvs k,H a=some (.dK kvs)/\y=kV k/\kvs.length<GX/\H'=upd H a (.dK (putK kvs k v)))\/
 ∃kvs k b,H a=some (.dT kvs)/\y=.ref b/\H b=some (.tup (k.map kV))/\kvs.length<GX/\H'=upd H a (.dT (putK kvs k v))
theorem DGet.k{H:Hp}{a:GV}{kvs:List (Key×V)}{k:Key}(e:H a=some (.dK kvs)):DGet H a (kV k) (valV kvs k):=.inl ⟨kvs,k,.inl e,rfl,rfl⟩
theorem DGet.t{H:Hp}{a b:GV}{kvs:List (List Key×V)}{k:List Key}(e:H a=some (.dT kvs))(eb:H b=some (.tup (k.map kV))):DGet H a (.ref b) (valV kvs k):=.inr ⟨kvs,k,b,.inl e,rfl,eb,rfl⟩
theorem DPut.k{H:Hp}{a:GV}{kvs:List (Key×V)}{k:Key}{v:V}(e:H a=some (.dK kvs))(hl:kvs.length<GX):DPut H a (kV k) v (upd H a (.dK (putK kvs k v))):=.inl ⟨kvs,k,e,rfl,hl,rfl⟩
theorem DPut.t{H:Hp}{a b:GV}{kvs:List (List Key×V)}{k:List Key}{v:V}(e:H a=some (.dT kvs))(eb:H b=some (.tup (k.map kV)))(hl:kvs.length<GX):
 DPut H a (.ref b) v (upd H a (.dT (putK kvs k v))):=.inr ⟨kvs,k,b,e,rfl,eb,hl,rfl⟩
section
variable{X:Cx}{pins:List (GV×Obj)}{σ:St}{H:Hp}{s:GW}{a:GV}{y v:V}{u r:GQ}{o:Option V}{A:HC}{E:GQ->GW->Prop}
theorem Inv.big(I:Inv X pins σ H s):HJ<s.heap.objs.size:=by
 have h:GZ<s.heap.objs.size:=(I.mod.glob.keeps I.bk).lt;exact Ec (by decide) h
theorem yi{Q:GQ->GW->Prop}(hu:A.units+1<cLine)(I:Inv X pins σ H s)(g:DGet H a y (some v))(ry:RelV y u)(h:∀w' s',Inv X pins σ H s'->RelV v w'->Q w' s'):
 GY (Gy X.prog X.w) A (getItem (.ref a) u) Q E s:=by
 rcases g with⟨kvs,k,e,ey,l⟩|⟨kvs,k,b,e,ey,eb,l⟩
 . subst ey;obtain⟨z,hd,vs,rel,dd⟩:=gk I.hok e;obtain⟨w',hw,rw'⟩:=RelO.some_of (v:=v) (o:=valueAt vs k) (by rw[l];exact rel.val k);exact wpAny_getItem_of (gx ry) dd.mapOf hw (h w' _ (I.tok _) rw')
 . subst ey;cases (show u=Value.ref b from ry);obtain⟨z,hd,xs,rel,dd⟩:=ij I.hok e;obtain⟨w',hw,rw'⟩:=RelO.some_of (v:=v) (o:=(atKey xs k).map (·.2)) (by rw[l];exact rel.val k);obtain⟨p,hp,hp2⟩:=Option.map_eq_some_iff.mp hw;refine wpAny_getItem_heap (Cj hu) (ig I.hok eb) dd hp ?_;rw[hp2];exact h w' _ (I.tok _) rw'
theorem d_in{Q:GQ->GW->Prop}(hu:A.units+1<cLine)(I:Inv X pins σ H s)(g:DGet H a y o)(ry:RelV y u)(h:∀s',Inv X pins σ H s'->Q (.bool o.isSome) s'):
 GY (Gy X.prog X.w) A (HI .In u (.ref a)) Q E s:=by
 rcases g with⟨kvs,k,e,ey,l⟩|⟨kvs,k,b,e,ey,eb,l⟩
 . subst ey;obtain⟨z,hd,vs,rel,dd⟩:=gk I.hok e;refine wpAny_in_of (gx ry) hd dd.mapOf ?_;rw[<- (rel.val k).isSome_eq,<- l];exact h _ (I.tok _)
 . subst ey;cases (show u=Value.ref b from ry);obtain⟨z,hd,xs,rel,dd⟩:=ij I.hok e;refine wpAny_in_heap (Cj hu) (ig I.hok eb) hd dd ?_;have q:=(rel.val k).isSome_eq;rw[BV] at q;rw[<- q,<- l];exact h _ (I.tok _)
theorem a4p{Q:GQ->GW->Prop}(hu:A.units+1<cLine)(I:Inv X pins σ H s)(g:DGet H a y o)(ry:RelV y u)(h:∀s',Inv X pins σ H s'->Q (.bool (!o.isSome)) s'):
 GY (Gy X.prog X.w) A (HI .NotIn u (.ref a)) Q E s:=by
 rcases g with⟨kvs,k,e,ey,l⟩|⟨kvs,k,b,e,ey,eb,l⟩
 . subst ey;obtain⟨z,hd,vs,rel,dd⟩:=gk I.hok e;refine wpAny_notIn_of (gx ry) hd dd.mapOf ?_;rw[<- (rel.val k).isSome_eq,<- l];exact h _ (I.tok _)
 . subst ey;cases (show u=Value.ref b from ry);obtain⟨z,hd,xs,rel,dd⟩:=ij I.hok e;refine wpAny_notIn_heap (Cj hu) (ig I.hok eb) hd dd ?_;have q:=(rel.val k).isSome_eq;rw[BV] at q;rw[<- q,<- l];exact h _ (I.tok _)
theorem jk{h':HB}{t':Nat}{ob:HO}(I:Inv X pins σ H s)(mu:Mut (H a))(hs:Bq a s.heap h')(he:∃q,h'.get? a=some q)(new:ObjOk X.prog X.w (upd H a ob) h' a ob):
 Inv X pins σ (upd H a ob) {s with heap:=h',toks:=t'} :=
 I.write (x:=a) (e:=a) mu (.inl rfl) (fun b q hb z=>(hs.2 b hb).trans z) he new
theorem qw{P:Gx}{w:G9}{H':Hp}{h':HB}{kvs:List (Key×V)}{vs:List (Key×GQ)}(z:kvs.length<=GX)(hd:(a==HJ)=false)(rel:KV kvs vs)(dd:h'.DictOf (c4 P w) a vs):
 ObjOk P w H' h' a (.dK kvs):=⟨z,hd,vs,rel,dd⟩
theorem zp{H':Hp}{Q:Unit->GW->Prop}(hu:A.units+1<cLine)(I:Inv X pins σ H s)(g:DPut H a y v H')(ry:RelV y u)(rv:RelV v r)(h:∀s',Inv X pins σ H' s'->Q () s'):
 GY (Gy X.prog X.w) A (setItem (.ref a) u r) Q E s:=by
 rcases g with⟨kvs,k,e,ey,l,eH⟩|⟨kvs,k,b,e,ey,eb,l,eH⟩
 . subst ey eH;obtain⟨z,hd,vs,rel,dd⟩:=ox I.hok e;have hz:vs.length<=GX:=by rw[<- rel.length];exact z
   have hl:(putK kvs k v).length<=GX:=by have:=df kvs k v;omega
   refine wpAny_setItem_pairs (hsz:=hz) (gx ry) dd fun h' dd' hs=>h _ ?_;have he:∃q,h'.get? a=some q:=let ⟨q,_,_,hq,_⟩:=dd';⟨q,hq⟩;exact jk I (by rw[e];exact True.intro) hs he (qw hl hd (rel.put k rv) dd')
 . subst ey eH;cases (show u=Value.ref b from ry);obtain⟨z,hd,xs,rel,dd⟩:=a7c I.hok e;have hz:xs.length<=GX:=by rw[<- A8 rel];exact z
   have hl:(putK kvs k v).length<=GX:=by have:=df kvs k v;omega
   refine wpAny_setItem_heap (hsz:=hz) (Cj hu) (ig I.hok eb) dd fun h' dd' hs=>h _ ?_;obtain⟨q,es,ep,hq,h2,h3,h4,_,h5⟩:=dd';refine jk I (by rw[e];exact True.intro) hs ⟨q,hq⟩ ⟨hl,hd,_,(rel.put k eb rv).keeps fun c ys ec=>?_,q,es,ep,hq,h2,h3,h4,h5⟩;rw[ag (db ec e (fun z=>nomatch z))];exact ec
end
section
variable{X:Cx}{pins:List (GV×Obj)}{σ:St}{H:Hp}{s:GW}{a:GV}{kvs:List (Key×V)}{k:Key}{u:GQ}{A:HC}{E:GQ->GW->Prop}
end
def NoSl(i:Expr):Prop:=∀ov iv,subscripted i false ov iv=operate [ov,iv] (getItem ov iv)
theorem a4z{prog:Gx}{w:G9}{A:HC}{E:GQ->GW->Prop}{s:GW}{env:Env}{value slice:Expr}{pos:Pos}{T id:String}{Q:GQ->GW->Prop}(hl:typeLookup (.type T) "__getitem__"=pure (some (.builtin id)))(hs:NoSl slice)(h:GY (Gy prog w) A (eval value env) (fun o s₁=>GY (Gy prog w) A (eval slice env) (fun i s₂=>s₂.TypeIs o T/\GY (Gy prog w) A (getItem o i) Q E s₂) E s₁) E s):
 GY (Gy prog w) A (eval (.Subscript value slice pos) env) Q E s:=by
 refine Subscript_ (Bh h (fun o s₁ h₁=>Bh h₁ (fun i s₂ h₂=>?_) fun _ _ x=>x) fun _ _ x=>x);obtain⟨hT,h₂⟩:=h₂;unfold subscriptTail;refine Ab ?_;rw[getitemInPython_of_ne hT.not_modules];refine Ab (wpAny_specialOf hT hl ?_);have fin:GY (Gy prog w) A (subscripted slice false o i) (fun r s₃=>GY (Gy prog w) A (letTemporaryGo value o r>>=fun _=>pure r) Q E s₃) E s₂:=by
  rw[hs o i];exact wpAny_operating (Bh h₂ (fun r s₃ h₃=>Ab (wpAny_letTemporaryGo (Af h₃))) fun _ _ x=>x)
 first
  | exact Af (Ab fin)
  | exact Ab (Af (Ab fin))
  | exact Ab fin
theorem t8{X:Cx}{pins:List (GV×Obj)}{σ:St}{H:Hp}{s:GW}{a:GV}{y:V}{o:Option V}(I:Inv X pins σ H s)(g:DGet H a y o):s.TypeIs (.ref a) "dict" := by
 rcases g with⟨kvs,k,e,_,_⟩|⟨kvs,k,b,e,_,_,_⟩
 . obtain⟨_,_,vs,_,dd⟩:=gk I.hok e;exact dd.typeIs
 . obtain⟨_,_,xs,_,dd⟩:=ij I.hok e;exact dd.typeIs
def a2z(td ty:TE):TE:=fun σ H Q=>td σ H fun x H1=>ty σ H1 fun y H2=>∃a v,x=.ref a/\DGet H2 a y (some v)/\Q v H2
def tDIn(ty td:TE):TE:=fun σ H Q=>ty σ H fun y H1=>td σ H1 fun x H2=>∃a o,x=.ref a/\DGet H2 a y o/\Q (.bl o.isSome) H2
def md(ty td:TE):TE:=fun σ H Q=>ty σ H fun y H1=>td σ H1 fun x H2=>∃a o,x=.ref a/\DGet H2 a y o/\Q (.bl (!o.isSome)) H2
def a3j(td ty tv:TE):TS:=fun D σ H=>tv σ H fun v H1=>td σ H1 fun x H2=>ty σ H2 fun y H3=>∃a H4,x=.ref a/\DPut H3 a y v H4/\D.nx σ H4
section
variable{X:Cx}{o i e value:Expr}{pos pos' tpos:Pos}{td ty tv:TE}
theorem a4k(hu:X.A.units+1<cLine)(ho:PE X o td)(hi:PE X i ty)(hs:NoSl i):PE X (.Subscript o i pos) (a2z td ty):=by
 intro pins s σ H Q I h;refine a4z PySem.F.slot_dict_getitem.lookup hs (thn (ho pins s σ H _ I h) fun u s1 ⟨x,H1,I1,rx,q1⟩=>thn (hi pins s1 σ H1 _ I1 q1) fun iv s2 ⟨y,H2,I2,ry,a,v,ex,g,q2⟩=>?_);subst ex;obtain rfl:u=Value.ref a:=rx;exact⟨t8 I2 g,yi hu I2 g ry fun w' s3 I3 rw'=>⟨v,H2,I3,rw',q2⟩⟩
theorem ye(hu:X.A.units+1<cLine)(hi:PE X i ty)(ho:PE X o td):PC X .In i o (tDIn ty td):=by
 intro pins s σ H Q I h;refine thn (hi pins s σ H _ I h) fun iv s1 ⟨y,H1,I1,ry,q1⟩=>thn (ho pins s1 σ H1 _ I1 q1) fun u s2 ⟨x,H2,I2,rx,a,ov,ex,g,q2⟩=>?_;subst ex;obtain rfl:u=Value.ref a:=rx;exact d_in hu I2 g ry fun s3 I3=>⟨.bl ov.isSome,H2,I3,rfl,q2⟩
theorem ng(hu:X.A.units+1<cLine)(hi:PE X i ty)(ho:PE X o td):PC X .NotIn i o (md ty td):=by
 intro pins s σ H Q I h;refine thn (hi pins s σ H _ I h) fun iv s1 ⟨y,H1,I1,ry,q1⟩=>thn (ho pins s1 σ H1 _ I1 q1) fun u s2 ⟨x,H2,I2,rx,a,ov,ex,g,q2⟩=>?_;subst ex;obtain rfl:u=Value.ref a:=rx;exact a4p hu I2 g ry fun s3 I3=>⟨.bl (!ov.isSome),H2,I3,rfl,q2⟩
theorem a3t(hu:X.A.units+1<cLine)(ho:PE X o td)(hi:PE X i ty)(hv:PE X value tv)(hs:HN value (some (.Subscript o i pos')) pos.line X.env=pure false):
 PS X (.Assign [.Subscript o i pos'] value pos) (a3j td ty tv):=by
 intro pins s σ H D I h;refine wpAny_Assign_Subscript (thn (hv pins s σ H _ I h) fun r s1 ⟨v,H1,I1,rv,q1⟩=>thn (ho pins s1 σ H1 _ I1 q1) fun u s2 ⟨x,H2,I2,rx,q2⟩=>thn (hi pins s2 σ H2 _ I2 q2) fun iv s3 ⟨y,H3,I3,ry,a,H4,ex,g,q3⟩=>?_) hs;subst ex;obtain rfl:u=Value.ref a:=rx;exact zp hu I3 g ry rv fun s4 I4=>⟨σ,H4,I4,q3⟩
end
theorem rn{P:Gx}{w:G9}{H:Hp}(h:HB)(hb:HJ<h.objs.size):ObjOk P w H (h.push {cls:=.type "dict",data:=.dict #[]}) h.objs.size (.dK []) :=
 ⟨A5 _,beq_eq_false_iff_ne.mpr (A9 (Aw hb)),[],.nil,Heap.DictOf.new h⟩
theorem a1q{P:Gx}{w:G9}{H:Hp}(h:HB)(hb:HJ<h.objs.size):ObjOk P w H (h.push {cls:=.type "dict",data:=.dict #[]}) h.objs.size (.dT []) :=
 ⟨A5 _,beq_eq_false_iff_ne.mpr (A9 (Aw hb)),[],.nil,_,#[],0,An _ rfl,⟨rfl,rfl,rfl⟩,rfl,rfl,EB⟩
def zx:TE:=fun _ H Q=>∀p,H p=none->Q (.ref p) (upd H p (.dK []))
def xa:TE:=fun _ H Q=>∀p,H p=none->Q (.ref p) (upd H p (.dT []))
section
variable{X:Cx}{pos:Pos}
theorem a1k:PE X (.Dict [] [] pos) zx:=fun pins s σ H Q I h =>
 FM ⟨.ref s.heap.objs.size,_,I.laid (a:=s.heap.objs.size) (o:=.dK []) (t':=s.toks) (fun _ _ q=>Ag _ q) (Ah _) (rn s.heap I.big),rfl,h _ (I.hok.fresh (Ah _))⟩
theorem a2c:PE X (.Dict [] [] pos) xa:=fun pins s σ H Q I h =>
 FM ⟨.ref s.heap.objs.size,_,I.laid (a:=s.heap.objs.size) (o:=.dT []) (t':=s.toks) (fun _ _ q=>Ag _ q) (Ah _) (a1q s.heap I.big),rfl,h _ (I.hok.fresh (Ah _))⟩
end
structure M2(X:Cx)(o:Expr)(m:Str)(apos:Pos)(e f:Expr)(cpos:Pos):Prop where
 base:HL o m X.env (eval o X.env)=eval o X.env
 few:((HM cpos (Gz [e,f] X.env)).all (fun x => !x.1) && (HX cpos (HU [] X.env)).all (fun x=>x.1.isSome)
  && decide (([e,f]:List Expr).length+([]:List Keyword).length+(if ([]:List Keyword).isEmpty then 0 else 1)<30))=true
 line:(apos.endLine==cpos.line)=true
 trees:HM cpos (Gz [e,f] X.env)=[(false,eval e X.env),(false,eval f X.env)]
def IsD(H:Hp)(a:GV):Prop:=(∃kvs,Rd H a (.dK kvs))\/∃kvs,Rd H a (.dT kvs)
theorem yp{X:Cx}{pins:List (GV×Obj)}{σ:St}{H:Hp}{s:GW}{a:GV}(I:Inv X pins σ H s)(d:IsD H a):
 s.TypeIs (.ref a) "dict" /\ (∀b,Value.ref a=.ref b->∃ob,s.heap.get? b=some ob/\ob.dict=none)/\(a==HJ)=false:=by
 rcases d with⟨kvs,e⟩|⟨kvs,e⟩
 . obtain⟨_,hd,vs,_,dd⟩:=gk I.hok e;refine⟨dd.typeIs,fun b q=>?_,hd⟩;cases q;obtain⟨ob,_,_,h1,h2,_⟩:=dd;exact⟨ob,h1,h2.2.1⟩
 . obtain⟨_,hd,xs,_,dd⟩:=ij I.hok e;refine⟨dd.typeIs,fun b q=>?_,hd⟩;cases q;obtain⟨ob,_,_,h1,h2,_⟩:=dd;exact⟨ob,h1,h2.2.1⟩
section
variable{X:Cx}{pins:List (GV×Obj)}{σ:St}{H:Hp}{s:GW}{a:GV}{y d:V}{u r:GQ}{o:Option V}{A:HC}{E:GQ->GW->Prop}
theorem a68{Q:GQ->GW->Prop}(hu:A.units+1<cLine)(I:Inv X pins σ H s)(g:DGet H a y o)(ry:RelV y u)(rd:RelV d r)(h:∀w' s',Inv X pins σ H s'->RelV (o.getD d) w'->Q w' s'):
 GY (Gy X.prog X.w) A (call (.builtin "dict.get") [.ref a,u,r]) Q E s:=by
 rcases g with⟨kvs,k,e,ey,l⟩|⟨kvs,k,b,e,ey,eb,l⟩
 . subst ey;obtain⟨z,hd,vs,rel,dd⟩:=gk I.hok e;refine Fu CV dd.typeIs E4 (Ek _ _ _) (meets_dict_get_default (c4 X.prog X.w) a (gx ry) hd r) ⟨_,dd.mapOf,h _ _ (I.tok _) ?_⟩;rw[l];exact (rel.val k).getD rd
 . subst ey;cases (show u=Value.ref b from ry);obtain⟨z,hd,xs,rel,dd⟩:=ij I.hok e;refine Fu CV dd.typeIs E4 (Ek _ _ _) (meetsH_dict_get_default (tupleKind (c4 X.prog X.w)) a b hd r) ⟨Cj hu,k,xs,ig I.hok eb,dd,h _ _ (I.tok _) ?_⟩;rw[l];exact (rel.val k).getD rd
end
def xh(td ty tx:TE):TE:=fun σ H Q=>td σ H fun x H1=>∃a,x=.ref a/\IsD H1 a/\ty σ H1 fun y H2=>tx σ H2 fun z H3=>∃o,DGet H3 a y o/\Q (o.getD z) H3
section
variable{X:Cx}{o e f:Expr}{apos cpos:Pos}{td ty tx:TE}
theorem a1f(hu:X.A.units+1<cLine)(ho:PE X o td)(he:PE X e ty)(hf:PE X f tx)(m:M2 X o "get" apos e f cpos):PE X (.Call (.Attribute o "get" apos) [e,f] [] cpos) (xh td ty tx):=by
 intro pins s σ H Q I h;refine FB m.base m.few m.line El CV PySem.F.type_dict_get (thn (ho pins s σ H _ I h) fun u s1 ⟨x,H1,I1,rx,a,ex,d,q1⟩=>?_);subst ex;obtain rfl:u=Value.ref a:=rx;obtain⟨t1,t2,_⟩:=yp I1 d;refine⟨t1,t2,?_⟩;rw[m.trees];refine Ck rfl (Dg (BK (thn (he pins s1 σ H1 _ I1 q1) fun iv s2 ⟨y,H2,I2,ry,q2⟩ =>
  BK (thn (hf pins s2 σ H2 _ I2 q2) fun fv s3 ⟨z,H3,I3,rz,ov,g,q3⟩=>CH ?_))))
 exact a68 hu I3 g ry rz fun w' s4 I4 rw'=>⟨_,H3,I4,rw',q3⟩
end
section
variable{X:Cx}{pins:List (GV×Obj)}{σ:St}{H:Hp}{s:GW}{a:GV}{kvs:List (Key×V)}{A:HC}{E:GQ->GW->Prop}
end
section
variable{X:Cx}{pins:List (GV×Obj)}{σ:St}{H:Hp}{s:GW}{a:GV}{y:V}{u:GQ}{A:HC}{E:GQ->GW->Prop}
end
section
variable{X:Cx}
end
section
variable{κ:Type}[DecidableEq κ]
theorem tq{kvs:List (κ×V)}{k:κ}{v:V}(h:valV kvs k=some v):k∈kvs.map (·.1):=by
 have q:(kvs.any fun kv=>decide (kv.1=k))=true:=by
  rw[dz,h]
  all_goals rfl
 obtain⟨p,hp,e⟩:=Ba.mp q;exact A3.mpr ⟨p,hp,of_decide_eq_true e⟩
end
section
variable{X:Cx}
end
section
variable{X:Cx}{es es1:List Expr}{t t1:TA}{te:TE}{x:Str}{j:Nat}{pos pos2:Pos}
theorem a5w{j}(hr:PA X es t):PA X (.Constant (.str x) j pos::es) (cm (tC (.str x)) t):=cv yo hr rfl
theorem a5u{i:Int}{j}(hr:PA X es t):PA X (.Constant (.int i) j pos::es) (cm (tC (.int i)) t):=cv i4 hr rfl
theorem a70{b:Bool}{j}(hr:PA X es t):PA X (.Constant (.bool b) j pos::es) (cm (tC (.bl b)) t):=cv a3c hr rfl
theorem a7a(h:PE X (.Name x pos) te)(hr:PA X es t):PA X (.Name x pos::es) (cm te t):=cv h hr rfl
theorem a7d{x1}(h:PA X es1 t1)(hr:PA X es t):PA X (.Tuple es1 x1 pos::es) (cm (tTup t1) t):=cv (yd h) hr rfl
theorem a7f(h:PA X es1 t1)(hr:PA X es t):PA X (.List es1 pos::es) (cm (tLst t1) t):=cv (r9 h) hr rfl
theorem a6u{a b:Expr}(h:PE X (.Subscript a b pos) te)(hr:PA X es t):PA X (.Subscript a b pos::es) (cm te t):=cv h hr rfl
theorem a4a{f:Expr}{as:List Expr}{ks:List Keyword}(h:PE X (.Call f as ks pos) te)(hr:PA X es t):PA X (.Call f as ks pos::es) (cm te t):=cv h hr rfl
theorem a6o{a b:Expr}{op:Operator}(h:PE X (.BinOp a op b pos) te)(hr:PA X es t):PA X (.BinOp a op b pos::es) (cm te t):=cv h hr rfl
end
structure QE(X:Cx)(e:Expr)(t:TE):Prop where
 run:PE X e t
structure QT(X:Cx)(e:Expr)(t:TT):Prop where
 run:PT X e t
structure QW(X:Cx)(e:Expr)(t:TT):Prop where
 run:PW X e t
structure QA(X:Cx)(es:List Expr)(t:TA):Prop where
 run:PA X es t
structure QS(X:Cx)(st:HF)(t:TS):Prop where
 run:PS X st t
structure QB(X:Cx)(st:List HF)(t:TS):Prop where
 run:PSs X st t
structure QI(X:Cx)(tg iter:Expr)(wi:TI):Prop where
 run:PI X tg iter wi
structure QG(X:Cx)(target:Expr)(t:TG):Prop where
 run:PG X target t
structure QO(X:Cx)(e:Option Expr)(t:TO):Prop where
 run:PO X e t
structure QTs(X:Cx)(ifs:List Expr)(t:TT):Prop where
 run:PTs X ifs t
theorem QW.qt{X:Cx}{e:Expr}{t:TT}(h:QW X e t):QT X e t:=⟨PW.pt h.run⟩
section
variable{st:HF}{id:String}{lo hi:Option Expr}
set_option autoImplicit true
set_option relaxedAutoImplicit true
theorem be  : QB X [] a2p:=⟨a4q ⟩
theorem ac{rest:List HF}(h1:QS X st t)(h2:QB X rest u):QB X (st::rest) (tSeq t u):=⟨kf h1.run h2.run⟩
theorem af(h1:QS X st t):QB X [st] t:=⟨ly h1.run⟩
theorem bi{c:Expr}{a b:List HF}{tc:TT}(hc:QT X c tc)(ha:QB X a t)(hb:QB X b u):QS X (.If c a b pos) (tIfS tc t u):=⟨a78 hc.run ha.run hb.run⟩
theorem ak{i:Nat}{x:Str}{e:Expr}{te:TE}{pos':Pos}(hN:X.N.Nodup)(hi:X.N[i]?=some x)(hx:Loc X.env.scope x)(he:QE X e te)(hs:HN e (some (.Name x pos')) pos.line X.env=pure false:=by rfl)(hf:X.fn x=true\/X.env.scope.names.lookup x=some .local:=by first|exact .inl rfl|exact .inr rfl|assumption):     QS X (.Assign [.Name x pos'] e pos) (tAsg te (c8 i)):=⟨yt hN hi hx he.run hs hf⟩
theorem aw(he:QE X e te):QS X (.Return (some e) pos) (tRet te):=⟨xn he.run⟩
theorem bq(he:QE X e te)(hs:HN e none pos.line X.env=pure false:=by rfl):QS X (.Expr e pos) (a3b te):=⟨v8 he.run hs⟩
theorem cc{iter:Expr}{body:List HF}{wi:TI}{g:TG}{tb:TS}{pos:Pos}(hp:PassesOwn (Gy X.prog X.w) X.A X.env X.xe)(hc:X.calm=true)(hi:QI X tg iter wi)(hg:QG X tg g)(hb:QB X body tb)(hs:∀x,HE iter X.env x=pure x:=by intro _;rfl):QS X (.For tg iter body [] pos) (tFor wi g tb):=⟨a00 hp hc hi.run hg.run hb.run hs⟩
theorem a6q{tg e:Expr}{te:TE}{g:TG}(he:QE X e te)(hg:QG X tg g)(hs:swapsWithSole [tg] e pos.line X.env=pure false:=by rfl)(hw:swappedStores [tg] e X.env=pure none:=by rfl)(h1:(HK [tg] X.env).map (·.2)=[assign tg X.env]:=by rfl):QS X (.Assign [tg] e pos) (tAsg te g):=⟨a6t he.run hg.run hs hw h1⟩
theorem kb{c:Expr}{body:List HF}{tc:TT}{tb:TS}(hp:PassesOwn (Gy X.prog X.w) X.A X.env X.xe)(hc:QT X c tc)(hb:QB X body tb):QS X (.While c body [] pos) (se tc tb):=⟨a0l hp hc.run hb.run⟩
theorem a1s  : QS X (.Break pos) xp:=⟨a1e ⟩
theorem ab{i j pos}:QE X (.Constant (.int i) j pos) (tC (.int i)):=⟨i4 ⟩
theorem jr{b j pos}:QE X (.Constant (.bool b) j pos) (tC (.bl b)):=⟨a3c ⟩
theorem bt{j pos}:QE X (.Constant .none j pos) (tC .non):=⟨a64 ⟩
theorem bv{x j pos}:QE X (.Constant (.str x) j pos) (tC (.str x)):=⟨yo ⟩
theorem qv(i:Nat){x:Str}{pos:Pos}(hN:X.N[i]?=some x:=by rfl)(hv:Vis X.env.scope x:=by first|exact Or.inl rfl|exact Or.inr (Or.inl rfl)|exact Or.inr (Or.inr rfl))(hd:(x==("__debug__":Str))=false:=by decide)(hcd:(x==("__classdict__":Str))=false:=by decide):QE X (.Name x pos) (tVar i):=⟨pv i hN hv hd hcd⟩
theorem ai{op:Operator}{r:R2}(ho:OpR X (HR op) r)(ha:QE X a ta)(hb:QE X b tb):QE X (.BinOp a op b pos) (tOp r ta tb):=⟨a2r ho ha.run hb.run⟩
theorem ff{op:CmpOp}{r:R2}(ho:OpR X (HI op) r)(ha:QE X a ta)(hb:QE X b tb)(hm:HG op b=false):QE X (.Compare a [op] [b] pos) (tOp r ta tb):=⟨a4v ho ha.run hb.run hm⟩
theorem az{op:CmpOp}{r:R2}(ho:OpR X (HI op) r)(ha:QE X a ta)(hb:QE X b tb)(hm:HG op b=false):QT X (.Compare a [op] [b] pos) (a2v (tOp r ta tb)):=⟨u9 ho ha.run hb.run hm⟩
theorem cf{e:Expr}{t:TE}(h:QE X e t)(he:∀whole,isTrue e X.env whole=(do let v<-whole;standAt e.pos;holding [v] (truthy v)):=by intro _;rfl):QT X e (tB t):=⟨a5z h.run he⟩
theorem fg(ha:QT X a tA):QT X (.UnaryOp .Not a pos) (tNot tA):=⟨a67 ha.run⟩
theorem dt(ha:QT X a tA):QW X (.BoolOp .And [a] pos) tA:=⟨a4d ha.run⟩
theorem ie(ha:QT X a tA):QW X (.BoolOp .Or [a] pos) tA:=⟨a6r ha.run⟩
theorem ee{rest:List Expr}(ha:QT X a tA)(hb:QW X (.BoolOp .And (b::rest) pos) tB'):QW X (.BoolOp .And (a::b::rest) pos) (tAnd tA tB'):=⟨a5i ha.run hb.run⟩
theorem gn{rest:List Expr}(ha:QT X a tA)(hb:QW X (.BoolOp .Or (b::rest) pos) tB'):QW X (.BoolOp .Or (a::b::rest) pos) (tOr tA tB'):=⟨a7g ha.run hb.run⟩
theorem i9{op}{t:TE}(h:QE X a t):QE X (.BoolOp op [a] pos) t:=⟨a6s h.run⟩
theorem j9{rest:List Expr}(ha:QE X a ta)(hb:QE X (.BoolOp .And (b::rest) pos) tb):QE X (.BoolOp .And (a::b::rest) pos) (a2w ta tb):=⟨a6g ha.run hb.run⟩
theorem a2y{rest:List Expr}(ha:QE X a ta)(hb:QE X (.BoolOp .Or (b::rest) pos) tb):QE X (.BoolOp .Or (a::b::rest) pos) (tOrV ta tb):=⟨a7h ha.run hb.run⟩
theorem a5x(ha:QE X a ta):QE X (.UnaryOp .Not a pos) (a3e ta):=⟨a5n ha.run⟩
theorem ir{c:Expr}(hc:QT X c tA)(ha:QE X a ta)(hb:QE X b tb):QE X (.IfExp c a b pos) (tIf tA ta tb):=⟨a0h hc.run ha.run hb.run⟩
theorem ah{r:R2}(hr:IxR X r)(ha:QE X a ta)(hb:QE X b tb)(hs:ux b):QE X (.Subscript a b pos) (tOp r ta tb):=⟨wx hr ha.run hb.run hs⟩
theorem dk{r:V->Option Int->Option Int->Hp->VK->Prop}(hr:SlR X r)(he:QE X e te)(hl:QO X lo tl)(hu:QO X hi th):QE X (.Subscript e (.Slice lo hi none p2) pos) (tSl r te tl th):=⟨p9 hr he.run hl.run hu.run⟩
theorem fc  : QO X none tm:=⟨uf ⟩
theorem dq(h:QE X e te):QO X (some e) (a2q te):=⟨ug h.run⟩
theorem cw{x1}(h:QA X es t):QE X (.Tuple es x1 pos) (tTup t):=⟨yd h.run⟩
theorem bn(h:QA X es t):QE X (.List es pos) (tLst t):=⟨r9 h.run⟩
theorem bd(F:FnOk X.prog X.w X.K X.mg X.base CX k f fd ps sp)(hr:Room k X.A)(hg:Gl X x)(hm:X.mg x=some (.ref f))(hk:B3 X.K (.ref f)=true)(hb:Binds X.K fd ps ds)(hd:Vals dvs ds)(hx:dw CX X E)(ha:QA X (e::es) t)(hdb:(x==("__debug__":Str))=false:=by decide)(he:Gz (e::es) X.env=(false,eval e X.env)::Gz es X.env:=by rfl)(hpl:(HM pos (Gz es X.env)).any (·.1)=false:=by rfl):     QE X (.Call (.Name x p) (e::es) [] pos) (a3k sp dvs E t):=⟨a4c F hr hg hm hk hb hd hx ha.run hdb he hpl⟩
theorem bf(hc:du X (.builtin id) r)(hg:Gl X x)(hm:X.mg x=none)(hv:bootBuiltins x=some (.builtin id))(ha:QA X (e::es) t)(hn:x≠"__name__" := by decide)(hdb:(x==("__debug__":Str))=false:=by decide)(he:Gz (e::es) X.env=(false,eval e X.env)::Gz es X.env:=by rfl)(hpl:(HM pos (Gz es X.env)).any (·.1)=false:=by rfl):QE X (.Call (.Name x p) (e::es) [] pos) (tCB r t):=⟨qc hc hg hm hv ha.run hn hdb he hpl⟩
theorem dj(hc:du X (.type T) r)(hg:Gl X x)(hm:X.mg x=none)(hv:bootBuiltins x=some (.type T))(ha:QA X (e::es) t)(hn:x≠"__name__" := by decide)(hdb:(x==("__debug__":Str))=false:=by decide)(he:Gz (e::es) X.env=(false,eval e X.env)::Gz es X.env:=by rfl)(hpl:(HM pos (Gz es X.env)).any (·.1)=false:=by rfl):QE X (.Call (.Name x p) (e::es) [] pos) (tCB r t):=⟨o3 hc hg hm hv ha.run hn hdb he hpl⟩
theorem a5j(pa:PlainAttrs T)(slot:Slot T name id)(hty:typeOf (.builtin id)=pure (.type "method_descriptor"))(hm:MtR X id r)(ho:QE X o to)(hbase:HL o name X.env (eval o X.env)=eval o X.env:=by rfl)(hline:(apos.endLine==cpos.line)=true:=by rfl):QE X (.Call (.Attribute o name apos) [] [] cpos) (tBM0 X.K T r to):=⟨a6d pa slot hty hm ho.run hbase hline⟩
theorem a1y{X:Cx}{elt iter:Expr}{x:Str}{px pos:Pos}{ifs:List Expr}{sc:Scope}{wi:TI}{tc:TT}{te:TE}(hi:QI X (.Name x px) iter wi)(hif:∀s H C ex,QTs (blk X [x] s H sc [] C ex) ifs tc)(he:∀s H C ex,QE (blk X [x] s H sc [] C ex) elt te)(hc:X.calm=true:=by rfl)(hkind:sc.kind=.function:=by rfl)(hx:sc.names.lookup x=some .local:=by decide)(hfree:∀y∈sc.names,y.2≠.free:=by decide)(hcell:∀y∈sc.names,y.2≠.cell:=by decide)(hnames:∀y∈sc.names,y.2=.local->sc.names.lookup y.1=some .local:=by decide)(hs:∀x,HE iter X.env x=pure x:=by intro _;rfl):     QE X (.ListComp elt [⟨.Name x px,iter,ifs,0⟩] sc pos) (im [] wi tc te):=⟨qr hi.run (fun z0 z1 z2 z3=>(hif z0 z1 z2 z3).run) (fun z0 z1 z2 z3=>(he z0 z1 z2 z3).run) hc hkind hx hfree hcell hnames hs⟩
theorem cn{l:Expr}{tl:TE}(hl:QE X l tl):QI X tg l (a2s X.K tl):=⟨tz hl.run⟩
theorem a6m{l:Expr}{tl:TE}(hl:QE X l tl):QI X tg l (iTup X.K tl):=⟨xg hl.run⟩
theorem a6p{l:Expr}{tl:TE}(hl:QE X l tl):QI X tg l (iStr tl):=⟨a5f hl.run⟩
theorem ck{a:Expr}{ta:TA}{p pos:Pos}(hg:Gl X "range")(hm:X.mg "range"=none)(ha:QA X [a] ta)(hs:Gz [a] X.env=[(false,eval a X.env)]:=by rfl):QI X tg (.Call (.Name "range" p) [a] [] pos) (a3h ta):=⟨yk hg hm ha.run hs⟩
theorem bw{i:Nat}{x:Str}(hN:X.N.Nodup)(hi:X.N[i]?=some x)(hx:Loc X.env.scope x)(hf:X.fn x=true\/X.env.scope.names.lookup x=some .local:=by first|exact .inl rfl|exact .inr rfl|assumption):QG X (.Name x pos) (c8 i):=⟨i5 hN hi hx hf⟩
theorem a0  : QA X [] tNil:=⟨jg ⟩
theorem g0(ha:QE X e te)(hr:QA X es t)(hs:Gz (e::es) X.env=(false,eval e X.env)::Gz es X.env:=by rfl):QA X (e::es) (cm te t):=⟨cv ha.run hr.run hs⟩
theorem ay{j}(hr:QA X es t):QA X (.Constant (.str x) j pos::es) (cm (tC (.str x)) t):=⟨a5w hr.run⟩
theorem fh{i:Int}{j}(hr:QA X es t):QA X (.Constant (.int i) j pos::es) (cm (tC (.int i)) t):=⟨a5u hr.run⟩
theorem a77{b:Bool}{j}(hr:QA X es t):QA X (.Constant (.bool b) j pos::es) (cm (tC (.bl b)) t):=⟨a70 hr.run⟩
theorem ae(h:QE X (.Name x pos) te)(hr:QA X es t):QA X (.Name x pos::es) (cm te t):=⟨a7a h.run hr.run⟩
theorem c7{x1}(h:QA X es1 t1)(hr:QA X es t):QA X (.Tuple es1 x1 pos::es) (cm (tTup t1) t):=⟨a7d h.run hr.run⟩
theorem a71(h:QA X es1 t1)(hr:QA X es t):QA X (.List es1 pos::es) (cm (tLst t1) t):=⟨a7f h.run hr.run⟩
theorem aq{a b:Expr}(h:QE X (.Subscript a b pos) te)(hr:QA X es t):QA X (.Subscript a b pos::es) (cm te t):=⟨a6u h.run hr.run⟩
theorem bx{f:Expr}{as:List Expr}{ks:List Keyword}(h:QE X (.Call f as ks pos) te)(hr:QA X es t):QA X (.Call f as ks pos::es) (cm te t):=⟨a4a h.run hr.run⟩
theorem ce{a b:Expr}{op:Operator}(h:QE X (.BinOp a op b pos) te)(hr:QA X es t):QA X (.BinOp a op b pos::es) (cm te t):=⟨a6o h.run hr.run⟩
theorem jq{X:Cx}:QTs X [] tYes:=⟨a4w ⟩
theorem ge{X:Cx}{c:Expr}{t:TT}(h:QT X c t):QTs X [c] t:=⟨ue h.run⟩
end
theorem Fun.okQ{P:Gx}{w:G9}{K:Aa}{mg:Str->Option GQ}{base:HB}{x qual:Str}{st:HF}{f:GV}{fd:HA}{N ps:List Str}{k:Nat}{sp:Sp}(F:Fun K x qual st f fd)(S:FnScope N ps (ap st))(len:∀vs H Q E,sp vs H Q E->vs.length=ps.length)(hbody:∀(cdv:GQ) (A:HC) (outer:List Env) (s:GW) (H:Hp) (vs:List V) (Q:VK) (E:XK),Room k (A.deeper (envOfC qual (ap st) s.heap.objs.size f cdv))->sp vs H Q E->
 ∃t,QB (cxOf CX0 P w K mg base N qual (ap st) f cdv A outer s H E).nox (em st) t/\t {nx:=fun _ H'=>Q .non H',rt:=Q} (start N vs) H):FnOk P w K mg base CX0 (k+1) f fd ps sp :=
 F.ok S len fun cdv A outer s H vs Q E hr h=>by
  obtain⟨t,h1,h2⟩:=hbody cdv A outer s H vs Q E hr h;exact⟨t,h1.run,h2⟩
section
variable{X:Cx}{st:HF}{t:TS}{e:Expr}{te:TE}
def a61(K:Aa)(ta:TE):TT:=fun σ H Q=>ta σ H fun x H'=>∃k,TruV K x H' k/\Q k H'
theorem q8{K:Aa}(ha:QE X e te)(hK:X.K=K:=by rfl)(he:∀whole,isTrue e X.env whole=(do let v<-whole;standAt e.pos;holding [v] (truthy v)):=by intro _;rfl):QT X e (a61 K te):=by
 subst hK;exact⟨a07 ha.run he⟩
end
section
variable{id:String}
set_option relaxedAutoImplicit true
theorem cy{K:Aa}(hK:X.K=K)(pa:PlainAttrs T)(slot:Slot T name id)(hty:typeOf (.builtin id)=pure (.type "method_descriptor"))(hm:MtR X id r)(ho:QE X o to)(ha:QA X (e::es) t)(hbase:HL o name X.env (eval o X.env)=eval o X.env:=by rfl)(hfew:((HM cpos (Gz (e::es) X.env)).all (fun x => !x.1) && (HX cpos (HU [] X.env)).all (fun x=>x.1.isSome)       && decide ((e::es).length+([]:List Keyword).length+(if ([]:List Keyword).isEmpty then 0 else 1)<30))=true:=by rfl)(hline:(apos.endLine==cpos.line)=true:=by rfl)(hs:Gz (e::es) X.env=(false,eval e X.env)::Gz es X.env:=by rfl)(hplain:(HM cpos (Gz es X.env)).any (·.1)=false:=by rfl):QE X (.Call (.Attribute o name apos) (e::es) [] cpos) (tBM K T r to t):=by
 subst hK;exact⟨a3a pa slot hty hm ho.run ha.run hbase hfew hline hs hplain⟩
end
section
variable{X:Cx}{pins:List (GV×Obj)}{σ:St}{H:Hp}{s:GW}{h':HB}
theorem Inv.turnedL{t':Nat}{ch:List GV}(I:Inv X pins σ H s)(k:∀b o,b∉ch->s.heap.get? b=some o->h'.get? b=some o)(hc:∀b∈ch,FpOk X pins H b):Inv X pins σ H {s with heap:=h',toks:=t'}:=by
 have nit:∀b u,H b=some u->b∉ch:=fun b u e z=>by rw[(hc b z).1] at e;cases e
 refine I.step (g':=s.gens) (d':=s.drawn) (ch:=ch) (fun b hb=>⟨(hc b hb).2.2.2.1,(hc b hb).2.1,(hc b hb).2.2.2.2.1,(hc b hb).2.2.2.2.2⟩) (fun b o _ _ hn e _=>k b o hn e) (fun b o _ _ hn e _=>⟨o.slots,k b o hn e⟩) (fun _ _ _ _ n=>n)
  (fun b o hn e=>⟨o,k b o hn e⟩) (fun _ _ e=>e) (fun _ _ _ e=>e) (fun b ps e=>⟨#[],by rw[e];simp⟩) (fun m hm=>?_) (fun b u e=>?_) I.bare
 . obtain⟨o,es,ep,ho,r⟩:=hm;exact⟨o,es,ep,k _ o (fun z=>(hc _ z).2.1 rfl) ho,r⟩
 . refine (I.hok b u e).stay (fun c v hcv q=>k c v ?_ q) (fun _ q=>q) fun _ _ q=>q;rcases hcv with z|z
   . rw[z];exact nit b u e
   . exact nit c _ z
end
section
variable{X:Cx}
end
section
variable{X:Cx}
theorem wg{elt iter:Expr}{x yv:Str}{px pos py pos2:Pos}{iy:Nat}{ifs:List Expr}{sc:Scope}{cl:List (Str×GV)}{ix:List Nat}{wi:TI}{tc:TT}{te:TE}(N:List Str)(hNd:X.N.Nodup)(hiy:X.N[iy]?=some yv)(hyv:Loc X.env.scope yv)(hsw:HN (.ListComp elt [⟨.Name x px,iter,ifs,0⟩] sc pos) (some (.Name yv py)) pos2.line X.env=pure true)(hfy:X.fn yv=true\/X.env.scope.names.lookup yv=some .local)(hc:X.calm=true)(hi:PI X (.Name x px) iter wi)(hif:∀s H C ex,PTs (blk X N s H sc cl C ex) ifs tc)(he:∀s H C ex,PE (blk X N s H sc cl C ex) elt te)(hkind:sc.kind=.function)(hN:N=x::ix.map fun j=>(X.N[j]?).getD "")(hnd:N.Nodup)(hx:sc.names.lookup x=some .local)(hcl:closureFor sc X.env=pure cl)(hcell:∀y∈sc.names,y.2≠.cell)(hnames:∀y∈sc.names,y.2=.local->sc.names.lookup y.1=some .local)(hsub:∀y c,cl.lookup y=some c->X.env.cells.lookup y=some c)(hhas:∀y,((HH sc X.env).names.lookup y=some .cell\/(HH sc X.env).names.lookup y=some .free)->∃c,cl.lookup y=some c)(hix:∀j∈ix,∃y,X.N[j]?=some y/\X.env.kindOf y=some .cell/\(HH sc X.env).names.lookup y=some .cell)(hs:∀x,HE iter X.env x=pure x:=by intro _;rfl):
 PS X (.Assign [.Name yv py] (.ListComp elt [⟨.Name x px,iter,ifs,0⟩] sc pos) pos2) (tAsg (im ix wi tc te) (c8 iy)):=by
 intro pins s σ H D0 I h;rw[exec_Assign_Name_used _ _ _ _ hsw];refine Ab (wpAny_standAt (Ab ?_));show GY _ _ (comprehension _ _ _ _ _ _ _ _>>=_) _ _ _;refine Ab (Bh (Q:=fun _ s'=>SP X pins D0 .next s') (o0 N hc hi hif he hkind hN hnd hx hcl hcell hnames hsub hhas hix hs (use:=some (assign (.Name yv py) X.env)) I h fun D C s6 H5 mm I7 hm hCn hCl hCc hsz hpin qn=>?_) (fun _ s' q=>Af (Af q)) fun _ _ y=>y);refine DL (my I7 hNd hiy hyv (show RelV (V.ref D) (Value.ref D) from rfl) (fun s8 I8 hsb=>?_) hfy);obtain⟨a8,sb8,ha8⟩:=hsb;have hna:C≠a8:=by
  rcases ha8 with z|z
  . rw[z];exact hCl
  . exact A9 (hCc _ _ z)
 obtain⟨oC,esC,epC,hoC,rC⟩:=hm;refine⟨mm,⟨oC,esC,epC,sb8.extBut _ _ hna hoC,rC⟩,fun h9 sb9=>?_⟩;exact⟨_,H5,I8.turned (t':=s8.toks) (it:=C) (fun b o hb e=>sb9.extBut b o hb e) hCn hCl (.inr hsz) hCc hpin,qn⟩
end
section
variable{X:Cx}
theorem js{pos:Pos}:QE X (.Dict [] [] pos) zx:=⟨a1k⟩
theorem jn{o i:Expr}{pos:Pos}{td ty:TE}(hu:X.A.units+1<cLine)(ho:QE X o td)(hi:QE X i ty)(hs:NoSl i):QE X (.Subscript o i pos) (a2z td ty):=⟨a4k hu ho.run hi.run hs⟩
theorem a5o{o i:Expr}{pos:Pos}{td ty:TE}(hu:X.A.units+1<cLine)(hi:QE X i ty)(ho:QE X o td)(hm:HG .In o=false:=by with_unfolding_all rfl):QT X (.Compare i [.In] [o] pos) (tB (tDIn ty td)):=⟨zi (ye hu hi.run ho.run) hm⟩
theorem jd{o i:Expr}{pos:Pos}{td ty:TE}(hu:X.A.units+1<cLine)(hi:QE X i ty)(ho:QE X o td)(hm:HG .NotIn o=false:=by with_unfolding_all rfl):QT X (.Compare i [.NotIn] [o] pos) (tB (md ty td)):=⟨zi (ng hu hi.run ho.run) hm⟩
theorem yf{o i:Expr}{pos:Pos}{td ty:TE}(hu:X.A.units+1<cLine)(hi:QE X i ty)(ho:QE X o td)(hm:HG .In o=false:=by with_unfolding_all rfl):QE X (.Compare i [.In] [o] pos) (tDIn ty td):=⟨zm (ye hu hi.run ho.run) hm⟩
theorem i7{o i value:Expr}{pos pos':Pos}{td ty tv:TE}(hu:X.A.units+1<cLine)(ho:QE X o td)(hi:QE X i ty)(hv:QE X value tv)(hs:HN value (some (.Subscript o i pos')) pos.line X.env=pure false:=by rfl):
 QS X (.Assign [.Subscript o i pos'] value pos) (a3j td ty tv):=⟨a3t hu ho.run hi.run hv.run hs⟩
theorem a2g{o e f:Expr}{apos cpos:Pos}{td ty tx:TE}(hu:X.A.units+1<cLine)(ho:QE X o td)(he:QE X e ty)(hf:QE X f tx)(m:M2 X o "get" apos e f cpos:=by exact⟨rfl,rfl,rfl,rfl⟩):
 QE X (.Call (.Attribute o "get" apos) [e,f] [] cpos) (xh td ty tx):=⟨a1f hu ho.run he.run hf.run m⟩
theorem u5{P:Gx}{w:G9}{k:Key}{v:GQ}(h:(c4 P w).is k v=true):RelV (kV k) v:=by
 rcases ca h with⟨i,t,rfl,rfl⟩|⟨x,t,rfl,rfl⟩
 . exact⟨t,rfl⟩
 . exact⟨t,rfl⟩
theorem qm:∀{ks:List V}{vs:List GQ},vs.length=ks.length->(∀(j:Nat) (v:GQ),vs[j]?=some v->∃y,ks[j]?=some y/\RelV y v)->Vals ks vs
 | [],[],_,_=>.nil
 | k::ks,v::vs,hl,h=>by
  obtain⟨y,e,r⟩:=h 0 v rfl;cases e;exact .cons r (qm (by simpa using hl) fun j u hu=>h (j+1) u (by simpa using hu))
theorem m7(hc:X.calm=true):du X (.type "list") (fun xs H Q=>∃a kvs,xs=[V.ref a]/\H a=some (.dK kvs)/\∀p,H p=none->Q (.ref p) (upd H p (.lst (kvs.map fun kv=>kV kv.1)))):=by
 intro pins s σ H xs us Q I r h;obtain⟨a,kvs,rfl,ha,q⟩:=h;obtain⟨u,rfl,ru⟩:=wf r;cases ru;obtain⟨z,hd,vs,rel,dd⟩:=gk I.hok (.inl ha);have hl:=rel.length;obtain⟨ep,da⟩:=dd.dictAt;refine PySem.W.kdl_call (PySem.W.kdl_dict hd) (I.ok.hd hc) da (by rw[<- hl];exact z) fun h' tk acc c hk hD hacc=>?_;refine⟨.ref s.heap.objs.size,_,I.laid (t':=tk) hk (Ah _) (show ObjOk X.prog X.w _ h' _ (.lst (kvs.map fun kv=>kV kv.1)) from⟨by rw[Ac];exact z,acc.toList,c,?_,by simpa using hD⟩),rfl,q _ (I.hok.fresh (Ah _))⟩;refine qm (by rw[Az,Ac,hl];exact hacc.1) fun j v hv=>?_;obtain⟨k,x,e,ke⟩:=hacc.2 j v (by rw[<- Bk];exact hv);have ek:=rel.keys;have e2:(vs.map (·.1))[j]?=some k:=by rw[Al,e];rfl
 rw[<- ek,Al] at e2;refine⟨kV k,?_,u5 ke⟩;rw[Al];cases hj:kvs[j]? with
 | none=>rw[hj] at e2;cases e2
 | some p=>rw[hj] at e2;rw[<- Ap e2];rfl
end
section
variable{X:Cx}
end
theorem qd{L:List (Str×NameKind)}{cl:List (Str×GV)}{ks:List Str}(hkm:cl.map (·.1)=ks)(hkB:(L.all fun y=>(match y.2 with|.cell=>false|.free=>false|_=>true) || decide (y.1∈ks))=true)(z:Str)(h:L.lookup z=some .cell\/L.lookup z=some .free):∃c,cl.lookup z=some c:=by
 have hm:z∈cl.map (·.1):=by
  rw[hkm];rcases h with h|h
  . have:=BD.mp hkB _ (Bg h);simpa using this
  . have:=BD.mp hkB _ (Bg h);simpa using this
 clear hkm hkB;induction cl with
 | nil=>simp at hm
 | cons p r ih =>
  rw[List.lookup_cons];cases hb:z==p.1 with
  | true=>exact⟨_,rfl⟩
  | false =>
   rw[AI,Ar] at hm;rcases hm with h1|h1
   . rw[h1] at hb;simp at hb
   . exact ih h1
section
variable{X:Cx}
theorem a5p{j:Nat}{p3 p4:Pos}:QE X (.UnaryOp .USub (.Constant (.int 1) j p3) p4) (fun _ H Q=>Q (.int (-1)) H):=⟨fun pins s σ H Q I q=>a3f ll i4 pins s σ H Q I ⟨1,rfl,q⟩⟩
def tRev(K:Aa)(te:TE):TE:=fun σ H Q=>te σ H fun x H1=>∃a xs,x=.ref a/\SqL K H1 a xs/\∀p,H1 p=none->Q (.ref p) (upd H1 p (.lst xs.reverse))
theorem j8:∀{xs:List V}{us:List GQ},Vals xs us->Vals xs.reverse us.reverse
 | _,_,.nil=>.nil
 | _,_,.cons r t=>by
  rw[CI,CI];exact Vals.append (j8 t) (.cons r .nil)
theorem a66{e:Expr}{te:TE}{p2 p3 p4 pos:Pos}{j:Nat}(he:QE X e te):QE X (.Subscript e (.Slice none none (some (.UnaryOp .USub (.Constant (.int 1) j p3) p4)) p2) pos) (tRev X.K te):=by
 refine⟨fun pins s σ H Q I h=>?_⟩;refine Subscript_ (thn (he.run pins s σ H _ I h) fun v s1 ⟨x,H1,I1,r1,q1⟩=>?_);obtain⟨a,xs,rfl,hx,q⟩:=q1;cases r1;refine wpAny_Slice ?_;rw[EZ];refine Af (Af ?_);rw[evalPart_some];refine thn ((a5p (X:=X) (j:=j) (p3:=p3) (p4:=p4)).run pins s1 σ H1 (fun y H2=>y=.int (-1)/\H2=H1) I1 ⟨rfl,rfl⟩) fun u s2 ⟨y,H2,I2,r2,q2⟩=>?_;obtain⟨rfl,rfl⟩:=q2;obtain⟨t,rfl⟩:=r2;obtain⟨its,r,ht,hz⟩:=I2.list hx;have hlen:=r.length;have I4:Inv X pins σ H2 {s2 with heap:=s2.heap.push {cls:=.type "slice",data:=.fields #[.none,.none,.int (-1) t]}}:=I2.kept (t':=s2.toks) fun b ob q=>Ag _ q;have hl4:Heap.IsList (s2.heap.push {cls:=.type "slice",data:=.fields #[.none,.none,.int (-1) t]}) a its.toArray:=ht.isList.push _;have tl4:DI {s2 with heap:=s2.heap.push {cls:=.type "slice",data:=.fields #[.none,.none,.int (-1) t]}} (.ref a) "list" := Heap.IsList.typeIs (s:={s2 with heap:=s2.heap.push {cls:=.type "slice",data:=.fields #[.none,.none,.int (-1) t]}}) hl4;show GY (Gy X.prog X.w) X.A (subscriptTail e (.Slice none none (some (.UnaryOp .USub (.Constant (.int 1) j p3) p4)) p2) (.ref a) (.ref s2.heap.objs.size)) (EP X pins σ Q) X.xe {s2 with heap:=s2.heap.push {cls:=.type "slice",data:=.fields #[.none,.none,.int (-1) t]}};refine tail_any (ops:=[.ref a,.ref s2.heap.objs.size]) tl4 DM.lookup ?_ (by with_unfolding_all rfl);refine DV hl4 (Fp ..) .none .none (.int (-1) t) (by simp) ?_ (by rw[As]<;>omega);rw[PySem.W.krv_pick];refine⟨.ref _,_,I4.laid (t':=s2.toks) (o:=.lst xs.reverse) (fun b ob q=>Ag _ q) (Ah _) ?_,rfl,q _ (I4.hok.fresh (Ah _))⟩;exact⟨by rw[Dt];exact hz,its.reverse,0,j8 r,An _ rfl⟩
end
theorem sr{cl cells:List (Str×GV)}(h:∀p∈cl,cells.lookup p.1=some p.2)(y:Str)(c:GV)(e:cl.lookup y=some c):cells.lookup y=some c:=h (y,c) (Bg e)
inductive ClIn(cells:List (Str×GV)):List (Str×GV)->Prop
 | nil:ClIn cells []
 | cons{x:Str}{a:GV}{r:List (Str×GV)}:cells.lookup x=some a->ClIn cells r->ClIn cells ((x,a)::r)
theorem ClIn.all{cells cl:List (Str×GV)}(h:ClIn cells cl):∀p∈cl,cells.lookup p.1=some p.2:=by
 induction h with
 | nil=>intro p hp;cases hp
 | cons h _ ih =>
  intro p hp;rcases Ar.mp hp with rfl|z
  . exact h
  . exact ih p z
inductive IxIn(X:Cx)(sc:Scope):List Nat->Prop
 | nil:IxIn X sc []
 | cons{j:Nat}{y:Str}{r:List Nat}:X.N[j]?=some y->X.env.kindOf y=some .cell->(HH sc X.env).names.lookup y=some .cell->IxIn X sc r->IxIn X sc (j::r)
theorem IxIn.all{X:Cx}{sc:Scope}{ix:List Nat}(h:IxIn X sc ix):∀j∈ix,∃y,X.N[j]?=some y/\X.env.kindOf y=some .cell/\(HH sc X.env).names.lookup y=some .cell:=by
 induction h with
 | nil=>intro p hp;cases hp
 | cons h1 h2 h3 _ ih =>
  intro p hp;rcases Ar.mp hp with rfl|z
  . exact⟨_,h1,h2,h3⟩
  . exact ih p z
theorem il{X:Cx}{elt iter:Expr}{x:Str}{px pos:Pos}{ifs:List Expr}{sc:Scope}{cl:List (Str×GV)}{wi:TI}{tc:TT}{te:TE}(N:List Str)(ix:List Nat)(hi:QI X (.Name x px) iter wi)(hif:∀s H C ex,QTs (blk X N s H sc cl C ex) ifs tc)(he:∀s H C ex,QE (blk X N s H sc cl C ex) elt te)(hcl:closureFor sc X.env=pure cl:=by rfl)(hcs:ClIn X.env.cells cl:=by repeat' first|with_unfolding_all rfl|constructor)(hN:N=x::ix.map (fun j=>(X.N[j]?).getD ""):=by rfl)(hnd:N.Nodup:=by decide)(hkm:cl.map (·.1)=N.tail:=by rfl)(hkB:((HH sc X.env).names.all fun y=>(match y.2 with|.cell=>false|.free=>false|_=>true) || decide (y.1∈N.tail))=true:=by with_unfolding_all rfl)(hix:IxIn X sc ix:=by repeat' first|with_unfolding_all rfl|constructor)(hx:sc.names.lookup x=some .local:=by decide)(hcell:∀z∈sc.names,z.2≠.cell:=by decide)(hnames:∀z∈sc.names,z.2=.local->sc.names.lookup z.1=some .local:=by decide)(hc:X.calm=true:=by rfl)(hkind:sc.kind=.function:=by rfl)(hs:∀x,HE iter X.env x=pure x:=by intro _;rfl):
 QE X (.ListComp elt [⟨.Name x px,iter,ifs,0⟩] sc pos) (im ix wi tc te) :=
 ⟨v4 N hc hi.run (fun s H C ex=>(hif s H C ex).run) (fun s H C ex=>(he s H C ex).run) hkind hN hnd hx hcl hcell hnames (sr hcs.all) (qd hkm hkB) hix.all hs⟩
theorem iq{X:Cx}{elt iter:Expr}{x yv:Str}{px pos py pos2:Pos}{i:Nat}{ifs:List Expr}{sc:Scope}{cl:List (Str×GV)}{wi:TI}{tc:TT}{te:TE}(N:List Str)(ix:List Nat)(hNd:X.N.Nodup)(hiy:X.N[i]?=some yv)(hyv:Loc X.env.scope yv)(hi:QI X (.Name x px) iter wi)(hif:∀s H C ex,QTs (blk X N s H sc cl C ex) ifs tc)(he:∀s H C ex,QE (blk X N s H sc cl C ex) elt te)(hsw:HN (.ListComp elt [⟨.Name x px,iter,ifs,0⟩] sc pos) (some (.Name yv py)) pos2.line X.env=pure true:=by rfl)(hfy:X.fn yv=true\/X.env.scope.names.lookup yv=some .local:=by first|exact .inl rfl|exact .inr rfl|assumption)(hcl:closureFor sc X.env=pure cl:=by rfl)(hcs:ClIn X.env.cells cl:=by repeat' first|with_unfolding_all rfl|constructor)(hN:N=x::ix.map (fun j=>(X.N[j]?).getD ""):=by rfl)(hnd:N.Nodup:=by decide)(hkm:cl.map (·.1)=N.tail:=by rfl)(hkB:((HH sc X.env).names.all fun y=>(match y.2 with|.cell=>false|.free=>false|_=>true) || decide (y.1∈N.tail))=true:=by with_unfolding_all rfl)(hix:IxIn X sc ix:=by repeat' first|with_unfolding_all rfl|constructor)(hx:sc.names.lookup x=some .local:=by decide)(hcell:∀z∈sc.names,z.2≠.cell:=by decide)(hnames:∀z∈sc.names,z.2=.local->sc.names.lookup z.1=some .local:=by decide)(hc:X.calm=true:=by rfl)(hkind:sc.kind=.function:=by rfl)(hs:∀x,HE iter X.env x=pure x:=by intro _;rfl):
 QS X (.Assign [.Name yv py] (.ListComp elt [⟨.Name x px,iter,ifs,0⟩] sc pos) pos2) (tAsg (im ix wi tc te) (c8 i)) :=
 ⟨wg N hNd hiy hyv hsw hfy hc hi.run (fun s H C ex=>(hif s H C ex).run) (fun s H C ex=>(he s H C ex).run) hkind hN hnd hx hcl hcell hnames (sr hcs.all) (qd hkm hkB) hix.all hs⟩
section
variable{X:Cx}{CX:CXT}{k:Nat}{f C:GV}{fd:HA}{ps:List Str}{ds:List GQ}{dvs:List V}{sp:Sp}{E:XK}{x m fl:Str}{p pos pos' apos:Pos}{e o value:Expr}{es:List Expr}{ta tv:TE}{t:TA}
theorem a6n(he:QE X e ta)(hb:HL e fl X.env (eval e X.env)=eval e X.env:=by rfl):QE X (.Attribute e fl pos) (tFld X.K ta fl):=⟨a6b he.run hb⟩
theorem a69(ha:QE X o ta)(hv:QE X value tv)(hs:HN value (some (.Attribute o fl pos')) pos.line X.env=pure false:=by rfl):QS X (.Assign [.Attribute o fl pos'] value pos) (sFld X.K ta tv fl):=⟨a5m ha.run hv.run hs⟩
theorem b7{pl:Sem Bool}(he:QE X o ta)(c:Cls X.K C)(hm:Meth X.K C m f)(F:FnOk X.prog X.w X.K X.mg X.base CX k f fd ps sp)(hr:Room k X.A)(hb:Binds X.K fd ps ds)(hd:Vals dvs ds)(hx:dw CX X E)(ha:QA X (e::es) t)(hst:Gz (e::es) X.env=(false,eval e X.env)::Gz es X.env:=by rfl)(hpl:(HM pos (Gz es X.env)).any (·.1)=false:=by rfl)(ht:eval (.Call (.Attribute o m apos) (e::es) [] pos) X.env=(do
 let ov<-eval o X.env
 standAt apos.atName
 let (f,first)<-holding [ov] (getMethod ov m pl)
 callWith pos f first (HM pos (Gz (e::es) X.env)) (HX pos (HU [] X.env))):=by rfl):
 QE X (.Call (.Attribute o m apos) (e::es) [] pos) (oq C m sp dvs E ta t):=⟨a51 he.run c hm F hr hb hd hx ha.run hst hpl ht⟩
theorem ik{pl:Sem Bool}(he:QE X o ta)(c:Cls X.K C)(hm:Meth X.K C m f)(F:FnOk X.prog X.w X.K X.mg X.base CX k f fd ps sp)(hr:Room k X.A)(hb:Binds X.K fd ps ds)(hd:Vals dvs ds)(hx:dw CX X E)(ht:eval (.Call (.Attribute o m apos) [] [] pos) X.env=(do
 let ov<-eval o X.env
 standAt apos.atName
 let (f,first)<-holding [ov] (getMethod ov m pl)
 callWith pos f first (HM pos (Gz [] X.env)) (HX pos (HU [] X.env))):=by rfl):
 QE X (.Call (.Attribute o m apos) [] [] pos) (oq C m sp dvs E ta tNil):=⟨a1c he.run c hm F hr hb hd hx ht⟩
theorem u4(M:Mk X.K C f)(F:FnOk X.prog X.w X.K X.mg X.base CX k f fd ps sp)(hr:Room (k+1) X.A)(hg:Gl X x)(hm:X.mg x=some (.ref C))(hb:Binds X.K fd ps ds)(hd:Vals dvs ds)(hx:dw CX X E)(ha:QA X (e::es) t)(hdb:(x==("__debug__":Str))=false:=by decide)(he:Gz (e::es) X.env=(false,eval e X.env)::Gz es X.env:=by rfl)(hpl:(HM pos (Gz es X.env)).any (·.1)=false:=by rfl):
 QE X (.Call (.Name x p) (e::es) [] pos) (a3i C sp dvs E t):=⟨a3l M F hr hg hm hb hd hx ha.run hdb he hpl⟩
theorem a0f:QE X (.Dict [] [] pos) xa:=⟨a2c⟩
end
section
variable{X:Cx}{pins:List (GV×Obj)}{σ:St}{H:Hp}{s:GW}{a:GV}{y d:V}{u r:GQ}{A:HC}{E:GQ->GW->Prop}
theorem a0k{kvs:List (Key×V)}{k:Key}{v:V}{Q:GQ->GW->Prop}(I:Inv X pins σ H s)(e:H a=some (.dK kvs))(ry:RelV (kV k) u)(rv:RelV v r)(hl:kvs.length<GX)(h1:∀z w' s',valV kvs k=some z->Inv X pins σ H s'->RelV z w'->Q w' s')(h2:valV kvs k=none->∀s',Inv X pins σ (upd H a (.dK (putK kvs k v))) s'->Q r s'):
 GY (Gy X.prog X.w) A (call (.builtin "dict.setdefault") [.ref a,u,r]) Q E s:=by
 obtain⟨z,hd,vs,rel,dd⟩:=ox I.hok e;refine Fu D8 dd.typeIs PySem.F.entry_dict_setdefault (PySem.F.args_dict_setdefault_3 _ _ _) (kt_meets_setdefault (c4 X.prog X.w) a (gx ry) hd r) ⟨vs,dd,by rw[<- rel.length];exact z,fun w' hw=>?_,fun hn h' dd' hs=>?_⟩
 . have rr:=rel.val k;rw[hw] at rr;cases hz:valV kvs k with
   | none=>rw[hz] at rr;exact rr.elim
   | some zz=>rw[hz] at rr;exact h1 zz w' _ hz (I.tok _) rr
 . have hnv:valV kvs k=none:=by
    have rr:=rel.val k;rw[hn] at rr;cases hz:valV kvs k with
    | none=>rfl
    | some zz=>rw[hz] at rr;exact rr.elim
   refine h2 hnv _ ?_;have he:∃q,h'.get? a=some q:=let ⟨q,_,_,hq,_⟩:=dd';⟨q,hq⟩;have hl2:(putK kvs k v).length<=GX:=by have:=df kvs k v;omega
   exact jk I (by rw[e];exact True.intro) hs he (qw hl2 hd (rel.put k rv) dd')
end
def vm(td ty tx:TE):TE:=fun σ H Q=>td σ H fun x H1=>∃a,x=.ref a/\IsD H1 a/\ty σ H1 fun y H2=>tx σ H2 fun z H3=>∃kvs k,H3 a=some (.dK kvs)/\y=kV k/\kvs.length<GX/\
 (∀v,valV kvs k=some v->Q v H3)/\(valV kvs k=none->Q z (upd H3 a (.dK (putK kvs k z))))
section
variable{X:Cx}{o e f:Expr}{apos cpos:Pos}{td ty tx:TE}
theorem a3m(ho:PE X o td)(he:PE X e ty)(hf:PE X f tx)(m:M2 X o "setdefault" apos e f cpos):PE X (.Call (.Attribute o "setdefault" apos) [e,f] [] cpos) (vm td ty tx):=by
 intro pins s σ H Q I h;refine FB m.base m.few m.line El D8 PySem.F.type_dict_setdefault (thn (ho pins s σ H _ I h) fun u s1 ⟨x,H1,I1,rx,a,ex,d,q1⟩=>?_);subst ex;obtain rfl:u=Value.ref a:=rx;obtain⟨t1,t2,_⟩:=yp I1 d;refine⟨t1,t2,?_⟩;rw[m.trees];refine Ck rfl (Dg (BK (thn (he pins s1 σ H1 _ I1 q1) fun iv s2 ⟨y,H2,I2,ry,q2⟩ =>
  BK (thn (hf pins s2 σ H2 _ I2 q2) fun fv s3 ⟨z,H3,I3,rz,kvs,k,ea,ey,hl,q3,q4⟩=>CH ?_))))
 subst ey;exact a0k I3 ea ry rz hl (fun v w' s4 l I4 rw'=>⟨v,H3,I4,rw',q3 v l⟩) fun l s4 I4=>⟨z,_,I4,rz,q4 l⟩
theorem uc(ho:QE X o td)(he:QE X e ty)(hf:QE X f tx)(m:M2 X o "setdefault" apos e f cpos:=by exact⟨rfl,rfl,rfl,rfl⟩):QE X (.Call (.Attribute o "setdefault" apos) [e,f] [] cpos) (vm td ty tx):=⟨a3m ho.run he.run hf.run m⟩
end
section
variable{prog:Gx}{w:G9}{A:HC}{E:GQ->GW->Prop}{s:GW}{J d:GV}{n ep:Nat}{es:Array DictEntry}{od:Obj}
theorem j2{Q:Option GQ->GW->Prop}(hj:s.heap.IsKeyIter J d n es.size ep)(h1:s.heap.get? d=some od)(h2:od.data=.dict es ep)(hh:A.handled=none)(q1:∀(hn:n<es.size) h',h'.IsKeyIter J d (n+1) es.size ep->Bq J s.heap h'->Q (some es[n].key) {s with heap:=h'})(q2:es.size<=n->∀h',FH J s.heap h'->Q none {s with heap:=h'}):
 GY (Gy prog w) A (HQ (.ref J)) Q E s:=by
 obtain⟨oj,g1,g2,g3⟩:=id hj;have ty:=hj.typeIs;have no:Builtin.Dict_items.ownsTuple "dict_keyiterator"=false:=by decide
 have nn:¬ ((Value.ref d==Value.none)=true):=Aq;have pos:¬ ((n:Int)<0):=by omega
 unfold HQ;refine Ab (CN (Bx (name:=Br "__next__") ty CJ (Bo CJ ty PySem.F.entry_dict_keyiterator_next ?_ (PySem.F.args_dict_keyiterator_next_1 _))));refine Ab (Af (Ab (Ab ?_)))
 first|refine Ab (Cm ty (Af (Ab (Dy g1 g3 ?_))))|refine Ab (CC ty (Af (Ab (Dy g1 g3 ?_))))
 simp only[no,AY,if_false];show GY _ _ (if (Value.ref d==Value.none)=true then _ else _) _ _ s;rw[if_neg nn];refine Ab (Af (Ab (FC h1 h2 ?_)));rw[if_neg (by simp)];refine Ab (Af (Ab (wpAny_dictEpoch h1 h2 ?_)));rw[if_neg (by simp)];refine Af ?_;by_cases hn:n<es.size
 . simp only[pos,if_false,AU,DU hn];refine Ab ?_
   first|refine Ab (Cm ty (Af (Ab (CW ty ?_))))|refine Ab (CC ty (Af (Ab (CW ty ?_))))
   show GY _ _ (setField (.ref J) 1 (HW ((n:Int)+1))>>=_) _ _ s;refine Ab (wpAny_setField g1 g3 (by simp) ?_);have hj':(s.heap.update J (Gj (·.setIfInBounds 1 (HW ((n:Int)+1))))).IsKeyIter J d (n+1) es.size ep:=⟨_,B4 _ g1 (EH (DE g3 _)),(FD ..).trans g2,(by rw[DE g3];simp[HW])⟩
   refine Ab (B8 (Ab (CW (s:={s with heap:=s.heap.update J (Gj (·.setIfInBounds 1 (HW ((n:Int)+1))))}) hj'.typeIs ?_)));exact Af (Af ⟨_,rfl,Af (q1 hn _ hj' (Cu ..))⟩)
 . simp only[pos,if_false,AU,Array.getElem?_eq_none (DW hn)];refine Ab ?_
   first|refine Ab (Cm ty (Af ?_))|refine Ab (CC ty (Af ?_))
   show GY _ _ (setField (.ref J) 0 .none>>=_) _ _ s;refine Ab (wpAny_setField g1 g3 (by simp) (Ab ?_));simp only[newExc,newTuple];refine Ab (AJ ?_ (by size_fits));refine Ab (m:=firstArgMember _ _) (FG (a:=Value.none) (by first|rfl|(simp only[firstArgMember];rfl)) (AJ ?_ (by size_fits)));simp only[raiseNew];refine Ab (wpAny_handled ?_);rw[show A.in1.handled=none from hh];refine Ab (Af (wpAny_throw ?_));have sub:=EF;refine Ab (CQ (T := "StopIteration") (b:=true) ⟨_,An _ rfl,rfl⟩ sub ?_);exact Af (q2 (DW hn) _ (((Cu ..).extBut.push _).push _))
theorem qh{Q:GQ->GW->Prop}(hd:(d==HJ)=false)(h1:s.heap.get? d=some od)(hc:od.ExactDict)(h2:od.data=.dict es ep)(q:Q (.ref s.heap.objs.size) {s with heap:=s.heap.push {cls:=.type "dict_keyiterator",data:=.fields #[.ref d,.int 0 0,.int es.size 0,.int ep 0]}}):GY (Gy prog w) A (pyIter (.ref d)) Q E s:=by
 have ty:s.TypeIs (.ref d) "dict" := ⟨od,h1,hc.1⟩
 refine DP ty E5 (Bo E5 ty PySem.F.entry_dict_iter ?_ (PySem.F.args_dict_iter_1 _));unfold Builtin.«dict.__iter__»;refine Ab ?_;unfold Builtin.Dict.dictSlotNone;refine Ab (EI ty (Af ?_));show GY _ _ (EJ d>>=_) _ _ s;unfold EJ;rw[if_neg (show ¬ (d==HJ)=true by rw[hd];exact Aq)];refine Ab (Af (Ab (FC h1 h2 (Ab (wpAny_dictEpoch h1 h2 ?_)))));exact Ab (AJ (Af ⟨_,rfl,"dict_keyiterator",_,⟨_,An _ rfl,rfl⟩,PySem.F.slot_dict_keyiterator_next.lookup,q⟩))
end
section
variable{X:Cx}
theorem kx(hc:X.calm=true):du X (.builtin "any") (fun xs H Q=>∃(a:GV) (bs:List Bool),xs=[.ref a]/\SqL X.K H a (bs.map V.bl)/\Q (.bl (bs.any id)) H):=by
 intro pins s σ H xs us Q I r h;obtain⟨a,bs,rfl,hq,q⟩:=h;obtain⟨u,rfl,ru⟩:=r.one;cases ru;obtain⟨its,rv,p,hz⟩:=I.list hq;have hlt:a<s.heap.objs.size:=by obtain⟨o,n,e,_⟩:=p;exact Ao e
 refine call_any_walk (CF p.isList ?_);have len:bs.length=its.length:=by have:=rv.length;simpa using this
 refine⟨s.heap.objs.size,_,_,_,_,_,fun i=>(bs[i]?).getD false,rfl,FW (A:=X.A.in1) (show X.A.in1.handled=none from I.ok.hd hc) s.heap.objs.size a (Aw hlt) its.toArray,⟨⟨_,An _ rfl,rfl,rfl⟩,p.isList.at fun o e=>Ag _ e⟩,?_,?_⟩
 . intro i v s' Q' E' hv hQ;have hv':its[i]?=some v:=by simpa using hv
   cases hb:bs[i]? with
   | none =>
    have h1:=DS.mp hb;have h2:=(Am.mp hv').1;omega
   | some b =>
    obtain⟨u,hu,ru⟩:=rv.get (i:=i) (x:=V.bl b) (by rw[Al,hb]<;>rfl);rw[hv'] at hu;cases hu;cases ru;simp only[hb,Cc] at hQ;exact Bt hQ
 . intro h' tk hk;have e:(AV its.toArray.size).any (fun i=>(bs[i]?).getD false)=bs.any id:=by
    rw[As,<- len];rw[Bm];simp only[Ba,Bc,_root_.id];constructor
    . rintro⟨i,hi,e⟩;rw[Ae hi,Cc] at e;exact⟨_,AX hi,e⟩
    . rintro⟨b,hb,e⟩;obtain⟨i,hi,e2⟩:=EU.mp hb;exact⟨i,hi,by rw[Ae hi,Cc,e2];exact e⟩
   have fr:FpOk X pins H s.heap.objs.size:=I.fpOk (Ah _) (I.hok.fresh (Ah _));refine⟨.bl (bs.any id),H,?_,by rw[e];rfl,q⟩;have I1:Inv X pins σ H {s with heap:=h',toks:=tk}:=I.kept (h':=h') (t':=tk) fun b o e=>hk b o (fun z=>by
    have:b=s.heap.objs.size:=by simpa using z
    exact absurd (Ao e) (by rw[this];exact Bi _)) (Ag _ e)
   exact I1
end
def NF(X:Cx)(a:GV):Prop:=∀o u,X.H₀ a≠some (.frz o u)
section
variable{X:Cx}{pins:List (GV×Obj)}{σ:St}{H:Hp}{s:GW}{a:GV}{u:HO}{o:Obj}
theorem Inv.nf(I:Inv X pins σ H s)(e:H a=some u)(hu:∀o v,u≠.frz o v):NF X a:=fun o v z=>by
 have:=I.base.frzs a o v z;rw[e] at this;exact hu o v (Ap this)
theorem Inv.thaw(I:Inv X pins σ H s)(e:H a=some (.frz o u))(nf:NF X a):Inv X pins σ (upd H a u) s:=by
 have k:∀b v,H b=some v->(∀o' u',v≠.frz o' u')->(upd H a u) b=some v:=fun b v q n=>by
  rw[ag fun z=>by rw[z,e] at q;exact n o u (Ap q).symm];exact q
 have k0:∀b,H b=none->(upd H a u) b=none:=fun b q=>by
  rw[ag fun z=>by rw[z,e] at q;cases q];exact q
 have hok:HOk X.prog X.w (upd H a u) s.heap:=fun b v q=>by
  have st:∀{c:GV} {w':HO},ObjOk X.prog X.w H s.heap c w'->ObjOk X.prog X.w (upd H a u) s.heap c w':=fun x=>x.stay (fun _ _ _ z=>z) (fun c z=>k c _ z fun _ _ y=>by cases y) fun c xs z=>k c _ z fun _ _ y=>by cases y
  by_cases hb:b=a
  . subst hb;rw[aa] at q;cases q;exact st (I.hok b _ e).2
  . rw[ag hb] at q;exact st (I.hok b v q)
 have bs:=I.base;refine⟨I.ok,I.os,I.bare,⟨bs.keep,bs.slot,fun b ob q n hx=>k0 b (bs.free b ob q n hx),bs.there,fun b xs q=>k b _ (bs.tups b xs q) (fun _ _ y=>nomatch y),fun b o' u' q=>?_,fun b ps q=>?_⟩,I.loc,I.cell,k0 _ I.free,fun x c z=>k0 _ (I.freeC x c z),fun p hp=>?_,hok,I.len⟩
 . have q2:=bs.frzs b o' u' q;rw[ag fun z=>by rw[z] at q;exact nf o' u' q];exact q2
 . obtain⟨m,q2⟩:=bs.tbls b ps q;exact⟨m,k b _ q2 fun _ _ y=>by cases y⟩
 . obtain⟨p1,p2,p3⟩:=I.pin p hp;exact⟨p1,k0 _ p2,p3⟩
def a79(X:Cx)(t:TE):TE:=fun σ H Q=>t σ H fun v H2=>∃a o u,H2 a=some (.frz o u)/\NF X a/\Q v (upd H2 a u)
theorem a49{ex:Expr}{t:TE}(h:QE X ex t):QE X ex (a79 X t):=⟨fun pins s σ H Q I q=>thn (h.run pins s σ H _ I q) fun w' s1 ⟨v,H1,I1,r,a,o,u,e,nf,q1⟩=>⟨v,_,I1.thaw e nf,r,q1⟩⟩
end
def Itd(a:GV)(od:Obj)(kvs:List (List Key×V))(bs:List GV):It where
 go:=fun i H=>H a=some (.frz od (.dT kvs))/\i<bs.length
 yld:=fun i H x H'=>H'=H/\(bs.map V.ref)[i]?=some x
 stop:=fun i H=>H a=some (.frz od (.dT kvs))/\bs.length<=i
def DEnt(od:Obj)(bs:List GV)(es:Array DictEntry)(ep:Nat):Prop:=od.ExactDict/\od.data=.dict es ep/\es.toList.map (·.key)=bs.map Value.ref
theorem a4g{P:Gx}{w:G9}{K:Aa}{tg:Expr}{a J:GV}{od:Obj}{kvs:List (List Key×V)}{bs:List GV}{es:Array DictEntry}{ep:Nat}(hd:DEnt od bs es ep):
 Turn P w K tg (Itd a od kvs bs) [J] J (fun i h=>h.IsKeyIter J a i es.size ep) where
 mem:=by simp
 obj:=fun i h st b hb=>by
  have e:b=J:=by simpa using hb
  subst e;obtain⟨o,h1,h2,h3⟩:=st;exact⟨o,h1,fun v z=>by rw[h3] at z;cases z⟩
 keep:=fun i h h' st k=>by
  obtain⟨o,h1,h2⟩:=st;exact⟨o,k J (by simp) o h1,h2⟩
 item:=by
  intro X hP hw hK hc i pins s σ H E I hf st hg;subst hP hw hK;obtain⟨f0,f1,f2,f3,f4,f5⟩:=hf J (by simp);obtain⟨g1,g2⟩:=I.hok a _ hg.1;have hsz:es.size=bs.length:=by
   have:=congrArg FF hd.2.2;rw[Ac,Ac,Az] at this;exact this
  refine j2 st g1 hd.2.1 (I.ok.hd hc) (fun hn h' st' sb=>?_) (fun hn=>absurd hg.2 (by omega));have I1:Inv X pins σ H {s with heap:=h',toks:=s.toks}:=I.turned (fun b o hb e=>(sb.2 b hb).trans e) f0 f1 f3 f4 f5;have hk:es[i].key=.ref (bs[i]'hg.2):=by
   have e1:=congrArg (·[i]?) hd.2.2;simp only[Al] at e1;rw[Ae (by rw[Az];exact hn),Ae hg.2] at e1;have:=Ap e1;simpa using this
  refine⟨_,rfl,letGo_keyiter st' ⟨.ref (bs[i]'hg.2),H,I1,hk,⟨rfl,by rw[Al,Ae hg.2];rfl⟩,st',fun b hb=>(hf b hb).1⟩⟩
 done:=by
  intro X hP hw hK hc i pins s σ H E I hf st hg;subst hP hw hK;obtain⟨f0,f1,f2,f3,f4,f5⟩:=hf J (by simp);obtain⟨g1,g2⟩:=I.hok a _ hg.1;have hsz:es.size=bs.length:=by
   have:=congrArg FF hd.2.2;rw[Ac,Ac,Az] at this;exact this
  exact j2 st g1 hd.2.1 (I.ok.hd hc) (fun hn=>absurd hg.2 (by omega)) (fun _ h' eb=>⟨rfl,I.turned (t':=s.toks) (fun b o hb e=>eb b o hb e) f0 f1 f3 f4 f5⟩)
 self:=fun _ _ _ _ _ st h=>EW st h
def zw(X:Cx)(tl:TE):TI:=fun σ H R=>tl σ H fun x H1=>∃a kvs,x=.ref a/\H1 a=some (.dT kvs)/\∀od bs,NF X a->HD (fun (p:List Key×V) b=>H1 b=some (.tup (p.1.map kV))) kvs bs->R (Itd a od kvs bs) (upd H1 a (.frz od (.dT kvs)))
theorem xr{H:Hp}{kvs:List (List Key×V)}{xs:List (List Key×GV×GQ)}(h:HD (fun (p:List Key×V) (q:List Key×GV×GQ)=>p.1=q.1/\H q.2.1=some (.tup (p.1.map kV))/\RelV p.2 q.2.2) kvs xs):HD (fun (p:List Key×V) b=>H b=some (.tup (p.1.map kV))) kvs (xs.map (·.2.1)):=by
 induction h with
 | nil=>exact .nil
 | cons h t ih=>exact .cons h.2.1 ih
theorem a1w{X:Cx}{tg l:Expr}{tl:TE}(hl:PE X l tl):PI X tg l (zw X tl):=by
 intro pins s σ H R I h;refine thn (hl pins s σ H _ I h) fun v s1 ⟨x,H1,I1,r1,a,kvs,ex,e,q⟩=>?_;subst ex;cases r1;obtain⟨z,hd,xs,rel,od,es,ep,h1,hc,h2,h3,h4⟩:=(show ObjOk X.prog X.w H1 s1.heap a (.dT kvs) from I1.hok a _ e)
 have I2:Inv X pins σ (upd H1 a (.frz od (.dT kvs))) s1:=I1.write (x:=a) (e:=a) (h':=s1.heap) (t':=s1.toks) (by rw[e];exact True.intro) (.inl rfl) (fun _ _ _ z=>z) ⟨od,h1⟩ ⟨h1,z,hd,xs,Paired.mapP rel fun p q w'=>⟨w'.1,by rw[ag (db w'.2.1 e (fun z=>nomatch z))];exact w'.2.1,w'.2.2⟩,od,es,ep,h1,hc,h2,h3,h4⟩;have ent:DEnt od (xs.map (·.2.1)) es ep:=⟨hc,h2,by rw[h3,BO,BO];rfl⟩
 refine qh hd h1 hc h2 ?_;refine⟨s1.heap.objs.size,[s1.heap.objs.size],_,_,upd H1 a (.frz od (.dT kvs)),rfl,I2.kept (t':=s1.toks) fun b o e=>Ag _ e,a4g ent,⟨_,An _ rfl,rfl,rfl⟩,fun b hb=>?_,q od _ (I1.nf e fun _ _ z=>nomatch z) (xr rel)⟩;have e:b=s1.heap.objs.size:=by simpa using hb
 subst e;exact I2.fpOk (Ah _) (I2.hok.fresh (Ah _))
theorem a1u{X:Cx}{tg l:Expr}{tl:TE}(hl:QE X l tl):QI X tg l (zw X tl):=⟨a1w hl.run⟩
theorem a4m{a:GV}{od:Obj}{kvs:List (List Key×V)}{bs:List GV}:JSeq (Itd a od kvs bs) (fun H=>H a=some (.frz od (.dT kvs))) (bs.map V.ref) where
 go:=fun i H h hi=>⟨h,by rw[Ac] at hi;exact hi⟩
 stop:=fun i H h hi=>⟨h,by rw[Ac] at hi;exact hi⟩
 yld:=fun i H x H' _ h y=>y
 stay:=fun H H' h e=>e _ _ h
end L2
namespace Mir
open PySem L2
def noNames:List Str:=["nil","any","is","not","cell","stretch","tree","nothing","then","with"]
theorem u7(a b:Str):eqV (.str a) (.str b)=decide (a=b):=by
 show (a==b)=decide (a=b);by_cases h:a=b
 . subst h;simp
 . rw[decide_eq_false h];exact beq_eq_false_iff_ne.mpr h
theorem kq(x:Str)(l:List Str):inV (.str x) (l.map V.str)=decide (x∈l):=by
 unfold inV;rw[Bm,Ba,decide_eq_true_eq];constructor
 . rintro⟨y,hy,e⟩;obtain⟨z,hz,rfl⟩:=A3.mp hy;rw[u7,decide_eq_true_eq] at e;exact e ▸ hz
 . intro h;exact⟨.str x,A3.mpr ⟨x,h,rfl⟩,by rw[u7];simp⟩
theorem y3(l:List Str):(l.map V.str).all g8=true:=by
 rw[BD];intro v hv;obtain⟨z,_,rfl⟩:=A3.mp hv;rfl
end Mir
namespace L2
abbrev rQ(a:GV):Option V:=some (.ref a)
abbrev iQ(a:Int):Option V:=some (.int a)
abbrev nQ:Option V:=none
end L2
namespace K31
open L2 Mir
def top(i:Nat):HF:=PySem.Challenge.pw_apart_k31_the_same_follows.main.body.getD i (.Pass ⟨0,0,0,0⟩)
structure Con(K:Aa)(mg:Str->Option GQ)(w:G9):Prop where
 noNames:∃a,Glob mg "NO_NAMES" (.ref a)/\∀H,SqT K H a (noNames.map V.str)
 min:mg "min"=none
 len:mg "len"=none
 all:mg "all"=none
 any:mg "any"=none
 isi:mg "isinstance"=none
 list:mg "list"=none
 int:mg "int"=none
 bool:mg "bool"=none
 str:mg "str"=none
 dict:mg "dict"=none
 sorted:mg "sorted"=none
 set:mg "set"=none
 sum:mg "sum"=none
 range:mg "range"=none
 tuple:mg "tuple"=none
 max:mg "max"=none
 zip:mg "zip"=none
theorem iteB{b:Bool}{A B:Prop}(h1:b=true->A)(h2:b=false->B):if b=true then A else B:=by
 cases b with
 | true=>rw[if_pos rfl];exact h1 rfl
 | false=>rw[if_neg Aq];exact h2 rfl
theorem Paired.nth{α β:Type}{F:α->β->Prop}:∀{l₁:List α}{l₂:List β}{i:Nat}{a:α},HD F l₁ l₂->l₁[i]?=some a->∃b,l₂[i]?=some b/\F a b
 | _,_,_,_,.nil,e=>by simp at e
 | _,_,0,_,.cons h _,e=>by simp at e;subst e;exact⟨_,rfl,h⟩
 | _,_,i+1,_,.cons _ t,e=>by
  obtain⟨b,e1,e2⟩:=Paired.nth (i:=i) t (by simpa using e);exact⟨b,by simpa using e1,e2⟩
theorem gty{X:Cx}{x:Str}{n:String}{pos:Pos}(hm:X.mg x=none)(hv:bootBuiltins x=some (.type n))(hg:Gl X x:=by rfl)(hn:x≠"__name__" := by decide)(hdb:(x==("__debug__":Str))=false:=by decide):PE X (.Name x pos) (tC (.ty n)):=a3s hg hm hv rfl hn hdb
structure Cal(K:Aa)(mg:Str->Option GQ)(x:Str)(f:GV)(fd:HA)(ps:List Str):Prop where
 name:mg x=some (.ref f)
 keep:B3 K (.ref f)=true
 bind:Binds K fd ps []
theorem ii{l:List GV}{i:Nat}{x:V}(hx:(l.map V.ref)[i]?=some x):∃a,l[i]?=some a/\x=.ref a:=by
 rw[Al] at hx;cases h:l[i]? with
 | none=>rw[h] at hx;cases hx
 | some a=>rw[h] at hx;exact⟨a,rfl,(Ap hx).symm⟩
theorem Paired.at2{α β:Type}{F:α->β->Prop}{l₁:List α}{l₂:List β}{i:Nat}{a:α}{b:β}(h:HD F l₁ l₂)(h1:l₁[i]?=some a)(h2:l₂[i]?=some b):F a b:=by
 obtain⟨b',e1,e2⟩:=Paired.nth h h1;rw[h2] at e1;cases e1;exact e2
theorem Paired.app{α β:Type}{F:α->β->Prop}:∀{l₁:List α}{l₂:List β}{m₁:List α}{m₂:List β},HD F l₁ l₂->HD F m₁ m₂->HD F (l₁++m₁) (l₂++m₂)
 | _,_,_,_,.nil,h=>h
 | _,_,_,_,.cons h t,h2=>.cons h (Paired.app t h2)
theorem er{H H':Hp}{l:GV}(hl:H l=none)(e:Same H H')(o:HO):Same H (upd H' l o):=fun b u q=>by rw[ag (ax q hl)];exact e b u q
section
variable{K:Aa}
end
def gh(ns:List Int)(k:Nat):Int:=(ns[k]?).getD 0
def yq(K:Aa):Sp:=fun vs H Q _=>∃(a:GV) (ns:List Int) (k:Nat),vs=[.ref a,.int (k:Int)]/\SqL K H a (ns.map V.int)/\Q (.int (gh ns k)) H
theorem lq{α:Type}{xs:List α}{m:Int}{i:Int}(hl:(xs.length:Int)=m)(hm:0<m):∃v,atI xs (i % m)=some v/\v∈xs:=by
 have h0:=AN i (Int.ne_of_gt hm);have h1:=AS i hm;generalize i % m=j at h0 h1;obtain⟨k,rfl⟩:=Int.eq_ofNat_of_zero_le h0;have hk:k<xs.length:=by omega
 exact⟨xs[k],ef (Ae hk),AX hk⟩
abbrev vy:HF:=top 34
section
variable{P:Gx}{w:G9}{K:Aa}{mg:Str->Option GQ}{base:HB}{f g:GV}{fd gd:HA}
theorem a6w:FnScope ["_law_script","_law_k"] ["_law_script","_law_k"] (ap vy):=⟨rfl,rfl,rfl,by decide,rfl,by decide,by decide⟩
theorem zr(C:Con K mg w)(F:Fun K "_law_cell_at" "_law_cell_at" vy f fd):FnOk P w K mg base CX0 1 f fd ["_law_script","_law_k"] (yq K):=by
 refine F.okQ a6w (fun vs H Q E h=>?_) (fun cdv A outer s H vs Q E hr h=>?_)
 . obtain⟨a,ns,k,rfl,_⟩:=h;rfl
 obtain⟨a,ns,k,rfl,hS,q⟩:=h;refine⟨_,ac (bi (az j1 (qv 1) (bf bc rfl C.len AH (ae (qv 0) a0)) (b0 _)) (af (aw (ah ba (qv 0) (qv 1) (fun _ _=>rfl)))) be)
  (af (aw ab)),?_⟩
 have hl:(ns.map V.int).length=ns.length:=Ac _;refine⟨_,rfl,_,rfl,a,_,rfl,.inl hS,_,_,rfl,rfl,_,rfl,iteB (fun c=>?_) (fun c=>?_)⟩
 . have c':=of_decide_eq_true c;rw[hl] at c';have hk:k<ns.length:=by omega
   have e:gh ns k=ns[k]:=by unfold gh;rw[Ae hk];rfl
   rw[e] at q;exact⟨_,rfl,_,rfl,a,_,_,_,rfl,rfl,hS,ef (by rw[Al,Ae hk];rfl),q⟩
 . have c':=of_decide_eq_false c;rw[hl] at c';have hk:ns.length<=k:=by omega
   have e:gh ns k=0:=by unfold gh;rw[BR hk];rfl
   rw[e] at q;exact q
end
def ou(K:Aa):Sp:=fun vs H Q _=>∃(a:GV) (ns:List Int),vs=[.ref a]/\SqL K H a (ns.map V.int)/\∀H',Q (.bl true) H'
theorem a0z(xs:List Str)(n:Nat)(hn:n<=xs.length):cutV (xs.map V.str) none (some (n:Int))=(xs.take n).map V.str:=by
 unfold cutV;rw[HT.sIx_nat,HT.sIx_none,Ac,Ew hn,Dz,Dk,Ce]
theorem sg{K:Aa}{H:Hp}{l b:GV}{xs ys zs:List V}(hl:H l=some (.lst xs))(h:SqT K H b zs):SqT K (upd H l (.lst ys)) b zs:=by
 rcases h with (h|⟨o,h⟩)|h
 . have hne:b≠l:=fun e=>by rw[e,hl] at h;cases h
   exact .inl (.inl (by show upd H l _ b=_;rw[ag hne];exact h))
 . have hne:b≠l:=fun e=>by rw[e,hl] at h;cases h
   exact .inl (.inr ⟨o,by show upd H l _ b=_;rw[ag hne];exact h⟩)
 . exact .inr h
theorem a3q{X:Cx}{i j:Nat}{x y:Str}{px py pos:Pos}{k:Nat}(h1:QG X (.Name x px) (c8 i))(h2:QG X (.Name y py) (c8 j))(hc:X.calm=true:=by rfl)(a1:(HK [.Name x px,.Name y py] X.env).map (·.2)=assign (.Name x px) X.env::(HK [.Name y py] X.env).map (·.2):=by rfl)(a2:(HK [.Name y py] X.env).map (·.2)=assign (.Name y py) X.env::(HK [] X.env).map (·.2):=by rfl)(hn:(HK [.Name x px,.Name y py] X.env).length=2:=by rfl)(hst:(HK [.Name x px,.Name y py] X.env).findIdx? (·.1)=none:=by rfl):QG X (.Tuple [.Name x px,.Name y py] k pos) (gTup X.K 2 (jm (c8 i) (jm (c8 j) gNil))) :=
 ⟨xz hc (gi h1.run (gi h2.run va a2) a1) hn hst⟩
theorem gf{X:Cx}{st:HF}{t t':TS}(h:QS X st t)(w:∀D σ H,t' D σ H->t D σ H):QS X st t':=⟨fun pins s σ H D I q=>h.run pins s σ H D I (w D σ H q)⟩
theorem oy(xs:List V)(n:Nat):cutV xs none (some (n:Int))=xs.take n:=by
 unfold cutV;rw[HT.sIx_nat,HT.sIx_none,Dz,Dk];by_cases h:n<=xs.length
 . rw[Ew h]
 . rw[FN (by omega),Bb,Bf (by omega)]
theorem vi{X:Cx}{a:Expr}{ta:TE}{pos:Pos}{op:UnaryOp}{r:V->Hp->VK->Prop}(ho:UnR X (unaryOp op) r)(ha:QE X a ta):QE X (.UnaryOp op a pos) (tUn r ta):=⟨a3f ho ha.run⟩
def Kp(S:GV->Prop)(H H':Hp):Prop:=∀b o,H b=some o->¬ S b->H' b=some o
abbrev kh:HF:=top 5
def vz(x:Str):Prop:=x.length<=1000
theorem a4n{r:List Str}{k:Nat}:cutV (r.map V.str) (some (k:Int)) none=(r.drop k).map V.str:=by
 unfold cutV;rw[HT.sIx_nat,HT.sIx_none,Ac];rw[List.map_drop.symm];by_cases h:k<=r.length
 . rw[Ew h,Bf (by simp)]
 . rw[FN (by omega),Gm,B5,List.drop_eq_nil_of_le (by omega)];rfl
def gq(rs:List (List Str)):Prop:=rs.length<=200/\∀r∈rs,r.length<=5/\∀x∈r,vz x
def dl(r:List Str):List Str:=(r.drop 1).filter fun x => !decide (x∈Mir.noNames)
def d0(rs:List (List Str)):List Str:=(rs.map dl).flatten
theorem xi(a b:List (List Str)):d0 (a++b)=d0 a++d0 b:=by unfold d0;rw[A1,List.flatten_append]
theorem vf(a:List (List Str))(r:List Str):d0 (a++[r])=d0 a++dl r:=by rw[xi];unfold d0;simp
theorem gs:∀{rs:List (List Str)}{m:Nat},(∀r∈rs,r.length<=m)->(d0 rs).length<=rs.length*m
 | [],m,_=>by simp[d0]
 | r::rs,m,h=>by
  have h1:=gs (rs:=rs) (m:=m) (fun x hx=>h x (Ay _ hx));have h2:(dl r).length<=m:=by
   unfold dl;have:=Bl (fun x => !decide (x∈Mir.noNames)) (r.drop 1);have:=h r (AK ..);have e:=Bd (i:=1) (l:=r);omega
  have e:d0 (r::rs)=dl r++d0 rs:=by simp[d0]
  rw[e,Aj,AM,Nat.succ_mul];omega
def zc(K:Aa):Sp:=fun vs H Q _=>∃a fs ps,vs=[.ref a]/\TellAt K H a [fs,ps]/\gq fs/\gq ps/\(∀r∈fs++ps,r≠[])/\(∀ss:List Str,ss.Nodup->(∀y∈ss,y∈d0 (fs++ps))->ss.length<64)/\
 ∀(p:GV) (zs:List Str) (H':Hp),H p=none->Same H H'->H' p=some (.lst (zs.map V.str))->zs.Nodup->(∀y,y∈zs↔y∈d0 (fs++ps))->PyProof.Rows.sortedS zs=true->Q (.ref p) H'
section
variable{P:Gx}{w:G9}{K:Aa}{mg:Str->Option GQ}{base:HB}{f g:GV}{fd gd:HA}
theorem scNamesOf:FnScope ["telling","names","row"] ["telling"] (ap kh):=⟨rfl,rfl,rfl,by decide,rfl,by decide,by decide⟩
theorem vc(C:Con K mg w)(F:Fun K "names_of" "names_of" kh f fd):FnOk P w K mg base CX0 1 f fd ["telling"] (zc K):=by
 refine F.ok scNamesOf (fun vs H Q E h=>?_) (fun cdv A outer s H vs Q E hr h=>?_)
 . obtain⟨a,fs,ps,rfl,_⟩:=h;rfl
 obtain⟨a,fs,ps,rfl,ht,hf,hp,hne,h64,q⟩:=h;obtain⟨aN,gN,tN⟩:=C.noNames;obtain⟨as,t1,t2⟩:=ht;cases t2 with
 | @cons fa _ _ _ t3 t4 =>
 cases t4 with
 | @cons pa _ _ _ t5 t6 =>
 cases t6;obtain⟨fas,f1,f2⟩:=t3;obtain⟨pas,p1,p2⟩:=t5;refine⟨_,kf (yt scNamesOf.nd (i:=1) rfl (Or.inl rfl) (r9 jg))
  (kf (a00 AA rfl (tz (a2r dh (wx aj (pv 0) i4 (fun _ _=>rfl)) (wx aj (pv 0) i4 (fun _ _=>rfl)))) (i5 (i:=2) scNamesOf.nd rfl (Or.inl rfl))
   (ly (v8 (a3a A0 Ed Ee mx (pv 1)
    (cv (qr (xg (p9 a5r (pv 2) (ug i4) uf)) (fun _ _ _ _=>ue (u9 (show OpR _ _ (rIn K true) from qu) (pv 0) (pe_g gN) (by with_unfolding_all rfl))) (fun _ _ _ _=>pv 0)) jg)))))
   (ly (xn (qc (gw rfl) rfl C.sorted Ef (cv (o3 (pc rfl) rfl C.set EK (cv (pv 1) jg)) jg))))),?_⟩
 refine⟨A5 _,fun n hn=>?_⟩;have s1:Same H (upd H n (.lst [])):=ad hn _;have fl:fas.length=fs.length:=A8 f2;have pl:pas.length=ps.length:=A8 p2;have b1:=hf.1;have b2:=hp.1;refine⟨_,rfl,a,_,0,.ref fa,rfl,rfl,s1.seqT t1,rfl,_,rfl,a,_,1,.ref pa,rfl,rfl,s1.seqT t1,rfl,?_⟩;refine⟨fa,pa,_,_,rfl,rfl,s1 _ _ f1,s1 _ _ p1,?_,fun c hc=>?_⟩
 . rw[Ac,Ac];exact BH (g7 (by omega))
 have hcn:c≠n:=fun e=>by rw[e,aa] at hc;cases hc
 rw[<- A1];have s2:=ad hc (.lst ((fas++pas).map V.ref));refine⟨c,rfl,⟨_,SqL.of aa⟩,?_⟩;have pr:HD (fun b r=>RowAt K H b r) (fas++pas) (fs++ps):=Paired.app f2 p2;have pl2:(fas++pas).length=(fs++ps).length:=A8 pr;have hall:∀r∈fs++ps,r.length<=5:=fun r hr=>by
  rcases Ad.mp hr with h|h
  . exact (hf.2 r h).1
  . exact (hp.2 r h).1
 refine dm (xs:=(fas++pas).map V.ref) (fun i σ H'=>Same H H'/\H' c=some (.lst ((fas++pas).map V.ref))/\H' n=some (.lst ((d0 ((fs++ps).take i)).map V.str))/\∃z,σ=[some (.ref a),some (.ref n),z]) ⟨s1.trans s2,aa,?_,_,rfl⟩ (fun i σ H' _ p=>SqL.of p.2.1) ?_ ?_
 . rw[ag (A9 hcn),aa];rfl
 . rintro i v σ H' hi ⟨e,hc',hn',z,rfl⟩;rw[Al] at hi;cases hb:(fas++pas)[i]? with
   | none=>rw[hb] at hi;cases hi
   | some b =>
    rw[hb] at hi;have hv:v=.ref b:=(Ap hi).symm;subst hv;obtain⟨r,hr1,hr2⟩:=Paired.nth pr hb;have hrm:r∈fs++ps:=Au hr1;have hrow:RowAt K H' b r:=hr2.same e;have hr5:=hall r hrm;have hr0:r.length≠0:=fun h=>hne r hrm (List.length_eq_zero_iff.mp h);refine⟨_,rfl,.inl ⟨rfl,_,SqL.of hn'⟩,_,rfl,_,rfl,b,_,rfl,hrow,?_,fun t hT=>?_⟩
    . rw[Ac,show (some (1:Int))=some ((1:Nat):Int) from rfl,HT.sIx_nat];omega
    have e1:cutV (r.map V.str) (some 1) none=(r.drop 1).map V.str:=a4n (k:=1);rw[e1];have s3:Same H' (upd H' t (.tup ((r.drop 1).map V.str))):=ad hT _;refine⟨t,rfl,⟨_,SqT.of aa⟩,?_⟩;refine kj ((r.drop 1).map V.str) (fun v => !inV v (Mir.noNames.map V.str)) id a1g (SqT.of aa) ?_ ?_ ?_ ?_
    . rw[Ac,Bd];exact BH (g7 (by omega))
    . intro v hv H2 e2 Q' q';obtain⟨y,hy,rfl⟩:=A3.mp hv;exact⟨_,rfl,aN,_,rfl,.inr (tN _),rfl,y3 _,_,rfl,q' H2 (Same.refl _)⟩
    . intro v hv hpv H2 e2 Q' q';obtain⟨y,hy,rfl⟩:=A3.mp hv;exact⟨_,rfl,q' H2 (Same.refl _)⟩
    . intro D H2 hD e' hd;have hw:(((r.drop 1).map V.str).filter (fun v => !inV v (Mir.noNames.map V.str))).map id=(dl r).map V.str:=by
       rw[Gu,Ex];unfold dl
       congr 1
       apply DR;intro x _;show (!inV (.str x) (Mir.noNames.map V.str))=_;rw[kq]
      rw[hw] at hd;have s4:Same H H2:=(e.trans s3).trans e';have ht1:(fs++ps).take (i+1)=(fs++ps).take i++[r]:=by rw[AR,hr1];rfl
      have wl:=gs hall;have wl2:(d0 ((fs++ps).take i)).length<=200*5+200*5:=by
       have h1:=gs (rs:=(fs++ps).take i) (m:=5) (fun r hr=>hall r (AQ hr));have h2:=List.length_take_le' i (fs++ps);rw[Aj] at h2;omega
      have wl3:(dl r).length<=5:=by
       unfold dl;have h1:=Bl (fun x => !decide (x∈Mir.noNames)) (r.drop 1);have h2:=Bd (i:=1) (l:=r);omega
      refine⟨n,D,_,_,rfl,rfl,e' _ _ (s3 _ _ hn'),hd,?_,?_⟩
      . rw[Ac,Ac];exact AB (by omega) (show (2005:Nat)<=GX by decide)
      refine⟨fun b' u q'=>?_,?_,?_,_,rfl⟩
      . rw[ag (ax q' hn)];exact s4 _ _ q'
      . rw[ag hcn];exact e' _ _ (s3 _ _ hc')
      . rw[aa,ht1,vf,A1]
 . rintro σ H' ⟨e,hc',hn',z,rfl⟩;rw[Ac,pl2,Bb] at hn';refine⟨_,rfl,n,_,rfl,SqL.of hn',?_,fun S ss hS hd=>?_⟩
   . have wl:=gs hall;rw[Aj] at wl;show _<4096;omega
   have s5:=ad hS (SetO P w S ss);refine⟨S,ss,rfl,aa,h64 ss hd.nodup (fun y hy=>(hd.mem y).mp hy),fun p zs hp' hzs hso=>?_⟩;have s6:=ad hp' (.lst (zs.map V.str));refine q p zs _ ?_ (e.trans (s5.trans s6)) aa (hzs.nodup_iff.mpr hd.nodup) (fun y=>(hzs.mem_iff).trans (hd.mem y)) hso;cases hH:H p with
   | none=>rfl
   | some u=>exact nomatch (s5 _ _ (e _ _ hH)).symm.trans hp'
end
end K31
namespace L2
def dS(m:List (Str×Str)):List (Key×V):=m.map fun p=>(Sum.inr p.1,V.str p.2)
def lkS(m:List (Str×Str))(x:Str):Option Str:=(m.find? fun p=>decide (p.1=x)).map (·.2)
theorem ib:∀(m:List (Str×Str)) (x:Str),valV (dS m) (Sum.inr x)=(lkS m x).map V.str
 | [],x=>rfl
 | p::m,x=>by
  have ih:=ib m x;by_cases h:p.1=x
  . have e1:valV (dS (p::m)) (Sum.inr x)=some (.str p.2):=cg (p:=((Sum.inr p.1,V.str p.2):Key×V)) (show (Sum.inr p.1:Key)=Sum.inr x by rw[h]);have e2:lkS (p::m) x=some p.2:=by unfold lkS;simp[B0,h]
    rw[e1,e2];rfl
  . have e1:valV (dS (p::m)) (Sum.inr x)=valV (dS m) (Sum.inr x):=ci (p:=((Sum.inr p.1,V.str p.2):Key×V)) (show ¬ (Sum.inr p.1:Key)=Sum.inr x from fun z=>h (DA z));have e2:lkS (p::m) x=lkS m x:=by unfold lkS;simp[B0,h]
    rw[e1,e2,ih]
def putS(m:List (Str×Str))(x:Str)(z:Str):List (Str×Str):=if (m.any fun p=>decide (p.1=x))=true then m.map (fun p=>if p.1=x then (p.1,z) else p) else m++[(x,z)]
theorem uu(m:List (Str×Str))(x:Str)(z:Str):putK (dS m) (Sum.inr x) (.str z)=dS (putS m x z):=by
 unfold putK putS dS;have ed:∀a b:Str,decide ((Sum.inr a:Key)=Sum.inr b)=decide (a=b):=fun a b=>by
  by_cases h:a=b
  . subst h;simp
  . rw[decide_eq_false h,decide_eq_false (fun z=>h (DA z))]
 have e:(m.map (fun p=>((Sum.inr p.1,V.str p.2):Key×V))).any (fun kv=>decide (kv.1=(Sum.inr x:Key)))=m.any fun p=>decide (p.1=x):=by
  rw[Fv]
  congr 1
  funext p
  exact ed p.1 x
 rw[e];split
 . rw[BO,BO];apply Cv;intro p _;show (if (Sum.inr p.1:Key)=Sum.inr x then _ else _)=_;by_cases h:p.1=x
   . rw[if_pos (by rw[h])];show _=((Sum.inr (if p.1=x then (p.1,z) else p).1,V.str (if p.1=x then (p.1,z) else p).2):Key×V)
     rw[if_pos h]
   . rw[if_neg (fun z=>h (DA z))];show _=((Sum.inr (if p.1=x then (p.1,z) else p).1,V.str (if p.1=x then (p.1,z) else p).2):Key×V)
     rw[if_neg h]
 . rw[A1];rfl
theorem v9{x:Str}{z:Str}:∀(m:List (Str×Str)) (y:Str),lkS (m.map fun p=>if p.1=x then (p.1,z) else p) y=if y=x then (lkS m x).map (fun _=>z) else lkS m y
 | [],y=>by unfold lkS;simp
 | p::m,y=>by
  have ih:=v9 (x:=x) (z:=z) m y;have c:∀(q:Str×Str) (l:List (Str×Str)) (w:Str),lkS (q::l) w=if q.1=w then some q.2 else lkS l w:=fun q l w=>by
   unfold lkS;rw[B0];by_cases h:q.1=w
   . simp[h]
   . simp[h]
  rw[AI,c,c,c,ih];by_cases h1:p.1=x
  . by_cases h2:y=x
    . subst h2;simp[h1]
    . have h3:¬ x=y:=fun z=>h2 z.symm;simp[h1,h2,h3]
  . by_cases h2:y=x
    . subst h2;simp[h1]
    . simp[h1,h2]
theorem jh(m:List (Str×Str))(x:Str)(z:Str)(y:Str):lkS (putS m x z) y=if y=x then some z else lkS m y:=by
 unfold putS;split
 . rename_i h;rw[v9];by_cases h2:y=x
   . rw[if_pos h2,if_pos h2];have:(lkS m x).isSome=true:=by
      unfold lkS;rw[BV];rw[FE];rw[Ba] at h;exact h
     cases hl:lkS m x with
     | none=>rw[hl] at this;cases this
     | some v=>rfl
   . rw[if_neg h2,if_neg h2]
 . rename_i h;have hn:∀p∈m,¬ p.1=x:=fun p hp z=>h (Ba.mpr ⟨p,hp,by simp[z]⟩);unfold lkS;rw[List.find?_append];by_cases h2:y=x
   . subst h2;rw[if_pos rfl,List.find?_eq_none.mpr (fun p hp=>by simp[hn p hp])];simp
   . have h3:¬ x=y:=fun z=>h2 z.symm;rw[if_neg h2];simp[h3]
theorem a2k(m:List (Str×Str))(x:Str)(z:Str):(putS m x z).length<=m.length+1:=by
 unfold putS;split
 . rw[Ac];omega
 . rw[Aj,AD];omega
theorem km(m:List (Str×Str))(x z y:Str):(lkS (putS m x z) y).isSome=true↔y=x\/(lkS m y).isSome=true:=by
 rw[jh];by_cases h:y=x
 . rw[if_pos h];simp[h]
 . rw[if_neg h];simp[h]
theorem lkS_mem{m:List (Str×Str)}{x:Str}:(lkS m x).isSome=true↔x∈m.map (·.1):=by
 unfold lkS;rw[BV,FE];constructor
 . rintro⟨p,hp,e⟩;exact A3.mpr ⟨p,hp,of_decide_eq_true e⟩
 . intro h;obtain⟨p,hp,rfl⟩:=A3.mp h;exact⟨p,hp,by simp⟩
end L2
namespace Kn
open L2
inductive Conn(F:List (List Str)):Str->Str->Prop
 | refl (x:Str):Conn F x x
 | fact{u v:Str}(h:[("is":Str),u,v]∈F):Conn F u v
 | symm{x y:Str}(h:Conn F x y):Conn F y x
 | trans{x y z:Str}(h1:Conn F x y)(h2:Conn F y z):Conn F x z
theorem Conn.mono{F G:List (List Str)}(h:∀r∈F,r∈G){x y:Str}(c:Conn F x y):Conn G x y:=by
 induction c with
 | refl x=>exact .refl x
 | fact h1=>exact .fact (h _ h1)
 | symm _ ih=>exact ih.symm
 | trans _ _ i1 i2=>exact i1.trans i2
def iu(h:Str->Str)(r:List Str):Str->Str:=if r.getD 0 ""="is" then fun x=>if h x=h (r.getD 2 "") then h (r.getD 1 "") else h x else h
def al(F:List (List Str)):Str->Str:=F.foldl iu id
theorem io(F:List (List Str))(r:List Str):al (F++[r])=iu (al F) r:=by unfold al;rw[List.foldl_append];rfl
def c5(r:List Str):Prop:=∃k u v:Str,r=[k,u,v]/\(k="is" \/ k="not")
theorem xf:∀(n:Nat) (F:List (List Str)),F.length=n->(∀r∈F,c5 r)->∀x y,al F x=al F y↔Conn F x y:=by
 intro n;induction n with
 | zero =>
  intro F hl hF x y;have:F=[]:=B9 hl;subst this;constructor
  . intro h;have h':x=y:=h;subst h';exact .refl x
  . intro c;show x=y;induction c with
    | refl x=>rfl
    | fact h=>cases h
    | symm _ ih=>exact ih.symm
    | trans _ _ i1 i2=>exact i1.trans i2
 | succ n ih =>
  intro F hl hF;have hne:F≠[]:=fun z=>by rw[z] at hl;cases hl
  obtain⟨G,r,rfl⟩:∃G r,F=G++[r]:=⟨F.dropLast,F.getLast hne,(List.dropLast_concat_getLast hne).symm⟩
  have hGl:G.length=n:=by rw[Aj] at hl;simpa using hl
  have hG:∀r'∈G,c5 r':=fun r' h=>hF r' (Ad.mpr (.inl h));have I:=ih G hGl hG;have mono:∀{x y},Conn G x y->Conn (G++[r]) x y:=fun c=>c.mono fun r' h=>Ad.mpr (.inl h);obtain⟨k,u,v,rfl,hk⟩:=hF r (Ad.mpr (.inr (Ai.mpr rfl)));intro x y;rw[io];unfold iu;rcases hk with rfl|rfl
  . rw[if_pos (show ([("is":Str),u,v].getD 0 "")="is" from rfl)];show (if al G x=al G v then al G u else al G x)=(if al G y=al G v then al G u else al G y)↔_;have huv:Conn (G++[[("is":Str),u,v]]) u v:=.fact (Ad.mpr (.inr (Ai.mpr rfl)));constructor
    . intro h;by_cases hx:al G x=al G v
      . by_cases hy:al G y=al G v
        . exact mono ((I x y).mp (hx.trans hy.symm))
        . rw[if_pos hx,if_neg hy] at h;exact (mono ((I x v).mp hx)).trans (huv.symm.trans (mono ((I u y).mp h)))
      . by_cases hy:al G y=al G v
        . rw[if_neg hx,if_pos hy] at h;exact (mono ((I x u).mp h)).trans (huv.trans (mono ((I y v).mp hy)).symm)
        . rw[if_neg hx,if_neg hy] at h;exact mono ((I x y).mp h)
    . intro c;induction c with
      | refl x=>rfl
      | @fact a b h =>
       rcases Ad.mp h with h|h
       . have:=(I a b).mpr (.fact h);rw[this]
       . have h':=Ai.mp h;simp only[FY,and_true,true_and] at h';obtain⟨rfl,rfl⟩:=h';rw[if_pos rfl];by_cases hx:al G a=al G b
         . rw[if_pos hx]
         . rw[if_neg hx]
      | symm _ ih=>exact ih.symm
      | trans _ _ i1 i2=>exact i1.trans i2
  . have hni:¬ ("not":Str)="is" := by decide
    rw[if_neg (show ¬ ([("not":Str),u,v].getD 0 "")="is" from hni)];rw[I x y];constructor
    . exact mono
    . intro c;induction c with
      | refl x=>exact .refl x
      | @fact a b h =>
       rcases Ad.mp h with h|h
       . exact .fact h
       . have h':=Ai.mp h;simp only[FY] at h';exact absurd h'.1.symm hni
      | symm _ ih=>exact ih.symm
      | trans _ _ i1 i2=>exact i1.trans i2
theorem cj{F:List (List Str)}(hF:∀r∈F,c5 r)(x y:Str):al F x=al F y↔Conn F x y:=xf F.length F rfl hF x y
def hdS(m:List (Str×Str))(x:Str):Str:=(lkS m x).getD x
structure HeadsOk(m:List (Str×Str))(h:Str->Str):Prop where
 hd:∀x,hdS m x=h x
 key:∀x v,lkS m x=some v->(lkS m v).isSome=true
theorem HeadsOk.start:HeadsOk [] id:=⟨fun _=>rfl,fun x v h=>by cases h⟩
theorem HeadsOk.dflt{m:List (Str×Str)}{h:Str->Str}(H:HeadsOk m h){u:Str}(hu:lkS m u=none):HeadsOk (putS m u u) h/\h u=u:=by
 have e:h u=u:=by rw[<- H.hd];unfold hdS;rw[hu];rfl
 refine⟨⟨fun x=>?_,fun x v hv=>?_⟩,e⟩
 . unfold hdS;rw[jh];by_cases hx:x=u
   . rw[if_pos hx,hx,e];rfl
   . rw[if_neg hx];exact H.hd x
 . rw[km];rw[jh] at hv;by_cases hx:x=u
   . rw[if_pos hx] at hv;exact .inl (Ap hv).symm
   . rw[if_neg hx] at hv;exact .inr (H.key x v hv)
def mv(g k z:Str):Str:=if z=g then k else z
theorem a6y(g k z:Str):mv g k (mv g k z)=mv g k z:=by
 unfold mv;by_cases h:z=g
 . rw[if_pos h];split<;>rfl
 . rw[if_neg h,if_neg h]
theorem HeadsOk.step{m m':List (Str×Str)}{h:Str->Str}(H:HeadsOk m h){u v:Str}(hu:(lkS m u).isSome=true)(hv:(lkS m v).isSome=true)(hm:∀x,lkS m' x=(lkS m x).map (mv (h v) (h u))):HeadsOk m' (iu h [("is":Str),u,v]):=by
 have val:∀{y:Str},(lkS m y).isSome=true->lkS m y=some (h y):=fun {y} hy=>by
  obtain⟨z,hz⟩:=Bv.mp hy;rw[hz,<- H.hd];unfold hdS;rw[hz];rfl
 have e:∀x,iu h [("is":Str),u,v] x=mv (h v) (h u) (h x):=fun x=>by
  unfold iu;rw[if_pos (show ([("is":Str),u,v].getD 0 "")="is" from rfl)];rfl
 refine⟨fun x=>?_,fun x z hz=>?_⟩
 . rw[e];unfold hdS;rw[hm];cases hx:lkS m x with
   | some z =>
    have:=val (y:=x) (by rw[hx];rfl);rw[hx] at this;rw[Ap this];rfl
   | none =>
    have hxx:h x=x:=by rw[<- H.hd];unfold hdS;rw[hx];rfl
    show x=mv (h v) (h u) (h x);unfold mv;rw[hxx,if_neg];intro z;have:=H.key v (h v) (val hv);rw[<- z,hx] at this;cases this
 . rw[hm] at hz;cases hx:lkS m x with
   | none=>rw[hx] at hz;cases hz
   | some y =>
    rw[hx] at hz;have hz':mv (h v) (h u) y=z:=Ap hz;have k:(lkS m z).isSome=true:=by
     rw[<- hz'];unfold mv;split
     . exact H.key u (h u) (val hu)
     . exact H.key x y hx
    rw[hm,BV];exact k
end Kn
namespace K31
open L2 Mir Kn
abbrev jy:HF:=top 18
theorem b8{X:Cx}{K:Aa}{e:Expr}{fl:Str}{pos:Pos}{ta:TE}(h:X.K=K)(he:QE X e ta)(hb:HL e fl X.env (eval e X.env)=eval e X.env:=by rfl):QE X (.Attribute e fl pos) (tFld K ta fl):=by subst h;exact a6n he hb
theorem dg{X:Cx}{K:Aa}{o value:Expr}{fl:Str}{pos pos':Pos}{ta tv:TE}(h:X.K=K)(ha:QE X o ta)(hv:QE X value tv)(hs:HN value (some (.Attribute o fl pos')) pos.line X.env=pure false:=by rfl):QS X (.Assign [.Attribute o fl pos'] value pos) (sFld K ta tv fl):=by subst h;exact a69 ha hv hs
def nb(K:Aa):Sp:=fun vs H Q _=>∃(fl:GV) (F:List (List Str)),vs=[.ref fl]/\RowsAt K H fl F/\F.length<=100/\(∀r∈F,c5 r)/\∀hd hm H',Same H H'->H hd=none->H' hd=some (.dK (dS hm))->hm.length<=2*F.length->HeadsOk hm (al F)->Q (.ref hd) H'
def tDef(K:Aa)(i j:Nat):TS:=fun D σ H=>∃(hd b:GV) (r:List Str) (u:Str) (hm:List (Str×Str)) (h:Str->Str),σ[1]?=some (some (.ref hd))/\σ[2]?=some (some (.ref b))/\RowAt K H b r/\r[j]?=some u/\H hd=some (.dK (dS hm))/\hm.length<=1000/\HeadsOk hm h/\
 ∀hm' H',Kp (· = hd) H H'->H' hd=some (.dK (dS hm'))->hm'.length<=hm.length+1->HeadsOk hm' h->(lkS hm' u).isSome=true->(∀x,(lkS hm x).isSome=true->(lkS hm' x).isSome=true)->D.nx (σ.set i (some (.str (h u)))) H'
theorem rj{K:Aa}(i j:Nat)(D:Ends)(σ:St)(H:Hp)(hh:tDef K i j D σ H):
 tAsg (vm (tVar 1) (tOp (rIxT K) (tVar 2) (tC (.int (j:Int)))) (tOp (rIxT K) (tVar 2) (tC (.int (j:Int))))) (c8 i) D σ H:=by
 obtain⟨hd,b,r,u,hm,h,h1,h2,hR,hu,hD,hl,hok,go⟩:=hh;have hat:atI (r.map V.str) (j:Int)=some (.str u):=ef (by rw[Al,hu];rfl);refine⟨_,h1,hd,rfl,.inl ⟨_,.inl hD⟩,_,h2,b,_,_,.str u,rfl,rfl,hR,hat,_,h2,b,_,_,.str u,rfl,rfl,hR,hat,dS hm,Sum.inr u,hD,rfl,?_,fun v hv=>?_,fun hn=>?_⟩
 . unfold dS;rw[Ac];exact AL hl (by decide)
 . rw[ib] at hv;cases hz:lkS hm u with
   | none=>rw[hz] at hv;cases hv
   | some z =>
    rw[hz] at hv;have e:v=.str z:=(Ap hv).symm;have e2:h u=z:=by rw[<- hok.hd];unfold hdS;rw[hz];rfl
    have:=go hm H (fun _ _ z _=>z) hD (by omega) hok (by rw[hz];rfl) (fun _ z=>z);rw[e2] at this;rw[e];exact this
 . rw[ib] at hn;have hz:lkS hm u=none:=by
    cases hz:lkS hm u with
    | none=>rfl
    | some z=>rw[hz] at hn;cases hn
   obtain⟨h1,h2⟩:=hok.dflt hz;rw[uu];have:=go (putS hm u u) _ (fun b o q n=>by rw[ag n];exact q) aa (a2k _ _ _) h1 (by rw[km];exact .inl rfl) (fun x hx=>by rw[km];exact .inr hx);rw[h2] at this;exact this
section
variable{P:Gx}{w:G9}{K:Aa}{mg:Str->Option GQ}{base:HB}{f:GV}{fd:HA}
theorem scHeadsOf:FnScope ["facts","heads","fact","kept","gone","name"] ["facts"] (ap jy):=⟨rfl,rfl,rfl,by decide,rfl,by decide,by decide⟩
theorem ww(C:Con K mg w)(F:Fun K "heads_of" "heads_of" jy f fd):FnOk P w K mg base CX0 1 f fd ["facts"] (nb K):=by
 refine F.okQ scHeadsOf (fun vs H Q E h=>?_) (fun cdv A outer s0 H vs Q E hr h=>?_)
 . obtain⟨fl,F,rfl,_⟩:=h;rfl
 obtain⟨fl,Fs,rfl,hF,hl,hrow,q⟩:=h;have nd:=scHeadsOf.nd;have hu1:=cz hr;refine⟨_,ac (ak (i:=1) nd rfl (Or.inl rfl) js)
  (ac (cc AA rfl (cn (qv 0)) (bw (i:=2) nd rfl (Or.inl rfl)) (af (bi (az c3 (ah aj (qv 2) ab (fun _ _=>rfl)) bv (b0 _)) (ac (gf (t':=tDef K 3 1) (ak (i:=3) nd rfl (Or.inl rfl) (uc (qv 1) (ah aj (qv 2) ab (fun _ _=>rfl)) (ah aj (qv 2) ab (fun _ _=>rfl)))) (rj 3 1))
  (ac (gf (t':=tDef K 4 2) (ak (i:=4) nd rfl (Or.inl rfl) (uc (qv 1) (ah aj (qv 2) ab (fun _ _=>rfl)) (ah aj (qv 2) ab (fun _ _=>rfl)))) (rj 4 2))
  (af (cc AA rfl (cn (dj (m7 rfl) rfl C.list B1 (ae (qv 1) a0))) (bw (i:=5) nd rfl (Or.inl rfl)) (af (bi (az c3 (jn hu1 (qv 1) (qv 5) (fun _ _=>rfl)) (qv 4) (b0 _)) (af (i7 hu1 (qv 1) (qv 5) (qv 3))) be)))))) be)))
  (af (aw (qv 1)))),?_⟩
 intro hd hhd;have s1:=ad hhd (.dK (dS []));obtain⟨fas,hfl,hfp⟩:=hF;have hfal:=A8 hfp;refine⟨_,rfl,fl,rfl,⟨_,SqL.of (s1 _ _ hfl)⟩,?_⟩;refine dm (xs:=fas.map V.ref) (fun i σ H'=>Same H H'/\∃(hm:List (Str×Str)) (z2 z3 z4 z5:Option V),H' hd=some (.dK (dS hm))/\hm.length<=2*i/\HeadsOk hm (al (Fs.take i))/\σ=[rQ fl,rQ hd,z2,z3,z4,z5])
  ⟨s1,[],none,none,none,none,aa,A5 _,HeadsOk.start,rfl⟩ (fun i σ H' _ p=>SqL.of (p.1 _ _ hfl)) ?_ ?_
 . rintro i x σ H' hi ⟨e,hm,z2,z3,z4,z5,hD,hml,hok,rfl⟩;obtain⟨b,hb,rfl⟩:=ii hi;obtain⟨r,hr1,hr2⟩:=Paired.nth hfp hb;have hil:i<Fs.length:=(Am.mp hr1).1;obtain⟨k,u,v,rfl,hk⟩:=hrow r (Au hr1);have hR:=hr2.same e;have htk:Fs.take (i+1)=Fs.take i++[[k,u,v]]:=by rw[AR,hr1];rfl
   refine⟨_,rfl,b,_,0,.str k,rfl,rfl,hR,rfl,rfl,_,rfl,iteB (fun c=>?_) (fun c=>?_)⟩
   . have hk':k="is" := by simpa using c
     subst hk';have kr:∀{H2:Hp},Kp (· = hd) H' H2->∀{b':GV} {r:List Str},RowAt K H' b' r->RowAt K H2 b' r:=fun {H2} kp {b' r} hb'=>by
      rcases hb' with (z|⟨o,z⟩)|z
      . exact .inl (.inl (kp _ _ z fun y=>by have y':b'=hd:=y;rw[y',hD] at z;cases z))
      . exact .inl (.inr ⟨o,kp _ _ z fun y=>by have y':b'=hd:=y;rw[y',hD] at z;cases z⟩)
      . exact .inr z
     refine⟨hd,b,_,u,hm,_,rfl,rfl,hR,rfl,hD,by omega,hok,fun hm1 H1 k1 hD1 hl1 ok1 hu1' hsub1=>?_⟩;refine⟨hd,b,_,v,hm1,_,rfl,rfl,kr k1 hR,rfl,hD1,by omega,ok1,fun hm2 H2 k2 hD2 hl2 ok2 hv2 hsub2=>?_⟩;have k02:Kp (· = hd) H' H2:=fun b o q n=>k2 b o (k1 b o q n) n;have hR2:=kr k02 hR;refine⟨_,rfl,hd,_,rfl,hD2,fun lk hlk=>?_⟩;have ek:((dS hm2).map fun kv=>kV kv.1)=(hm2.map (·.1)).map V.str:=by unfold dS;rw[BO,BO];rfl
     rw[ek];have s3:=ad hlk (.lst ((hm2.map (·.1)).map V.str));have hlkd:lk≠hd:=A9 (ax hD2 hlk);have hl2':hm2.length<=2*(i+1):=by omega
     have lk0:H lk=none:=by
      cases q:H lk with
      | none=>rfl
      | some o =>
       have:=k02 lk o (e _ _ q) (fun z=>hlkd z);rw[hlk] at this;cases this
     have val:∀{y:Str},(lkS hm2 y).isSome=true->lkS hm2 y=some (al (Fs.take i) y):=fun {y} hy=>by
      obtain⟨z,hz⟩:=Bv.mp hy;rw[hz,<- ok2.hd];unfold hdS;rw[hz];rfl
     generalize hg:al (Fs.take i) v=gone at*;generalize hkp:al (Fs.take i) u=kept at*;refine⟨lk,rfl,⟨_,SqL.of aa⟩,?_⟩;have hkeep:∀{Hx:Hp},Kp (· = hd) (upd H2 lk (.lst ((hm2.map (·.1)).map V.str))) Hx->Same H Hx:=fun {Hx} kp b' o' q=>kp b' o' (s3 _ _ (k02 _ _ (e _ _ q) fun z=>by have z':b'=hd:=z;rw[z',hhd] at q;cases q)) fun z=>by have z':b'=hd:=z;rw[z',hhd] at q;cases q
     refine dm (xs:=(hm2.map (·.1)).map V.str) (fun j σ H3=>Kp (· = hd) (upd H2 lk (.lst ((hm2.map (·.1)).map V.str))) H3/\∃(hm3:List (Str×Str)) (z5:Option V),H3 hd=some (.dK (dS hm3))/\hm3.length<=hm2.length/\(∀x,lkS hm3 x=if x∈(hm2.map (·.1)).take j then (lkS hm2 x).map (mv gone kept) else lkS hm2 x)/\σ=[rQ fl,rQ hd,rQ b,some (.str kept),some (.str gone),z5])
      ⟨fun _ _ q _=>q,hm2,z5,by rw[ag (A9 hlkd)];exact hD2,Ah _,fun x=>by simp,rfl⟩ (fun j σ H3 _ p=>SqL.of (p.1 _ _ aa fun z=>hlkd z)) ?_ ?_
     . rintro j x σ H3 hj ⟨k3,hm3,z5',hD3,hl3,hlk3,rfl⟩;obtain⟨nm,hnm,rfl⟩:∃nm,(hm2.map (·.1))[j]?=some nm/\x=.str nm:=by
        rw[Al] at hj;cases hz:(hm2.map (·.1))[j]? with
        | none=>rw[hz] at hj;cases hj
        | some nm=>rw[hz] at hj;exact⟨nm,rfl,(Ap hj).symm⟩
       have hin:(lkS hm2 nm).isSome=true:=lkS_mem.mpr (Au hnm);obtain⟨z0,hz0⟩:=Bv.mp hin;obtain⟨wv,hwv,hwm⟩:∃wv,lkS hm3 nm=some wv/\mv gone kept wv=mv gone kept z0:=by
        have:=hlk3 nm;rw[hz0] at this;by_cases hm:nm∈(hm2.map (·.1)).take j
        . rw[if_pos hm] at this;exact⟨_,this,a6y _ _ _⟩
        . rw[if_neg hm] at this;exact⟨_,this,rfl⟩
       have htk2:∀x,x∈(hm2.map (·.1)).take (j+1)↔x∈(hm2.map (·.1)).take j\/x=nm:=fun x=>by
        rw[AR,hnm,Ad];simp
       have gv:DGet H3 hd (.str nm) (some (.str wv)):=by
        have g:=DGet.k (k:=Sum.inr nm) hD3;rw[ib,hwv] at g;exact g
       refine⟨_,rfl,_,rfl,hd,.str wv,rfl,gv,_,rfl,rfl,_,rfl,iteB (fun c=>?_) (fun c=>?_)⟩
       . have hc:wv=gone:=by simpa using c
         refine⟨_,rfl,_,rfl,_,rfl,hd,_,rfl,DPut.k (k:=Sum.inr nm) hD3 ?_,?_⟩
         . unfold dS;rw[Ac];exact AL (show hm3.length<=1000 by omega) (by decide)
         rw[uu];have hpl:(putS hm3 nm kept).length<=hm3.length:=by
          unfold putS;rw[if_pos,Ac]
          . exact Ah _
          . have:=lkS_mem.mp (show (lkS hm3 nm).isSome=true by rw[hwv];rfl);obtain⟨p,hp,e⟩:=A3.mp this;exact Ba.mpr ⟨p,hp,by simpa using e⟩
         refine⟨fun b' o' q n=>by rw[ag n];exact k3 b' o' q n,putS hm3 nm kept,_,aa,by omega,fun x=>?_,rfl⟩;rw[jh];by_cases hx:x=nm
         . rw[if_pos hx,if_pos ((htk2 x).mpr (.inr hx)),hx,hz0];show some kept=some (mv gone kept z0);rw[<- hwm,hc];unfold mv;rw[if_pos rfl]
         . rw[if_neg hx,hlk3 x];by_cases hm:x∈(hm2.map (·.1)).take j
           . rw[if_pos hm,if_pos ((htk2 x).mpr (.inl hm))]
           . rw[if_neg hm,if_neg fun z=>((htk2 x).mp z).elim hm hx]
       . have hc:¬ wv=gone:=by simpa using c
         refine⟨k3,hm3,_,hD3,hl3,fun x=>?_,rfl⟩;by_cases hx:x=nm
         . rw[if_pos ((htk2 x).mpr (.inr hx)),hx,hwv,hz0];show some wv=some (mv gone kept z0);rw[<- hwm];unfold mv;rw[if_neg hc]
         . rw[hlk3 x];by_cases hm:x∈(hm2.map (·.1)).take j
           . rw[if_pos hm,if_pos ((htk2 x).mpr (.inl hm))]
           . rw[if_neg hm,if_neg fun z=>((htk2 x).mp z).elim hm hx]
     rintro σ H3 ⟨k3,hm3,z5',hD3,hl3,hlk3,rfl⟩;rw[Ac,Bb] at hlk3;have hall:∀x,lkS hm3 x=(lkS hm2 x).map (mv gone kept):=fun x=>by
      rw[hlk3 x];by_cases hm:x∈hm2.map (·.1)
      . rw[if_pos hm]
      . rw[if_neg hm];cases hz:lkS hm2 x with
        | none=>rfl
        | some z=>exact absurd (lkS_mem.mp (show (lkS hm2 x).isSome=true by rw[hz];rfl)) hm
     refine⟨hkeep k3,hm3,_,_,_,_,hD3,by omega,?_,rfl⟩;rw[htk,io];exact ok2.step (hsub2 u hu1') hv2 (by rw[hg,hkp];exact hall)
   . have hne:¬ k="is" := by simpa using c
     refine⟨e,hm,_,_,_,_,hD,by omega,?_,rfl⟩;rw[htk,io];unfold iu;rw[if_neg (show ¬ ([k,u,v].getD 0 "")="is" from hne)];exact hok
 rintro σ H' ⟨e,hm,z2,z3,z4,z5,hD,hml,hok,rfl⟩;rw[Ac,hfal] at hml hok;rw[Bb] at hok;exact⟨_,rfl,q hd hm H' e hhd hD hml hok⟩
end
abbrev vk:HF:=bm (top 20) 0
abbrev wm:HF:=bm (top 20) 1
abbrev rh:HF:=bm (top 20) 2
abbrev ma:HF:=bm (top 20) 3
abbrev ri:HF:=bm (top 20) 4
abbrev kg:HF:=bm (top 20) 5
abbrev j5:HF:=bm (top 20) 6
abbrev pz:HF:=bm (top 20) 7
abbrev qb:HF:=bm (top 20) 8
abbrev q0:HF:=bm (top 20) 9
def nk:List Str:=["__init__","head","alike","unlike","tell_unlike","is_empty","must_be_full","find_fulls","tell_full","clashing","shares_place","open_ends","number_at"]
structure Txt(K:Aa)(mg:Str->Option GQ)(C fI:GV):Prop where
 cl:Cls K C
 nP:NoAttr K C "parts"
 nH:NoAttr K C "heads"
 nU:NoAttr K C "unlikes"
 nF:NoAttr K C "fulls"
 nE:NoAttr K C "not_empty"
 mgC:mg "Knowledge"=some (.ref C)
 mkC:Mk K C fI
structure MCal(K:Aa)(C:GV)(m:Str)(f:GV)(fd:HA)(ps:List Str):Prop where
 meth:Meth K C m f
 bind:Binds K fd ps []
structure KFs(fs:List (Str×V))(pl hd un fu:GV):Prop where
 parts:fs.lookup ("parts":Str)=some (.ref pl)
 heads:fs.lookup ("heads":Str)=some (.ref hd)
 unlikes:fs.lookup ("unlikes":Str)=some (.ref un)
 fulls:fs.lookup ("fulls":Str)=some (.ref fu)
 len:fs.length<100
 meth:∀m∈nk,fs.lookup m=none
structure KnAt(C:GV)(H:Hp)(p pl hd un fu:GV)(hm:List (Str×Str))(uk:List (List Key×V)):Prop where
 ob:∃dx fs,H p=some (.ins C dx fs)/\KFs fs pl hd un fu
 hds:H hd=some (.dK (dS hm))
 uns:H un=some (.dT uk)
theorem KnAt.same{C:GV}{H H':Hp}{p pl hd un fu:GV}{hm:List (Str×Str)}{uk:List (List Key×V)}(h:KnAt C H p pl hd un fu hm uk)(e:Same H H'):KnAt C H' p pl hd un fu hm uk:=by
 obtain⟨⟨dx,fs,h1,h2⟩,h3,h4⟩:=h;exact⟨⟨dx,fs,e _ _ h1,h2⟩,e _ _ h3,e _ _ h4⟩
def put2(uk:List (List Key×V))(a b:Str):List (List Key×V):=putK (putK uk [Sum.inr a,Sum.inr b] (.bl true)) [Sum.inr b,Sum.inr a] (.bl true)
theorem KnAt.tell{C:GV}{H H':Hp}{p pl hd un fu:GV}{hm:List (Str×Str)}{uk uk':List (List Key×V)}(h:KnAt C H p pl hd un fu hm uk)(e:Kp (· = un) H H')(hu:H' un=some (.dT uk')):KnAt C H' p pl hd un fu hm uk':=by
 obtain⟨⟨dx,fs,h1,h2⟩,h3,h4⟩:=h;have n1:p≠un:=db h1 h4 (fun z=>nomatch z);have n2:hd≠un:=db h3 h4 (fun z=>nomatch z);exact⟨⟨dx,fs,e _ _ h1 n1,h2⟩,e _ _ h3 n2,hu⟩
def ln(C:GV):Sp:=fun vs H Q _=>∃(p pl hd un fu:GV) (hm:List (Str×Str)) (uk:List (List Key×V)) (x:Str),vs=[.ref p,.str x]/\KnAt C H p pl hd un fu hm uk/\Q (.str (hdS hm x)) H
def ei(C:GV):Sp:=fun vs H Q _=>∃(p pl hd un fu:GV) (hm:List (Str×Str)) (uk:List (List Key×V)) (x y:Str),vs=[.ref p,.str x,.str y]/\KnAt C H p pl hd un fu hm uk/\Q (.bl (decide (hdS hm x=hdS hm y))) H
def ka(C:GV):Sp:=fun vs H Q _=>∃(p pl hd un fu:GV) (hm:List (Str×Str)) (uk:List (List Key×V)) (x y:Str),vs=[.ref p,.str x,.str y]/\KnAt C H p pl hd un fu hm uk/\∀H',Same H H'->Q (.bl (valV uk [Sum.inr (hdS hm x),Sum.inr (hdS hm y)]).isSome) H'
def lz(C:GV):Sp:=fun vs H Q _=>∃(p pl hd un fu:GV) (hm:List (Str×Str)) (uk:List (List Key×V)) (x y:Str),vs=[.ref p,.str x,.str y]/\KnAt C H p pl hd un fu hm uk/\uk.length<=900/\∀H',Kp (· = un) H H'->H' un=some (.dT (put2 uk (hdS hm x) (hdS hm y)))->Q .non H'
def og(p:List Key×V):Prop:=∃a b:Str,p.1=[Sum.inr a,Sum.inr b]
def gm(p:List Key×V):Bool:=decide (p.1.getD 0 (Sum.inl 0)=p.1.getD 1 (Sum.inl 1))
def mi(C:GV):Sp:=fun vs H Q _=>∃(p pl hd un fu:GV) (hm:List (Str×Str)) (uk:List (List Key×V)),vs=[.ref p]/\KnAt C H p pl hd un fu hm uk/\(∀q∈uk,og q)/\uk.length<=900/\∀H',Same H H'->Q (.bl (uk.any gm)) H'
section
variable{P:Gx}{w:G9}{K:Aa}{mg:Str->Option GQ}{base:HB}{f C fI gH:GV}{fd dH:HA}
theorem a6j:FnScope ["self","word"] ["self","word"] (ap wm):=⟨rfl,rfl,rfl,by decide,rfl,by decide,by decide⟩
theorem a3y(T:Txt K mg C fI)(F:Fun K "head" "Knowledge.head" wm f fd):FnOk P w K mg base CX0 1 f fd ["self","word"] (ln C):=by
 refine F.okQ a6j (fun vs H Q E h=>?_) (fun cdv A outer s0 H vs Q E hr h=>?_)
 . obtain⟨p,pl,hd,un,fu,hm,uk,x,rfl,_⟩:=h;rfl
 obtain⟨p,pl,hd,un,fu,hm,uk,x,rfl,hK,q⟩:=h;have hu1:=cz hr;obtain⟨⟨dx,fs,h1,h2⟩,h3,h4⟩:=hK;refine⟨_,(af (aw (a2g hu1 (b8 (K:=K) rfl (qv 0)) (qv 1) (qv 1)))),?_⟩;have g:=DGet.k (k:=Sum.inr x) h3;rw[ib] at g;refine⟨_,rfl,p,C,dx,fs,.ref hd,rfl,h1,T.cl,T.nH,h2.heads,hd,rfl,.inl ⟨_,.inl h3⟩,_,rfl,_,rfl,_,g,?_⟩;have e:(((lkS hm x).map V.str).getD (.str x))=.str (hdS hm x):=by
  unfold hdS;cases lkS hm x<;>rfl
 rw[e];exact q
theorem a3o:FnScope ["self","one","other"] ["self","one","other"] (ap rh):=⟨rfl,rfl,rfl,by decide,rfl,by decide,by decide⟩
theorem a1z(T:Txt K mg C fI)(F:Fun K "alike" "Knowledge.alike" rh f fd)(GH:FnOk P w K mg base CX0 1 gH dH ["self","word"] (ln C))(cH:MCal K C "head" gH dH ["self","word"]):FnOk P w K mg base CX0 2 f fd ["self","one","other"] (ei C):=by
 refine F.okQ a3o (fun vs H Q E h=>?_) (fun cdv A outer s0 H vs Q E hr h=>?_)
 . obtain⟨p,pl,hd,un,fu,hm,uk,x,y,rfl,_⟩:=h;rfl
 obtain⟨p,pl,hd,un,fu,hm,uk,x,y,rfl,hK,q⟩:=h;obtain⟨dx,fs,h1,h2⟩:=hK.ob;have nh:=h2.meth "head" (by decide);refine⟨_,(af (aw (ff c3 (b7 (qv 0) T.cl cH.meth GH hr cH.bind .nil ar (ae (qv 1) a0)) (b7 (qv 0) T.cl cH.meth GH hr cH.bind .nil ar (ae (qv 2) a0)) (b0 _)))),?_⟩;refine⟨_,rfl,p,dx,fs,rfl,h1,nh,_,rfl,p,pl,hd,un,fu,hm,uk,x,rfl,hK,_,rfl,p,dx,fs,rfl,h1,nh,_,rfl,p,pl,hd,un,fu,hm,uk,y,rfl,hK,rfl,?_⟩;have e:decide (V.str (hdS hm x)=V.str (hdS hm y))=decide (hdS hm x=hdS hm y):=by simp
 rw[e];exact q
theorem a1o:FnScope ["self","one","other"] ["self","one","other"] (ap ma):=⟨rfl,rfl,rfl,by decide,rfl,by decide,by decide⟩
theorem xw(T:Txt K mg C fI)(F:Fun K "unlike" "Knowledge.unlike" ma f fd)(GH:FnOk P w K mg base CX0 1 gH dH ["self","word"] (ln C))(cH:MCal K C "head" gH dH ["self","word"]):FnOk P w K mg base CX0 2 f fd ["self","one","other"] (ka C):=by
 refine F.okQ a1o (fun vs H Q E h=>?_) (fun cdv A outer s0 H vs Q E hr h=>?_)
 . obtain⟨p,pl,hd,un,fu,hm,uk,x,y,rfl,_⟩:=h;rfl
 obtain⟨p,pl,hd,un,fu,hm,uk,x,y,rfl,hK,q⟩:=h;have hu1:=cz hr;obtain⟨dx,fs,h1,h2⟩:=hK.ob;have nh:=h2.meth "head" (by decide);refine⟨_,(af (aw (yf hu1 (cw (bx (b7 (qv 0) T.cl cH.meth GH hr cH.bind .nil ar (ae (qv 1) a0)) (bx (b7 (qv 0) T.cl cH.meth GH hr cH.bind .nil ar (ae (qv 2) a0)) a0))) (b8 (K:=K) rfl (qv 0))))),?_⟩;refine⟨_,rfl,p,dx,fs,rfl,h1,nh,_,rfl,p,pl,hd,un,fu,hm,uk,x,rfl,hK,_,rfl,p,dx,fs,rfl,h1,nh,_,rfl,p,pl,hd,un,fu,hm,uk,y,rfl,hK,(show 2<=GX by decide),fun t ht=>?_⟩;have s1:=ad ht (.tup [.str (hdS hm x),.str (hdS hm y)]);refine⟨_,rfl,p,C,dx,fs,.ref un,rfl,s1 _ _ h1,T.cl,T.nU,h2.unlikes,un,_,rfl,DGet.t (k:=[Sum.inr (hdS hm x),Sum.inr (hdS hm y)]) (s1 _ _ hK.uns) aa,?_⟩;exact q _ s1
theorem a5b:FnScope ["self","one","other"] ["self","one","other"] (ap ri):=⟨rfl,rfl,rfl,by decide,rfl,by decide,by decide⟩
theorem a2l(T:Txt K mg C fI)(F:Fun K "tell_unlike" "Knowledge.tell_unlike" ri f fd)(GH:FnOk P w K mg base CX0 1 gH dH ["self","word"] (ln C))(cH:MCal K C "head" gH dH ["self","word"]):FnOk P w K mg base CX0 2 f fd ["self","one","other"] (lz C):=by
 refine F.okQ a5b (fun vs H Q E h=>?_) (fun cdv A outer s0 H vs Q E hr h=>?_)
 . obtain⟨p,pl,hd,un,fu,hm,uk,x,y,rfl,_⟩:=h;rfl
 obtain⟨p,pl,hd,un,fu,hm,uk,x,y,rfl,hK,hl,q⟩:=h;have hu1:=cz hr;obtain⟨dx,fs,h1,h2⟩:=hK.ob;have nh:=h2.meth "head" (by decide);refine⟨_,ac (i7 hu1 (b8 (K:=K) rfl (qv 0)) (cw (bx (b7 (qv 0) T.cl cH.meth GH hr cH.bind .nil ar (ae (qv 1) a0)) (bx (b7 (qv 0) T.cl cH.meth GH hr cH.bind .nil ar (ae (qv 2) a0)) a0))) jr)
  (af (i7 hu1 (b8 (K:=K) rfl (qv 0)) (cw (bx (b7 (qv 0) T.cl cH.meth GH hr cH.bind .nil ar (ae (qv 2) a0)) (bx (b7 (qv 0) T.cl cH.meth GH hr cH.bind .nil ar (ae (qv 1) a0)) a0))) jr)),?_⟩
 have hlen:∀{n:Nat},n<=1000->n<GX:=fun h=>AL h (by decide);have np:p≠un:=db h1 hK.uns (fun z=>nomatch z);refine⟨_,rfl,p,C,dx,fs,.ref un,rfl,h1,T.cl,T.nU,h2.unlikes,_,rfl,p,dx,fs,rfl,h1,nh,_,rfl,p,pl,hd,un,fu,hm,uk,x,rfl,hK,_,rfl,p,dx,fs,rfl,h1,nh,_,rfl,p,pl,hd,un,fu,hm,uk,y,rfl,hK,(show 2<=GX by decide),fun t ht=>?_⟩;have s1:=ad ht (.tup [.str (hdS hm x),.str (hdS hm y)]);have htu:t≠un:=A9 (ax hK.uns ht);refine⟨un,_,rfl,DPut.t (k:=[Sum.inr (hdS hm x),Sum.inr (hdS hm y)]) (s1 _ _ hK.uns) aa (hlen (by omega)),?_⟩;have k1:Kp (· = un) H (upd (upd H t (.tup [.str (hdS hm x),.str (hdS hm y)])) un (.dT (putK uk [Sum.inr (hdS hm x),Sum.inr (hdS hm y)] (.bl true)))):=fun b o hb n=>by rw[ag n];exact s1 _ _ hb
 have hK1:=hK.tell k1 aa;have hl1:(putK uk [Sum.inr (hdS hm x),Sum.inr (hdS hm y)] (V.bl true)).length<=uk.length+1:=df _ _ _;generalize upd (upd H t (.tup [.str (hdS hm x),.str (hdS hm y)])) un (.dT (putK uk [Sum.inr (hdS hm x),Sum.inr (hdS hm y)] (.bl true)))=H1 at k1 hK1 |-;obtain⟨dx',fs',h1',h2'⟩:=hK1.ob;have nh':=h2'.meth "head" (by decide);refine⟨_,rfl,p,C,dx',fs',.ref un,rfl,h1',T.cl,T.nU,h2'.unlikes,_,rfl,p,dx',fs',rfl,h1',nh',_,rfl,p,pl,hd,un,fu,hm,_,y,rfl,hK1,_,rfl,p,dx',fs',rfl,h1',nh',_,rfl,p,pl,hd,un,fu,hm,_,x,rfl,hK1,(show 2<=GX by decide),fun t2 ht2=>?_⟩;have s2:=ad ht2 (.tup [.str (hdS hm y),.str (hdS hm x)]);refine⟨un,_,rfl,DPut.t (k:=[Sum.inr (hdS hm y),Sum.inr (hdS hm x)]) (s2 _ _ hK1.uns) aa (hlen (by omega)),?_⟩;exact q _ (fun b o hb n=>by rw[ag n];exact s2 _ _ (k1 b o hb n)) aa
end
theorem ixTK{X:Cx}{K:Aa}(h:X.K=K):IxR X (rIxT K):=by subst h;exact aj
section
variable{P:Gx}{w:G9}{K:Aa}{mg:Str->Option GQ}{base:HB}{f C fI gH:GV}{fd dH:HA}
theorem a45:FnScope ["self"] ["self"] (ap q0):=⟨rfl,rfl,rfl,by decide,rfl,by decide,by decide⟩
theorem a09(Cn:Con K mg w)(T:Txt K mg C fI)(F:Fun K "clashing" "Knowledge.clashing" q0 f fd):FnOk P w K mg base CX0 1 f fd ["self"] (mi C):=by
 refine F.okQ a45 (fun vs H Q E h=>?_) (fun cdv A outer s0 H vs Q E hr h=>?_)
 . obtain⟨p,pl,hd,un,fu,hm,uk,rfl,_⟩:=h;rfl
 obtain⟨p,pl,hd,un,fu,hm,uk,rfl,hK,hpr,hl,q⟩:=h;obtain⟨dx,fs,h1,h2⟩:=hK.ob;refine⟨_,af (aw (bf (kx rfl) rfl Cn.any CY (g0 (a49 (a1y (a1u (b8 (K:=K) rfl (qv 0))) (fun _ _ _ _=>jq) (fun _ _ _ _=>ff c3 (ah (ixTK (K:=K) rfl) (qv 0) ab (fun _ _=>rfl)) (ah (ixTK (K:=K) rfl) (qv 0) ab (fun _ _=>rfl)) (b0 _)))) a0))),?_⟩;refine⟨_,rfl,p,C,dx,fs,.ref un,rfl,h1,T.cl,T.nU,h2.unlikes,un,uk,rfl,hK.uns,fun od bs nf hbs=>?_⟩;have hbl:=A8 hbs;refine iw (bs.map V.ref) uk gm a4m aa (by rw[Ac];omega) (by rw[Ac];omega) (fun i x r hx hr' H2 e2 Q' q'=>?_) fun D H1 hD e1 hd1=>?_
 . obtain⟨b,hb,rfl⟩:=ii hx;have hbt:=Paired.at2 hbs hr' hb;obtain⟨a',b',hab⟩:=hpr r (Au hr');have hne:b≠un:=db hbt hK.uns (fun z=>nomatch z);have hb2:SqT K H2 b [.str a',.str b']:=SqT.of (by
    have:=e2 b _ (by rw[ag hne];exact hbt);rw[this,hab];rfl)
   refine⟨_,rfl,b,_,0,.str a',rfl,rfl,hb2,rfl,_,rfl,b,_,1,.str b',rfl,rfl,hb2,rfl,rfl,?_⟩;have:=q' H2 (Same.refl _);have e:gm r=decide (V.str a'=V.str b'):=by
    unfold gm;rw[hab];show decide ((Sum.inr a':Key)=Sum.inr b')=_;simp
   rw[e] at this;exact this
 have hun:H1 un=some (.frz od (.dT uk)):=e1 _ _ aa;refine⟨un,od,.dT uk,hun,nf,D,uk.map gm,rfl,SqL.of ?_,?_⟩
 . rw[ag (fun z=>by rw[z] at hD;rw[aa] at hD;cases hD)];exact hd1
 . have eH:Same H (upd H1 un (.dT uk)):=fun b o hb=>by
    by_cases hbu:b=un
    . rw[hbu,aa];rw[hbu,hK.uns] at hb;exact hb
    . rw[ag hbu];exact e1 _ _ (by rw[ag hbu];exact hb)
   have:=q _ eH;rw[Fv];exact this
end
end K31
namespace Kn
open L2
def place(p:List Str):Str:=p.getD 1 ""
def end2(p:List Str):Str:=if p.getD 0 ""="stretch" then p.getD 2 "" else "nil"
def FullR(R:Str->Str->Prop)(p:List Str):Prop:=p.getD 0 ""="cell" \/ R (place p) (end2 p)
theorem FullR.mono{R S:Str->Str->Prop}(h:∀a b,R a b->S a b){p:List Str}(f:FullR R p):FullR S p:=f.imp id (h _ _)
structure Clo(F P:List (List Str))(R:Str->Str->Prop):Prop where
 fact:∀u v,[("not":Str),u,v]∈F->R u v
 symm:∀a b,R a b->R b a
 conn:∀a b c,Conn F a b->R b c->R a c
 nil:∀p∈P,FullR R p->R (place p) "nil"
 two:∀(i j:Nat) p q,P[i]?=some p->P[j]?=some q->i≠j->FullR R p->FullR R q->R (place p) (place q)
def Un(F P:List (List Str))(a b:Str):Prop:=∀R,Clo F P R->R a b
theorem cr(F P:List (List Str)):Clo F P (Un F P) where
 fact:=fun u v h R c=>c.fact u v h
 symm:=fun a b h R c=>c.symm a b (h R c)
 conn:=fun a b d h1 h2 R c=>c.conn a b d h1 (h2 R c)
 nil:=fun p hp hf R c=>c.nil p hp (hf.mono fun a b h=>h R c)
 two:=fun i j p q h1 h2 hn f1 f2 R c=>c.two i j p q h1 h2 hn (f1.mono fun a b h=>h R c) (f2.mono fun a b h=>h R c)
theorem Un.conn2{F P:List (List Str)}{a b c d:Str}(h:Un F P b d)(h1:Conn F a b)(h2:Conn F c d):Un F P a c :=
 (cr F P).conn _ _ _ h1 ((cr F P).symm _ _ ((cr F P).conn _ _ _ h2 ((cr F P).symm _ _ h)))
def Told(h:Str->Str)(L:List (Str×Str))(a b:Str):Prop:=∃q∈L,(h a=h q.1/\h b=h q.2)\/(h a=h q.2/\h b=h q.1)
theorem ua{F P:List (List Str)}(hF:∀r∈F,c5 r){L:List (Str×Str)}(hL:∀q∈L,Un F P q.1 q.2){a b:Str}(t:Told (al F) L a b):Un F P a b:=by
 obtain⟨q,hq,h⟩:=t;rcases h with⟨h1,h2⟩|⟨h1,h2⟩
 . exact (hL q hq).conn2 ((cj hF _ _).mp h1) ((cj hF _ _).mp h2)
 . exact ((cr F P).symm _ _ (hL q hq)).conn2 ((cj hF _ _).mp h1) ((cj hF _ _).mp h2)
structure AllTold(F P:List (List Str))(L:List (Str×Str))(Fl:List Nat):Prop where
 fact:∀u v,[("not":Str),u,v]∈F->(u,v)∈L
 full:∀(i:Nat) p,P[i]?=some p->FullR (Told (al F) L) p->i∈Fl
 nil:∀i∈Fl,∀p,P[i]?=some p->(place p,("nil":Str))∈L
 two:∀i∈Fl,∀j∈Fl,i≠j->∀p q,P[i]?=some p->P[j]?=some q->(place p,place q)∈L\/(place q,place p)∈L
theorem ud{F P:List (List Str)}(hF:∀r∈F,c5 r){L:List (Str×Str)}{Fl:List Nat}(A:AllTold F P L Fl){a b:Str}(u:Un F P a b):Told (al F) L a b:=by
 refine u _ ⟨fun u v h=>⟨_,A.fact u v h,.inl ⟨rfl,rfl⟩⟩,?_,?_,?_,?_⟩
 . rintro a b ⟨q,hq,h⟩;exact⟨q,hq,h.elim (fun z=>.inr ⟨z.2,z.1⟩) (fun z=>.inl ⟨z.2,z.1⟩)⟩
 . rintro a b c hc ⟨q,hq,h⟩;have e:=(cj hF a b).mpr hc;exact⟨q,hq,by rw[e];exact h⟩
 . intro p hp hf;obtain⟨i,hi⟩:=BX hp;exact⟨_,A.nil i (A.full i p hi hf) p hi,.inl ⟨rfl,rfl⟩⟩
 . intro i j p q h1 h2 hn f1 f2;rcases A.two i (A.full i p h1 f1) j (A.full j q h2 f2) hn p q h1 h2 with z|z
   . exact⟨_,z,.inl ⟨rfl,rfl⟩⟩
   . exact⟨_,z,.inr ⟨rfl,rfl⟩⟩
theorem yr{F P:List (List Str)}(hF:∀r∈F,c5 r){L:List (Str×Str)}{Fl:List Nat}(A:AllTold F P L Fl)(hL:∀q∈L,Un F P q.1 q.2){a b:Str}:Told (al F) L a b↔Un F P a b:=⟨ua hF hL,ud hF A⟩
structure Going(F P:List (List Str))(L:List (Str×Str))(Fl:List Nat):Prop where
 fact:∀u v,[("not":Str),u,v]∈F->(u,v)∈L
 sound:∀q∈L,Un F P q.1 q.2
 nd:Fl.Nodup
 isf:∀i∈Fl,∃p,P[i]?=some p/\FullR (Un F P) p
 nil:∀i∈Fl,∀p,P[i]?=some p->(place p,("nil":Str))∈L
 two:∀i∈Fl,∀j∈Fl,i≠j->∀p q,P[i]?=some p->P[j]?=some q->(place p,place q)∈L\/(place q,place p)∈L
def jp(P:List (List Str))(Fl:List Nat)(p:List Str):List (Str×Str):=(place p,("nil":Str))::Fl.map fun j=>(place p,place (P.getD j []))
theorem Going.step{F P:List (List Str)}{L:List (Str×Str)}{Fl:List Nat}(G:Going F P L Fl){i:Nat}{p:List Str}(hi:P[i]?=some p)(hf:FullR (Un F P) p)(hn:¬ i∈Fl):Going F P (L++jp P Fl p) (Fl++[i]):=by
 have pn:(place p,("nil":Str))∈L++jp P Fl p:=Ad.mpr (.inr (AK ..));have pj:∀j∈Fl,∀q,P[j]?=some q->(place p,place q)∈L++jp P Fl p:=fun j hj q hq=>by
  refine Ad.mpr (.inr (Ay _ (A3.mpr ⟨j,hj,?_⟩)));rw[Bs,hq];rfl
 refine⟨fun u v h=>Ad.mpr (.inl (G.fact u v h)),?_,?_,?_,?_,?_⟩
 . intro q hq;rcases Ad.mp hq with z|z
   . exact G.sound q z
   . rcases Ar.mp z with rfl|z
     . exact (cr F P).nil p (Au hi) hf
     . obtain⟨j,hj,rfl⟩:=A3.mp z;obtain⟨q,hq,hfq⟩:=G.isf j hj;have e:P.getD j []=q:=by rw[Bs,hq];rfl
       show Un F P (place p) (place (P.getD j []));rw[e];exact (cr F P).two i j p q hi hq (fun z=>hn (z ▸ hj)) hf hfq
 . refine F0.mpr ⟨G.nd,List.nodup_cons.mpr ⟨Ax,.nil⟩,fun a ha b hb e=>?_⟩;rw[Ai.mp hb] at e;exact hn (e ▸ ha)
 . intro j hj;rcases Ad.mp hj with z|z
   . exact G.isf j z
   . rw[Ai.mp z];exact⟨p,hi,hf⟩
 . intro j hj q hq;rcases Ad.mp hj with z|z
   . exact Ad.mpr (.inl (G.nil j z q hq))
   . rw[Ai.mp z,hi] at hq;cases hq;exact pn
 . intro j hj k hk hne q r hq hr;rcases Ad.mp hj with z|z
   . rcases Ad.mp hk with y|y
     . exact (G.two j z k y hne q r hq hr).imp (fun w=>Ad.mpr (.inl w)) (fun w=>Ad.mpr (.inl w))
     . rw[Ai.mp y,hi] at hr;cases hr;exact .inr (pj j z q hq)
   . rw[Ai.mp z,hi] at hq;cases hq;rcases Ad.mp hk with y|y
     . exact .inl (pj k y r hr)
     . exact absurd ((Ai.mp z).trans (Ai.mp y).symm) hne
theorem Going.done{F P:List (List Str)}{L:List (Str×Str)}{Fl:List Nat}(G:Going F P L Fl)(h:∀(i:Nat) p,P[i]?=some p->FullR (Told (al F) L) p->i∈Fl):AllTold F P L Fl:=⟨G.fact,h,G.nil,G.two⟩
theorem ui:∀{l m:List Nat},l.Nodup->(∀x∈l,x∈m)->l.length<=m.length
 | [],_,_,_=>A5 _
 | x::l,m,hn,hm=>by
  have hx:=hm x (AK ..);obtain⟨h1,h2⟩:=Cg.mp hn;have:=ui (l:=l) (m:=m.erase x) h2 fun y hy=>(EX (a:=y) (b:=x) (fun e=>h1 (by rw[<- e];exact hy))).mpr (hm y (Ay _ hy));rw[Eg hx] at this;have hp:0<m.length:=E6 hx;rw[AM];omega
theorem Going.len{F P:List (List Str)}{L:List (Str×Str)}{Fl:List Nat}(G:Going F P L Fl):Fl.length<=P.length:=by
 have:=ui (m:=AV P.length) G.nd fun i hi=>by
  obtain⟨p,hp,_⟩:=G.isf i hi;exact Bc.mpr (Am.mp hp).1
 rw[By] at this;exact this
end Kn
namespace L2
open PyProof.Rows
def Itk(a:GV)(od:Obj)(kvs:List (Key×V)):It where
 go:=fun i H=>H a=some (.frz od (.dK kvs))/\i<kvs.length
 yld:=fun i H x H'=>H'=H/\(kvs.map fun kv=>kV kv.1)[i]?=some x
 stop:=fun i H=>H a=some (.frz od (.dK kvs))/\kvs.length<=i
def a2t(od:Obj)(kvs:List (Key×V))(es:Array DictEntry)(ep:Nat):Prop:=od.ExactDict/\od.data=.dict es ep/\HD (fun (p:Key×V) (e:DictEntry)=>RelV (kV p.1) e.key) kvs es.toList
theorem zt{P:Gx}{w:G9}{od:Obj}{es:Array DictEntry}{ep:Nat}:∀{kvs:List (Key×V)}{vs:List (Key×GQ)}{l:List DictEntry},KV kvs vs->PySem.Pairs (c4 P w) l vs->HD (fun (p:Key×V) (e:DictEntry)=>RelV (kV p.1) e.key) kvs l
 | _,_,_,.nil,.nil=>.nil
 | _,_,_,.cons h t,.cons h1 h2 t2=>.cons (by rw[h.1];exact u5 h1) (zt (od:=od) (es:=es) (ep:=ep) t t2)
theorem Paired.nthK{α β:Type}{F:α->β->Prop}:∀{l₁:List α}{l₂:List β}{i:Nat}{a:α}{b:β},HD F l₁ l₂->l₁[i]?=some a->l₂[i]?=some b->F a b
 | _,_,0,_,_,.cons h t,h1,h2=>by cases h1;cases h2;exact h
 | _,_,i+1,_,_,.cons h t,h1,h2=>Paired.nthK (i:=i) t (by simpa using h1) (by simpa using h2)
theorem a3u{P:Gx}{w:G9}{K:Aa}{tg:Expr}{a J:GV}{od:Obj}{kvs:List (Key×V)}{es:Array DictEntry}{ep:Nat}(hd:a2t od kvs es ep):
 Turn P w K tg (Itk a od kvs) [J] J (fun i h=>h.IsKeyIter J a i es.size ep) where
 mem:=by simp
 obj:=fun i h st b hb=>by
  have e:b=J:=by simpa using hb
  subst e;obtain⟨o,h1,h2,h3⟩:=st;exact⟨o,h1,fun v z=>by rw[h3] at z;cases z⟩
 keep:=fun i h h' st k=>by
  obtain⟨o,h1,h2⟩:=st;exact⟨o,k J (by simp) o h1,h2⟩
 item:=by
  intro X hP hw hK hc i pins s σ H E I hf st hg;subst hP hw hK;obtain⟨f0,f1,f2,f3,f4,f5⟩:=hf J (by simp);obtain⟨g1,g2⟩:=I.hok a _ hg.1;have hsz:es.size=kvs.length:=by
   have:=hd.2.2.length;rw[Az] at this;exact this.symm
  refine j2 st g1 hd.2.1 (I.ok.hd hc) (fun hn h' st' sb=>?_) (fun hn=>absurd hg.2 (by omega));have I1:Inv X pins σ H {s with heap:=h',toks:=s.toks}:=I.turned (fun b o hb e=>(sb.2 b hb).trans e) f0 f1 f3 f4 f5;have hk:RelV (kV (kvs[i]'hg.2).1) es[i].key:=Paired.nthK (F:=fun (p:Key×V) (e:DictEntry)=>RelV (kV p.1) e.key) hd.2.2 (i:=i) (a:=kvs[i]'hg.2) (b:=es[i]) (Ae hg.2) (by rw[Bk];exact DU hn);refine⟨_,rfl,letGo_keyiter st' ⟨kV (kvs[i]'hg.2).1,H,I1,hk,⟨rfl,by rw[Al,Ae hg.2];rfl⟩,st',fun b hb=>(hf b hb).1⟩⟩
 done:=by
  intro X hP hw hK hc i pins s σ H E I hf st hg;subst hP hw hK;obtain⟨f0,f1,f2,f3,f4,f5⟩:=hf J (by simp);obtain⟨g1,g2⟩:=I.hok a _ hg.1;have hsz:es.size=kvs.length:=by
   have:=hd.2.2.length;rw[Az] at this;exact this.symm
  exact j2 st g1 hd.2.1 (I.ok.hd hc) (fun hn=>absurd hg.2 (by omega)) (fun _ h' eb=>⟨rfl,I.turned (t':=s.toks) (fun b o hb e=>eb b o hb e) f0 f1 f3 f4 f5⟩)
 self:=fun _ _ _ _ _ st h=>EW st h
def zu(X:Cx)(tl:TE):TI:=fun σ H R=>tl σ H fun x H1=>∃a kvs,x=.ref a/\H1 a=some (.dK kvs)/\∀od,NF X a->R (Itk a od kvs) (upd H1 a (.frz od (.dK kvs)))
theorem a1d{X:Cx}{tg l:Expr}{tl:TE}(hl:PE X l tl):PI X tg l (zu X tl):=by
 intro pins s σ H R I h;refine thn (hl pins s σ H _ I h) fun v s1 ⟨x,H1,I1,r1,a,kvs,ex,e,q⟩=>?_;subst ex;cases r1;obtain⟨z,hd,vs,rel,od,es,ep,h1,hc,h2,h3,h4,h5⟩:=(show ObjOk X.prog X.w H1 s1.heap a (.dK kvs) from I1.hok a _ e)
 have I2:Inv X pins σ (upd H1 a (.frz od (.dK kvs))) s1:=I1.write (x:=a) (e:=a) (h':=s1.heap) (t':=s1.toks) (by rw[e];exact True.intro) (.inl rfl) (fun _ _ _ z=>z) ⟨od,h1⟩ ⟨h1,z,hd,vs,rel,od,es,ep,h1,hc,h2,h3,h4,h5⟩;have ent:a2t od kvs es ep:=⟨hc,h2,zt (od:=od) (es:=es) (ep:=ep) rel h4⟩
 refine qh hd h1 hc h2 ?_;refine⟨s1.heap.objs.size,[s1.heap.objs.size],_,_,upd H1 a (.frz od (.dK kvs)),rfl,I2.kept (t':=s1.toks) fun b o e=>Ag _ e,a3u ent,⟨_,An _ rfl,rfl,rfl⟩,fun b hb=>?_,q od (I1.nf e fun _ _ z=>nomatch z)⟩;have e:b=s1.heap.objs.size:=by simpa using hb
 subst e;exact I2.fpOk (Ah _) (I2.hok.fresh (Ah _))
theorem a0u{X:Cx}{tg l:Expr}{tl:TE}(hl:QE X l tl):QI X tg l (zu X tl):=⟨a1d hl.run⟩
def a5y(X:Cx)(t:TS):TS:=fun D σ H=>t {D with nx:=fun σ' H'=>∃a o u,H' a=some (.frz o u)/\NF X a/\D.nx σ' (upd H' a u)} σ H
theorem a5d{X:Cx}{st:HF}{t:TS}(h:QS X st t):QS X st (a5y X t):=⟨fun pins s σ H D I q=>thn (h.run pins s σ H _ I q) fun f s1 p=>by
 cases f with
 | next=>obtain⟨σ',H',I',a,o,u,e,nf,q'⟩:=p;exact⟨σ',_,I'.thaw e nf,q'⟩
 | brk=>exact p
 | cont=>exact p
 | ret u=>exact p⟩
theorem xt{a:GV}{od:Obj}{kvs:List (Key×V)}{g:TG}{tb:TS}{D:Ends}{σ:St}{H:Hp}(Pv:Nat->St->Hp->Prop)(h0:Pv 0 σ H)(hl:∀i σ H,i<=kvs.length->Pv i σ H->H a=some (.frz od (.dK kvs)))(hs:∀i x σ H,(kvs.map fun kv=>kV kv.1)[i]?=some x->Pv i σ H->g x σ H fun σ2 H2=>tb {D with nx:=Pv (i+1),ct:=Pv (i+1),bk:=D.nx} σ2 H2)(hd:∀σ H,Pv kvs.length σ H->D.nx σ H):
 ∃W:Nat->Nat->St->Hp->Prop,(∃m,W 0 m σ H)/\∀i m σ H,W i m σ H->
  ((Itk a od kvs).stop i H/\D.nx σ H)\/((Itk a od kvs).go i H/\∃N:St->Hp->Prop,(∀σ' H',N σ' H'->∃m',m'<m/\W (i+1) m' σ' H')/\∀x H',(Itk a od kvs).yld i H x H'->g x σ H' fun σ2 H2=>tb {D with nx:=N,ct:=N,bk:=D.nx} σ2 H2):=by
 refine⟨fun i m σ H=>m=kvs.length-i/\i<=kvs.length/\Pv i σ H,⟨kvs.length,by simp,A5 _,h0⟩,?_⟩;rintro i m σ H ⟨rfl,hi,p⟩;have q:=hl i σ H hi p;by_cases hlt:i<kvs.length
 . refine .inr ⟨⟨q,hlt⟩,Pv (i+1),fun σ' H' p'=>⟨kvs.length-(i+1),by omega,rfl,hlt,p'⟩,fun x H' y=>?_⟩;obtain⟨e,y⟩:=y;subst e;exact hs i x σ _ y p
 . have e:i=kvs.length:=by omega
   subst e;exact .inl ⟨⟨q,Ah _⟩,hd σ H p⟩
open PySem.SeqAt
open AutoSeq1 (wpAny_loadPart')
open MeetsSeq MeetsSeq2 MeetsSeq3
section
variable{prog:Gx}{w:G9}
end
section
variable{X:Cx}
end
section
variable{X:Cx}
def insV(xs:List V)(k:Nat)(y:V):List V:=xs.take k++y::xs.drop k
def a3x:V->List V->Hp->VK->Prop:=fun x vs H Q=>∃l xs i y,x=.ref l/\vs=[.int ((i:Nat):Int),y]/\H l=some (.lst xs)/\i<=xs.length/\xs.length<=1000/\Q .non (upd H l (.lst (insV xs i y)))
theorem xl:MtM X "list.insert" a3x:=by
 intro pins s σ H x vs v us Q I rx rv h;obtain⟨l,xs,i,y,rfl,rfl,hH,hi,hz,q⟩:=h;cases rx;obtain⟨u0,u,rfl,⟨t,rfl⟩,ru⟩:=a76 rv;obtain⟨z,its,n,r,hl,e⟩:=I.lstM hH;have hfit:¬ (!Builtin.List.listFitsIndex ((i:Nat):Int))=true:=by
  have:=fitsIndex_both (k:=((i:Nat):Int)) (by omega) (by omega);rw[this];simp
 have hsz:its.toArray.size<=GX:=by rw[As];omega
 generalize hj:((i:Nat):Int)=j at hfit |-;have M:=PySem.AutoSeq1.list_insert_list_int_val_1 l its.toArray n j t u hfit hsz;refine ES F.slot_list_insert ⟨_,e,rfl⟩ F.entry_list_insert (F.args_list_insert_3 (.ref l) (.int j t) u) M ⟨e,?_⟩;have hv:Vals (insV xs i y) (its.take i++u::its.drop i):=(r.take i).append (.cons ru (r.drop i));refine⟨.non,_,I.lset (its':=its.take i++u::its.drop i) hH e ?_ hv ?_,rfl,q⟩
 . have hk:(if j<0 then (j + ↑its.length).toNat else min j.toNat its.length)=i:=by rw[if_neg (by omega)];omega
   apply Array.toList_inj.mp;simp[hk];rw[Bf (by rw[Bd];exact Ah _)]
 . unfold insV;rw[Aj,A2,AM,Bd];exact AB (show _<=1002 by omega) (by decide)
def vg(_ j:Int):Prop:=0<j/\j<=10 ^ 60
theorem sj:OpR X (HR .FloorDiv) (rI vg fun i j=>.int (i / j)):=opI fun i j _ _ _ _ _ hc q=>by
 have h1:(0:Int)<j:=hc.1;have h2:j<=10 ^ 60:=hc.2;refine floordiv_int (by omega) (by rw[DG i (by omega)];exact q) (.inl (PyProof.noPylong_of_log2 ?_));have h3:j.natAbs<2 ^ 200:=by
  have:(10:Int) ^ 60<2 ^ 200:=by decide
  omega
 have h4:j.natAbs.log2<200:=(Nat.log2_lt (by omega)).mpr h3;omega
set_option relaxedAutoImplicit true
end
end L2
namespace K31
open L2 Mir Kn
abbrev jl:HF:=top 19
def PartRow(r:List Str):Prop:=(∃a f s,r=[("cell":Str),a,f,s])\/(∃a b,r=[("stretch":Str),a,b])\/∃a,r=[("tree":Str),a]
structure UkT(uk:List (List Key×V))(h:Str->Str)(L:List (Str×Str)):Prop where
 pr:∀q∈uk,og q
 len:uk.length<=2*L.length
 iff:∀a b,(valV uk [Sum.inr a,Sum.inr b]).isSome=true↔∃q∈L,(a=h q.1/\b=h q.2)\/(a=h q.2/\b=h q.1)
theorem UkT.told{uk:List (List Key×V)}{h:Str->Str}{L:List (Str×Str)}(U:UkT uk h L)(a b:Str):(valV uk [Sum.inr (h a),Sum.inr (h b)]).isSome=true↔Told h L a b:=U.iff (h a) (h b)
theorem xv{uk:List (List Key×V)}{a b:Str}{v:V}(h:∀q∈uk,og q):∀q∈putK uk [Sum.inr a,Sum.inr b] v,og q:=fun q hq=>by
 unfold putK at hq;split at hq
 . obtain⟨p,hp,rfl⟩:=A3.mp hq;split
   . exact⟨a,b,by assumption⟩
   . exact h p hp
 . rcases Ad.mp hq with z|z
   . exact h q z
   . rw[Ai.mp z];exact⟨a,b,rfl⟩
theorem UkT.step{uk:List (List Key×V)}{h:Str->Str}{L:List (Str×Str)}(U:UkT uk h L)(u v:Str):UkT (put2 uk (h u) (h v)) h (L++[(u,v)]):=by
 refine⟨xv (xv U.pr),?_,fun a b=>?_⟩
 . have h1:=df uk [Sum.inr (h u),Sum.inr (h v)] (V.bl true);have h2:=df (putK uk [Sum.inr (h u),Sum.inr (h v)] (V.bl true)) [Sum.inr (h v),Sum.inr (h u)] (V.bl true);have:=U.len;unfold put2;rw[Aj,AD];omega
 . unfold put2;rw[rl,rl];have e1:∀x y z w':Str,([Sum.inr x,Sum.inr y]:List Key)=[Sum.inr z,Sum.inr w']↔x=z/\y=w':=fun x y z w'=>by simp
   constructor
   . intro hs;by_cases c1:([Sum.inr a,Sum.inr b]:List Key)=[Sum.inr (h v),Sum.inr (h u)]
     . have:=(e1 _ _ _ _).mp c1;exact⟨(u,v),Ad.mpr (.inr (Ai.mpr rfl)),.inr this⟩
     . rw[if_neg c1] at hs;by_cases c2:([Sum.inr a,Sum.inr b]:List Key)=[Sum.inr (h u),Sum.inr (h v)]
       . have:=(e1 _ _ _ _).mp c2;exact⟨(u,v),Ad.mpr (.inr (Ai.mpr rfl)),.inl this⟩
       . rw[if_neg c2] at hs;obtain⟨q,h1,h2⟩:=(U.iff a b).mp hs;exact⟨q,Ad.mpr (.inl h1),h2⟩
   . rintro⟨q,h1,h2⟩;by_cases c1:([Sum.inr a,Sum.inr b]:List Key)=[Sum.inr (h v),Sum.inr (h u)]
     . rw[if_pos c1];rfl
     . rw[if_neg c1];by_cases c2:([Sum.inr a,Sum.inr b]:List Key)=[Sum.inr (h u),Sum.inr (h v)]
       . rw[if_pos c2];rfl
       . rw[if_neg c2];rcases Ad.mp h1 with z|z
         . exact (U.iff a b).mpr ⟨q,z,h2⟩
         . have z':=Ai.mp z;subst z';rcases h2 with h2|h2
           . exact absurd ((e1 _ _ _ _).mpr h2) c2
           . exact absurd ((e1 _ _ _ _).mpr h2) c1
def fk(Fl:List Nat):List (Key×V):=Fl.map fun (n:Nat)=>((Sum.inl ((n:Nat):Int):Key),V.bl true)
structure KnS(K:Aa)(C:GV)(H:Hp)(p pl hd un fu:GV)(F P:List (List Str))(L:List (Str×Str)):Prop where
 at_:∃hm uk,KnAt C H p pl hd un fu hm uk/\HeadsOk hm (al F)/\UkT uk (al F) L
 parts:RowsAt K H pl P
 ne:hd≠fu
theorem KnS.same{K:Aa}{C:GV}{H H':Hp}{p pl hd un fu:GV}{F P:List (List Str)}{L:List (Str×Str)}(h:KnS K C H p pl hd un fu F P L)(e:Same H H'):KnS K C H' p pl hd un fu F P L:=by
 obtain⟨⟨hm,uk,h1,h2⟩,h3,h4⟩:=h;exact⟨⟨hm,uk,h1.same e,h2⟩,h3.same e,h4⟩
def si(K:Aa):Sp:=fun vs H Q _=>∃(b:GV) (r:List Str),vs=[.ref b]/\RowAt K H b r/\PartRow r/\∀t H',Same H H'->SqT K H' t [.str (place r),.str (end2 r)]->Q (.ref t) H'
def j6(K:Aa)(C:GV)(R:List Str->(Str->Str)->List (Str×Str)->Prop):Sp:=fun vs H Q _=>∃(p pl hd un fu:GV) (F P:List (List Str)) (L:List (Str×Str)) (n:Nat) (r:List Str),vs=[.ref p,.int (n:Int)]/\KnS K C H p pl hd un fu F P L/\P[n]?=some r/\PartRow r/\
 ∀(b:Bool) H',Same H H'->(b=true↔R r (al F) L)->Q (.bl b) H'
def cx(r:List Str)(h:Str->Str)(_:List (Str×Str)):Prop:=r.getD 0 ""≠"cell" /\ h (place r)=h (end2 r)
def wb(r:List Str)(h:Str->Str)(L:List (Str×Str)):Prop:=FullR (Told h L) r
theorem fe{K:Aa}{H:Hp}{pl:GV}{P:List (List Str)}(h:RowsAt K H pl P){n:Nat}{r:List Str}(hn:P[n]?=some r):∃(as:List GV) (b:GV),H pl=some (.lst (as.map V.ref))/\atI (as.map V.ref) (n:Int)=some (.ref b)/\RowAt K H b r:=by
 obtain⟨as,h1,h2⟩:=h;have hl:=A8 h2;have hlt:n<as.length:=by rw[hl];exact (Am.mp hn).1
 exact⟨as,as[n],h1,ef (by rw[Al,Ae hlt];rfl),Paired.at2 h2 (Ae hlt) hn⟩
theorem PartRow.at0{r:List Str}(h:PartRow r):atI (r.map V.str) (0:Int)=some (.str (r.getD 0 "")):=by
 rcases h with⟨a,f,s,rfl⟩|⟨a,b,rfl⟩|⟨a,rfl⟩<;>rfl
theorem PartRow.at1{r:List Str}(h:PartRow r):atI (r.map V.str) (1:Int)=some (.str (place r)):=by
 rcases h with⟨a,f,s,rfl⟩|⟨a,b,rfl⟩|⟨a,rfl⟩<;>rfl
section
variable{P:Gx}{w:G9}{K:Aa}{mg:Str->Option GQ}{base:HB}{f C fI gE gA:GV}{fd dE dA:HA}
theorem yj:FnScope ["part"] ["part"] (ap jl):=⟨rfl,rfl,rfl,by decide,rfl,by decide,by decide⟩
theorem a50(F:Fun K "ends_of" "ends_of" jl f fd):FnOk P w K mg base CX0 1 f fd ["part"] (si K):=by
 refine F.okQ yj (fun vs H Q E h=>?_) (fun cdv A outer s0 H vs Q E hr h=>?_)
 . obtain⟨b,r,rfl,_⟩:=h;rfl
 obtain⟨b,r,rfl,hR,hp,q⟩:=h;refine⟨_,(af (aw (ir (az c3 (ah aj (qv 0) ab (fun _ _=>rfl)) bv (b0 _)) (cw (aq (ah aj (qv 0) ab (fun _ _=>rfl)) (aq (ah aj (qv 0) ab (fun _ _=>rfl)) a0))) (cw (aq (ah aj (qv 0) ab (fun _ _=>rfl)) (ay a0)))))),?_⟩;refine⟨_,rfl,b,_,0,_,rfl,rfl,hR,hp.at0,rfl,_,rfl,iteB (fun c=>?_) (fun c=>?_)⟩
 . have c':r.getD 0 ""="stretch" := by simpa using c
   obtain⟨x,y,rfl⟩:∃x y,r=[("stretch":Str),x,y]:=by
    rcases hp with⟨a,f,s,rfl⟩|z|⟨a,rfl⟩
    . exact absurd c' (by show ¬ ("cell":Str)="stretch";decide)
    . exact z
    . exact absurd c' (by show ¬ ("tree":Str)="stretch";decide)
   refine⟨_,rfl,b,_,1,.str x,rfl,rfl,hR,rfl,_,rfl,b,_,2,.str y,rfl,rfl,hR,rfl,(show 2<=GX by decide),fun t ht=>?_⟩;exact q t _ (ad ht _) (SqT.of aa)
 . have c':¬ r.getD 0 ""="stretch" := by simpa using c
   refine⟨_,rfl,b,_,1,_,rfl,rfl,hR,hp.at1,(show 2<=GX by decide),fun t ht=>?_⟩;have e:end2 r="nil" := by unfold end2;rw[if_neg c']
   refine q t _ (ad ht _) ?_;rw[e];exact SqT.of aa
theorem scEmpty:FnScope ["self","number","ends"] ["self","number"] (ap kg):=⟨rfl,rfl,rfl,by decide,rfl,by decide,by decide⟩
theorem a2f(T:Txt K mg C fI)(F:Fun K "is_empty" "Knowledge.is_empty" kg f fd)(GE:FnOk P w K mg base CX0 1 gE dE ["part"] (si K))(cE:Cal K mg "ends_of" gE dE ["part"])(GA:FnOk P w K mg base CX0 2 gA dA ["self","one","other"] (ei C))(cA:MCal K C "alike" gA dA ["self","one","other"]):FnOk P w K mg base CX0 3 f fd ["self","number"] (j6 K C cx):=by
 refine F.okQ scEmpty (fun vs H Q E h=>?_) (fun cdv A outer s0 H vs Q E hr h=>?_)
 . obtain⟨p,pl,hd,un,fu,F,P,L,n,r,rfl,_⟩:=h;rfl
 obtain⟨p,pl,hd,un,fu,Fs,Ps,L,n,r,rfl,hK,hn,hp,q⟩:=h;have nd:=scEmpty.nd;have hr1:=hr.mono (j:=1) (by omega);refine⟨_,ac (ak (i:=2) nd rfl (Or.inl rfl) (bd GE hr1 rfl cE.name cE.keep cE.bind .nil ar (aq (ah ba (b8 (K:=K) rfl (qv 0)) (qv 1) (fun _ _=>rfl)) a0)))
  (af (aw (j9 (ff gz (ah aj (ah ba (b8 (K:=K) rfl (qv 0)) (qv 1) (fun _ _=>rfl)) ab (fun _ _=>rfl)) bv (b0 _)) (i9 (b7 (qv 0) T.cl cA.meth GA hr cA.bind .nil ar (aq (ah aj (qv 2) ab (fun _ _=>rfl)) (aq (ah aj (qv 2) ab (fun _ _=>rfl)) a0))))))),?_⟩
 obtain⟨⟨hm,uk,hk,hok,hU⟩,hrows,hne⟩:=id hK;obtain⟨dx,fs,h1,h2⟩:=hk.ob;obtain⟨as,b,hpl,hat,hR⟩:=fe hrows hn;refine⟨_,rfl,p,C,dx,fs,.ref pl,rfl,h1,T.cl,T.nP,h2.parts,_,rfl,pl,_,_,.ref b,rfl,rfl,SqL.of hpl,hat,b,r,rfl,hR,hp,fun t H1 e1 hT=>?_⟩;have hk1:=hk.same e1;refine⟨_,rfl,p,C,dx,fs,.ref pl,rfl,e1 _ _ h1,T.cl,T.nP,h2.parts,_,rfl,pl,_,_,.ref b,rfl,rfl,SqL.of (e1 _ _ hpl),hat,b,_,0,_,rfl,rfl,hR.same e1,hp.at0,rfl,_,rfl,iteB (fun c=>?_) (fun c=>?_)⟩
 . have c':¬ r.getD 0 ""="cell" := by simpa using c
   refine⟨_,rfl,p,dx,fs,rfl,e1 _ _ h1,h2.meth "alike" (by decide),_,rfl,t,_,0,.str (place r),rfl,rfl,hT,rfl,_,rfl,t,_,1,.str (end2 r),rfl,rfl,hT,rfl,p,pl,hd,un,fu,hm,uk,_,_,rfl,hk1,?_⟩;refine q _ H1 e1 ?_;rw[hok.hd,hok.hd,decide_eq_true_eq];exact⟨fun z=>⟨c',z⟩,fun z=>z.2⟩
 . have c':r.getD 0 ""="cell" := by simpa using c
   exact q false H1 e1 ⟨fun z=>Bool.noConfusion z,fun z=>absurd c' z.1⟩
theorem scMust:FnScope ["self","number","ends"] ["self","number"] (ap j5):=⟨rfl,rfl,rfl,by decide,rfl,by decide,by decide⟩
theorem a4y(T:Txt K mg C fI)(F:Fun K "must_be_full" "Knowledge.must_be_full" j5 f fd)(GE:FnOk P w K mg base CX0 1 gE dE ["part"] (si K))(cE:Cal K mg "ends_of" gE dE ["part"])(GA:FnOk P w K mg base CX0 2 gA dA ["self","one","other"] (ka C))(cA:MCal K C "unlike" gA dA ["self","one","other"]):FnOk P w K mg base CX0 3 f fd ["self","number"] (j6 K C wb):=by
 refine F.okQ scMust (fun vs H Q E h=>?_) (fun cdv A outer s0 H vs Q E hr h=>?_)
 . obtain⟨p,pl,hd,un,fu,F,P,L,n,r,rfl,_⟩:=h;rfl
 obtain⟨p,pl,hd,un,fu,Fs,Ps,L,n,r,rfl,hK,hn,hp,q⟩:=h;have nd:=scMust.nd;have hr1:=hr.mono (j:=1) (by omega);refine⟨_,ac (ak (i:=2) nd rfl (Or.inl rfl) (bd GE hr1 rfl cE.name cE.keep cE.bind .nil ar (aq (ah ba (b8 (K:=K) rfl (qv 0)) (qv 1) (fun _ _=>rfl)) a0)))
  (af (aw (a2y (ff c3 (ah aj (ah ba (b8 (K:=K) rfl (qv 0)) (qv 1) (fun _ _=>rfl)) ab (fun _ _=>rfl)) bv (b0 _)) (i9 (b7 (qv 0) T.cl cA.meth GA hr cA.bind .nil ar (aq (ah aj (qv 2) ab (fun _ _=>rfl)) (aq (ah aj (qv 2) ab (fun _ _=>rfl)) a0))))))),?_⟩
 obtain⟨⟨hm,uk,hk,hok,hU⟩,hrows,hne⟩:=id hK;obtain⟨dx,fs,h1,h2⟩:=hk.ob;obtain⟨as,b,hpl,hat,hR⟩:=fe hrows hn;refine⟨_,rfl,p,C,dx,fs,.ref pl,rfl,h1,T.cl,T.nP,h2.parts,_,rfl,pl,_,_,.ref b,rfl,rfl,SqL.of hpl,hat,b,r,rfl,hR,hp,fun t H1 e1 hT=>?_⟩;have hk1:=hk.same e1;refine⟨_,rfl,p,C,dx,fs,.ref pl,rfl,e1 _ _ h1,T.cl,T.nP,h2.parts,_,rfl,pl,_,_,.ref b,rfl,rfl,SqL.of (e1 _ _ hpl),hat,b,_,0,_,rfl,rfl,hR.same e1,hp.at0,rfl,_,rfl,iteB (fun c=>?_) (fun c=>?_)⟩
 . have c':r.getD 0 ""="cell" := by simpa using c
   exact q true H1 e1 ⟨fun _=>.inl c',fun _=>rfl⟩
 . have c':¬ r.getD 0 ""="cell" := by simpa using c
   refine⟨_,rfl,p,dx,fs,rfl,e1 _ _ h1,h2.meth "unlike" (by decide),_,rfl,t,_,0,.str (place r),rfl,rfl,hT,rfl,_,rfl,t,_,1,.str (end2 r),rfl,rfl,hT,rfl,p,pl,hd,un,fu,hm,uk,_,_,rfl,hk1,fun H2 e2=>?_⟩;refine q _ H2 (e1.trans e2) ?_;rw[hok.hd,hok.hd,hU.told];exact⟨fun z=>.inr z,fun z=>z.resolve_left c'⟩
end
def NoRow(o:HO):Prop:=(∃kv,o=.dK kv)\/(∃kv,o=.dT kv)\/(∃od kv,o=.frz od (.dK kv))\/∃C dx fs,o=.ins C dx fs
theorem NoRow.tup{o:HO}(h:NoRow o){xs:List V}:o≠.tup xs/\(∀ob,o≠.frz ob (.tup xs))/\o≠.lst xs:=by
 rcases h with⟨kv,rfl⟩|⟨kv,rfl⟩|⟨od,kv,rfl⟩|⟨C,dx,fs,rfl⟩
 . exact⟨(fun z=>nomatch z),(fun _ z=>nomatch z),(fun z=>nomatch z)⟩
 . exact⟨(fun z=>nomatch z),(fun _ z=>nomatch z),(fun z=>nomatch z)⟩
 . exact⟨(fun z=>nomatch z),(fun _ z=>nomatch z),(fun z=>nomatch z)⟩
 . exact⟨(fun z=>nomatch z),(fun _ z=>nomatch z),(fun z=>nomatch z)⟩
theorem je{K:Aa}{H H':Hp}{S:GV->Prop}{pl:GV}{P:List (List Str)}(h:RowsAt K H pl P)(k:Kp S H H')(hS:∀b,S b->∃o,H b=some o/\NoRow o):RowsAt K H' pl P:=by
 obtain⟨as,h1,h2⟩:=h;refine⟨as,k _ _ h1 fun z=>?_,Paired.mapP h2 fun b r hb=>?_⟩
 . obtain⟨o,e,n⟩:=hS _ z;rw[h1] at e;exact (n.tup (xs:=as.map V.ref)).2.2 (Ap e).symm
 . rcases hb with (z|⟨ob,z⟩)|z
   . refine .inl (.inl (k _ _ z fun y=>?_));obtain⟨o,e,n⟩:=hS _ y;rw[z] at e;exact (n.tup (xs:=r.map V.str)).1 (Ap e).symm
   . refine .inl (.inr ⟨ob,k _ _ z fun y=>?_⟩);obtain⟨o,e,n⟩:=hS _ y;rw[z] at e;exact (n.tup (xs:=r.map V.str)).2.1 ob (Ap e).symm
   . exact .inr z
theorem KnS.tell{K:Aa}{C:GV}{H H':Hp}{p pl hd un fu:GV}{F P:List (List Str)}{L:List (Str×Str)}{hm:List (Str×Str)}{uk:List (List Key×V)}{u v:Str}(hk:KnAt C H p pl hd un fu hm uk)(hok:HeadsOk hm (al F))(hU:UkT uk (al F) L)(hp:RowsAt K H pl P)(hne:hd≠fu)(k:Kp (· = un) H H')(e:H' un=some (.dT (put2 uk (hdS hm u) (hdS hm v)))):KnS K C H' p pl hd un fu F P (L++[(u,v)]):=by
 refine⟨⟨hm,_,hk.tell k e,hok,?_⟩,je hp k fun b hb=>⟨.dT uk,by rw[show b=un from hb];exact hk.uns,.inr (.inl ⟨_,rfl⟩)⟩,hne⟩;rw[hok.hd,hok.hd];exact hU.step u v
theorem KnS.fus{K:Aa}{C:GV}{H:Hp}{p pl hd un fu:GV}{F P:List (List Str)}{L:List (Str×Str)}(h:KnS K C H p pl hd un fu F P L){o:HO}(hf:H fu=some o)(hn:(∃kv,o=.dK kv)\/∃od kv,o=.frz od (.dK kv))(o':HO):KnS K C (upd H fu o') p pl hd un fu F P L:=by
 obtain⟨⟨hm,uk,hk,hok,hU⟩,hr,hne⟩:=h;obtain⟨dx,fs,h1,h2⟩:=hk.ob;have hnr:NoRow o:=hn.elim (fun z=>.inl z) (fun z=>.inr (.inr (.inl z)));have n1:p≠fu:=fun z=>by
  rw[z,hf] at h1;rcases hn with⟨kv,rfl⟩|⟨od,kv,rfl⟩<;>cases h1
 have n2:un≠fu:=fun z=>by
  have:=hk.uns;rw[z,hf] at this;rcases hn with⟨kv,rfl⟩|⟨od,kv,rfl⟩<;>cases this
 refine⟨⟨hm,uk,⟨⟨dx,fs,by rw[ag n1];exact h1,h2⟩,by rw[ag hne];exact hk.hds,by rw[ag n2];exact hk.uns⟩,hok,hU⟩,?_,hne⟩;exact je (S:=(· = fu)) hr (fun b o hb hn=>by rw[ag hn];exact hb) fun b hb=>⟨o,by rw[show b=fu from hb];exact hf,hnr⟩
theorem a5t{Fl:List Nat}{n:Nat}(h:¬ n∈Fl):putK (fk Fl) (Sum.inl (n:Int)) (.bl true)=fk (Fl++[n]):=by
 have hv:valV (fk Fl) (Sum.inl (n:Int):Key)=none:=by
  cases e:valV (fk Fl) (Sum.inl (n:Int):Key) with
  | none=>rfl
  | some v =>
   have:=tq e;unfold fk at this;rw[BO] at this;obtain⟨m,hm,e2⟩:=A3.mp this;have e3:(Sum.inl (m:Int):Key)=Sum.inl (n:Int):=e2;have e4:(m:Int)=n:=Ez e3;have e5:m=n:=by omega
   exact absurd (e5 ▸ hm) h
 rw[kl _ hv];unfold fk;rw[A1];rfl
def tj(K:Aa)(C:GV):Sp:=fun vs H Q _=>∃(p pl hd un fu:GV) (F P:List (List Str)) (L:List (Str×Str)) (Fl:List Nat) (n:Nat) (r:List Str),vs=[.ref p,.int (n:Int)]/\KnS K C H p pl hd un fu F P L/\H fu=some (.dK (fk Fl))/\P[n]?=some r/\(∀r∈P,PartRow r)/\(∀j∈Fl,j<P.length)/\(¬ n∈Fl)/\L.length+Fl.length+1<=400/\
 ∀H',Kp (fun b=>b=un\/b=fu) H H'->KnS K C H' p pl hd un fu F P (L++jp P Fl r)->H' fu=some (.dK (fk (Fl++[n])))->Q .non H'
section
variable{P:Gx}{w:G9}{K:Aa}{mg:Str->Option GQ}{base:HB}{f C fI gU:GV}{fd dU:HA}
theorem scTellF:FnScope ["self","number","place","other"] ["self","number"] (ap qb):=⟨rfl,rfl,rfl,by decide,rfl,by decide,by decide⟩
theorem a0q(T:Txt K mg C fI)(F:Fun K "tell_full" "Knowledge.tell_full" qb f fd)(GU:FnOk P w K mg base CX0 2 gU dU ["self","one","other"] (lz C))(cU:MCal K C "tell_unlike" gU dU ["self","one","other"]):FnOk P w K mg base CX0 3 f fd ["self","number"] (tj K C):=by
 refine F.okQ scTellF (fun vs H Q E h=>?_) (fun cdv A outer s0 H vs Q E hr h=>?_)
 . obtain⟨p,pl,hd,un,fu,F,P,L,Fl,n,r,rfl,_⟩:=h;rfl
 obtain⟨p,pl,hd,un,fu,Fs,Ps,L,Fl,n,r,rfl,hK,hfu,hn,hparts,hFl,hnFl,hlen,q⟩:=h;have nd:=scTellF.nd;have hu1:=cz hr;have hp:=hparts r (Au hn);refine⟨_,ac (ak (i:=2) nd rfl (Or.inl rfl) (ah aj (ah ba (b8 (K:=K) rfl (qv 0)) (qv 1) (fun _ _=>rfl)) ab (fun _ _=>rfl)))
  (ac (bq (b7 (qv 0) T.cl cU.meth GU hr cU.bind .nil ar (ae (qv 2) (ay a0))))
  (ac (a5d (cc AA rfl (a0u (b8 (K:=K) rfl (qv 0))) (bw (i:=3) nd rfl (Or.inl rfl)) (af (bq (b7 (qv 0) T.cl cU.meth GU hr cU.bind .nil ar (ae (qv 2) (aq (ah aj (ah ba (b8 (K:=K) rfl (qv 0)) (qv 3) (fun _ _=>rfl)) ab (fun _ _=>rfl)) a0)))))))
  (af (i7 hu1 (b8 (K:=K) rfl (qv 0)) (qv 1) jr)))),?_⟩
 obtain⟨⟨hm,uk,hk,hok,hU⟩,hrows,hne⟩:=id hK;obtain⟨dx,fs,h1,h2⟩:=hk.ob;obtain⟨as,b,hpl,hat,hR⟩:=fe hrows hn;refine⟨_,rfl,p,C,dx,fs,.ref pl,rfl,h1,T.cl,T.nP,h2.parts,_,rfl,pl,_,_,.ref b,rfl,rfl,SqL.of hpl,hat,b,_,1,_,rfl,rfl,hR,hp.at1,?_⟩;have hUl:=hU.len;refine⟨_,rfl,p,dx,fs,rfl,h1,h2.meth "tell_unlike" (by decide),_,rfl,p,pl,hd,un,fu,hm,uk,place r,"nil",rfl,hk,by omega,fun H1 k1 e1=>?_⟩;have hK1:=KnS.tell hk hok hU hrows hne k1 e1;have nuf:fu≠un:=db hfu hk.uns (fun z=>nomatch z);have hfu1:=k1 _ _ hfu nuf;obtain⟨⟨hm1,uk1,hk1,_,_⟩,_,_⟩:=id hK1;obtain⟨dx1,fs1,h11,h21⟩:=hk1.ob;refine⟨_,rfl,p,C,dx1,fs1,.ref fu,rfl,h11,T.cl,T.nF,h21.fulls,fu,_,rfl,hfu1,fun od nf=>?_⟩;have hK2:=hK1.fus hfu1 (.inl ⟨_,rfl⟩) (.frz od (.dK (fk Fl)));have hfu2:(upd H1 fu (.frz od (.dK (fk Fl)))) fu=some (.frz od (.dK (fk Fl))):=aa;have k2:Kp (fun b=>b=un\/b=fu) H (upd H1 fu (.frz od (.dK (fk Fl)))):=fun b o hb hnn=>by
  rw[ag (fun z=>hnn (.inr z))];exact k1 b o hb (fun z=>hnn (.inl z))
 generalize upd H1 fu (.frz od (.dK (fk Fl)))=H2 at hK2 hfu2 k2 |-;clear hK1 hfu1 hk1 h11 h21 k1 e1;refine xt (fun i σ H3=>Kp (fun b=>b=un\/b=fu) H H3/\KnS K C H3 p pl hd un fu Fs Ps (L++((place r,("nil":Str))::(Fl.take i).map fun j=>(place r,place (Ps.getD j []))))/\H3 fu=some (.frz od (.dK (fk Fl)))/\∃z3:Option V,σ=[rQ p,iQ (n:Int),some (.str (place r)),z3])
  ⟨k2,hK2,hfu2,none,rfl⟩ (fun i σ H3 _ pv=>pv.2.2.1) ?_ ?_
 . rintro i x σ H3 hx ⟨k3,hK3,hfu3,z3,rfl⟩;have hil:i<Fl.length:=by
    have:=(Am.mp hx).1;unfold fk at this;simpa using this
   obtain rfl:x=.int ((Fl[i]:Nat):Int):=by
    unfold fk at hx;rw[Al,Al,Ae hil] at hx;exact (Ap hx).symm
   have hjl:=hFl _ (AX hil);obtain⟨s,hs⟩:∃s,Ps[Fl[i]]?=some s:=⟨Ps[Fl[i]],Ae hjl⟩
   have hsp:=hparts s (Au hs);obtain⟨⟨hm3,uk3,hk3,hok3,hU3⟩,hrows3,_⟩:=id hK3;obtain⟨dx3,fs3,h13,h23⟩:=hk3.ob;obtain⟨as3,b3,hpl3,hat3,hR3⟩:=fe hrows3 hs;have hUl3:=hU3.len;have hll:((Fl.take i).map fun j=>(place r,place (Ps.getD j []))).length<=Fl.length:=by rw[Ac,A2];omega
   refine⟨_,rfl,p,dx3,fs3,rfl,h13,h23.meth "tell_unlike" (by decide),_,rfl,_,rfl,p,C,dx3,fs3,.ref pl,rfl,h13,T.cl,T.nP,h23.parts,_,rfl,pl,_,_,.ref b3,rfl,rfl,SqL.of hpl3,hat3,b3,_,1,_,rfl,rfl,hR3,hsp.at1,p,pl,hd,un,fu,hm3,uk3,place r,place s,rfl,hk3,?_,fun H4 k4 e4=>?_⟩
   . rw[Aj,AM] at hUl3;omega
   have hK4:=KnS.tell hk3 hok3 hU3 hrows3 hne k4 e4;refine⟨fun b' o hb hnn=>k4 b' o (k3 b' o hb hnn) (fun z=>hnn (.inl z)),?_,k4 _ _ hfu3 nuf,_,rfl⟩;have et:Fl.take (i+1)=Fl.take i++[Fl[i]]:=by rw[AR,Ae hil];rfl
   have eg:Ps.getD Fl[i] []=s:=by rw[Bs,hs];rfl
   rw[DO] at hK4;rw[et,A1,List.map_singleton,eg];exact hK4
 . rintro σ H3 ⟨k3,hK3,hfu3,z3,rfl⟩;have e0:(fk Fl).length=Fl.length:=by unfold fk;rw[Ac]
   rw[e0,Bb] at hK3;refine⟨fu,od,.dK (fk Fl),hfu3,nf,?_⟩;have hK4:=hK3.fus hfu3 (.inr ⟨_,_,rfl⟩) (.dK (fk Fl));have hfu4:(upd H3 fu (.dK (fk Fl))) fu=some (.dK (fk Fl)):=aa;have k4:Kp (fun b=>b=un\/b=fu) H (upd H3 fu (.dK (fk Fl))):=fun b o hb hnn=>by
    rw[ag (fun z=>hnn (.inr z))];exact k3 b o hb hnn
   generalize upd H3 fu (.dK (fk Fl))=H4 at hK4 hfu4 k4 |-;obtain⟨⟨hm4,uk4,hk4,_,_⟩,_,_⟩:=id hK4;obtain⟨dx4,fs4,h14,h24⟩:=hk4.ob;refine⟨_,rfl,p,C,dx4,fs4,.ref fu,rfl,h14,T.cl,T.nF,h24.fulls,_,rfl,fu,_,rfl,DPut.k (k:=Sum.inl (n:Int)) hfu4 ?_,?_⟩
   . rw[e0];exact AL (show Fl.length<=1000 by omega) (by decide)
   rw[a5t hnFl];refine q _ (fun b o hb hnn=>by rw[ag (fun z=>hnn (.inr z))];exact k4 b o hb hnn) (hK4.fus hfu4 (.inl ⟨_,rfl⟩) _) aa
end
end K31
namespace L2
def natV(n:Nat):V:=.int (n:Int)
theorem oz(n:Nat):nums 0 n=(AV n).map natV:=by
 unfold nums natV;refine Cv fun i _=>?_;rw[Eh]
theorem gu{J:It}{H1:Hp}{σ:St}{ix:List Nat}{tc:TT}{te:TE}{Q:VK}{I0:Hp->Prop}(ns:List Nat)(p:Nat->Bool)(hJ:JSeq J I0 (ns.map natV))(h0:I0 H1)(hz:ns.length<=1000)(hc:∀n∈ns,∀H2,Same H1 H2->∀Q':Bool->Hp->Prop,(∀H3,Same H2 H3->Q' (p n) H3)->tc (some (.int (n:Int))::br σ ix) H2 Q')(he:∀(n:Nat) H2 (Q':VK),Q' (.int (n:Int)) H2->te (some (.int (n:Int))::br σ ix) H2 Q')(hQ:∀D H',H1 D=none->Same H1 H'->H' D=some (.lst ((ns.filter p).map natV))->Q (.ref D) H'):i8 J H1 σ ix tc te Q:=by
 have pv:∀n:Nat,(fun v:V=>match v with|.int i=>p i.toNat|_=>false) (natV n)=p n:=fun n=>by
  show p ((n:Int)).toNat=p n;rw[AU]
 refine kj (ns.map natV) (fun v=>match v with|.int i=>p i.toNat|_=>false) id hJ h0 (by rw[Ac];exact AB hz (by decide)) ?_ ?_ ?_
 . intro x hx H2 e2 Q' q';obtain⟨n,hn,rfl⟩:=A3.mp hx;refine hc n hn H2 e2 Q' fun H3 e3=>?_;have:=q' H3 e3;have e:(match natV n with|.int i=>p i.toNat|_=>false)=p n:=pv n;rw[e] at this;exact this
 . intro x hx _ H2 e2 Q' q';obtain⟨n,hn,rfl⟩:=A3.mp hx;exact he n H2 Q' (q' H2 (Same.refl _))
 . intro D H' hD e hd;refine hQ D H' hD e ?_;rw[hd,Gu,Ex];rw[show (Gv ((fun v:V=>match v with|.int i=>p i.toNat|_=>false)∘natV) ns)=ns.filter p from DR fun n _=>pv n]
end L2
namespace K31
open L2 Mir Kn
open Classical in
def iz(P:List (List Str))(h:Str->Str)(L:List (Str×Str))(n:Nat):Bool:=decide (∃r,P[n]?=some r/\FullR (Told h L) r)
open Classical in
theorem mustB_iff{P:List (List Str)}{h:Str->Str}{L:List (Str×Str)}{n:Nat}:iz P h L n=true↔∃r,P[n]?=some r/\FullR (Told h L) r:=by
 unfold iz;exact⟨fun z=>of_decide_eq_true z,fun z=>decide_eq_true z⟩
theorem a0j{P:List (List Str)}{h:Str->Str}{L:List (Str×Str)}{n:Nat}{r:List Str}{b:Bool}(hn:P[n]?=some r)(hb:b=true↔FullR (Told h L) r):iz P h L n=b:=by
 rw[Bm,mustB_iff,hb];constructor
 . rintro⟨r',h1,h2⟩;rw[hn] at h1;cases h1;exact h2
 . exact fun z=>⟨r,hn,z⟩
theorem jf{Fl:List Nat}{n:Nat}:(valV (fk Fl) (Sum.inl (n:Int):Key)).isSome=decide (n∈Fl):=by
 rw[<- dz];unfold fk;rw[Bm,Ba,decide_eq_true_eq];constructor
 . rintro⟨q,hq,e⟩;obtain⟨m,hm,rfl⟩:=A3.mp hq;have e':(Sum.inl (m:Int):Key)=Sum.inl (n:Int):=by simpa using e
   have:(m:Int)=n:=Ez e';have:m=n:=by omega
   exact this ▸ hm
 . exact fun h=>⟨_,A3.mpr ⟨n,h,rfl⟩,by simp⟩
def zl(K:Aa)(C:GV):Sp:=fun vs H Q _=>∃(p pl hd un fu:GV) (F P:List (List Str)) (L:List (Str×Str)),vs=[.ref p]/\KnS K C H p pl hd un fu F P L/\H fu=some (.dK (fk []))/\(∀r∈F,c5 r)/\(∀r∈P,PartRow r)/\P.length<=15/\L.length<=100/\Going F P L []/\
 ∀L' Fl H',Kp (fun b=>b=un\/b=fu) H H'->KnS K C H' p pl hd un fu F P L'->H' fu=some (.dK (fk Fl))->AllTold F P L' Fl->Going F P L' Fl->L'.length<=400->Q .non H'
section
variable{P:Gx}{w:G9}{K:Aa}{mg:Str->Option GQ}{base:HB}{f C fI gM gT:GV}{fd dM dT:HA}
theorem m9{c:TT}{tb:TS}{D:Ends}{σ:St}{H:Hp}(Pv:Nat->St->Hp->Prop){m0:Nat}(h0:Pv m0 σ H)(hs:∀m σ H,Pv m σ H->c σ H fun b H1=>if b=true then tb {D with nx:=fun σ' H'=>∃m',m'<m/\Pv m' σ' H',ct:=fun σ' H'=>∃m',m'<m/\Pv m' σ' H',bk:=D.nx} σ H1 else D.nx σ H1)(mono:∀σ H Q Q',(∀b H1,Q b H1->Q' b H1)->c σ H Q->c σ H Q'):se c tb D σ H:=by
 refine⟨Pv,⟨_,h0⟩,?_⟩;intro m σ H p;refine mono σ H _ _ (fun b H1 q=>?_) (hs m σ H p);cases b with
 | true=>exact⟨_,fun σ' H' ⟨m',l,p'⟩=>⟨m',l,p'⟩,q⟩
 | false=>exact q
theorem scFindF:FnScope ["self","found","number","waiting"] ["self"] (ap pz):=⟨rfl,rfl,rfl,by decide,rfl,by decide,by decide⟩
theorem a4f(Cn:Con K mg w)(T:Txt K mg C fI)(F:Fun K "find_fulls" "Knowledge.find_fulls" pz f fd)(GM:FnOk P w K mg base CX0 3 gM dM ["self","number"] (j6 K C wb))(cM:MCal K C "must_be_full" gM dM ["self","number"])(GT:FnOk P w K mg base CX0 3 gT dT ["self","number"] (tj K C))(cT:MCal K C "tell_full" gT dT ["self","number"]):FnOk P w K mg base CX0 4 f fd ["self"] (zl K C):=by
 refine F.okQ scFindF (fun vs H Q E h=>?_) (fun cdv A outer s0 H vs Q E hr h=>?_)
 . obtain⟨p,pl,hd,un,fu,F,P,L,rfl,_⟩:=h;rfl
 obtain⟨p,pl,hd,un,fu,Fs,Ps,L0,rfl,hK,hfu,hFr,hPr,hP15,hL0,hG0,q⟩:=h;have nd:=scFindF.nd;have hu1:=cz hr;refine⟨_,ac (iq ["number","self"] [0] (i:=1) nd rfl (Or.inl rfl) (ck rfl Cn.range (bx (bf bc rfl Cn.len AH (g0 (b8 (K:=K) rfl (qv 0)) a0)) a0)) (fun _ _ _ _=>(ge (cf (b7 (qv 1) T.cl cM.meth GM hr cM.bind .nil ar (ae (qv 0) a0))))) (fun _ _ _ _=>(qv 0)))
  (af (kb AA (q8 (K:=K) (qv 1)) (ac (cc AA rfl (cn (qv 1)) (bw (i:=2) nd rfl (Or.inl rfl)) (af (bq (b7 (qv 0) T.cl cT.meth GT hr cT.bind .nil ar (ae (qv 2) a0)))))
  (ac (iq ["number","self"] [0] (i:=3) nd rfl (Or.inl rfl) (ck rfl Cn.range (bx (bf bc rfl Cn.len AH (g0 (b8 (K:=K) rfl (qv 0)) a0)) a0)) (fun _ _ _ _=>(ge (jd hu1 (qv 0) (b8 (K:=K) rfl (qv 1))))) (fun _ _ _ _=>(qv 0)))
  (af (iq ["number","self"] [0] (i:=1) nd rfl (Or.inl rfl) (cn (qv 3)) (fun _ _ _ _=>(ge (cf (b7 (qv 1) T.cl cM.meth GM hr cM.bind .nil ar (ae (qv 0) a0))))) (fun _ _ _ _=>(qv 0)))))))),?_⟩
 have must:∀{H2 H3:Hp} {L:List (Str×Str)} {n:Nat} {Q':Bool->Hp->Prop},KnS K C H2 p pl hd un fu Fs Ps L->n<Ps.length->Same H2 H3->(∀H4,Same H3 H4->Q' (iz Ps (al Fs) L n) H4)->j6 K C wb [.ref p,.int (n:Int)] H3 (fun v H4=>∃b,v=.bl b/\Q' b H4) E0:=fun {H2 H3 L n Q'} hk hn e q'=>by
  have hs:Ps[n]?=some Ps[n]:=Ae hn;refine⟨p,pl,hd,un,fu,Fs,Ps,L,n,_,rfl,hk.same e,hs,hPr _ (AX hn),fun b H4 e4 hb=>⟨b,rfl,?_⟩⟩;have:=q' H4 e4;rw[a0j hs hb] at this;exact this
 obtain⟨⟨hm,uk,hk,hok,hU⟩,hrows,hne⟩:=id hK;obtain⟨dx,fs,h1,h2⟩:=hk.ob;obtain⟨as,hpl,hpp⟩:=hrows;have hasl:=A8 hpp;have hml:(as.map V.ref).length=Ps.length:=by rw[Ac];exact hasl
 refine⟨_,rfl,p,C,dx,fs,.ref pl,rfl,h1,T.cl,T.nP,h2.parts,pl,_,rfl,.inl (SqL.of hpl),_,rfl,(by rw[hml];omega),(by rw[hml];omega),?_⟩;rw[hml,AU];have JR:∀n,JSeq (Itr 0 n) (fun _=>True) ((AV n).map natV):=fun n=>by rw[<- oz];exact sk
 refine gu (AV Ps.length) (iz Ps (al Fs) L0) (JR _) trivial (by rw[By];omega) (fun n hn H2 e2 Q' q'=>?_) (fun n H2 Q' q'=>⟨_,rfl,q'⟩) fun D H1 hD e1 hd1=>?_
 . exact⟨_,rfl,p,dx,fs,rfl,e2 _ _ h1,h2.meth "must_be_full" (by decide),_,rfl,must hK (Bc.mp hn) e2 q'⟩
 have hfo0:∀i r,Ps[i]?=some r->FullR (Told (al Fs) L0) r->i∈([]:List Nat)\/i∈(AV Ps.length).filter (iz Ps (al Fs) L0):=fun i r hi hf=>.inr (AW.mpr ⟨Bc.mpr (Am.mp hi).1,mustB_iff.mpr ⟨r,hi,hf⟩⟩);refine m9 (fun m σ H2=>∃(L:List (Str×Str)) (Fl fo:List Nat) (D:GV) (z2 z3:Option V),σ=[rQ p,rQ D,z2,z3]/\Kp (fun b=>b=un\/b=fu) H H2/\KnS K C H2 p pl hd un fu Fs Ps L/\H2 fu=some (.dK (fk Fl))/\Going Fs Ps L Fl/\L.length<=100+Fl.length*16/\H2 D=some (.lst (fo.map natV))/\fo.Nodup/\(∀i∈fo,(¬ i∈Fl)/\∃r,Ps[i]?=some r/\FullR (Told (al Fs) L) r)/\(∀i r,Ps[i]?=some r->FullR (Told (al Fs) L) r->i∈Fl\/i∈fo)/\m=Ps.length-Fl.length)
  (m0:=Ps.length) ⟨L0,[],_,D,none,none,rfl,fun b o hb _=>e1 b o hb,hK.same e1,e1 _ _ hfu,hG0,by simpa using hL0,hd1,Fw Ff FO,fun i hi=>⟨Ax,mustB_iff.mp (AW.mp hi).2⟩,hfo0,rfl⟩ ?_ ?_
 . rintro m σ H2 ⟨L,Fl,fo,D,z2,z3,rfl,k2,hK2,hfu2,hG,hLl,hD2,hfn,hff,hfc,rfl⟩;refine⟨_,rfl,_,.inl ⟨_,SqL.of hD2,rfl⟩,?_⟩;have nuf:fu≠un:=by
    obtain⟨⟨_,_,hk2,_⟩,_⟩:=hK2;exact db hfu2 hk2.uns (fun z=>nomatch z)
   have hfl:=hG.len;refine iteB (fun c=>?_) (fun c=>?_)
   . have hfpos:0<fo.length:=by
      cases fo with
      | nil=>cases c
      | cons _ _=>exact Nat.succ_pos _
     clear c;refine⟨_,rfl,D,rfl,⟨_,SqL.of hD2⟩,?_⟩;have hDu:D≠un:=by
      obtain⟨⟨_,_,hk2,_⟩,_⟩:=hK2;exact db hD2 hk2.uns (fun z=>nomatch z)
     have hDf:D≠fu:=db hD2 hfu2 (fun z=>nomatch z);refine dm (xs:=fo.map natV) (fun j σ H3=>∃(L3:List (Str×Str)) (z2:Option V),σ=[rQ p,rQ D,z2,z3]/\Kp (fun b=>b=un\/b=fu) H H3/\KnS K C H3 p pl hd un fu Fs Ps L3/\H3 fu=some (.dK (fk (Fl++fo.take j)))/\Going Fs Ps L3 (Fl++fo.take j)/\L3.length<=100+(Fl++fo.take j).length*16/\H3 D=some (.lst (fo.map natV)))
      ⟨L,z2,rfl,k2,hK2,by rw[B5,Cf];exact hfu2,by rw[B5,Cf];exact hG,by rw[B5,Cf];exact hLl,hD2⟩ (fun j σ H3 _ pv=>by obtain⟨_,_,_,_,_,_,_,_,hd3⟩:=pv;exact SqL.of hd3) ?_ ?_
     . rintro j x σ H3 hx ⟨L3,z2,rfl,k3,hK3,hfu3,hG3,hL3,hD3⟩;have hjl:j<fo.length:=by have:=(Am.mp hx).1;rw[Ac] at this;exact this
       obtain rfl:x=.int ((fo[j]:Nat):Int):=by
        rw[Al,Ae hjl] at hx;exact (Ap hx).symm
       obtain⟨hn1,r,hr,hfr⟩:=hff _ (AX hjl);have hnt:¬ fo[j]∈Fl++fo.take j:=fun z=>by
        rcases Ad.mp z with y|y
        . exact hn1 y
        . obtain⟨i,hi,e⟩:=List.mem_take_iff_getElem.mp y;have:=(FI hfn).mp e;omega
       have hfU:FullR (Un Fs Ps) r:=hfr.mono fun a b z=>ua hFr hG.sound z;have hlen3:=hG3.len;have hm16:(Fl++fo.take j).length*16<=15*16:=EY _ (by omega);obtain⟨⟨hm3,uk3,hk3,_,_⟩,_,_⟩:=id hK3;obtain⟨dx3,fs3,h13,h23⟩:=hk3.ob;refine⟨_,rfl,p,dx3,fs3,rfl,h13,h23.meth "tell_full" (by decide),_,rfl,p,pl,hd,un,fu,Fs,Ps,L3,Fl++fo.take j,fo[j],r,rfl,hK3,hfu3,hr,hPr,fun i hi=>?_,hnt,by omega,fun H4 k4 hK4 hfu4=>?_⟩
       . obtain⟨r',h',_⟩:=hG3.isf i hi;exact (Am.mp h').1
       have et:Fl++fo.take (j+1)=Fl++fo.take j++[fo[j]]:=by rw[AR,Ae hjl,DO];rfl
       refine⟨_,_,rfl,fun b o hb hnn=>k4 b o (k3 b o hb hnn) hnn,hK4,by rw[et];exact hfu4,by rw[et];exact hG3.step hr hfU hnt,?_,k4 _ _ hD3 (fun z=>z.elim hDu hDf)⟩;have tl:(jp Ps (Fl++fo.take j) r).length=(Fl++fo.take j).length+1:=by unfold jp;rw[AM,Ac]
       rw[et,Aj,tl,Aj (bs:=[fo[j]]),AD,Nat.add_mul];omega
     . rintro σ H3 ⟨L3,z2,rfl,k3,hK3,hfu3,hG3,hL3,hD3⟩;have el:(fo.map natV).length=fo.length:=Ac ..;rw[el,Bb] at hfu3 hG3 hL3;have hlen3:=hG3.len;rw[Aj] at hlen3;obtain⟨⟨hm3,uk3,hk3,hok3,hU3⟩,hrows3,_⟩:=id hK3;obtain⟨dx3,fs3,h13,h23⟩:=hk3.ob;obtain⟨as3,hpl3,hpp3⟩:=hrows3;have hml3:(as3.map V.ref).length=Ps.length:=by rw[Ac];exact A8 hpp3
       refine⟨_,rfl,p,C,dx3,fs3,.ref pl,rfl,h13,T.cl,T.nP,h23.parts,pl,_,rfl,.inl (SqL.of hpl3),_,rfl,(by rw[hml3];omega),(by rw[hml3];omega),?_⟩;rw[hml3,AU];refine gu (AV Ps.length) (fun n => !decide (n∈Fl++fo)) (JR _) trivial (by rw[By];omega) (fun n hn H4 e4 Q' q'=>?_) (fun n H4 Q' q'=>⟨_,rfl,q'⟩) fun D4 H4 hD4 e4 hd4=>?_
       . have g:=DGet.k (k:=Sum.inl (n:Int)) (e4 _ _ hfu3);have:=q' H4 (Same.refl _);rw[<- jf] at this;exact⟨_,rfl,_,rfl,p,C,dx3,fs3,.ref fu,rfl,e4 _ _ h13,T.cl,T.nF,h23.fulls,fu,_,rfl,g,_,rfl,this⟩
       have hK4:=hK3.same e4;obtain⟨⟨hm4,uk4,hk4,_,_⟩,_,_⟩:=id hK4;obtain⟨dx4,fs4,h14,h24⟩:=hk4.ob;refine⟨_,rfl,D4,rfl,⟨_,SqL.of hd4⟩,?_⟩;have hwl:((AV Ps.length).filter fun n => !decide (n∈Fl++fo)).length<=Ps.length:=by
        have:=Bl (fun n => !decide (n∈Fl++fo)) (AV Ps.length);rw[By] at this;exact this
       refine gu ((AV Ps.length).filter fun n => !decide (n∈Fl++fo)) (iz Ps (al Fs) L3) fb (SqL.of hd4) (by omega) (fun n hn H5 e5 Q' q'=>?_) (fun n H5 Q' q'=>⟨_,rfl,q'⟩) fun D5 H5 hD5 e5 hd5=>?_
       . exact⟨_,rfl,p,dx4,fs4,rfl,e5 _ _ h14,h24.meth "must_be_full" (by decide),_,rfl,must hK4 (Bc.mp (AW.mp hn).1) e5 q'⟩
       have e35:=e4.trans e5;refine⟨Ps.length-(Fl++fo).length,by rw[Aj];omega,L3,Fl++fo,_,D5,_,_,rfl,fun b o hb hnn=>e35 b o (k3 b o hb hnn),hK3.same e35,e35 _ _ hfu3,hG3,hL3,hd5,Fw (List.filter_sublist.trans Ff) FO,fun i hi=>?_,fun i r hi hf=>?_,rfl⟩
       . obtain⟨g1,g2⟩:=AW.mp hi;obtain⟨g3,g4⟩:=AW.mp g1;exact⟨by simpa using g4,mustB_iff.mp g2⟩
       . by_cases hin:i∈Fl++fo
         . exact .inl hin
         . exact .inr (AW.mpr ⟨AW.mpr ⟨Bc.mpr (Am.mp hi).1,by simpa using hin⟩,mustB_iff.mpr ⟨r,hi,hf⟩⟩)
   . have hfe:fo=[]:=by
      cases fo with
      | nil=>rfl
      | cons _ _=>cases c
     subst hfe;have A:=hG.done fun i r hi hf=>(hfc i r hi hf).resolve_right Ax;exact q L Fl H2 k2 hK2 hfu2 A hG (by have:Fl.length*16<=15*16:=EY _ (by omega);omega)
 . rintro σ H2 Q1 Q2 hq ⟨v,h1,k,h2,h3⟩;exact⟨v,h1,k,h2,hq _ _ h3⟩
end
end K31
namespace L2
open PyProof.Rows PySem.Builtin
section
variable{prog:Gx}{w:G9}{d:GV}{es:Array DictEntry}{ep:Nat}{od:Obj}
end
section
variable{X:Cx}
end
section
variable{prog:Gx}{w:G9}{A:HC}{E:GQ->GW->Prop}{s:GW}{d:GV}{es:Array DictEntry}{ep:Nat}{od:Obj}
end
theorem a2d{a b:TS}{D:Ends}{σ:St}{H:Hp}(h:∀D':Ends,(∀σ H,b D σ H->D'.nx σ H)->(∀v H,D.rt v H->D'.rt v H)->(∀σ H,D.ct σ H->D'.ct σ H)->a D' σ H):tSeq a b D σ H:=h {D with nx:=b D} (fun _ _ z=>z) (fun _ _ z=>z) (fun _ _ z=>z)
end L2
namespace K31
open L2 Mir Kn
def nots(F:List (List Str)):List (Str×Str):=F.filterMap fun (r:List Str)=>if (r.getD 0 "":Str)=("not":Str) then some ((r.getD 1 "",r.getD 2 ""):Str×Str) else none
theorem pk(F:List (List Str)):(nots F).length<=F.length:=List.length_filterMap_le _ _
theorem a0v(F:List (List Str))(u v:Str):nots (F++[[("not":Str),u,v]])=nots F++[(u,v)]:=by
 unfold nots;rw[EL];rfl
theorem a4x(F:List (List Str)){k u v:Str}(h:¬ k="not"):nots (F++[[k,u,v]])=nots F:=by
 unfold nots;rw[EL,BB];have e:(if ([k,u,v].getD 0 "":Str)=("not":Str) then some (([k,u,v].getD 1 "",[k,u,v].getD 2 ""):Str×Str) else none)=none:=if_neg h;rw[e];simp
theorem qq{F:List (List Str)}(hF:∀r∈F,c5 r){u v:Str}:(u,v)∈nots F↔[("not":Str),u,v]∈F:=by
 unfold nots;rw[List.mem_filterMap];constructor
 . rintro⟨r,hr,e⟩;obtain⟨k,a,b,rfl,hk⟩:=hF r hr;by_cases c:k="not"
   . rw[if_pos (show ([k,a,b].getD 0 "")="not" from c)] at e;have e':(a,b)=(u,v):=Ap e;injection e' with e1 e2;rw[<- e1,<- e2,<- c];exact hr
   . rw[if_neg (show ¬ ([k,a,b].getD 0 "")="not" from c)] at e;cases e
 . intro h;exact⟨_,h,by rw[if_pos (show ([("not":Str),u,v].getD 0 "")="not" from rfl)];rfl⟩
theorem a6a{F P:List (List Str)}(hF:∀r∈F,c5 r):Going F P (nots F) []:=⟨fun u v h=>(qq hF).mpr h,fun q hq=>(cr F P).fact _ _ ((qq hF).mp hq),.nil,fun i hi=>by simp at hi,fun i hi=>by simp at hi,fun i hi=>by simp at hi⟩
open Classical in
def g6(P:List (List Str))(h:Str->Str)(n:Nat):Bool:=decide (∃r,P[n]?=some r/\cx r h [])
open Classical in
theorem emptyB_iff{P:List (List Str)}{h:Str->Str}{n:Nat}:g6 P h n=true↔∃r,P[n]?=some r/\cx r h []:=by
 unfold g6;exact⟨fun z=>of_decide_eq_true z,fun z=>decide_eq_true z⟩
theorem yx{P:List (List Str)}{h:Str->Str}{L:List (Str×Str)}{n:Nat}{r:List Str}{b:Bool}(hn:P[n]?=some r)(hb:b=true↔cx r h L):(!g6 P h n) = !b:=by
 congr 1
 rw[Bm,emptyB_iff,hb];constructor
 . rintro⟨r',h1,h2⟩;rw[hn] at h1;cases h1;exact h2
 . exact fun z=>⟨r,hn,z⟩
def mf(K:Aa)(C:GV):Sp:=fun vs H Q _=>∃(p dx fl pl0:GV) (F P:List (List Str)),vs=[.ref p,.ref fl,.ref pl0]/\H p=some (.ins C dx [])/\RowsAt K H fl F/\F.length<=100/\(∀r∈F,c5 r)/\RowsAt K H pl0 P/\P.length<=15/\(∀r∈P,PartRow r)/\
 ∀pl hd un fu L Fl D dx' fs' H',Kp (· = p) H H'->KnS K C H' p pl hd un fu F P L->H' fu=some (.dK (fk Fl))->AllTold F P L Fl->Going F P L Fl->H' p=some (.ins C dx' fs')->fs'.lookup ("not_empty":Str)=some (.ref D)->KFs fs' pl hd un fu->H' D=some (.lst (((AV P.length).filter fun n => !g6 P (al F) n).map natV))->L.length<=400->Q .non H'
theorem ub:∀m∈nk,m≠("parts":Str)/\m≠("heads":Str)/\m≠("unlikes":Str)/\m≠("fulls":Str)/\m≠("not_empty":Str):=by decide
theorem zb:("parts":Str)≠"heads" /\ ("parts":Str)≠"unlikes" /\ ("parts":Str)≠"fulls" /\ ("parts":Str)≠"not_empty" /\ ("heads":Str)≠"unlikes" /\ ("heads":Str)≠"fulls" /\ ("heads":Str)≠"not_empty" /\ ("unlikes":Str)≠"fulls" /\ ("unlikes":Str)≠"not_empty" /\ ("fulls":Str)≠"not_empty" := by decide
theorem kfs4(pl hd un fu:GV):KFs (putF "fulls" (.ref fu) (putF "unlikes" (.ref un) (putF "heads" (.ref hd) (putF "parts" (.ref pl) [])))) pl hd un fu:=by
 obtain⟨n1,n2,n3,n4,n5,n6,n7,n8,n9,n10⟩:=zb;refine⟨?_,?_,?_,?_,?_,fun m hm=>?_⟩
 . rw[ao,if_neg n3,ao,if_neg n2,ao,if_neg n1,ao,if_pos rfl]
 . rw[ao,if_neg n6,ao,if_neg n5,ao,if_pos rfl]
 . rw[ao,if_neg n8,ao,if_pos rfl]
 . rw[ao,if_pos rfl]
 . have h1:=bg "parts" (.ref pl) [];have h2:=bg "heads" (.ref hd) (putF "parts" (.ref pl) []);have h3:=bg "unlikes" (.ref un) (putF "heads" (.ref hd) (putF "parts" (.ref pl) []));have h4:=bg "fulls" (.ref fu) (putF "unlikes" (.ref un) (putF "heads" (.ref hd) (putF "parts" (.ref pl) [])));simp only[Eu] at h1;omega
 . obtain⟨m1,m2,m3,m4,m5⟩:=ub m hm;rw[ao,if_neg m4,ao,if_neg m3,ao,if_neg m2,ao,if_neg m1];rfl
theorem KFs.more{fs:List (Str×V)}{pl hd un fu:GV}(h:KFs fs pl hd un fu)(v:V)(hl:fs.length<50):KFs (putF "not_empty" v fs) pl hd un fu:=by
 obtain⟨n1,n2,n3,n4,n5,n6,n7,n8,n9,n10⟩:=zb;refine⟨?_,?_,?_,?_,?_,fun m hm=>?_⟩
 . rw[ao,if_neg n4];exact h.parts
 . rw[ao,if_neg n7];exact h.heads
 . rw[ao,if_neg n9];exact h.unlikes
 . rw[ao,if_neg n10];exact h.fulls
 . have:=bg "not_empty" v fs;omega
 . rw[ao,if_neg (ub m hm).2.2.2.2];exact h.meth m hm
theorem a2h{K:Aa}{H H':Hp}{p fl C dx:GV}{fs:List (Str×V)}{F:List (List Str)}(hp:H p=some (.ins C dx fs))(k:Kp (· = p) H H')(h:RowsAt K H fl F):RowsAt K H' fl F:=by
 obtain⟨as,h1,h2⟩:=h;refine⟨as,k _ _ h1 (fun z=>by have z':fl=p:=z;rw[z',hp] at h1;cases h1),Paired.mapP h2 fun b r hb=>?_⟩;rcases hb with (z|⟨o,z⟩)|z
 . exact .inl (.inl (k _ _ z fun y=>by have y':b=p:=y;rw[y',hp] at z;cases z))
 . exact .inl (.inr ⟨o,k _ _ z fun y=>by have y':b=p:=y;rw[y',hp] at z;cases z⟩)
 . exact .inr z
section
variable{P:Gx}{w:G9}{K:Aa}{mg:Str->Option GQ}{base:HB}{f C fI gH gU gF gE:GV}{fd dH dU dF dE:HA}
theorem scInit:FnScope ["self","facts","parts","fact"] ["self","facts","parts"] (ap vk):=⟨rfl,rfl,rfl,by decide,rfl,by decide,by decide⟩
theorem a1b(Cn:Con K mg w)(T:Txt K mg C fI)(F:Fun K "__init__" "Knowledge.__init__" vk f fd)(GH:FnOk P w K mg base CX0 1 gH dH ["facts"] (nb K))(cH:Cal K mg "heads_of" gH dH ["facts"])(GU:FnOk P w K mg base CX0 2 gU dU ["self","one","other"] (lz C))(cU:MCal K C "tell_unlike" gU dU ["self","one","other"])(GF:FnOk P w K mg base CX0 4 gF dF ["self"] (zl K C))(cF:MCal K C "find_fulls" gF dF ["self"])(GE:FnOk P w K mg base CX0 3 gE dE ["self","number"] (j6 K C cx))(cE:MCal K C "is_empty" gE dE ["self","number"]):FnOk P w K mg base CX0 5 f fd ["self","facts","parts"] (mf K C):=by
 refine F.okQ scInit (fun vs H Q E h=>?_) (fun cdv A outer s0 H vs Q E hr h=>?_)
 . obtain⟨p,dx,fl,pl0,F,P,rfl,_⟩:=h;rfl
 obtain⟨p,dx,fl,pl0,Fs,Ps,rfl,h1,hF,hFl,hrow,hPP,hP15,hPr,q⟩:=h;obtain⟨pas,hP0,hPp⟩:=id hPP;have hpal:=A8 hPp;have nd:=scInit.nd;have hu1:=cz hr;have hr3:=hr.mono (j:=3) (by omega);have hr2:=hr.mono (j:=2) (by omega);have hr1:=hr.mono (j:=1) (by omega);refine⟨_,ac (dg (K:=K) rfl (qv 0) (dj dv rfl Cn.list B1 (ae (qv 2) a0)))
  (ac (dg (K:=K) rfl (qv 0) (bd GH hr1 rfl cH.name cH.keep cH.bind .nil ar (ae (qv 1) a0)))
  (ac (dg (K:=K) rfl (qv 0) a0f)
  (ac (dg (K:=K) rfl (qv 0) js)
  (ac (cc AA rfl (cn (qv 1)) (bw (i:=3) nd rfl (Or.inl rfl)) (af (bi (az c3 (ah aj (qv 3) ab (fun _ _=>rfl)) bv (b0 _)) (af (bq (b7 (qv 0) T.cl cU.meth GU hr2 cU.bind .nil ar (aq (ah aj (qv 3) ab (fun _ _=>rfl)) (aq (ah aj (qv 3) ab (fun _ _=>rfl)) a0))))) be)))
  (ac (bq (ik (qv 0) T.cl cF.meth GF hr cF.bind .nil ar))
  (af (dg (K:=K) rfl (qv 0) (il ["number","self"] [0] (ck rfl Cn.range (bx (bf bc rfl Cn.len AH (ae (qv 2) a0)) a0)) (fun _ _ _ _=>(ge (fg (cf (b7 (qv 1) T.cl cE.meth GE hr3 cE.bind .nil ar (ae (qv 0) a0)))))) (fun _ _ _ _=>(qv 0)))))))))),?_⟩
 have kr:∀{Hx:Hp},Kp (· = p) H Hx->RowsAt K Hx fl Fs:=fun k=>a2h h1 k hF;have small:∀{n:Nat},n<=10->n<1000:=fun h=>by omega
 refine⟨_,rfl,pl0,_,rfl,.inl (SqL.of hP0),fun pl hpl=>?_⟩;have hpp:p≠pl:=ax h1 hpl;refine⟨_,rfl,p,C,dx,_,rfl,(by rw[ag hpp];exact h1),T.cl,T.nP,small (A5 _),?_⟩;have k1:Kp (· = p) H (upd (upd H pl (.lst (pas.map V.ref))) p (.ins C dx (putF "parts" (.ref pl) []))):=fun b o hb n=>by rw[ag n];exact ad hpl _ _ _ hb
 have hp1:(upd (upd H pl (.lst (pas.map V.ref))) p (.ins C dx (putF "parts" (.ref pl) []))) p=some (.ins C dx (putF "parts" (.ref pl) [])):=aa;have hl1:(upd (upd H pl (.lst (pas.map V.ref))) p (.ins C dx (putF "parts" (.ref pl) []))) pl=some (.lst (pas.map V.ref)):=by rw[ag (A9 hpp),aa]
 generalize upd (upd H pl (.lst (pas.map V.ref))) p (.ins C dx (putF "parts" (.ref pl) []))=H1 at k1 hp1 hl1 |-;refine⟨_,rfl,fl,Fs,rfl,kr k1,hFl,hrow,fun hd hm H2 e2 hhd0 hhd hml hok=>?_⟩;have hp2:=e2 _ _ hp1;have hl2:=e2 _ _ hl1;have hphd:p≠hd:=ax hp1 hhd0;have hplhd:pl≠hd:=ax hl1 hhd0;have len1:(putF "parts" (.ref pl) []).length<=1:=bg _ _ _;refine⟨_,rfl,p,C,dx,_,rfl,hp2,T.cl,T.nH,small (by omega),?_⟩;have k2:Kp (· = p) H (upd H2 p (.ins C dx (putF "heads" (.ref hd) (putF "parts" (.ref pl) [])))):=fun b o hb n=>by rw[ag n];exact e2 _ _ (k1 b o hb n)
 have hp2':(upd H2 p (.ins C dx (putF "heads" (.ref hd) (putF "parts" (.ref pl) [])))) p=some (.ins C dx (putF "heads" (.ref hd) (putF "parts" (.ref pl) []))):=aa;have hl2':(upd H2 p (.ins C dx (putF "heads" (.ref hd) (putF "parts" (.ref pl) [])))) pl=some (.lst (pas.map V.ref)):=by rw[ag (A9 hpp)];exact hl2
 have hd2:(upd H2 p (.ins C dx (putF "heads" (.ref hd) (putF "parts" (.ref pl) [])))) hd=some (.dK (dS hm)):=by rw[ag (A9 hphd)];exact hhd
 have len2:(putF "heads" (.ref hd) (putF "parts" (.ref pl) [])).length<=2:=by have:=bg "heads" (.ref hd) (putF "parts" (.ref pl) []);omega
 generalize upd H2 p (.ins C dx (putF "heads" (.ref hd) (putF "parts" (.ref pl) [])))=H3 at k2 hp2' hl2' hd2 |-;intro un hun;have hpu:p≠un:=ax hp2' hun;have s4:=ad hun (.dT []);refine⟨_,rfl,p,C,dx,_,rfl,s4 _ _ hp2',T.cl,T.nU,small (by omega),?_⟩;have len3:(putF "unlikes" (.ref un) (putF "heads" (.ref hd) (putF "parts" (.ref pl) []))).length<=3:=by have:=bg "unlikes" (.ref un) (putF "heads" (.ref hd) (putF "parts" (.ref pl) []));omega
 have k3:Kp (· = p) H (upd (upd H3 un (.dT [])) p (.ins C dx (putF "unlikes" (.ref un) (putF "heads" (.ref hd) (putF "parts" (.ref pl) []))))):=fun b o hb n=>by rw[ag n];exact s4 _ _ (k2 b o hb n)
 have hp3:(upd (upd H3 un (.dT [])) p (.ins C dx (putF "unlikes" (.ref un) (putF "heads" (.ref hd) (putF "parts" (.ref pl) []))))) p=some (.ins C dx (putF "unlikes" (.ref un) (putF "heads" (.ref hd) (putF "parts" (.ref pl) [])))):=aa;have hl3:(upd (upd H3 un (.dT [])) p (.ins C dx (putF "unlikes" (.ref un) (putF "heads" (.ref hd) (putF "parts" (.ref pl) []))))) pl=some (.lst (pas.map V.ref)):=by rw[ag (A9 hpp)];exact s4 _ _ hl2'
 have hd3:(upd (upd H3 un (.dT [])) p (.ins C dx (putF "unlikes" (.ref un) (putF "heads" (.ref hd) (putF "parts" (.ref pl) []))))) hd=some (.dK (dS hm)):=by rw[ag (A9 hphd)];exact s4 _ _ hd2
 have hu3:(upd (upd H3 un (.dT [])) p (.ins C dx (putF "unlikes" (.ref un) (putF "heads" (.ref hd) (putF "parts" (.ref pl) []))))) un=some (.dT []):=by rw[ag (A9 hpu),aa]
 have un0:H un=none:=by
  cases qz:H un with
  | none=>rfl
  | some o=>have:=k2 un o qz (fun z=>hpu z.symm);rw[hun] at this;cases this
 generalize upd (upd H3 un (.dT [])) p (.ins C dx (putF "unlikes" (.ref un) (putF "heads" (.ref hd) (putF "parts" (.ref pl) []))))=H4 at k3 hp3 hl3 hd3 hu3 |-;intro fu hfu;have hpf:p≠fu:=ax hp3 hfu;have s5:=ad hfu (.dK []);refine⟨_,rfl,p,C,dx,_,rfl,s5 _ _ hp3,T.cl,T.nF,small (by omega),?_⟩;have KF:=kfs4 pl hd un fu;have len4:(putF "fulls" (.ref fu) (putF "unlikes" (.ref un) (putF "heads" (.ref hd) (putF "parts" (.ref pl) [])))).length<=4:=by have:=bg "fulls" (.ref fu) (putF "unlikes" (.ref un) (putF "heads" (.ref hd) (putF "parts" (.ref pl) [])));omega
 generalize putF "fulls" (.ref fu) (putF "unlikes" (.ref un) (putF "heads" (.ref hd) (putF "parts" (.ref pl) [])))=f4 at KF len4 |-;have k4:Kp (· = p) H (upd (upd H4 fu (.dK [])) p (.ins C dx f4)):=fun b o hb n=>by rw[ag n];exact s5 _ _ (k3 b o hb n)
 have hl4:(upd (upd H4 fu (.dK [])) p (.ins C dx f4)) pl=some (.lst (pas.map V.ref)):=by rw[ag (A9 hpp)];exact s5 _ _ hl3
 have K4:KnAt C (upd (upd H4 fu (.dK [])) p (.ins C dx f4)) p pl hd un fu hm []:=⟨⟨dx,f4,aa,KF⟩,by rw[ag (A9 hphd)];exact s5 _ _ hd3,by rw[ag (A9 hpu)];exact s5 _ _ hu3⟩
 have hp4:(upd (upd H4 fu (.dK [])) p (.ins C dx f4)) p=some (.ins C dx f4):=aa;have hfu4:(upd (upd H4 fu (.dK [])) p (.ins C dx f4)) fu=some (.dK (fk [])):=by rw[ag (A9 hpf),aa];rfl
 generalize upd (upd H4 fu (.dK [])) p (.ins C dx f4)=H5 at k4 hl4 K4 hp4 hfu4 |-;have hrows:=kr k4;obtain⟨fas,hfl,hfp⟩:=hrows;have hfal:=A8 hfp;obtain⟨fas0,hfl0,hfp0⟩:=hF;have hflp:fl≠p:=fun z=>by rw[z,h1] at hfl0;cases hfl0
 have hflu:fl≠un:=fun z=>by rw[z,un0] at hfl0;cases hfl0
 have efas:fas=fas0:=by
  have:=k4 _ _ hfl0 hflp;rw[hfl] at this;have e:=Ap this;injection e with e;exact Fx (fun a b h=>by injection h) |>.mp e
 subst efas;dsimp only;refine a2d (a:=tFor _ _ _) fun D1 hN1 hR1_ hC1_=>?_;refine⟨_,rfl,fl,rfl,⟨_,SqL.of hfl⟩,?_⟩;refine dm (xs:=fas.map V.ref) (fun i σ H'=>Kp (· = un) H5 H'/\∃(uk:List (List Key×V)) (z3:Option V),H' un=some (.dT uk)/\UkT uk (al Fs) (nots (Fs.take i))/\σ=[rQ p,rQ fl,rQ pl0,z3])
  ⟨fun _ _ q _=>q,[],none,K4.uns,⟨(fun q hq=>nomatch hq),(A5 _),(fun a b=>⟨(fun h=>nomatch h),(fun⟨_,h,_⟩=>by rw[B5] at h;cases h)⟩)⟩,rfl⟩ (fun i σ H' _ pv=>SqL.of (pv.1 _ _ hfl fun z=>hflu z)) ?_ ?_
 . rintro i x σ H' hi ⟨kk,uk,z3,hU,hUk,rfl⟩;obtain⟨b,hb,rfl⟩:=ii hi;obtain⟨r,hr1',hr2'⟩:=Paired.nth hfp hb;have hil:i<Fs.length:=(Am.mp hr1').1;obtain⟨k,u,v,rfl,hk⟩:=hrow r (Au hr1');have hR:RowAt K H' b [k,u,v]:=by
    rcases hr2' with (z|⟨o,z⟩)|z
    . exact .inl (.inl (kk _ _ z fun y=>by have y':b=un:=y;rw[y',K4.uns] at z;cases z))
    . exact .inl (.inr ⟨o,kk _ _ z fun y=>by have y':b=un:=y;rw[y',K4.uns] at z;cases z⟩)
    . exact .inr z
   have htk:Fs.take (i+1)=Fs.take i++[[k,u,v]]:=by rw[AR,hr1'];rfl
   have KN:=K4.tell kk hU;obtain⟨dx',fs',g1,g2⟩:=KN.ob;have hlu:=hUk.len;have hltk:(nots (Fs.take i)).length<=i:=AB (pk _) (by rw[A2];omega);refine⟨_,rfl,b,_,0,.str k,rfl,rfl,hR,rfl,rfl,_,rfl,iteB (fun c=>?_) (fun c=>?_)⟩
   . have hk':k="not" := by simpa using c
     subst hk';refine⟨_,rfl,p,dx',fs',rfl,g1,g2.meth "tell_unlike" (by decide),_,rfl,b,_,1,.str u,rfl,rfl,hR,rfl,_,rfl,b,_,2,.str v,rfl,rfl,hR,rfl,p,pl,hd,un,fu,hm,uk,u,v,rfl,KN,by omega,fun H6 k6 hu6=>?_⟩;rw[hok.hd,hok.hd] at hu6;refine⟨fun b o q n=>k6 b o (kk b o q n) n,_,_,hu6,?_,rfl⟩;rw[htk,a0v];exact hUk.step u v
   . have hk':¬ k="not" := by simpa using c
     refine⟨kk,uk,_,hU,?_,rfl⟩;rw[htk];rw[a4x _ hk'];exact hUk
 rintro σ H' ⟨kk,uk,z3,hU,hUk,rfl⟩;refine hN1 _ _ ?_;clear hN1 hR1_ hC1_ D1;rw[Ac,hfal,Bb] at hUk;have KN:=K4.tell kk hU;obtain⟨dx',fs',g1,g2⟩:=KN.ob;have hplu:pl≠un:=fun z=>by rw[z,K4.uns] at hl4;cases hl4
 have hkp:∀{b:GV} {o:HO},H b=some o->b≠p->H' b=some o:=fun {b o} hb n=>kk _ _ (k4 b o hb n) (fun z=>by have z':b=un:=z;rw[z',un0] at hb;cases hb);have hrowsP:HD (fun b r=>RowAt K H' b r) pas Ps:=Paired.mapP hPp fun b r hb=>by
  rcases hb with (z|⟨o,z⟩)|z
  . exact .inl (.inl (hkp z fun y=>by rw[y,h1] at z;cases z))
  . exact .inl (.inr ⟨o,hkp z fun y=>by rw[y,h1] at z;cases z⟩)
  . exact .inr z
 have hfun:fu≠un:=fun z=>by rw[z] at hfu;rw[hu3] at hfu;cases hfu
 have hhdf:hd≠fu:=fun z=>by rw[<- z] at hfu;rw[hd3] at hfu;cases hfu
 have hfu':H' fu=some (.dK (fk [])):=kk _ _ hfu4 hfun;have KS:KnS K C H' p pl hd un fu Fs Ps (nots Fs):=⟨⟨hm,uk,KN,hok,hUk⟩,⟨pas,kk _ _ hl4 hplu,hrowsP⟩,hhdf⟩
 have G0:=a6a (P:=Ps) hrow;refine⟨_,rfl,p,dx',fs',rfl,g1,g2.meth "find_fulls" (by decide),p,pl,hd,un,fu,Fs,Ps,nots Fs,rfl,KS,hfu',hrow,hPr,hP15,AB (pk Fs) hFl,G0,fun L Fl H6 k6 KS6 hfu6 A6 G6 hL6=>?_⟩;have hp5:H' p=some (.ins C dx f4):=kk _ _ hp4 (fun z=>hpu z);have hp6:H6 p=some (.ins C dx f4):=k6 _ _ hp5 (fun z=>z.elim hpu hpf);have fu0:H fu=none:=by
  cases qz:H fu with
  | none=>rfl
  | some o=>have:=k3 fu o qz (fun z=>hpf z.symm);rw[hfu] at this;cases this
 have hk6:∀{b:GV} {o:HO},H b=some o->b≠p->H6 b=some o:=fun {b o} hb n=>k6 _ _ (hkp hb n) (fun z=>z.elim (fun y=>by rw[y,un0] at hb;cases hb) (fun y=>by rw[y,fu0] at hb;cases hb));have hpl06:H6 pl0=some (.lst (pas.map V.ref)):=hk6 hP0 (fun z=>by rw[z,h1] at hP0;cases hP0);have hml:(pas.map V.ref).length=Ps.length:=by rw[Ac];exact hpal
 refine⟨_,rfl,pl0,_,rfl,.inl (SqL.of hpl06),_,rfl,(by rw[hml];omega),(by rw[hml];omega),?_⟩;rw[hml,AU];obtain⟨⟨hm6,uk6,KN6,hok6,hU6⟩,hrows6,_⟩:=id KS6;refine gu (AV Ps.length) (fun n => !g6 Ps (al Fs) n) (by rw[<- oz];exact sk) trivial (by rw[By];omega) (fun n hn H7 e7 Q' q'=>?_) (fun n H7 Q' q'=>⟨_,rfl,q'⟩) fun D H7 hD e7 hd7=>?_
 . have hn':n<Ps.length:=Bc.mp hn;have hs:Ps[n]?=some Ps[n]:=Ae hn';refine⟨_,rfl,p,dx,f4,rfl,e7 _ _ hp6,KF.meth "is_empty" (by decide),_,rfl,p,pl,hd,un,fu,Fs,Ps,L,n,_,rfl,KS6.same e7,hs,hPr _ (AX (Bc.mp hn)),fun b H8 e8 hb=>⟨b,rfl,?_⟩⟩;have:=q' H8 e8;rw[yx hs hb] at this;exact this
 have KN7:=KN6.same e7;have hp7:H7 p=some (.ins C dx f4):=e7 _ _ hp6;refine⟨_,rfl,p,C,dx,f4,rfl,hp7,T.cl,T.nE,(by omega),?_⟩;have hpD:D≠p:=fun z=>by rw[z,hp6] at hD;cases hD
 have kpp:Kp (· = p) H7 (upd H7 p (.ins C dx (putF "not_empty" (.ref D) f4))):=fun b o hb n=>by rw[ag n];exact hb
 refine q pl hd un fu L Fl D dx _ _ (fun b o hb n=>by rw[ag n];exact e7 _ _ (hk6 hb n)) ⟨⟨hm6,uk6,⟨⟨dx,_,aa,KF.more (.ref D) (by omega)⟩,by rw[ag (A9 hphd)];exact KN7.hds,by rw[ag (A9 hpu)];exact KN7.uns⟩,hok6,hU6⟩,je (hrows6.same e7) kpp (fun b hb=>⟨.ins C dx f4,by rw[show b=p from hb];exact hp7,.inr (.inr (.inr ⟨_,_,_,rfl⟩))⟩),hhdf⟩ (by rw[ag (A9 hpf)];exact e7 _ _ hfu6) A6 G6 aa (by rw[ao,if_pos rfl]) (KF.more (.ref D) (by omega)) (by rw[ag hpD];exact hd7) hL6
end
abbrev sf:HF:=top 35
def Ok(x:Str):Prop:=(PyData.str x).canLay0=true
theorem Ok.app{x y:Str}(hx:Ok x)(hy:Ok y):Ok (x++y):=by
 unfold Ok at*;simp only[BZ] at*;unfold Gn at*;rw[D9,Array.all_append,hx,hy];rfl
theorem lr{rs:List (List Str)}(h:∀r∈rs,∀y∈r,Ok y):EqOk (.list (rs.map dRow)):=by
 have h1:∀r:List Str,(∀y∈r,Ok y)->Bz (gy r)=true:=fun r h=>by
  unfold gy;induction r with
  | nil=>simp only[BM,Bz]
  | cons x l ih =>
   simp only[AI,Bz,Be];exact⟨h x (AK ..),ih fun y hy=>h y (Ay _ hy)⟩
 have h2:∀r:List Str,AZ (gy r)<=0:=fun r=>by
  unfold gy;induction r with
  | nil=>simp only[BM,AZ];exact Ah _
  | cons x l ih=>simp only[AI,AZ,CD];exact Nat.max_le.mpr ⟨Ah _,ih⟩
 have h3:∀rs:List (List Str),(∀r∈rs,∀y∈r,Ok y)->Bz (rs.map dRow)=true:=fun rs h=>by
  induction rs with
  | nil=>simp only[BM,Bz]
  | cons r l ih =>
   simp only[AI,Bz,Be,dRow,BZ];exact⟨h1 r (h r (AK ..)),ih fun r' hr'=>h r' (Ay _ hr')⟩
 have h4:∀rs:List (List Str),AZ (rs.map dRow)<=1:=fun rs=>by
  induction rs with
  | nil=>simp only[BM,AZ];omega
  | cons r l ih =>
   have:=h2 r;simp only[AI,AZ,dRow,CD];omega
 constructor
 . simp only[BZ];exact h3 rs h
 . have:=h4 rs;simp only[CD];omega
def gc:Sp:=fun vs H Q _=>∃(c:Int) (k:Nat),vs=[.int c,.int (k:Int)]/\k<=500/\∀n:Int,0<=n->Q (.int n) H
def a73:TS:=fun D σ H=>∃(c:Int) (k:Nat) (l:Int),σ=[iQ c,iQ (k:Int),iQ l,nQ,nQ]/\k<=500/\∀l z3,D.nx [iQ c,iQ (k:Int),iQ l,z3,nQ] H
def tOwn:TS:=fun D σ H=>∃(c l:Int) (z1 z3:Option V),σ=[iQ c,z1,iQ l,z3,nQ]/\(∀n:Int,0<=n->D.rt (.int n) H)/\D.nx σ H
section
variable{P:Gx}{w:G9}{K:Aa}{mg:Str->Option GQ}{base:HB}{f:GV}{fd:HA}
theorem scMixed:FnScope ["_law_cell","_law_k","_law_left","_law_j","_law_number"] ["_law_cell","_law_k"] (ap sf):=⟨rfl,rfl,rfl,by decide,rfl,by decide,by decide⟩
theorem a2a(C:Con K mg w)(F:Fun K "_law_mixed" "_law_mixed" sf f fd):FnOk P w K mg base CX0 1 f fd ["_law_cell","_law_k"] gc:=by
 refine F.okQ scMixed (fun vs H Q E h=>?_) (fun cdv A outer s0 H vs Q E hr h=>?_)
 . obtain⟨c,k,rfl,_⟩:=h;rfl
 obtain⟨c,k,rfl,hk,q⟩:=h;have nd:=scMixed.nd;refine⟨_,ac (ak (i:=2) nd rfl (Or.inl rfl) (ai bo (qv 0) ab))
  (ac (gf (t':=a73) (cc AA rfl (ck rfl C.range (ce (ai bu (ai bo (qv 1) ab) (ai bb (qv 1) ab)) a0)) (bw (i:=3) nd rfl (Or.inl rfl)) (ac (bi (QW.qt (gn (az c3 (qv 2) ab (b0 _)) (ie (az c3 (qv 2) (vi ll ab) (b0 _))))) (af a1s) be)
  (af (ak (i:=2) nd rfl (Or.inl rfl) (ai sj (qv 2) ab))))) (fun D σ H hh=>by
   obtain⟨c,k,l,rfl,hk,go⟩:=hh;refine⟨_,rfl,_,_,rfl,rfl,(show CDiv _ 70 from⟨by decide,by decide⟩),_,rfl,_,_,rfl,rfl,(show (0:Int)<70 by decide),_,_,rfl,rfl,_,rfl,?_,?_,?_⟩
   . omega
   . omega
   refine di (lo:=0) (n:=((k:Int) / 70+(k:Int) % 70).toNat) (fun _ σ H'=>∃(l:Int) (z3:Option V),H'=H/\σ=[iQ c,iQ (k:Int),iQ l,z3,nQ]) ⟨_,none,rfl,rfl⟩ ?_ ?_
   . rintro i σ H' hi ⟨l,z3,rfl,rfl⟩;refine⟨_,rfl,rfl,_,rfl,iteB (fun _=>go _ _) (fun _=>?_)⟩;refine⟨_,rfl,_,rfl,rfl,_,rfl,iteB (fun _=>go _ _) (fun _=>?_)⟩;exact⟨_,rfl,_,_,rfl,rfl,(show vg _ 2147483587 from⟨by decide,by decide⟩),_,_,rfl,rfl⟩
   . rintro σ H' ⟨l,z3,rfl,rfl⟩;exact go _ _))
  (ac (gf (t':=tOwn) (bi (QW.qt (ee (az c3 (ai bb (qv 0) ab) ab (b0 _)) (ee (az gz (qv 2) ab (b0 _)) (dt (az gz (qv 2) (vi ll ab) (b0 _)))))) (af (aw (ai bb (qv 2) ab))) be) (fun D σ H hh=>by
   obtain⟨c,l,z1,z3,rfl,go,nx⟩:=hh;refine⟨_,rfl,_,_,rfl,rfl,(show (0:Int)<2 by decide),rfl,_,rfl,iteB (fun _=>?_) (fun _=>nx)⟩;refine⟨_,rfl,rfl,_,rfl,iteB (fun _=>?_) (fun _=>nx)⟩;refine⟨_,rfl,_,rfl,rfl,_,rfl,iteB (fun _=>?_) (fun _=>nx)⟩;exact⟨_,rfl,_,_,rfl,rfl,(show (0:Int)<2147483587 by decide),go _ (AN _ (by decide))⟩))
  (ac (ak (i:=4) nd rfl (Or.inl rfl) (ai bb (ai bu (ai bu (ai g5 (ai bb (qv 0) ab) ab) (ai g5 (ai g5 (qv 1) (qv 1)) ab)) ab) ab))
  (ac (ak (i:=4) nd rfl (Or.inl rfl) (ai bb (ai g5 (qv 4) (qv 4)) ab))
  (af (aw (ai bb (ai g5 (qv 4) (ai bu (qv 4) ab)) ab))))))),?_⟩
 refine⟨_,rfl,_,_,rfl,rfl,(show CDiv _ 2 from⟨by decide,by decide⟩),?_⟩;refine⟨c,k,_,rfl,hk,fun l z3=>?_⟩;refine⟨c,l,_,_,rfl,q,?_⟩;have b1:=AN c (show (2147483647:Int)≠0 by decide);have b2:=AS c (show (0:Int)<2147483647 by decide);refine⟨_,rfl,_,_,rfl,rfl,(show (0:Int)<2147483647 by decide),_,_,rfl,rfl,.inl ⟨by omega,by omega⟩,_,rfl,_,rfl,_,_,rfl,rfl,.inl ⟨by omega,by omega⟩,_,_,rfl,rfl,.inr ⟨by decide,by decide⟩,_,_,rfl,rfl,_,_,rfl,rfl,_,_,rfl,rfl,(show (0:Int)<2147483629 by decide),?_⟩;generalize (c % 2147483647*48271+(k:Int)*(k:Int)*69621+7919)=y;have b3:=AN y (show (2147483629:Int)≠0 by decide);have b4:=AS y (show (0:Int)<2147483629 by decide);refine⟨_,rfl,_,rfl,_,_,rfl,rfl,.inl ⟨by omega,by omega⟩,_,_,rfl,rfl,(show (0:Int)<2147483587 by decide),?_⟩;generalize (y % 2147483629)*(y % 2147483629)=y2;have b5:=AN y2 (show (2147483587:Int)≠0 by decide);have b6:=AS y2 (show (0:Int)<2147483587 by decide);refine⟨_,rfl,_,rfl,_,_,rfl,rfl,_,_,rfl,rfl,.inl ⟨by omega,by omega⟩,_,_,rfl,rfl,(show (0:Int)<2147483563 by decide),?_⟩;exact q _ (AN _ (by decide))
end
end K31
namespace L2
theorem a2n{z:Str}{g:TG}{tb:TS}{D:Ends}{σ:St}{H:Hp}(Pv:Nat->St->Hp->Prop)(h0:Pv 0 σ H)(hs:∀i c σ H,i<z.cps.size->z.cps.toList[i]?=some c->Pv i σ H->g (.str ⟨#[c]⟩) σ H fun σ2 H2=>tb {D with nx:=Pv (i+1),ct:=Pv (i+1),bk:=D.nx} σ2 H2)(hd:∀σ H,Pv z.cps.size σ H->D.nx σ H):
 ∃W:Nat->Nat->St->Hp->Prop,(∃m,W 0 m σ H)/\∀i m σ H,W i m σ H->
  ((Its z).stop i H/\D.nx σ H)\/((Its z).go i H/\∃N:St->Hp->Prop,(∀σ' H',N σ' H'->∃m',m'<m/\W (i+1) m' σ' H')/\∀x H',(Its z).yld i H x H'->g x σ H' fun σ2 H2=>tb {D with nx:=N,ct:=N,bk:=D.nx} σ2 H2):=by
 refine⟨fun i m σ H=>m=z.cps.size-i/\i<=z.cps.size/\Pv i σ H,⟨z.cps.size,by simp,A5 _,h0⟩,?_⟩;rintro i m σ H ⟨rfl,hi,p⟩;by_cases hlt:i<z.cps.size
 . refine .inr ⟨hlt,Pv (i+1),fun σ' H' p'=>⟨z.cps.size-(i+1),by omega,rfl,hlt,p'⟩,fun x H' y=>?_⟩;obtain⟨e,c,hc,y⟩:=y;subst e y;exact hs i c σ _ hlt (by rw[Bk];exact hc) p
 . have e:i=z.cps.size:=by omega
   subst e;exact .inl ⟨Ah _,hd σ H p⟩
end L2
namespace K31
open L2 Mir Kn
abbrev vn:HF:=top 36
abbrev qe:HF:=top 37
structure Nm(k:Nat)(x:Str):Prop where
 len:x.length<=k
 ok:Ok x
theorem Nm.mono{k k':Nat}{x:Str}(h:Nm k x)(hk:k<=k'):Nm k' x:=⟨AB h.len hk,h.ok⟩
theorem ok_iff{x:Str}:Ok x↔∀c∈x.cps.toList,c<0x110000:=by
 unfold Ok;simp only[BZ];unfold Gn;rw[<- Array.all_toList,BD];simp only[decide_eq_true_eq]
theorem j3{z:Str}(h:Ok z){c:Nat}(hc:c∈z.cps.toList):Nm 1 ⟨#[c]⟩:=⟨Ah _,ok_iff.mpr fun d hd=>by
 simp only[Ar,Ax,or_false] at hd;subst hd;exact ok_iff.mp h _ hc⟩
theorem Nm.app{j k:Nat}{x y:Str}(hx:Nm j x)(hy:Nm k y):Nm (j+k) (x++y):=⟨by
 have h1:=hx.len;have h2:=hy.len;have:(x++y).length=x.length+y.length:=Str.length_append x y;omega,hx.ok.app hy.ok⟩
theorem Nm.cut{k:Nat}{x:Str}(hx:Nm k x)(lo hi:Option Int):Nm k (cutS x lo hi):=by
 constructor
 . have:=hx.len;have e:(cutS x lo hi).length<=x.length:=by
    show ((x.cps.toList.drop (HT.sIx x.length 0 lo)).take _).toArray.size<=x.cps.size;rw[As,A2,Bd,Az];omega
   omega
 . refine ok_iff.mpr fun c hc=>ok_iff.mp hx.ok c ?_;have hc':c∈(x.cps.toList.drop (HT.sIx x.length 0 lo)).take (HT.sIx x.length x.length hi-HT.sIx x.length 0 lo):=hc;exact Dn (AQ hc')
theorem oh{α:Type}{xs:List α}{i:Int}(h0:0<=i)(h1:i<xs.length):∃v,atI xs i=some v/\v∈xs:=by
 obtain⟨j,rfl⟩:∃j:Nat,i=(j:Int):=⟨i.toNat,by omega⟩
 have hj:j<xs.length:=by omega
 exact⟨xs[j],ef (by rw[Ae hj]),AX hj⟩
theorem cu{n:Nat}(h:n<=1000):n<=GX:=AB h (by decide)
theorem ft{n:Nat}(h:n<=1000):n<GX:=AL h (by decide)
def jo(K:Aa):Sp:=fun vs H Q _=>∃(c:Int) (n:Nat),vs=[.int c,.int (n:Int)]/\n<=10/\∀l xs H',Same H H'->H' l=some (.lst ((xs:List Str).map V.str))->xs.length=n->(∀x∈xs,Nm 40 x/\¬ x∈Mir.noNames)->Q (.ref l) H'
def signsT:Str := "abcdefghijklmnopqrstuvwxyz0123456789"
def wordsT:List Str:=["nil","any","is","not","cell","stretch","tree","nothing","then","with"]
theorem a0t:wordsT=Mir.noNames:=by decide
theorem qo{x:Str}{pre:List Nat}{c:Nat}(h:x.cps.toList=pre++[c])(d:Nat):cutS x none (some (-1))++(⟨#[d]⟩:Str)=⟨(pre++[d]).toArray⟩:=by
 have hl:x.length=pre.length+1:=by
  have:x.cps.toList.length=pre.length+1:=by rw[h,Aj];rfl
  rw[Az] at this;exact this
 have h1:(cutS x none (some (-1))).cps=pre.toArray:=by
  show (List.take (HT.sIx x.length x.length (some (-1))-HT.sIx x.length 0 none) (List.drop (HT.sIx x.length 0 none) x.cps.toList)).toArray=_;have e1:HT.sIx x.length x.length (some (-1))=pre.length:=by
   unfold HT.sIx;simp only[hl];rw[if_pos (by decide)];omega
  have e2:HT.sIx x.length 0 none=0:=rfl;rw[e1,e2,Dz,Dk,h,List.take_left'];rfl
 have h2:(cutS x none (some (-1))++(⟨#[d]⟩:Str)).cps=(cutS x none (some (-1))).cps ++ #[d]:=D9 _ _;have h3:∀a b:Str,a.cps=b.cps->a=b:=fun a b e=>by cases a;cases b;cases e;rfl
 refine h3 _ _ ?_;rw[h2,h1];show pre.toArray ++ #[d]=(pre++[d]).toArray;simp
theorem fq{α:Type}[DecidableEq α]:∀{l m:List α},l.Nodup->(∀x∈l,x∈m)->l.length<=m.length
 | [],_,_,_=>A5 _
 | x::l,m,hn,hm=>by
  have hx:=hm x (AK ..);obtain⟨h1,h2⟩:=Cg.mp hn;have h3:=fq (l:=l) (m:=m.erase x) h2 fun y hy=>(EX (fun z=>h1 (by rw[<- z];exact hy))).mpr (hm y (Ay _ hy));rw[Eg hx] at h3;have:=E6 hx;rw[AM];omega
theorem a5v{pre:List Nat}{ns:List Str}{z:Str}(hz:z.cps.toList.Nodup)(hl:z.cps.size=26)(hn:ns.length<26):¬ ∀k c,k<26->z.cps.toList[k]?=some c->(⟨(pre++[c]).toArray⟩:Str)∈ns:=by
 intro h;have h1:(z.cps.toList.map fun c=>(⟨(pre++[c]).toArray⟩:Str)).Nodup:=List.pairwise_map.mpr (List.Pairwise.imp (fun {a b} hab e=>hab (by
  have e2:=congrArg (fun s:Str=>s.cps.toList) e;simpa using e2)) hz)
 have h2:=fq (m:=ns) h1 fun x hx=>by
  obtain⟨c,hc,rfl⟩:=A3.mp hx;obtain⟨k,hk,e⟩:=List.getElem_of_mem hc;rw[Az,hl] at hk;exact h k c hk (List.getElem?_eq_some_iff.mpr ⟨by rw[Az];omega,e⟩)
 rw[Ac,Az,hl] at h2;omega
theorem ku:Ok signsT:=show (PyData.str signsT).canLay0=true by decide
theorem a1i:∀x∈wordsT,Nm 40 x:=fun x hx=>by
 have h1:wordsT.all (fun x=>decide (x.length<=40) && (PyData.str x).canLay0)=true:=by decide
 have h2:=BD.mp h1 x hx;rw[Be] at h2;exact⟨of_decide_eq_true h2.1,h2.2⟩
section
variable{P:Gx}{w:G9}{K:Aa}{mg:Str->Option GQ}{base:HB}{f:GV}{fd:HA}
theorem scFree:FnScope ["_law_cell","_law_many","_law_signs","_law_names_here","_law_k","_law_name","_law_left","_law_j","_law_sign"] ["_law_cell","_law_many"] (ap vn):=⟨rfl,rfl,rfl,by decide,rfl,by decide,by decide⟩
theorem a3v(C:Con K mg w)(F:Fun K "_law_free_names" "_law_free_names" vn f fd):FnOk P w K mg base CX0 1 f fd ["_law_cell","_law_many"] (jo K):=by
 refine F.okQ scFree (fun vs H Q E h=>?_) (fun cdv A outer s0 H vs Q E hr h=>?_)
 . obtain⟨c,k,rfl,_⟩:=h;rfl
 obtain⟨c,n,rfl,hn,q⟩:=h;have nd:=scFree.nd;refine⟨_,ac (ak (i:=2) nd rfl (Or.inl rfl) bv)
  (ac (ak (i:=3) nd rfl (Or.inl rfl) (bn (ay (ay (ay (ay (ay (ay (ay (ay (ay (ay a0))))))))))))
  (ac (cc AA rfl (ck rfl C.range (ae (qv 1) a0)) (bw (i:=4) nd rfl (Or.inl rfl)) (ac (ak (i:=5) nd rfl (Or.inl rfl) (ah lh (qv 2) (ai bb (ai bo (qv 0) ab) ab) (fun _ _=>rfl)))
  (ac (ak (i:=6) nd rfl (Or.inl rfl) (ai bo (qv 0) ab))
  (ac (cc AA rfl (ck rfl C.range (ce (ai bb (qv 0) ab) a0)) (bw (i:=7) nd rfl (Or.inl rfl)) (ac (ak (i:=5) nd rfl (Or.inl rfl) (ai g9 (qv 5) (ah lh (qv 2) (ai bb (qv 6) ab) (fun _ _=>rfl))))
  (af (ak (i:=6) nd rfl (Or.inl rfl) (ai bo (qv 6) ab)))))
  (ac (cc AA rfl (a6p (dk a02 (qv 2) fc (dq ab))) (bw (i:=8) nd rfl (Or.inl rfl)) (af (bi (az nv (qv 5) (qv 3) (by with_unfolding_all rfl)) (af (ak (i:=5) nd rfl (Or.inl rfl) (ai g9 (dk a02 (qv 5) fc (dq (vi ll ab))) (qv 8)))) be)))
  (ac (bq (cy (K:=K) rfl A0 AE AF bz (qv 3) (ae (qv 5) a0)))
  (af (ak (i:=0) nd rfl (Or.inl rfl) (ai sj (qv 0) (ai g5 ab (ai a6e ab ab)))))))))))
  (af (aw (dk fm (qv 3) (dq ab) fc))))),?_⟩
 refine⟨(by decide),fun l1 hl1=>?_⟩;have e0:=ad hl1 (.lst (wordsT.map V.str));have hL0:(upd H l1 (.lst (wordsT.map V.str))) l1=some (.lst (wordsT.map V.str)):=aa
 replace e0:Same H (upd H l1 (.lst (wordsT.map V.str))):=e0
 show tSeq _ _ _ _ (upd H l1 (.lst (wordsT.map V.str)));generalize upd H l1 (.lst (wordsT.map V.str))=H1 at e0 hL0 |-;refine⟨_,rfl,_,rfl,by omega,(by omega),?_⟩;refine di (lo:=0) (n:=(n:Int).toNat) (fun i σ H2=>∃(c:Int) (ns:List Str) (z4 z5 z6 z7 z8:Option V),σ=[iQ c,iQ (n:Int),some (.str signsT),rQ l1,z4,z5,z6,z7,z8]/\Same H H2/\H2 l1=some (.lst (ns.map V.str))/\ns.length=10+i/\(∀x∈ns,Nm 40 x)/\ns.take 10=wordsT/\∀x∈ns.drop 10,¬ x∈wordsT) ⟨c,wordsT,none,none,none,none,none,rfl,e0,hL0,rfl,a1i,rfl,fun x hx=>by cases hx⟩ ?_ ?_
 . rintro i σ H2 hi ⟨c,ns,z4,z5,z6,z7,z8,rfl,e2,hL2,hl2,hn2,hw2,hx2⟩;have hi10:i<10:=by omega
   have hsl:signsT.length<=GX:=by decide
   have hs36:signsT.cps.toList.length=36:=by decide
   have m26:=AN (c / 8) (show (26:Int)≠0 by decide);have m26':=AS (c / 8) (show (0:Int)<26 by decide);obtain⟨c1,hc1,hm1⟩:=oh (xs:=signsT.cps.toList) (i:=c / 8 % 26) m26 (by rw[hs36];omega);refine⟨_,rfl,_,rfl,_,_,rfl,rfl,(show CDiv _ 8 from⟨by decide,by decide⟩),_,_,rfl,rfl,(show (0:Int)<26 by decide),signsT,_,c1,rfl,rfl,hsl,hc1,?_⟩;refine⟨_,rfl,_,_,rfl,rfl,(show CDiv _ 208 from⟨by decide,by decide⟩),?_⟩;have m8:=AN c (show (8:Int)≠0 by decide);have m8':=AS c (show (0:Int)<8 by decide);refine⟨_,rfl,_,_,rfl,rfl,(show (0:Int)<8 by decide),_,rfl,by omega,by omega,?_⟩;refine di (lo:=0) (n:=(c % 8).toNat) (fun j σ H3=>H3=H2/\∃(nm:Str) (l:Int) (z7:Option V),σ=[iQ c,iQ (n:Int),some (.str signsT),rQ l1,iQ (0+(i:Int)),some (.str nm),iQ l,z7,z8]/\Nm (1+j) nm/\∃pre c,nm.cps.toList=pre++[c]) ⟨rfl,_,_,_,rfl,j3 ku hm1,[],c1,rfl⟩ ?_ ?_
   . rintro j σ H3 hj ⟨rfl,nm,l,z7,rfl,hnm,hpr⟩;obtain⟨c2,hc2,hm2⟩:=lq (xs:=signsT.cps.toList) (m:=36) (i:=l) (by rw[hs36];rfl) (by decide);have hlen:=hnm.len;refine⟨_,rfl,_,rfl,_,rfl,_,_,rfl,rfl,(show (0:Int)<36 by decide),signsT,_,c2,rfl,rfl,hsl,hc2,nm,_,rfl,rfl,cu (by show nm.length+1<=1000;omega),?_⟩;exact⟨_,rfl,_,_,rfl,rfl,(show CDiv _ 36 from⟨by decide,by decide⟩),rfl,_,_,_,rfl,hnm.app (j3 ku hm2),nm.cps.toList,c2,by rw[D9,Fg]⟩
   rintro σ H3 ⟨rfl,nm,l,z7,rfl,hnm,pre,c0,hpre⟩;have hnm8:Nm 8 nm:=hnm.mono (by omega);clear hnm;have hcm:∀d∈(cutS signsT none (some 26)).cps.toList,d∈signsT.cps.toList:=fun d hd=>by
    have hd':d∈(signsT.cps.toList.drop (HT.sIx signsT.length 0 none)).take (HT.sIx signsT.length signsT.length (some 26)-HT.sIx signsT.length 0 none):=hd;exact Dn (AQ hd')
   have hcz:(cutS signsT none (some 26)).cps.size=26:=by decide
   refine⟨_,rfl,_,rfl,signsT,rfl,hsl,_,rfl,?_⟩;refine a2n (fun j σ H4=>H4=H3/\∃(nm:Str) (z8:Option V),σ=[iQ c,iQ (n:Int),some (.str signsT),rQ l1,iQ (0+(i:Int)),some (.str nm),iQ l,z7,z8]/\Nm (8+j) nm/\(∃c,nm.cps.toList=pre++[c])/\(nm∈ns->∀k c,k<j->(cutS signsT none (some 26)).cps.toList[k]?=some c->(⟨(pre++[c]).toArray⟩:Str)∈ns)) ⟨rfl,_,_,rfl,hnm8,⟨c0,hpre⟩,fun _ k c hk=>absurd hk (FZ k)⟩ ?_ ?_
   . rintro j d σ H4 hj hdj ⟨rfl,nm,z8,rfl,hnm,⟨c9,hc9⟩,hall⟩;have hd:=Au hdj;have hlen:=hnm.len;rw[hcz] at hj;refine⟨_,rfl,_,rfl,l1,_,rfl,.inl (SqL.of hL2),rfl,(by rw[List.all_map];exact List.all_eq_true.mpr fun _ _=>rfl),_,rfl,iteB (fun cin=>?_) (fun cin=>⟨rfl,_,_,rfl,hnm.mono (by omega),⟨c9,hc9⟩,fun z=>by
      have z':inV (.str nm) (ns.map V.str)=true:=(kq nm ns).trans (decide_eq_true z);exact absurd (z'.symm.trans cin) (by decide)⟩)⟩
     have hin:nm∈ns:=of_decide_eq_true ((kq nm ns).symm.trans cin);have hc:=hnm.cut none (some (-1));have hcl:=hc.len;exact⟨_,rfl,_,rfl,_,rfl,nm,rfl,cu (by omega),_,rfl,_,_,rfl,rfl,cu (by show _+1<=1000;omega),rfl,_,_,rfl,hc.app (j3 ku (hcm d hd)),⟨d,by rw[qo hc9 d]⟩,fun z k c hk hkc=>by
      by_cases e:k=j
      . subst e;rw[hdj] at hkc;cases hkc;rw[qo hc9 d] at z;exact z
      . exact hall hin k c (by omega) hkc⟩
   rintro σ H4 ⟨rfl,nm,z8,rfl,hnm,_,hall⟩;rw[hcz] at hnm hall;have hfree:¬ nm∈ns:=fun z=>a5v (pre:=pre) (ns:=ns) (z:=cutS signsT none (some 26)) (by decide) hcz (by omega) (hall z);refine⟨_,rfl,(.inl ⟨rfl,_,SqL.of hL2⟩),_,rfl,l1,ns.map V.str,_,rfl,rfl,hL2,ft (by rw[Ac];omega),?_⟩;refine⟨_,rfl,_,_,rfl,rfl,(show CPow 36 7 from⟨by decide,by decide,by decide⟩),_,_,rfl,rfl,.inl ⟨by decide,by decide⟩,_,_,rfl,rfl,(show vg _ _ from⟨by decide,by decide⟩),?_⟩;refine⟨_,ns++[nm],_,_,_,_,_,rfl,?_,?_,?_,?_,?_,?_⟩
   . exact fun b o hb=>by rw[ag (ax hb hl1)];exact e2 b o hb
   . rw[aa,A1];rfl
   . rw[Aj,AD];omega
   . intro x hx;rcases Ad.mp hx with hx|hx
     . exact hn2 x hx
     . rw[Ai.mp hx];exact hnm.mono (by omega)
   . rw[List.take_append_of_le_length (by omega)];exact hw2
   . intro x hx;rw[List.drop_append_of_le_length (by omega)] at hx;rcases Ad.mp hx with hx|hx
     . exact hx2 x hx
     . rw[Ai.mp hx,<- hw2];exact fun z=>hfree (AQ z)
 rintro σ H2 ⟨c,ns,z4,z5,z6,z7,z8,rfl,e2,hL2,hl2,hn2,hw2,hx2⟩;refine⟨_,rfl,_,rfl,l1,_,rfl,SqL.of hL2,fun p hp=>?_⟩;have hcv:cutV (ns.map V.str) (some 10) none=(ns.drop 10).map V.str:=by
  unfold cutV;rw[Ac,show HT.sIx ns.length 0 (some 10)=10 by show min 10 ns.length=10;omega,show HT.sIx ns.length ns.length none=ns.length from rfl,<- Fb,Bf (by rw[Ac,Bd];omega)]
 rw[hcv];refine q p (ns.drop 10) _ (e2.trans (ad hp _)) aa (by rw[Bd];omega) fun x hx=>⟨hn2 x (Dn hx),a0t ▸ hx2 x hx⟩
theorem sv{X:Cx}:du X (.type "int") (fun xs H Q=>∃b:Bool,xs=[.bl b]/\Q (.int (if b=true then 1 else 0)) H):=by
 intro pins s σ H xs us Q I r h;obtain⟨b,rfl,q⟩:=h;obtain⟨u,rfl,ru⟩:=r.one;cases ru;exact PySem.call_int_bool ⟨.int _,H,I.tok _,⟨_,rfl⟩,q⟩
theorem scNames:FnScope ["_law_cell","_law_many","_law_letters","_law_at","_law_names_here","_law_k","_law_name","_law_j","_law_step"] ["_law_cell","_law_many"] (ap qe):=⟨rfl,rfl,rfl,by decide,rfl,by decide,by decide⟩
def lettT:Str := "abcdefghijkmnopqruvwxz"
def figT:Str := "0123456789"
theorem a3r:Ok lettT:=show (PyData.str lettT).canLay0=true by decide
def evenS(x:Str):Prop:=∀c∈x.cps.toList,c∈lettT.cps.toList++figT.cps.toList
theorem a4h{x:Str}(h:evenS x):¬ x∈Mir.noNames:=fun hx=>by
 have h1:Mir.noNames.all (fun y=>y.cps.toList.any fun c => !decide (c∈lettT.cps.toList++figT.cps.toList))=true:=by decide
 obtain⟨c,hc,hn⟩:=Ba.mp (BD.mp h1 x hx);rw[decide_eq_true (h c hc)] at hn;cases hn
theorem evenS.app{x:Str}(h:evenS x){c:Nat}(hc:c∈lettT.cps.toList++figT.cps.toList):evenS (x++⟨#[c]⟩):=fun d hd=>by
 rw[D9,Fg] at hd;rcases Ad.mp hd with z|z
 . exact h d z
 . rw[Ai.mp z];exact hc
theorem a6i:Ok figT:=show (PyData.str figT).canLay0=true by decide
inductive EvI(H2:Hp)(c n at0:Int)(l1:GV)(i j:Nat)(σ:St)(H3:Hp):Prop
 | mk (h0:H3=H2)(nm:Str)(z8 z9:Option V)(h1:σ=[iQ c,iQ n,some (.str lettT),iQ at0,rQ l1,iQ (0+(i:Int)),some (.str nm),z8,z9])(h2:Nm j nm)(h3:evenS nm):EvI H2 c n at0 l1 i j σ H3
theorem a2e{gF:GV}{dF:HA}(C:Con K mg w)(F:Fun K "_law_names" "_law_names" qe f fd)(GF:FnOk P w K mg base CX0 1 gF dF ["_law_cell","_law_many"] (jo K))(cF:Cal K mg "_law_free_names" gF dF ["_law_cell","_law_many"]):FnOk P w K mg base CX0 2 f fd ["_law_cell","_law_many"] (jo K):=by
 refine F.okQ scNames (fun vs H Q E h=>?_) (fun cdv A outer s0 H vs Q E hr h=>?_)
 . obtain⟨c,k,rfl,_⟩:=h;rfl
 obtain⟨c,n,rfl,hn,q⟩:=h;have nd:=scNames.nd;refine⟨_,ac (bi (az c3 (ai bb (qv 0) ab) ab (b0 _)) (af (aw (bd GF hr rfl cF.name cF.keep cF.bind .nil ar (ce (ai bo (qv 0) ab) (ae (qv 1) a0))))) be)
  (ac (ak (i:=0) nd rfl (Or.inl rfl) (ai bo (qv 0) ab))
  (ac (ak (i:=2) nd rfl (Or.inl rfl) bv)
  (ac (ak (i:=3) nd rfl (Or.inl rfl) (ai bb (ai bo (qv 0) ab) (ai bu ab (ai bb (qv 0) ab))))
  (ac (ak (i:=4) nd rfl (Or.inl rfl) (bn a0))
  (ac (cc AA rfl (ck rfl C.range (ae (qv 1) a0)) (bw (i:=5) nd rfl (Or.inl rfl)) (ac (ak (i:=6) nd rfl (Or.inl rfl) bv)
  (ac (cc AA rfl (ck rfl C.range (ce (ai bu ab (ai bb (qv 0) ab)) a0)) (bw (i:=7) nd rfl (Or.inl rfl)) (ac (ak (i:=8) nd rfl (Or.inl rfl) (ai bu (ai g5 (qv 7) (ai bb (ai bo (qv 0) ab) ab)) (ai g5 (qv 5) (dj sv rfl C.int PyProof.Rows.boot_int (g0 (ff c3 (qv 7) (qv 3) (b0 _)) a0)))))
  (af (bi (QW.qt (ee (az a2u (qv 7) ab (b0 _)) (dt (az c3 (ai bb (ai bu (ai bo (qv 0) ab) (qv 7)) ab) ab (b0 _))))) (af (ak (i:=6) nd rfl (Or.inl rfl) (ai g9 (qv 6) (ah lh bv (ai bb (ai bu (ai bo (qv 0) ab) (qv 8)) ab) (fun _ _=>rfl))))) (af (ak (i:=6) nd rfl (Or.inl rfl) (ai g9 (qv 6) (ah lh (qv 2) (ai bb (ai bu (ai bo (qv 0) ab) (qv 8)) ab) (fun _ _=>rfl)))))))))
  (af (bq (cy (K:=K) rfl A0 AE AF bz (qv 4) (ae (qv 6) a0)))))))
  (af (aw (qv 4)))))))),?_⟩
 refine⟨_,rfl,_,_,rfl,rfl,(show (0:Int)<2 by decide),rfl,_,rfl,iteB (fun _=>?_) (fun _=>?_)⟩
 . exact⟨_,rfl,_,_,rfl,rfl,(show CDiv _ 2 from⟨by decide,by decide⟩),_,rfl,c / 2,n,rfl,hn,q⟩
 refine⟨_,rfl,_,_,rfl,rfl,(show CDiv _ 2 from⟨by decide,by decide⟩),?_⟩;have m8:=AN (c / 2) (show (8:Int)≠0 by decide);refine⟨_,rfl,_,_,rfl,rfl,(show CDiv _ 8 from⟨by decide,by decide⟩),_,rfl,_,_,rfl,rfl,(show (0:Int)<8 by decide),_,_,rfl,rfl,_,_,rfl,rfl,(show (0:Int)<1+c / 2 % 8 by omega),?_⟩;refine⟨(by decide),fun l1 hl1=>?_⟩;refine⟨_,rfl,_,rfl,by omega,(by omega),?_⟩;refine di (lo:=0) (n:=(n:Int).toNat) (fun i σ H2=>∃(c at0:Int) (ns:List Str) (z6 z7 z8 z9:Option V),σ=[iQ c,iQ (n:Int),some (.str lettT),iQ at0,rQ l1,z6,z7,z8,z9]/\Same H H2/\H2 l1=some (.lst (ns.map V.str))/\ns.length=i/\∀x∈ns,Nm 40 x/\¬ x∈Mir.noNames) ⟨_,_,[],none,none,none,none,rfl,ad hl1 _,aa,rfl,fun x hx=>by cases hx⟩ ?_ ?_
 . rintro i σ H2 hi ⟨c,at0,ns,z6,z7,z8,z9,rfl,e2,hL2,hl2,hn2⟩;have hi10:i<10:=by omega
   have m8:=AN c (show (8:Int)≠0 by decide);have m8':=AS c (show (0:Int)<8 by decide);have hsl:lettT.length<=GX:=by decide
   have hs22:lettT.cps.toList.length=22:=by decide
   have hfl:figT.length<=GX:=by decide
   have hf10:figT.cps.toList.length=10:=by decide
   refine⟨_,rfl,_,_,rfl,rfl,(show (0:Int)<8 by decide),_,_,rfl,rfl,_,rfl,by omega,by omega,?_⟩;refine di (lo:=0) (n:=(1+c % 8).toNat) (fun j σ H3=>EvI H2 c (n:Int) at0 l1 i j σ H3) ⟨rfl,_,_,_,rfl,⟨Ah _,show (PyData.str ("":Str)).canLay0=true by decide⟩,(fun c hc=>by cases hc)⟩ ?_ ?_
   . rintro j σ H3 hj ⟨rfl,nm,z8,z9,rfl,hnm,hev⟩;have hlen:=hnm.len;have hj8:j<8:=by omega
     refine⟨_,rfl,_,rfl,_,_,rfl,rfl,(show CDiv _ 64 from⟨by decide,by decide⟩),_,_,rfl,rfl,(show (0:Int)<5 by decide),_,_,rfl,rfl,.inl ⟨by omega,by omega⟩,?_⟩;refine⟨_,rfl,_,rfl,_,rfl,rfl,_,rfl,_,_,rfl,rfl,.inl ⟨by omega,by omega⟩,_,_,rfl,rfl,?_⟩;generalize (if decide (V.int (0+(j:Int))=V.int at0)=true then (1:Int) else 0)=d;obtain⟨c1,hc1,hm1⟩:=lq (xs:=lettT.cps.toList) (m:=22) (i:=c / 320+((0+(j:Int))*(c / 64 % 5)+(0+(i:Int))*d)) (by rw[hs22];rfl) (by decide);obtain⟨c2,hc2,hm2⟩:=lq (xs:=figT.cps.toList) (m:=10) (i:=c / 320+((0+(j:Int))*(c / 64 % 5)+(0+(i:Int))*d)) (by rw[hf10];rfl) (by decide);have go1:EvI H3 c (n:Int) at0 l1 i (j+1) [some (.int c),some (.int (n:Int)),some (.str lettT),some (.int at0),some (.ref l1),some (.int (0+(i:Int))),some (.str (nm++⟨#[c1]⟩)),some (.int (0+(j:Int))),some (.int ((0+(j:Int))*(c / 64 % 5)+(0+(i:Int))*d))] H3:=⟨rfl,_,_,_,rfl,hnm.app (j3 a3r hm1),hev.app (Ad.mpr (.inl hm1))⟩
     have go2:EvI H3 c (n:Int) at0 l1 i (j+1) [some (.int c),some (.int (n:Int)),some (.str lettT),some (.int at0),some (.ref l1),some (.int (0+(i:Int))),some (.str (nm++⟨#[c2]⟩)),some (.int (0+(j:Int))),some (.int ((0+(j:Int))*(c / 64 % 5)+(0+(i:Int))*d))] H3:=⟨rfl,_,_,_,rfl,hnm.app (j3 a6i hm2),hev.app (Ad.mpr (.inr hm2))⟩
     refine⟨_,rfl,_,_,rfl,rfl,_,rfl,iteB (fun _=>?_) (fun _=>?_)⟩
     . refine⟨_,rfl,_,_,rfl,rfl,(show CDiv _ 7040 from⟨by decide,by decide⟩),_,rfl,_,_,rfl,rfl,_,_,rfl,rfl,(show (0:Int)<3 by decide),rfl,_,rfl,iteB (fun _=>?_) (fun _=>?_)⟩
       . exact⟨_,rfl,_,rfl,_,_,rfl,rfl,(show CDiv _ 320 from⟨by decide,by decide⟩),_,rfl,_,_,rfl,rfl,_,_,rfl,rfl,(show (0:Int)<10 by decide),figT,_,c2,rfl,rfl,hfl,hc2,nm,_,rfl,rfl,cu (by show nm.length+1<=1000;omega),go2⟩
       . exact⟨_,rfl,_,rfl,_,rfl,_,_,rfl,rfl,(show CDiv _ 320 from⟨by decide,by decide⟩),_,rfl,_,_,rfl,rfl,_,_,rfl,rfl,(show (0:Int)<22 by decide),lettT,_,c1,rfl,rfl,hsl,hc1,nm,_,rfl,rfl,cu (by show nm.length+1<=1000;omega),go1⟩
     . exact⟨_,rfl,_,rfl,_,rfl,_,_,rfl,rfl,(show CDiv _ 320 from⟨by decide,by decide⟩),_,rfl,_,_,rfl,rfl,_,_,rfl,rfl,(show (0:Int)<22 by decide),lettT,_,c1,rfl,rfl,hsl,hc1,nm,_,rfl,rfl,cu (by show nm.length+1<=1000;omega),go1⟩
   rintro σ H3 ⟨rfl,nm,z8,z9,rfl,hnm,hev⟩;refine⟨_,rfl,(.inl ⟨rfl,_,SqL.of hL2⟩),_,rfl,l1,ns.map V.str,_,rfl,rfl,hL2,ft (by rw[Ac];omega),?_⟩;refine⟨c,at0,ns++[nm],_,_,_,_,rfl,?_,?_,?_,?_⟩
   . exact fun b o hb=>by rw[ag (ax hb hl1)];exact e2 b o hb
   . rw[aa,A1];rfl
   . rw[Aj,AD];omega
   . intro x hx;rcases Ad.mp hx with hx|hx
     . exact hn2 x hx
     . rw[Ai.mp hx];exact⟨hnm.mono (by omega),a4h hev⟩
 rintro σ H2 ⟨c,at0,ns,z6,z7,z8,z9,rfl,e2,hL2,hl2,hn2⟩;exact⟨_,rfl,q l1 ns _ e2 hL2 (by omega) hn2⟩
end
theorem vq{uk:List (List Key×V)}{q:List Key×V}(h:q∈uk):(valV uk q.1).isSome=true:=by
 rw[<- dz];exact Ba.mpr ⟨q,h,by simp⟩
theorem a5q{uk:List (List Key×V)}{h:Str->Str}{L:List (Str×Str)}(U:UkT uk h L):uk.any gm=true↔∃a,Told h L a a:=by
 rw[Ba];constructor
 . rintro⟨q,hq,hs⟩;obtain⟨a,b,hab⟩:=U.pr q hq;have e:a=b:=by
    unfold gm at hs;rw[hab] at hs;have:=of_decide_eq_true hs;exact DA this
   subst e;have:=vq hq;rw[hab] at this;obtain⟨l,h1,h2⟩:=(U.iff a a).mp this;rcases h2 with⟨h2,h3⟩|⟨h2,h3⟩
   . exact⟨l.1,l,h1,.inl ⟨rfl,h2.symm.trans h3⟩⟩
   . exact⟨l.2,l,h1,.inr ⟨rfl,h2.symm.trans h3⟩⟩
 . rintro⟨a,ht⟩;have:=(U.told a a).mpr ht;obtain⟨z,hz⟩:=Bv.mp this;obtain⟨q,hq,e⟩:=A3.mp (tq hz);refine⟨q,hq,?_⟩;unfold gm;rw[e];exact decide_eq_true rfl
theorem ixK{X:Cx}{K:Aa}(h:X.K=K):IxR X (rIxL K):=by subst h;exact ba
abbrev ml:HF:=bm (top 20) 10
abbrev r0:HF:=bm (top 20) 11
structure NeAt(C:GV)(H:Hp)(p pl hd un fu D:GV)(ns:List Nat):Prop where
 at_:∃dx fs,H p=some (.ins C dx fs)/\KFs fs pl hd un fu/\fs.lookup ("not_empty":Str)=some (.ref D)
 lst:H D=some (.lst (ns.map natV))
theorem NeAt.same{C:GV}{H H':Hp}{p pl hd un fu D:GV}{ns:List Nat}(h:NeAt C H p pl hd un fu D ns)(e:Same H H'):NeAt C H' p pl hd un fu D ns:=by
 obtain⟨⟨dx,fs,h1,h2⟩,h3⟩:=h;exact⟨⟨dx,fs,e _ _ h1,h2⟩,e _ _ h3⟩
def dr(F P:List (List Str))(ns:List Nat)(n:Nat)(r:List Str):Prop:=(∃j∈ns,j≠n/\∃s,P[j]?=some s/\al F (place r)=al F (place s))\/al F (place r)=al F "nil"
def rp(K:Aa)(C:GV):Sp:=fun vs H Q _=>∃(p pl hd un fu D:GV) (F P:List (List Str)) (L:List (Str×Str)) (ns:List Nat) (n:Nat) (r:List Str),vs=[.ref p,.int (n:Int)]/\KnS K C H p pl hd un fu F P L/\NeAt C H p pl hd un fu D ns/\ns.length<=15/\(∀j∈ns,j<P.length)/\(∀r∈P,PartRow r)/\P[n]?=some r/\
 ∀(b:Bool) H',Same H H'->(b=true↔dr F P ns n r)->Q (.bl b) H'
section
variable{P:Gx}{w:G9}{K:Aa}{mg:Str->Option GQ}{base:HB}{f C fI gA:GV}{fd dA:HA}
theorem scShares:FnScope ["self","number","place","others"] ["self","number"] (ap ml):=⟨rfl,rfl,rfl,by decide,rfl,by decide,by decide⟩
theorem yy(Cn:Con K mg w)(T:Txt K mg C fI)(F:Fun K "shares_place" "Knowledge.shares_place" ml f fd)(GA:FnOk P w K mg base CX0 2 gA dA ["self","one","other"] (ei C))(cA:MCal K C "alike" gA dA ["self","one","other"]):FnOk P w K mg base CX0 3 f fd ["self","number"] (rp K C):=by
 refine F.okQ scShares (fun vs H Q E h=>?_) (fun cdv A outer s0 H vs Q E hr h=>?_)
 . obtain⟨p,pl,hd,un,fu,D,F,P,L,ns,n,r,rfl,_⟩:=h;rfl
 obtain⟨p,pl,hd,un,fu,D,Fs,Ps,L,ns,n,r,rfl,hK,hN,hn15,hnl,hpr,hn,q⟩:=h;have nd:=scShares.nd;have hu1:=cz hr;refine⟨_,ac (ak (i:=2) nd rfl (Or.inr rfl) (ah aj (ah ba (b8 (K:=K) rfl (qv 0)) (qv 1) (fun _ _=>rfl)) ab (fun _ _=>rfl)))
  (ac (iq ["other","self","number"] [0,1] (i:=3) nd rfl (Or.inl rfl) (cn (b8 (K:=K) rfl (qv 0))) (fun _ _ _ _=>(ge (az gz (qv 0) (qv 2) (b0 _)))) (fun _ _ _ _=>(ah (ixTK (K:=K) rfl) (ah (ixK (K:=K) rfl) (b8 (K:=K) rfl (qv 1)) (qv 0) (fun _ _=>rfl)) ab (fun _ _=>rfl))))
  (af (aw (bf (kx rfl) rfl Cn.any CY (g0 (il ["word","self","place"] [0,2] (cn (ai dh (qv 3) (bn (ay a0)))) (fun _ _ _ _=>jq) (fun _ _ _ _=>(b7 (qv 1) T.cl cA.meth GA hr cA.bind .nil ar (ae (qv 2) (ae (qv 0) a0))))) a0))))),?_⟩
 have hp:=hpr r (Au hn);obtain⟨⟨hm,uk,hk,hok,hU⟩,hrows,hne⟩:=id hK;obtain⟨⟨dx,fs,h1,h2,hnf⟩,hnl'⟩:=id hN;obtain⟨as,b,hpl,hat,hR⟩:=fe hrows hn;refine⟨_,rfl,p,C,dx,fs,.ref pl,rfl,h1,T.cl,T.nP,h2.parts,_,rfl,pl,_,_,.ref b,rfl,rfl,SqL.of hpl,hat,b,_,1,_,rfl,rfl,hR,hp.at1,?_⟩;refine⟨_,rfl,p,C,dx,fs,.ref D,rfl,h1,T.cl,T.nE,hnf,D,rfl,⟨_,SqL.of hnl'⟩,?_⟩;obtain⟨p',hp'⟩:∃p':V->Bool,p'=fun v=>match v with|.int i => !decide (V.int i=V.int (n:Int))|_=>false:=⟨_,rfl⟩
 obtain⟨f',hf'⟩:∃f':V->V,f'=fun v=>match v with|.int i=>.str (place (Ps.getD i.toNat []))|_=>.non:=⟨_,rfl⟩
 have pv:∀j:Nat,p' (natV j) = !decide (j=n):=fun j=>by
  rw[hp'];show (!decide (V.int (j:Int)=V.int (n:Int)))=_
  congr 1
  refine decide_eq_decide.mpr ⟨fun z=>?_,fun z=>by rw[z]⟩;have:=V.int.inj z;omega
 have fv:∀j:Nat,f' (natV j)=.str (place (Ps.getD j [])):=fun j=>by
  rw[hf'];show V.str (place (Ps.getD ((j:Int)).toNat []))=_;rw[AU]
 refine kj (ns.map natV) p' f' fb (SqL.of hnl') (by rw[Ac];exact cu (by omega)) (fun x hx H2 e2 Q' q'=>?_) (fun x hx _ H2 e2 Q' q'=>?_) fun Do H1 hDo e1 hd1=>?_
 . obtain⟨j,hj,rfl⟩:=A3.mp hx;have:=q' H2 (Same.refl _);have e:p' (natV j) = !decide (V.int (j:Int)=V.int (n:Int)):=by rw[hp'];rfl
   rw[e] at this;exact⟨_,rfl,_,rfl,rfl,_,rfl,this⟩
 . obtain⟨j,hj,rfl⟩:=A3.mp hx;have hjl:=hnl j hj;have hs:Ps[j]?=some Ps[j]:=Ae hjl;obtain⟨as2,b2,hpl2,hat2,hR2⟩:=fe (hrows.same e2) hs;have:=q' H2 (Same.refl _);have e:f' (natV j)=.str (place Ps[j]):=by rw[fv,Bs,hs];rfl
   rw[e] at this;exact⟨_,rfl,p,C,dx,fs,.ref pl,rfl,e2 _ _ h1,T.cl,T.nP,h2.parts,_,rfl,pl,_,_,.ref b2,rfl,rfl,SqL.of hpl2,hat2,b2,_,1,_,rfl,rfl,hR2,(hpr _ (AX hjl)).at1,this⟩
 obtain⟨ws,hws⟩:∃ws:List Str,ws=(ns.filter fun j => !decide (j=n)).map fun j=>place (Ps.getD j []):=⟨_,rfl⟩
 have hd1':H1 Do=some (.lst (ws.map V.str)):=by
  rw[hd1,hws,Ex,BO,BO];rw[show (Gv (p'∘natV) ns)=ns.filter fun j => !decide (j=n) from DR fun j _=>pv j]
  congr 2
  exact Cv fun j _=>fv j
 have hwl:ws.length<=15:=by
  rw[hws,Ac];exact AB (Bl _ _) hn15
 refine⟨_,rfl,(show 1<=GX by decide),fun l1 hl1=>?_⟩;have s2:=ad hl1 (.lst [.str "nil"]);refine⟨Do,l1,_,_,rfl,rfl,s2 _ _ hd1',aa,?_,fun l2 hl2=>⟨l2,rfl,⟨_,SqL.of aa⟩,?_⟩⟩
 . rw[Ac];exact cu (show ws.length+1<=1000 by omega)
 have s3:=e1.trans (s2.trans (ad hl2 (.lst (ws.map V.str++[.str "nil"]))));have hl2':(upd (upd H1 l1 (.lst [.str "nil"])) l2 (.lst (ws.map V.str++[.str "nil"]))) l2=some (.lst ((ws++[("nil":Str)]).map V.str)):=by rw[aa,A1];rfl
 generalize upd (upd H1 l1 (.lst [.str "nil"])) l2 (.lst (ws.map V.str++[.str "nil"]))=H3 at s3 hl2' |-;refine iw ((ws++[("nil":Str)]).map V.str) (ws++[("nil":Str)]) (fun x=>decide (al Fs (place r)=al Fs x)) fb (SqL.of hl2') (by rw[Ac,Aj,AD];omega) (by rw[Ac]) (fun i x y hx hy H4 e4 Q' q'=>?_) fun D4 H4 hD4 e4 hd4=>?_
 . obtain rfl:x=.str y:=by
    rw[Al,hy] at hx;exact (Ap hx).symm
   have e34:=s3.trans e4;refine⟨_,rfl,p,dx,fs,rfl,e34 _ _ h1,h2.meth "alike" (by decide),_,rfl,_,rfl,p,pl,hd,un,fu,hm,uk,place r,y,rfl,hk.same e34,?_⟩;rw[hok.hd,hok.hd];exact q' H4 (Same.refl _)
 refine⟨D4,(ws++[("nil":Str)]).map (fun x=>decide (al Fs (place r)=al Fs x)),rfl,SqL.of hd4,?_⟩;refine q _ H4 (s3.trans e4) ?_;rw[Fv,Ba];constructor
 . rintro⟨x,hx,hc⟩;have hc':=of_decide_eq_true hc;rcases Ad.mp hx with z|z
   . rw[hws] at z;obtain⟨j,hj,rfl⟩:=A3.mp z;obtain⟨hj1,hj2⟩:=AW.mp hj;have hjl:=hnl j hj1;have hs:Ps[j]?=some Ps[j]:=Ae hjl;refine .inl ⟨j,hj1,by simpa using hj2,_,hs,?_⟩;rw[hc',Bs,hs];rfl
   . rw[Ai.mp z] at hc';exact .inr hc'
 . rintro (⟨j,hj1,hj2,s,hs,hc⟩|hc)
   . refine⟨place s,Ad.mpr (.inl ?_),decide_eq_true hc⟩;rw[hws];exact A3.mpr ⟨j,AW.mpr ⟨hj1,by simpa using hj2⟩,by rw[Bs,hs];rfl⟩
   . exact⟨"nil",Ad.mpr (.inr (Ai.mpr rfl)),decide_eq_true hc⟩
end
def uq(K:Aa):Sp:=fun vs H Q _=>∃(b:GV) (r:List Str),vs=[.ref b]/\RowAt K H b r/\PartRow r/\∀t H',Same H H'->H' t=some (.tup [.str (place r),.str (end2 r)])->Q (.ref t) H'
def mr(K:Aa)(C:GV):Sp:=fun vs H Q _=>∃(p pl hd un fu D:GV) (F P:List (List Str)) (L:List (Str×Str)) (Fl ns:List Nat),vs=[.ref p]/\KnS K C H p pl hd un fu F P L/\NeAt C H p pl hd un fu D ns/\H fu=some (.dK (fk Fl))/\ns.length<=15/\(∀j∈ns,j<P.length)/\(∀r∈P,PartRow r)/\
 (∀H',Same H H'->(∀j∈ns,∀r,P[j]?=some r->¬ j∈Fl->¬ dr F P ns j r)->Q .non H')/\
 ∀j r t H',Same H H'->j∈ns->P[j]?=some r->(¬ j∈Fl)->dr F P ns j r->H' t=some (.tup [.str (place r),.str (end2 r)])->Q (.ref t) H'
section
variable{P:Gx}{w:G9}{K:Aa}{mg:Str->Option GQ}{base:HB}{f C fI gE gS:GV}{fd dE dS:HA}
theorem a0b(F:Fun K "ends_of" "ends_of" jl f fd):FnOk P w K mg base CX0 1 f fd ["part"] (uq K):=by
 refine F.okQ yj (fun vs H Q E h=>?_) (fun cdv A outer s0 H vs Q E hr h=>?_)
 . obtain⟨b,r,rfl,_⟩:=h;rfl
 obtain⟨b,r,rfl,hR,hp,q⟩:=h;refine⟨_,(af (aw (ir (az c3 (ah aj (qv 0) ab (fun _ _=>rfl)) bv (b0 _)) (cw (aq (ah aj (qv 0) ab (fun _ _=>rfl)) (aq (ah aj (qv 0) ab (fun _ _=>rfl)) a0))) (cw (aq (ah aj (qv 0) ab (fun _ _=>rfl)) (ay a0)))))),?_⟩;refine⟨_,rfl,b,_,0,_,rfl,rfl,hR,hp.at0,rfl,_,rfl,iteB (fun c=>?_) (fun c=>?_)⟩
 . have c':r.getD 0 ""="stretch" := by simpa using c
   obtain⟨x,y,rfl⟩:∃x y,r=[("stretch":Str),x,y]:=by
    rcases hp with⟨a,f,s,rfl⟩|z|⟨a,rfl⟩
    . exact absurd c' (by show ¬ ("cell":Str)="stretch";decide)
    . exact z
    . exact absurd c' (by show ¬ ("tree":Str)="stretch";decide)
   refine⟨_,rfl,b,_,1,.str x,rfl,rfl,hR,rfl,_,rfl,b,_,2,.str y,rfl,rfl,hR,rfl,(show 2<=GX by decide),fun t ht=>?_⟩;exact q t _ (ad ht _) aa
 . have c':¬ r.getD 0 ""="stretch" := by simpa using c
   refine⟨_,rfl,b,_,1,_,rfl,rfl,hR,hp.at1,(show 2<=GX by decide),fun t ht=>?_⟩;have e:end2 r="nil" := by unfold end2;rw[if_neg c']
   refine q t _ (ad ht _) ?_;rw[e];exact aa
theorem scOpenE:FnScope ["self","number"] ["self"] (ap r0):=⟨rfl,rfl,rfl,by decide,rfl,by decide,by decide⟩
theorem a05(T:Txt K mg C fI)(F:Fun K "open_ends" "Knowledge.open_ends" r0 f fd)(GE:FnOk P w K mg base CX0 1 gE dE ["part"] (uq K))(cE:Cal K mg "ends_of" gE dE ["part"])(GS:FnOk P w K mg base CX0 3 gS dS ["self","number"] (rp K C))(cS:MCal K C "shares_place" gS dS ["self","number"]):FnOk P w K mg base CX0 4 f fd ["self"] (mr K C):=by
 refine F.okQ scOpenE (fun vs H Q E h=>?_) (fun cdv A outer s0 H vs Q E hr h=>?_)
 . obtain⟨p,pl,hd,un,fu,D,F,P,L,Fl,ns,rfl,_⟩:=h;rfl
 obtain⟨p,pl,hd,un,fu,D,Fs,Ps,L,Fl,ns,rfl,hK,hN,hfu,hn15,hnl,hpr,qn,qt⟩:=h;have nd:=scOpenE.nd;have hu1:=cz hr;have hr1:=hr.mono (j:=1) (by omega);refine⟨_,ac (cc AA rfl (cn (b8 (K:=K) rfl (qv 0))) (bw (i:=1) nd rfl (Or.inl rfl)) (af (bi (QW.qt (ee (jd hu1 (qv 1) (b8 (K:=K) rfl (qv 0))) (dt (cf (b7 (qv 0) T.cl cS.meth GS hr cS.bind .nil ar (ae (qv 1) a0)))))) (af (aw (bd GE hr1 rfl cE.name cE.keep cE.bind .nil ar (aq (ah ba (b8 (K:=K) rfl (qv 0)) (qv 1) (fun _ _=>rfl)) a0)))) be)))
  (af (aw bt)),?_⟩
 obtain⟨⟨dx,fs,h1,h2,hnf⟩,hD⟩:=id hN;refine⟨_,rfl,p,C,dx,fs,.ref D,rfl,h1,T.cl,T.nE,hnf,D,rfl,⟨_,SqL.of hD⟩,?_⟩;refine dm (xs:=ns.map natV) (fun i σ H2=>Same H H2/\(∀j∈ns.take i,∀r,Ps[j]?=some r->¬ j∈Fl->¬ dr Fs Ps ns j r)/\∃z1:Option V,σ=[some (.ref p),z1])
  ⟨Same.refl _,(fun j hj=>by simp at hj),none,rfl⟩ (fun i σ H2 _ pv=>SqL.of (pv.1 _ _ hD)) ?_ ?_
 . rintro i x σ H2 hx ⟨e2,hno,z1,rfl⟩;have hil:i<ns.length:=by have:=(Am.mp hx).1;rw[Ac] at this;exact this
   obtain rfl:x=.int ((ns[i]:Nat):Int):=by
    rw[Al,Ae hil] at hx;exact (Ap hx).symm
   have hin:=AX hil;have hjl:=hnl _ hin;have hs:Ps[ns[i]]?=some Ps[ns[i]]:=Ae hjl;have et:ns.take (i+1)=ns.take i++[ns[i]]:=by rw[AR,Ae hil];rfl
   have nxt:∀H3,Same H H3->(¬ ns[i]∈Fl->¬ dr Fs Ps ns ns[i] Ps[ns[i]])->(Same H H3/\(∀j∈ns.take (i+1),∀r,Ps[j]?=some r->¬ j∈Fl->¬ dr Fs Ps ns j r)/\∃z1:Option V,[some (V.ref p),some (.int ((ns[i]:Nat):Int))]=[some (.ref p),z1]):=fun H3 e3 h=>by
    refine⟨e3,fun j hj r hr hf=>?_,_,rfl⟩;rw[et] at hj;rcases Ad.mp hj with z|z
    . exact hno j z r hr hf
    . have ej:=Ai.mp z;subst ej;rw[hs] at hr;cases hr;exact h hf
   have g:=DGet.k (k:=Sum.inl ((ns[i]:Nat):Int)) (e2 _ _ hfu);refine⟨_,rfl,_,rfl,p,C,dx,fs,.ref fu,rfl,e2 _ _ h1,T.cl,T.nF,h2.fulls,fu,_,rfl,g,_,rfl,?_⟩;rw[jf];refine iteB (fun c=>?_) (fun c=>?_)
   . have c':¬ ns[i]∈Fl:=by simpa using c
     refine⟨_,rfl,p,dx,fs,rfl,e2 _ _ h1,h2.meth "shares_place" (by decide),_,rfl,p,pl,hd,un,fu,D,Fs,Ps,L,ns,ns[i],_,rfl,hK.same e2,hN.same e2,hn15,hnl,hpr,hs,fun b H3 e3 hb=>⟨b,rfl,iteB (fun cb=>?_) (fun cb=>nxt H3 (e2.trans e3) fun _ z=>by have:=hb.mpr z;rw[cb] at this;cases this)⟩⟩;have e23:=e2.trans e3;obtain⟨as4,b4,hpl4,hat4,hR4⟩:=fe (hK.parts.same e23) hs;exact⟨_,rfl,p,C,dx,fs,.ref pl,rfl,e23 _ _ h1,T.cl,T.nP,h2.parts,_,rfl,pl,_,_,.ref b4,rfl,rfl,SqL.of hpl4,hat4,b4,_,rfl,hR4,hpr _ (AX hjl),fun t H4 e4 hT=>qt ns[i] _ t H4 (e23.trans e4) hin hs c' (hb.mp cb) hT⟩
   . have c':ns[i]∈Fl:=by simpa using c
     exact nxt H2 e2 fun z=>absurd c' z
 . rintro σ H2 ⟨e2,hno,z1,rfl⟩;rw[Ac,Bb] at hno;exact qn H2 e2 hno
end
def neOf(F P:List (List Str)):List Nat:=(AV P.length).filter fun n => !g6 P (al F) n
theorem cq{F P:List (List Str)}{j:Nat}{r:List Str}(h:P[j]?=some r):j∈neOf F P↔¬ cx r (al F) []:=by
 unfold neOf;rw[List.mem_filter];constructor
 . rintro⟨_,h2⟩ he;have:=emptyB_iff.mpr ⟨r,h,he⟩;rw[this] at h2;cases h2
 . intro hn;refine⟨Bc.mpr (Am.mp h).1,?_⟩;cases hz:g6 P (al F) j with
   | false=>rfl
   | true =>
    obtain⟨r',h1,h2⟩:=emptyB_iff.mp hz;rw[h] at h1;cases h1;exact absurd h2 hn
end K31
namespace Ka
open PySem PyProof.Rows
section
variable{prog:Gx}{w:G9}{A:HC}{E:GQ->GW->Prop}{h:HB}{g:Array GenState}{d:Drawn}{t:Nat}{os:OsState}{a:GV}{o:Obj}
end
end Ka
namespace Ka
open PySem
theorem plain_loop:plainId "dict.update.loop"=true:=by decide
theorem entry_loop:entryFor table "dict.update.loop"=some Builtin.«dict.update.loop» := entryFor_of_fast (by kernel_rfl)
end Ka
namespace L2
open PyProof.Rows
def kk(kv:Str×V):Key×V:=(Sum.inr kv.1,kv.2)
section
variable{X:Cx}{pins:List (GV×Obj)}{σ:St}{H:Hp}{a p it:GV}{ts:List GV}{kvs:List (Str×V)}
end
section
variable{X:Cx}
end
section
variable{X:Cx}
end
section
variable{prog:Gx}{w:G9}{A:HC}{E:GQ->GW->Prop}{u:GW}
end
section
variable{X:Cx}
end
section
variable{prog:Gx}{w:G9}{A:HC}{E:GQ->GW->Prop}{u:GW}
end
section
variable{X:Cx}
end
end L2
namespace Ke
open PySem PyProof.Rows
theorem a55:typeLookup (.type "enumerate") "keys"=pure none:=by rw[Cy,BQ];kernel_rfl
theorem a74:typeLookup (.type "enumerate") "__getattr__"=pure none:=by rw[Cy,BQ];kernel_rfl
theorem uw:isSubtype (.type "AttributeError") (.type "AttributeError")=pure true:=by rw[Dv];kernel_rfl
theorem o9:entryFor table "enumerate.__getattribute__"=some Builtin.«object.__getattribute__» := ED (id' := "object.__getattribute__") (by kernel_rfl) (by first|rfl|decide) (by decide) (by kernel_rfl)
section
variable{prog:Gx}{w:G9}{A:HC}{E:GQ->GW->Prop}{h:HB}{g:Array GenState}{d:Drawn}{t:Nat}{os:OsState}{a:GV}{o:Obj}
set_option maxHeartbeats 16000000 in
theorem a75{tk:Tok}{Q:Fin->GW->Prop}(hh:A.handled=none){xs:Array GQ}{sl:Array (Option GQ)}(hx:h.get? a=some {cls:=.type "enumerate",dict:=none,data:=.fields xs,slots:=sl})(hq:∀h' e t',(∀b u,h.get? b=some u->h'.get? b=some u)->(∃oe,h'.get? e=some oe/\oe.cls=.type "AttributeError")->h.objs.size<=h'.objs.size->E (.ref e) ⟨h',g,d,t',os⟩):
 GY (Gy prog w) A (Builtin.«object.__getattribute__» ⟨[.ref a,.str "keys" tk],[]⟩) Q E ⟨h,g,d,t,os⟩:=by
 have hT:(⟨h,g,d,t,os⟩:GW).TypeIs (.ref a) "enumerate" := ⟨_,hx,rfl⟩
 have f4:=a55
 repeat (any_goals (first|assumption|wp_step))
 have hm:(Br (toString "'" ++ toString ((Gb "enumerate").elim "enumerate" fun x=>x.tpName)++toString "' object has no attribute '")++Br "keys" ++ Br "'").length<=GX:=by decide
 generalize (Br (toString "'" ++ toString ((Gb "enumerate").elim "enumerate" fun x=>x.tpName)++toString "' object has no attribute '")++Br "keys" ++ Br "'")=msg at hm |-;unfold raiseAttrError
 repeat (any_goals (first|assumption|wp_step))
 have f5:isSubtype (.type "AttributeError") (.type "AttributeError")=pure true:=uw;dsimp only
 repeat (any_goals (first|assumption|wp_step))
 generalize hO:({cls:=Value.type "AttributeError",data:=_}:Obj)=oe;generalize hT2:({cls:=Value.type "tuple",data:=Data.seq #[Value.str msg t]}:Obj)=ot;have hoc:oe.cls=.type "AttributeError" := by rw[<- hO]
 have hof:∃vs,oe.data=.fields vs:=⟨_,by rw[<- hO]⟩
 obtain⟨vs,hvs⟩:=hof;have e1:((h.push ot).push oe).get? (h.push ot).objs.size=some oe:=An _ (by rw[<- hO];rfl);refine wpAny_raiseNew_none hh (hq _ _ _ (fun b u hb=>?_) ⟨_,B4 _ e1 (EH (DE hvs _)),(FD ..).trans hoc⟩ ?_)
 . have hlt:=Ao (Ag ot hb);rw[Heap.get?_update_ne _ _ _ _ (Aw hlt)];exact Ag _ (Ag _ hb)
 . rw[Heap.size_update,size_push',size_push'];omega
set_option maxHeartbeats 16000000 in
theorem attr{Q:Option GQ->GW->Prop}(hh:A.handled=none){xs:Array GQ}{sl:Array (Option GQ)}(hx:h.get? a=some {cls:=.type "enumerate",dict:=none,data:=.fields xs,slots:=sl})(hq:∀h' t',(∀b u,h.get? b=some u->h'.get? b=some u)->h.objs.size<=h'.objs.size->Q none ⟨h',g,d,t',os⟩):GY (Gy prog w) A (getAttr? (.ref a) "keys") Q E ⟨h,g,d,t,os⟩:=by
 have hT:(⟨h,g,d,t,os⟩:GW).TypeIs (.ref a) "enumerate" := ⟨_,hx,rfl⟩
 have hT1:(⟨h,g,d,t+1,os⟩:GW).TypeIs (.ref a) "enumerate" := ⟨_,hx,rfl⟩
 have f2:=F.slot_enumerate_getattribute.lookup;have f3:=F.slot_enumerate_getattribute.bind (.ref a);have f5:isSubtype (.type "AttributeError") (.type "AttributeError")=pure true:=uw;unfold getAttr? getAttrBy?
 repeat (any_goals (first|assumption|wp_step))
 refine EV F.slot_enumerate_getattribute.plain o9 (F.slot_enumerate_getattribute.check _ _ _ _ _ _ _ _ hT1 (F.args_enumerate_getattribute_2 _ _) (a75 ?_ hx fun h' e t' k he hs=>?_))
 . exact hh
 obtain⟨oe,he1,he2⟩:=he;have hTe:(⟨h',g,d,t',os⟩:GW).TypeIs (.ref e) "AttributeError" := ⟨_,he1,he2⟩
 have f6:=a74;have hfin:=hq h' t' k hs;show GY (Gy prog w) A (getattributeRaised (Value.ref a) (Value.str (Br "keys") t) (Value.type "enumerate") (.ref e) none false false) _ _ _
 repeat (any_goals (first|assumption|wp_step))
end
end Ke
namespace L2
open PyProof.Rows
abbrev IsE2(h:HB)(e it:GV)(i:Int)(old:GQ)(T:GV)(f:Bool):Prop:=h.get? e=some {cls:=.type "enumerate",dict:=none,data:=.fields #[HW T,.bool f,.ref it,HW i,.none,old],slots := #[]}
section
variable{prog:Gx}{w:G9}{A:HC}{E:GQ->GW->Prop}{u:GW}
theorem we{e it T:GV}{i:Int}{old:GQ}{f:Bool}{ot:Obj}{Q:Bool->GW->Prop}(g1:IsE2 u.heap e it i old T f)(gT:u.heap.get? T=some ot)(hQ:∀g,IsE2 g e it i old T true->Bq e u.heap g->Q false {u with heap:=g}):GY (Gy prog w) A (BS (.ref e)) Q E u:=by
 unfold BS;refine Ab (BY g1 rfl (x:=HW T) rfl ?_);show GY _ _ (loadIfAlive T>>=_) _ _ _;refine Ab (PySem.W.kdx_alive gT ?_);rw[if_neg (by simp)];refine Ab (BY g1 rfl (x:=.bool f) rfl ?_);cases f with
 | false =>
  rw[if_pos (by decide)];refine Ab (Bn g1 (by simp) fun m y d=>Af (hQ m y d))
 | true =>
  rw[if_neg (by decide)];exact Af (hQ u.heap g1 ⟨rfl,fun _ _=>rfl⟩)
theorem x5{e it l T:GV}{i:Nat}{items:Array GQ}{x old:GQ}{f:Bool}{ot:Obj}{Q:Option GQ->GW->Prop}(he:IsE2 u.heap e it i old T f)(gT:u.heap.get? T=some ot)(hTe:T≠e)(hTi:T≠it)(hit:u.heap.IsListIter it l i)(hl:u.heap.IsList l items)(hx:items[i]?=some x)(hne:e≠it)(hQ:∀h',IsE2 h' e it ((i:Int)+1) old T true->h'.IsListIter it l (i+1)->h'.get? u.heap.objs.size=some {cls:=.type "tuple",data:=.seq #[.int i u.toks,x]}->
 (∀b o,b≠e->b≠it->u.heap.get? b=some o->h'.get? b=some o)->Q (some (.ref u.heap.objs.size)) {u with heap:=h',toks:=u.toks+1}):
 GY (Gy prog w) A (HQ (.ref e)) Q E u:=by
 have hT:u.TypeIs (.ref e) "enumerate" := ⟨_,he,rfl⟩
 unfold HQ;refine Ab (CN (Bx (name:=Br "__next__") hT Cr
  (Bo Cr hT E7 ?_ (Em _))))
 obtain⟨hp,g,d,tk,os⟩:=u;show GY _ _ (field (.ref e) 2>>=_) _ _ _;refine Ab (BY he rfl (x:=.ref it) rfl ?_);refine Ab (wpAny_nextOf_list_item hit hl hx fun h₁ hit₁ hs₁=>?_)
 replace hs₁:Bq it hp h₁:=hs₁
 have he₁:IsE2 h₁ e it i old T f:=(hs₁.2 e hne).trans he;show GY _ _ (field (.ref e) 3>>=_) _ _ ⟨h₁,g,d,tk,os⟩;refine Ab (BY he₁ rfl (x:=HW i) rfl ?_);show GY _ _ (field (.ref e) 4>>=_) _ _ ⟨h₁,g,d,tk,os⟩;refine Ab (BY he₁ rfl (x:=.none) rfl ?_);show GY _ _ (mkInt i>>=_) _ _ ⟨h₁,g,d,tk,os⟩;refine Ab (wpAny_mkInt ?_);show GY _ _ (setField (.ref e) 3 (HW ((i:Int)+1))>>=_) _ _ ⟨h₁,g,d,tk+1,os⟩;refine Ab (Bn he₁ (by simp) fun h₂ he₂ hs₂=>?_)
 replace hs₂:Bq e h₁ h₂:=hs₂
 replace he₂:IsE2 h₂ e it ((i:Int)+1) old T f:=he₂
 show GY _ _ (setField (.ref e) 4 .none>>=_) _ _ ⟨h₂,g,d,tk+1,os⟩;refine Ab (Bn he₂ (by simp) fun h₃ he₃ hs₃=>?_)
 replace hs₃:Bq e h₂ h₃:=hs₃
 replace he₃:IsE2 h₃ e it ((i:Int)+1) old T f:=he₃
 show GY _ _ (newTuple [.int i tk,x]>>=_) _ _ ⟨h₃,g,d,tk+1,os⟩;refine Ab (wpAny_newTuple (hsz:=show 2<=GX by decide) ?_);have he₄:IsE2 (h₃.push {cls:=.type "tuple",data:=.seq #[.int i tk,x]}) e it ((i:Int)+1) old T f:=Ag _ he₃;generalize hh₄:h₃.push {cls:=.type "tuple",data:=.seq #[.int i tk,x]}=h₄ at he₄;have hsz:h₃.objs.size=hp.objs.size:=by rw[hs₃.1,hs₂.1,hs₁.1]
 have hel:e<hp.objs.size:=Ao he;have ht₄:h₄.get? hp.objs.size=some {cls:=.type "tuple",data:=.seq #[.int i tk,x]}:=by rw[<- hh₄,<- hsz];exact An _ rfl
 have hk₄:∀b o,b≠e->b≠it->hp.get? b=some o->h₄.get? b=some o:=fun b o hbe hbi hb=>by
  rw[<- hh₄];exact Ag _ (hs₃.extBut b o hbe (hs₂.extBut b o hbe (hs₁.extBut b o hbi hb)))
 have hit₄:h₄.IsListIter it l (i+1):=by
  rw[<- hh₄];obtain⟨o,ho,r⟩:=(hit₁.extBut hs₂.extBut (A9 hne)).extBut hs₃.extBut (A9 hne);exact⟨o,Ag _ ho,r⟩
 show GY _ _ (BS (.ref e)>>=_) _ _ ⟨h₄,g,d,tk+1,os⟩;rw[hsz];refine Ab (we he₄ (hk₄ _ _ hTe hTi gT) fun h₅ he₅ hs₅=>?_)
 replace hs₅:Bq e h₄ h₅:=hs₅
 simp only[if_false,AY];refine Af ⟨_,rfl,Af (hQ h₅ he₅ (hit₄.extBut hs₅.extBut (A9 hne)) (hs₅.extBut _ _ (BI hel) ht₄) fun b o hbe hbi hb=>hs₅.extBut b o hbe (hk₄ b o hbe hbi hb))⟩
theorem zy{e it l T:GV}{i:Nat}{items:Array GQ}{old:GQ}{f:Bool}{Q:Option GQ->GW->Prop}(hh:A.handled=none)(he:IsE2 u.heap e it i old T f)(hit:u.heap.IsListIter it l i)(hl:u.heap.IsList l items)(hx:items[i]?=none)(hQ:∀h',FH it u.heap h'->Q none {u with heap:=h'}):GY (Gy prog w) A (HQ (.ref e)) Q E u:=by
 have hT:u.TypeIs (.ref e) "enumerate" := ⟨_,he,rfl⟩
 unfold HQ;refine Ab (CN (Bx (name:=Br "__next__") hT Cr
  (Bo Cr hT E7 ?_ (Em _))))
 show GY _ _ (field (.ref e) 2>>=_) _ _ _;refine Ab (BY he rfl (x:=.ref it) rfl ?_);refine Ab (wpAny_nextOf_list_end hh hit hl hx fun h' x he' hx'=>?_);obtain⟨o,ho,hc⟩:=hx';refine Ab (CQ (T := "StopIteration") (b:=true) ⟨o,ho,hc⟩ EF ?_);exact Af (hQ _ he')
end
inductive ESt(h:HB)(n l p:GV):Nat->Prop
 | z0 (old:GQ)(g1:IsEnum h (n+1) n (0:Nat) old)(t1:h.IsListIter n l 0):ESt h n l p 0
 | zs (i:Nat)(T:GV)(f:Bool)(ot:Obj)(old:GQ)(hT:p<T)(g1:IsE2 h (n+1) n ((i:Int)+1) old T f)(gT:h.get? T=some ot)(t1:h.IsListIter n l (i+1)):ESt h n l p (i+1)
theorem ESt.keep{h h':HB}{n l p:GV}{i:Nat}(z:ESt h n l p i)(hn:n+1<p)(k:∀c o,c≠p->h.get? c=some o->h'.get? c=some o):ESt h' n l p i:=by
 have a1:n+1≠p:=Aw hn;have a4:n≠p:=Aw (AL (CP n 1) hn);cases z with
 | z0 old g1 t1=>exact .z0 old (k _ _ a1 g1) (t1.at fun o e=>k _ o a4 e)
 | zs i T f ot old hT g1 gT t1=>exact .zs i T f ot old hT (k _ _ a1 g1) (k _ _ (BI hT) gT) (t1.at fun o e=>k _ o a4 e)
section
variable{X:Cx}{pins:List (GV×Obj)}{σ:St}{H:Hp}{n l p:GV}{i:Nat}{s:GW}{A:HC}{E:GQ->GW->Prop}{xs:List V}{x:V}
theorem ESt.item(I:Inv X pins σ H s)(z:ESt s.heap n l p i)(hf:∀b∈[n+1,n],FpOk X pins H b)(q1:H l=some (.lst xs))(hx:xs[i]?=some x)(hnp:n+1<p)(hp:p<s.heap.objs.size){R:Option GQ->GW->Prop}(hR:∀v tk s1,RelV x v->s1.heap.get? s.heap.objs.size=some {cls:=.type "tuple",data:=.seq #[.int i tk,v]}->Inv X pins σ H s1->ESt s1.heap n l p (i+1)->R (some (.ref s.heap.objs.size)) s1):GY (Gy X.prog X.w) A (HQ (.ref (n+1))) R E s:=by
 obtain⟨_,its1,n1,r1,_,e1⟩:=I.lstM q1;have L1:s.heap.IsList l its1.toArray:=⟨_,e1,rfl,_,rfl⟩
 obtain⟨u,hu,ru⟩:=r1.get hx;have hne:n+1≠n:=Nat.succ_ne_self n;have kp:∀{h':HB} {t':Nat},(∀b o,b≠n+1->b≠n->s.heap.get? b=some o->h'.get? b=some o)->Inv X pins σ H {s with heap:=h',toks:=t'}:=fun {h' t'} hk=>I.turnedL (ch:=[n+1,n]) (t':=t') (fun b o hb e=>by
  simp only[Ar,Ax,or_false,not_or] at hb;exact hk b o hb.1 hb.2 e) hf
 cases z with
 | z0 old g1 t1 =>
  refine wpAny_pyNext_enum_item g1 t1 L1 (x:=u) (by simpa using hu) hne fun h' a1 a2 a3 a4 hk=>?_;exact hR u s.toks _ ru a3 (kp hk) (.zs 0 _ false _ u hp a1 a3 a2)
 | zs i T f ot old hT g1 gT t1 =>
  have hTe:T≠n+1:=BI (Ec hnp hT);have hTi:T≠n:=BI (Ec (Ec (BC n) hnp) hT);refine x5 (i:=i+1) g1 gT hTe hTi t1 L1 (x:=u) (by simpa using hu) hne fun h' a1 a2 a3 hk=>?_;exact hR u s.toks _ ru a3 (kp hk) (.zs (i+1) T true ot old hT a1 (hk _ _ hTe hTi gT) a2)
theorem ESt.done(hh:A.handled=none)(I:Inv X pins σ H s)(z:ESt s.heap n l p i)(hf:∀b∈[n+1,n],FpOk X pins H b)(q1:H l=some (.lst xs))(hx:xs.length<=i){R:Option GQ->GW->Prop}(hR:∀s1,Inv X pins σ H s1->R none s1):GY (Gy X.prog X.w) A (HQ (.ref (n+1))) R E s:=by
 obtain⟨_,its1,n1,r1,_,e1⟩:=I.lstM q1;have L1:s.heap.IsList l its1.toArray:=⟨_,e1,rfl,_,rfl⟩
 have hlen:=r1.length;have hn:its1.toArray[i]?=none:=by rw[CU,BR (by omega)]
 have kp:∀{h':HB},FH n s.heap h'->Inv X pins σ H {s with heap:=h'}:=fun {h'} hk=>I.turnedL (ch:=[n+1,n]) (t':=s.toks) (fun b o hb e=>by
  simp only[Ar,Ax,or_false,not_or] at hb;exact hk b o hb.2 e) hf
 cases z with
 | z0 old g1 t1=>exact wpAny_pyNext_enum_end hh g1 t1 L1 hn fun h' hk=>hR _ (kp hk)
 | zs i T f ot old hT g1 gT t1=>exact zy (i:=i+1) hh g1 t1 L1 hn fun h' hk=>hR _ (kp hk)
end
def kvE:Nat->List V->List (Key×V)
 | _,[]=>[]
 | k,x::xs=>(Sum.inl ((k:Nat):Int),x)::kvE (k+1) xs
theorem v6:∀(xs ys:List V) (k:Nat),kvE k (xs++ys)=kvE k xs++kvE (k+xs.length) ys
 | [],ys,k=>by simp[kvE]
 | x::xs,ys,k=>by
  rw[Eb,kvE,kvE,v6 xs ys (k+1),AM,Eb]
  congr 3
  omega
theorem tw:∀(xs:List V) (k j:Nat),valV (kvE k xs) (Sum.inl ((j:Nat):Int))=if j<k then none else xs[j-k]?
 | [],k,j=>by show(none:Option V)=_;split<;>simp
 | x::xs,k,j=>by
  rw[kvE];by_cases c:k=j
  . subst c;rw[cg rfl,if_neg (Bi _),Gm];rfl
  . rw[ci (fun e=>c (by have:=Ez e;omega)),tw xs (k+1) j];by_cases c2:j<k
    . rw[if_pos (by omega),if_pos c2]
    . rw[if_neg (by omega),if_neg c2,show j-k=(j-(k+1))+1 by omega,BA]
theorem li(xs:List V)(j:Nat):valV (kvE 0 xs) (Sum.inl ((j:Nat):Int))=xs[j]?:=by
 rw[tw,if_neg (FZ _),Dk]
theorem uz:∀(xs:List V) (k:Nat),(kvE k xs).length=xs.length
 | [],_=>rfl
 | x::xs,k=>by rw[kvE,AM,AM,uz xs (k+1)]
theorem a4e{xs:List V}{i:Nat}{x:V}(hx:xs[i]?=some x):putK (kvE 0 (xs.take i)) (Sum.inl ((i:Nat):Int)) x=kvE 0 (xs.take (i+1)):=by
 have hlt:=(Am.mp hx).1;have hl:(xs.take i).length=i:=by rw[A2];omega
 rw[AR,hx,v6,kl,hl,Nat.zero_add]
 . rfl
 . rw[li,BR (by omega)]
def HdE(H:Hp)(p:GV)(xs:List V)(i:Nat):Hp:=upd H p (.dK (kvE 0 (xs.take i)))
section
variable{X:Cx}{pins:List (GV×Obj)}{σ:St}{H:Hp}{n l p:GV}{xs:List V}
theorem xb(hn:n+1<p){b:GV}(hb:b∈[n+1,n]):b≠p:=by
 simp only[Ar,Ax,or_false] at hb;rcases hb with rfl|rfl
 . exact Aw hn
 . exact Aw (AL (CP _ 1) hn)
theorem wz{A:HC}{R:Result->GW->Prop}(hh:A.handled=none)(hp:H p=none)(q1:H l=some (.lst xs))(hz:xs.length<=1000)(hnp:n+1<p):
 ∀(k i:Nat) (s:GW),xs.length-i=k->i<=xs.length->Inv X pins σ (HdE H p xs i) s->ESt s.heap n l p i->(∀b∈[n+1,n],FpOk X pins (HdE H p xs i) b)->
   (∀s',Inv X pins σ (HdE H p xs xs.length) s'->R (.ok (.ret .none)) s')->HP (Gy X.prog X.w) A (.builtin "dict.update.loop" ⟨[.ref p,.ref (n+1),.int i 0,.none],[]⟩) R s:=by
 have hSame:∀i,Same H (HdE H p xs i):=fun i=>ad hp _;intro k;induction k with
 | zero =>
  intro i s hk hi I z hf q;have e:i=xs.length:=by omega
  refine B7 Ka.entry_loop ?_;rw[Bw Ka.plain_loop _];show GY _ A.in1 (HQ (.ref (n+1))>>=_) _ _ s;refine Ab (ESt.done (A:=A.in1) hh I z hf (hSame i _ _ q1) (by omega) fun s1 I'=>?_);refine Ab (Af (Af (q _ ?_)));rw[<- e];exact I'
 | succ k ih =>
  intro i s hk hi I z hf q;have hlt:i<xs.length:=by omega
  obtain⟨x,hx⟩:∃x,xs[i]?=some x:=⟨_,Ae hlt⟩
  have hpp:(HdE H p xs i) p=some (.dK (kvE 0 (xs.take i))):=aa;refine B7 Ka.entry_loop ?_;rw[Bw Ka.plain_loop _];show GY _ A.in1 (HQ (.ref (n+1))>>=_) _ _ s;obtain⟨_,hd0,_,_,dd0⟩:=ox I.hok hpp;have hps:p<s.heap.objs.size:=let ⟨o,_,_,ho,_⟩:=dd0;Ao ho;refine Ab (z.item I hf (hSame i _ _ q1) hx hnp hps fun u2 tk s1 r2 ho3 I' z'=>?_);dsimp only;refine Ab (B8 ?_);refine Ab (wpAny_tryCatch ?_);unfold Builtin.Dict.pairItems;refine Ab (Df (T := "tuple") ⟨_,ho3,rfl⟩ ?_);rw[if_pos (by decide)];refine Ab (EE ho3 rfl (Af ?_));refine B8 ?_;obtain⟨z0,hd,vs,rel,dd⟩:=ox I'.hok hpp;have hvz:vs.length<=GX:=by rw[<- rel.length];exact z0
  refine wpAny_dictSet_pairs (s:=s1) (hsz:=hvz) (gx (k:=Sum.inl ((i:Nat):Int)) ⟨tk,rfl⟩) dd fun h2 dd2 hs2=>?_;have hmu:Mut ((HdE H p xs i) p):=by rw[hpp];exact True.intro
  have he:∃q,h2.get? p=some q:=let ⟨q,_,_,hq,_⟩:=dd2;⟨q,hq⟩;have hpl:(putK (kvE 0 (xs.take i)) (Sum.inl ((i:Nat):Int)) x).length<=GX:=by
   have:=df (kvE 0 (xs.take i)) (Sum.inl ((i:Nat):Int)) x;rw[uz,A2] at this;exact BH (g7 (by omega))
  have I2:Inv X pins σ (HdE H p xs (i+1)) {s1 with heap:=h2,toks:=s1.toks+1}:=by
   have:=jk (t':=s1.toks+1) (ob:=.dK (putK (kvE 0 (xs.take i)) (Sum.inl ((i:Nat):Int)) x)) I' hmu hs2 he (qw hpl hd (rel.put (Sum.inl ((i:Nat):Int)) r2) dd2);rw[a4e hx] at this;have e:upd (HdE H p xs i) p (.dK (kvE 0 (xs.take (i+1))))=HdE H p xs (i+1):=by
    funext b;unfold HdE
    by_cases c:b=p
    . rw[c,aa,aa]
    . rw[ag c,ag c,ag c]
   rw[e] at this;exact this
  refine Af ⟨Cd Ka.plain_loop _,ih (i+1) _ (by omega) hlt I2 (z'.keep hnp fun c o nc e=>(hs2.2 c nc).trans e) (fun b hb=>?_) q⟩;have f0:=hf b hb;refine⟨?_,f0.2⟩;have:=f0.1;unfold HdE at this |-;rw[ag (xb hnp hb)] at this |-;exact this
end
section
variable{X:Cx}
inductive rDictE(vs:List V)(H:Hp)(Q:VK):Prop
 | mk (l:GV)(xs:List V)(h0:vs=[.ref l])(h1:H l=some (.lst xs))(hz:xs.length<=1000)(q:∀p,H p=none->Q (.ref p) (upd H p (.dK (kvE 0 xs)))):rDictE vs H Q
def xq(ta:TA):TE:=fun σ H Q=>ta σ H fun vs H1=>rDictE vs H1 Q
theorem a2m{a:Expr}{ta:TA}{pd p pos pos':Pos}(hc:X.calm=true)(hgd:Gl X "dict")(hmd:X.mg "dict"=none)(hg:Gl X "enumerate")(hm:X.mg "enumerate"=none)(ha:PA X [a] ta)(hs:Gz [a] X.env=[(false,eval a X.env)])(hs3:Gz [.Call (.Name "enumerate" p) [a] [] pos] X.env=[(false,eval (.Call (.Name "enumerate" p) [a] [] pos) X.env)]):
 PE X (.Call (.Name "dict" pd) [.Call (.Name "enumerate" p) [a] [] pos] [] pos') (xq ta):=by
 intro pins s σ H Q I h;refine Call_ (ia I hgd hmd boot_dict (BJ ?_ (by rw[hs3];rfl) rfl));rw[hs3];show GY _ _ (spliced ((false,eval (.Call (.Name "enumerate" p) [a] [] pos) X.env)::[])) _ _ s;refine BK ?_;refine Call_ (ia I hg hm boot_enumerate (BJ (thn (ha pos pins s σ H _ I h) fun us s1 ⟨vs,H1,I1,r1,q1⟩=>?_) (by rw[hs];rfl) rfl));obtain⟨l,xs,e,q1,hzl,q⟩:=q1;subst e;cases r1 with
 | cons r rr =>
  cases rr;cases r;obtain⟨_,its1,n1,v1,_,e1⟩:=I1.lstM q1;refine call_enumerate_list (items:=its1.toArray) ⟨_,e1,rfl,_,rfl⟩ fun hz g1 g2 g3 kp=>?_;refine CH ?_;have Iz:Inv X pins σ H1 {s1 with heap:=hz}:=I1.kept (t':=s1.toks) fun b o e=>kp b o e;have hf0:∀b∈[s1.heap.objs.size+1,s1.heap.objs.size],FpOk X pins H1 b:=fun b hb=>by
   have hge:s1.heap.objs.size<=b:=by
    simp only[Ar,Ax,or_false] at hb;rcases hb with rfl|rfl
    . exact CP _ 1
    . exact Ah _
   exact I1.fpOk (H':=H1) hge (I1.hok.fresh hge)
  have hlt:s1.heap.objs.size+1<hz.objs.size:=Ao g1;have Z0:∀p,ESt hz s1.heap.objs.size l p 0:=fun p=>.z0 _ g1 g2;generalize s1.heap.objs.size=n at g1 hf0 hlt Z0 |-;refine callType_codes (Q₁:=fun obj s₁=>obj=.ref hz.objs.size/\s₁={s1 with heap:=hz.push {cls:=.type "dict",data:=.dict #[]}}) F.kt_called_dict (F.kt_typeCall_dict_1 _) F.entry_dict_init (kt_code_dict_new _ ⟨rfl,rfl⟩) ?_;rintro obj s₁ ⟨rfl,rfl⟩;have fr:H1 hz.objs.size=none:=Iz.hok.fresh (Ah _);have J1:Inv X pins σ (upd H1 hz.objs.size (.dK [])) {s1 with heap:=hz.push {cls:=.type "dict",data:=.dict #[]}}:=Iz.laid (t':=s1.toks) (fun b o e=>Ag _ e) (Ah _) (rn _ Iz.big);have hnew:(hz.push {cls:=.type "dict",data:=.dict #[]}).get? hz.objs.size=some {cls:=.type "dict",data:=.dict #[]}:=An _ rfl;have g1':=Ag {cls:=.type "dict",data:=.dict #[]} g1;refine⟨⟨_,hnew,rfl⟩,F.args_dict_init_2 _ _,?_⟩;unfold Builtin.«dict.__init__»;refine Ab ?_;unfold Builtin.Dict.selfAndRest;refine Ab (EI ⟨_,hnew,rfl⟩ ?_);show GY _ _ (pure (hz.objs.size,[Value.ref (n+1)])) _ _ _;refine Af ?_;show GY _ _ (Eo "dict.__init__" hz.objs.size (.ref (n+1)) [] .none) _ _ _;unfold Eo;refine Ab (Df (T := "enumerate") ⟨_,g1',rfl⟩ ?_);rw[if_pos (by decide)];refine Ab (Ke.attr (A:=X.A.in1.in1) (show X.A.in1.in1.handled=none from J1.ok.hd hc) g1' fun h2 t2 k2 z2=>?_);rw[if_pos (show (none:Option GQ).isNone=true from rfl)];refine Ab (Dh ?_);have Z2:ESt h2 n l hz.objs.size 0:=(Z0 hz.objs.size).keep hlt fun c o _ e=>k2 _ _ (Ag _ e);have J2:Inv X pins σ (upd H1 hz.objs.size (.dK [])) {s1 with heap:=h2,toks:=t2}:=J1.kept (t':=t2) fun b o e=>k2 b o e;have g1'':=k2 _ _ g1';refine Ab (wpAny_pyIter_enum (s:={s1 with heap:=h2,toks:=t2}) g1'' ?_);refine Af ⟨Cd Ka.plain_loop _,wz (n:=n) (show X.A.in1.handled=none from J1.ok.hd hc) fr q1 hzl hlt xs.length 0 _ rfl (A5 _) J2 Z2 (fun b hb=>?_) fun s' I'=>?_⟩
  . have f0:=hf0 b hb;refine⟨?_,f0.2⟩;show (upd H1 hz.objs.size (.dK [])) b=none;rw[ag (xb hlt hb)];exact f0.1
  . refine⟨rfl,.ref hz.objs.size,_,I',rfl,?_⟩;have:=q hz.objs.size fr;unfold HdE;rw[Bb];exact this
theorem a0x{a:Expr}{ta:TA}{pd p pos pos':Pos}(hc:X.calm=true)(hgd:Gl X "dict")(hmd:X.mg "dict"=none)(hg:Gl X "enumerate")(hm:X.mg "enumerate"=none)(ha:QA X [a] ta)(hs:Gz [a] X.env=[(false,eval a X.env)]:=by rfl)(hs3:Gz [.Call (.Name "enumerate" p) [a] [] pos] X.env=[(false,eval (.Call (.Name "enumerate" p) [a] [] pos) X.env)]:=by rfl):
 QE X (.Call (.Name "dict" pd) [.Call (.Name "enumerate" p) [a] [] pos] [] pos') (xq ta):=⟨a2m hc hgd hmd hg hm ha.run hs hs3⟩
end
end L2
namespace K31
open L2 Mir Kn
abbrev sn:HF:=bm (top 20) 12
abbrev ph:HF:=bm (top 26) 0
abbrev x8:HF:=bm (top 26) 1
abbrev lx:HF:=bm (top 26) 2
abbrev x4:HF:=bm (top 26) 3
abbrev rg:HF:=bm (top 26) 4
abbrev rc:HF:=bm (top 26) 5
abbrev m6:HF:=bm (top 26) 7
abbrev vh:HF:=bm (top 26) 8
abbrev sq:HF:=bm (top 26) 9
abbrev pb:HF:=bm (top 26) 10
abbrev ls:HF:=bm (top 26) 11
abbrev mj:HF:=bm (top 26) 12
structure KwAt(K:Aa)(C:GV)(H:Hp)(p:GV)(F P:List (List Str)):Prop where
 ex:∃pl hd un fu D L Fl,KnS K C H p pl hd un fu F P L/\NeAt C H p pl hd un fu D (neOf F P)/\H fu=some (.dK (fk Fl))/\AllTold F P L Fl/\Going F P L Fl/\L.length<=400
theorem KwAt.same{K:Aa}{C:GV}{H H':Hp}{p:GV}{F P:List (List Str)}(h:KwAt K C H p F P)(e:Same H H'):KwAt K C H' p F P:=by
 obtain⟨pl,hd,un,fu,D,L,Fl,h1,h2,h3,h4⟩:=h.ex;exact⟨pl,hd,un,fu,D,L,Fl,h1.same e,h2.same e,e _ _ h3,h4⟩
theorem om{F P:List (List Str)}:∀j∈neOf F P,j<P.length:=fun j hj=>Bc.mp (AW.mp hj).1
theorem xy{F P:List (List Str)}(h:P.length<=15):(neOf F P).length<=15:=by
 have:=Bl (fun n => !g6 P (al F) n) (AV P.length);rw[By] at this;exact AB this h
structure Rdy(F P:List (List Str)):Prop where
 facts:∀r∈F,c5 r
 parts:∀r∈P,PartRow r
 len:P.length<=15
 nocl:∀y,¬ Un F P y y
 rdy:∀(j:Nat) r,P[j]?=some r->¬ cx r (al F) []->¬ FullR (Un F P) r->¬ dr F P (neOf F P) j r
def vb(K:Aa)(C:GV):Sp:=fun vs H Q _=>∃(p:GV) (F P:List (List Str)) (x:Str) (j:Nat) (r:List Str),vs=[.ref p,.str x]/\KwAt K C H p F P/\P.length<=15/\(∀r∈P,PartRow r)/\j∈neOf F P/\P[j]?=some r/\al F (place r)=al F x/\(∀i∈neOf F P,∀s,P[i]?=some s->al F (place s)=al F x->i=j)/\
 ∀H',Same H H'->Q (.int (j:Int)) H'
section
variable{P:Gx}{w:G9}{K:Aa}{mg:Str->Option GQ}{base:HB}{f C fI gA:GV}{fd dA:HA}
theorem scNumAt:FnScope ["self","place","number"] ["self","place"] (ap sn):=⟨rfl,rfl,rfl,by decide,rfl,by decide,by decide⟩
theorem a0s(T:Txt K mg C fI)(F:Fun K "number_at" "Knowledge.number_at" sn f fd)(GA:FnOk P w K mg base CX0 2 gA dA ["self","one","other"] (ei C))(cA:MCal K C "alike" gA dA ["self","one","other"]):FnOk P w K mg base CX0 3 f fd ["self","place"] (vb K C):=by
 refine F.okQ scNumAt (fun vs H Q E h=>?_) (fun cdv A outer s0 H vs Q E hr h=>?_)
 . obtain⟨p,F,P,x,j,r,rfl,_⟩:=h;rfl
 obtain⟨p,Fs,Ps,x,j,r,rfl,hw,hP15,hpr,hj,hjr,hx,hun,q⟩:=h;have nd:=scNumAt.nd;have hu1:=cz hr;refine⟨_,ac (cc AA rfl (cn (b8 (K:=K) rfl (qv 0))) (bw (i:=2) nd rfl (Or.inl rfl)) (af (bi (cf (b7 (qv 0) T.cl cA.meth GA hr cA.bind .nil ar (aq (ah aj (ah ba (b8 (K:=K) rfl (qv 0)) (qv 2) (fun _ _=>rfl)) ab (fun _ _=>rfl)) (ae (qv 1) a0)))) (af (aw (qv 2))) be)))
  (af (aw bt)),?_⟩
 obtain⟨pl,hd,un,fu,D,L,Fl,hK,hN,hfu,_⟩:=hw.ex;obtain⟨⟨hm,uk,hk,hok,hU⟩,hrows,hne⟩:=id hK;obtain⟨⟨dx,fs,h1,h2,hnf⟩,hD⟩:=id hN;refine⟨_,rfl,p,C,dx,fs,.ref D,rfl,h1,T.cl,T.nE,hnf,D,rfl,⟨_,SqL.of hD⟩,?_⟩;refine dm (xs:=(neOf Fs Ps).map natV) (fun i σ H2=>Same H H2/\(¬ j∈(neOf Fs Ps).take i)/\∃z1:Option V,σ=[some (.ref p),some (.str x),z1])
  ⟨Same.refl _,(fun hj=>by simp at hj),none,rfl⟩ (fun i σ H2 _ pv=>SqL.of (pv.1 _ _ hD)) ?_ ?_
 . rintro i v σ H2 hv ⟨e2,hno,z1,rfl⟩;have hil:i<(neOf Fs Ps).length:=by have:=(Am.mp hv).1;rw[Ac] at this;exact this
   obtain rfl:v=.int (((neOf Fs Ps)[i]:Nat):Int):=by
    rw[Al,Ae hil] at hv;exact (Ap hv).symm
   have hin:=AX hil;have hjl:=om _ hin;have hs:Ps[(neOf Fs Ps)[i]]?=some Ps[(neOf Fs Ps)[i]]:=Ae hjl;have et:(neOf Fs Ps).take (i+1)=(neOf Fs Ps).take i++[(neOf Fs Ps)[i]]:=by rw[AR,Ae hil];rfl
   obtain⟨as4,b4,hpl4,hat4,hR4⟩:=fe (hrows.same e2) hs;refine⟨_,rfl,p,dx,fs,rfl,e2 _ _ h1,h2.meth "alike" (by decide),_,rfl,p,C,dx,fs,.ref pl,rfl,e2 _ _ h1,T.cl,T.nP,h2.parts,_,rfl,pl,_,_,.ref b4,rfl,rfl,SqL.of hpl4,hat4,b4,_,1,_,rfl,rfl,hR4,(hpr _ (AX hjl)).at1,_,rfl,p,pl,hd,un,fu,hm,uk,_,x,rfl,hk.same e2,?_⟩;rw[hok.hd,hok.hd];refine⟨_,rfl,iteB (fun c=>?_) (fun c=>?_)⟩
   . have c':=of_decide_eq_true c;have:=hun _ hin _ hs c';refine⟨_,rfl,?_⟩;rw[this];exact q H2 e2
   . have c':=of_decide_eq_false c;refine⟨e2,fun z=>?_,_,rfl⟩;rw[et] at z;rcases Ad.mp z with z|z
     . exact hno z
     . have ej:=Ai.mp z;subst ej;rw[hs] at hjr;cases hjr;exact c' hx
 . rintro σ H2 ⟨e2,hno,z1,rfl⟩;rw[Ac,Bb] at hno;exact absurd hj hno
end
end K31
namespace L2
open PyProof.Rows
open Classical in
def rm(X:GV->Prop)(H:Hp):Hp:=fun c=>if X c then none else H c
variable{X X':GV->Prop}{H H':Hp}
theorem wo{c:GV}(h:¬ X c):rm X H c=H c:=by unfold rm;rw[if_neg h]
theorem mt{c:GV}{o:HO}(h:rm X H c=some o):¬ X c/\H c=some o:=by
 unfold rm at h;by_cases z:X c
 . rw[if_pos z] at h;cases h
 . rw[if_neg z] at h;exact⟨z,h⟩
theorem dn:Same (rm X H) H:=fun _ _ h=>(mt h).2
theorem a47(e:Same H H'):Same (rm X H) (rm X H'):=fun b o h=>by
 obtain⟨h1,h2⟩:=mt h;rw[wo h1];exact e _ _ h2
end L2
namespace K31
open L2 Mir Kn
def ti:List Str:=["__init__","ask_unlike","holds","take","gives","cell_row","lies_outside","passed","stretch_row","tree_row","row_of","rows_of","leaves_some"]
structure TTxt(K:Aa)(mg:Str->Option GQ)(C fI:GV):Prop where
 cl:Cls K C
 nK:NoAttr K C "knowledge"
 nP:NoAttr K C "parts"
 nT:NoAttr K C "taken"
 nD:NoAttr K C "doubt"
 nA:NoAttr K C "amid"
 mgC:mg "Taking"=some (.ref C)
 mkC:Mk K C fI
structure TkF(fs:List (Str×V))(p pd td:GV):Prop where
 kn:fs.lookup ("knowledge":Str)=some (.ref p)
 parts:fs.lookup ("parts":Str)=some (.ref pd)
 taken:fs.lookup ("taken":Str)=some (.ref td)
 doubt:fs.lookup ("doubt":Str)=some .non
 len:fs.length<100
 meth:∀m∈ti,fs.lookup m=none
structure TkAt(K:Aa)(C C2:GV)(H:Hp)(q td:GV)(F P:List (List Str))(tk:List Nat):Prop where
 ex:∃p pd dx fs rs,H q=some (.ins C2 dx fs)/\TkF fs p pd td/\KwAt K C (rm (· = td) H) p F P/\(rm (· = td) H) pd=some (.dK (kvE 0 (rs.map V.ref)))/\HD (fun b r=>RowAt K (rm (· = td) H) b r) rs P
 tk:H td=some (.dK (fk tk))
theorem bp{K:Aa}{H H':Hp}(e:Same H H'):∀{rs:List GV}{P:List (List Str)},HD (fun b r=>RowAt K H b r) rs P->HD (fun b r=>RowAt K H' b r) rs P
 | _,_,.nil=>.nil
 | _,_,.cons h t=>.cons (h.same e) (bp e t)
section
variable{K:Aa}{C C2:GV}{H H':Hp}{q td:GV}{F P:List (List Str)}{tk tk':List Nat}
theorem TkAt.same(h:TkAt K C C2 H q td F P tk)(e:Same H H'):TkAt K C C2 H' q td F P tk:=by
 obtain⟨p,pd,dx,fs,rs,h1,h2,h3,h4,h5⟩:=h.ex;have e':Same (rm (· = td) H) (rm (· = td) H'):=a47 e;exact⟨⟨p,pd,dx,fs,rs,e _ _ h1,h2,h3.same e',e' _ _ h4,bp e' h5⟩,e _ _ h.tk⟩
theorem TkAt.put(h:TkAt K C C2 H q td F P tk)(k:Kp (· = td) H H')(ht:H' td=some (.dK (fk tk'))):TkAt K C C2 H' q td F P tk':=by
 obtain⟨p,pd,dx,fs,rs,h1,h2,h3,h4,h5⟩:=h.ex;have e':Same (rm (· = td) H) (rm (· = td) H'):=fun b o hb=>by
  obtain⟨n,hb⟩:=mt hb;rw[wo (X:=(· = td)) n];exact k _ _ hb n
 exact⟨⟨p,pd,dx,fs,rs,k _ _ h1 (db h1 h.tk (fun z=>nomatch z)),h2,h3.same e',e' _ _ h4,bp e' h5⟩,ht⟩
theorem a5h{tk:List Nat}{j:Nat}(h:¬ j∈tk):putK (fk tk) (Sum.inl ((j:Nat):Int)) (.bl true)=fk (tk++[j]):=by
 rw[kl]
 . unfold fk;rw[A1];rfl
 . have:=jf (Fl:=tk) (n:=j);rw[decide_eq_false h] at this;cases hz:valV (fk tk) (Sum.inl ((j:Nat):Int)) with
   | none=>rfl
   | some v=>rw[hz] at this;cases this
end
structure Here(F P:List (List Str))(x:Str)(j:Nat)(r:List Str):Prop where
 ne:j∈neOf F P
 at_:P[j]?=some r
 alike:al F (place r)=al F x
 one:∀i∈neOf F P,∀s,P[i]?=some s->al F (place s)=al F x->i=j
def l9(K:Aa)(C C2:GV):Sp:=fun vs H Q _=>∃(q td:GV) (F P:List (List Str)) (tk:List Nat) (x:Str) (j:Nat) (r:List Str),vs=[.ref q,.str x]/\TkAt K C C2 H q td F P tk/\Rdy F P/\Here F P x j r/\(¬ j∈tk)/\tk.length<=100/\
 ∀H',Kp (· = td) H H'->TkAt K C C2 H' q td F P (tk++[j])->Q (.int (j:Int)) H'
def ul(K:Aa)(C C2:GV):Sp:=fun vs H Q _=>∃(q td:GV) (F P:List (List Str)) (tk:List Nat) (u:Str),vs=[.ref q,.str u,.str u]/\TkAt K C C2 H q td F P tk/\Q (.bl true) H
def pi(K:Aa)(C C2:GV):Sp:=fun vs H Q _=>∃(q td:GV) (F P:List (List Str)) (tk:List Nat) (a b:Str),vs=[.ref q,.str a,.str b]/\TkAt K C C2 H q td F P tk/\Rdy F P/\Un F P a b/\∀H',Same H H'->Q .non H'
def yz(F P:List (List Str))(r:List Str):Prop:=∃k a b,r=[k,a,b]/\((k=("is":Str)/\al F a=al F b)\/(k=("not":Str)/\Un F P a b))
def sd(K:Aa)(C C2:GV):Sp:=fun vs H Q _=>∃(q td t:GV) (F P:List (List Str)) (tk:List Nat) (r:List Str),vs=[.ref q,.ref t]/\TkAt K C C2 H q td F P tk/\Rdy F P/\RowAt K H t r/\yz F P r/\∀H',Same H H'->Q (.bl true) H'
section
variable{P:Gx}{w:G9}{K:Aa}{mg:Str->Option GQ}{base:HB}{f C C2 fI fI2 gN gA gU gK:GV}{fd dN dA dU dK:HA}
theorem scTake:FnScope ["self","place","number"] ["self","place"] (ap x4):=⟨rfl,rfl,rfl,by decide,rfl,by decide,by decide⟩
theorem a5c(T:Txt K mg C fI)(T2:TTxt K mg C2 fI2)(F:Fun K "take" "Taking.take" x4 f fd)(GN:FnOk P w K mg base CX0 3 gN dN ["self","place"] (vb K C))(cN:MCal K C "number_at" gN dN ["self","place"]):FnOk P w K mg base CX0 4 f fd ["self","place"] (l9 K C C2):=by
 refine F.okQ scTake (fun vs H Q E h=>?_) (fun cdv A outer s0 H vs Q E hr h=>?_)
 . obtain⟨q,td,F,P,tk,x,j,r,rfl,_⟩:=h;rfl
 obtain⟨qa,td,Fs,Ps,tk,x,j,r,rfl,hT,hR,hH,hnt,htl,q⟩:=h;have nd:=scTake.nd;have hu1:=cz hr;refine⟨_,ac (ak (i:=2) nd rfl (Or.inl rfl) (b7 (b8 (K:=K) rfl (qv 0)) T.cl cN.meth GN hr cN.bind .nil ar (ae (qv 1) a0)))
  (ac (bi (QW.qt (gn (jd hu1 (qv 2) (b8 (K:=K) rfl (qv 0))) (ie (a5o hu1 (qv 2) (b8 (K:=K) rfl (qv 0)))))) (af (aw bt)) be)
  (ac (i7 hu1 (b8 (K:=K) rfl (qv 0)) (qv 2) jr)
  (af (aw (qv 2))))),?_⟩
 obtain⟨p,pd,dx,fs,rs,h1,h2,h3,h4,h5⟩:=hT.ex;have kw:KwAt K C H p Fs Ps:=h3.same dn;obtain⟨pl,hd,un,fu,D,L,Fl,hK,hN,hfu,_⟩:=kw.ex;obtain⟨⟨dx',fs',g1,g2,_⟩,_⟩:=id hN;refine⟨_,rfl,qa,C2,dx,fs,.ref p,rfl,h1,T2.cl,T2.nK,h2.kn,p,dx',fs',rfl,g1,g2.meth "number_at" (by decide),_,rfl,p,Fs,Ps,x,j,r,rfl,kw,hR.len,hR.parts,hH.ne,hH.at_,hH.alike,hH.one,fun H1 e1=>?_⟩;have hT1:=hT.same e1;have h41:H1 pd=some (.dK (kvE 0 (rs.map V.ref))):=e1 _ _ (dn _ _ h4);have hjl:j<rs.length:=by rw[A8 h5];exact (Am.mp hH.at_).1
 have gp:=DGet.k (k:=Sum.inl ((j:Nat):Int)) h41;rw[li,Al,Ae hjl] at gp;have gt:=DGet.k (k:=Sum.inl ((j:Nat):Int)) hT1.tk;refine⟨_,rfl,_,rfl,qa,C2,dx,fs,.ref pd,rfl,e1 _ _ h1,T2.cl,T2.nP,h2.parts,pd,_,rfl,gp,_,rfl,?_⟩;refine⟨_,rfl,_,rfl,qa,C2,dx,fs,.ref td,rfl,e1 _ _ h1,T2.cl,T2.nT,h2.taken,td,_,rfl,gt,_,rfl,?_⟩;rw[jf,decide_eq_false hnt];refine⟨_,rfl,qa,C2,dx,fs,.ref td,rfl,e1 _ _ h1,T2.cl,T2.nT,h2.taken,_,rfl,td,_,rfl,DPut.k (k:=Sum.inl ((j:Nat):Int)) hT1.tk (by unfold fk;rw[Ac];exact AL htl (by decide)),?_⟩;rw[a5h hnt];refine⟨_,rfl,?_⟩;have k1:Kp (· = td) H (upd H1 td (.dK (fk (tk++[j])))):=fun b o hb n=>by rw[ag n];exact e1 _ _ hb
 exact q _ k1 (hT.put k1 aa)
theorem a4j:FnScope ["self","found","asked"] ["self","found","asked"] (ap rg):=⟨rfl,rfl,rfl,by decide,rfl,by decide,by decide⟩
theorem a1v(T:Txt K mg C fI)(T2:TTxt K mg C2 fI2)(F:Fun K "gives" "Taking.gives" rg f fd)(GA:FnOk P w K mg base CX0 2 gA dA ["self","one","other"] (ei C))(cA:MCal K C "alike" gA dA ["self","one","other"]):FnOk P w K mg base CX0 3 f fd ["self","found","asked"] (ul K C C2):=by
 refine F.okQ a4j (fun vs H Q E h=>?_) (fun cdv A outer s0 H vs Q E hr h=>?_)
 . obtain⟨q,td,F,P,tk,u,rfl,_⟩:=h;rfl
 obtain⟨qa,td,Fs,Ps,tk,u,rfl,hT,q⟩:=h;refine⟨_,(af (aw (a2y (ff c3 (qv 2) bv (b0 _)) (i9 (j9 (ff gz (qv 1) bv (b0 _)) (i9 (b7 (b8 (K:=K) rfl (qv 0)) T.cl cA.meth GA hr cA.bind .nil ar (ae (qv 1) (ae (qv 2) a0))))))))),?_⟩;obtain⟨p,pd,dx,fs,rs,h1,h2,h3,h4,h5⟩:=hT.ex;have kw:KwAt K C H p Fs Ps:=h3.same dn;obtain⟨pl,hd,un,fu,D,L,Fl,hK,hN,hfu,_⟩:=kw.ex;obtain⟨⟨hm,uk,hk,hok,hU⟩,hrows,hne⟩:=id hK;obtain⟨⟨dx',fs',g1,g2,_⟩,_⟩:=id hN;refine⟨_,rfl,rfl,_,rfl,iteB (fun c=>?_) (fun c=>?_)⟩
 . exact q
 . have c':¬ u="any" := by simpa using c
   refine⟨_,rfl,rfl,_,rfl,iteB (fun c2=>?_) (fun c2=>?_)⟩
   . refine⟨_,rfl,qa,C2,dx,fs,.ref p,rfl,h1,T2.cl,T2.nK,h2.kn,p,dx',fs',rfl,g1,g2.meth "alike" (by decide),_,rfl,_,rfl,p,pl,hd,un,fu,hm,uk,u,u,rfl,hk,?_⟩;rw[decide_eq_true rfl];exact q
   . exact absurd (by simpa using c2) c'
theorem a5g:FnScope ["self","one","other"] ["self","one","other"] (ap x8):=⟨rfl,rfl,rfl,by decide,rfl,by decide,by decide⟩
theorem a3w(T:Txt K mg C fI)(T2:TTxt K mg C2 fI2)(F:Fun K "ask_unlike" "Taking.ask_unlike" x8 f fd)(GU:FnOk P w K mg base CX0 2 gU dU ["self","one","other"] (ka C))(cU:MCal K C "unlike" gU dU ["self","one","other"]):FnOk P w K mg base CX0 3 f fd ["self","one","other"] (pi K C C2):=by
 refine F.okQ a5g (fun vs H Q E h=>?_) (fun cdv A outer s0 H vs Q E hr h=>?_)
 . obtain⟨q,td,F,P,tk,a,b,rfl,_⟩:=h;rfl
 obtain⟨qa,td,Fs,Ps,tk,a,b,rfl,hT,hR,hab,q⟩:=h;refine⟨_,(af (bi (QW.qt (ee (az fi (b8 (K:=K) rfl (qv 0)) bt (b0 _)) (dt (fg (cf (b7 (b8 (K:=K) rfl (qv 0)) T.cl cU.meth GU hr cU.bind .nil ar (ae (qv 1) (ae (qv 2) a0)))))))) (af (dg (K:=K) rfl (qv 0) (cw (ae (qv 1) (ae (qv 2) a0))))) be)),?_⟩;obtain⟨p,pd,dx,fs,rs,h1,h2,h3,h4,h5⟩:=hT.ex;have kw:KwAt K C H p Fs Ps:=h3.same dn;obtain⟨pl,hd,un,fu,D,L,Fl,hK,hN,hfu,hA,hG,_⟩:=kw.ex;obtain⟨⟨hm,uk,hk,hok,hU⟩,hrows,hne⟩:=id hK;obtain⟨⟨dx',fs',g1,g2,_⟩,_⟩:=id hN;refine⟨_,rfl,qa,C2,dx,fs,.non,rfl,h1,T2.cl,T2.nD,h2.doubt,rfl,_,rfl,?_⟩;refine⟨_,rfl,qa,C2,dx,fs,.ref p,rfl,h1,T2.cl,T2.nK,h2.kn,p,dx',fs',rfl,g1,g2.meth "unlike" (by decide),_,rfl,_,rfl,p,pl,hd,un,fu,hm,uk,a,b,rfl,hk,fun H1 e1=>?_⟩;rw[hok.hd,hok.hd,(hU.told a b).mpr ((yr hR.facts hA hG.sound).mpr hab)];exact⟨_,rfl,q H1 e1⟩
theorem a2i:FnScope ["self","fact"] ["self","fact"] (ap lx):=⟨rfl,rfl,rfl,by decide,rfl,by decide,by decide⟩
theorem yn(T:Txt K mg C fI)(T2:TTxt K mg C2 fI2)(F:Fun K "holds" "Taking.holds" lx f fd)(GA:FnOk P w K mg base CX0 2 gA dA ["self","one","other"] (ei C))(cA:MCal K C "alike" gA dA ["self","one","other"])(GK:FnOk P w K mg base CX0 3 gK dK ["self","one","other"] (pi K C C2))(cK:MCal K C2 "ask_unlike" gK dK ["self","one","other"]):FnOk P w K mg base CX0 4 f fd ["self","fact"] (sd K C C2):=by
 refine F.okQ a2i (fun vs H Q E h=>?_) (fun cdv A outer s0 H vs Q E hr h=>?_)
 . obtain⟨q,td,t,F,P,tk,r,rfl,_⟩:=h;rfl
 obtain⟨qa,td,t,Fs,Ps,tk,r,rfl,hT,hR,ht,⟨k,a,b,rfl,hh⟩,q⟩:=h;have hr2:=hr.mono (j:=2) (by omega);refine⟨_,ac (bi (az c3 (ah aj (qv 1) ab (fun _ _=>rfl)) bv (b0 _)) (af (aw (b7 (b8 (K:=K) rfl (qv 0)) T.cl cA.meth GA hr2 cA.bind .nil ar (aq (ah aj (qv 1) ab (fun _ _=>rfl)) (aq (ah aj (qv 1) ab (fun _ _=>rfl)) a0))))) be)
  (ac (bq (b7 (qv 0) T2.cl cK.meth GK hr cK.bind .nil ar (aq (ah aj (qv 1) ab (fun _ _=>rfl)) (aq (ah aj (qv 1) ab (fun _ _=>rfl)) a0))))
  (af (aw (a5x (b7 (b8 (K:=K) rfl (qv 0)) T.cl cA.meth GA hr2 cA.bind .nil ar (aq (ah aj (qv 1) ab (fun _ _=>rfl)) (aq (ah aj (qv 1) ab (fun _ _=>rfl)) a0))))))),?_⟩
 obtain⟨p,pd,dx,fs,rs,h1,h2,h3,h4,h5⟩:=hT.ex;have kw:KwAt K C H p Fs Ps:=h3.same dn;obtain⟨pl,hd,un,fu,D,L,Fl,hK,hN,hfu,hA,hG,_⟩:=kw.ex;obtain⟨⟨hm,uk,hk,hok,hU⟩,hrows,hne⟩:=id hK;obtain⟨⟨dx',fs',g1,g2,_⟩,_⟩:=id hN;have ht':∀{H1},Same H H1->SqT K H1 t ([k,a,b].map V.str):=fun e=>ht.same e;have nul:¬ ("not":Str)="is" := by decide
 refine⟨_,rfl,t,_,0,.str k,rfl,rfl,ht' (Same.refl _),rfl,rfl,_,rfl,iteB (fun c=>?_) (fun c=>?_)⟩
 . have c':k="is" := by simpa using c
   have hab:al Fs a=al Fs b:=by
    rcases hh with hh|hh
    . exact hh.2
    . exact absurd (hh.1.symm.trans c') nul
   refine⟨_,rfl,qa,C2,dx,fs,.ref p,rfl,h1,T2.cl,T2.nK,h2.kn,p,dx',fs',rfl,g1,g2.meth "alike" (by decide),_,rfl,t,_,1,.str a,rfl,rfl,ht' (Same.refl _),rfl,_,rfl,t,_,2,.str b,rfl,rfl,ht' (Same.refl _),rfl,p,pl,hd,un,fu,hm,uk,a,b,rfl,hk,?_⟩;rw[hok.hd,hok.hd,decide_eq_true hab];exact q H (Same.refl _)
 . have c':¬ k="is" := by simpa using c
   have hab:Un Fs Ps a b:=by
    rcases hh with hh|hh
    . exact absurd hh.1 c'
    . exact hh.2
   refine⟨_,rfl,qa,dx,fs,rfl,h1,h2.meth "ask_unlike" (by decide),_,rfl,t,_,1,.str a,rfl,rfl,ht' (Same.refl _),rfl,_,rfl,t,_,2,.str b,rfl,rfl,ht' (Same.refl _),rfl,qa,td,Fs,Ps,tk,a,b,rfl,hT,hR,hab,fun H1 e1=>?_⟩;refine⟨_,rfl,qa,C2,dx,fs,.ref p,rfl,e1 _ _ h1,T2.cl,T2.nK,h2.kn,p,dx',fs',rfl,e1 _ _ g1,g2.meth "alike" (by decide),_,rfl,t,_,1,.str a,rfl,rfl,ht' e1,rfl,_,rfl,t,_,2,.str b,rfl,rfl,ht' e1,rfl,p,pl,hd,un,fu,hm,uk,a,b,rfl,hk.same e1,?_⟩;have hn:¬ al Fs a=al Fs b:=fun z=>hR.nocl b (Un.conn2 hab ((cj hR.facts b a).mp z.symm) (.refl _));rw[hok.hd,hok.hd,decide_eq_false hn];exact⟨_,rfl,q H1 e1⟩
end
theorem wk{F P:List (List Str)}(hF:∀r∈F,c5 r)(nocl:∀y,¬ Un F P y y)(h:∀(j:Nat) r,P[j]?=some r->¬ cx r (al F) []->¬ FullR (Un F P) r->¬ dr F P (neOf F P) j r){j:Nat}{r:List Str}(hj:P[j]?=some r)(he:¬ cx r (al F) []):¬ dr F P (neOf F P) j r:=by
 intro hs;by_cases hf:FullR (Un F P) r
 . rcases hs with⟨j',hj',hne,s,hs',hh⟩|hh
   . by_cases hg:FullR (Un F P) s
     . have u:=(cr F P).two j j' r s hj hs' (A9 hne) hf hg;exact nocl _ ((cr F P).conn _ _ _ ((cj hF _ _).mp hh).symm u)
     . exact h j' s hs' ((cq hs').mp hj') hg (.inl ⟨j,(cq hj).mpr he,A9 hne,r,hj,hh.symm⟩)
   . have u:=(cr F P).nil r (Au hj) hf;exact nocl _ ((cr F P).conn _ _ _ ((cj hF _ _).mp hh).symm u)
 . exact h j r hj he hf hs
theorem yl{F P:List (List Str)}(hF:∀r∈F,c5 r){r:List Str}(he:¬ cx r (al F) [])(hf:¬ FullR (Un F P) r):r.getD 0 ""≠"cell" /\ (¬ Conn F (place r) (end2 r))/\¬ Un F P (place r) (end2 r) :=
 ⟨fun z=>hf (.inl z),fun c=>he ⟨fun z=>hf (.inl z),(cj hF _ _).mpr c⟩,fun u=>hf (.inr u)⟩
def prs:List Str->List (Str×Str)
 | []=>[]
 | x::l=>l.map (fun y=>(x,y))++prs l
theorem um:∀{l:List Str}{a b:Str},a∈l->b∈l->a≠b->(a,b)∈prs l\/(b,a)∈prs l
 | x::l,a,b,ha,hb,hne=>by
  rcases Ar.mp ha with rfl|ha'
  . rcases Ar.mp hb with z|hb'
    . exact absurd z.symm hne
    . exact .inl (Ad.mpr (.inl (A3.mpr ⟨b,hb',rfl⟩)))
  . rcases Ar.mp hb with rfl|hb'
    . exact .inr (Ad.mpr (.inl (A3.mpr ⟨a,ha',rfl⟩)))
    . exact (um ha' hb' hne).imp (fun z=>Ad.mpr (.inr z)) (fun z=>Ad.mpr (.inr z))
theorem a46:∀{l:List Str},l.length=6->(prs l).length<=15
 | [a,b,c,d,e,f],_=>by simp[prs]
def Open(F P:List (List Str))(a b:Str):Prop := ¬ Conn F a b/\¬ Un F P a b
open Classical in
def cnt(F P:List (List Str))(xs:List Str):Nat:=(prs xs).countP fun p=>decide (Open F P p.1 p.2)
theorem nz{α:Type}{p q:α->Bool}:∀{l:List α},(∀x∈l,q x=true->p x=true)->(∃x∈l,p x=true/\q x=false)->l.countP q<l.countP p
 | [],_,h=>by obtain⟨x,hx,_⟩:=h;cases hx
 | y::l,h1,h2=>by
  have mono:l.countP q<=l.countP p:=List.countP_mono_left fun x hx=>h1 x (Ay _ hx);obtain⟨x,hx,hp,hq⟩:=h2;have hy:=h1 y (AK ..);rw[FP,FP];rcases Ar.mp hx with rfl|hx'
  . rw[hp,hq];simp;omega
  . have:=nz (l:=l) (fun x hx=>h1 x (Ay _ hx)) ⟨x,hx',hp,hq⟩;cases hqy:q y with
    | false=>simp;split<;>omega
    | true=>rw[hy hqy];simp;omega
theorem n0{F F':List (List Str)}(h:∀r∈F,r∈F'){a b:Str}(c:Conn F a b):Conn F' a b:=by
 induction c with
 | refl x=>exact .refl x
 | fact hf=>exact .fact (h _ hf)
 | symm _ ih=>exact ih.symm
 | trans _ _ i1 i2=>exact i1.trans i2
theorem a4s{F F' P:List (List Str)}(h:∀r∈F,r∈F'){a b:Str}(u:Un F P a b):Un F' P a b:=fun R C=>u R ⟨fun u v hf=>C.fact u v (h _ hf),C.symm,fun a b c hc hr=>C.conn a b c (n0 h hc) hr,C.nil,C.two⟩
open Classical in
theorem ze{F P:List (List Str)}{xs:List Str}{k p q:Str}(hk:k="is" \/ k="not")(hp:p∈xs)(hq:q∈xs)(ho:Open F P p q):cnt (F++[[k,p,q]]) P xs<cnt F P xs:=by
 have hsub:∀r∈F,r∈F++[[k,p,q]]:=fun r hr=>Ad.mpr (.inl hr);have hin:[k,p,q]∈F++[[k,p,q]]:=Ad.mpr (.inr (Ai.mpr rfl));have hne:p≠q:=fun z=>ho.1 (z ▸ .refl p);have ho':Open F P q p:=⟨fun c=>ho.1 c.symm,fun u=>ho.2 ((cr F P).symm _ _ u)⟩
 have hno:¬ Open (F++[[k,p,q]]) P p q:=fun z=>by
  rcases hk with rfl|rfl
  . exact z.1 (.fact hin)
  . exact z.2 ((cr _ _).fact _ _ hin)
 have hno':¬ Open (F++[[k,p,q]]) P q p:=fun z=>hno ⟨fun c=>z.1 c.symm,fun u=>z.2 ((cr _ _).symm _ _ u)⟩;unfold cnt;refine nz (fun x _ hx=>?_) ?_
 . have:=of_decide_eq_true hx;exact decide_eq_true ⟨fun c=>this.1 (n0 hsub c),fun u=>this.2 (a4s hsub u)⟩
 . rcases um hp hq hne with z|z
   . exact⟨_,z,decide_eq_true ho,decide_eq_false hno⟩
   . exact⟨_,z,decide_eq_true ho',decide_eq_false hno'⟩
theorem Rdy.alone{F P:List (List Str)}(R:Rdy F P){j:Nat}{r:List Str}(hj:P[j]?=some r)(he:j∈neOf F P):¬ dr F P (neOf F P) j r:=wk R.facts R.nocl R.rdy hj ((cq hj).mp he)
theorem Rdy.one{F P:List (List Str)}(R:Rdy F P){i j:Nat}{r s:List Str}(hi:i∈neOf F P)(hir:P[i]?=some r)(hj:j∈neOf F P)(hjs:P[j]?=some s)(h:al F (place r)=al F (place s)):i=j:=by
 by_cases c:i=j
 . exact c
 . exact absurd (.inl ⟨j,hj,fun e=>c e.symm,s,hjs,h⟩) (R.alone hir hi)
def Aft(F P:List (List Str))(tk:List Nat)(r:List Str)(tk':List Nat):Prop:=(tk'=tk/\cx r (al F) [])\/∃j,tk'=tk++[j]/\j∈neOf F P/\P[j]?=some r
def vo(r:List Str):Prop:=r.getD 0 ""="tree" -> ¬ place r="any"
def gr(K:Aa)(C C2:GV)(R:List Str->Prop):Sp:=fun vs H Q _=>∃(q td b:GV) (F P:List (List Str)) (tk:List Nat) (r:List Str),vs=[.ref q,.ref b]/\TkAt K C C2 H q td F P tk/\Rdy F P/\RowAt K H b r/\R r/\r∈P/\vo r/\(∀j∈neOf F P,P[j]?=some r->¬ j∈tk)/\tk.length<=100/\
 ∀D xs H' tk',Kp (· = td) H H'->TkAt K C C2 H' q td F P tk'->Aft F P tk r tk'->H' D=some (.lst xs)->Q (.ref D) H'
def qi(K:Aa)(C C2:GV):Sp:=fun vs H Q _=>∃(q td:GV) (F P:List (List Str)) (tk:List Nat) (j:Nat) (a e:Str),vs=[.ref q,.int (j:Int),.str e]/\TkAt K C C2 H q td F P tk/\P[j]?=some [("stretch":Str),a,e]/\Q (.str e) H
theorem Rdy.here{F P:List (List Str)}(R:Rdy F P){j:Nat}{r:List Str}{x:Str}(hj:j∈neOf F P)(hr:P[j]?=some r)(h:al F (place r)=al F x):Here F P x j r:=⟨hj,hr,h,fun i hi s hs hz=>R.one hi hs hj hr (hz.trans h.symm)⟩
theorem fz{K:Aa}{C C2:GV}{H:Hp}{q td:GV}{F P:List (List Str)}{tk:List Nat}(h:TkAt K C C2 H q td F P tk){j:Nat}{r:List Str}(hj:P[j]?=some r):∃p pd dx fs,H q=some (.ins C2 dx fs)/\TkF fs p pd td/\KwAt K C H p F P/\∃kvs b,H pd=some (.dK kvs)/\valV kvs (Sum.inl ((j:Nat):Int))=some (.ref b)/\RowAt K H b r:=by
 obtain⟨p,pd,dx,fs,rs,h1,h2,h3,h4,h5⟩:=h.ex;have hl:j<rs.length:=by rw[A8 h5];exact (Am.mp hj).1
 refine⟨p,pd,dx,fs,h1,h2,h3.same dn,_,rs[j],dn _ _ h4,?_,(Paired.at2 h5 (Ae hl) hj).same dn⟩;rw[li,Al,Ae hl];rfl
theorem lb{K:Aa}{H H':Hp}{td b:GV}{kvs:List (Key×V)}{r:List Str}(hb:RowAt K H b r)(k:Kp (· = td) H H')(ht:H td=some (.dK kvs)):RowAt K H' b r:=by
 rcases hb with (h|⟨o,h⟩)|h
 . exact .inl (.inl (k _ _ h (db h ht (fun z=>nomatch z))))
 . exact .inl (.inr ⟨o,k _ _ h (db h ht (fun z=>nomatch z))⟩)
 . exact .inr h
section
variable{P:Gx}{w:G9}{K:Aa}{mg:Str->Option GQ}{base:HB}{f C C2 fI fI2 gT gG gA gP gC gS gR:GV}{fd dT dG dA dP dC dS dR:HA}
theorem scCellR:FnScope ["self","part","number","found"] ["self","part"] (ap rc):=⟨rfl,rfl,rfl,by decide,rfl,by decide,by decide⟩
theorem a1x(T:Txt K mg C fI)(T2:TTxt K mg C2 fI2)(F:Fun K "cell_row" "Taking.cell_row" rc f fd)(GT:FnOk P w K mg base CX0 4 gT dT ["self","place"] (l9 K C C2))(cT:MCal K C2 "take" gT dT ["self","place"])(GG:FnOk P w K mg base CX0 3 gG dG ["self","found","asked"] (ul K C C2))(cG:MCal K C2 "gives" gG dG ["self","found","asked"]):FnOk P w K mg base CX0 5 f fd ["self","part"] (gr K C C2 fun r=>∃a b c,r=[("cell":Str),a,b,c]):=by
 refine F.okQ scCellR (fun vs H Q E h=>?_) (fun cdv A outer s0 H vs Q E hr h=>?_)
 . obtain⟨q,td,b,F,P,tk,r,rfl,_⟩:=h;rfl
 obtain⟨qa,td,b,Fs,Ps,tk,r,rfl,hT,hR,hb,⟨x,u,v,rfl⟩,hin,_,hnt,htl,q⟩:=h;have nd:=scCellR.nd;have hu1:=cz hr;have hr3:=hr.mono (j:=3) (by omega);refine⟨_,ac (ak (i:=2) nd rfl (Or.inl rfl) (b7 (qv 0) T2.cl cT.meth GT hr cT.bind .nil ar (aq (ah aj (qv 1) ab (fun _ _=>rfl)) a0)))
  (ac (bi (az fi (qv 2) bt (b0 _)) (af (aw bt)) be)
  (ac (ak (i:=3) nd rfl (Or.inl rfl) (jn hu1 (b8 (K:=K) rfl (qv 0)) (qv 2) (fun _ _=>rfl)))
  (ac (bi (QW.qt (gn (az gz (ah aj (qv 3) ab (fun _ _=>rfl)) bv (b0 _)) (gn (fg (cf (b7 (qv 0) T2.cl cG.meth GG hr3 cG.bind .nil ar (aq (ah aj (qv 3) ab (fun _ _=>rfl)) (aq (ah aj (qv 1) ab (fun _ _=>rfl)) a0))))) (ie (fg (cf (b7 (qv 0) T2.cl cG.meth GG hr3 cG.bind .nil ar (aq (ah aj (qv 3) ab (fun _ _=>rfl)) (aq (ah aj (qv 1) ab (fun _ _=>rfl)) a0))))))))) (af (aw bt)) be)
  (af (aw (bn (ae (qv 2) a0))))))),?_⟩
 obtain⟨j,hj⟩:=BX hin;have hjn:j∈neOf Fs Ps:=(cq hj).mpr fun z=>z.1 rfl;obtain⟨p,pd,dx,fs,h1,h2,kw,_⟩:=fz hT hj;refine⟨_,rfl,qa,dx,fs,rfl,h1,h2.meth "take" (by decide),_,rfl,b,_,1,.str x,rfl,rfl,hb,rfl,qa,td,Fs,Ps,tk,x,j,_,rfl,hT,hR,hR.here hjn hj rfl,hnt j hjn hj,htl,fun H1 k1 hT1=>?_⟩;obtain⟨p,pd,dx,fs,h1,h2,kw,kvs,b',g1,g2,g3⟩:=fz hT1 hj;have gp:=DGet.k (k:=Sum.inl ((j:Nat):Int)) g1;rw[g2] at gp;have hb1:RowAt K H1 b [("cell":Str),x,u,v]:=lb hb k1 hT.tk;refine⟨_,rfl,rfl,_,rfl,?_⟩;refine⟨_,rfl,qa,C2,dx,fs,.ref pd,rfl,h1,T2.cl,T2.nP,h2.parts,_,rfl,pd,_,rfl,gp,?_⟩;refine⟨_,rfl,b',_,0,.str "cell",rfl,rfl,g3,rfl,rfl,_,rfl,?_⟩;refine⟨_,rfl,qa,dx,fs,rfl,h1,h2.meth "gives" (by decide),_,rfl,b',_,2,.str u,rfl,rfl,g3,rfl,_,rfl,b,_,2,.str u,rfl,rfl,hb1,rfl,qa,td,Fs,Ps,_,u,rfl,hT1,true,rfl,?_⟩;refine⟨_,rfl,qa,dx,fs,rfl,h1,h2.meth "gives" (by decide),_,rfl,b',_,3,.str v,rfl,rfl,g3,rfl,_,rfl,b,_,3,.str v,rfl,rfl,hb1,rfl,qa,td,Fs,Ps,_,v,rfl,hT1,true,rfl,?_⟩;refine⟨_,rfl,(show 1<=GX by decide),fun D hD=>?_⟩;have s2:=ad hD (.lst [.int (j:Int)]);exact q D _ _ _ (fun b o hb n=>s2 _ _ (k1 b o hb n)) (hT1.same s2) (.inr ⟨j,rfl,hjn,hj⟩) aa
theorem scPassed:FnScope ["self","number","end","found"] ["self","number","end"] (ap m6):=⟨rfl,rfl,rfl,by decide,rfl,by decide,by decide⟩
theorem zj(T:Txt K mg C fI)(T2:TTxt K mg C2 fI2)(F:Fun K "passed" "Taking.passed" m6 f fd)(GA:FnOk P w K mg base CX0 2 gA dA ["self","one","other"] (ei C))(cA:MCal K C "alike" gA dA ["self","one","other"])(GG:FnOk P w K mg base CX0 3 gG dG ["self","one","other"] (pi K C C2))(cG:MCal K C2 "ask_unlike" gG dG ["self","one","other"])(GP:FnOk P w K mg base CX0 3 gP dP ["self","number","end"] (fun _ _ _ _=>False))(cP:MCal K C2 "lies_outside" gP dP ["self","number","end"]):FnOk P w K mg base CX0 4 f fd ["self","number","end"] (qi K C C2):=by
 refine F.okQ scPassed (fun vs H Q E h=>?_) (fun cdv A outer s0 H vs Q E hr h=>?_)
 . obtain⟨q,td,F,P,tk,j,a,e,rfl,_⟩:=h;rfl
 obtain⟨qa,td,Fs,Ps,tk,j,a,e,rfl,hT,hj,q⟩:=h;have nd:=scPassed.nd;have hu1:=cz hr;have hr2:=hr.mono (j:=2) (by omega);refine⟨_,ac (ak (i:=3) nd rfl (Or.inl rfl) (jn hu1 (b8 (K:=K) rfl (qv 0)) (qv 1) (fun _ _=>rfl)))
  (ac (bi (QW.qt (ee (az c3 (ah aj (qv 3) ab (fun _ _=>rfl)) bv (b0 _)) (dt (az gz (ah aj (qv 3) ab (fun _ _=>rfl)) bv (b0 _))))) (ac (bq (b7 (qv 0) T2.cl cG.meth GG hr cG.bind .nil ar (aq (ah aj (qv 3) ab (fun _ _=>rfl)) (ae (qv 2) a0))))
  (af (aw (ah aj (qv 3) ab (fun _ _=>rfl))))) be)
  (ac (bi (az c3 (ah aj (qv 3) ab (fun _ _=>rfl)) bv (b0 _)) (ac (bi (cf (b7 (b8 (K:=K) rfl (qv 0)) T.cl cA.meth GA hr2 cA.bind .nil ar (aq (ah aj (qv 3) ab (fun _ _=>rfl)) (ae (qv 2) a0)))) (af (aw (ah aj (qv 3) ab (fun _ _=>rfl)))) be)
  (ac (bq (b7 (qv 0) T2.cl cG.meth GG hr cG.bind .nil ar (aq (ah aj (qv 3) ab (fun _ _=>rfl)) (ae (qv 2) a0))))
  (af (aw (ir (cf (b7 (qv 0) T2.cl cP.meth GP hr cP.bind .nil ar (ae (qv 1) (ae (qv 2) a0)))) (ah aj (qv 3) ab (fun _ _=>rfl)) bt))))) be)
  (af (aw bt)))),?_⟩
 obtain⟨p,pd,dx,fs,h1,h2,kw,kvs,b',g1,g2,g3⟩:=fz hT hj;have gp:=DGet.k (k:=Sum.inl ((j:Nat):Int)) g1;rw[g2] at gp;obtain⟨pl,hd,un,fu,D,L,Fl,hK,hN,hfu,hA,hG,_⟩:=kw.ex;obtain⟨⟨hm,uk,hk,hok,hU⟩,hrows,hne⟩:=id hK;obtain⟨⟨dx',fs',g1',g2',_⟩,_⟩:=id hN;refine⟨_,rfl,qa,C2,dx,fs,.ref pd,rfl,h1,T2.cl,T2.nP,h2.parts,_,rfl,pd,_,rfl,gp,?_⟩;refine⟨_,rfl,b',_,0,.str "stretch",rfl,rfl,g3,rfl,rfl,_,rfl,?_⟩;refine⟨_,rfl,b',_,0,.str "stretch",rfl,rfl,g3,rfl,rfl,_,rfl,?_⟩;refine⟨_,rfl,qa,C2,dx,fs,.ref p,rfl,h1,T2.cl,T2.nK,h2.kn,p,dx',fs',rfl,g1',g2'.meth "alike" (by decide),_,rfl,b',_,2,.str e,rfl,rfl,g3,rfl,_,rfl,p,pl,hd,un,fu,hm,uk,e,e,rfl,hk,?_⟩;rw[decide_eq_true rfl];exact⟨_,rfl,_,rfl,b',_,2,.str e,rfl,rfl,g3,rfl,q⟩
theorem scStrR:FnScope ["self","part","row","place","number"] ["self","part"] (ap vh):=⟨rfl,rfl,rfl,by decide,rfl,by decide,by decide⟩
theorem a4o(T:Txt K mg C fI)(T2:TTxt K mg C2 fI2)(F:Fun K "stretch_row" "Taking.stretch_row" vh f fd)(GT:FnOk P w K mg base CX0 4 gT dT ["self","place"] (l9 K C C2))(cT:MCal K C2 "take" gT dT ["self","place"])(GA:FnOk P w K mg base CX0 2 gA dA ["self","one","other"] (ei C))(cA:MCal K C "alike" gA dA ["self","one","other"])(GP:FnOk P w K mg base CX0 4 gP dP ["self","number","end"] (qi K C C2))(cP:MCal K C2 "passed" gP dP ["self","number","end"]):FnOk P w K mg base CX0 5 f fd ["self","part"] (gr K C C2 fun r=>∃a b,r=[("stretch":Str),a,b]):=by
 refine F.okQ scStrR (fun vs H Q E h=>?_) (fun cdv A outer s0 H vs Q E hr h=>?_)
 . obtain⟨q,td,b,F,P,tk,r,rfl,_⟩:=h;rfl
 obtain⟨qa,td,b,Fs,Ps,tk,r,rfl,hT,hR,hb,⟨x,e,rfl⟩,hin,_,hnt,htl,q⟩:=h;have nd:=scStrR.nd;have hu1:=cz hr;have hr2:=hr.mono (j:=2) (by omega);refine⟨_,ac (ak (i:=2) nd rfl (Or.inl rfl) (bn a0))
  (ac (ak (i:=3) nd rfl (Or.inl rfl) (ah aj (qv 1) ab (fun _ _=>rfl)))
  (ac (kb AA (fg (cf (b7 (b8 (K:=K) rfl (qv 0)) T.cl cA.meth GA hr2 cA.bind .nil ar (ae (qv 3) (aq (ah aj (qv 1) ab (fun _ _=>rfl)) a0))))) (ac (ak (i:=4) nd rfl (Or.inl rfl) (b7 (qv 0) T2.cl cT.meth GT hr cT.bind .nil ar (ae (qv 3) a0)))
  (ac (bi (az fi (qv 4) bt (b0 _)) (af (aw bt)) be)
  (ac (ak (i:=3) nd rfl (Or.inl rfl) (b7 (qv 0) T2.cl cP.meth GP hr cP.bind .nil ar (ae (qv 4) (aq (ah aj (qv 1) ab (fun _ _=>rfl)) a0))))
  (ac (bi (az fi (qv 3) bt (b0 _)) (af (aw bt)) be)
  (af (bq (cy (K:=K) rfl A0 AE AF bz (qv 2) (ae (qv 4) a0)))))))))
  (af (aw (qv 2))))),?_⟩
 obtain⟨j,hj⟩:=BX hin;refine⟨(show 0<=GX by decide),fun D hD=>?_⟩;have s1:=ad hD (.lst []);have hDt:D≠td:=A9 (ax hT.tk hD);refine⟨_,rfl,b,_,1,.str x,rfl,rfl,hb.same s1,rfl,?_⟩;refine m9 (fun m σ H2=>∃(tk2:List Nat) (pl:Str) (z:Option V) (xs:List V),σ=[rQ qa,rQ b,rQ D,some (.str pl),z]/\Kp (· = td) H H2/\TkAt K C C2 H2 qa td Fs Ps tk2/\H2 D=some (.lst xs)/\xs.length<=1/\
  ((m=1/\pl=x/\tk2=tk/\xs=[])\/(m=0/\pl=e/\j∈neOf Fs Ps/\tk2=tk++[j]))) (m0:=1) ⟨tk,x,none,[],rfl,fun b o hb _=>s1 _ _ hb,hT.same s1,aa,A5 _,.inl ⟨rfl,rfl,rfl,rfl⟩⟩ ?_ ?_
 . rintro m σ H2 ⟨tk2,pl,z,xs,rfl,k2,hT2,hD2,hxl,hc⟩;obtain⟨p,pd,dx,fs,h1,h2,kw,_⟩:=fz hT2 hj;obtain⟨pl',hd,un,fu,D',L,Fl,hK,hN,hfu,hA,hG,_⟩:=kw.ex;obtain⟨⟨hm,uk,hk,hok,hU⟩,hrows,hne⟩:=id hK;obtain⟨⟨dx',fs',g1',g2',_⟩,_⟩:=id hN;have hb2:=lb hb k2 hT.tk;refine⟨_,rfl,qa,C2,dx,fs,.ref p,rfl,h1,T2.cl,T2.nK,h2.kn,p,dx',fs',rfl,g1',g2'.meth "alike" (by decide),_,rfl,_,rfl,b,_,2,.str e,rfl,rfl,hb2,rfl,p,pl',hd,un,fu,hm,uk,pl,e,rfl,hk,?_⟩;rw[hok.hd,hok.hd];refine⟨_,rfl,iteB (fun c=>?_) (fun c=>?_)⟩
   . have c':¬ al Fs pl=al Fs e:=by simpa using c
     obtain⟨rfl,rfl,rfl,rfl⟩:=hc.resolve_right fun z=>c' (by rw[z.2.1]);have hjn:j∈neOf Fs Ps:=(cq hj).mpr fun z=>c' z.2;refine⟨_,rfl,qa,dx,fs,rfl,h1,h2.meth "take" (by decide),_,rfl,qa,td,Fs,Ps,tk2,pl,j,_,rfl,hT2,hR,hR.here hjn hj rfl,hnt j hjn hj,htl,fun H3 k3 hT3=>?_⟩;obtain⟨p3,pd3,dx3,fs3,h13,h23,_⟩:=fz hT3 hj;have hb3:=lb hb2 k3 hT2.tk;refine⟨_,rfl,rfl,_,rfl,?_⟩;refine⟨_,rfl,qa,dx3,fs3,rfl,h13,h23.meth "passed" (by decide),_,rfl,_,rfl,b,_,2,.str e,rfl,rfl,hb3,rfl,qa,td,Fs,Ps,_,j,pl,e,rfl,hT3,hj,?_⟩;refine⟨_,rfl,rfl,_,rfl,?_⟩;have hD3:=k3 _ _ hD2 hDt;refine⟨_,rfl,.inl ⟨rfl,_,SqL.of hD3⟩,_,rfl,D,_,_,rfl,rfl,hD3,(by decide),?_⟩;have k4:∀xs',Kp (· = td) H (upd H3 D (.lst xs')):=fun xs' b o hb n=>by
      rw[ag (ax hb hD)];exact k3 _ _ (k2 _ _ hb n) n
     refine⟨0,Ey,tk2++[j],e,_,_,rfl,k4 _,?_,aa,(by simp),.inr ⟨rfl,rfl,hjn,rfl⟩⟩;exact hT.put (k4 _) (by rw[ag (A9 hDt)];exact hT3.tk)
   . have c':al Fs pl=al Fs e:=by simpa using c
     refine⟨_,rfl,q D xs H2 tk2 k2 hT2 ?_ hD2⟩;rcases hc with⟨rfl,rfl,rfl,rfl⟩|⟨_,rfl,hjn,rfl⟩
     . exact .inl ⟨rfl,(by show ¬ ("stretch":Str)="cell";decide),c'⟩
     . exact .inr ⟨j,rfl,hjn,hj⟩
 . rintro σ H2 Q1 Q2 hq ⟨v1,e1,a1,a2,a3,a4,a5,e2,e3,e4,e5,e6,p1,p2,p3,e7,e8,e9,v2,e10,v3,e11,b1,b2,b3,b4,e12,e13,e14,e15,k1,k2,k3,k4,k5,k6,k7,k8,k9,e16,e17,b9,e18,hQ⟩;exact⟨v1,e1,a1,a2,a3,a4,a5,e2,e3,e4,e5,e6,p1,p2,p3,e7,e8,e9,v2,e10,v3,e11,b1,b2,b3,b4,e12,e13,e14,e15,k1,k2,k3,k4,k5,k6,k7,k8,k9,e16,e17,b9,e18,hq _ _ hQ⟩
theorem scTreeR:FnScope ["self","part","row","coming","place","number","found"] ["self","part"] (ap sq):=⟨rfl,rfl,rfl,by decide,rfl,by decide,by decide⟩
theorem a1m(T:Txt K mg C fI)(T2:TTxt K mg C2 fI2)(F:Fun K "tree_row" "Taking.tree_row" sq f fd)(GT:FnOk P w K mg base CX0 4 gT dT ["self","place"] (l9 K C C2))(cT:MCal K C2 "take" gT dT ["self","place"])(GA:FnOk P w K mg base CX0 2 gA dA ["self","one","other"] (ei C))(cA:MCal K C "alike" gA dA ["self","one","other"]):FnOk P w K mg base CX0 5 f fd ["self","part"] (gr K C C2 fun r=>∃a,r=[("tree":Str),a]):=by
 refine F.okQ scTreeR (fun vs H Q E h=>?_) (fun cdv A outer s0 H vs Q E hr h=>?_)
 . obtain⟨q,td,b,F,P,tk,r,rfl,_⟩:=h;rfl
 obtain⟨qa,td,b,Fs,Ps,tk,r,rfl,hT,hR,hb,⟨x,rfl⟩,hin,hna,hnt,htl,q⟩:=h;have nd:=scTreeR.nd;have hu1:=cz hr;have hr2:=hr.mono (j:=2) (by omega);refine⟨_,ac (ak (i:=2) nd rfl (Or.inl rfl) (bn a0))
  (ac (ak (i:=3) nd rfl (Or.inl rfl) (bn (aq (ah aj (qv 1) ab (fun _ _=>rfl)) a0)))
  (ac (kb AA (q8 (K:=K) (qv 3)) (ac (ak (i:=4) nd rfl (Or.inl rfl) (a5j A0 PySem.F.slot_list_pop PySem.F.type_list_pop a63 (qv 3)))
  (af (bi (fg (cf (b7 (b8 (K:=K) rfl (qv 0)) T.cl cA.meth GA hr2 cA.bind .nil ar (ae (qv 4) (ay a0))))) (ac (ak (i:=5) nd rfl (Or.inl rfl) (b7 (qv 0) T2.cl cT.meth GT hr cT.bind .nil ar (ae (qv 4) a0)))
  (ac (bi (az fi (qv 5) bt (b0 _)) (af (aw bt)) be)
  (ac (ak (i:=6) nd rfl (Or.inl rfl) (jn hu1 (b8 (K:=K) rfl (qv 0)) (qv 5) (fun _ _=>rfl)))
  (ac (bi (QW.qt (gn (az c3 (ah aj (qv 6) ab (fun _ _=>rfl)) bv (b0 _)) (ie (az nv bv (qv 6) (by with_unfolding_all rfl))))) (af (aw bt)) be)
  (ac (bi (az c3 (ah aj (qv 6) ab (fun _ _=>rfl)) bv (b0 _)) (af (bq (cy (K:=K) rfl A0 Ed Ee mx (qv 3) (a71 (aq (ah aj (qv 6) ab (fun _ _=>rfl)) (aq (ah aj (qv 6) ab (fun _ _=>rfl)) a0)) a0)))) be)
  (af (bq (cy (K:=K) rfl A0 AE AF bz (qv 2) (ae (qv 5) a0))))))))) be))))
  (af (aw (qv 2))))),?_⟩
 obtain⟨j,hj⟩:=BX hin;have hxa:¬ x="any" := hna rfl;refine⟨(show 0<=GX by decide),fun D hD=>?_⟩;have s1:=ad hD (.lst []);have hDt:D≠td:=A9 (ax hT.tk hD);refine⟨_,rfl,b,_,1,.str x,rfl,rfl,hb.same s1,rfl,(show 1<=GX by decide),fun co hco=>?_⟩;have s2:=ad hco (.lst [.str x]);have hDc:D≠co:=ax aa hco;have hco0:H co=none:=s1.free hco;have hct:co≠td:=A9 (ax hT.tk hco0);refine m9 (fun m σ H2=>∃(tk2:List Nat) (cs:List V) (z1 z2 z3:Option V) (xs:List V),σ=[rQ qa,rQ b,rQ D,rQ co,z1,z2,z3]/\Kp (· = td) H H2/\TkAt K C C2 H2 qa td Fs Ps tk2/\H2 D=some (.lst xs)/\H2 co=some (.lst cs)/\xs.length<=1/\
  ((m=1/\cs=[.str x]/\tk2=tk/\xs=[])\/(m=0/\cs=[]/\Aft Fs Ps tk [("tree":Str),x] tk2))) (m0:=1) ⟨tk,_,none,none,none,[],rfl,fun b o hb _=>s2 _ _ (s1 _ _ hb),hT.same (s1.trans s2),s2 _ _ aa,aa,A5 _,.inl ⟨rfl,rfl,rfl,rfl⟩⟩ ?_ ?_
 . rintro m σ H2 ⟨tk2,cs,z1,z2,z3,xs,rfl,k2,hT2,hD2,hC2,hxl,hc⟩;refine⟨_,rfl,_,.inl ⟨_,SqL.of hC2,rfl⟩,iteB (fun c=>?_) (fun c=>?_)⟩
   . obtain⟨rfl,rfl,rfl,rfl⟩:=hc.resolve_right fun z=>by rw[z.2.1] at c;cases c
     refine⟨_,rfl,.inl ⟨rfl,_,SqL.of hC2⟩,co,_,.str x,rfl,rfl,hC2,rfl,?_⟩;have k3:Kp (· = td) H (upd H2 co (.lst [])):=fun b o hb n=>by rw[ag (ax hb hco0)];exact k2 _ _ hb n
     have hT3:TkAt K C C2 (upd H2 co (.lst [])) qa td Fs Ps tk2:=hT.put k3 (by rw[ag (A9 hct)];exact hT2.tk);have hD3:(upd H2 co (.lst [])) D=some (.lst []):=by rw[ag hDc];exact hD2
     have hC3:(upd H2 co (.lst [])) co=some (.lst []):=aa;show c8 4 (V.str x) _ (upd H2 co (.lst [])) _;generalize upd H2 co (.lst [])=H3 at k3 hT3 hD3 hC3 |-;obtain⟨p,pd,dx,fs,h1,h2,kw,kvs,b',g1,g2,g3⟩:=fz hT3 hj;obtain⟨pl',hd,un,fu,D',L,Fl,hK,hN,hfu,hA,hG,_⟩:=kw.ex;obtain⟨⟨hm,uk,hk,hok,hU⟩,hrows,hne⟩:=id hK;obtain⟨⟨dx',fs',g1',g2',_⟩,_⟩:=id hN;refine⟨_,rfl,qa,C2,dx,fs,.ref p,rfl,h1,T2.cl,T2.nK,h2.kn,p,dx',fs',rfl,g1',g2'.meth "alike" (by decide),_,rfl,p,pl',hd,un,fu,hm,uk,x,"nil",rfl,hk,?_⟩;rw[hok.hd,hok.hd];refine⟨_,rfl,iteB (fun c=>?_) (fun c=>?_)⟩
     . have c':¬ al Fs x=al Fs "nil" := by simpa using c
       have hjn:j∈neOf Fs Ps:=(cq hj).mpr fun z=>c' z.2;refine⟨_,rfl,qa,dx,fs,rfl,h1,h2.meth "take" (by decide),_,rfl,qa,td,Fs,Ps,tk2,x,j,_,rfl,hT3,hR,hR.here hjn hj rfl,hnt j hjn hj,htl,fun H4 k4 hT4=>?_⟩;obtain⟨p,pd,dx,fs,h1,h2,kw,kvs,b',g1,g2,g3⟩:=fz hT4 hj;have gp:=DGet.k (k:=Sum.inl ((j:Nat):Int)) g1;rw[g2] at gp;refine⟨_,rfl,rfl,_,rfl,?_⟩;refine⟨_,rfl,qa,C2,dx,fs,.ref pd,rfl,h1,T2.cl,T2.nP,h2.parts,_,rfl,pd,_,rfl,gp,?_⟩;refine⟨_,rfl,b',_,0,.str "tree",rfl,rfl,g3,rfl,rfl,_,rfl,?_⟩;have hni:inV (V.str "any") ([("tree":Str),x].map V.str)=false:=by
        have n1:(("tree":Str)=="any")=false:=by decide
        have n2:(x==("any":Str))=false:=by simpa using hxa
        show (("tree":Str)=="any" || ((x==("any":Str)) || false))=false;rw[n1,n2];rfl
       refine⟨_,rfl,b',_,rfl,.inr g3,rfl,rfl,?_⟩;rw[hni];refine⟨_,rfl,?_⟩;refine⟨_,rfl,b',_,0,.str "tree",rfl,rfl,g3,rfl,rfl,_,rfl,?_⟩;have hD4:=k4 _ _ hD3 hDt;have hC4:=k4 _ _ hC3 hct;refine⟨_,rfl,.inl ⟨rfl,_,SqL.of hD4⟩,_,rfl,D,_,_,rfl,rfl,hD4,(by decide),?_⟩;have k5:∀xs',Kp (· = td) H (upd H4 D (.lst xs')):=fun xs' b o hb n=>by
        rw[ag (ax hb hD)];exact k4 _ _ (k3 _ _ hb n) n
       exact⟨0,Ey,tk2++[j],[],_,_,_,_,rfl,k5 _,hT.put (k5 _) (by rw[ag (A9 hDt)];exact hT4.tk),aa,(by rw[ag (A9 hDc)];exact hC4),(by simp),.inr ⟨rfl,rfl,.inr ⟨j,rfl,hjn,hj⟩⟩⟩
     . have c':al Fs x=al Fs "nil" := by simpa using c
       exact⟨0,Ey,tk2,[],_,_,_,[],rfl,k3,hT3,hD3,hC3,A5 _,.inr ⟨rfl,rfl,.inl ⟨rfl,(by show ¬ ("tree":Str)="cell";decide),c'⟩⟩⟩
   . rcases hc with⟨_,rfl,_⟩|⟨_,_,hA⟩
     . cases c
     . exact⟨_,rfl,q D xs H2 tk2 k2 hT2 hA hD2⟩
 . rintro σ H2 Q1 Q2 hq ⟨v,h1,k,h2,h3⟩;exact⟨v,h1,k,h2,hq _ _ h3⟩
theorem a52:FnScope ["self","part"] ["self","part"] (ap pb):=⟨rfl,rfl,rfl,by decide,rfl,by decide,by decide⟩
theorem a0e(T2:TTxt K mg C2 fI2)(F:Fun K "row_of" "Taking.row_of" pb f fd)(GC:FnOk P w K mg base CX0 5 gC dC ["self","part"] (gr K C C2 fun r=>∃a b c,r=[("cell":Str),a,b,c]))(cC:MCal K C2 "cell_row" gC dC ["self","part"])(GS:FnOk P w K mg base CX0 5 gS dS ["self","part"] (gr K C C2 fun r=>∃a b,r=[("stretch":Str),a,b]))(cS:MCal K C2 "stretch_row" gS dS ["self","part"])(GR:FnOk P w K mg base CX0 5 gR dR ["self","part"] (gr K C C2 fun r=>∃a,r=[("tree":Str),a]))(cR:MCal K C2 "tree_row" gR dR ["self","part"]):FnOk P w K mg base CX0 6 f fd ["self","part"] (gr K C C2 PartRow):=by
 refine F.okQ a52 (fun vs H Q E h=>?_) (fun cdv A outer s0 H vs Q E hr h=>?_)
 . obtain⟨q,td,b,F,P,tk,r,rfl,_⟩:=h;rfl
 obtain⟨qa,td,b,Fs,Ps,tk,r,rfl,hT,hR,hb,hrow,hin,hna,hnt,htl,q⟩:=h;refine⟨_,ac (bi (az c3 (ah aj (qv 1) ab (fun _ _=>rfl)) bv (b0 _)) (af (aw (b7 (qv 0) T2.cl cC.meth GC hr cC.bind .nil ar (ae (qv 1) a0)))) be)
  (af (aw (ir (az c3 (ah aj (qv 1) ab (fun _ _=>rfl)) bv (b0 _)) (b7 (qv 0) T2.cl cS.meth GS hr cS.bind .nil ar (ae (qv 1) a0)) (b7 (qv 0) T2.cl cR.meth GR hr cR.bind .nil ar (ae (qv 1) a0))))),?_⟩
 obtain⟨p,pd,dx,fs,rs,h1,h2,_⟩:=hT.ex;refine⟨_,rfl,b,_,0,_,rfl,rfl,hb,hrow.at0,rfl,_,rfl,iteB (fun c=>?_) (fun c=>?_)⟩
 . have c':r.getD 0 ""="cell" := by simpa using c
   refine⟨_,rfl,qa,dx,fs,rfl,h1,h2.meth "cell_row" (by decide),_,rfl,qa,td,b,Fs,Ps,tk,r,rfl,hT,hR,hb,?_,hin,hna,hnt,htl,q⟩;rcases hrow with z|⟨a,e,rfl⟩|⟨a,rfl⟩
   . exact z
   . exact absurd c' (by show ¬ ("stretch":Str)="cell";decide)
   . exact absurd c' (by show ¬ ("tree":Str)="cell";decide)
 . have c':¬ r.getD 0 ""="cell" := by simpa using c
   refine⟨_,rfl,b,_,0,_,rfl,rfl,hb,hrow.at0,rfl,_,rfl,iteB (fun c2=>?_) (fun c2=>?_)⟩
   . have c2':r.getD 0 ""="stretch" := by simpa using c2
     refine⟨_,rfl,qa,dx,fs,rfl,h1,h2.meth "stretch_row" (by decide),_,rfl,qa,td,b,Fs,Ps,tk,r,rfl,hT,hR,hb,?_,hin,hna,hnt,htl,q⟩;rcases hrow with⟨a,e,g,rfl⟩|z|⟨a,rfl⟩
     . exact absurd rfl c'
     . exact z
     . exact absurd c2' (by show ¬ ("tree":Str)="stretch";decide)
   . have c2':¬ r.getD 0 ""="stretch" := by simpa using c2
     refine⟨_,rfl,qa,dx,fs,rfl,h1,h2.meth "tree_row" (by decide),_,rfl,qa,td,b,Fs,Ps,tk,r,rfl,hT,hR,hb,?_,hin,hna,hnt,htl,q⟩;rcases hrow with⟨a,e,g,rfl⟩|⟨a,e,rfl⟩|z
     . exact absurd rfl c'
     . exact absurd rfl c2'
     . exact z
end
def T2At(K:Aa)(H:Hp)(t:GV)(G S:List (List Str)):Prop:=∃a b,SqT K H t [.ref a,.ref b]/\RowsAt K H a G/\RowsAt K H b S
theorem T2At.same{K:Aa}{H H':Hp}{t:GV}{G S:List (List Str)}(h:T2At K H t G S)(e:Same H H'):T2At K H' t G S:=by
 obtain⟨a,b,h1,h2,h3⟩:=h;exact⟨a,b,e.seqT h1,h2.same e,h3.same e⟩
def ky(K:Aa)(C C2:GV):Sp:=fun vs H Q _=>∃(q td t:GV) (F P G S:List (List Str)),vs=[.ref q,.ref t]/\TkAt K C C2 H q td F P []/\Rdy F P/\T2At K H t G S/\(∀g∈G,yz F P g)/\G.length<=100/\S.Perm P/\(∀r∈P,vo r)/\
 ∀D xs H' tk,Kp (· = td) H H'->TkAt K C C2 H' q td F P tk->(∀j∈neOf F P,j∈tk)->H' D=some (.lst xs)->Q (.ref D) H'
def ko(K:Aa)(C C2:GV):Sp:=fun vs H Q _=>∃(q td:GV) (F P:List (List Str)) (tk:List Nat),vs=[.ref q]/\TkAt K C C2 H q td F P tk/\P.length<=15/\(∀j∈neOf F P,j∈tk)/\∀H',Same H H'->Q (.bl false) H'
theorem Rdy.two{F P S:List (List Str)}(R:Rdy F P)(h:S.Perm P){i i':Nat}{r:List Str}(hii:i'<i)(hi:S[i]?=some r)(hi':S[i']?=some r):cx r (al F) []:=by
 have pw:P.Pairwise (fun a b=>a=b->cx a (al F) []):=by
  rw[List.pairwise_iff_getElem];intro i j hi hj hij e;by_cases c:cx P[i] (al F) []
  . exact c
  . have h1:P[i]?=some P[i]:=Ae hi;have h2:P[j]?=some P[i]:=by rw[Ae hj,e]
    have:=R.one ((cq h1).mpr c) h1 ((cq h2).mpr c) h2 rfl;omega
 have pw':S.Pairwise (fun a b=>a=b->cx a (al F) []):=(List.Perm.pairwise_iff (fun {a b} h e=>by have:=h e.symm;rw[e];exact this) h).mpr pw;obtain⟨l,e⟩:=Am.mp hi;obtain⟨l',e'⟩:=Am.mp hi';have:=List.pairwise_iff_getElem.mp pw' i' i l' l hii (e'.trans e.symm);rw[e'] at this;exact this
theorem xo{X:Cx}{o i:Expr}{pos:Pos}{td ty:TE}(hu:X.A.units+1<cLine)(hi:QE X i ty)(ho:QE X o td)(hm:HG .NotIn o=false:=by with_unfolding_all rfl):QE X (.Compare i [.NotIn] [o] pos) (md ty td):=⟨zm (ng hu hi.run ho.run) hm⟩
section
variable{P:Gx}{w:G9}{K:Aa}{mg:Str->Option GQ}{base:HB}{f C C2 fI fI2 gH gR:GV}{fd dH dR:HA}
theorem scRowsOf:FnScope ["self","telling","rows","part","row"] ["self","telling"] (ap ls):=⟨rfl,rfl,rfl,by decide,rfl,by decide,by decide⟩
theorem zf(Cn:Con K mg w)(T2:TTxt K mg C2 fI2)(F:Fun K "rows_of" "Taking.rows_of" ls f fd)(GH:FnOk P w K mg base CX0 4 gH dH ["self","fact"] (sd K C C2))(cH:MCal K C2 "holds" gH dH ["self","fact"])(GR:FnOk P w K mg base CX0 6 gR dR ["self","part"] (gr K C C2 PartRow))(cR:MCal K C2 "row_of" gR dR ["self","part"]):FnOk P w K mg base CX0 7 f fd ["self","telling"] (ky K C C2):=by
 refine F.okQ scRowsOf (fun vs H Q E h=>?_) (fun cdv A outer s0 H vs Q E hr h=>?_)
 . obtain⟨q,td,t,F,P,G,S,rfl,_⟩:=h;rfl
 obtain⟨qa,td,t,Fs,Ps,Gs,Ss,rfl,hT,hR,⟨fa,pa,ht,hG,hS⟩,hh,hgl,hpm,hna,q⟩:=h;have nd:=scRowsOf.nd;have hr4:=hr.mono (j:=4) (by omega);refine⟨_,ac (bi (fg (cf (bf (a0y rfl) rfl Cn.all PyProof.Rows.boot_all (g0 (il ["fact","self"] [0] (cn (ah aj (qv 1) ab (fun _ _=>rfl))) (fun _ _ _ _=>jq) (fun _ _ _ _=>(b7 (qv 1) T2.cl cH.meth GH hr4 cH.bind .nil ar (ae (qv 0) a0)))) a0)))) (af (aw bt)) be)
  (ac (ak (i:=2) nd rfl (Or.inl rfl) (bn a0))
  (ac (cc AA rfl (cn (ah aj (qv 1) ab (fun _ _=>rfl))) (bw (i:=3) nd rfl (Or.inl rfl)) (ac (ak (i:=4) nd rfl (Or.inl rfl) (b7 (qv 0) T2.cl cR.meth GR hr cR.bind .nil ar (ae (qv 3) a0)))
  (ac (bi (az fi (qv 4) bt (b0 _)) (af (aw bt)) be)
  (af (bq (cy (K:=K) rfl A0 AE AF bz (qv 2) (ae (qv 4) a0)))))))
  (af (aw (qv 2))))),?_⟩
 obtain⟨p,pd,dx,fs,rs,h1,h2,_⟩:=hT.ex;obtain⟨gas,hg1,hg2⟩:=hG;have hgl':=A8 hg2;have hsl:=hpm.length_eq;refine⟨_,rfl,t,_,0,.ref fa,rfl,rfl,ht,rfl,fa,rfl,⟨_,SqL.of hg1⟩,?_⟩;refine iw (gas.map V.ref) Gs (fun _=>true) fb (SqL.of hg1) (by rw[Ac];omega) (by rw[Ac];exact hgl'.symm) (fun i x y hx hy H2 e2 Q' q'=>?_) fun D1 H1 hD1 e1 hd1=>?_
 . obtain⟨b,hb,rfl⟩:=ii hx;exact⟨_,rfl,qa,dx,fs,rfl,e2 _ _ h1,h2.meth "holds" (by decide),_,rfl,qa,td,b,Fs,Ps,[],y,rfl,hT.same e2,hR,(Paired.at2 hg2 hb hy).same e2,hh y (Au hy),fun H3 e3=>q' H3 e3⟩
 refine⟨D1,_,rfl,SqL.of hd1,?_⟩;rw[show (Gs.map fun _=>true).all id=true by simp];refine⟨_,rfl,?_⟩;refine⟨(show 0<=GX by decide),fun D hD=>?_⟩;have s2:=ad hD (.lst []);have e02:=e1.trans s2;have hD0:H D=none:=e1.free hD;have hDt:D≠td:=A9 (ax hT.tk hD0);obtain⟨sas,hs1,hs2⟩:=hS;have hsl2:=A8 hs2;have hpt:pa≠td:=db hs1 hT.tk (fun z=>nomatch z);have hplen:=hR.len;refine⟨_,rfl,t,_,1,.ref pa,rfl,rfl,(e02.seqT ht),rfl,pa,rfl,⟨_,SqL.of (e02 _ _ hs1)⟩,?_⟩;refine dm (xs:=sas.map V.ref) (fun i σ H2=>∃(tk:List Nat) (xs:List V) (z1 z2:Option V),σ=[rQ qa,rQ t,rQ D,z1,z2]/\Kp (· = td) H H2/\TkAt K C C2 H2 qa td Fs Ps tk/\H2 D=some (.lst xs)/\xs.length<=i/\tk.length<=i/\(∀j∈tk,j∈neOf Fs Ps/\∃i'<i,∃r,Ss[i']?=some r/\Ps[j]?=some r)/\(∀i'<i,∀r,Ss[i']?=some r->∀j∈neOf Fs Ps,Ps[j]?=some r->j∈tk))
  ⟨[],[],none,none,rfl,fun b o hb _=>e02 _ _ hb,hT.same e02,aa,Ah _,A5 _,(fun j hj=>by cases hj),(fun i' h=>by omega)⟩ (fun i σ H2 _ pv=>by obtain⟨_,_,_,_,_,k2,_⟩:=pv;exact SqL.of (k2 _ _ hs1 hpt)) ?_ ?_
 . rintro i v σ H2 hv ⟨tk,xs,z1,z2,rfl,k2,hT2,hD2,hxl,htl,iA,iB⟩;obtain⟨b,hb,rfl⟩:=ii hv;have hil:i<sas.length:=(Am.mp hb).1;obtain⟨r,hr⟩:∃r,Ss[i]?=some r:=⟨_,Ae (by omega)⟩
   have hrP:r∈Ps:=hpm.mem_iff.mp (Au hr);obtain⟨p,pd,dx,fs,rs,h1,h2,_⟩:=hT2.ex;refine⟨_,rfl,qa,dx,fs,rfl,h1,h2.meth "row_of" (by decide),_,rfl,qa,td,b,Fs,Ps,tk,r,rfl,hT2,hR,lb (Paired.at2 hs2 hb hr) k2 hT.tk,hR.parts r hrP,hrP,hna r hrP,fun j hj hjr hjt=>?_,by omega,fun Dr ys H3 tk' k3 hT3 hA hDr=>?_⟩
   . obtain⟨_,i',hii,r',hr',hj'⟩:=iA j hjt;rw[hjr] at hj';cases hj';exact (cq hjr).mp hj (hR.two hpm hii hr hr')
   refine⟨_,rfl,rfl,_,rfl,?_⟩;have hD3:=k3 _ _ hD2 hDt;refine⟨_,rfl,.inl ⟨rfl,_,SqL.of hD3⟩,_,rfl,D,_,_,rfl,rfl,hD3,AL (show xs.length<=15 by omega) (by decide),?_⟩;have k4:Kp (· = td) H (upd H3 D (.lst (xs++[.ref Dr]))):=fun b o hb n=>by
    rw[ag (ax hb hD0)];exact k3 _ _ (k2 _ _ hb n) n
   refine⟨tk',_,_,_,rfl,k4,hT.put k4 (by rw[ag (A9 hDt)];exact hT3.tk),aa,(by rw[Aj,AD];omega),?_,fun j hj=>?_,fun i' hi' r' hr' j hj hjr=>?_⟩
   . rcases hA with⟨rfl,_⟩|⟨j0,rfl,_⟩
     . omega
     . rw[Aj,AD];omega
   . have old:∀j∈tk,j∈neOf Fs Ps/\∃i'<i+1,∃r,Ss[i']?=some r/\Ps[j]?=some r:=fun j hj=>by
      obtain⟨a,i',b,c⟩:=iA j hj;exact⟨a,i',by omega,c⟩
     rcases hA with⟨rfl,_⟩|⟨j0,rfl,hj1,hj2⟩
     . exact old j hj
     . rcases Ad.mp hj with z|z
       . exact old j z
       . rw[Ai.mp z];exact⟨hj1,i,BC i,r,hr,hj2⟩
   . have sub:∀{j},j∈tk->j∈tk':=fun {j} z=>by
      rcases hA with⟨rfl,_⟩|⟨j0,rfl,_⟩
      . exact z
      . exact Ad.mpr (.inl z)
     by_cases c:i'<i
     . exact sub (iB i' c r' hr' j hj hjr)
     . have e:i'=i:=by omega
       subst e;rw[hr] at hr';cases hr';rcases hA with⟨rfl,he⟩|⟨j0,rfl,hj1,hj2⟩
       . exact absurd he ((cq hjr).mp hj)
       . rw[hR.one hj hjr hj1 hj2 rfl];exact Ad.mpr (.inr (Ai.mpr rfl))
 . rintro σ H2 ⟨tk,xs,z1,z2,rfl,k2,hT2,hD2,hxl,htl,iA,iB⟩;refine⟨_,rfl,q D xs H2 tk k2 hT2 (fun j hj=>?_) hD2⟩;obtain⟨r,hr⟩:∃r,Ps[j]?=some r:=⟨_,Ae (om j hj)⟩
   obtain⟨i',hi'⟩:=BX (hpm.mem_iff.mpr (Au hr));refine iB i' ?_ r hi' j hj hr;have:=(Am.mp hi').1;rw[Ac];omega
theorem a2b:FnScope ["self"] ["self"] (ap mj):=⟨rfl,rfl,rfl,by decide,rfl,by decide,by decide⟩
theorem y0(Cn:Con K mg w)(T:Txt K mg C fI)(T2:TTxt K mg C2 fI2)(F:Fun K "leaves_some" "Taking.leaves_some" mj f fd):FnOk P w K mg base CX0 1 f fd ["self"] (ko K C C2):=by
 refine F.okQ a2b (fun vs H Q E h=>?_) (fun cdv A outer s0 H vs Q E hr h=>?_)
 . obtain⟨q,td,F,P,tk,rfl,_⟩:=h;rfl
 obtain⟨qa,td,Fs,Ps,tk,rfl,hT,hP15,hall,q⟩:=h;have hu1:=cz hr;refine⟨_,(af (aw (bf (kx rfl) rfl Cn.any CY (g0 (il ["number","self"] [0] (cn (b8 (K:=K) rfl (b8 (K:=K) rfl (qv 0)))) (fun _ _ _ _=>jq) (fun _ _ _ _=>(j9 (yf hu1 (qv 0) (b8 (K:=K) rfl (qv 1))) (i9 (xo hu1 (qv 0) (b8 (K:=K) rfl (qv 1))))))) a0)))),?_⟩;obtain⟨p,pd,dx,fs,rs,h1,h2,h3,h4,h5⟩:=hT.ex;have kw:KwAt K C H p Fs Ps:=h3.same dn;obtain⟨pl,hd,un,fu,D,L,Fl,hK,hN,hfu,_⟩:=kw.ex;obtain⟨⟨dx',fs',g1,g2,hnf⟩,hD⟩:=id hN;refine⟨_,rfl,qa,C2,dx,fs,.ref p,rfl,h1,T2.cl,T2.nK,h2.kn,p,C,dx',fs',.ref D,rfl,g1,T.cl,T.nE,hnf,D,rfl,⟨_,SqL.of hD⟩,?_⟩;refine iw ((neOf Fs Ps).map natV) (neOf Fs Ps) (fun _=>false) fb (SqL.of hD) (by rw[Ac];exact AB (xy hP15) (by decide)) (by rw[Ac]) (fun i x y hx hy H2 e2 Q' q'=>?_) fun D1 H1 hD1 e1 hd1=>?_
 . obtain rfl:x=.int ((y:Nat):Int):=by
    rw[Al,hy] at hx;exact (Ap hx).symm
   have hyn:=Au hy;have hT2:=hT.same e2;have hyl:y<rs.length:=by rw[A8 h5];exact om y hyn
   have gp:=DGet.k (k:=Sum.inl ((y:Nat):Int)) (e2 _ _ (dn _ _ h4));rw[li,Al,Ae hyl] at gp;have gt:=DGet.k (k:=Sum.inl ((y:Nat):Int)) hT2.tk;refine⟨_,rfl,_,rfl,qa,C2,dx,fs,.ref pd,rfl,e2 _ _ h1,T2.cl,T2.nP,h2.parts,pd,_,rfl,gp,_,rfl,?_⟩;refine⟨_,rfl,_,rfl,qa,C2,dx,fs,.ref td,rfl,e2 _ _ h1,T2.cl,T2.nT,h2.taken,td,_,rfl,gt,?_⟩;rw[jf,decide_eq_true (hall y hyn)];exact q' H2 (Same.refl _)
 refine⟨D1,_,rfl,SqL.of hd1,?_⟩;rw[show ((neOf Fs Ps).map fun _=>false).any id=false by simp];exact q H1 e1
end
theorem qj:∀{ts:List GV}{us:List GQ},Vals (ts.map V.ref) us->∀u∈us,∃t∈ts,u=.ref t
 | [],_,.nil=>fun u hu=>by cases hu
 | t::ts,u::us,.cons r h=>fun u' hu=>by
  rcases Ar.mp hu with rfl|hu
  . cases r;exact⟨t,AK ..,rfl⟩
  . obtain⟨t',h1,h2⟩:=qj h u' hu;exact⟨t',Ay _ h1,h2⟩
theorem a1r{X:Cx}{K:Aa}(hK:X.K=K)(hu:X.A.units+1<cLine):OpR X (HI .In) (fun x y H Q=>∃(p:GV) (ts:List GV),x=.non/\y=.ref p/\SqL K H p (ts.map V.ref)/\(∀t∈ts,∃xs,SqT K H t xs)/\Q (.bl false) H):=by
 subst hK;intro pins s σ H x y v u Q I rx ry h;obtain⟨p,ts,rfl,rfl,hq,ht,q⟩:=h;cases ry;cases rx;obtain⟨its,r,pl,hz⟩:=I.list hq;refine FU (fun _=>false) pl.isList (fun w hw=>?_) ⟨.bl _,H,I,rfl,?_⟩
 . obtain⟨t,h1,rfl⟩:=qj r w (by simpa using hw);obtain⟨xs,hx⟩:=ht t h1;obtain⟨its',r',pl',_⟩:=I.tuple hx;exact SeqAt.EqAt.tuple_none pl' (by first|exact hu|(show X.A.units+1<cLine;exact hu)|(show X.A.units<cLine;omega)|omega)
 . rw[show its.toArray.any (fun _=>false)=false by simp];exact q
theorem a7i:∀m∈ti,m≠("parts":Str)/\m≠("knowledge":Str)/\m≠("taken":Str)/\m≠("doubt":Str)/\m≠("amid":Str):=by decide
theorem a7e:("parts":Str)≠"taken" /\ ("parts":Str)≠"doubt" /\ ("parts":Str)≠"amid" /\ ("knowledge":Str)≠"parts" /\ ("knowledge":Str)≠"taken" /\ ("knowledge":Str)≠"doubt" /\ ("knowledge":Str)≠"amid" /\ ("taken":Str)≠"doubt" /\ ("taken":Str)≠"amid" /\ ("doubt":Str)≠"amid" := by decide
theorem tkf5(p pd td am:GV):TkF (putF "amid" (.ref am) (putF "doubt" .non (putF "taken" (.ref td) (putF "parts" (.ref pd) (putF "knowledge" (.ref p) []))))) p pd td:=by
 obtain⟨n1,n2,n3,n4,n5,n6,n7,n8,n9,n10⟩:=a7e;refine⟨?_,?_,?_,?_,?_,fun m hm=>?_⟩
 . rw[ao,if_neg n7,ao,if_neg n6,ao,if_neg n5,ao,if_neg n4,ao,if_pos rfl]
 . rw[ao,if_neg n3,ao,if_neg n2,ao,if_neg n1,ao,if_pos rfl]
 . rw[ao,if_neg n9,ao,if_neg n8,ao,if_pos rfl]
 . rw[ao,if_neg n10,ao,if_pos rfl]
 . have h1:=bg "knowledge" (.ref p) [];have h2:=bg "parts" (.ref pd) (putF "knowledge" (.ref p) []);have h3:=bg "taken" (.ref td) (putF "parts" (.ref pd) (putF "knowledge" (.ref p) []));have h4:=bg "doubt" .non (putF "taken" (.ref td) (putF "parts" (.ref pd) (putF "knowledge" (.ref p) [])));have h5:=bg "amid" (.ref am) (putF "doubt" .non (putF "taken" (.ref td) (putF "parts" (.ref pd) (putF "knowledge" (.ref p) []))));simp only[Eu] at h1;omega
 . obtain⟨m1,m2,m3,m4,m5⟩:=a7i m hm;rw[ao,if_neg m5,ao,if_neg m4,ao,if_neg m3,ao,if_neg m1,ao,if_neg m2];rfl
def lv(K:Aa)(C C2:GV):Sp:=fun vs H Q _=>∃(q dx p pd:GV) (H0:Hp) (F P:List (List Str)) (rs:List GV),vs=[.ref q,.ref p,.ref pd]/\H q=some (.ins C2 dx [])/\Same H0 H/\H0 q=none/\KwAt K C H0 p F P/\H0 pd=some (.dK (kvE 0 (rs.map V.ref)))/\HD (fun b r=>RowAt K H0 b r) rs P/\
 ∀td H',Kp (· = q) H H'->TkAt K C C2 H' q td F P []->H0 td=none->Q .non H'
section
variable{P:Gx}{w:G9}{K:Aa}{mg:Str->Option GQ}{base:HB}{f C C2 fI fI2:GV}{fd:HA}
theorem a4i:FnScope ["self","knowledge","parts"] ["self","knowledge","parts"] (ap ph):=⟨rfl,rfl,rfl,by decide,rfl,by decide,by decide⟩
theorem a0p(T2:TTxt K mg C2 fI2)(F:Fun K "__init__" "Taking.__init__" ph f fd):FnOk P w K mg base CX0 1 f fd ["self","knowledge","parts"] (lv K C C2):=by
 refine F.okQ a4i (fun vs H Q E h=>?_) (fun cdv A outer s0 H vs Q E hr h=>?_)
 . obtain⟨q,dx,p,pd,H0,F,P,rs,rfl,_⟩:=h;rfl
 obtain⟨qa,dx,p,pd,H0,Fs,Ps,rs,rfl,hq,e0,hq0,hw,hpd,hrs,q⟩:=h;refine⟨_,ac (dg (K:=K) rfl (qv 0) (qv 1))
  (ac (dg (K:=K) rfl (qv 0) (qv 2))
  (ac (dg (K:=K) rfl (qv 0) js)
  (ac (dg (K:=K) rfl (qv 0) bt)
  (af (dg (K:=K) rfl (qv 0) js))))),?_⟩
 have small:∀{n:Nat},n<=10->n<1000:=fun h=>by omega
 have len1:(putF "knowledge" (.ref p) []).length<=1:=bg _ _ _;have len2:(putF "parts" (.ref pd) (putF "knowledge" (.ref p) [])).length<=2:=by have:=bg "parts" (.ref pd) (putF "knowledge" (.ref p) []);omega
 refine⟨_,rfl,_,rfl,qa,C2,dx,_,rfl,hq,T2.cl,T2.nK,small (A5 _),?_⟩;refine⟨_,rfl,_,rfl,qa,C2,dx,_,rfl,aa,T2.cl,T2.nP,small (by omega),?_⟩;have k1:Kp (· = qa) H (upd (upd H qa (.ins C2 dx (putF "knowledge" (.ref p) []))) qa (.ins C2 dx (putF "parts" (.ref pd) (putF "knowledge" (.ref p) [])))):=fun b o hb n=>by rw[ag n,ag n];exact hb
 have hq1:(upd (upd H qa (.ins C2 dx (putF "knowledge" (.ref p) []))) qa (.ins C2 dx (putF "parts" (.ref pd) (putF "knowledge" (.ref p) [])))) qa=some (.ins C2 dx (putF "parts" (.ref pd) (putF "knowledge" (.ref p) []))):=aa;generalize upd (upd H qa (.ins C2 dx (putF "knowledge" (.ref p) []))) qa (.ins C2 dx (putF "parts" (.ref pd) (putF "knowledge" (.ref p) [])))=H1 at k1 hq1 |-;refine fun td htd=>?_;have s2:=ad htd (.dK []);have hqt:qa≠td:=ax hq1 htd;have len3:(putF "taken" (.ref td) (putF "parts" (.ref pd) (putF "knowledge" (.ref p) []))).length<=3:=by have:=bg "taken" (.ref td) (putF "parts" (.ref pd) (putF "knowledge" (.ref p) []));omega
 have len4:(putF "doubt" .non (putF "taken" (.ref td) (putF "parts" (.ref pd) (putF "knowledge" (.ref p) [])))).length<=4:=by have:=bg "doubt" .non (putF "taken" (.ref td) (putF "parts" (.ref pd) (putF "knowledge" (.ref p) [])));omega
 refine⟨_,rfl,qa,C2,dx,_,rfl,s2 _ _ hq1,T2.cl,T2.nT,small (by omega),?_⟩;refine⟨_,rfl,qa,C2,dx,_,rfl,aa,T2.cl,T2.nD,small (by omega),?_⟩;generalize hfs:putF "doubt" .non (putF "taken" (.ref td) (putF "parts" (.ref pd) (putF "knowledge" (.ref p) [])))=fs4 at len4 |-;generalize hH2:upd (upd (upd H1 td (.dK [])) qa (.ins C2 dx (putF "taken" (.ref td) (putF "parts" (.ref pd) (putF "knowledge" (.ref p) []))))) qa (.ins C2 dx fs4)=H2;have k2:Kp (· = qa) H H2:=fun b o hb n=>by rw[<- hH2,ag n,ag n];exact s2 _ _ (k1 b o hb n)
 have hq2:H2 qa=some (.ins C2 dx fs4):=by rw[<- hH2];exact aa
 have ht2:H2 td=some (.dK []):=by rw[<- hH2,ag (A9 hqt),ag (A9 hqt)];exact aa
 have td0:H0 td=none:=by
  cases qz:H0 td with
  | none=>rfl
  | some o=>have:=k1 td o (e0 _ _ qz) (A9 hqt);rw[htd] at this;cases this
 refine fun am ham=>?_;have s3:=ad ham (.dK []);refine⟨_,rfl,qa,C2,dx,_,rfl,s3 _ _ hq2,T2.cl,T2.nA,small (by omega),?_⟩;have k3:Kp (· = qa) H (upd (upd H2 am (.dK [])) qa (.ins C2 dx (putF "amid" (.ref am) fs4))):=fun b o hb n=>by rw[ag n];exact s3 _ _ (k2 b o hb n)
 refine q td _ k3 ⟨⟨p,pd,dx,_,rs,aa,?_,?_⟩,?_⟩ td0
 . rw[<- hfs];exact tkf5 p pd td am
 . have e:Same H0 (rm (· = td) (upd (upd H2 am (.dK [])) qa (.ins C2 dx (putF "amid" (.ref am) fs4)))):=fun b o hb=>by
    rw[wo (X:=(· = td)) (fun z=>by have z':b=td:=z;rw[z',td0] at hb;cases hb)];exact k3 b o (e0 _ _ hb) (fun z=>by have z':b=qa:=z;rw[z',hq0] at hb;cases hb)
   exact⟨hw.same e,e _ _ hpd,bp e hrs⟩
 . rw[ag (A9 hqt)];exact s3 _ _ ht2
end
abbrev lc:HF:=top 29
abbrev l0:HF:=top 30
abbrev vx:HF:=top 31
abbrev j7:HF:=top 32
structure Gd(xs:List Str)(F P G S:List (List Str)):Prop where
 facts:∀r∈F,c5 r
 parts:∀r∈P,PartRow r
 len:P.length<=15
 ends:∀r∈P,place r∈xs/\end2 r∈xs
 na:∀r∈P,vo r
 perm:S.Perm P
 gl:G.length<=100
 hold:∀g∈G,∃k a b,g=[k,a,b]/\((k=("is":Str)/\Conn F a b)\/(k=("not":Str)/\[("not":Str),a,b]∈F))
theorem Gd.more{xs:List Str}{F P G S:List (List Str)}(h:Gd xs F P G S){r:List Str}(hr:c5 r):Gd xs (F++[r]) P G S :=
 ⟨fun s hs=>by
  rcases Ad.mp hs with z|z
  . exact h.facts s z
  . rw[Ai.mp z];exact hr,h.parts,h.len,h.ends,h.na,h.perm,h.gl,fun g hg=>by
  obtain⟨k,a,b,e,z⟩:=h.hold g hg;refine⟨k,a,b,e,z.imp (fun z=>⟨z.1,z.2.mono fun r hr=>Ad.mpr (.inl hr)⟩) fun z=>⟨z.1,Ad.mpr (.inl z.2)⟩⟩⟩
def PaperAt(H:Hp)(t:GV):Prop:=∃z ys,H t=some (.tup [.str "paper",.ref z])/\H z=some (.tup ys)
theorem PaperAt.same{H H':Hp}{t:GV}(h:PaperAt H t)(e:Same H H'):PaperAt H' t:=by
 obtain⟨z,ys,h1,h2⟩:=h;exact⟨z,ys,e _ _ h1,e _ _ h2⟩
def ji(K:Aa)(n:Nat):Sp:=fun vs H Q _=>∃(o t:GV) (nm:V) (xs:List Str) (F P G S:List (List Str)),vs=[.ref o,.ref t,nm,.bl true]/\T2At K H o F P/\T2At K H t G S/\Gd xs F P G S/\F.length+n<=90/\cnt F P xs<=n/\
 ∀t' H',Same H H'->PaperAt H' t'->Q (.ref t') H'
def lw(K:Aa)(n:Nat):Sp:=fun vs H Q _=>∃(o t pr:GV) (nm:V) (xs:List Str) (F P G S:List (List Str)) (a b:Str),vs=[.ref o,.ref t,nm,.bl true,.ref pr]/\T2At K H o F P/\T2At K H t G S/\Gd xs F P G S/\F.length+n<=90/\cnt F P xs<=n/\H pr=some (.tup [.str a,.str b])/\a∈xs/\b∈xs/\Open F P a b/\
 ∀t' H',Same H H'->PaperAt H' t'->Q (.ref t') H'
section
variable{P:Gx}{w:G9}{K:Aa}{mg:Str->Option GQ}{base:HB}{f C C2 fI fI2 gC gO gR gL gA gS:GV}{fd dI dJ dC dO dR dL dA dS:HA}{n m:Nat}
theorem scSplit:FnScope ["one","other","names","whole","pair","answers","word","answer"] ["one","other","names","whole","pair"] (ap lc):=⟨rfl,rfl,rfl,by decide,rfl,by decide,by decide⟩
theorem a0g(F:Fun K "split_paper" "split_paper" lc f fd)(GS:FnOk P w K mg base CX0 m gS dS ["one","other","names","whole"] (ji K n))(cS:Cal K mg "shown" gS dS ["one","other","names","whole"]):FnOk P w K mg base CX0 (m+1) f fd ["one","other","names","whole","pair"] (lw K (n+1)):=by
 refine F.okQ scSplit (fun vs H Q E h=>?_) (fun cdv A outer s0 H vs Q E hr h=>?_)
 . obtain⟨o,t,pr,nm,xs,F,P,G,S,a,b,rfl,_⟩:=h;rfl
 obtain⟨o,t,pr,nm,xs,Fs,Ps,Gs,Ss,a,b,rfl,⟨fa,pa,ho,hFa,hPa⟩,ht,hG,hFl,hcn,hpr,ha,hb,hop,q⟩:=h;have nd:=scSplit.nd;have hu1:=cz hr;refine⟨_,ac (ak (i:=5) nd rfl (Or.inl rfl) (bn a0))
  (ac (cc AA rfl (a6m (cw (ay (ay a0)))) (bw (i:=6) nd rfl (Or.inl rfl)) (ac (ak (i:=7) nd rfl (Or.inl rfl) (bd GS hr rfl cS.name cS.keep cS.bind .nil ar (c7 (ce (ai dh (ah aj (qv 0) ab (fun _ _=>rfl)) (bn (c7 (ae (qv 6) (aq (ah aj (qv 4) ab (fun _ _=>rfl)) (aq (ah aj (qv 4) ab (fun _ _=>rfl)) a0))) a0))) (aq (ah aj (qv 0) ab (fun _ _=>rfl)) a0)) (ae (qv 1) (ae (qv 2) (ae (qv 3) a0))))))
  (ac (bi (QW.qt (ee (az a53 (qv 7) bt (b0 _)) (dt (az c3 (ah aj (qv 7) ab (fun _ _=>rfl)) bv (b0 _))))) (af (aw (qv 7))) be)
  (af (bq (cy (K:=K) rfl A0 AE AF bz (qv 5) (ae (qv 7) a0)))))))
  (ac (bi (az (a1r (K:=K) rfl hu1) bt (qv 5) (by with_unfolding_all rfl)) (af (aw bt)) be)
  (af (aw (cw (ay (c7 (ay (aq (ah aj (qv 4) ab (fun _ _=>rfl)) (aq (ah aj (qv 4) ab (fun _ _=>rfl)) (aq (ah aj (ah ba (qv 5) ab (fun _ _=>rfl)) ab (fun _ _=>rfl)) (aq (ah aj (ah ba (qv 5) ab (fun _ _=>rfl)) ab (fun _ _=>rfl)) a0))))) a0))))))),?_⟩
 refine⟨(show 0<=GX by decide),fun D hD=>?_⟩;have s1:=ad hD (.lst []);refine⟨(show 2<=GX by decide),fun tt htt=>?_⟩;have s2:=ad htt (.tup [.str "is",.str "not"]);have hDt:D≠tt:=ax aa htt;refine⟨tt,rfl,⟨_,SqT.of aa⟩,?_⟩;obtain⟨fas,hf1,hf2⟩:=hFa;have hfl:=A8 hf2;refine a4b (xs:=[.str "is",.str "not"]) (fun i σ H2=>∃(ts:List GV) (z1 z2:Option V),σ=[rQ o,rQ t,some nm,some (.bl true),rQ pr,rQ D,z1,z2]/\Same H H2/\H2 tt=some (.tup [.str "is",.str "not"])/\H2 D=some (.lst (ts.map V.ref))/\ts.length=i/\∀t∈ts,PaperAt H2 t)
  ⟨[],none,none,rfl,s1.trans s2,aa,s2 _ _ aa,rfl,fun t h=>by cases h⟩ (fun i σ H2 _ pv=>by obtain⟨_,_,_,_,_,h,_⟩:=pv;exact SqT.of h) ?_ ?_
 . rintro i v σ H2 hv ⟨ts,z1,z2,rfl,e2,ht2,hD2,htl,hts⟩;obtain⟨k,rfl,hk⟩:∃k:Str,v=.str k/\(k="is" \/ k="not"):=by
    match i,hv with
    | 0,hv=>cases hv;exact⟨_,rfl,.inl rfl⟩
    | 1,hv=>cases hv;exact⟨_,rfl,.inr rfl⟩
   have hi2:i<2:=(Am.mp hv).1;have ho2:SqT K H2 o [.ref fa,.ref pa]:=e2.seqT ho;have hpr2:SqT K H2 pr [.str a,.str b]:=SqT.of (e2 _ _ hpr);refine⟨_,rfl,o,_,0,.ref fa,rfl,rfl,ho2,rfl,_,rfl,_,rfl,pr,_,0,.str a,rfl,rfl,hpr2,rfl,_,rfl,pr,_,1,.str b,rfl,rfl,hpr2,rfl,(show 3<=GX by decide),fun r3 hr3=>?_⟩;have s3:=ad hr3 (.tup [.str k,.str a,.str b]);refine⟨(show 1<=GX by decide),fun l4 hl4=>?_⟩;have s4:=ad hl4 (.lst [.ref r3]);have hr34:=s4 _ _ (aa (H:=H2) (a:=r3) (o:=.tup [.str k,.str a,.str b]));refine⟨fa,l4,_,_,rfl,rfl,s4 _ _ (s3 _ _ (e2 _ _ hf1)),aa,?_,fun l5 hl5=>?_⟩
   . rw[Ac,AD];exact cu (show fas.length+1<=1000 by omega)
   have s5:=ad hl5 (.lst (fas.map V.ref++[.ref r3]));have e5:=e2.trans (s3.trans (s4.trans s5));have s35:=s3.trans (s4.trans s5);have hr5:=s5 _ _ hr34;have hl5':=aa (H:=upd (upd H2 r3 (.tup [.str k,.str a,.str b])) l4 (.lst [.ref r3])) (a:=l5) (o:=.lst (fas.map V.ref++[.ref r3]));generalize upd (upd (upd H2 r3 (.tup [.str k,.str a,.str b])) l4 (.lst [.ref r3])) l5 (.lst (fas.map V.ref++[.ref r3]))=H5 at e5 s35 hr5 hl5' |-;refine⟨_,rfl,o,_,1,.ref pa,rfl,rfl,e5.seqT ho,rfl,(show 2<=GX by decide),fun o6 ho6=>?_⟩;have s6:=ad ho6 (.tup [.ref l5,.ref pa]);have e6:=e5.trans s6;have hfr:c5 [k,a,b]:=⟨k,a,b,rfl,hk⟩
   have T6:T2At K (upd H5 o6 (.tup [.ref l5,.ref pa])) o6 (Fs++[[k,a,b]]) Ps:=by
    refine⟨l5,pa,SqT.of aa,⟨fas++[r3],?_,?_⟩,hPa.same e6⟩
    . rw[s6 _ _ hl5',A1];rfl
    . refine Paired.app (bp e6 hf2) (.cons ?_ .nil);exact SqT.of (s6 _ _ hr5)
   have hlt:=ze hk ha hb hop;refine⟨_,rfl,_,rfl,_,rfl,o6,t,nm,xs,Fs++[[k,a,b]],Ps,Gs,Ss,rfl,T6,ht.same e6,hG.more hfr,(by rw[Aj,AD];omega),(by omega),fun t7 H7 e7 p7=>?_⟩;have e27:=s35.trans (s6.trans e7);have e07:=e6.trans e7;obtain⟨zz,ys,p71,p72⟩:=p7;refine⟨_,rfl,rfl,_,rfl,?_⟩;refine⟨_,rfl,t7,_,0,.str "paper",rfl,rfl,SqT.of p71,rfl,rfl,_,rfl,?_⟩;have hD7:=e27 _ _ hD2;refine⟨_,rfl,.inl ⟨rfl,_,SqL.of hD7⟩,_,rfl,D,_,_,rfl,rfl,hD7,?_,?_⟩
   . rw[Ac];exact AL (show ts.length<=2 by omega) (by decide)
   have hup:∀{t:GV},PaperAt H7 t->PaperAt (upd H7 D (.lst (ts.map V.ref++[.ref t7]))) t:=fun {t} ⟨z,ys,g1,g2⟩=>⟨z,ys,by rw[ag (db g1 hD7 (fun z=>nomatch z))];exact g1,by rw[ag (db g2 hD7 (fun z=>nomatch z))];exact g2⟩
   refine⟨ts++[t7],_,_,rfl,er hD e07 _,?_,?_,?_,fun t' ht'=>?_⟩
   . rw[ag (A9 hDt)];exact e27 _ _ ht2
   . rw[aa,A1];rfl
   . rw[Aj,AD,htl]
   . rcases Ad.mp ht' with z|z
     . exact hup ((hts t' z).same e27)
     . rw[Ai.mp z];exact hup ⟨zz,ys,p71,p72⟩
 . rintro σ H2 ⟨ts,z1,z2,rfl,e2,ht2,hD2,htl,hts⟩;obtain⟨t1,t2,rfl⟩:∃t1 t2,ts=[t1,t2]:=by
    match ts,htl with
    | [t1,t2],_=>exact⟨t1,t2,rfl⟩
   obtain⟨a1,y1,g1,g1'⟩:=hts t1 (AK ..);obtain⟨a2,y2,g2,g2'⟩:=hts t2 (Ay _ (AK ..));refine⟨_,rfl,D,[t1,t2],rfl,rfl,SqL.of hD2,fun t' ht'=>?_,_,rfl,?_⟩
   . obtain⟨z,ys,h,_⟩:=hts t' ht';exact⟨_,SqT.of h⟩
   have hpr2:SqT K H2 pr [.str a,.str b]:=SqT.of (e2 _ _ hpr);refine⟨_,rfl,pr,_,0,.str a,rfl,rfl,hpr2,rfl,_,rfl,pr,_,1,.str b,rfl,rfl,hpr2,rfl,_,rfl,D,_,0,.ref t1,rfl,rfl,SqL.of hD2,rfl,t1,_,1,.ref a1,rfl,rfl,SqT.of g1,rfl,_,rfl,D,_,1,.ref t2,rfl,rfl,SqL.of hD2,rfl,t2,_,1,.ref a2,rfl,rfl,SqT.of g2,rfl,(show 5<=GX by decide),fun z1 hz1=>?_⟩;refine⟨(show 2<=GX by decide),fun z2 hz2=>?_⟩;have s3:=ad hz1 (.tup [.str "split",.str a,.str b,.ref a1,.ref a2]);have s4:=ad hz2 (.tup [.str "paper",.ref z1]);exact q z2 _ (e2.trans (s3.trans s4)) ⟨z1,_,aa,s4 _ _ aa⟩
theorem scShown:FnScope ["one","other","names","whole","knowledge","pair","taking","rows"] ["one","other","names","whole"] (ap l0):=⟨rfl,rfl,rfl,by decide,rfl,by decide,by decide⟩
theorem sm(Cn:Con K mg w)(En:mg "enumerate"=none)(T:Txt K mg C fI)(T2:TTxt K mg C2 fI2)(F:Fun K "shown" "shown" l0 f fd)(GI:FnOk P w K mg base CX0 5 fI dI ["self","facts","parts"] (mf K C))(bI:Binds K dI ["self","facts","parts"] [])(GJ:FnOk P w K mg base CX0 1 fI2 dJ ["self","knowledge","parts"] (lv K C C2))(bJ:Binds K dJ ["self","knowledge","parts"] [])(GC:FnOk P w K mg base CX0 1 gC dC ["self"] (mi C))(cC:MCal K C "clashing" gC dC ["self"])(GO:FnOk P w K mg base CX0 4 gO dO ["self"] (mr K C))(cO:MCal K C "open_ends" gO dO ["self"])(GR:FnOk P w K mg base CX0 7 gR dR ["self","telling"] (ky K C C2))(cR:MCal K C2 "rows_of" gR dR ["self","telling"])(GL:FnOk P w K mg base CX0 1 gL dL ["self"] (ko K C C2))(cL:MCal K C2 "leaves_some" gL dL ["self"])(GA:FnOk P w K mg base CX0 1 gA dA ["taking","names","other","whole"] (fun _ _ _ _=>False))(cA:Cal K mg "state_against" gA dA ["taking","names","other","whole"])(hm:7<=m)(GS:FnOk P w K mg base CX0 m gS dS ["one","other","names","whole","pair"] (lw K n))(cS:Cal K mg "split_paper" gS dS ["one","other","names","whole","pair"]):FnOk P w K mg base CX0 (m+1) f fd ["one","other","names","whole"] (ji K n):=by
 refine F.okQ scShown (fun vs H Q E h=>?_) (fun cdv A outer s0 H vs Q E hr h=>?_)
 . obtain⟨o,t,nm,xs,F,P,G,S,rfl,_⟩:=h;rfl
 obtain⟨o,t,nm,xs,Fs,Ps,Gs,Ss,rfl,⟨fa,pa,ho,hFa,hPa⟩,ht,hG,hFl,hcn,q⟩:=h;have nd:=scShown.nd;have hu1:=cz hr;have hr1:=hr.mono (j:=1) (by omega);have hr4:=hr.mono (j:=4) (by omega);have hr2:=hr.mono (j:=2) (by omega);have hr6:=hr.mono (j:=6) (by omega);have hr7:=hr.mono (j:=7) (by omega);refine⟨_,ac (ak (i:=4) nd rfl (Or.inl rfl) (u4 T.mkC GI hr6 rfl T.mgC bI .nil ar (aq (ah aj (qv 0) ab (fun _ _=>rfl)) (aq (ah aj (qv 0) ab (fun _ _=>rfl)) a0))))
  (ac (bi (cf (ik (qv 4) T.cl cC.meth GC hr1 cC.bind .nil ar)) (af (aw (cw (ay (c7 (ay a0) a0))))) be)
  (ac (ak (i:=5) nd rfl (Or.inl rfl) (ik (qv 4) T.cl cO.meth GO hr4 cO.bind .nil ar))
  (ac (bi (az fi (qv 5) bt (b0 _)) (ac (ak (i:=6) nd rfl (Or.inl rfl) (u4 T2.mkC GJ hr2 rfl T2.mgC bJ .nil ar (ae (qv 4) (bx (a0x rfl rfl Cn.dict rfl En (aq (ah aj (qv 0) ab (fun _ _=>rfl)) a0)) a0))))
  (ac (ak (i:=7) nd rfl (Or.inl rfl) (b7 (qv 6) T2.cl cR.meth GR hr7 cR.bind .nil ar (ae (qv 1) a0)))
  (ac (bi (QW.qt (gn (az fi (qv 7) bt (b0 _)) (ie (QW.qt (ee (cf (qv 3)) (dt (cf (ik (qv 6) T2.cl cL.meth GL hr1 cL.bind .nil ar)))))))) (af (aw (bd GA hr1 rfl cA.name cA.keep cA.bind .nil ar (ae (qv 6) (ae (qv 2) (ae (qv 1) (ae (qv 3) a0))))))) be)
  (ac (ak (i:=5) nd rfl (Or.inl rfl) (b8 (K:=K) rfl (qv 6)))
  (af (bi (az fi (qv 5) bt (b0 _)) (af (aw (cw (ay (c7 (ay (ae (qv 7) a0)) a0))))) be)))))) be)
  (af (aw (bd GS hr rfl cS.name cS.keep cS.bind .nil ar (ae (qv 0) (ae (qv 1) (ae (qv 2) (ae (qv 3) (ae (qv 5) a0))))))))))),?_⟩
 obtain⟨pas,hp1,hp2⟩:=id hPa;have hpl:=A8 hp2;have hP15:=hG.len;refine⟨_,rfl,o,_,0,.ref fa,rfl,rfl,ho,rfl,_,rfl,o,_,1,.ref pa,rfl,rfl,ho,rfl,fun x dx hx hdx hne=>?_⟩;have s1:Same H (upd (upd H dx (.own x)) x (.ins C dx [])):=fun b o hb=>by rw[ag (ax hb hx),ag (ax hb hdx)];exact hb
 refine⟨x,dx,fa,pa,Fs,Ps,rfl,aa,hFa.same s1,by omega,hG.facts,hPa.same s1,hP15,hG.parts,fun pl hd un fu L Fl D dxx fss H2 k2 KS hfu A G hpx hnf KF hD hL=>⟨rfl,?_⟩⟩;have e2:Same H H2:=fun b o hb=>k2 b o (s1 _ _ hb) (fun z=>by have z':b=x:=z;rw[z',hx] at hb;cases hb);have kw:KwAt K C H2 x Fs Ps:=⟨pl,hd,un,fu,D,L,Fl,KS,⟨⟨dxx,fss,hpx,KF,hnf⟩,hD⟩,hfu,A,G,hL⟩
 obtain⟨⟨hm,uk,KN,hok,hUk⟩,_,_⟩:=id KS;have uiff:∀{a b:Str},Told (al Fs) L a b↔Un Fs Ps a b:=fun {a b}=>yr hG.facts A G.sound;have full:∀{j:Nat} {r:List Str},Ps[j]?=some r->(j∈Fl↔FullR (Un Fs Ps) r):=fun {j r} h=>⟨fun z=>by
  obtain⟨r',h1,h2⟩:=G.isf j z;rw[h] at h1;cases h1;exact h2,fun z=>A.full j r h (z.mono fun a b u=>ud hG.facts A u)⟩
 have hlu:=hUk.len;refine⟨_,rfl,x,dxx,fss,rfl,hpx,KF.meth "clashing" (by decide),x,pl,hd,un,fu,hm,uk,rfl,KN,hUk.pr,by omega,fun H3 e3=>⟨_,rfl,iteB (fun c=>?_) (fun c=>?_)⟩⟩
 . refine⟨(show 1<=GX by decide),fun z1 hz1=>⟨(show 2<=GX by decide),fun z2 hz2=>?_⟩⟩;have s4:=ad hz1 (.tup [.str "clash"]);have s5:=ad hz2 (.tup [.str "paper",.ref z1]);exact q z2 _ (e2.trans (e3.trans (s4.trans s5))) ⟨z1,_,aa,s5 _ _ aa⟩
 have nocl:∀y,¬ Un Fs Ps y y:=fun y z=>by
  have:=(a5q hUk).mpr ⟨y,uiff.mpr z⟩;rw[c] at this;cases this
 have e03:=e2.trans e3;have kw3:=kw.same e3;refine⟨_,rfl,x,dxx,fss,rfl,e3 _ _ hpx,KF.meth "open_ends" (by decide),x,pl,hd,un,fu,D,Fs,Ps,L,Fl,neOf Fs Ps,rfl,KS.same e3,(NeAt.mk ⟨dxx,fss,hpx,KF,hnf⟩ hD).same e3,e3 _ _ hfu,xy hP15,om,hG.parts,fun H4 e4 hno=>?_,fun j r pr H4 e4 hj hjr hf hs hpr=>?_⟩
 . have R:Rdy Fs Ps:=⟨hG.facts,hG.parts,hP15,nocl,fun j r hjr hem hfu'=>hno j ((cq hjr).mpr hem) r hjr (fun z=>hfu' ((full hjr).mp z))⟩
   have e04:=e03.trans e4;have kw4:=kw3.same e4;refine⟨_,rfl,rfl,_,rfl,?_⟩;refine⟨_,rfl,_,rfl,o,_,1,.ref pa,rfl,rfl,e04.seqT ho,rfl,pa,_,rfl,e04 _ _ hp1,(by rw[Ac];omega),fun pd hpd=>?_⟩;have s5:=ad hpd (.dK (kvE 0 (pas.map V.ref)));have e05:=e04.trans s5;refine fun y dy hy hdy hney=>?_;have hpd5:=aa (H:=H4) (a:=pd) (o:=.dK (kvE 0 (pas.map V.ref)));have kw5:=kw4.same s5;generalize upd H4 pd (.dK (kvE 0 (pas.map V.ref)))=H5 at s5 e05 hy hdy hpd5 kw5 |-;have s6:Same H5 (upd (upd H5 dy (.own y)) y (.ins C2 dy [])):=fun b o hb=>by rw[ag (ax hb hy),ag (ax hb hdy)];exact hb
   refine⟨y,dy,x,pd,H5,Fs,Ps,pas,rfl,aa,s6,hy,kw5,hpd5,bp e05 hp2,fun td H7 k7 hT7 htd0=>⟨rfl,?_⟩⟩;have e57:Same H5 H7:=fun b o hb=>k7 b o (s6 _ _ hb) (fun z=>by have z':b=y:=z;rw[z',hy] at hb;cases hb);have e07:=e05.trans e57;obtain⟨p',pd',dx',fs',rs',g1,g2,_⟩:=hT7.ex;refine⟨_,rfl,y,dx',fs',rfl,g1,g2.meth "rows_of" (by decide),_,rfl,y,td,t,Fs,Ps,Gs,Ss,rfl,hT7,R,ht.same e07,fun g hg=>?_,hG.gl,hG.perm,hG.na,fun Dr ys H8 tk k8 hT8 hall hDr=>?_⟩
   . obtain⟨k,a,b,e,z⟩:=hG.hold g hg;exact⟨k,a,b,e,z.imp (fun z=>⟨z.1,(cj hG.facts a b).mpr z.2⟩) fun z=>⟨z.1,(cr Fs Ps).fact _ _ z.2⟩⟩
   refine⟨_,rfl,rfl,_,rfl,?_⟩;have e58:Same H5 H8:=fun b o hb=>k8 b o (e57 _ _ hb) (fun z=>by have z':b=td:=z;rw[z',htd0] at hb;cases hb);obtain⟨p'',pd'',dx'',fs'',rs'',g3,g4,_⟩:=hT8.ex;refine⟨_,rfl,_,rfl,?_⟩;refine⟨_,rfl,y,dx'',fs'',rfl,g3,g4.meth "leaves_some" (by decide),y,td,Fs,Ps,tk,rfl,hT8,hP15,hall,fun H9 e9=>⟨_,rfl,?_⟩⟩;refine⟨_,rfl,y,C2,dx'',fs'',.non,rfl,e9 _ _ g3,T2.cl,T2.nD,g4.doubt,?_⟩;refine⟨_,rfl,rfl,_,rfl,?_⟩;refine⟨_,rfl,(show 2<=GX by decide),fun z1 hz1=>⟨(show 2<=GX by decide),fun z2 hz2=>?_⟩⟩;have s4:=ad hz1 (.tup [.str "cover",.ref Dr]);have s5':=ad hz2 (.tup [.str "paper",.ref z1]);exact q z2 _ (e05.trans (e58.trans (e9.trans (s4.trans s5')))) ⟨z1,_,aa,s5' _ _ aa⟩
 . have e04:=e03.trans e4;refine⟨_,rfl,rfl,_,rfl,?_⟩;obtain⟨_,po1,po2⟩:=yl hG.facts ((cq hjr).mp hj) (fun z=>hf ((full hjr).mpr z));have hen:=hG.ends r (Au hjr);exact⟨_,rfl,_,rfl,_,rfl,_,rfl,_,rfl,o,t,pr,nm,xs,Fs,Ps,Gs,Ss,_,_,rfl,⟨fa,pa,e04.seqT ho,hFa.same e04,hPa.same e04⟩,ht.same e04,hG,hFl,hcn,hpr,hen.1,hen.2,⟨po1,po2⟩,fun t' H' e' p'=>q t' H' (e04.trans e') p'⟩
end
structure WdOk(ws:List Str)(F P:List (List Str)):Prop where
 f:gq F
 p:gq P
 ne:∀r∈F++P,r≠[]
 w:∀y∈d0 (F++P),y∈ws
theorem T2At.tell{K:Aa}{H:Hp}{t:GV}{G S:List (List Str)}(h:T2At K H t G S):TellAt K H t [G,S]:=by
 obtain⟨a,b,h1,h2,h3⟩:=h;exact⟨[a,b],h1,.cons h2 (.cons h3 .nil)⟩
def yu(K:Aa):Sp:=fun vs H Q _=>∃(o t:GV) (ws:List Str) (F P G S:List (List Str)),vs=[.ref o,.ref t]/\T2At K H o F P/\T2At K H t G S/\WdOk ws F P/\WdOk ws G S/\ws.length<=20/\∀p H',Same H H'->Q (.ref p) H'
def lg(K:Aa):Sp:=fun vs H Q _=>∃(o t:GV) (ws xs:List Str) (F P G S:List (List Str)),vs=[.ref o,.ref t]/\T2At K H o F P/\T2At K H t G S/\WdOk ws F P/\WdOk ws G S/\ws.length<=20/\Gd xs F P G S/\F.length<=50/\xs.length=6/\∀t' H',Same H H'->PaperAt H' t'->Q (.ref t') H'
section
variable{P:Gx}{w:G9}{K:Aa}{mg:Str->Option GQ}{base:HB}{f C C2 fI fI2 fS fP gN gB gC gO gR gL gA:GV}{fd dSn dP dN dB dI dJ dC dO dR dL dA:HA}
theorem a6k:FnScope ["one","other"] ["one","other"] (ap vx):=⟨rfl,rfl,rfl,by decide,rfl,by decide,by decide⟩
theorem a3z(Cn:Con K mg w)(F:Fun K "names_of_both" "names_of_both" vx f fd)(GN:FnOk P w K mg base CX0 1 gN dN ["telling"] (zc K))(cN:Cal K mg "names_of" gN dN ["telling"]):FnOk P w K mg base CX0 2 f fd ["one","other"] (yu K):=by
 refine F.okQ a6k (fun vs H Q E h=>?_) (fun cdv A outer s0 H vs Q E hr h=>?_)
 . obtain⟨o,t,ws,F,P,G,S,rfl,_⟩:=h;rfl
 obtain⟨o,t,ws,Fs,Ps,Gs,Ss,rfl,ho,ht,hw1,hw2,hwl,q⟩:=h;refine⟨_,(af (aw (bf (gw rfl) rfl Cn.sorted Ef (bx (dj (pc rfl) rfl Cn.set EK (ce (ai dh (bd GN hr rfl cN.name cN.keep cN.bind .nil ar (ae (qv 0) a0)) (bd GN hr rfl cN.name cN.keep cN.bind .nil ar (ae (qv 1) a0))) a0)) a0)))),?_⟩;refine⟨_,rfl,o,Fs,Ps,rfl,ho.tell,hw1.f,hw1.p,hw1.ne,fun ss hn hs=>by have:=fq hn fun y hy=>hw1.w y (hs y hy);omega,fun p1 zs1 H1 hp1 e1 g1 n1 m1 _=>?_⟩;refine⟨_,rfl,t,Gs,Ss,rfl,(ht.same e1).tell,hw2.f,hw2.p,hw2.ne,fun ss hn hs=>by have:=fq hn fun y hy=>hw2.w y (hs y hy);omega,fun p2 zs2 H2 hp2 e2 g2 n2 m2 _=>?_⟩;have l1:=fq n1 fun y hy=>hw1.w y ((m1 y).mp hy);have l2:=fq n2 fun y hy=>hw2.w y ((m2 y).mp hy);refine⟨p1,p2,_,_,rfl,rfl,e2 _ _ g1,g2,?_,fun l3 hl3=>?_⟩
 . rw[Ac,Ac];exact cu (show zs1.length+zs2.length<=1000 by omega)
 have s3:=ad hl3 (.lst (zs1.map V.str++zs2.map V.str));refine⟨l3,zs1++zs2,rfl,SqL.of (by rw[aa,A1]),?_,fun p4 ss hp4 hd=>?_⟩
 . rw[Aj];exact AL (show zs1.length+zs2.length+1<=41 by omega) (by decide)
 have s4:=ad hp4 (SetO P w p4 ss);have hss:ss.length<=40:=by have:=fq hd.nodup (fun y hy=>(hd.mem y).mp hy);rw[Aj] at this;omega
 refine⟨p4,ss,rfl,aa,by omega,fun p5 zs5 hp5 _ _=>?_⟩;exact q p5 _ (e1.trans (e2.trans (s3.trans (s4.trans (ad hp5 _)))))
theorem xx(Cn:Con K mg w)(En:mg "enumerate"=none)(T:Txt K mg C fI)(T2:TTxt K mg C2 fI2)(F:Fun K "shown" "shown" l0 fS dSn)(F2:Fun K "split_paper" "split_paper" lc fP dP)(GI:FnOk P w K mg base CX0 5 fI dI ["self","facts","parts"] (mf K C))(bI:Binds K dI ["self","facts","parts"] [])(GJ:FnOk P w K mg base CX0 1 fI2 dJ ["self","knowledge","parts"] (lv K C C2))(bJ:Binds K dJ ["self","knowledge","parts"] [])(GC:FnOk P w K mg base CX0 1 gC dC ["self"] (mi C))(cC:MCal K C "clashing" gC dC ["self"])(GO:FnOk P w K mg base CX0 4 gO dO ["self"] (mr K C))(cO:MCal K C "open_ends" gO dO ["self"])(GR:FnOk P w K mg base CX0 7 gR dR ["self","telling"] (ky K C C2))(cR:MCal K C2 "rows_of" gR dR ["self","telling"])(GL:FnOk P w K mg base CX0 1 gL dL ["self"] (ko K C C2))(cL:MCal K C2 "leaves_some" gL dL ["self"])(cA:Cal K mg "state_against" gA dA ["taking","names","other","whole"])(cS:Cal K mg "shown" fS dSn ["one","other","names","whole"])(cP:Cal K mg "split_paper" fP dP ["one","other","names","whole","pair"]):∀n,FnOk P w K mg base CX0 (2*n+8) fS dSn ["one","other","names","whole"] (ji K n):=by
 have GA:FnOk P w K mg base CX0 1 gA dA ["taking","names","other","whole"] (fun _ _ _ _=>False):=⟨fun vs H Q E h=>h.elim,fun A outer s H args us vs Q E _ _ _ _ h=>h.elim⟩
 intro n;induction n with
 | zero =>
  have no:∀{vs:List V} {H:Hp} {Q:VK} {E:XK},¬ lw K 0 vs H Q E:=fun⟨o,t,pr,nm,xs,F,P,G,S,a,b,_,_,_,_,_,h1,_,h2,h3,h4,_⟩=>by
   have:=ze (.inl rfl) h2 h3 h4;omega
  exact sm Cn En T T2 F GI bI GJ bJ GC cC GO cO GR cR GL cL GA cA (m:=7) (Ah _) ⟨fun vs H Q E h=>absurd h no,fun A outer s H args us vs Q E _ _ _ _ h=>absurd h no⟩ cP
 | succ n ih=>exact sm Cn En T T2 F GI bI GJ bJ GC cC GO cO GR cR GL cL GA cA (m:=2*n+9) (by omega) (a0g F2 ih cS) cP
theorem wj:FnScope ["one","other"] ["one","other"] (ap j7):=⟨rfl,rfl,rfl,by decide,rfl,by decide,by decide⟩
theorem t9(F:Fun K "followed" "followed" j7 f fd)(GB:FnOk P w K mg base CX0 2 gB dB ["one","other"] (yu K))(cB:Cal K mg "names_of_both" gB dB ["one","other"])(GS:FnOk P w K mg base CX0 38 fS dSn ["one","other","names","whole"] (ji K 15))(cS:Cal K mg "shown" fS dSn ["one","other","names","whole"]):FnOk P w K mg base CX0 39 f fd ["one","other"] (lg K):=by
 refine F.okQ wj (fun vs H Q E h=>?_) (fun cdv A outer s0 H vs Q E hr h=>?_)
 . obtain⟨o,t,ws,xs,F,P,G,S,rfl,_⟩:=h;rfl
 obtain⟨o,t,ws,xs,Fs,Ps,Gs,Ss,rfl,ho,ht,hw1,hw2,hwl,hG,hFl,hx6,q⟩:=h;have hr2:=hr.mono (j:=2) (by omega);refine⟨_,(af (aw (bd GS hr rfl cS.name cS.keep cS.bind .nil ar (ae (qv 0) (ae (qv 1) (bx (bd GB hr2 rfl cB.name cB.keep cB.bind .nil ar (ae (qv 0) (ae (qv 1) a0))) (a77 a0))))))),?_⟩;refine⟨_,rfl,_,rfl,_,rfl,_,rfl,o,t,ws,Fs,Ps,Gs,Ss,rfl,ho,ht,hw1,hw2,hwl,fun p H1 e1=>?_⟩;refine⟨o,t,_,xs,Fs,Ps,Gs,Ss,rfl,ho.same e1,ht.same e1,hG,by omega,?_,fun t' H' e' p'=>q t' H' (e1.trans e') p'⟩;exact AB (List.countP_le_length) (a46 hx6)
end
abbrev pf:HF:=top 40
def PoolRow(xs:List Str)(r:List Str):Prop:=∃k u v:Str,r=[k,u,v]/\(k="is" \/ k="not")/\u∈xs/\v∈xs
def PoolPart(xs:List Str)(r:List Str):Prop:=(∃a f s,r=[("cell":Str),a,f,s]/\a∈xs/\(f∈xs\/f="any")/\(s∈xs\/s="any"))\/(∃a b,r=[("stretch":Str),a,b]/\a∈xs/\b∈xs)\/∃a,r=[("tree":Str),a]/\a∈xs
theorem de(xs:List Str){n:Nat}{i:Int}(hl:xs.length=n)(h0:0<n):∃v:Str,atI (xs.map V.str) (i % (n:Int))=some (.str v)/\v∈xs:=by
 obtain⟨v,h1,h2⟩:=lq (xs:=xs.map V.str) (m:=(n:Int)) (i:=i) (by rw[Ac,hl]) (by omega);obtain⟨x,hx,rfl⟩:=A3.mp h2;exact⟨x,h1,hx⟩
structure LW(K:Aa)(H0 Hc:Hp)(W:List Str->Prop)(fl:GV)(n:Nat):Prop where
 no:H0 fl=none
 at_:∃as:List GV,Hc fl=some (.lst (as.map V.ref))/\as.length<=n/\∀c∈as,∃r,RowAt K Hc c r/\W r
theorem LW.grow{K:Aa}{H0 Hc H2:Hp}{W:List Str->Prop}{fl:GV}{n:Nat}(h:LW K H0 Hc W fl n)(e:Same Hc H2):LW K H0 H2 W fl n:=by
 obtain⟨as,h1,h2,h3⟩:=h.at_;exact⟨h.no,as,e _ _ h1,h2,fun c hc=>by obtain⟨r,z1,z2⟩:=h3 c hc;exact⟨r,e.seqT z1,z2⟩⟩
theorem LW.app{K:Aa}{H0 Hc:Hp}{W:List Str->Prop}{fl:GV}{n m:Nat}{as:List GV}{t:GV}{r:List Str}(h:LW K H0 Hc W fl n)(ha:Hc fl=some (.lst (as.map V.ref)))(hm:as.length+1<=m)(ht:RowAt K Hc t r)(hr:W r):LW K H0 (upd Hc fl (.lst (as.map V.ref++[.ref t]))) W fl m:=by
 obtain⟨as',h1,h2,h3⟩:=h.at_;have e:as=as':=by
  have:=HO.lst.inj (Ap (ha.symm.trans h1));exact (Fx (fun _ _ z=>V.ref.inj z)).mp this
 subst e;refine⟨h.no,as++[t],by rw[aa,A1];rfl,by rw[Aj,AD];omega,fun c hc=>?_⟩;rcases Ad.mp hc with z|z
 . obtain⟨r,z1,z2⟩:=h3 c z;exact⟨r,sg ha z1,z2⟩
 . rw[Ai.mp z];exact⟨r,sg ha ht,hr⟩
theorem LW.other{K:Aa}{H0 Hc:Hp}{W:List Str->Prop}{fl gl:GV}{n:Nat}{us vs:List V}(h:LW K H0 Hc W fl n)(hg:Hc gl=some (.lst us))(hne:fl≠gl):LW K H0 (upd Hc gl (.lst vs)) W fl n:=by
 obtain⟨as,h1,h2,h3⟩:=h.at_;exact⟨h.no,as,by rw[ag hne];exact h1,h2,fun c hc=>by obtain⟨r,z1,z2⟩:=h3 c hc;exact⟨r,sg hg z1,z2⟩⟩
theorem rows_of{K:Aa}{H:Hp}{W:List Str->Prop}:∀{as:List GV},(∀c∈as,∃r,RowAt K H c r/\W r)->∃rs,HD (fun b r=>RowAt K H b r) as rs/\∀r∈rs,W r
 | [],_=>⟨[],.nil,fun r hr=>by simp at hr⟩
 | c::as,h=>by
  obtain⟨r,h1,h2⟩:=h c (AK ..);obtain⟨rs,h3,h4⟩:=rows_of (as:=as) fun c' hc=>h c' (Ay _ hc);exact⟨r::rs,.cons h1 h3,fun r' hr'=>by
   rcases Ar.mp hr' with rfl|z
   . exact h2
   . exact h4 r' z⟩
theorem LW.rows{K:Aa}{H0 Hc:Hp}{W:List Str->Prop}{fl:GV}{n:Nat}(h:LW K H0 Hc W fl n):∃rs,RowsAt K Hc fl rs/\rs.length<=n/\∀r∈rs,W r:=by
 obtain⟨as,h1,h2,h3⟩:=h.at_;obtain⟨rs,h4,h5⟩:=rows_of h3;exact⟨rs,⟨as,h1,h4⟩,by rw[<- A8 h4];exact h2,h5⟩
def Tps(K:Aa)(Hc:Hp)(W:List Str->Prop)(ts:List GV):Prop:=∀t∈ts,∃r,RowAt K Hc t r/\W r
theorem Tps.new{K:Aa}{Hc:Hp}{W:List Str->Prop}{ts:List GV}(h:Tps K Hc W ts){t:GV}(ht:Hc t=none)(r:List Str)(hr:W r):Tps K (upd Hc t (.tup (r.map V.str))) W (ts++[t]):=fun c hc=>by
 rcases Ad.mp hc with z|z
 . obtain⟨r,z1,z2⟩:=h c z;exact⟨r,(ad ht _).seqT z1,z2⟩
 . rw[Ai.mp z];exact⟨r,SqT.of aa,hr⟩
theorem Tps.grow{K:Aa}{Hc H2:Hp}{W:List Str->Prop}{ts:List GV}(h:Tps K Hc W ts)(e:Same Hc H2):Tps K H2 W ts:=fun c hc=>by
 obtain⟨r,z1,z2⟩:=h c hc;exact⟨r,e.seqT z1,z2⟩
structure Dr(K:Aa)(H0 G:Hp)(fl ql:GV)(xs:List Str)(pas ts:List GV):Prop where
 e:Same H0 G
 lf:LW K H0 G (PoolRow xs) fl 8
 lp:LW K H0 G (PoolPart xs) ql 6
 pa:G ql=some (.lst (pas.map V.ref))
 tp:Tps K G (PoolPart xs) ts
theorem Dr.grow{K:Aa}{H0 G G':Hp}{fl ql:GV}{xs:List Str}{pas ts:List GV}(d:Dr K H0 G fl ql xs pas ts)(x:Same G G'):Dr K H0 G' fl ql xs pas ts:=⟨d.e.trans x,d.lf.grow x,d.lp.grow x,x _ _ d.pa,d.tp.grow x⟩
theorem Dr.new{K:Aa}{H0 G:Hp}{fl ql:GV}{xs:List Str}{pas ts:List GV}(d:Dr K H0 G fl ql xs pas ts){t:GV}(ht:G t=none)(r:List Str)(hr:PoolPart xs r):Dr K H0 (upd G t (.tup (r.map V.str))) fl ql xs pas (ts++[t]):=by
 have x:=ad ht (.tup (r.map V.str));exact⟨d.e.trans x,d.lf.grow x,d.lp.grow x,x _ _ d.pa,Tps.new d.tp ht r hr⟩
def u8(K:Aa):Sp:=fun vs H Q _=>∃(a pl:GV) (ns:List Int) (xs:List Str),vs=[.ref a,.ref pl]/\SqL K H a (ns.map V.int)/\ns.length<=14/\H pl=some (.lst (xs.map V.str))/\xs.length=6/\("nil":Str)∈xs/\
 ∀t fl ql F P H',Same H H'->SqT K H' t [.ref fl,.ref ql]->H' t=some (.tup [.ref fl,.ref ql])->RowsAt K H' fl F->RowsAt K H' ql P->F.length<=8->P.length<=6->(∀r∈F,PoolRow xs r)->(∀r∈P,PoolPart xs r)->Q (.ref t) H'
def a3g(K:Aa):TS:=fun D σ H=>∃(H0:Hp) (a pl fl ql:GV) (ns:List Int) (xs:List Str) (i:Nat) (m:Int) (u v:Str) (c:Int) (z8 z9 z10 z11:Option V),σ=[some (V.ref a),some (.ref pl),some (.ref fl),some (.ref ql),some (.int (i:Int)),some (.int m),some (.str u),some (.str v),z8,z9,z10,z11]/\Same H0 H/\SqL K H0 a (ns.map V.int)/\atI (ns.map V.int) (i:Int)=some (.int c)/\i<=14/\H0 pl=some (.lst (xs.map V.str))/\xs.length=6/\("nil":Str)∈xs/\u∈xs/\v∈xs/\LW K H0 H (PoolRow xs) fl 8/\LW K H0 H (PoolPart xs) ql 6/\fl≠ql/\
 ∀H' (z8 z9 z10 z11:Option V),Same H0 H'->LW K H0 H' (PoolRow xs) fl 8->LW K H0 H' (PoolPart xs) ql 6->D.nx [some (V.ref a),some (.ref pl),some (.ref fl),some (.ref ql),some (.int (i:Int)),some (.int m),some (.str u),some (.str v),z8,z9,z10,z11] H'
section
variable{P:Gx}{w:G9}{K:Aa}{mg:Str->Option GQ}{base:HB}{f gM:GV}{fd dM:HA}
theorem scDrawn:FnScope ["_law_cells","_law_pool","_law_facts_here","_law_parts","_law_k","_law_m","_law_a","_law_b","_law_some","_law_f","_law_s","_law_row"] ["_law_cells","_law_pool"] (ap pf):=⟨rfl,rfl,rfl,by decide,rfl,by decide,by decide⟩
theorem a1h(C:Con K mg w)(F:Fun K "_law_drawn" "_law_drawn" pf f fd)(GM:FnOk P w K mg base CX0 1 gM dM ["_law_cell","_law_k"] gc)(cM:Cal K mg "_law_mixed" gM dM ["_law_cell","_law_k"]):FnOk P w K mg base CX0 2 f fd ["_law_cells","_law_pool"] (u8 K):=by
 refine F.okQ scDrawn (fun vs H Q E h=>?_) (fun cdv A outer s0 H vs Q E hr h=>?_)
 . obtain⟨c,k,ns,xs,rfl,_⟩:=h;rfl
 obtain⟨a,pl,ns,xs,rfl,hA,hns,hX,hx6,hnil,q⟩:=h;have nd:=scDrawn.nd;refine⟨_,ac (ak (i:=2) nd rfl (Or.inl rfl) (bn a0))
  (ac (ak (i:=3) nd rfl (Or.inl rfl) (bn a0))
  (ac (cc AA rfl (ck rfl C.range (bx (bf bc rfl C.len AH (ae (qv 0) a0)) a0)) (bw (i:=4) nd rfl (Or.inl rfl)) (ac (ak (i:=5) nd rfl (Or.inl rfl) (bd GM hr rfl cM.name cM.keep cM.bind .nil ar (aq (ah ba (qv 0) (qv 4) (fun _ _=>rfl)) (ae (qv 4) a0))))
  (ac (ak (i:=6) nd rfl (Or.inl rfl) (ah ba (qv 1) (ai bb (ai bo (qv 5) ab) (bf bc rfl C.len AH (ae (qv 1) a0))) (fun _ _=>rfl)))
  (ac (ak (i:=7) nd rfl (Or.inl rfl) (ah ba (qv 1) (ai bb (bd GM hr rfl cM.name cM.keep cM.bind .nil ar (aq (ah ba (qv 0) (qv 4) (fun _ _=>rfl)) (ce (ai bu (qv 4) ab) a0))) (bf bc rfl C.len AH (ae (qv 1) a0))) (fun _ _=>rfl)))
  (af (bi (QW.qt (ee (az j1 (ai bb (qv 5) ab) ab (b0 _)) (dt (az j1 (bf bc rfl C.len AH (ae (qv 2) a0)) ab (b0 _))))) (af (bq (cy (K:=K) rfl A0 AE AF bz (qv 2) (c7 (aq (ah ba (bn (ay (ay (ay (ay (ay a0)))))) (ai bb (qv 5) ab) (fun _ _=>rfl)) (ae (qv 6) (ae (qv 7) a0))) a0)))) (af (gf (t':=a3g K) (bi (QW.qt (ee (az a2u (ai bb (qv 5) ab) ab (b0 _)) (dt (az j1 (bf bc rfl C.len AH (ae (qv 3) a0)) ab (b0 _))))) (ac (ak (i:=8) nd rfl (Or.inl rfl) (ai dh (qv 1) (bn (ay (ay a0)))))
  (ac (ak (i:=9) nd rfl (Or.inl rfl) (ah ba (qv 8) (ai bb (bd GM hr rfl cM.name cM.keep cM.bind .nil ar (aq (ah ba (qv 0) (qv 4) (fun _ _=>rfl)) (ce (ai bu (qv 4) ab) a0))) (bf bc rfl C.len AH (ae (qv 8) a0))) (fun _ _=>rfl)))
  (ac (ak (i:=10) nd rfl (Or.inl rfl) (ah ba (qv 8) (ai bb (bd GM hr rfl cM.name cM.keep cM.bind .nil ar (aq (ah ba (qv 0) (qv 4) (fun _ _=>rfl)) (ce (ai bu (qv 4) ab) a0))) (bf bc rfl C.len AH (ae (qv 8) a0))) (fun _ _=>rfl)))
  (ac (ak (i:=11) nd rfl (Or.inl rfl) (bn (c7 (ay (ae (qv 6) (ae (qv 9) (ae (qv 10) a0)))) (c7 (ay (ae (qv 6) (ae (qv 7) a0))) (c7 (ay (ae (qv 6) a0)) (c7 (ay (ae (qv 6) (ae (qv 9) (ae (qv 10) a0)))) (c7 (ay (ae (qv 6) (ae (qv 7) a0))) a0)))))))
  (af (bq (cy (K:=K) rfl A0 AE AF bz (qv 3) (aq (ah ba (ai dh (qv 11) (bn (c7 (ay (ae (qv 6) (ae (qv 7) a0))) (c7 (ay (ae (qv 6) (ay a0))) a0)))) (ai a6v (ai bb (qv 5) ab) ab) (fun _ _=>rfl)) a0)))))))) be) (fun D σ H hh=>by
   obtain⟨H0,a,pl,fl,ql,ns,xs,i,m,u,v,c,z8,z9,z10,z11,rfl,e,hA,hcell,hi,hX,hx6,hnil,hum,hvm,LF,LP,hfq,go⟩:=hh;have b1:=AN m (show (12:Int)≠0 by decide);have b2:=AS m (show (0:Int)<12 by decide);obtain⟨pas,hpa,hpal,_⟩:=LP.at_;have hpml:(pas.map V.ref).length=pas.length:=Ac ..;refine⟨_,rfl,_,_,rfl,rfl,(show (0:Int)<12 by decide),_,_,rfl,rfl,_,rfl,iteB (fun c1=>?_) (fun _=>go H _ _ _ _ e LF LP)⟩;have c1':4<m % 12:=of_decide_eq_true c1;refine⟨_,rfl,ql,_,rfl,.inl (SqL.of hpa),_,_,rfl,rfl,_,rfl,iteB (fun c2=>?_) (fun _=>go H _ _ _ _ e LF LP)⟩;have c2':pas.length<6:=by have:=of_decide_eq_true c2;rw[hpml] at this;omega
   have hX':=e _ _ hX;refine⟨_,rfl,(show 2<=GX by decide),fun l1 hl1=>?_⟩;have s1:=ad hl1 (.lst ([("any":Str),"any"].map V.str));refine⟨pl,l1,_,_,rfl,rfl,s1 _ _ hX',aa,(by rw[Ac,hx6];decide),fun so hso=>?_⟩;have s2:=s1.trans (ad hso (.lst (xs.map V.str++[.str "any",.str "any"])));have hS:(upd (upd H l1 (.lst ([("any":Str),"any"].map V.str))) so (.lst (xs.map V.str++[.str "any",.str "any"]))) so=some (.lst ((xs++[("any":Str),"any"]).map V.str)):=by rw[aa,A1];rfl
   replace s2:Same H (upd (upd H l1 (.lst ([("any":Str),"any"].map V.str))) so (.lst (xs.map V.str++[.str "any",.str "any"]))):=s2
   have e2:=e.trans s2;have LF2:=LF.grow s2;have LP2:=LP.grow s2;have hpa2:=s2 _ _ hpa;clear s1 s2 hX';show c8 _ _ _ (upd (upd H l1 (.lst ([("any":Str),"any"].map V.str))) so (.lst (xs.map V.str++[.str "any",.str "any"]))) _;generalize upd (upd H l1 (.lst ([("any":Str),"any"].map V.str))) so (.lst (xs.map V.str++[.str "any",.str "any"]))=H2 at hS e2 LF2 LP2 hpa2 |-;have hs8:(xs++[("any":Str),"any"]).length=8:=by rw[Aj,hx6];rfl
   have hs8':(((xs++[("any":Str),"any"]).map V.str).length:Int)=8:=by rw[Ac,hs8];rfl
   have hsm:∀{y:Str},y∈xs++[("any":Str),"any"]->y∈xs\/y="any" := fun {y} hy=>by
    rcases Ad.mp hy with z|z
    . exact .inl z
    . simp only[Ar,Ax,or_false] at z;exact .inr (z.elim id id)
   refine⟨_,rfl,_,rfl,_,rfl,a,_,_,.int c,rfl,rfl,e2.seq hA,hcell,_,rfl,_,_,rfl,rfl,c,i+140,rfl,by omega,fun m3 hm3=>?_⟩;refine⟨_,rfl,so,_,rfl,.inl (SqL.of hS),?_⟩;rw[hs8'];obtain⟨fw,hfw,hfm⟩:=de _ (n:=8) (i:=m3) hs8 (by decide);refine⟨_,_,rfl,rfl,(show (0:Int)<8 by decide),so,_,_,.str fw,rfl,rfl,SqL.of hS,hfw,?_⟩;refine⟨_,rfl,_,rfl,_,rfl,a,_,_,.int c,rfl,rfl,e2.seq hA,hcell,_,rfl,_,_,rfl,rfl,c,i+210,rfl,by omega,fun m4 hm4=>?_⟩;refine⟨_,rfl,so,_,rfl,.inl (SqL.of hS),?_⟩;rw[hs8'];obtain⟨sw,hsw,hsm'⟩:=de _ (n:=8) (i:=m4) hs8 (by decide);refine⟨_,_,rfl,rfl,(show (0:Int)<8 by decide),so,_,_,.str sw,rfl,rfl,SqL.of hS,hsw,?_⟩;have wc:PoolPart xs [("cell":Str),u,fw,sw]:=.inl ⟨u,fw,sw,rfl,hum,hsm hfm,hsm hsm'⟩;have ws:PoolPart xs [("stretch":Str),u,v]:=.inr (.inl ⟨u,v,rfl,hum,hvm⟩);have wt:PoolPart xs [("tree":Str),u]:=.inr (.inr ⟨u,rfl,hum⟩);have wn:PoolPart xs [("stretch":Str),u,"nil"]:=.inr (.inl ⟨u,"nil",rfl,hum,hnil⟩);have D0:Dr K H0 H2 fl ql xs pas []:=⟨e2,LF2,LP2,hpa2,fun c hc=>by simp at hc⟩
   clear hS hfw hsw e2 LF2 LP2 hpa2;refine⟨_,rfl,_,rfl,_,rfl,(show 4<=GX by decide),fun t1 ht1=>?_⟩;have D1:Dr K H0 (upd H2 t1 (.tup [.str "cell",.str u,.str fw,.str sw])) fl ql xs pas _:=D0.new ht1 [("cell":Str),u,fw,sw] wc;generalize upd H2 t1 (.tup [.str "cell",.str u,.str fw,.str sw])=G1 at D1 |-;clear D0 ht1;refine⟨_,rfl,_,rfl,(show 3<=GX by decide),fun t2 ht2=>?_⟩;have D2:Dr K H0 (upd G1 t2 (.tup [.str "stretch",.str u,.str v])) fl ql xs pas _:=D1.new ht2 [("stretch":Str),u,v] ws;generalize upd G1 t2 (.tup [.str "stretch",.str u,.str v])=G2 at D2 |-;clear D1 ht2;refine⟨_,rfl,(show 2<=GX by decide),fun t3 ht3=>?_⟩;have D3:Dr K H0 (upd G2 t3 (.tup [.str "tree",.str u])) fl ql xs pas _:=D2.new ht3 [("tree":Str),u] wt;generalize upd G2 t3 (.tup [.str "tree",.str u])=G3 at D3 |-;clear D2 ht3;refine⟨_,rfl,_,rfl,_,rfl,(show 4<=GX by decide),fun t4 ht4=>?_⟩;have D4:Dr K H0 (upd G3 t4 (.tup [.str "cell",.str u,.str fw,.str sw])) fl ql xs pas _:=D3.new ht4 [("cell":Str),u,fw,sw] wc;generalize upd G3 t4 (.tup [.str "cell",.str u,.str fw,.str sw])=G4 at D4 |-;clear D3 ht4;refine⟨_,rfl,_,rfl,(show 3<=GX by decide),fun t5 ht5=>?_⟩;have D5:Dr K H0 (upd G4 t5 (.tup [.str "stretch",.str u,.str v])) fl ql xs pas _:=D4.new ht5 [("stretch":Str),u,v] ws;generalize upd G4 t5 (.tup [.str "stretch",.str u,.str v])=G5 at D5 |-;clear D4 ht5;refine⟨(show 5<=GX by decide),fun l5 hl5=>?_⟩;have x0:Same G5 (upd G5 l5 (.lst [.ref t1,.ref t2,.ref t3,.ref t4,.ref t5])):=ad hl5 _;have D5':=D5.grow x0;have R5:(upd G5 l5 (.lst [.ref t1,.ref t2,.ref t3,.ref t4,.ref t5])) l5=some (.lst [.ref t1,.ref t2,.ref t3,.ref t4,.ref t5]):=aa;generalize upd G5 l5 (.lst [.ref t1,.ref t2,.ref t3,.ref t4,.ref t5])=G6 at x0 D5' R5 |-;clear x0 D5 hl5;refine⟨_,rfl,.inl ⟨rfl,_,SqL.of D5'.pa⟩,_,rfl,?_⟩;refine⟨_,rfl,_,rfl,(show 3<=GX by decide),fun t6 ht6=>?_⟩;have D6:Dr K H0 (upd G6 t6 (.tup [.str "stretch",.str u,.str v])) fl ql xs pas _:=D5'.new ht6 [("stretch":Str),u,v] ws;have R6:=ad ht6 (.tup [.str "stretch",.str u,.str v]) _ _ R5;generalize upd G6 t6 (.tup [.str "stretch",.str u,.str v])=G7 at D6 R6 |-;clear D5' R5 ht6;refine⟨_,rfl,(show 3<=GX by decide),fun t7 ht7=>?_⟩;have D7:Dr K H0 (upd G7 t7 (.tup [.str "stretch",.str u,.str "nil"])) fl ql xs pas _:=D6.new ht7 [("stretch":Str),u,"nil"] wn;have R7:=ad ht7 (.tup [.str "stretch",.str u,.str "nil"]) _ _ R6;generalize upd G7 t7 (.tup [.str "stretch",.str u,.str "nil"])=G8 at D7 R7 |-;clear D6 R6 ht7;refine⟨(show 2<=GX by decide),fun l6 hl6=>?_⟩;have x0:Same G8 (upd G8 l6 (.lst [.ref t6,.ref t7])):=ad hl6 _;refine⟨l5,l6,_,_,rfl,rfl,x0 _ _ R7,aa,(show 7<=GX by decide),fun l7 hl7=>?_⟩;have x1:=x0.trans (ad hl7 (.lst ([t1,t2,t3,t4,t5,t6,t7].map V.ref)));obtain⟨tv,htv,htm⟩:=oh (xs:=[t1,t2,t3,t4,t5,t6,t7].map V.ref) (i:=m % 12-5) (by omega) (by show m % 12-5<7;omega);obtain⟨t,ht,rfl⟩:=A3.mp htm;obtain⟨r,hr1,hr2⟩:=D7.tp t ht;have P8:=x1 _ _ D7.pa;refine⟨_,rfl,_,_,rfl,rfl,(show (0:Int)<12 by decide),_,_,rfl,rfl,l7,_,_,.ref t,rfl,rfl,SqL.of aa,htv,ql,_,.ref t,rfl,rfl,P8,by rw[hpml];exact ft (by omega),?_⟩;exact go _ _ _ _ _ (er LP.no (D7.e.trans x1) _) ((D7.lf.grow x1).other P8 hfq) ((D7.lp.grow x1).app P8 (by omega) (x1.seqT hr1) hr2))))))))))
  (af (aw (cw (ae (qv 2) (ae (qv 3) a0))))))),?_⟩
 refine⟨A5 _,fun fl hfl=>?_⟩;have s1:=ad hfl (.lst []);have hf1:(upd H fl (.lst [])) fl=some (.lst []):=aa;generalize upd H fl (.lst [])=H1 at s1 hf1 |-;refine⟨A5 _,fun ql hql=>?_⟩;have s2:=s1.trans (ad hql (.lst []));have hfq:fl≠ql:=ax hf1 hql;have hql0:H ql=none:=by
  cases hz:H ql with
  | none=>rfl
  | some o=>rw[s1 _ _ hz] at hql;cases hql
 have LF0:LW K H (upd H1 ql (.lst [])) (PoolRow xs) fl 8:=⟨hfl,[],by rw[ag hfq];exact hf1,A5 _,fun c hc=>by simp at hc⟩
 have LP0:LW K H (upd H1 ql (.lst [])) (PoolPart xs) ql 6:=⟨hql0,[],aa,A5 _,fun c hc=>by simp at hc⟩
 generalize upd H1 ql (.lst [])=H2 at s2 LF0 LP0 |-;have hml:(ns.map V.int).length=ns.length:=Ac ..;refine⟨_,rfl,a,_,rfl,.inl (s2.seq hA),_,rfl,(by rw[hml];omega),(by rw[hml];omega),?_⟩;rw[hml];refine di (lo:=0) (n:=(ns.length:Int).toNat) (fun i σ H'=>Same H H'/\LW K H H' (PoolRow xs) fl 8/\LW K H H' (PoolPart xs) ql 6/\∃(z4 z5 z6 z7 z8 z9 z10 z11:Option V),σ=[rQ a,rQ pl,rQ fl,rQ ql,z4,z5,z6,z7,z8,z9,z10,z11])
  ⟨s2,LF0,LP0,none,none,none,none,none,none,none,none,rfl⟩ ?_ ?_
 . rintro i σ H' hi ⟨e,LF,LP,z4,z5,z6,z7,z8,z9,z10,z11,rfl⟩;rw[Eh];have hi':i<ns.length:=by omega
   have hcell:atI (ns.map V.int) (i:Int)=some (.int ns[i]):=ef (by rw[Al,Ae hi'];rfl);refine⟨_,rfl,_,rfl,a,_,_,.int ns[i],rfl,rfl,e.seq hA,hcell,_,rfl,ns[i],i,rfl,by omega,fun m hm=>?_⟩;have hX':=e _ _ hX;have hl6:((xs.map V.str).length:Int)=6:=by rw[Ac,hx6];rfl
   obtain⟨u,hu,hum⟩:=de xs (n:=6) (i:=m / 12) hx6 (by decide);refine⟨_,rfl,_,rfl,_,_,rfl,rfl,(show CDiv _ 12 from⟨by decide,by decide⟩),_,rfl,pl,_,rfl,.inl (SqL.of hX'),?_⟩;rw[hl6];refine⟨_,_,rfl,rfl,(show (0:Int)<6 by decide),pl,_,_,.str u,rfl,rfl,SqL.of hX',hu,?_⟩;refine⟨_,rfl,_,rfl,_,rfl,a,_,_,.int ns[i],rfl,rfl,e.seq hA,hcell,_,rfl,_,_,rfl,rfl,ns[i],i+70,rfl,by omega,fun m2 hm2=>?_⟩;obtain⟨v,hv,hvm⟩:=de xs (n:=6) (i:=m2) hx6 (by decide);refine⟨_,rfl,pl,_,rfl,.inl (SqL.of hX'),?_⟩;rw[hl6];refine⟨_,_,rfl,rfl,(show (0:Int)<6 by decide),pl,_,_,.str v,rfl,rfl,SqL.of hX',hv,?_⟩;have b1:=AN m (show (12:Int)≠0 by decide);have b2:=AS m (show (0:Int)<12 by decide);obtain⟨fas,hfa,hfal,_⟩:=LF.at_;obtain⟨pas,hpa,hpal,_⟩:=LP.at_;have hfml:(fas.map V.ref).length=fas.length:=Ac ..;have hpml:(pas.map V.ref).length=pas.length:=Ac ..;have go:∀H' (z8 z9 z10 z11:Option V),Same H H'->LW K H H' (PoolRow xs) fl 8->LW K H H' (PoolPart xs) ql 6->(Same H H'/\LW K H H' (PoolRow xs) fl 8/\LW K H H' (PoolPart xs) ql 6/\∃(y4 y5 y6 y7 y8 y9 y10 y11:Option V),[some (V.ref a),some (.ref pl),some (.ref fl),some (.ref ql),some (.int (i:Int)),some (.int m),some (.str u),some (.str v),z8,z9,z10,z11]=[rQ a,rQ pl,rQ fl,rQ ql,y4,y5,y6,y7,y8,y9,y10,y11]):=fun H' z8 z9 z10 z11 h1 h2 h3=>⟨h1,h2,h3,_,_,_,_,_,_,_,_,rfl⟩
   have el:∀D:Ends,(∀H' (z8 z9 z10 z11:Option V),Same H H'->LW K H H' (PoolRow xs) fl 8->LW K H H' (PoolPart xs) ql 6->D.nx [some (V.ref a),some (.ref pl),some (.ref fl),some (.ref ql),some (.int (i:Int)),some (.int m),some (.str u),some (.str v),z8,z9,z10,z11] H')->a3g K D [some (V.ref a),some (.ref pl),some (.ref fl),some (.ref ql),some (.int (i:Int)),some (.int m),some (.str u),some (.str v),z8,z9,z10,z11] H':=fun D h=>⟨H,a,pl,fl,ql,ns,xs,i,m,u,v,ns[i],z8,z9,z10,z11,rfl,e,hA,hcell,by omega,hX,hx6,hnil,hum,hvm,LF,LP,hfq,h⟩
   refine⟨_,rfl,_,_,rfl,rfl,(show (0:Int)<12 by decide),_,_,rfl,rfl,_,rfl,iteB (fun c1=>?_) (fun _=>el _ fun H' z8 z9 z10 z11=>go H' z8 z9 z10 z11)⟩;have c1':m % 12<5:=of_decide_eq_true c1;refine⟨_,rfl,fl,_,rfl,.inl (SqL.of hfa),_,_,rfl,rfl,_,rfl,iteB (fun c2=>?_) (fun _=>el _ fun H' z8 z9 z10 z11=>go H' z8 z9 z10 z11)⟩;have c2':fas.length<8:=by have:=of_decide_eq_true c2;rw[hfml] at this;omega
   refine⟨_,rfl,.inl ⟨rfl,_,SqL.of hfa⟩,(show 5<=GX by decide),fun l2 hl2=>?_⟩;have s3:=ad hl2 (.lst ([("is":Str),"not","not","is","not"].map V.str));obtain⟨wv,hw,hwm⟩:=oh (xs:=[("is":Str),"not","not","is","not"].map V.str) (i:=m % 12) b1 (by show m % 12<5;exact c1');obtain⟨wd,rfl,hwd⟩:∃wd:Str,wv=.str wd/\(wd="is" \/ wd="not"):=by
    obtain⟨y,hy,rfl⟩:=A3.mp hwm;refine⟨y,rfl,?_⟩;simp only[Ar,Ax,or_false] at hy;rcases hy with z|z|z|z|z
    . exact .inl z
    . exact .inr z
    . exact .inr z
    . exact .inl z
    . exact .inr z
   refine⟨_,rfl,_,_,rfl,rfl,(show (0:Int)<12 by decide),l2,_,_,.str wd,rfl,rfl,SqL.of aa,hw,_,rfl,_,rfl,(show 3<=GX by decide),fun t ht=>?_⟩;have s4:=s3.trans (ad ht (.tup [.str wd,.str u,.str v]));have hfa4:=s4 _ _ hfa;have hpa4:=s4 _ _ hpa;refine⟨fl,_,.ref t,rfl,rfl,hfa4,by rw[hfml];exact ft (by omega),?_⟩;exact go _ _ _ _ _ (er hfl (e.trans s4) _) ((LF.grow s4).app hfa4 (by omega) (r:=[wd,u,v]) (SqT.of aa) ⟨wd,u,v,rfl,hwd,hum,hvm⟩) ((LP.grow s4).other hfa4 (A9 hfq))
 . rintro σ H' ⟨e,LF,LP,z4,z5,z6,z7,z8,z9,z10,z11,rfl⟩;obtain⟨F,hF,hF8,hFW⟩:=LF.rows;obtain⟨Pt,hP,hP6,hPW⟩:=LP.rows;refine⟨_,rfl,_,rfl,(show 2<=GX by decide),fun t ht=>?_⟩;have s3:=ad ht (.tup [.ref fl,.ref ql]);exact q t fl ql F Pt _ (e.trans s3) (SqT.of aa) aa (hF.same s3) (hP.same s3) hF8 hP6 hFW hPW
end
abbrev rq:HF:=top 38
abbrev r6:HF:=top 39
def v5(K:Aa):Sp:=fun vs H Q _=>∃(c:Int) (l:GV) (ys:List Str),vs=[.int c,.ref l]/\H l=some (.lst (ys.map V.str))/\ys.length=5/\
 ∀pl P H',Same H H'->H pl=none->RowsAt K H' pl P->P.length<=5->(∀r∈P,PoolPart (ys++[("nil":Str)]) r)->Q (.ref pl) H'
def u1(K:Aa):Sp:=fun vs H Q _=>∃(c:Int) (l:GV) (ys:List Str),vs=[.int c,.ref l,.int 3]/\H l=some (.lst (ys.map V.str))/\ys.length=5/\
 ∀pl F H',Same H H'->H pl=none->RowsAt K H' pl F->F.length<=3->(∀r∈F,PoolRow (ys++[("nil":Str)]) r)->Q (.ref pl) H'
section
variable{P:Gx}{w:G9}{K:Aa}{mg:Str->Option GQ}{base:HB}{f gM:GV}{fd dM:HA}
theorem scChain:FnScope ["_law_cell","_law_names_here","_law_m","_law_many","_law_stops","_law_parts","_law_k","_law_f"] ["_law_cell","_law_names_here"] (ap rq):=⟨rfl,rfl,rfl,by decide,rfl,by decide,by decide⟩
theorem a06(C:Con K mg w)(F:Fun K "_law_chain" "_law_chain" rq f fd)(GM:FnOk P w K mg base CX0 1 gM dM ["_law_cell","_law_k"] gc)(cM:Cal K mg "_law_mixed" gM dM ["_law_cell","_law_k"]):FnOk P w K mg base CX0 2 f fd ["_law_cell","_law_names_here"] (v5 K):=by
 refine F.okQ scChain (fun vs H Q E h=>?_) (fun cdv A outer s0 H vs Q E hr h=>?_)
 . obtain⟨c,l,ys,rfl,_⟩:=h;rfl
 obtain⟨c,l,ys,rfl,hl,hy5,q⟩:=h;have nd:=scChain.nd;refine⟨_,ac (ak (i:=2) nd rfl (Or.inl rfl) (bd GM hr rfl cM.name cM.keep cM.bind .nil ar (ae (qv 0) (fh a0))))
  (ac (ak (i:=3) nd rfl (Or.inl rfl) (ai bu ab (ai bb (qv 2) ab)))
  (ac (ak (i:=4) nd rfl (Or.inl rfl) (ai dh (dk fm (qv 1) fc (dq (qv 3))) (bn (aq (ah ba (ai dh (bn (ay (ay (ay a0)))) (qv 1)) (ai bb (ai bo (qv 2) ab) (ai bu ab (bf bc rfl C.len AH (ae (qv 1) a0)))) (fun _ _=>rfl)) a0))))
  (ac (ak (i:=5) nd rfl (Or.inl rfl) (bn a0))
  (ac (cc AA rfl (ck rfl C.range (ae (qv 3) a0)) (bw (i:=6) nd rfl (Or.inl rfl)) (ac (ak (i:=2) nd rfl (Or.inl rfl) (bd GM hr rfl cM.name cM.keep cM.bind .nil ar (ae (qv 0) (ce (ai bu ab (qv 6)) a0))))
  (ac (ak (i:=7) nd rfl (Or.inl rfl) (ah ba (ai dh (qv 1) (bn (ay (ay (ay a0))))) (ai bb (ai bo (qv 2) ab) (ai bu ab (bf bc rfl C.len AH (ae (qv 1) a0)))) (fun _ _=>rfl)))
  (af (bi (az j1 (ai bb (qv 2) ab) ab (b0 _)) (af (bq (cy (K:=K) rfl A0 AE AF bz (qv 5) (c7 (ay (aq (ah ba (qv 4) (qv 6) (fun _ _=>rfl)) (aq (ah ba (qv 4) (ai bu (qv 6) ab) (fun _ _=>rfl)) a0))) a0)))) (af (bi (az j1 (ai bb (qv 2) ab) ab (b0 _)) (af (bq (cy (K:=K) rfl A0 AE AF bz (qv 5) (c7 (ay (aq (ah ba (qv 4) (qv 6) (fun _ _=>rfl)) (ae (qv 7) (aq (ah ba (qv 4) (ai bu (qv 6) ab) (fun _ _=>rfl)) a0)))) a0)))) (af (bq (cy (K:=K) rfl A0 AE AF bz (qv 5) (c7 (ay (aq (ah ba (qv 4) (qv 6) (fun _ _=>rfl)) a0)) a0)))))))))))
  (ac (bi (QW.qt (ee (az c3 (ai bb (ai bo (qv 2) ab) ab) ab (b0 _)) (dt (az j1 (qv 3) (bf bc rfl C.len AH (ae (qv 1) a0)) (b0 _))))) (af (bq (cy (K:=K) rfl A0 AE AF bz (qv 5) (c7 (ay (aq (ah ba (qv 1) (qv 3) (fun _ _=>rfl)) a0)) a0)))) be)
  (af (aw (qv 5)))))))),?_⟩
 refine⟨_,rfl,c,3,rfl,by omega,fun m hm=>?_⟩;have b1:=AN m (show (4:Int)≠0 by decide);have b2:=AS m (show (0:Int)<4 by decide);obtain⟨k0,hk0⟩:∃k0:Nat,1+m % 4=(k0:Int):=⟨(1+m % 4).toNat,by omega⟩
 refine⟨_,rfl,_,_,rfl,rfl,(show (0:Int)<4 by decide),_,_,rfl,rfl,?_⟩;show c8 3 (V.int (1+m % 4)) _ H _;rw[hk0];have y5:(ys.map V.str).length=5:=by rw[Ac,hy5]
 have y5':((ys.map V.str).length:Int)=5:=by rw[y5];rfl
 refine⟨_,rfl,_,rfl,_,rfl,l,_,rfl,SqL.of hl,fun l1 hl1=>?_⟩;rw[a0z ys k0 (by omega)];have s1:=ad hl1 (.lst ((ys.take k0).map V.str));refine⟨(show 3<=GX by decide),fun l2 hl2=>?_⟩;have s2:=s1.trans (ad hl2 (.lst [.str "nil",.str "nil",.str "nil"]));refine⟨_,rfl,l2,l,_,_,rfl,rfl,aa,s2 _ _ hl,(by rw[y5];decide),fun l3 hl3=>?_⟩;have h3:=aa (H:=upd (upd H l1 (.lst ((ys.take k0).map V.str))) l2 (.lst [.str "nil",.str "nil",.str "nil"])) (a:=l3) (o:=.lst ([.str "nil",.str "nil",.str "nil"]++ys.map V.str));have s3:=s2.trans (ad hl3 (.lst ([.str "nil",.str "nil",.str "nil"]++ys.map V.str)));have hl13:(upd (upd (upd H l1 (.lst ((ys.take k0).map V.str))) l2 (.lst [.str "nil",.str "nil",.str "nil"])) l3 (.lst ([.str "nil",.str "nil",.str "nil"]++ys.map V.str))) l1=some (.lst ((ys.take k0).map V.str)):=ad hl3 _ _ _ (ad hl2 _ _ _ aa);generalize upd (upd (upd H l1 (.lst ((ys.take k0).map V.str))) l2 (.lst [.str "nil",.str "nil",.str "nil"])) l3 (.lst ([.str "nil",.str "nil",.str "nil"]++ys.map V.str))=H3 at h3 s3 hl13 |-;have h3':H3 l3=some (.lst ((([("nil":Str),"nil","nil"]++ys)).map V.str)):=by rw[h3,A1];rfl
 obtain⟨e1,he1,he1m⟩:=de ([("nil":Str),"nil","nil"]++ys) (n:=8) (i:=m / 4) (by rw[Aj,hy5];rfl) (by decide);have hS:∀{x:Str},x∈[("nil":Str),"nil","nil"]++ys->x∈ys++[("nil":Str)]:=fun {x} h=>by
  rcases Ad.mp h with z|z
  . simp only[Ar,Ax,or_false,or_self] at z;rw[z];exact Ad.mpr (.inr (Ai.mpr rfl))
  . exact Ad.mpr (.inl z)
 have h8:∀(a b:Nat),a=3->b=5->(3:Int)+((b:Nat):Int)=8:=fun a b _ h=>by rw[h];rfl
 refine⟨_,rfl,_,_,rfl,rfl,(show CDiv _ 4 from⟨by decide,by decide⟩),_,rfl,l,_,rfl,.inl (SqL.of (s3 _ _ hl)),_,_,rfl,rfl,?_⟩;rw[y5];refine⟨_,_,rfl,rfl,(show (0:Int)<8 by decide),l3,_,_,.str e1,rfl,rfl,SqL.of h3',he1,(show 1<=GX by decide),fun l4 hl4=>?_⟩;have s4:=ad hl4 (.lst [.str e1]);refine⟨l1,l4,_,_,rfl,rfl,s4 _ _ hl13,aa,?_,fun st hst=>?_⟩
 . rw[Ac];exact cu (show (ys.take k0).length+1<=1000 by rw[A2];omega)
 have e5:=s3.trans (s4.trans (ad hst (.lst ((ys.take k0).map V.str++[.str e1]))));have hst':(upd (upd H3 l4 (.lst [.str e1])) st (.lst ((ys.take k0).map V.str++[.str e1]))) st=some (.lst ((ys.take k0++[e1]).map V.str)):=by rw[aa,A1];rfl
 show c8 4 (V.ref st) _ (upd (upd H3 l4 (.lst [.str e1])) st (.lst ((ys.take k0).map V.str++[.str e1]))) _;generalize upd (upd H3 l4 (.lst [.str e1])) st (.lst ((ys.take k0).map V.str++[.str e1]))=H5 at e5 hst' |-;have hsl:(ys.take k0++[e1]).length=k0+1:=by rw[Aj,A2,AD];omega
 have hsm:∀{x:Str},x∈ys.take k0++[e1]->x∈ys++[("nil":Str)]:=fun {x} h=>by
  rcases Ad.mp h with z|z
  . exact Ad.mpr (.inl (AQ z))
  . rw[Ai.mp z];exact hS he1m
 refine⟨(show 0<=GX by decide),fun pl hpl=>?_⟩;have s6:=ad hpl (.lst []);have e6:=e5.trans s6;have hpl0:H pl=none:=e5.free hpl;have L0:LW K H5 (upd H5 pl (.lst [])) (PoolPart (ys++[("nil":Str)])) pl 0:=⟨hpl,[],aa,Ah _,fun c hc=>by simp at hc⟩
 refine⟨_,rfl,_,rfl,(by omega),(by omega),?_⟩;refine di (lo:=0) (n:=((k0:Nat):Int).toNat) (fun i σ H'=>Same H5 H'/\LW K H5 H' (PoolPart (ys++[("nil":Str)])) pl i/\∃(m2:Int) (z6 z7:Option V),σ=[iQ c,rQ l,iQ m2,iQ (k0:Int),rQ st,rQ pl,z6,z7])
  ⟨s6,L0,m,none,none,rfl⟩ ?_ ?_
 . rintro i σ H' hi ⟨e,LP,m0,z6,z7,rfl⟩;rw[Eh];have hi':i<k0:=by omega
   refine⟨_,rfl,_,rfl,_,_,rfl,rfl,c,51+i,rfl,by omega,fun m hm=>?_⟩;have el:=(e5.trans e) _ _ hl;refine⟨_,rfl,(show 3<=GX by decide),fun a1 ha1=>?_⟩;have t1:=ad ha1 (.lst [.str "nil",.str "any",.str "any"]);refine⟨l,a1,_,_,rfl,rfl,t1 _ _ el,aa,(by rw[y5];decide),fun a2 ha2=>?_⟩;have t2:=t1.trans (ad ha2 (.lst (ys.map V.str++[.str "nil",.str "any",.str "any"])));have hA:(upd (upd H' a1 (.lst [.str "nil",.str "any",.str "any"])) a2 (.lst (ys.map V.str++[.str "nil",.str "any",.str "any"]))) a2=some (.lst ((ys++[("nil":Str),"any","any"]).map V.str)):=by rw[aa,A1];rfl
   obtain⟨fw,hfw,hfm⟩:=de (ys++[("nil":Str),"any","any"]) (n:=8) (i:=m / 7) (by rw[Aj,hy5];rfl) (by decide);have e2:=e.trans t2;have LP2:=LP.grow t2;have hfm':fw∈ys++[("nil":Str)]\/fw="any" := by
    rcases Ad.mp hfm with z|z
    . exact .inl (Ad.mpr (.inl z))
    . simp only[Ar,Ax,or_false] at z;rcases z with z|z|z
      . rw[z];exact .inl (Ad.mpr (.inr (Ai.mpr rfl)))
      . exact .inr z
      . exact .inr z
   generalize upd (upd H' a1 (.lst [.str "nil",.str "any",.str "any"])) a2 (.lst (ys.map V.str++[.str "nil",.str "any",.str "any"]))=H2 at t2 hA e2 LP2 |-;refine⟨_,rfl,_,_,rfl,rfl,(show CDiv _ 7 from⟨by decide,by decide⟩),_,rfl,l,_,rfl,.inl (SqL.of (t2 _ _ el)),_,_,rfl,rfl,?_⟩;rw[y5];refine⟨_,_,rfl,rfl,(show (0:Int)<8 by decide),a2,_,_,.str fw,rfl,rfl,SqL.of hA,hfw,?_⟩;obtain⟨u,hu⟩:∃u,(ys.take k0++[e1])[i]?=some u:=⟨_,Ae (by omega)⟩
   obtain⟨v,hv⟩:∃v,(ys.take k0++[e1])[i+1]?=some v:=⟨_,Ae (by omega)⟩
   have hum:=hsm (Au hu);have hvm:=hsm (Au hv);have au:atI ((ys.take k0++[e1]).map V.str) (i:Int)=some (.str u):=ef (by rw[Al,hu];rfl);have av:atI ((ys.take k0++[e1]).map V.str) ((i:Int)+1)=some (.str v):=ef (j:=i+1) (by rw[Al,hv];rfl);have hst2:∀{G},Same H2 G->SqL K G st ((ys.take k0++[e1]).map V.str):=fun g=>SqL.of (g _ _ (e2 _ _ hst'));have go:∀{r:List Str} {t:GV},H2 t=none->PoolPart (ys++[("nil":Str)]) r->∀as,(upd H2 t (.tup (r.map V.str))) pl=some (.lst as)->∃(_:as.length<GX),(Same H5 (upd (upd H2 t (.tup (r.map V.str))) pl (.lst (as++[.ref t])))/\LW K H5 (upd (upd H2 t (.tup (r.map V.str))) pl (.lst (as++[.ref t]))) (PoolPart (ys++[("nil":Str)])) pl (i+1)):=fun {r t} ht hr as has=>by
    have t3:=ad ht (.tup (r.map V.str));obtain⟨ps,hps,hpsl,_⟩:=LP2.at_;have e:as=ps.map V.ref:=HO.lst.inj (Ap (has.symm.trans (t3 _ _ hps)));subst e;exact⟨by rw[Ac];exact ft (by omega),er hpl (e2.trans t3) _,(LP2.grow t3).app (t3 _ _ hps) (by omega) (SqT.of aa) hr⟩
   obtain⟨ps,hps,hpsl,_⟩:=id LP2.at_;have hpT:∀{t o},H2 t=none->(upd H2 t o) pl=some (.lst (ps.map V.ref)):=fun {t o} ht=>ad ht o _ _ hps;refine⟨_,rfl,_,_,rfl,rfl,(show (0:Int)<7 by decide),_,_,rfl,rfl,_,rfl,iteB (fun c1=>?_) (fun c1=>?_)⟩
   . refine⟨_,rfl,.inl ⟨rfl,_,SqL.of hps⟩,_,rfl,_,rfl,st,_,_,.str u,rfl,rfl,hst2 (Same.refl _),au,_,rfl,_,rfl,_,_,rfl,rfl,st,_,_,.str v,rfl,rfl,hst2 (Same.refl _),av,(show 3<=GX by decide),fun t ht=>?_⟩;obtain⟨g1,g2,g3⟩:=go (r:=[("stretch":Str),u,v]) ht (.inr (.inl ⟨u,v,rfl,hum,hvm⟩)) _ (hpT ht);exact⟨pl,_,.ref t,rfl,rfl,hpT ht,g1,g2,g3,m,_,_,rfl⟩
   . refine⟨_,rfl,_,_,rfl,rfl,(show (0:Int)<7 by decide),_,_,rfl,rfl,_,rfl,iteB (fun c2=>?_) (fun c2=>?_)⟩
     . refine⟨_,rfl,.inl ⟨rfl,_,SqL.of hps⟩,_,rfl,_,rfl,st,_,_,.str u,rfl,rfl,hst2 (Same.refl _),au,_,rfl,_,rfl,_,rfl,_,_,rfl,rfl,st,_,_,.str v,rfl,rfl,hst2 (Same.refl _),av,(show 4<=GX by decide),fun t ht=>?_⟩;obtain⟨g1,g2,g3⟩:=go (r:=[("cell":Str),u,fw,v]) ht (.inl ⟨u,fw,v,rfl,hum,hfm',.inl hvm⟩) _ (hpT ht);exact⟨pl,_,.ref t,rfl,rfl,hpT ht,g1,g2,g3,m,_,_,rfl⟩
     . refine⟨_,rfl,.inl ⟨rfl,_,SqL.of hps⟩,_,rfl,_,rfl,st,_,_,.str u,rfl,rfl,hst2 (Same.refl _),au,(show 2<=GX by decide),fun t ht=>?_⟩;obtain⟨g1,g2,g3⟩:=go (r:=[("tree":Str),u]) ht (.inr (.inr ⟨u,rfl,hum⟩)) _ (hpT ht);exact⟨pl,_,.ref t,rfl,rfl,hpT ht,g1,g2,g3,m,_,_,rfl⟩
 . rintro σ H' ⟨e,LP,m2,z6,z7,rfl⟩;have hk4:((k0:Nat):Int).toNat<=4:=by omega
   have fin:∀H2 k,k<=5->Same H5 H2->LW K H5 H2 (PoolPart (ys++[("nil":Str)])) pl k->Q (.ref pl) H2:=fun H2 k hk e2 L2=>by
    obtain⟨Pt,hP,hP6,hPW⟩:=L2.rows;exact q pl Pt H2 (e5.trans e2) hpl0 hP (by omega) hPW
   refine⟨_,rfl,_,_,rfl,rfl,(show CDiv _ 100 from⟨by decide,by decide⟩),_,_,rfl,rfl,(show (0:Int)<3 by decide),rfl,_,rfl,iteB (fun c1=>?_) (fun c1=>?_)⟩
   . have el:=(e5.trans e) _ _ hl;refine⟨_,rfl,_,rfl,l,_,rfl,.inl (SqL.of el),_,_,rfl,rfl,_,rfl,iteB (fun c2=>?_) (fun c2=>⟨_,rfl,fin H' _ (by omega) e LP⟩)⟩;obtain⟨u,hu⟩:∃u,ys[k0]?=some u:=⟨_,Ae (by omega)⟩
     have au:atI (ys.map V.str) (k0:Int)=some (.str u):=ef (by rw[Al,hu];rfl);obtain⟨ps,hps,hpsl,_⟩:=id LP.at_;refine⟨_,rfl,.inl ⟨rfl,_,SqL.of hps⟩,_,rfl,_,rfl,l,_,_,.str u,rfl,rfl,SqL.of el,au,(show 2<=GX by decide),fun t ht=>?_⟩;have t3:=ad ht (.tup ([("tree":Str),u].map V.str));refine⟨pl,_,.ref t,rfl,rfl,t3 _ _ hps,by rw[Ac];exact ft (by omega),_,rfl,?_⟩;exact fin _ (((k0:Nat):Int).toNat+1) (by omega) (er hpl (e.trans t3) _) ((LP.grow t3).app (t3 _ _ hps) (by omega) (r:=[("tree":Str),u]) (SqT.of aa) (.inr (.inr ⟨u,rfl,Ad.mpr (.inl (Au hu))⟩)))
   . exact⟨_,rfl,fin H' _ (by omega) e LP⟩
theorem scFacts:FnScope ["_law_cell","_law_names_here","_law_most","_law_facts_here","_law_k","_law_m","_law_a","_law_b"] ["_law_cell","_law_names_here","_law_most"] (ap r6):=⟨rfl,rfl,rfl,by decide,rfl,by decide,by decide⟩
theorem a1j(C:Con K mg w)(F:Fun K "_law_facts" "_law_facts" r6 f fd)(GM:FnOk P w K mg base CX0 1 gM dM ["_law_cell","_law_k"] gc)(cM:Cal K mg "_law_mixed" gM dM ["_law_cell","_law_k"]):FnOk P w K mg base CX0 2 f fd ["_law_cell","_law_names_here","_law_most"] (u1 K):=by
 refine F.okQ scFacts (fun vs H Q E h=>?_) (fun cdv A outer s0 H vs Q E hr h=>?_)
 . obtain⟨c,l,ys,rfl,_⟩:=h;rfl
 obtain⟨c,l,ys,rfl,hl,hy5,q⟩:=h;have nd:=scFacts.nd;refine⟨_,ac (ak (i:=3) nd rfl (Or.inl rfl) (bn a0))
  (ac (cc AA rfl (ck rfl C.range (ce (ai bb (bd GM hr rfl cM.name cM.keep cM.bind .nil ar (ae (qv 0) (fh a0))) (ai bu (qv 2) ab)) a0)) (bw (i:=4) nd rfl (Or.inl rfl)) (ac (ak (i:=5) nd rfl (Or.inl rfl) (bd GM hr rfl cM.name cM.keep cM.bind .nil ar (ae (qv 0) (ce (ai bu ab (qv 4)) a0))))
  (ac (ak (i:=6) nd rfl (Or.inl rfl) (ah ba (qv 1) (ai bb (ai bo (qv 5) ab) (bf bc rfl C.len AH (ae (qv 1) a0))) (fun _ _=>rfl)))
  (ac (ak (i:=7) nd rfl (Or.inl rfl) (ah ba (ai dh (qv 1) (bn (ay (ay a0)))) (ai bb (ai bo (qv 5) ab) (ai bu (bf bc rfl C.len AH (ae (qv 1) a0)) ab)) (fun _ _=>rfl)))
  (af (bq (cy (K:=K) rfl A0 AE AF bz (qv 3) (c7 (aq (ah ba (bn (ay (ay (ay (ay a0))))) (ai bb (qv 5) ab) (fun _ _=>rfl)) (ae (qv 6) (ae (qv 7) a0))) a0))))))))
  (af (aw (qv 3)))),?_⟩
 have y5:(ys.map V.str).length=5:=by rw[Ac,hy5]
 refine⟨(show 0<=GX by decide),fun pl hpl=>?_⟩;have s6:=ad hpl (.lst []);have L0:LW K H (upd H pl (.lst [])) (PoolRow (ys++[("nil":Str)])) pl 0:=⟨hpl,[],aa,Ah _,fun c hc=>by simp at hc⟩
 refine⟨_,rfl,c,7,rfl,by omega,fun m hm=>?_⟩;have b1:=AN m (show (4:Int)≠0 by decide);have b2:=AS m (show (0:Int)<4 by decide);obtain⟨k0,hk0⟩:∃k0:Nat,m % 4=(k0:Int):=⟨(m % 4).toNat,by omega⟩
 refine⟨_,rfl,_,_,rfl,rfl,_,_,rfl,rfl,(show (0:Int)<3+1 by decide),_,rfl,?_⟩;have hm4:m % (3+1)=(k0:Int):=hk0;rw[hm4];refine⟨by omega,by omega,?_⟩;refine di (lo:=0) (n:=((k0:Nat):Int).toNat) (fun i σ H'=>Same H H'/\LW K H H' (PoolRow (ys++[("nil":Str)])) pl i/\∃(z4 z5 z6 z7:Option V),σ=[iQ c,rQ l,iQ 3,rQ pl,z4,z5,z6,z7])
  ⟨s6,L0,none,none,none,none,rfl⟩ ?_ ?_
 . rintro i σ H' hi ⟨e,LP,z4,z5,z6,z7,rfl⟩;rw[Eh];refine⟨_,rfl,_,rfl,_,_,rfl,rfl,c,11+i,rfl,by omega,fun m hm=>?_⟩;have el:=e _ _ hl;have b1:=AN m (show (4:Int)≠0 by decide);have b2:=AS m (show (0:Int)<4 by decide);obtain⟨u,hu,hum⟩:=de ys (n:=5) (i:=m / 4) hy5 (by decide);refine⟨_,rfl,_,rfl,_,_,rfl,rfl,(show CDiv _ 4 from⟨by decide,by decide⟩),_,rfl,l,_,rfl,.inl (SqL.of el),?_⟩;rw[y5];refine⟨_,_,rfl,rfl,(show (0:Int)<5 by decide),l,_,_,.str u,rfl,rfl,SqL.of el,hu,?_⟩;refine⟨_,rfl,(show 2<=GX by decide),fun a1 ha1=>?_⟩;have t1:=ad ha1 (.lst [.str "nil",.str "nil"]);refine⟨l,a1,_,_,rfl,rfl,t1 _ _ el,aa,(by rw[y5];decide),fun a2 ha2=>?_⟩;have t2:=t1.trans (ad ha2 (.lst (ys.map V.str++[.str "nil",.str "nil"])));have hA:(upd (upd H' a1 (.lst [.str "nil",.str "nil"])) a2 (.lst (ys.map V.str++[.str "nil",.str "nil"]))) a2=some (.lst ((ys++[("nil":Str),"nil"]).map V.str)):=by rw[aa,A1];rfl
   obtain⟨v,hv,hvm⟩:=de (ys++[("nil":Str),"nil"]) (n:=7) (i:=m / 64) (by rw[Aj,hy5];rfl) (by decide);have e2:=e.trans t2;have LP2:=LP.grow t2;have hvm':v∈ys++[("nil":Str)]:=by
    rcases Ad.mp hvm with z|z
    . exact Ad.mpr (.inl z)
    . simp only[Ar,Ax,or_false,or_self] at z;rw[z];exact Ad.mpr (.inr (Ai.mpr rfl))
   generalize upd (upd H' a1 (.lst [.str "nil",.str "nil"])) a2 (.lst (ys.map V.str++[.str "nil",.str "nil"]))=H2 at t2 hA e2 LP2 |-;refine⟨_,rfl,_,_,rfl,rfl,(show CDiv _ 64 from⟨by decide,by decide⟩),_,rfl,l,_,rfl,.inl (SqL.of (t2 _ _ el)),_,_,rfl,rfl,?_⟩;rw[y5];refine⟨_,_,rfl,rfl,(show (0:Int)<7 by decide),a2,_,_,.str v,rfl,rfl,SqL.of hA,hv,?_⟩;obtain⟨ps,hps,hpsl,_⟩:=id LP2.at_;refine⟨_,rfl,.inl ⟨rfl,_,SqL.of hps⟩,(show 4<=GX by decide),fun a3 ha3=>?_⟩;have t3:=ad ha3 (.lst ([("not":Str),"not","is","not"].map V.str));obtain⟨wv,hw,hwm⟩:=oh (xs:=[("not":Str),"not","is","not"].map V.str) (i:=m % 4) b1 (by show m % 4<4;exact b2);obtain⟨wd,rfl,hwd⟩:∃wd:Str,wv=.str wd/\(wd="is" \/ wd="not"):=by
    obtain⟨y,hy,rfl⟩:=A3.mp hwm;refine⟨y,rfl,?_⟩;simp only[Ar,Ax,or_false] at hy;rcases hy with z|z|z|z
    . exact .inr z
    . exact .inr z
    . exact .inl z
    . exact .inr z
   refine⟨_,rfl,_,_,rfl,rfl,(show (0:Int)<4 by decide),a3,_,_,.str wd,rfl,rfl,SqL.of aa,hw,_,rfl,_,rfl,(show 3<=GX by decide),fun t ht=>?_⟩;have t4:=t3.trans (ad ht (.tup ([wd,u,v].map V.str)));refine⟨pl,_,.ref t,rfl,rfl,t4 _ _ hps,by rw[Ac];exact ft (by omega),?_⟩;exact⟨er hpl (e2.trans t4) _,(LP2.grow t4).app (t4 _ _ hps) (by omega) (r:=[wd,u,v]) (SqT.of aa) ⟨wd,u,v,rfl,hwd,Ad.mpr (.inl hum),hvm'⟩,_,_,_,_,rfl⟩
 . rintro σ H' ⟨e,LP,z4,z5,z6,z7,rfl⟩;obtain⟨Pt,hP,hP6,hPW⟩:=LP.rows;exact⟨_,rfl,q pl Pt H' e hpl hP (by omega) hPW⟩
end
abbrev mo:HF:=top 41
abbrev jz:HF:=top 42
theorem zh{α β:Type}{R:α->β->Prop}{as bs:List α}(h:bs.Perm as):∀{P:List β},HD R as P->∃S,HD R bs S/\S.Perm P:=by
 induction h with
 | nil=>intro P h;cases h;exact⟨[],.nil,.nil⟩
 | cons x _ ih =>
  intro P h;cases h with
  | cons h1 h2 =>
   obtain⟨S,g1,g2⟩:=ih h2;exact⟨_::S,.cons h1 g1,g2.cons _⟩
 | swap x y l =>
  intro P h;cases h with
  | cons h1 h2 =>
   cases h2 with
   | cons h3 h4=>exact⟨_::_::_,.cons h3 (.cons h1 h4),.swap ..⟩
 | trans _ _ ih1 ih2 =>
  intro P h;obtain⟨S,g1,g2⟩:=ih2 h;obtain⟨S',g3,g4⟩:=ih1 g1;exact⟨S',g3,g4.trans g2⟩
def r8(K:Aa):Sp:=fun vs H Q _=>∃(pl:GV) (c:Int) (P:List (List Str)),vs=[.ref pl,.int c]/\RowsAt K H pl P/\P.length<=15/\∀l S H',Same H H'->RowsAt K H' l S->S.Perm P->Q (.ref l) H'
theorem gb(rs:List (List Str)):AZ (rs.map dRow)<=1:=by
 have h2:∀r:List Str,AZ (gy r)<=0:=fun r=>by
  unfold gy;induction r with
  | nil=>simp only[BM,AZ];exact Ah _
  | cons x l ih=>simp only[AI,AZ,CD];exact Nat.max_le.mpr ⟨Ah _,ih⟩
 induction rs with
 | nil=>simp only[BM,AZ];omega
 | cons r l ih =>
  have:=h2 r;simp only[AI,AZ,dRow,CD];omega
def OkR(F:List (List Str)):Prop:=∀r∈F,∀y∈r,Ok y
def dT2(F P:List (List Str)):PyData:=.tuple [.list (F.map dRow),.list (P.map dRow)]
theorem T2At.dp{K:Aa}{H:Hp}{t:GV}{G S:List (List Str)}(h:T2At K H t G S):Dp K H (.ref t) (dT2 G S):=h.tell.dp
theorem a4t{F P G S:List (List Str)}(hF:OkR F)(hP:OkR P)(hG:OkR G)(hS:OkR S):EqOk (.list [dT2 F P,dT2 G S]):=by
 have one:∀{F P:List (List Str)},OkR F->OkR P->(dT2 F P).canLay0=true:=fun {F P} hF hP=>by
  unfold dT2;simp only[BZ,Bz,Be,and_true];have h1:=(lr hF).1;have h2:=(lr hP).1;simp only[BZ] at h1 h2;exact⟨h1,h2⟩
 constructor
 . simp only[BZ,Bz,Be,and_true];exact⟨one hF hP,one hG hS⟩
 . have h1:=gb F;have h2:=gb P;have h3:=gb G;have h4:=gb S;unfold dT2;simp only[CD,AZ];omega
def nq(K:Aa):Sp:=fun vs H Q _=>∃(o t:GV) (ws xs:List Str) (F P G S:List (List Str)),vs=[.ref o,.ref t]/\T2At K H o F P/\T2At K H t G S/\OkR F/\OkR P/\OkR G/\OkR S/\WdOk ws F P/\WdOk ws G S/\ws.length<=20/\Gd xs F P G S/\F.length<=50/\xs.length=6/\∀H',Same H H'->Q (.bl true) H'
section
variable{P:Gx}{w:G9}{K:Aa}{mg:Str->Option GQ}{base:HB}{f gM gF:GV}{fd dM dF:HA}
theorem scTurned:FnScope ["_law_parts","_law_cell","_law_found","_law_part"] ["_law_parts","_law_cell"] (ap mo):=⟨rfl,rfl,rfl,by decide,rfl,by decide,by decide⟩
theorem zn(C:Con K mg w)(F:Fun K "_law_turned" "_law_turned" mo f fd)(GM:FnOk P w K mg base CX0 1 gM dM ["_law_cell","_law_k"] gc)(cM:Cal K mg "_law_mixed" gM dM ["_law_cell","_law_k"]):FnOk P w K mg base CX0 2 f fd ["_law_parts","_law_cell"] (r8 K):=by
 refine F.okQ scTurned (fun vs H Q E h=>?_) (fun cdv A outer s0 H vs Q E hr h=>?_)
 . obtain⟨pl,c,P,rfl,_⟩:=h;rfl
 obtain⟨pl,c,Ps,rfl,⟨as,ha,hp⟩,hP15,q⟩:=h;have nd:=scTurned.nd;refine⟨_,ac (ak (i:=2) nd rfl (Or.inl rfl) (bn a0))
  (ac (cc AA rfl (cn (qv 0)) (bw (i:=3) nd rfl (Or.inl rfl)) (af (bq (cy (K:=K) rfl A0 PySem.F.slot_list_insert PySem.F.type_list_insert xl (qv 2) (ce (ai bb (bd GM hr rfl cM.name cM.keep cM.bind .nil ar (ae (qv 1) (ce (ai bu ab (bf bc rfl C.len AH (ae (qv 2) a0))) a0))) (ai bu (bf bc rfl C.len AH (ae (qv 2) a0)) ab)) (ae (qv 3) a0))))))
  (af (aw (qv 2)))),?_⟩
 have hal:=A8 hp;refine⟨(show 0<=GX by decide),fun l hl=>?_⟩;have s1:=ad hl (.lst []);refine⟨_,rfl,pl,rfl,⟨_,SqL.of (s1 _ _ ha)⟩,?_⟩;refine dm (xs:=as.map V.ref) (fun i σ H2=>∃(bs:List GV) (z:Option V),σ=[rQ pl,iQ c,rQ l,z]/\Same H H2/\H2 l=some (.lst (bs.map V.ref))/\bs.Perm (as.take i))
  ⟨[],none,rfl,s1,aa,.nil⟩ (fun i σ H2 _ pv=>by obtain⟨_,_,_,e2,_⟩:=pv;exact SqL.of (e2 _ _ ha)) ?_ ?_
 . rintro i v σ H2 hv ⟨bs,z,rfl,e2,hl2,hpm⟩;obtain⟨b,hb,rfl⟩:=ii hv;have hbl:=hpm.length_eq;rw[A2] at hbl;have hbml:(bs.map V.ref).length=bs.length:=Ac ..;refine⟨_,rfl,.inl ⟨rfl,_,SqL.of hl2⟩,_,rfl,_,rfl,l,_,rfl,.inl (SqL.of hl2),_,_,rfl,rfl,c,30+bs.length,(by rw[hbml];rfl),by omega,fun m hm=>?_⟩;refine⟨_,rfl,l,_,rfl,.inl (SqL.of hl2),_,_,rfl,rfl,_,_,rfl,rfl,(by rw[hbml];omega),_,rfl,?_⟩;rw[hbml];obtain⟨k,hk⟩:∃k:Nat,m % ((bs.length:Int)+1)=(k:Int):=⟨(m % ((bs.length:Int)+1)).toNat,by have:=AN m (show ((bs.length:Int)+1)≠0 by omega);omega⟩
   have hk2:k<=bs.length:=by have:=AS m (show (0:Int)<(bs.length:Int)+1 by omega);omega
   refine⟨l,_,k,.ref b,rfl,(by show[V.int (m % ((bs.length:Int)+1)),V.ref b]=_;rw[hk]),hl2,(by rw[hbml];exact hk2),(by rw[hbml];omega),?_⟩;refine⟨bs.take k++b::bs.drop k,_,rfl,er hl e2 _,?_,?_⟩
   . rw[aa];unfold insV;rw[A1,AI,Ce,Fb]
   . rw[AR,hb];refine (List.perm_middle).trans ?_;rw[List.take_append_drop];refine (List.Perm.cons b hpm).trans ?_;exact (List.perm_append_singleton b (as.take i)).symm
 . rintro σ H2 ⟨bs,z,rfl,e2,hl2,hpm⟩;rw[Ac,Bb] at hpm;obtain⟨S,g1,g2⟩:=zh hpm hp;exact⟨_,rfl,q l S H2 e2 ⟨bs,hl2,bp e2 g1⟩ g2⟩
theorem scFollows:FnScope ["_law_one","_law_other","_law_handed","_law_found"] ["_law_one","_law_other"] (ap jz):=⟨rfl,rfl,rfl,by decide,rfl,by decide,by decide⟩
theorem x6(C:Con K mg w)(F:Fun K "_law_follows" "_law_follows" jz f fd)(GF:FnOk P w K mg base CX0 39 gF dF ["one","other"] (lg K))(cF:Cal K mg "followed" gF dF ["one","other"]):FnOk P w K mg base CX0 40 f fd ["_law_one","_law_other"] (nq K):=by
 refine F.okQ scFollows (fun vs H Q E h=>?_) (fun cdv A outer s0 H vs Q E hr h=>?_)
 . obtain⟨o,t,ws,xs,F,P,G,S,rfl,_⟩:=h;rfl
 obtain⟨o,t,ws,xs,Fs,Ps,Gs,Ss,rfl,ho,ht,kF,kP,kG,kS,hw1,hw2,hwl,hG,hFl,hx6,q⟩:=h;have nd:=scFollows.nd;have hu:=AL (Fe (show 32<=64 by decide) _) hr.units;refine⟨_,ac (ak (i:=2) nd rfl (Or.inl rfl) (bn (c7 (bx (dj dv rfl C.list B1 (aq (ah aj (qv 0) ab (fun _ _=>rfl)) a0)) (bx (dj dv rfl C.list B1 (aq (ah aj (qv 0) ab (fun _ _=>rfl)) a0)) a0)) (c7 (bx (dj dv rfl C.list B1 (aq (ah aj (qv 1) ab (fun _ _=>rfl)) a0)) (bx (dj dv rfl C.list B1 (aq (ah aj (qv 1) ab (fun _ _=>rfl)) a0)) a0)) a0))))
  (ac (ak (i:=3) nd rfl (Or.inl rfl) (bd GF hr rfl cF.name cF.keep cF.bind .nil ar (aq (ah ba (qv 2) ab (fun _ _=>rfl)) (aq (ah ba (qv 2) ab (fun _ _=>rfl)) a0))))
  (ac (bi (QW.qt (gn (az (a65 hu) (qv 2) (bn (ae (qv 0) (ae (qv 1) a0))) (b0 _)) (gn (fg (cf (bf i3 rfl C.isi Cs (ae (qv 3) (ae ⟨gty C.tuple Ep⟩ a0))))) (ie (az gz (bf bc rfl C.len AH (ae (qv 3) a0)) ab (b0 _)))))) (af (aw jr)) be)
  (af (aw (j9 (bf qp rfl C.isi Cs (aq (ah aj (qv 3) ab (fun _ _=>rfl)) (ae ⟨gty C.str PyProof.Rows.boot_str⟩ a0))) (j9 (ff c3 (ah aj (qv 3) ab (fun _ _=>rfl)) bv (b0 _)) (i9 (bf i3 rfl C.isi Cs (aq (ah aj (qv 3) ab (fun _ _=>rfl)) (ae ⟨gty C.tuple Ep⟩ a0)))))))))),?_⟩
 obtain⟨fa,pa,ho1,ho2,ho3⟩:=id ho;obtain⟨ga,sa,ht1,ht2,ht3⟩:=id ht;obtain⟨fas,f1,f2⟩:=id ho2;obtain⟨pas,p1,p2⟩:=id ho3;obtain⟨gas,g1,g2⟩:=id ht2;obtain⟨sas,s1,s2⟩:=id ht3;refine⟨_,rfl,o,_,0,.ref fa,rfl,rfl,ho1,rfl,fa,_,rfl,.inl (SqL.of f1),fun l1 hl1=>?_⟩;have a1:=ad hl1 (.lst (fas.map V.ref));have q1:=aa (H:=H) (a:=l1) (o:=.lst (fas.map V.ref));generalize upd H l1 (.lst (fas.map V.ref))=H1 at a1 q1 |-;refine⟨_,rfl,o,_,1,.ref pa,rfl,rfl,a1.seqT ho1,rfl,pa,_,rfl,.inl (SqL.of (a1 _ _ p1)),fun l2 hl2=>?_⟩;have a2:=ad hl2 (.lst (pas.map V.ref));have q2:=aa (H:=H1) (a:=l2) (o:=.lst (pas.map V.ref));generalize upd H1 l2 (.lst (pas.map V.ref))=H2 at a2 q2 |-;refine⟨(show 2<=GX by decide),fun t1 ht1'=>?_⟩;have a3:=ad ht1' (.tup [.ref l1,.ref l2]);have q3:=aa (H:=H2) (a:=t1) (o:=.tup [.ref l1,.ref l2]);generalize upd H2 t1 (.tup [.ref l1,.ref l2])=H3 at a3 q3 |-;have e3:=a1.trans (a2.trans a3);have T1:T2At K H3 t1 Fs Ps:=⟨l1,l2,SqT.of q3,⟨fas,a3 _ _ (a2 _ _ q1),bp e3 f2⟩,⟨pas,a3 _ _ q2,bp e3 p2⟩⟩
 refine⟨_,rfl,t,_,0,.ref ga,rfl,rfl,e3.seqT ht1,rfl,ga,_,rfl,.inl (SqL.of (e3 _ _ g1)),fun l4 hl4=>?_⟩;have a4:=ad hl4 (.lst (gas.map V.ref));have q4:=aa (H:=H3) (a:=l4) (o:=.lst (gas.map V.ref));generalize upd H3 l4 (.lst (gas.map V.ref))=H4 at a4 q4 |-;refine⟨_,rfl,t,_,1,.ref sa,rfl,rfl,(e3.trans a4).seqT ht1,rfl,sa,_,rfl,.inl (SqL.of ((e3.trans a4) _ _ s1)),fun l5 hl5=>?_⟩;have a5:=ad hl5 (.lst (sas.map V.ref));have q5:=aa (H:=H4) (a:=l5) (o:=.lst (sas.map V.ref));generalize upd H4 l5 (.lst (sas.map V.ref))=H5 at a5 q5 |-;refine⟨(show 2<=GX by decide),fun t2 ht2'=>?_⟩;have a6:=ad ht2' (.tup [.ref l4,.ref l5]);have q6:=aa (H:=H5) (a:=t2) (o:=.tup [.ref l4,.ref l5]);generalize upd H5 t2 (.tup [.ref l4,.ref l5])=H6 at a6 q6 |-;have e36:=a4.trans (a5.trans a6);have e6:=e3.trans e36;have T2:T2At K H6 t2 Gs Ss:=⟨l4,l5,SqT.of q6,⟨gas,a6 _ _ (a5 _ _ q4),bp e6 g2⟩,⟨sas,a6 _ _ q5,bp e6 s2⟩⟩
 refine⟨(show 2<=GX by decide),fun D hD=>?_⟩;have a7:=ad hD (.lst [.ref t1,.ref t2]);have q7:=aa (H:=H6) (a:=D) (o:=.lst [.ref t1,.ref t2]);show c8 2 (V.ref D) _ (upd H6 D (.lst [.ref t1,.ref t2])) _;generalize upd H6 D (.lst [.ref t1,.ref t2])=H7 at a7 q7 |-;have T17:=T1.same (e36.trans a7);have T27:=T2.same a7;have e7:=e6.trans a7;refine⟨_,rfl,D,_,0,.ref t1,rfl,rfl,SqL.of q7,rfl,_,rfl,D,_,1,.ref t2,rfl,rfl,SqL.of q7,rfl,t1,t2,ws,xs,Fs,Ps,Gs,Ss,rfl,T17,T27,hw1,hw2,hwl,hG,hFl,hx6,fun tt H8 e8 p8=>?_⟩;obtain⟨z,zs,z1,z2⟩:=p8;have e08:=e7.trans e8;refine⟨_,rfl,_,rfl,_,rfl,(show 2<=GX by decide),fun L hL=>?_⟩;have a9:=ad hL (.lst [.ref o,.ref t]);have ok:=a4t kF kP kG kS;refine⟨.list [dT2 Fs Ps,dT2 Gs Ss],.list [dT2 Fs Ps,dT2 Gs Ss],.lst (SqL.of (a9 _ _ (e8 _ _ q7))) (.cons (T17.same (e8.trans a9)).dp (.cons (T27.same (e8.trans a9)).dp .nil)),.lst (SqL.of aa) (.cons (ho.same (e08.trans a9)).dp (.cons (ht.same (e08.trans a9)).dp .nil)),ok,ok,?_⟩;rw[PySem.SeqAt.eqv_refl _ ok.1];refine⟨_,rfl,?_⟩;have e09:=e08.trans a9;have z1':=a9 _ _ z1;have z2':=a9 _ _ z2;generalize upd H8 L (.lst [.ref o,.ref t])=H9 at z1' z2' e09 |-;refine⟨_,rfl,tt,_,rfl,SqT.of z1',_,rfl,?_⟩;refine⟨_,rfl,tt,_,rfl,.inr (SqT.of z1'),rfl,_,rfl,?_⟩;refine⟨_,rfl,tt,_,0,.str "paper",rfl,rfl,SqT.of z1',rfl,"paper",rfl,_,rfl,?_⟩;refine⟨_,rfl,tt,_,0,.str "paper",rfl,rfl,SqT.of z1',rfl,rfl,_,rfl,?_⟩;exact⟨_,rfl,tt,_,1,.ref z,rfl,rfl,SqT.of z1',rfl,z,_,rfl,SqT.of z2',q H9 e09⟩
end
end K31
namespace L2
open PyProof.Rows
def uj(K:Aa)(J:It)(H1:Hp)(σ:St)(ix:List Nat)(tc:TT)(te:TE)(Q:VK):Prop:=∀D,H1 D=none->
 ∃W:Nat->Nat->Hp->Prop,(∃m,W 0 m (upd H1 D (.lst [])))/\∀i m H,W i m H->
  (J.stop i H/\Q (.ref D) H)\/(J.go i H/\∀x H',J.yld i H x H'->∃p a b c,x=.ref p/\SqT K H' p [a,b,c]/\tc (some a::some b::some c::br σ ix) H' fun k H2 =>
   if k=true then te (some a::some b::some c::br σ ix) H2 fun y H3=>∃ys,H3 D=some (.lst ys)/\ys.length<GX/\∃m',m'<m/\W (i+1) m' (upd H3 D (.lst (ys++[y])))
   else ∃m',m'<m/\W (i+1) m' H2)
def yg(K:Aa)(ix:List Nat)(wi:TI)(tc:TT)(te:TE):TE:=fun σ H Q=>wi σ H fun J H1=>uj K J H1 σ ix tc te Q
section
variable{X:Cx}
theorem a0c{pins:List (GV×Obj)}{σ:St}{H:Hp}{s:GW}{N:List Str}{x x2 x3:Str}{sc:Scope}{cl:List (Str×GV)}{fp:List GV}{ix:List Nat}{h1:HB}{m:Str->Option GQ}{tk:Nat}(I:Inv X pins σ H s)(hkind:sc.kind=.function)(hN:N=x::x2::x3::ix.map fun j=>(X.N[j]?).getD "")(hsub:∀y c,cl.lookup y=some c->X.env.cells.lookup y=some c)(hhas:∀y,((HH sc X.env).names.lookup y=some .cell\/(HH sc X.env).names.lookup y=some .free)->∃c,cl.lookup y=some c)(hix:∀j∈ix,∃y,X.N[j]?=some y/\X.env.kindOf y=some .cell/\(HH sc X.env).names.lookup y=some .cell)(hfp:∀b∈fp,FpOk X pins H b)(hlt:∀b∈fp,b<s.heap.objs.size)(hns:h1.Ns s.heap.objs.size m)(hk:∀b o,s.heap.get? b=some o->h1.get? b=some o):
 Inv (blk X N s H sc cl s.heap.objs.size fp) [] (none::none::none::br σ ix) H {s with heap:=h1,toks:=tk}:=by
 have fresh:H s.heap.objs.size=none:=I.hok.fresh (Ah _);refine⟨⟨I.ok.mod,hkind,I.ok.glob,I.ok.blt,Ah _,fun y z c h1 h2=>I.ok.inj y z c (hsub y c h1) (hsub z c h2),fun y hy=>hhas y hy,fun y c z _=>absurd (show false=true from z) (by decide),I.ok.hd,I.ok.frames,.inl rfl,
  fun b hb=>⟨Aw (hlt b hb),fun y c e=>(hfp b hb).2.2.2.2.1 y c (hsub y c e)⟩,I.bs,AB I.ok.bsz I.sz,fun b o e hb=>?_,fun b hb z=>?_,I.stack,I.stkFree⟩,
  rfl,I.bare,Un.kept hk,⟨m,hns,fun i y v e1 e2 e3=>?_⟩,fun y c e=>?_,fresh,fun y c e=>I.freeC y c (hsub y c e),fun p hp=>absurd (show p∈([]:List (GV×Obj)) from hp) (by simp),I.hok.kept hk,?_⟩
 . rcases (hfp b hb).2.2.2.1 with z|z
   . exact I.ok.noex b o e z
   . exact absurd (A4 (Ao e) (AB I.ok.bsz z)) (Bi _)
 . rcases Ar.mp (I.stkSub b z) with q|q
   . exact (hfp b hb).2.1 q
   . exact (hfp b hb).2.2.1 q
 . cases i with
   | zero =>
    have e2':(some none:Option (Option V))=some (some v):=e2;cases e2'
   | succ i =>
    cases i with
    | zero =>
     have e2':(some none:Option (Option V))=some (some v):=e2;cases e2'
    | succ i =>
     cases i with
     | zero =>
      have e2':(some none:Option (Option V))=some (some v):=e2;cases e2'
     | succ i =>
      have e2':(br σ ix)[i]?=some (some v):=by simpa using e2
      unfold br at e2';rw[Al] at e2';cases q:ix[i]? with
      | none=>rw[q] at e2';cases e2'
      | some j =>
       rw[q] at e2';have e3':(σ[j]?).getD none=some v:=by simpa using e2'
       have e4:σ[j]?=some (some v):=by
        cases q2:σ[j]? with
        | none=>rw[q2] at e3';cases e3'
        | some w=>rw[q2] at e3';simpa using e3'
       obtain⟨y',hy,hc,hr⟩:=hix j (Au q);have ey:y'=y:=by
        have e1':N[i+1+1+1]?=some y:=e1;rw[hN,BA,BA,BA,Al,q] at e1';have:=Ap e1';simpa [hy] using this
       subst ey;obtain⟨m0,hn0,hl0⟩:=I.loc;obtain⟨u,r,l⟩:=hl0 j y' v hy e4 (.inr (.inl hc));refine⟨u,r,.inr ⟨.inl hr,?_⟩⟩;rcases l with⟨k,_⟩|⟨_,c,ec,ic⟩
       . rw[hc] at k;cases k
       . obtain⟨c',ec'⟩:=hhas y' (.inl hr);have:=hsub y' c' ec';rw[ec] at this;cases this;obtain⟨o,ho,hd⟩:=ic;exact⟨c,ec',o,hk c o ho,hd⟩
 . obtain⟨v,o,ho,hd⟩:=I.cell y c (hsub y c e);exact⟨v,o,hk c o ho,hd⟩
 . show (none::none::none::br σ ix).length=N.length;rw[hN];simp[br]
theorem a0i{elt iter:Expr}{x x2 x3:Str}{px px2 px3 ptt pos:Pos}{kt:Nat}{ifs:List Expr}{sc:Scope}{cl:List (Str×GV)}{ix:List Nat}{wi:TI}{tc:TT}{te:TE}(N:List Str)(hc:X.calm=true)(hi:PI X (.Tuple [.Name x px,.Name x2 px2,.Name x3 px3] kt ptt) iter wi)(hif:∀s H C ex,PTs (blk X N s H sc cl C ex) ifs tc)(he:∀s H C ex,PE (blk X N s H sc cl C ex) elt te)(hkind:sc.kind=.function)(hN:N=x::x2::x3::ix.map fun j=>(X.N[j]?).getD "")(hnd:N.Nodup)(hx:sc.names.lookup x=some .local)(hx2:sc.names.lookup x2=some .local)(hx3:sc.names.lookup x3=some .local)(hcl:closureFor sc X.env=pure cl)(hcell:∀y∈sc.names,y.2≠.cell)(hnames:∀y∈sc.names,y.2=.local->sc.names.lookup y.1=some .local)(hsub:∀y c,cl.lookup y=some c->X.env.cells.lookup y=some c)(hhas:∀y,((HH sc X.env).names.lookup y=some .cell\/(HH sc X.env).names.lookup y=some .free)->∃c,cl.lookup y=some c)(hix:∀j∈ix,∃y,X.N[j]?=some y/\X.env.kindOf y=some .cell/\(HH sc X.env).names.lookup y=some .cell)(hs:∀x,HE iter X.env x=pure x:=by intro _;rfl):
 PE X (.ListComp elt [⟨.Tuple [.Name x px,.Name x2 px2,.Name x3 px3] kt ptt,iter,ifs,0⟩] sc pos) (yg X.K ix wi tc te):=by
 intro pins s σ H Q I h;rw[eval_ListComp];refine DX (use:=none) rfl hs hcl hkind hnames (thn (hi pins s σ H _ I h) fun v s1 h1=>thn h1 fun itv s2 h2=>?_);obtain⟨it,fp,tn,J,H2,e,I2,T,st2,f2,q2⟩:=h2;subst e;have fr2:H2 s2.heap.objs.size=none:=I2.hok.fresh (Ah _);obtain⟨W,⟨m0,w0⟩,turn⟩:=q2 s2.heap.objs.size fr2;refine AJ ?_;have I3:Inv X pins σ (upd H2 s2.heap.objs.size (.lst [])) {s2 with heap:=s2.heap.push {cls:=.type "list",dict:=none,data:=.seq ([]:List GQ).toArray}}:=by
  exact I2.lnew (its:=[]) (ys:=[]) (t':=s2.toks) .nil (A5 _)
 have lt2:∀b∈fp,b<s2.heap.objs.size:=fun b hb=>by
  obtain⟨o,ho,_⟩:=T.obj _ _ st2 b hb;exact Ao ho
 have f3:∀b∈fp,FpOk X pins (upd H2 s2.heap.objs.size (.lst [])) b:=fun b hb=>⟨by rw[ag (Aw (lt2 b hb))];exact (f2 b hb).1,(f2 b hb).2⟩
 generalize hs3:({s2 with heap:=s2.heap.push {cls:=.type "list",dict:=none,data:=.seq ([]:List GQ).toArray}}:GW)=s3 at I3;have hsz3:s2.heap.objs.size<=s3.heap.objs.size:=by rw[<- hs3];show _<=(s2.heap.push _).objs.size;rw[Bj];exact CL _
 have tn3:tn 0 s3.heap:=T.keep _ _ _ st2 fun b _ o e=>by rw[<- hs3];exact Ag _ e
 have lt3:∀b∈fp,b<s3.heap.objs.size:=fun b hb=>A4 (lt2 b hb) hsz3;refine ET hcell (by intro y hy;simp at hy) (fun h4 hns4 hsb4=>?_) hkind;have old:∀b o,s3.heap.get? b=some o->h4.get? b=some o:=fun b o e=>hsb4.extBut b o (Aw (Ao e)) (Ag _ e);have I4:=a0c (m:=_) (tk:=s3.toks+([]:List (Str×GQ)).length) (N:=N) I3 hkind hN hsub hhas hix f3 lt3 hns4 old;have tn4:tn 0 h4:=T.keep _ _ _ tn3 fun b _ o e=>old b o e;have fpB:∀{H':Hp},(∀b∈fp,H' b=none)->∀b∈fp,FpOk (blk X N s3 (upd H2 s2.heap.objs.size (.lst [])) sc cl s3.heap.objs.size fp) [] H' b:=fun {H'} hn b hb =>
  ⟨hn b hb,Aw (lt3 b hb),I4.ok.exfs b hb,.inl hb,fun y c e=>(I4.ok.exf b hb).2 y c e,fun p hp=>absurd (show p∈([]:List (GV×Obj)) from hp) (by simp)⟩
 have loop:HP (Gy X.prog X.w) X.A (.compLoop (.ListComp elt [⟨.Tuple [.Name x px,.Name x2 px2,.Name x3 px3] kt ptt,iter,ifs,0⟩] sc pos) 0 (.ref it) (.ref s2.heap.objs.size) (compEnvC sc cl s3.heap.objs.size X.env))
  (compPost (Gy X.prog X.w) X.A X.xe none (EP X pins σ Q) (.ref s2.heap.objs.size) s3.heap.objs.size) {s3 with heap:=h4,toks:=s3.toks+([]:List (Str×GQ)).length}:=by
  refine ju (fun n s'=>∃i v0 v1 v2 H',Inv (blk X N s3 (upd H2 s2.heap.objs.size (.lst [])) sc cl s3.heap.objs.size fp) [] (v0::v1::v2::br σ ix) H' s'/\tn i s'.heap/\(∀b∈fp,H' b=none)/\W i n H') ?_ m0
   ⟨0,none,none,none,_,I4,tn4,fun b hb=>(f3 b hb).1,w0⟩
  rintro n s5 ⟨i,v0,v1,v2,H5,I5,st5,fr5,w5⟩;rcases turn i n H5 w5 with⟨stop,qn⟩|⟨go,step⟩
  . refine thn (T.done (blk X N s3 (upd H2 s2.heap.objs.size (.lst [])) sc cl s3.heap.objs.size fp) rfl rfl rfl hc i [] s5 _ H5 _ I5 (fpB fr5) st5 stop) fun r s6 ⟨hr,I6⟩=>?_;subst hr;obtain⟨mm,hm,_⟩:=I6.loc;refine⟨mm,hm,fun h7 sb7=>?_⟩;have I7:Inv X pins σ H5 {s6 with heap:=h7}:=by
     have hC:H5 s3.heap.objs.size=none:=I6.free;have hc3:s3.heap.get? s3.heap.objs.size=none:=Da (Ah _);have up:∀b o,b≠s3.heap.objs.size->s6.heap.get? b=some o->h7.get? b=some o:=fun b o hb e=>sb7.extBut b o hb e;have neC:∀b o,s3.heap.get? b=some o->b≠s3.heap.objs.size:=fun b o e=>Aw (Ao e);have u:=I6.base;refine I3.call' (s':={s6 with heap:=h7}) (ch:=fp) I6.os ⟨fun b o e n hb hx=>?_,fun b o e n hb hx=>?_,fun b o e n hx=>u.free b o e n hx,fun b o e hx=>?_,u.tups,u.frzs,u.tbls⟩ (fun b o e=>?_) I6.bare fun b hb=>⟨(f3 b hb).2.2.2.1,(f3 b hb).2.1,(f3 b hb).2.2.2.2.1,(f3 b hb).2.2.2.2.2⟩
     . exact up b o (neC b o e) (u.keep b o e n hb hx)
     . obtain⟨sl,e1⟩:=u.slot b o e n hb hx;exact⟨sl,up b _ (neC b o e) e1⟩
     . obtain⟨o',e1⟩:=u.there b o e hx;exact⟨o',up b _ (neC b o e) e1⟩
     . refine (I6.hok b o e).stay (fun c v hc' q=>up c v ?_ q) (fun _ q=>q) fun _ _ q=>q;rintro rfl;rcases hc' with z|z
       . rw[<- z,hC] at e;cases e
       . rw[hC] at z;cases z
    exact⟨.ref s2.heap.objs.size,H5,I7,rfl,qn⟩
  . refine thn (T.item (blk X N s3 (upd H2 s2.heap.objs.size (.lst [])) sc cl s3.heap.objs.size fp) rfl rfl rfl hc i [] s5 _ H5 _ I5 (fpB fr5) st5 go) fun r s6 ⟨u,hr,h6⟩=>?_;subst hr;refine thn h6 fun _ s7 ⟨y,H7,I7,r7,y7,st7,fr7⟩=>?_;have I7':=I7.pinned (fpB fr7) (T.obj _ _ st7);obtain⟨pp,ya,yb,yc,rfl,hpp,step7⟩:=step y H7 y7;have hPG:PG (blk X N s3 (upd H2 s2.heap.objs.size (.lst [])) sc cl s3.heap.objs.size fp) (.Tuple [.Name x px,.Name x2 px2,.Name x3 px3] kt ptt) (gTup X.K 3 (jm (c8 0) (jm (c8 1) (jm (c8 2) gNil)))) :=
     xz hc (gi (i5 (i:=0) hnd (by show N[0]?=some x;rw[hN];rfl) (.inl (Bp hx)) (.inr (Bp hx))) (gi (i5 (i:=1) hnd (by show N[1]?=some x2;rw[hN];rfl) (.inl (Bp hx2)) (.inr (Bp hx2))) (gi (i5 (i:=2) hnd (by show N[2]?=some x3;rw[hN];rfl) (.inl (Bp hx3)) (.inr (Bp hx3))) va)))
    refine thn (hPG _ s7 _ H7 (.ref pp) _ (fun σ' H'=>σ'=some ya::some yb::some yc::br σ ix/\H'=H7) I7' r7 ⟨pp,_,rfl,hpp,rfl,_,_,rfl,_,_,rfl,_,_,rfl,rfl,rfl,rfl⟩) fun _ s8 ⟨σ8,H8,I8,eσ,eH⟩=>?_;subst eσ eH;refine thn (hif _ _ _ _ _ s8 _ H8 _ I8 step7) fun ok s9 ⟨H9,I9,q9⟩=>?_;have again:∀{H':Hp} {s':GW} {m':Nat},Inv (blk X N s3 (upd H2 s2.heap.objs.size (.lst [])) sc cl s3.heap.objs.size fp) ([]++gg fp s7.heap) (some ya::some yb::some yc::br σ ix) H' s'->m'<n->W (i+1) m' H'->
     ∃m,m<n/\∃i v0 v1 v2 H',Inv (blk X N s3 (upd H2 s2.heap.objs.size (.lst [])) sc cl s3.heap.objs.size fp) [] (v0::v1::v2::br σ ix) H' s'/\tn i s'.heap/\(∀b∈fp,H' b=none)/\W i m H':=fun {H' s' m'} Ia hm wa=>by
     refine⟨m',hm,i+1,some ya,some yb,some yc,H',Ia.unpinned,T.keep _ _ _ st7 fun b hb o e=>(Ia.pin (b,o) (AG _ (AG _ (eh hb e)))).1,fun b hb=>?_,wa⟩;obtain⟨o,e,d⟩:=T.obj _ _ st7 b hb;exact (Ia.pin (b,o) (AG _ (AG _ (eh hb e)))).2.1
    cases ok with
    | false =>
     rw[if_neg Aq] at q9 |-;obtain⟨m',hm,wa⟩:=q9;exact again I9 hm wa
    | true =>
     rw[if_pos rfl] at q9 |-;refine thn (he _ _ _ _ _ s9 _ H9 _ I9 q9) fun v10 s10 ⟨z,H10,I10,r10,ys,hD,hl,m',hm,wa⟩=>?_;exact thn (bz _ s10 _ H10 (.ref s2.heap.objs.size) [z] (.ref s2.heap.objs.size) [v10] (fun _ H'=>H'=upd H10 s2.heap.objs.size (.lst (ys++[z]))) I10 rfl (.cons r10 .nil) ⟨_,ys,z,rfl,rfl,hD,hl,rfl⟩)
      fun _ s11 ⟨_,H11,I11,_,e11⟩=>again I11 hm (by rw[e11];exact wa)
 subst hs3;exact E3 loop (T.self _ 0 _ _ _ tn4 loop)
theorem a04{X:Cx}{elt iter:Expr}{x x2 x3:Str}{px px2 px3 ptt pos:Pos}{kt:Nat}{ifs:List Expr}{sc:Scope}{cl:List (Str×GV)}{wi:TI}{tc:TT}{te:TE}{K:Aa}(hK:X.K=K)(N:List Str)(ix:List Nat)(hi:QI X (.Tuple [.Name x px,.Name x2 px2,.Name x3 px3] kt ptt) iter wi)(hif:∀s H C ex,QTs (blk X N s H sc cl C ex) ifs tc)(he:∀s H C ex,QE (blk X N s H sc cl C ex) elt te)(hcl:closureFor sc X.env=pure cl:=by rfl)(hcs:ClIn X.env.cells cl:=by repeat' first|with_unfolding_all rfl|constructor)(hN:N=x::x2::x3::ix.map (fun j=>(X.N[j]?).getD ""):=by rfl)(hnd:N.Nodup:=by decide)(hkm:cl.map (·.1)=N.tail.tail.tail:=by rfl)(hkB:((HH sc X.env).names.all fun y=>(match y.2 with|.cell=>false|.free=>false|_=>true) || decide (y.1∈N.tail.tail.tail))=true:=by with_unfolding_all rfl)(hix:IxIn X sc ix:=by repeat' first|with_unfolding_all rfl|constructor)(hx:sc.names.lookup x=some .local:=by decide)(hx2:sc.names.lookup x2=some .local:=by decide)(hx3:sc.names.lookup x3=some .local:=by decide)(hcell:∀z∈sc.names,z.2≠.cell:=by decide)(hnames:∀z∈sc.names,z.2=.local->sc.names.lookup z.1=some .local:=by decide)(hc:X.calm=true:=by rfl)(hkind:sc.kind=.function:=by rfl)(hs:∀x,HE iter X.env x=pure x:=by intro _;rfl):
 QE X (.ListComp elt [⟨.Tuple [.Name x px,.Name x2 px2,.Name x3 px3] kt ptt,iter,ifs,0⟩] sc pos) (yg K ix wi tc te):=by
 subst hK;exact⟨a0i N hc hi.run (fun s H C ex=>(hif s H C ex).run) (fun s H C ex=>(he s H C ex).run) hkind hN hnd hx hx2 hx3 hcl hcell hnames (sr hcs.all) (qd hkm hkB) hix.all hs⟩
end
theorem vp{K:Aa}{J:It}{H1:Hp}{σ:St}{ix:List Nat}{tc:TT}{te:TE}{Q:VK}{I0:Hp->Prop}(as:List GV)(rs:List (List Str))(p:List Str->Bool)(g:List Str->List Str)(hJ:JSeq J I0 (as.map V.ref))(h0:I0 H1)(hz:as.length<=1000)(hp:HD (fun b r=>RowAt K H1 b r) as rs)(h3:∀r∈rs,∃a b c,r=[a,b,c])(hc:∀a b c,[a,b,c]∈rs->∀H2,Same H1 H2->∀Q':Bool->Hp->Prop,(∀H3,Same H2 H3->Q' (p [a,b,c]) H3)->tc (some (.str a)::some (.str b)::some (.str c)::br σ ix) H2 Q')(he:∀a b c,[a,b,c]∈rs->∀H2,Same H1 H2->∀Q':VK,(∀t H3,Same H2 H3->H3 t=some (.tup ((g [a,b,c]).map V.str))->Q' (.ref t) H3)->te (some (.str a)::some (.str b)::some (.str c)::br σ ix) H2 Q')(hQ:∀D H' bs,H1 D=none->Same H1 H'->H' D=some (.lst (bs.map V.ref))->HD (fun b r=>RowAt K H' b r) bs ((rs.filter p).map g)->Q (.ref D) H'):uj K J H1 σ ix tc te Q:=by
 intro D hD;have put:∀H ys,Same H1 H->Same H1 (upd H D (.lst ys)):=fun H ys e b u q=>by rw[ag (ax q hD)];exact e b u q
 have hl:=A8 hp;have rk:∀{H:Hp} {b:GV} {r:List Str} {ys zs:List V},H D=some (.lst ys)->RowAt K H b r->RowAt K (upd H D (.lst zs)) b r:=fun {H b r ys zs} hd h=>by
  rcases h with (z|⟨o,z⟩)|z
  . exact .inl (.inl (by rw[ag (db z hd (fun z=>nomatch z))];exact z))
  . exact .inl (.inr ⟨o,by rw[ag (db z hd (fun z=>nomatch z))];exact z⟩)
  . exact .inr z
 refine⟨fun i m H=>i<=as.length/\m=as.length-i/\Same H1 H/\∃bs:List GV,H D=some (.lst (bs.map V.ref))/\bs.length<=i/\HD (fun b r=>RowAt K H b r) bs (((rs.take i).filter p).map g),⟨as.length,A5 _,rfl,put _ _ (Same.refl _),[],aa,Ah _,by rw[B5];exact .nil⟩,?_⟩;rintro i m H ⟨hi,rfl,e,bs,hD2,hbl,hpb⟩;have hI:=hJ.stay _ _ h0 e;have hml:(as.map V.ref).length=as.length:=Ac ..;by_cases hlt:i<as.length
 . refine .inr ⟨hJ.go i H hI (by omega),fun x H' hy'=>?_⟩;obtain⟨rfl,hx⟩:=hJ.yld i H x H' (by omega) hI hy';have ha:as[i]?=some as[i]:=Ae hlt;obtain rfl:x=.ref as[i]:=by rw[Al,ha] at hx;exact (Ap hx).symm
   have hr:rs[i]?=some rs[i]:=Ae (by omega);have hrm:=Au hr;have hrow:RowAt K H1 as[i] rs[i]:=by
    have:∀{as:List GV} {rs:List (List Str)},HD (fun b r=>RowAt K H1 b r) as rs->∀(i:Nat) (a:GV) (r:List Str),as[i]?=some a->rs[i]?=some r->RowAt K H1 a r:=by
     intro as rs h;induction h with
     | nil=>intro i a r h;simp at h
     | cons h1 h2 ih =>
      intro i a r e1 e2;cases i with
      | zero=>cases e1;cases e2;exact h1
      | succ i=>exact ih i a r (by simpa using e1) (by simpa using e2)
    exact this hp i _ _ ha hr
   have ht:rs.take (i+1)=rs.take i++[rs[i]]:=by rw[AR,hr];rfl
   obtain⟨a,b,c,e3⟩:=h3 _ hrm;rw[e3] at hrow hrm ht;refine⟨as[i],.str a,.str b,.str c,rfl,e.seqT hrow,hc a b c hrm _ e _ fun H3 e3=>?_⟩;cases hpx:p [a,b,c] with
   | false =>
    rw[if_neg Aq];refine⟨as.length-(i+1),by omega,hlt,rfl,e.trans e3,bs,e3 _ _ hD2,by omega,?_⟩;rw[ht,CB];simp only[CS,hpx,Dl,Cf,AY,if_false];exact Paired.mapP hpb fun b r z=>z.same e3
   | true =>
    rw[if_pos rfl];refine he a b c hrm _ (e.trans e3) _ fun t H4 e4 ht4=>?_;have hD4:=e4 _ _ (e3 _ _ hD2);refine⟨bs.map V.ref,hD4,by rw[Ac];exact AL (show bs.length<=1000 by omega) (by decide),as.length-(i+1),by omega,hlt,rfl,put _ _ (e.trans (e3.trans e4)),bs++[t],by rw[aa,A1];rfl,by rw[Aj,AD];omega,?_⟩;rw[ht,CB];simp only[CS,hpx,Dl,if_true,A1,AI,BM];exact Paired.snocP (Paired.mapP hpb fun b r z=>rk hD4 ((z.same e3).same e4)) (rk hD4 (SqT.of ht4))
 . have hi':i=as.length:=by omega
   subst hi';refine .inl ⟨hJ.stop _ H hI (by omega),hQ D H bs hD e hD2 ?_⟩;rw[Bf (by omega)] at hpb;exact hpb
end L2
namespace K31
open L2 Mir Kn
theorem a0r{k:Str}(h:k="is" \/ k="not"):Ok k:=by
 rcases h with rfl|rfl
 . exact (show (PyData.str "is").canLay0=true by decide)
 . exact (show (PyData.str "not").canLay0=true by decide)
theorem PoolRow.fact{xs:List Str}{r:List Str}(h:PoolRow xs r):c5 r:=by
 obtain⟨k,u,v,h1,h2,_,_⟩:=h;exact⟨k,u,v,h1,h2⟩
theorem PoolRow.ok{xs:List Str}(hx:∀x∈xs,Ok x){r:List Str}(h:PoolRow xs r):∀y∈r,Ok y:=by
 obtain⟨k,u,v,rfl,h2,h3,h4⟩:=h;intro y hy;simp only[Ar,Ax,or_false] at hy;rcases hy with rfl|rfl|rfl
 . exact a0r h2
 . exact hx _ h3
 . exact hx _ h4
theorem PoolPart.ok{xs:List Str}(hx:∀x∈xs,Ok x){r:List Str}(h:PoolPart xs r):∀y∈r,Ok y:=by
 have ha:∀{f:Str},(f∈xs\/f="any")->Ok f:=fun {f} z=>by
  rcases z with z|rfl
  . exact hx _ z
  . exact (show (PyData.str "any").canLay0=true by decide)
 rcases h with⟨a,f,s,rfl,h1,h2,h3⟩|⟨a,b,rfl,h1,h2⟩|⟨a,rfl,h1⟩
 . intro y hy;simp only[Ar,Ax,or_false] at hy;rcases hy with rfl|rfl|rfl|rfl
   . exact (show (PyData.str "cell").canLay0=true by decide)
   . exact hx _ h1
   . exact ha h2
   . exact ha h3
 . intro y hy;simp only[Ar,Ax,or_false] at hy;rcases hy with rfl|rfl|rfl
   . exact (show (PyData.str "stretch").canLay0=true by decide)
   . exact hx _ h1
   . exact hx _ h2
 . intro y hy;simp only[Ar,Ax,or_false] at hy;rcases hy with rfl|rfl
   . exact (show (PyData.str "tree").canLay0=true by decide)
   . exact hx _ h1
theorem PoolPart.row{xs:List Str}{r:List Str}(h:PoolPart xs r):PartRow r:=by
 rcases h with⟨a,f,s,h,_⟩|⟨a,b,h,_⟩|⟨a,h,_⟩
 . exact .inl ⟨a,f,s,h⟩
 . exact .inr (.inl ⟨a,b,h⟩)
 . exact .inr (.inr ⟨a,h⟩)
theorem PoolPart.place{xs:List Str}{r:List Str}(h:PoolPart xs r):place r∈xs:=by
 rcases h with⟨a,f,s,rfl,h,_⟩|⟨a,b,rfl,h,_⟩|⟨a,rfl,h⟩<;>exact h
theorem PoolPart.end2{xs:List Str}(hn:("nil":Str)∈xs){r:List Str}(h:PoolPart xs r):end2 r∈xs:=by
 rcases h with⟨a,f,s,rfl,h1,_⟩|⟨a,b,rfl,h1,h2⟩|⟨a,rfl,h1⟩
 . have:Kn.end2 [("cell":Str),a,f,s]="nil" := if_neg (show ¬ ("cell":Str)="stretch" by decide);rw[this];exact hn
 . have:Kn.end2 [("stretch":Str),a,b]=b:=if_pos rfl;rw[this];exact h2
 . have:Kn.end2 [("tree":Str),a]="nil" := if_neg (show ¬ ("tree":Str)="stretch" by decide);rw[this];exact hn
structure Xs(xs:List Str):Prop where
 len:xs.length=6
 ok:∀x∈xs,Ok x
 sh:∀x∈xs,vz x
 na:∀x∈xs,¬ x="any"
 nil:("nil":Str)∈xs
theorem a7b{ys:List Str}(h5:ys.length=5)(h:∀x∈ys,Nm 40 x/\¬ x∈Mir.noNames):Xs (ys++[("nil":Str)]):=by
 have sp:∀{Pr:Str->Prop},(∀x∈ys,Pr x)->Pr "nil" -> ∀x∈ys++[("nil":Str)],Pr x:=fun {Pr} h1 h2 x hx=>by
  rcases Ad.mp hx with z|z
  . exact h1 x z
  . rw[Ai.mp z];exact h2
 refine⟨by rw[Aj,h5];rfl,sp (fun x hx=>(h x hx).1.ok) (show (PyData.str "nil").canLay0=true by decide),sp (fun x hx=>AB (h x hx).1.len (by decide)) (show BF "nil" <= 1000 by decide),sp (fun x hx e=>(h x hx).2 (by rw[e];decide)) (by decide),Ad.mpr (.inr (Ai.mpr rfl))⟩
theorem mn{xs:List Str}{F P:List (List Str)}(X:Xs xs)(hF:∀r∈F,PoolRow xs r)(hP:∀r∈P,PoolPart xs r)(hFl:F.length<=100)(hPl:P.length<=100):WdOk xs F P:=by
 have hshA:vz "any" := (show BF "any" <= 1000 by decide)
 refine⟨⟨by omega,fun r hr=>?_⟩,⟨by omega,fun r hr=>?_⟩,fun r hr=>?_,fun y hy=>?_⟩
 . obtain⟨k,u,v,rfl,hk,h1,h2⟩:=hF r hr;refine⟨(show 3<=5 by decide),fun x hx=>?_⟩;simp only[Ar,Ax,or_false] at hx;rcases hx with rfl|rfl|rfl
   . rcases hk with rfl|rfl
     . exact (show BF "is" <= 1000 by decide)
     . exact (show BF "not" <= 1000 by decide)
   . exact X.sh _ h1
   . exact X.sh _ h2
 . rcases hP r hr with⟨a,f,s,rfl,h1,h2,h3⟩|⟨a,b,rfl,h1,h2⟩|⟨a,rfl,h1⟩
   . refine⟨(show 4<=5 by decide),fun x hx=>?_⟩;simp only[Ar,Ax,or_false] at hx;rcases hx with rfl|rfl|rfl|rfl
     . exact (show BF "cell" <= 1000 by decide)
     . exact X.sh _ h1
     . exact h2.elim (X.sh _) fun z=>z ▸ hshA
     . exact h3.elim (X.sh _) fun z=>z ▸ hshA
   . refine⟨(show 3<=5 by decide),fun x hx=>?_⟩;simp only[Ar,Ax,or_false] at hx;rcases hx with rfl|rfl|rfl
     . exact (show BF "stretch" <= 1000 by decide)
     . exact X.sh _ h1
     . exact X.sh _ h2
   . refine⟨(show 2<=5 by decide),fun x hx=>?_⟩;simp only[Ar,Ax,or_false] at hx;rcases hx with rfl|rfl
     . exact (show BF "tree" <= 1000 by decide)
     . exact X.sh _ h1
 . rcases Ad.mp hr with z|z
   . obtain⟨k,u,v,rfl,_⟩:=hF r z;exact FQ _ _
   . rcases hP r z with⟨a,f,s,rfl,_⟩|⟨a,b,rfl,_⟩|⟨a,rfl,_⟩<;>exact FQ _ _
 . unfold d0 at hy;obtain⟨l,hl,hyl⟩:=List.mem_flatten.mp hy;obtain⟨r,hr,rfl⟩:=A3.mp hl;obtain⟨h1,h2⟩:=AW.mp hyl;have hna:¬ y="any" := fun e=>by rw[e] at h2;revert h2;decide
   rcases Ad.mp hr with z|z
   . obtain⟨k,u,v,rfl,hk,g1,g2⟩:=hF r z;have h1':y∈[u,v]:=h1;simp only[Ar,Ax,or_false] at h1';rcases h1' with rfl|rfl
     . exact g1
     . exact g2
   . rcases hP r z with⟨a,f,s,rfl,g1,g2,g3⟩|⟨a,b,rfl,g1,g2⟩|⟨a,rfl,g1⟩
     . have h1':y∈[a,f,s]:=h1;simp only[Ar,Ax,or_false] at h1';rcases h1' with rfl|rfl|rfl
       . exact g1
       . exact g2.resolve_right hna
       . exact g3.resolve_right hna
     . have h1':y∈[a,b]:=h1;simp only[Ar,Ax,or_false] at h1';rcases h1' with rfl|rfl
       . exact g1
       . exact g2
     . have h1':y∈[a]:=h1;rw[Ai.mp h1'];exact g1
def isB(r:List Str):Bool:=decide (r.getD 0 ""="is")
def swp(r:List Str):List Str:=[r.getD 0 "",r.getD 2 "",r.getD 1 ""]
def weak(F:List (List Str))(k:Nat):List (List Str):=(F.take k).reverse++((((F.take k).reverse).take 2).filter isB).map swp
theorem u6{xs:List Str}{F:List (List Str)}(hF:∀r∈F,PoolRow xs r){k:Nat}{g:List Str}(hg:g∈weak F k):g∈F\/∃a b,[("is":Str),a,b]∈F/\g=[("is":Str),b,a]:=by
 rcases Ad.mp hg with z|z
 . exact .inl (AQ (Ei.mp z))
 . obtain⟨r,hr,rfl⟩:=A3.mp z;obtain⟨h1,h2⟩:=AW.mp hr;have hin:=AQ (Ei.mp (AQ h1));obtain⟨k,u,v,rfl,hk,_⟩:=hF r hin;have hk':k="is" := of_decide_eq_true h2;subst hk';exact .inr ⟨u,v,hin,rfl⟩
theorem xu{xs:List Str}{F:List (List Str)}(hF:∀r∈F,PoolRow xs r){k:Nat}:∀g∈weak F k,PoolRow xs g:=fun g hg=>by
 rcases u6 hF hg with z|⟨a,b,h1,rfl⟩
 . exact hF g z
 . obtain⟨k,u,v,e,hk,g1,g2⟩:=hF _ h1;cases e;exact⟨_,_,_,rfl,.inl rfl,g2,g1⟩
theorem qy(F:List (List Str))(k:Nat):(weak F k).length<=F.length+2:=by
 unfold weak;rw[Aj,Ac,Dt,A2];have h1:=Bl isB (((F.take k).reverse).take 2);rw[A2] at h1;omega
theorem a2x{xs:List Str}{F F' P S:List (List Str)}{k:Nat}(X:Xs xs)(hF:∀r∈F,PoolRow xs r)(hF':∀r∈F',PoolRow xs r)(hs:∀r∈F,r∈F')(hP:∀r∈P,PoolPart xs r)(hPl:P.length<=15)(hFl:F.length<=50)(hS:S.Perm P):Gd xs F' P (weak F k) S:=by
 refine⟨fun r hr=>(hF' r hr).fact,fun r hr=>(hP r hr).row,hPl,fun r hr=>⟨(hP r hr).place,(hP r hr).end2 X.nil⟩,fun r hr _=>X.na _ (hP r hr).place,hS,by have:=qy F k;omega,fun g hg=>?_⟩;rcases u6 hF hg with z|⟨a,b,h1,rfl⟩
 . obtain⟨k,u,v,rfl,hk,_⟩:=hF g z;rcases hk with rfl|rfl
   . exact⟨_,_,_,rfl,.inl ⟨rfl,.fact (hs _ z)⟩⟩
   . exact⟨_,_,_,rfl,.inr ⟨rfl,hs _ z⟩⟩
 . exact⟨_,_,_,rfl,.inl ⟨rfl,.symm (.fact (hs _ h1))⟩⟩
abbrev sLaw:HF:=top 43
theorem a6l(ns:List Int):∃ms:List Int,cutV (ns.map V.int) (some 3) (some 13)=ms.map V.int/\ms.length<=14:=by
 unfold cutV;refine⟨(ns.drop (HT.sIx (ns.map V.int).length 0 (some 3))).take (HT.sIx (ns.map V.int).length (ns.map V.int).length (some 13)-HT.sIx (ns.map V.int).length 0 (some 3)),by rw[Ce,Fb],?_⟩;rw[A2];have h1:HT.sIx (ns.map V.int).length (ns.map V.int).length (some 13)<=13:=by
  rw[show (13:Int)=((13:Nat):Int) from rfl,HT.sIx_nat];omega
 have h2:min 3 (ns.map V.int).length<=HT.sIx (ns.map V.int).length 0 (some 3):=by
  rw[show (3:Int)=((3:Nat):Int) from rfl,HT.sIx_nat];omega
 omega
theorem Paired.takeP{α β:Type}{R:α->β->Prop}:∀{l:List α}{m:List β}(k:Nat),HD R l m->HD R (l.take k) (m.take k)
 | _,_,0,_=>by simp only[B5];exact .nil
 | _,_,_+1,.nil=>.nil
 | _,_,k+1,.cons h t=>.cons h (Paired.takeP k t)
theorem Paired.revP{α β:Type}{R:α->β->Prop}:∀{l:List α}{m:List β},HD R l m->HD R l.reverse m.reverse
 | _,_,.nil=>.nil
 | _,_,.cons h t=>by rw[CI,CI];exact Paired.app (Paired.revP t) (.cons h .nil)
def tIf(K:Aa):TS:=fun D σ H=>∃(a l fl pl:GV) (ns:List Int) (ys:List Str) (c:Int) (F P:List (List Str)),σ=[rQ a,rQ l,iQ c,rQ fl,rQ pl,nQ,nQ,nQ,nQ]/\SqL K H a (ns.map V.int)/\H l=some (.lst (ys.map V.str))/\ys.length=5/\RowsAt K H fl F/\RowsAt K H pl P/\F.length<=4/\P.length<=5/\(∀r∈F,PoolRow (ys++[("nil":Str)]) r)/\(∀r∈P,PoolPart (ys++[("nil":Str)]) r)/\
 ∀fl' pl' F' P' H',Same H H'->RowsAt K H' fl' F'->RowsAt K H' pl' P'->F'.length<=4->P'.length<=5->(∀r∈F',PoolRow (ys++[("nil":Str)]) r)->(∀r∈P',PoolPart (ys++[("nil":Str)]) r)->D.nx [rQ a,rQ l,iQ c,rQ fl',rQ pl',nQ,nQ,nQ,nQ] H'
section
variable{P:Gx}{w:G9}{K:Aa}{mg:Str->Option GQ}{base:HB}{f gC gN gF gH gD gM gT gL:GV}{fd dC dN dF dH dD dM dT dL:HA}
theorem scLaw:FnScope ["_law_script","_law_names_here","_law_cell","_law_facts_here","_law_parts","_law_m","_law_weaker","_law_other","_law_more"] ["_law_script"] (ap sLaw):=⟨rfl,rfl,rfl,by decide,rfl,by decide,by decide⟩
theorem a60(C:Con K mg w)(F:Fun K "law" "law" sLaw f fd)(GC:FnOk P w K mg base CX0 1 gC dC ["_law_script","_law_k"] (yq K))(cC:Cal K mg "_law_cell_at" gC dC ["_law_script","_law_k"])(GN:FnOk P w K mg base CX0 2 gN dN ["_law_cell","_law_many"] (jo K))(cN:Cal K mg "_law_names" gN dN ["_law_cell","_law_many"])(GF:FnOk P w K mg base CX0 2 gF dF ["_law_cell","_law_names_here","_law_most"] (u1 K))(cF:Cal K mg "_law_facts" gF dF ["_law_cell","_law_names_here","_law_most"])(GH:FnOk P w K mg base CX0 2 gH dH ["_law_cell","_law_names_here"] (v5 K))(cH:Cal K mg "_law_chain" gH dH ["_law_cell","_law_names_here"])(GD:FnOk P w K mg base CX0 2 gD dD ["_law_cells","_law_pool"] (u8 K))(cD:Cal K mg "_law_drawn" gD dD ["_law_cells","_law_pool"])(GM:FnOk P w K mg base CX0 1 gM dM ["_law_cell","_law_k"] gc)(cM:Cal K mg "_law_mixed" gM dM ["_law_cell","_law_k"])(GT:FnOk P w K mg base CX0 2 gT dT ["_law_parts","_law_cell"] (r8 K))(cT:Cal K mg "_law_turned" gT dT ["_law_parts","_law_cell"])(GL:FnOk P w K mg base CX0 40 gL dL ["_law_one","_law_other"] (nq K))(cL:Cal K mg "_law_follows" gL dL ["_law_one","_law_other"]):FnOk P w K mg base CX0 41 f fd ["_law_script"] (ou K):=by
 refine F.okQ scLaw (fun vs H Q E h=>?_) (fun cdv A outer s0 H vs Q E hr h=>?_)
 . obtain⟨c,k,rfl,_⟩:=h;rfl
 obtain⟨a,ns,rfl,hA,q⟩:=h;have nd:=scLaw.nd;have hr1:=hr.mono (j:=1) (by omega);have hr2:=hr.mono (j:=2) (by omega);refine⟨_,ac (ak (i:=1) nd rfl (Or.inl rfl) (bd GN hr2 rfl cN.name cN.keep cN.bind .nil ar (bx (bd GC hr1 rfl cC.name cC.keep cC.bind .nil ar (ae (qv 0) (fh a0))) (fh a0))))
  (ac (ak (i:=2) nd rfl (Or.inl rfl) (bd GC hr1 rfl cC.name cC.keep cC.bind .nil ar (ae (qv 0) (fh a0))))
  (ac (ak (i:=3) nd rfl (Or.inl rfl) (bd GF hr2 rfl cF.name cF.keep cF.bind .nil ar (ce (ai bo (qv 2) ab) (ae (qv 1) (fh a0)))))
  (ac (ak (i:=4) nd rfl (Or.inl rfl) (bd GH hr2 rfl cH.name cH.keep cH.bind .nil ar (ce (ai bo (qv 2) ab) (ae (qv 1) a0))))
  (ac (gf (t':=tIf K) (bi (az c3 (ai bb (qv 2) ab) ab (b0 _)) (ac (a6q (bd GD hr2 rfl cD.name cD.keep cD.bind .nil ar (aq (dk fm (qv 0) (dq ab) (dq ab)) (ce (ai dh (qv 1) (bn (ay a0))) a0))) (a3q (bw (i:=3) nd rfl (Or.inl rfl)) (bw (i:=4) nd rfl (Or.inl rfl))))
  (ac (ak (i:=3) nd rfl (Or.inl rfl) (dk fm (qv 3) fc (dq ab)))
  (af (ak (i:=4) nd rfl (Or.inl rfl) (dk fm (qv 4) fc (dq ab)))))) be) (fun D σ H hh=>by
   obtain⟨a,l,fl,pl,ns,ys,c,Fs,Ps,rfl,hA,hl,hy5,hF,hP,hFl,hPl,hFp,hPp,go⟩:=hh;refine⟨_,rfl,_,_,rfl,rfl,(show (0:Int)<2 by decide),rfl,_,rfl,iteB (fun c=>?_) (fun c=>go fl pl Fs Ps H (Same.refl _) hF hP hFl hPl hFp hPp)⟩;refine⟨_,rfl,_,rfl,_,rfl,a,_,rfl,hA,fun p1 hp1=>?_⟩;obtain⟨ms,hms,hml⟩:=a6l ns;rw[hms];have s1:=ad hp1 (.lst (ms.map V.int));have q1:=aa (H:=H) (a:=p1) (o:=.lst (ms.map V.int));generalize upd H p1 (.lst (ms.map V.int))=H1 at s1 q1 |-;refine⟨_,rfl,(show 1<=GX by decide),fun l1 hl1=>?_⟩;have s2:=ad hl1 (.lst [.str "nil"]);refine⟨l,l1,_,_,rfl,rfl,s2 _ _ (s1 _ _ hl),aa,(by rw[Ac,hy5];decide),fun p2 hp2=>?_⟩;have s3:=ad hp2 (.lst (ys.map V.str++[.str "nil"]));have e3:=s1.trans (s2.trans s3);have q3:(upd (upd H1 l1 (.lst [.str "nil"])) p2 (.lst (ys.map V.str++[.str "nil"]))) p2=some (.lst ((ys++[("nil":Str)]).map V.str)):=by rw[aa,A1];rfl
   have q1':=s3 _ _ (s2 _ _ q1);generalize upd (upd H1 l1 (.lst [.str "nil"])) p2 (.lst (ys.map V.str++[.str "nil"]))=H3 at e3 q3 q1' |-;refine⟨p1,p2,ms,ys++[("nil":Str)],rfl,SqL.of q1',hml,q3,(by rw[Aj,hy5];rfl),Ad.mpr (.inr (Ai.mpr rfl)),fun t fl ql Fd Pd H4 e4 hT _ hFd hPd hFl4 hPl4 hFp4 hPp4=>?_⟩;refine⟨t,_,rfl,hT,rfl,_,_,rfl,_,_,rfl,rfl,?_⟩;obtain⟨fas,f1,f2⟩:=hFd;obtain⟨pas,p1',p2'⟩:=hPd;refine⟨_,rfl,_,rfl,fl,_,rfl,SqL.of f1,fun l5 hl5=>?_⟩;rw[show (4:Int)=((4:Nat):Int) from rfl,oy,<- Ce];have s5:=ad hl5 (.lst ((fas.take 4).map V.ref));have q5:=aa (H:=H4) (a:=l5) (o:=.lst ((fas.take 4).map V.ref));show c8 3 (V.ref l5) _ (upd H4 l5 (.lst ((fas.take 4).map V.ref))) _;generalize upd H4 l5 (.lst ((fas.take 4).map V.ref))=H5 at s5 q5 |-;refine⟨_,rfl,_,rfl,ql,_,rfl,SqL.of (s5 _ _ p1'),fun l6 hl6=>?_⟩;rw[show (5:Int)=((5:Nat):Int) from rfl,oy,<- Ce];have s6:=ad hl6 (.lst ((pas.take 5).map V.ref));exact go l5 l6 (Fd.take 4) (Pd.take 5) _ (e3.trans (e4.trans (s5.trans s6))) ⟨_,s6 _ _ q5,bp (s5.trans s6) (Paired.takeP 4 f2)⟩ ⟨_,aa,bp (s5.trans s6) (Paired.takeP 5 p2')⟩ (by rw[A2];omega) (by rw[A2];omega) (fun r hr=>hFp4 r (AQ hr)) (fun r hr=>hPp4 r (AQ hr))))
  (ac (ak (i:=5) nd rfl (Or.inl rfl) (bd GM hr1 rfl cM.name cM.keep cM.bind .nil ar (bx (bd GC hr1 rfl cC.name cC.keep cC.bind .nil ar (ae (qv 0) (fh a0))) (fh a0))))
  (ac (ak (i:=6) nd rfl (Or.inl rfl) (a66 (dk fm (qv 3) fc (dq (ai bb (qv 5) (ai bu (bf bc rfl C.len AH (ae (qv 3) a0)) ab))))))
  (ac (ak (i:=6) nd rfl (Or.inl rfl) (ai dh (qv 6) (a04 (K:=K) rfl ["_law_word","_law_a","_law_b"] [] (cn (dk fm (qv 6) fc (dq ab))) (fun _ _ _ _=>(ge (az c3 (qv 0) bv (b0 _)))) (fun _ _ _ _=>(cw (ae (qv 0) (ae (qv 2) (ae (qv 1) a0))))))))
  (ac (ak (i:=7) nd rfl (Or.inl rfl) (cw (ae (qv 6) (bx (bd GT hr2 rfl cT.name cT.keep cT.bind .nil ar (ae (qv 4) (bx (bd GC hr1 rfl cC.name cC.keep cC.bind .nil ar (ae (qv 0) (fh a0))) a0))) a0))))
  (ac (bi (fg (cf (bd GL hr rfl cL.name cL.keep cL.bind .nil ar (c7 (ae (qv 3) (ae (qv 4) a0)) (ae (qv 7) a0))))) (af (aw jr)) be)
  (ac (ak (i:=8) nd rfl (Or.inl rfl) (bn (c7 (aq (ah ba (bn (ay (ay a0))) (ai bb (ai bo (qv 5) ab) ab) (fun _ _=>rfl)) (aq (ah ba (qv 1) (ai bb (ai bo (qv 5) ab) ab) (fun _ _=>rfl)) (aq (ah ba (qv 1) (ai bb (ai bo (qv 5) ab) ab) (fun _ _=>rfl)) a0))) (c7 (ay (aq (ah ba (qv 1) (ai bb (ai bo (qv 5) ab) ab) (fun _ _=>rfl)) (ay a0))) a0))))
  (af (aw (bd GL hr rfl cL.name cL.keep cL.bind .nil ar (c7 (ce (ai dh (qv 3) (qv 8)) (ae (qv 4) a0)) (ae (qv 7) a0))))))))))))))),?_⟩
 refine⟨_,rfl,a,ns,0,rfl,hA,gh ns 0,5,rfl,by omega,fun l ys H1 e1 hl hy5 hyn=>?_⟩;have X:=a7b hy5 hyn;refine⟨_,rfl,a,ns,1,rfl,e1.seq hA,?_⟩;refine⟨_,rfl,_,_,rfl,rfl,(show CDiv _ 2 from⟨by decide,by decide⟩),_,rfl,_,l,ys,rfl,hl,hy5,fun fl Fs H2 e2 _ hF hFl hFp=>?_⟩;refine⟨_,rfl,_,_,rfl,rfl,(show CDiv _ 2 from⟨by decide,by decide⟩),_,rfl,_,l,ys,rfl,e2 _ _ hl,hy5,fun pl Ps H3 e3 _ hP hPl hPp=>?_⟩;refine⟨a,l,fl,pl,ns,ys,_,Fs,Ps,rfl,(e1.trans (e2.trans e3)).seq hA,e3 _ _ (e2 _ _ hl),hy5,hF.same e3,hP,by omega,hPl,hFp,hPp,fun fl pl Fs Ps H4 e4 hF hP hFl hPl hFp hPp=>?_⟩;have e04:Same H H4:=e1.trans (e2.trans (e3.trans e4));have hA4:=e04.seq hA;have hl4:=e4 _ _ (e3 _ _ (e2 _ _ hl));clear e1 e2 e3 e4;refine⟨_,rfl,a,ns,2,rfl,hA4,gh ns 2,1,rfl,by omega,fun m hm=>?_⟩;obtain⟨fas,f1,f2⟩:=id hF;have hfl:=A8 f2;have hfml:(fas.map V.ref).length=fas.length:=Ac ..;obtain⟨k,hk⟩:∃k:Nat,m % ((fas.length:Int)+1)=(k:Int):=⟨(m % ((fas.length:Int)+1)).toNat,by have:=AN m (show ((fas.length:Int)+1)≠0 by omega);omega⟩
 refine⟨_,rfl,_,rfl,_,rfl,fl,_,rfl,.inl (SqL.of f1),_,_,rfl,rfl,_,_,rfl,rfl,(by rw[hfml];omega),_,rfl,fl,_,rfl,SqL.of f1,fun l5 hl5=>?_⟩;rw[hfml,hk,oy,<- Ce];have s5:=ad hl5 (.lst ((fas.take k).map V.ref));refine⟨l5,_,rfl,SqL.of aa,fun wl hwl=>?_⟩;rw[<- List.map_reverse];have s6:=ad hwl (.lst ((fas.take k).reverse.map V.ref));have e46:=s5.trans s6;have q6:=aa (H:=upd H4 l5 (.lst ((fas.take k).map V.ref))) (a:=wl) (o:=.lst ((fas.take k).reverse.map V.ref));show c8 6 (V.ref wl) _ (upd (upd H4 l5 (.lst ((fas.take k).map V.ref))) wl (.lst ((fas.take k).reverse.map V.ref))) _;generalize upd (upd H4 l5 (.lst ((fas.take k).map V.ref))) wl (.lst ((fas.take k).reverse.map V.ref))=H6 at e46 q6 |-;have w6:HD (fun b r=>RowAt K H6 b r) (fas.take k).reverse (Fs.take k).reverse:=bp e46 (Paired.revP (Paired.takeP k f2));refine⟨_,rfl,_,rfl,_,rfl,wl,_,rfl,SqL.of q6,fun l7 hl7=>?_⟩;rw[show (2:Int)=((2:Nat):Int) from rfl,oy,<- Ce];have s7:=ad hl7 (.lst (((fas.take k).reverse.take 2).map V.ref));have q7:=aa (H:=H6) (a:=l7) (o:=.lst (((fas.take k).reverse.take 2).map V.ref));generalize upd H6 l7 (.lst (((fas.take k).reverse.take 2).map V.ref))=H7 at s7 q7 |-;refine⟨l7,rfl,⟨_,SqL.of q7⟩,?_⟩;have hl2:((fas.take k).reverse.take 2).length<=2:=by rw[A2];omega
 refine vp ((fas.take k).reverse.take 2) ((Fs.take k).reverse.take 2) isB swp fb (SqL.of q7) (by omega) (bp s7 (Paired.takeP 2 w6)) (fun r hr=>?_) (fun x y z _ G2 _ Q' q'=>?_) (fun x y z _ G2 _ Q' q'=>?_) fun D H8 bs _ e8 hD hbs=>?_
 . obtain⟨k,u,v,e,_⟩:=hFp r (AQ (Ei.mp (AQ hr)));exact⟨k,u,v,e⟩
 . have:=q' G2 (Same.refl _);have e:isB [x,y,z]=decide (V.str x=V.str "is"):=by
    unfold isB;exact decide_eq_decide.mpr ⟨fun h=>congrArg V.str h,fun h=>V.str.inj h⟩
   rw[e] at this;exact⟨_,rfl,rfl,_,rfl,this⟩
 . refine⟨_,rfl,_,rfl,_,rfl,(show 3<=GX by decide),fun t ht=>?_⟩;exact q' t _ (ad ht _) aa
 have e68:=s7.trans e8;refine⟨wl,D,_,_,rfl,rfl,e68 _ _ q6,hD,?_,fun w9 hw9=>?_⟩
 . have h1:=A8 hbs;rw[Ac] at h1;have h2:=Bl isB ((Fs.take k).reverse.take 2);rw[A2] at h2;rw[Ac,Ac,Dt,A2];exact cu (show _<=1000 by omega)
 have s9:=ad hw9 (.lst ((fas.take k).reverse.map V.ref++bs.map V.ref));have q9:=aa (H:=H8) (a:=w9) (o:=.lst ((fas.take k).reverse.map V.ref++bs.map V.ref));show c8 6 (V.ref w9) _ (upd H8 w9 (.lst ((fas.take k).reverse.map V.ref++bs.map V.ref))) _;generalize upd H8 w9 (.lst ((fas.take k).reverse.map V.ref++bs.map V.ref))=H9 at s9 q9 |-;have e69:=e68.trans s9;have e49:=e46.trans e69;have hW:RowsAt K H9 w9 (weak Fs k):=⟨(fas.take k).reverse++bs,by rw[q9,A1],Paired.app (bp e69 w6) (bp s9 hbs)⟩
 refine⟨_,rfl,_,rfl,_,rfl,a,ns,2,rfl,e49.seq hA4,pl,_,Ps,rfl,hP.same e49,by omega,fun sl Ss H10 e10 hS hpm=>?_⟩;refine⟨(show 2<=GX by decide),fun ot hot=>?_⟩;have s11:=ad hot (.tup [.ref w9,.ref sl]);have q11:=aa (H:=H10) (a:=ot) (o:=.tup [.ref w9,.ref sl]);show c8 7 (V.ref ot) _ (upd H10 ot (.tup [.ref w9,.ref sl])) _;generalize upd H10 ot (.tup [.ref w9,.ref sl])=H11 at s11 q11 |-;have e911:=e10.trans s11;have e411:=e49.trans e911;have TO:T2At K H11 ot (weak Fs k) Ss:=⟨w9,sl,SqT.of q11,hW.same e911,hS.same s11⟩
 have hWp:∀g∈weak Fs k,PoolRow (ys++[("nil":Str)]) g:=xu hFp;have hWl:=qy Fs k;have hSp:∀r∈Ss,PoolPart (ys++[("nil":Str)]) r:=fun r hr=>hPp r (hpm.mem_iff.mp hr);have hSl:=hpm.length_eq;have kW:OkR (weak Fs k):=fun r hr=>(hWp r hr).ok X.ok;have kS:OkR Ss:=fun r hr=>(hSp r hr).ok X.ok;have kP:OkR Ps:=fun r hr=>(hPp r hr).ok X.ok;have wW:=mn X hWp hSp (by omega) (by omega);have hx6:=X.len;refine⟨_,rfl,_,rfl,(show 2<=GX by decide),fun o1 ho1=>?_⟩;have s12:=ad ho1 (.tup [.ref fl,.ref pl]);have q12:=aa (H:=H11) (a:=o1) (o:=.tup [.ref fl,.ref pl]);generalize upd H11 o1 (.tup [.ref fl,.ref pl])=H12 at s12 q12 |-;have e412:=e411.trans s12;refine⟨_,rfl,o1,ot,ys++[("nil":Str)],ys++[("nil":Str)],Fs,Ps,weak Fs k,Ss,rfl,⟨fl,pl,SqT.of q12,hF.same e412,hP.same e412⟩,TO.same s12,fun r hr=>(hFp r hr).ok X.ok,kP,kW,kS,mn X hFp hPp (by omega) (by omega),wW,by omega,a2x X hFp hFp (fun r hr=>hr) hPp (by omega) (by omega) hpm,by omega,hx6,fun H13 e13=>⟨_,rfl,?_⟩⟩;have e413:=e412.trans e13;have hl13:=e413 _ _ hl4;have y5:(ys.map V.str).length=5:=by rw[Ac,hy5]
 obtain⟨u,hu,hum⟩:=de ys (n:=5) (i:=m / 16) hy5 (by decide);obtain⟨v,hv,hvm⟩:=de ys (n:=5) (i:=m / 128) hy5 (by decide);obtain⟨z,hz,hzm⟩:=de ys (n:=5) (i:=m / 1024) hy5 (by decide);obtain⟨wd,hwd,hwm⟩:=de [("is":Str),"not"] (n:=2) (i:=m / 8) rfl (by decide);have hwk:wd="is" \/ wd="not" := by simpa using hwm
 refine⟨(show 2<=GX by decide),fun l14 hl14=>?_⟩;have s14:=ad hl14 (.lst [.str "is",.str "not"]);refine⟨_,rfl,_,_,rfl,rfl,(show CDiv _ 8 from⟨by decide,by decide⟩),_,_,rfl,rfl,(show (0:Int)<2 by decide),l14,_,_,.str wd,rfl,rfl,SqL.of aa,hwd,?_⟩;refine⟨_,rfl,_,rfl,_,_,rfl,rfl,(show CDiv _ 16 from⟨by decide,by decide⟩),_,_,rfl,rfl,(show (0:Int)<5 by decide),l,_,_,.str u,rfl,rfl,SqL.of (s14 _ _ hl13),hu,?_⟩;refine⟨_,rfl,_,rfl,_,_,rfl,rfl,(show CDiv _ 128 from⟨by decide,by decide⟩),_,_,rfl,rfl,(show (0:Int)<5 by decide),l,_,_,.str v,rfl,rfl,SqL.of (s14 _ _ hl13),hv,?_⟩;refine⟨(show 3<=GX by decide),fun t15 ht15=>?_⟩;have s15:=ad ht15 (.tup [.str wd,.str u,.str v]);refine⟨_,rfl,_,rfl,_,_,rfl,rfl,(show CDiv _ 1024 from⟨by decide,by decide⟩),_,_,rfl,rfl,(show (0:Int)<5 by decide),l,_,_,.str z,rfl,rfl,SqL.of (s15 _ _ (s14 _ _ hl13)),hz,?_⟩;refine⟨(show 3<=GX by decide),fun t16 ht16=>?_⟩;have s16:=ad ht16 (.tup [.str "not",.str z,.str "nil"]);refine⟨(show 2<=GX by decide),fun l17 hl17=>?_⟩;have s17:=ad hl17 (.lst [.ref t15,.ref t16]);have e1317:=s14.trans (s15.trans (s16.trans s17));have q17:=aa (H:=upd (upd (upd H13 l14 (.lst [.str "is",.str "not"])) t15 (.tup [.str wd,.str u,.str v])) t16 (.tup [.str "not",.str z,.str "nil"])) (a:=l17) (o:=.lst [.ref t15,.ref t16]);have r15:=s17 _ _ (s16 _ _ (aa (H:=upd H13 l14 (.lst [.str "is",.str "not"])) (a:=t15) (o:=.tup [.str wd,.str u,.str v])));have r16:=s17 _ _ (aa (H:=upd (upd H13 l14 (.lst [.str "is",.str "not"])) t15 (.tup [.str wd,.str u,.str v])) (a:=t16) (o:=.tup [.str "not",.str z,.str "nil"]));show c8 8 (V.ref l17) _ (upd (upd (upd (upd H13 l14 (.lst [.str "is",.str "not"])) t15 (.tup [.str wd,.str u,.str v])) t16 (.tup [.str "not",.str z,.str "nil"])) l17 (.lst [.ref t15,.ref t16])) _;generalize upd (upd (upd (upd H13 l14 (.lst [.str "is",.str "not"])) t15 (.tup [.str wd,.str u,.str v])) t16 (.tup [.str "not",.str z,.str "nil"])) l17 (.lst [.ref t15,.ref t16])=H17 at e1317 q17 r15 r16 |-;have e417:=e413.trans e1317;refine⟨_,rfl,_,rfl,fl,l17,_,_,rfl,rfl,e417 _ _ f1,q17,(by rw[hfml];exact cu (show fas.length+2<=1000 by omega)),fun l18 hl18=>?_⟩;have s18:=ad hl18 (.lst (fas.map V.ref++[.ref t15,.ref t16]));have q18:=aa (H:=H17) (a:=l18) (o:=.lst (fas.map V.ref++[.ref t15,.ref t16]));generalize upd H17 l18 (.lst (fas.map V.ref++[.ref t15,.ref t16]))=H18 at s18 q18 |-;refine⟨_,rfl,(show 2<=GX by decide),fun o19 ho19=>?_⟩;have s19:=ad ho19 (.tup [.ref l18,.ref pl]);have q19:=aa (H:=H18) (a:=o19) (o:=.tup [.ref l18,.ref pl]);generalize upd H18 o19 (.tup [.ref l18,.ref pl])=H19 at s19 q19 |-;have e1719:=s18.trans s19;have e419:=e417.trans e1719;have hF2:RowsAt K H19 l18 (Fs++[[wd,u,v],[("not":Str),z,"nil"]]):=⟨fas++[t15,t16],by rw[s19 _ _ q18,A1];rfl,Paired.app (bp e419 f2) (.cons (SqT.of (e1719 _ _ r15)) (.cons (SqT.of (e1719 _ _ r16)) .nil))⟩
 have inX:∀{x:Str},x∈ys->x∈ys++[("nil":Str)]:=fun h=>Ad.mpr (.inl h);have hF2p:∀r∈Fs++[[wd,u,v],[("not":Str),z,"nil"]],PoolRow (ys++[("nil":Str)]) r:=fun r hr=>by
  rcases Ad.mp hr with h|h
  . exact hFp r h
  . simp only[Ar,Ax,or_false] at h;rcases h with rfl|rfl
    . exact⟨_,_,_,rfl,hwk,inX hum,inX hvm⟩
    . exact⟨_,_,_,rfl,.inr rfl,inX hzm,X.nil⟩
 have hF2l:(Fs++[[wd,u,v],[("not":Str),z,"nil"]]).length<=6:=by rw[Aj];show Fs.length+2<=6;omega
 exact⟨_,rfl,o19,ot,ys++[("nil":Str)],ys++[("nil":Str)],_,Ps,weak Fs k,Ss,rfl,⟨l18,pl,SqT.of q19,hF2,hP.same e419⟩,TO.same (s12.trans (e13.trans (e1317.trans e1719))),fun r hr=>(hF2p r hr).ok X.ok,kP,kW,kS,mn X hF2p hPp (by omega) (by omega),wW,by omega,a2x X hFp hF2p (fun r hr=>Ad.mpr (.inl hr)) hPp (by omega) (by omega) hpm,by omega,hx6,fun H20 e20=>q H20⟩
end
abbrev a4r:HF:=top 28
abbrev a72:HF:=bm (top 26) 6
theorem a08{K:Aa}{h:HB}{mg:Str->Option GQ}{x:Str}{a:GV}(X:K.In h)(G:h.Ns GZ mg)(e:Av K GZ x=some (some (.ref a))):Glob mg x (.ref a):=⟨_,CO X G e,rfl⟩
theorem c6{K:Aa}{h:HB}{mg:Str->Option GQ}{x qual:Str}{st:HF}{f:GV}{fd:HA}(F:Fun K x qual st f fd)(X:K.In h)(G:h.Ns GZ mg)(a:Av K GZ x=some (some (.ref f)))(ps:List Str)(hb:∀(kV doc pm:GQ) (an:Option GV) (cdv ct:GQ) (us:List GQ),us.length=ps.length->bindArgs (BL x qual (fj st) (em st) (ap st) .none kV doc pm an cdv ct) ⟨us,[]⟩=pure (ps.zip us):=by intro _ _ _ _ _ _ us hl;rcases us with _|⟨_,_|⟨_,_|⟨_,_|⟨_,_|⟨_,_|⟨_,_|⟨_,_⟩⟩⟩⟩⟩⟩⟩<;>first|rfl|cases hl):Cal K mg x f fd ps:=⟨CO X G a,F.kp,F.binds hb⟩
theorem bh{K:Aa}{x qual:Str}{st:HF}{f C:GV}{fd:HA}(F:Fun K x qual st f fd)(a:Ak K (.ref C) x=some (some (.ref f)))(i:A7 K (.ref f)=true)(ps:List Str)(hb:∀(kV doc pm:GQ) (an:Option GV) (cdv ct:GQ) (us:List GQ),us.length=ps.length->bindArgs (BL x qual (fj st) (em st) (ap st) .none kV doc pm an cdv ct) ⟨us,[]⟩=pure (ps.zip us):=by intro _ _ _ _ _ _ us hl;rcases us with _|⟨_,_|⟨_,_|⟨_,_|⟨_,_|⟨_,_|⟨_,_|⟨_,_⟩⟩⟩⟩⟩⟩⟩<;>first|rfl|cases hl):MCal K C x f fd ps:=⟨⟨a,i,F.kp⟩,F.binds hb⟩
theorem all_mk{l:Et}{w:G9}{K:Aa}{h:HB}{mg:Str->Option GQ}{fa CK CT f1 f2 f3 f4 f5 f6 f7 f8 f9 f10 f11 f12 f13 f14 f15 f16 f17 f18 f19 f20 f21 f22 f23 f24 f25 f26 f27 f28 f29 f30 f31 f32 f33 f34 f35 f36 f37 f38 f39 f40 f41 f42 f43 f44:GV}(X:K.In h)(G:h.Ns GZ mg)(hfa:mg "law"=some (.ref fa)){d1 d2 d3 d4 d5 d6 d7 d8 d9 d10 d11 d12 d13 d14 d15 d16 d17 d18 d19 d20 d21 d22 d23 d24 d25 d26 d27 d28 d29 d30 d31 d32 d33 d34 d35 d36 d37 d38 d39 d40 d41 d42 d43 d44:HA}(aCKnowledge:Av K GZ "Knowledge"=some (some (.ref CK)))(aCTaking:Av K GZ "Taking"=some (some (.ref CT)))(a1:Av K GZ "names_of"=some (some (.ref f1)))(F1:Fun K "names_of" "names_of" kh f1 d1)(a2:Av K GZ "heads_of"=some (some (.ref f2)))(F2:Fun K "heads_of" "heads_of" jy f2 d2)(a3:Av K GZ "ends_of"=some (some (.ref f3)))(F3:Fun K "ends_of" "ends_of" jl f3 d3)(a4:Av K GZ "state_against"=some (some (.ref f4)))(F4:Fun K "state_against" "state_against" a4r f4 d4)(a5:Av K GZ "split_paper"=some (some (.ref f5)))(F5:Fun K "split_paper" "split_paper" lc f5 d5)(a6:Av K GZ "shown"=some (some (.ref f6)))(F6:Fun K "shown" "shown" l0 f6 d6)(a7:Av K GZ "names_of_both"=some (some (.ref f7)))(F7:Fun K "names_of_both" "names_of_both" vx f7 d7)(a8:Av K GZ "followed"=some (some (.ref f8)))(F8:Fun K "followed" "followed" j7 f8 d8)(a9:Av K GZ "_law_cell_at"=some (some (.ref f9)))(F9:Fun K "_law_cell_at" "_law_cell_at" vy f9 d9)(a10:Av K GZ "_law_mixed"=some (some (.ref f10)))(F10:Fun K "_law_mixed" "_law_mixed" sf f10 d10)(a11:Av K GZ "_law_free_names"=some (some (.ref f11)))(F11:Fun K "_law_free_names" "_law_free_names" vn f11 d11)(a12:Av K GZ "_law_names"=some (some (.ref f12)))(F12:Fun K "_law_names" "_law_names" qe f12 d12)(a13:Av K GZ "_law_chain"=some (some (.ref f13)))(F13:Fun K "_law_chain" "_law_chain" rq f13 d13)(a14:Av K GZ "_law_facts"=some (some (.ref f14)))(F14:Fun K "_law_facts" "_law_facts" r6 f14 d14)(a15:Av K GZ "_law_drawn"=some (some (.ref f15)))(F15:Fun K "_law_drawn" "_law_drawn" pf f15 d15)(a16:Av K GZ "_law_turned"=some (some (.ref f16)))(F16:Fun K "_law_turned" "_law_turned" mo f16 d16)(a17:Av K GZ "_law_follows"=some (some (.ref f17)))(F17:Fun K "_law_follows" "_law_follows" jz f17 d17)(a18:Av K GZ "law"=some (some (.ref f18)))(F18:Fun K "law" "law" sLaw f18 d18)(a19:Ak K (.ref CK) "__init__"=some (some (.ref f19)))(i19:A7 K (.ref f19)=true)(F19:Fun K "__init__" "Knowledge.__init__" vk f19 d19)(a20:Ak K (.ref CK) "head"=some (some (.ref f20)))(i20:A7 K (.ref f20)=true)(F20:Fun K "head" "Knowledge.head" wm f20 d20)(a21:Ak K (.ref CK) "alike"=some (some (.ref f21)))(i21:A7 K (.ref f21)=true)(F21:Fun K "alike" "Knowledge.alike" rh f21 d21)(a22:Ak K (.ref CK) "unlike"=some (some (.ref f22)))(i22:A7 K (.ref f22)=true)(F22:Fun K "unlike" "Knowledge.unlike" ma f22 d22)(a23:Ak K (.ref CK) "tell_unlike"=some (some (.ref f23)))(i23:A7 K (.ref f23)=true)(F23:Fun K "tell_unlike" "Knowledge.tell_unlike" ri f23 d23)(a24:Ak K (.ref CK) "is_empty"=some (some (.ref f24)))(i24:A7 K (.ref f24)=true)(F24:Fun K "is_empty" "Knowledge.is_empty" kg f24 d24)(a25:Ak K (.ref CK) "must_be_full"=some (some (.ref f25)))(i25:A7 K (.ref f25)=true)(F25:Fun K "must_be_full" "Knowledge.must_be_full" j5 f25 d25)(a26:Ak K (.ref CK) "find_fulls"=some (some (.ref f26)))(i26:A7 K (.ref f26)=true)(F26:Fun K "find_fulls" "Knowledge.find_fulls" pz f26 d26)(a27:Ak K (.ref CK) "tell_full"=some (some (.ref f27)))(i27:A7 K (.ref f27)=true)(F27:Fun K "tell_full" "Knowledge.tell_full" qb f27 d27)(a28:Ak K (.ref CK) "clashing"=some (some (.ref f28)))(i28:A7 K (.ref f28)=true)(F28:Fun K "clashing" "Knowledge.clashing" q0 f28 d28)(a29:Ak K (.ref CK) "shares_place"=some (some (.ref f29)))(i29:A7 K (.ref f29)=true)(F29:Fun K "shares_place" "Knowledge.shares_place" ml f29 d29)(a30:Ak K (.ref CK) "open_ends"=some (some (.ref f30)))(i30:A7 K (.ref f30)=true)(F30:Fun K "open_ends" "Knowledge.open_ends" r0 f30 d30)(a31:Ak K (.ref CK) "number_at"=some (some (.ref f31)))(i31:A7 K (.ref f31)=true)(F31:Fun K "number_at" "Knowledge.number_at" sn f31 d31)(a32:Ak K (.ref CT) "__init__"=some (some (.ref f32)))(i32:A7 K (.ref f32)=true)(F32:Fun K "__init__" "Taking.__init__" ph f32 d32)(a33:Ak K (.ref CT) "ask_unlike"=some (some (.ref f33)))(i33:A7 K (.ref f33)=true)(F33:Fun K "ask_unlike" "Taking.ask_unlike" x8 f33 d33)(a34:Ak K (.ref CT) "holds"=some (some (.ref f34)))(i34:A7 K (.ref f34)=true)(F34:Fun K "holds" "Taking.holds" lx f34 d34)(a35:Ak K (.ref CT) "take"=some (some (.ref f35)))(i35:A7 K (.ref f35)=true)(F35:Fun K "take" "Taking.take" x4 f35 d35)(a36:Ak K (.ref CT) "gives"=some (some (.ref f36)))(i36:A7 K (.ref f36)=true)(F36:Fun K "gives" "Taking.gives" rg f36 d36)(a37:Ak K (.ref CT) "cell_row"=some (some (.ref f37)))(i37:A7 K (.ref f37)=true)(F37:Fun K "cell_row" "Taking.cell_row" rc f37 d37)(a38:Ak K (.ref CT) "lies_outside"=some (some (.ref f38)))(i38:A7 K (.ref f38)=true)(F38:Fun K "lies_outside" "Taking.lies_outside" a72 f38 d38)(a39:Ak K (.ref CT) "passed"=some (some (.ref f39)))(i39:A7 K (.ref f39)=true)(F39:Fun K "passed" "Taking.passed" m6 f39 d39)(a40:Ak K (.ref CT) "stretch_row"=some (some (.ref f40)))(i40:A7 K (.ref f40)=true)(F40:Fun K "stretch_row" "Taking.stretch_row" vh f40 d40)(a41:Ak K (.ref CT) "tree_row"=some (some (.ref f41)))(i41:A7 K (.ref f41)=true)(F41:Fun K "tree_row" "Taking.tree_row" sq f41 d41)(a42:Ak K (.ref CT) "row_of"=some (some (.ref f42)))(i42:A7 K (.ref f42)=true)(F42:Fun K "row_of" "Taking.row_of" pb f42 d42)(a43:Ak K (.ref CT) "rows_of"=some (some (.ref f43)))(i43:A7 K (.ref f43)=true)(F43:Fun K "rows_of" "Taking.rows_of" ls f43 d43)(a44:Ak K (.ref CT) "leaves_some"=some (some (.ref f44)))(i44:A7 K (.ref f44)=true)(F44:Fun K "leaves_some" "Taking.leaves_some" mj f44 d44)(pgKnowledge:Ca K CK Gc=true)(hdKnowledge:Co K CK=true)(poKnowledge:CG K CK=true)(saKnowledge:Ak K (.ref CK) "__setattr__"=some (some (.builtin "object.__setattr__")))(mkKnowledge:De K CK=true)(kcKnowledge:B3 K (.ref CK)=true)(nKnowledge0:Ak K (.ref CK) "parts"=some none)(nKnowledge1:Ak K (.ref CK) "heads"=some none)(nKnowledge2:Ak K (.ref CK) "unlikes"=some none)(nKnowledge3:Ak K (.ref CK) "fulls"=some none)(nKnowledge4:Ak K (.ref CK) "not_empty"=some none)(pgTaking:Ca K CT Gc=true)(hdTaking:Co K CT=true)(poTaking:CG K CT=true)(saTaking:Ak K (.ref CT) "__setattr__"=some (some (.builtin "object.__setattr__")))(mkTaking:De K CT=true)(kcTaking:B3 K (.ref CT)=true)(nTaking0:Ak K (.ref CT) "knowledge"=some none)(nTaking1:Ak K (.ref CT) "parts"=some none)(nTaking2:Ak K (.ref CT) "taken"=some none)(nTaking3:Ak K (.ref CT) "doubt"=some none)(nTaking4:Ak K (.ref CT) "amid"=some none)(z1:Av K GZ "min"=some none)(z2:Av K GZ "len"=some none)(z3:Av K GZ "all"=some none)(z4:Av K GZ "any"=some none)(z5:Av K GZ "isinstance"=some none)(z6:Av K GZ "list"=some none)(z7:Av K GZ "int"=some none)(z8:Av K GZ "bool"=some none)(z9:Av K GZ "str"=some none)(z10:Av K GZ "dict"=some none)(z11:Av K GZ "sorted"=some none)(z12:Av K GZ "set"=some none)(z13:Av K GZ "sum"=some none)(z14:Av K GZ "range"=some none)(z15:Av K GZ "tuple"=some none)(z16:Av K GZ "max"=some none)(z17:Av K GZ "zip"=some none)(z18:Av K GZ "enumerate"=some none){aN:GV}{oN:Obj}{itN:Array GQ}{nN:Nat}(gN:Av K GZ "NO_NAMES"=some (some (.ref aN)))(lN:K.lookup aN=some oN)(cN:oN.cls=.type "tuple")(dN:oN.data=.seq itN nN)(sN:itN.size<=100)(vN:L2.Vals (Mir.noNames.map V.str) itN.toList):
 ∃fd:HA,(∀(s:GW) (v:GQ),BindsTo s fd ⟨[v],[]⟩ [("_law_script",v)])/\∀base:HB,K.In base->base.Ns GZ mg->FnOk l.prog w K mg base CX0 41 fa fd ["_law_script"] (ou K):=by
 have e:=hfa.symm.trans (CO X G a18);cases e;have C1:=c6 F1 X G a1 ["telling"];have C2:=c6 F2 X G a2 ["facts"];have C3:=c6 F3 X G a3 ["part"];have C4:=c6 F4 X G a4 ["taking","names","other","whole"];have C5:=c6 F5 X G a5 ["one","other","names","whole","pair"];have C6:=c6 F6 X G a6 ["one","other","names","whole"];have C7:=c6 F7 X G a7 ["one","other"];have C8:=c6 F8 X G a8 ["one","other"];have C9:=c6 F9 X G a9 ["_law_script","_law_k"];have C10:=c6 F10 X G a10 ["_law_cell","_law_k"];have C11:=c6 F11 X G a11 ["_law_cell","_law_many"];have C12:=c6 F12 X G a12 ["_law_cell","_law_many"];have C13:=c6 F13 X G a13 ["_law_cell","_law_names_here"];have C14:=c6 F14 X G a14 ["_law_cell","_law_names_here","_law_most"];have C15:=c6 F15 X G a15 ["_law_cells","_law_pool"];have C16:=c6 F16 X G a16 ["_law_parts","_law_cell"];have C17:=c6 F17 X G a17 ["_law_one","_law_other"];have C19:=bh F19 a19 i19 ["self","facts","parts"];have C20:=bh F20 a20 i20 ["self","word"];have C21:=bh F21 a21 i21 ["self","one","other"];have C22:=bh F22 a22 i22 ["self","one","other"];have C23:=bh F23 a23 i23 ["self","one","other"];have C24:=bh F24 a24 i24 ["self","number"];have C25:=bh F25 a25 i25 ["self","number"];have C26:=bh F26 a26 i26 ["self"];have C27:=bh F27 a27 i27 ["self","number"];have C28:=bh F28 a28 i28 ["self"];have C29:=bh F29 a29 i29 ["self","number"];have C30:=bh F30 a30 i30 ["self"];have C31:=bh F31 a31 i31 ["self","place"];have C32:=bh F32 a32 i32 ["self","knowledge","parts"];have C33:=bh F33 a33 i33 ["self","one","other"];have C34:=bh F34 a34 i34 ["self","fact"];have C35:=bh F35 a35 i35 ["self","place"];have C36:=bh F36 a36 i36 ["self","found","asked"];have C37:=bh F37 a37 i37 ["self","part"];have C38:=bh F38 a38 i38 ["self","number","end"];have C39:=bh F39 a39 i39 ["self","number","end"];have C40:=bh F40 a40 i40 ["self","part"];have C41:=bh F41 a41 i41 ["self","part"];have C42:=bh F42 a42 i42 ["self","part"];have C43:=bh F43 a43 i43 ["self","telling"];have C44:=bh F44 a44 i44 ["self"];have C:Con K mg w:={
  noNames:=⟨aN,a08 X G gN,fun _=>.inr ⟨oN,itN,nN,lN,cN,dN,AB sN (by decide),vN⟩⟩
  min:=AC X G z1
  len:=AC X G z2
  all:=AC X G z3
  any:=AC X G z4
  isi:=AC X G z5
  list:=AC X G z6
  int:=AC X G z7
  bool:=AC X G z8
  str:=AC X G z9
  dict:=AC X G z10
  sorted:=AC X G z11
  set:=AC X G z12
  sum:=AC X G z13
  range:=AC X G z14
  tuple:=AC X G z15
  max:=AC X G z16
  zip:=AC X G z17}
 have En:mg "enumerate"=none:=AC X G z18;obtain⟨_,_,kV,dc,pm,an,cd,ct,_,rfl,_,_⟩:=id F18.ex;refine⟨BL "law" "law" (fj sLaw) (em sLaw) (ap sLaw) .none kV dc pm an cd ct,fun s v=>.of_eq rfl,fun base _ _=>?_⟩;have T:Txt K mg CK f19:=⟨⟨pgKnowledge,hdKnowledge,poKnowledge,saKnowledge⟩,nKnowledge0,nKnowledge1,nKnowledge2,nKnowledge3,nKnowledge4,CO X G aCKnowledge,⟨mkKnowledge,a19,i19,kcKnowledge⟩⟩
 have T2:TTxt K mg CT f32:=⟨⟨pgTaking,hdTaking,poTaking,saTaking⟩,nTaking0,nTaking1,nTaking2,nTaking3,nTaking4,CO X G aCTaking,⟨mkTaking,a32,i32,kcTaking⟩⟩
 have O2:=ww (P:=l.prog) (base:=base) C F2;have O1:=vc (P:=l.prog) (base:=base) C F1;have O3:=a50 (P:=l.prog) (w:=w) (mg:=mg) (base:=base) F3;have O20:=a3y (P:=l.prog) (w:=w) (base:=base) T F20;have O21:=a1z  T F21 O20 C20;have O22:=xw  T F22 O20 C20;have O23:=a2l  T F23 O20 C20;have O24:=a2f  T F24 O3 C3 O21 C21;have O25:=a4y  T F25 O3 C3 O22 C22;have O27:=a0q  T F27 O23 C23;have O28:=a09 (P:=l.prog) (base:=base) C T F28;have O29:=yy  C T F29 O21 C21;have OT:=a0b (P:=l.prog) (w:=w) (mg:=mg) (base:=base) F3;have O30:=a05 T F30 OT C3 O29 C29;have O26:=a4f  C T F26 O25 C25 O27 C27;have O19:=a1b C T F19 O2 C2 O23 C23 O26 C26 O24 C24;have O31:=a0s  T F31 O21 C21;have O35:=a5c  T T2 F35 O31 C31;have O36:=a1v  T T2 F36 O21 C21;have O33:=a3w  T T2 F33 O22 C22;have O34:=yn  T T2 F34 O21 C21 O33 C33;have O37:=a1x  T T2 F37 O35 C35 O36 C36;have O38:FnOk l.prog w K mg base CX0 3 f38 d38 ["self","number","end"] (fun _ _ _ _=>False):=⟨fun vs H Q E h=>h.elim,fun A outer s H args us vs Q E _ _ _ _ h=>h.elim⟩
 have O39:=zj  T T2 F39 O21 C21 O33 C33 O38 C38;have O40:=a4o  T T2 F40 O35 C35 O21 C21 O39 C39;have O41:=a1m  T T2 F41 O35 C35 O21 C21;have O42:=a0e  T2 F42 O37 C37 O40 C40 O41 C41;have O43:=zf  C T2 F43 O34 C34 O42 C42;have O44:=y0 (P:=l.prog) (base:=base) C T T2 F44;have O32:=a0p (C:=CK) (P:=l.prog) (w:=w) (base:=base) T2 F32;have O7:=a3z  C F7 O1 C1;have O6:=xx C En T T2 F6 F5 O19 C19.bind O32 C32.bind O28 C28 O30 C30 O43 C43 O44 C44 C4 C6 C5 15;have O8:=t9  F8 O7 C7 O6 C6;have O9:=zr (P:=l.prog) (base:=base) C F9;have O10:=a2a (P:=l.prog) (base:=base) C F10;have O11:=a3v (P:=l.prog) (base:=base) C F11;have O12:=a2e  C F12 O11 C11;have O13:=a06  C F13 O10 C10;have O14:=a1j  C F14 O10 C10;have O15:=a1h  C F15 O10 C10;have O16:=zn  C F16 O10 C10;have O17:=x6  C F17 O8 C8;exact a60 C F18 O9 C9 O12 C12 O14 C14 O13 C13 O15 C15 O10 C10 O16 C16 O17 C17
theorem walk{l:Et}{q:Gx}{loose:List Str}{XP:(Str->Option GQ)->HB->Prop}{YP:G9->HB->Prop}{d:DefRec}{K:Params->Aa}(hn:l.most=some 63)(hdf:d.params.defaults=[])(hY:∀(w:G9) (h:HB),YP w h->(K w.params).In h)(F:∀(w:G9) (mg:Str->Option GQ) (fa:GV) (h:HB),(K w.params).In h->h.Ns GZ mg->mg d.name=some (.ref fa)->
 ∃fd:HA,(∀(s:GW) (u:GQ),BindsTo s fd ⟨[u],[]⟩ [("_law_script",u)])/\∀base:HB,(K w.params).In base->base.Ns GZ mg->FnOk l.prog w (K w.params) mg base CX0 41 fa fd ["_law_script"] (ou (K w.params))):
 Gh q loose XP YP l.row.toRowW d [] (fun f vs=>FV f vs) :=
 L2.walk_of (n:=63) (k:=41) (x := "_law_script") (CX:=fun _=>CX0) (sp:=fun w=>ou (K w.params)) hn (by decide) hdf ⟨rfl,by decide,by decide⟩ hY F (fun _ _ a ns hl _ hS=>⟨a,ns,rfl,hS,fun _=>rfl⟩) fun _ _ _ _ _ z=>z
end K31
end
open PySem PySem.W PyProof.Rows
structure PySem.W.Fast:Prop where(tw14046895173365239604 tw965456915897420864 tw9374533205130043819 tw60248378148798856 tw11745708711879112389 tw712254034230361531 tw15934678937500788015 tw16333613343402333100 tw10215085644330734653 tw14272352500338353866 tw2501288536691304465 tw313236438643852373 tw10228874886103826011 tw17002767579365216063 tw5650913001438730907 tw16734327901194569064 tw16560445717339374123 tw1519998932709858080 tw9829476682465281711 tw6239568088576881103 tw17305017990154478442 tw11586672822470610189 tw5314640039464957040 tw4527027618054379682 tw4357280023690897965 tw4280568267729308276 tw11925100006192796110 tw17052133774441895047 tw12847433167275357798 tw11645375020956266632 tw15317252726751314887 tw7955292226714259896 tw2042762728951211158 tw17093117447751282861 tw941121622393853498 tw2512327818959549092 tw6037937253198789092 tw17001852275882444445 tw9001601991841952875 tw3527407575183385095 tw2181060792797996720 tw16204456983812811554 tw10917569475839549817 tw15011301053729603742 tw17673305506417422647 tw140021553930422585 tw10354575104088928815 tw9414337483605700662 tw10947104116900740442 tw2271621420049616215 tw6071288711559287635 tw15098309567552430302 tw5089341070470399479 tw6953853720793488575 tw6475162128669374724 tw1734709610884368522 tw10336247763456259407 tw17212544479053043323 tw11436294039936987542 tw5612597798249561769 tw12604065987950155218 tw932009542373364410 tw13839756461188179220 tw5986340614618166309 tw15323326625858762807 tw509590643852425317 tw16032205283399852410 tw8841835464970012786 tw2484173956300204920 tw229746391458212573 tw3869797436110897152 tw1570199285222247170 tw15048226240982449884 tw5884988956673039353 tw42004214942685046 tw6523716506357484786 tw4951411926808661023 tw15880059101903764273 tw14842910269351430237 tw2413051144708275153 tw6507767770696377301 tw114149446953085860 tw16986211729915380230 tw3406288912843124658 tw16048436995911894161 tw13185158475201504604 tw1263362265515188942 tw6702069079049657653 tw2777787239371948259 tw3380910158794542950 tw4652918842481050487 tw325265634360877352 tw12586003536588196738 tw3298602242280446678 tw17228271250813396701 tw18173602898186175294 tw11384079173017963687 tw15502875659629407261 tw10684383572269125260 tw8766037746609295181 tw14723160115127611272 tw9214930349212167175 tw12148085071566096340 tw8127052461335055184 tw18288755336134676324 tw3874983598629907187 tw12252078964249471442 tw5569242904799967011 tw10243022624292759966 tw9879611914218335558 tw5777987132809256838 tw3581560975981141210 tw9371930508166769328 tw3948151079301695597 tw7461920227673618959 tw10523223107443623239 tw8373177397481892190 tw3582154908906424503 tw2711591196271759853 tw3156824175220191697 tw13554900434628021853 tw10107590635324726359 tw8901834903206549069 tw17254397599528113848 tw12019587351601828115 tw12618629840036470938 tw4552589983969325470 tw8411904355855559846 tw15423211600810892166 tw1399408013503715372 tw2779639382199182048 tw1841154339983084245 tw13151432742875545691 tw11311010133562797573 tw2893601401775227808 tw11804364576104272472 tw2529896864687021923 tw14425378771630877211 tw1048146867173788162 tw5280643071710880432 tw3049088583958753989 tw16171054850680978839 tw338718124399583348 tw2307380320006583023 tw7106827252726203714 tw18195509815170736771 tw2382999962952901614 tw4896857974432261548 tw11361544262436805528 tw1070865985801604571 tw1660053561073028985 tw15588758685030437353 tw7021693510432562599 tw15676232742499355760 tw490271026729632544 tw15825107989758166846 tw10678934556222855373 tw6650984085353249611 tw5843837911155635016 tw12381914226068515650 tw12822702682499048804 tw3924802044584495674 tw14563905856658249889 tw18387033854517481864 tw9361634864824163323 tw5831015399604165423 tw536454768949223284 tw17137199141456457498 tw16077734661152097291 tw14973458183506098252 tw1192048573510590714 tw14942145701591077670 tw5675675165899228799 tw15217362766343018424 tw16429056445042780462 tw10417418240336493822 tw6840312095454205057 tw4268195399496820373 tw745279866188158689 tw18441065644821981429 tw1029142587283714400 tw17060558101627164972 tw11649011247862643107 tw2885340778625101841 tw5946363929205674239 tw1761248520326846100 tw16884060405548924753 tw5904140287404699199 tw15822724759375727466 tw2449460511413451038 tw3313298930672454169 tw10691380995532874768 tw6417833379486732185 tw14181326317960007411 tw12215755484590739811 tw5440413242497808526 tw4989140491802309392 tw16227906328673672501 tw10756122553793946621 tw11919610976408662984 tw596158469890684093 tw17992744147208010050 tw18189384037706570260 tw3835850882174170486 tw9012620823080328155 tw8343464992667999354 tw16628518183909933142 tw14352640215147229795 tw17177050539256504101 tw17071705913663994489 tw10988038638142463763 tw1225702888241322061 tw9876203087730451645 tw16086006989514025199 tw16972701754068939475 tw16921103590790427008 tw6274437380179820489 tw8195608662154323411 tw4255916233405548629 tw1645782936973483637 tw11370105756313374515 tw2313937055782202048 tw1320018349560729004 tw3315941073224210742 tw18189610682405215774 tw14541485812516945109 tw1970599426876790505 tw16240474384100284446 tw1885635823512647841 tw17824501131859630037 tw15002889200066019683 tw10699547925462845556 tw3514106407253776770 tw15877765885111349348 tw10271857653407178625 tw9020310626907926205 tw73663033499791776 tw5957588732954565060 tw14248258550591644893 tw11422413238867997658 tw2654704549605151678 tw13964120194065795173 tw10060495525142665662 tw381763648070132905 tw12810052950393335401 tw2388428448794533845 tw17772126948659379220 tw7668844409115868752 tw3924394191351300003 tw1494079814074162539 tw11940308268452493157 tw11376491192574079307 tw6831523395055004612 tw11323878199542424035 tw5393417465139226494 tw140363775813263392 tw5253585375914991868 tw10881016734323372841 tw5733795116657154908 tw17748841732566208688 tw16261709481918583550 tw9534862990795652850 tw12748149445807827928 tw8376632102044401344 tw8121928990724615979 tw3265807172697614797 tw12405937339086707774 tw5940257840987592368 tw435381100264495477 tw18103118526583561512 tw18132445460981062208 tw13217170366493496909 tw16736159602275753525 tw18324697750470975060 tw17206702469666267750 tw13319556115861036736 tw18340219059260185176 tw10239638312907413390 tw3166368761992359176 tw15328137186644891811 tw12809146346273052153 tw3778569376312096663 tw5343362629443470957 tw68102551898824014 tw510380171701018976 tw13406023061454786192 tw11483648229384526843 tw11148517595967768291 tw2702793985800280944 tw8112193803085223791 tw3084527428823626670 tw17909225644287750372 tw17860841025937618162 tw11490598270105542315 tw1561852843479425429 tw2854923442765330802 tw11533861151344883057 tw5620010726447028837 tw14510807564497723107 tw10422981381021410472 tw11054451108409051118 tw9401233485349262916 tw14035670698803165367 tw10409635353666206812 tw9781657703908963499 tw14607536752580211593 tw2013434743241745399 tw9103409767133937076 tw10984662276633938278 tw8549232498221350503 tw7199267746766964433 tw12447352910141291095 tw16486991663413794839 tw13808980273011063469 tw11998203729743309847 tw241054732017321863 tw14973568893810356372 tw5413560300182491768 tw1660831403876125641 tw12109154891633308829 tw1177054639496229618 tw2721782778497025819 tw16818434987872001722 tw1018892268344650305:True)
set_option maxRecDepth 100000 in
set_option maxHeartbeats 0 in
theorem PySem.Challenge.cw_apart_k31_the_same_follows_holds : PySem.Challenge.rw_apart_k31_the_same_follows.Holds := by
 w_on; o_law; k_head; (case hw => w_witness2)
 k_fill
 refine K31.walk (l := PySem.Challenge.rw_apart_k31_the_same_follows) rfl rfl (fun w h Y => PySem.W.kIn_of Y) ?F
 case F =>
   intro w mg fa h KX G hmg
   refine' K31.all_mk KX G hmg ..
   all_goals first
     | (refine' L2.fun_mk ?l ?c ?k; (case l => k_is); (case c => k_is); (case k => k_is))
     | k_is
     | rfl
     | decide
     | decide +kernel
     | exact ⟨⟨_, _, rfl, rfl⟩, ⟨_, _, rfl, rfl⟩, ⟨_, _, rfl, rfl⟩, ⟨_, _, rfl, rfl⟩, ⟨_, _, rfl, rfl⟩, trivial⟩
     | exact ⟨⟨_, _, rfl, rfl⟩, ⟨_, _, rfl, rfl⟩, ⟨_, _, rfl, rfl⟩, trivial⟩
     | (repeat (first | exact .nil | refine .cons ⟨_, rfl⟩ ?_)
        done)
     | skip
