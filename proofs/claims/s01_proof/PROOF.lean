import PyProof.Rows.All
import Wide.All
import OpenK.AllK
import Wide.FinOn
import PyProof.EqAt
import PyProof.EqKinds
import PyProof.TupleCall
import KE.BitLaws
import Open.SpecLaws
import KE.OsHead
import KE.OsGo
import PyProof.ExcInit
import PyProof.ExcBaseAll.Exception
import PyProof.RulesAs
import PyProof.NsDelKeeps
import KE.LcSums
import PySem.Challenge.RW_searchefforts_s01_answers
import PyProof.MaxThree
import PyProof.ListRange
import PyProof.Rows.SeqMore
import KE.KSortTupG
import PyProof.ZipIter
import PyVbmrac
set_option Elab.async false
set_option linter.all false
set_option maxRecDepth 100000
set_option maxHeartbeats 4000000
open PySem.W renaming Frag->ah,nsIn->bt,findIn->bw,keepIn->bY,mg_none_of->cg,fnOf->cz,emptyDict->cM,instObj->dm,mg_of->dt,callWith_K->dJ,codeIn->dW,lookIn->eS,plainGet->eZ,typeIn->fM,hasDictIn->f9,isFn->gC,methodCall_KW->gJ,plainGet_of->g9,looks_clsIn->g_,Looks->h_,plainOver->iA,methodObj->iB,takerIn->iU,makesIn->iV,length_le_weightAllW->iW,clsIn->jk,cellsFrom_some->jv,callWith_K0->jL,handedIn->ke,WRecords->kg,WalkOS->kK,InstAt->kL
open List renaming length_map->aa,getElem?_eq_getElem->af,getElem?_map->ak,length_append->aw,range->az,getD_eq_getElem?_getD->aB,mem_of_getElem?->aC,length_cons->aD,map_append->aF,map_cons->aH,getElem?_eq_none->aI,size_toArray->aK,getElem?_zipWith->aP,mem_cons_of_mem->aQ,length_range->aR,map_map->aW,getElem?_range->bf,getElem?_append_right->bg,getElem?_append_left->bp,append_assoc->bB,append_nil->bD,ext_getElem?->bO,map_congr_left->bP,getElem?_zipIdx->bQ,mem_cons_self->bT,length_take->bW,take_succ->bZ,foldl_cons->ck,getElem_mem->cp,take_of_length_le->cq,getElem_of_mem->cw,mem_append_right->cy,replicate->cG,all_map->cH,not_mem_nil->cJ,getElem?_set_self->cO,mem_map_of_mem->c9,length_zipWith->c_,mem_cons->dh,take_length->dj,contains_iff_mem->dk,lookup->dv,filterMap_cons->dG,lookup_cons->dH,any_eq_true->dI,length_zipIdx->dP,countP_eq_length_filter->dS,getElem?_set->dY,flatten_cons->dZ,zipIdx_cons->d8,drop_eq_getElem_cons->d9,flatMap_append->ee,any_cons->eF,range_succ->eI,length_zip->eJ,find?_cons->eK,count_cons->eM,nodup_nil->eV,flatMap_cons->eW,drop_drop->eX,length_replicate->fm,filter_cons->fq,drop_length->ft,countP_cons->fv,all_eq_true->fz,getElem?_set_ne->fG,length_set->fJ,map_set->fS,map_nil->fT,mem_or_eq_of_mem_set->gm,getElem?_zip_eq_some->gn,foldl_append->gu,all_cons->gA,map_flatMap->gF,length_drop->gG,getElem?_replicate->gH,zipWith_map_right->gO,drop_eq_nil_of_le->gP,of_mem_zip->gS,nodup_cons->gT,nil_append->gU,mem_zipIdx->gW,takeWhile_prefix->gZ,filterMap_append->g0,mem_append_left->ib,map_id->ic,length->ie,forIn_nil->ig,filter_sublist->iy,take_nil->iC,sum_cons->iD,pairwise_map->iR,any_eq_false->iS,map_zipWith->ja,cons_append->jb,forIn_cons->jg,countP_map->jh,mem_of_find?_eq_some->jB,not_any_eq_all_not->jK,zipWith->jO,pairwise_lt_range->jP,any_map->jQ,countP_le_length->j5,mem_of_mem_take->j_,map->ka,findIdx?_isSome->kb,toList_toArray->ko,flatten_append->kq,getElem?_drop->kG,find?_eq_none->kH,contains_cons->kI,nodup_append->kW,nodup_range->k7,map_snd_zip->k8,getElem_map->k9,getElem_inj->k_,flatMap_map->lg,flatMap_def->lh,zipIdx_nil->lD,mem_append->lE,map_take->lX,map_drop->lY
open Nat renaming le_refl->ax,zero_le->aE,le_trans->aT,lt_of_lt_of_le->aU,lt_of_le_of_lt->bH,ne_of_lt->bL,pos_of_ne_zero->b_,le_add_right->cB,lt_succ_self->cK,zero_add->cW,lt_irrefl->cX,mul_le_mul_right->c6,mul_le_mul_left->dg,pow_le_pow_right->dw,add_le_add_left->eu,le_of_lt->fb,mul_assoc->fF,min_eq_left->fO,pow_succ->fY,ne_of_gt->fZ,mul_comm->f6,min_self->f7,mul_left_comm->gy,le_of_succ_le->gz,le_of_eq->gR,lt_trans->iY,lt_succ_of_lt->iZ,mul_lt_mul_of_pos_right->ju,lt_of_mul_lt_mul_right->jA,succ_mul->j3,gcd_comm->j4,le_succ->km,pow_le_pow_left->kF,sub_le->kU,lt_succ_of_le->kZ,gcd->k6,mul_le_mul->lW,succ_pos->mz,log2_lt->mH,mod_lt->mQ
open Option renaming bind_some->dE,map_some->gK,none->iX,toList_some->j7,map->j8,isSome_some->j9,isSome_map->kl,getD_none->kE
open PySem.F renaming plainAttrs_list->aG,type_list_append->a_,slot_list_append->bc,type_list_extend->cS,slot_list_extend->cT,excBase_Exception->je,slot_list_index->js
open Bool renaming false_ne_true->a0,and_eq_true->bj,noConfusion->cf,eq_iff_iff->du,true_and->fE,not_eq_true->gI,or_eq_true->gX,false_and->ij,not_eq_true'->iT,false_eq_true->kJ,and_false->lK,or_false->lZ
open Vbmrac renaming Field->ae,Team->aL,total->aZ,cellAt->bx,more->bC,Cell->bF,inside->bI,step->bM,mustWord->bN,State->bR,nats->bV,bytesOf->bX,thriftTable->b8,Toks->cA,canSearch->cD,cellOf->cF,value->cU,read->cV,mass->cY,gain->c8,Call->de,tooMany->dr,decimal->dB,wordAhead->dC,isText->dD,ordered->dO,wouldFind->dQ,thriftRow->dR,nums->dU,none_->d7,WEIGHT->d_,teamsFrom->eG,less->eN,doing->eO,isCell->eR,slotFor->eY,isLetter->fj,gains->fk,TIME->fo,membersAt->fK,isRow->fL,cellsAt->fP,teamDeal->fU,isDigit->fV,greatest->fW,thrift->f_,adds->gg,thriftFrom->gB,efforts->gY,timesOf->g8,line->ik,chance->il,augment->ip,expected->iz,written->iE,start->iF,CELLS->iG,tokens->iH,timeSum->ji,listed->jj,numAt->jC,canMake->jD,TEAMS->jE,qRow->jR,deal->jS,goesAhead->kr,nameAt->lj,slots->lF,putIn->lG,SLOTS->lH,semi->lL,left->lM,TEXT->lO,weighed->l_,Bad->ma,Q->mC,lowest->mI
open PySem renaming Addr->ag,Value->ao,wpAny_bind->aq,Shared->au,sizeLine->ay,sizeLine_eq->aA,Program->aJ,wpAny_pure->aM,starEach->aN,mainGlobals->aO,model->aS,wpAny->aV,boot_len->aX,World->aY,Spec->bu,Heap->bz,Stmt->bA,mem_of_lookup->bG,Expr->bJ,FuncData->bK,Around->bU,eval->cu,cellsFrom->cE,wpAny_field->cN,wpAny_truthy_bool->cP,wpAny_mono->cQ,compareOp->cR,wpAny_Call_Name_kw->cZ,backTo->c7,NameKind->dF,rawInt->dM,attributeBase->dN,codeAny_mono->dX,wpAny_passesOwn->d6,sysModules->eg,compEnvC->eh,Scope->eQ,behindInMarks->eT,Within->eU,wpAny_setField_rec->e_,keywordEach->ff,wpAny_seqItems->fA,wpAny_pyIter_list->fB,callerA->fC,bootBuiltins->fD,plainObj_wpAny_Assign_Attribute->fH,assignEach->fN,wpAny_holding->fQ,codeAny->fR,sliceBounds->fX,wpAny_execs_nil->gh,holding->gp,pushCells->gx,binaryOp->gE,foldedSetIterable->gL,IsZip->gN,wpAny_standAt->gQ,wpAny_pyIter_zip->hJ,swapsWith->hU,getMethod->hX,backToKw->hZ,wpAny_nextOf_list_item->iq,standAt->ir,pushCells_keeps->iu,letOwnedTupleGo->iw,wpAny_setField->iI,codeAny_call_builtin->iJ,bindArgs->iK,Params->iM,BindsTo->iQ,wpAny_onRaise->i_,wpAny_call->jc,tupleKind_room_in1->jd,Builtin->jf,wpAny_newObj_type->jl,valueAt->jm,getItem->jn,callWith->jo,call->jq,Operator->jr,wpAny_lookBehind->jw,tupleKind->jx,pastItsLine_dict->jy,PyData->jz,wpAny_letGo->jF,subscripted->jG,cLine->jH,Model->jI,IsRangeIter->jJ,notedBy->jM,wpAny_loadPart->jT,pyNext->jU,call_meets->jV,builtinsNs->jW,atKey->jX,assign->jY,wpAny_letOwnedTupleGo_zip->j6,wpAny_attempt->kh,wpAny_callSpecial?_slot->ku,setFlight->kx,bindL->ky,bindC->kz,CmpOp->kC,wpAny_pyNext_range_end->kM,wpAny_pyIter_rangeiter->kN,wpAny_nsSet1->kO,seqIndex_neg->kP,isTrue->kQ,getAttr->kR,Keyword->kS,wpAny_isTrue_Compare1->kX,wpAny_loadName_local->ll,seqIndex_of->lq,rule->lr,excClassObj->lu,wpAny_loadName_cell->lJ,wpAny_pyIter_range->lP,wpAny_Name->lQ,typeOf->lR,typeIs_str->lS,isInstance->lT,Result->lU,wpAny_pyIter_enum->md,wpAny_assign_Name->me,setItem->mf,setAttr->mh,wpAny_execs_cons->mj,wpAny_call_entry->mq,storeName->mr,noteFrame->mv,inplaceOp->mw,PassesOwn->mx,DictEntry->my,recursionLimit->mJ,pyIter->mK,nsFind->mL,newFunctionEnv->mM,compPost->mO,DefRec->mP,rangeSize_one->mR,nums_intItems->mS,intBits_le_64->mT,comprehension->mU,call_list_seq->mV
open PyVbmrac renaming shape->cC,bound->dz,answers->dA,whole->eP,answers_asked->gw
open PyProof.Rows renaming callWith_type1->bS,kindOf->gj,arrOf->gk,AllBare->gq,callWith_builtin1->ia,envOfC->iN,boot_sum->iO,boot_all->iP,lexLt->jt,IntsAre->jN,boot_str->jZ,boot_range->j0,subscriptTail->ki,Constant_none->kj,boot_list->kD,subscriptTail_builtinR->kT,iadd_int->kY,boot_max->lx,Call_->ly,Subscript_->lV,sortedAll_old->mD,sortedAll_at->mE,join_tuple->mF,join_list->mG
namespace L2
open PySem PySem.Spec PyProof.Rows
abbrev Key:=Sum Int Str
def J_:Key->ao->Bool
 | .inl k,v=>Value.isInt k v
 | .inr x,v=>Value.isStrOf x v
def aeb(w:aY):Key->Int
 | .inl k=>hashInt k
 | .inr x=>hashStr w x
theorem qi:∀{k:Key} {v:ao},J_ k v=true->(∃i t,k=Sum.inl i/\v=Value.int i t)\/(∃x t,k=Sum.inr x/\v=Value.str x t)
 | .inl i,v,h=>by
  obtain⟨t,e⟩:=Value.isInt_shape (k:=i) (v:=v) h
  exact .inl ⟨i,t,rfl,e⟩
 | .inr x,v,h=>by
  obtain⟨t,e⟩:=Value.isStrOf_shape (x:=x) (v:=v) h
  exact .inr ⟨x,t,rfl,e⟩
theorem Uh(i:Int)(t:Tok):J_ (.inl i) (.int i t)=true:=by simp[J_,Value.isInt]
theorem Ui(x:Str)(t:Tok):J_ (.inr x) (.str x t)=true:=by simp[J_,Value.isStrOf]
theorem abe(a b:Int):decide ((Sum.inl a:Key)=Sum.inl b)=(a == b):=by
 by_cases e:a=b
 ·subst e;simp
 ·have h:¬ (Sum.inl a:Key)=Sum.inl b:=λ q=>e (Sum.inl.inj q)
  rw[decide_eq_false h]
  exact(beq_eq_false_iff_ne.mpr e).symm
theorem abf(a b:Str):decide ((Sum.inr a:Key)=Sum.inr b)=decide (a=b):=by
 by_cases e:a=b
 ·subst e;simp
 ·have h:¬ (Sum.inr a:Key)=Sum.inr b:=λ q=>e (Sum.inr.inj q)
  rw[decide_eq_false h,decide_eq_false e]
theorem abg(a:Int)(b:Str):decide ((Sum.inl a:Key)=Sum.inr b)=false:=decide_eq_false (λ q=>nomatch q)
theorem abh(a:Str)(b:Int):decide ((Sum.inr a:Key)=Sum.inl b)=false:=decide_eq_false (λ q=>nomatch q)
def qZ(prog:aJ)(w:aY):PySem.KeyKind prog w Key where
 is:=J_
 hash:=aeb w
 inj:=λ v a b ha hb=>by
  rcases qi ha with⟨i,t,rfl,rfl⟩|⟨x,t,rfl,rfl⟩
  ·rcases qi hb with⟨j,u,rfl,e⟩|⟨y,u,rfl,e⟩
   ·injection e with e1 _;rw[e1]
   ·exact nomatch e
  ·rcases qi hb with⟨j,u,rfl,e⟩|⟨y,u,rfl,e⟩
   ·exact nomatch e
   ·injection e with e1 _;rw[e1]
 byValue:=λ k v h=>by
  rcases qi h with⟨i,t,rfl,rfl⟩|⟨x,t,rfl,rfl⟩ <;> rfl
 pyHash:=λ hv h=>by
  rcases qi hv with⟨i,t,rfl,rfl⟩|⟨x,t,rfl,rfl⟩
  ·exact wpAny_pyHash_int h
  ·exact wpAny_pyHash_str h
 eqBool:=λ hu hv h=>by
  rcases qi hu with⟨i,t,rfl,rfl⟩|⟨x,t,rfl,rfl⟩
  ·rcases qi hv with⟨j,u,rfl,rfl⟩|⟨y,u,rfl,rfl⟩
   ·rw[abe]at h;exact wpAny_eqBool_int h
   ·rw[abg]at h;exact SeqAt.EqAt.int_str i t y u _ _ _ _ h
  ·rcases qi hv with⟨j,u,rfl,rfl⟩|⟨y,u,rfl,rfl⟩
   ·rw[abh]at h;exact SeqAt.EqAt.str_int x t j u _ _ _ _ h
   ·rw[abf]at h;exact wpAny_eqBool_str h
 «strs» :=λ k x t v h=>by
  rcases qi h with⟨i,u,rfl,e⟩|⟨y,u,rfl,e⟩
  ·exact nomatch e
  ·injection e with e1 _
   subst e1
   cases v <;> rfl
theorem Np(prog:aJ)(w:aY)(i:Int)(t:Tok):(qZ prog w).is (.inl i) (.int i t)=true:=Uh i t
theorem Nq(prog:aJ)(w:aY)(x:Str)(t:Tok):(qZ prog w).is (.inr x) (.str x t)=true:=Ui x t
end L2
namespace L2
open PySem PySem.Spec PyProof.Rows
inductive V where
 |qA|bl (b:Bool)|int (i:Int)|str (x:Str)|Lq (b:Array UInt8)|flt (b:UInt64)|ref (a:ag)|ty (n:String)
 deriving DecidableEq
def RelV:V->ao->Prop
 | .qA,u=>u=Value.none
 | .bl b,u=>u=Value.bool b
 | .int i,u=>∃t,u=Value.int i t
 | .str x,u=>∃t,u=Value.str x t
 | .Lq b,u=>∃t,u=Value.bytes b t
 | .flt b,u=>∃t,u=Value.float b t
 | .ref a,u=>u=Value.ref a
 | .ty n,u=>u=Value.type n
abbrev Vals:List V->List ao->Prop:=Paired RelV
theorem Vals.length{xs:List V}{us:List ao}(r:Vals xs us):xs.length=us.length:=Paired.length r
theorem Vals.get:∀{xs:List V} {us:List ao} {i:Nat} {x:V},Vals xs us->xs[i]? =some x->∃u,us[i]? =some u/\RelV x u
 |_,_,_,_,.nil,e=>by simp at e
 |_,_,0,_,.cons r _,e=>by simp at e;subst e;exact⟨_,rfl,r⟩
 |_,_,i+1,x,.cons _ t,e=>by
  obtain⟨u,h1,h2⟩:=Vals.get (i:=i) (x:=x) t (by simpa using e)
  exact⟨u,by simpa using h1,h2⟩
theorem Vals.set{x:V}{u:ao}(r:RelV x u):∀{xs:List V} {us:List ao} (i:Nat),Vals xs us->Vals (xs.set i x) (us.set i u)
 |_,_,_,.nil=>.nil
 |_,_,0,.cons _ t=>.cons r t
 |_,_,i+1,.cons q t=>.cons q (Vals.set r i t)
theorem Vals.append:∀{xs ys:List V} {us ws:List ao},Vals xs us->Vals ys ws->Vals (xs++ys) (us++ws)
 |_,_,_,_,.nil,s=>s
 |_,_,_,_,.cons r t,s=>.cons r (Vals.append t s)
theorem Vals.take:∀{xs:List V} {us:List ao} (n:Nat),Vals xs us->Vals (xs.take n) (us.take n)
 |_,_,0,_=>.nil
 |_,_,_+1,.nil=>.nil
 |_,_,n+1,.cons r t=>.cons r (Vals.take n t)
theorem Vals.drop:∀{xs:List V} {us:List ao} (n:Nat),Vals xs us->Vals (xs.drop n) (us.drop n)
 |_,_,0,r=>r
 |_,_,_+1,.nil=>.nil
 |_,_,n+1,.cons _ t=>Vals.drop n t
def wO:Option V->Option ao->Prop
 |some v,some u=>RelV v u
 |none,none=>True
 |_,_=>False
def KV{κ:Type}:List (κ×V)->List (κ×ao)->Prop:=Paired λ(p:κ×V) (q:κ×ao)=>p.1=q.1/\RelV p.2 q.2
def kV:Key->V
 | .inl i=>.int i
 | .inr x=>.str x
inductive HO where
 |lst (xs:List V)
 |tup (xs:List V)
 |dK (oH:List (Key×V))|dT (oH:List (List Key×V))
 |set (S:Int->Bool) (n:Nat)
 |ins (C dx:ag) (fs:List (Str×V))
 |own (x:ag)
 |xd (fs:List (Str×V))
 |met (f x:ag)
 |rng (lo hi:Int)
 |JI (o:Obj) (u:HO)
 |tbl (ps:Array ao)
 |ext (φ:bz->Prop)
abbrev Hp:=ag->Option HO
def upd(H:Hp)(a:ag)(o:HO):Hp:=λ b=>if b=a then some o else H b
theorem mZ{H:Hp}{a:ag}{o:HO}:upd H a o a=some o:=by unfold upd;rw[if_pos rfl]
theorem m4{H:Hp}{a b:ag}{o:HO}(h:b≠a):upd H a o b=H b:=by unfold upd;rw[if_neg h]
theorem acT{H:Hp}{a b:ag}{o u:HO}(h:H a=some o)(h':H b=some u)(d:o≠u):a≠b:=by
 intro e;subst e;rw[h]at h';exact d (Option.some.inj h')
theorem nG{H:Hp}{a b:ag}{o:HO}(h:H a=some o)(h':H b=none):a≠b:=by
 intro e;subst e;rw[h]at h';cases h'
section
variable(P:aJ)(w:aY)
def pP(H:Hp)(h:bz)(a:ag):HO->Prop
 | .lst xs=>xs.length<=ay/\∃(om:List ao) (n:Nat),Vals xs om/\h.get? a=some { cls:=.type "list",data:=.seq om.toArray n }
 | .tup xs=>xs.length<=ay/\∃om:List ao,Vals xs om/\IsTup h a om.toArray
 | .dK oH=>oH.length<=ay/\(a == eg)=false/\∃vs,KV oH vs/\h.DictOf (qZ P w) a vs
 | .dT oH=>oH.length<=ay/\(a == eg)=false/\∃xs:List (List Key×ag×ao),
   Paired (λ(p:List Key×V) (q:List Key×ag×ao)=>p.1=q.1/\H q.2.1=some (.tup (p.1.map kV))/\RelV p.2 q.2.2) oH xs/\
   ∃o es ep,h.get? a=some o/\o.ExactDict/\o.data= .dict es ep/\es.toList=xs.map (entryOfKey (jx (qZ P w)))/\(xs.map (·.1)).Nodup
 | .set S n=>h.SetOf (intKind P w) a S n
 | .ins C dx fs=>H dx=some (.own a)/\fs.length<=1000/\dx≠a/\h.get? a=some (dm C dx)/\
   ∃mA,h.Ns1 dx mA/\(∀f,wO (fs.lookup f) (mA f))/\eU mA (fs.map (·.1))
 | .own _=>∃o,h.get? a=some o
 | .xd fs=>∃mA,h.Ns1 a mA/\∀f,wO (fs.lookup f) (mA f)
 | .rng lo hi=>∃t u v,h.get? a=some { cls:=.type "range",data:=.fields #[.int lo t,.int hi u,.int 1 v] }
 | .JI o u=>h.get? a=some o/\pP H h a u
 | .tbl ps=>h.get? a=some { cls:=.none,data:=.fields ps }
 | .met f x=>h.get? a=some (iB (.ref f) (.ref x))
 | .ext φ=>φ h/\(∃o,h.get? a=some o)/\∀h1 h2:bz,φ h1->(∀o,h1.get? a=some o->h2.get? a=some o)->φ h2
def zD(H:Hp)(h:bz):Prop:=∀a o,H a=some o->pP P w H h a o
end
section
variable{P:aJ}{w:aY}{H H':Hp}{h h':bz}{a:ag}{o:HO}
theorem pP.lt(x:pP P w H h a o):a<h.objs.size:=by
 cases o with
 |lst xs=>obtain⟨_,_,_,_,e⟩:=x;exact Heap.lt_size e
 |tup xs=>obtain⟨_,_,_,p⟩:=x;exact p.lt
 |dK oH=>obtain⟨_,_,_,_,o,_,_,e,_⟩:=x;exact Heap.lt_size e
 |dT oH=>obtain⟨_,_,_,_,o,_,_,e,_⟩:=x;exact Heap.lt_size e
 |set S n=>obtain⟨o,_,_,_,e,_⟩:=x;exact Heap.lt_size e
 |ins C dx fs=>obtain⟨_,_,_,e,_⟩:=x;exact Heap.lt_size e
 |own y=>obtain⟨_,e⟩:=x;exact Heap.lt_size e
 |xd fs=>obtain⟨_,⟨_,_,_,e,_⟩,_⟩:=x;exact Heap.lt_size e
 |rng lo hi=>obtain⟨_,_,_,e⟩:=x;exact Heap.lt_size e
 |JI ob u=>obtain⟨e,_⟩:=x;exact Heap.lt_size e
 |tbl ps=>exact Heap.lt_size (show h.get? a=some _ from x)
 |met f y=>exact Heap.lt_size (show h.get? a=some _ from x)
 |ext φ=>obtain⟨_,⟨_,e⟩,_⟩:=x;exact Heap.lt_size e
theorem Paired.abi{α β:Type}{F G:α->β->Prop}:∀{l₁:List α} {l₂:List β},Paired F l₁ l₂->(∀a b,F a b->G a b)->Paired G l₁ l₂
 |_,_,.nil,_=>.nil
 |_,_,.cons r t,f=>.cons (f _ _ r) (Paired.abi t f)
theorem pP.Ef(x:pP P w H h a o)(k:∀b u,(b=a\/H b=some (.own a))->h.get? b=some u->h'.get? b=some u)
  (ho:∀b,H b=some (.own a)->H' b=some (.own a))(ht:∀b xs,H b=some (.tup xs)->H' b=some (.tup xs)):pP P w H' h' a o:=by
 induction o with
 |lst xs=>obtain⟨z,om,n,r,e⟩:=x;exact⟨z,om,n,r,k _ _ (.inl rfl) e⟩
 |tup xs=>obtain⟨z,om,r,ob,e,c⟩:=x;exact⟨z,om,r,ob,k _ _ (.inl rfl) e,c⟩
 |dK oH=>obtain⟨z,y,vs,r,ob,es,ep,e,c⟩:=x;exact⟨z,y,vs,r,ob,es,ep,k _ _ (.inl rfl) e,c⟩
 |dT oH=>
  obtain⟨z,y,xs,r,ob,es,ep,e,c⟩:=x
  exact⟨z,y,xs,Paired.abi r λ p q z=>⟨z.1,ht _ _ z.2.1,z.2.2⟩,ob,es,ep,k _ _ (.inl rfl) e,c⟩
 |set S n=>obtain⟨ob,es,ep,t,e,c⟩:=x;exact⟨ob,es,ep,t,k _ _ (.inl rfl) e,c⟩
 |ins C dx fs=>
  obtain⟨d,z,ne,e,mA,⟨od,es,ep,e2,c⟩,r⟩:=x
  exact⟨ho _ d,z,ne,k _ _ (.inl rfl) e,mA,⟨od,es,ep,k _ _ (.inr d) e2,c⟩,r⟩
 |own y=>obtain⟨ob,e⟩:=x;exact⟨ob,k _ _ (.inl rfl) e⟩
 |xd fs=>obtain⟨mA,⟨od,es,ep,e,c⟩,r⟩:=x;exact⟨mA,⟨od,es,ep,k _ _ (.inl rfl) e,c⟩,r⟩
 |rng lo hi=>obtain⟨t,u,v,e⟩:=x;exact⟨t,u,v,k _ _ (.inl rfl) e⟩
 |JI ob u ih=>obtain⟨e,q⟩:=x;exact⟨k _ _ (.inl rfl) e,ih q⟩
 |tbl ps=>
  have e:h.get? a=some { cls:=.none,data:=.fields ps }:=x
  show h'.get? a=some { cls:=.none,data:=.fields ps }
  exact k a _ (.inl rfl) e
 |met f y=>
  have e:h.get? a=some (iB (.ref f) (.ref y)):=x
  show h'.get? a=some (iB (.ref f) (.ref y))
  exact k a _ (.inl rfl) e
 |ext φ=>obtain⟨p,⟨o,e⟩,st⟩:=x;exact⟨st _ _ p λ o q=>k _ _ (.inl rfl) q,⟨o,k _ _ (.inl rfl) e⟩,st⟩
theorem zD.lt(x:zD P w H h)(e:H a=some o):a<h.objs.size:=(x a o e).lt
theorem zD.fresh(x:zD P w H h)(e:h.objs.size<=a):H a=none:=by
 cases q:H a with
 |none=>rfl
 |some u=>exact absurd (aU (x.lt q) e) (cX _)
theorem zD.kept(x:zD P w H h)(k:∀b u,h.get? b=some u->h'.get? b=some u):zD P w H h':=λ a o e=>
 (x a o e).Ef (λ b u _ q=>k b u q) (λ _ q=>q) λ _ _ q=>q
theorem zD.laid(x:zD P w H h)(k:∀b u,h.get? b=some u->h'.get? b=some u)(hp:h.objs.size<=a)(new:pP P w (upd H a o) h' a o):zD P w (upd H a o) h':=λ b u e=>by
 have hn:=x.fresh hp
 by_cases hb:b=a
 ·subst hb;rw[mZ]at e;cases e;exact new
 ·rw[m4 hb]at e
  exact(x b u e).Ef (λ c v _ q=>k c v q) (λ c q=>by rw[m4 (nG q hn)];exact q) λ c xs q=>by rw[m4 (nG q hn)];exact q
end
def Rd(H:Hp)(a:ag)(u:HO):Prop:=H a=some u\/∃o,H a=some (.JI o u)
theorem Rd.ok{P:aJ}{w:aY}{H:Hp}{h:bz}{a:ag}{u:HO}(r:Rd H a u)(x:zD P w H h):pP P w H h a u:=by
 rcases r with r|⟨o,r⟩
 ·exact x a u r
 ·obtain⟨_,q⟩:=x a _ r
  exact q
def Mut:Option HO->Prop
 |some (.lst _)=>True
 |some (.dK _)=>True
 |some (.dT _)=>True
 |some (.set _ _)=>True
 |some (.ins _ _ _)=>True
 |some (.ext _)=>True
 |_=>False
section
variable{P:aJ}{w:aY}{H:Hp}{h h':bz}{x e:ag}{o':HO}
theorem zD.write(ok:zD P w H h)(mu:Mut (H x))(he:e=x\/H e=some (.own x))(k:∀b u,b≠e->h.get? b=some u->h'.get? b=some u)(heo:∃u,h'.get? e=some u)
  (new:pP P w (upd H x o') h' x o'):zD P w (upd H x o') h':=λ b u q=>by
 have acU:∀c y,H c=some (.own y)->c≠x:=λ c y r z=>by subst z;rw[r]at mu;exact mu
 have aec:∀c xs,H c=some (.tup xs)->c≠x:=λ c xs r z=>by subst z;rw[r]at mu;exact mu
 by_cases hb:b=x
 ·subst hb;rw[mZ]at q;cases q;exact new
 ·rw[m4 hb]at q
  by_cases Wd:b=e
  ·have q':H b=some (.own x):=by
    rcases he with z|z
    ·exact absurd (Wd.trans z) hb
    ·rw[Wd];exact z
   rw[q]at q';cases q'
   obtain⟨v,hv⟩:=heo
   exact⟨v,by rw[Wd];exact hv⟩
  ·refine(ok b u q).Ef (λ c v hc r=>k c v ?_ r) (λ c r=>by rw[m4 (acU c b r)];exact r) λ c xs r=>by rw[m4 (aec c xs r)];exact r
   rcases hc with rfl|hc
   ·exact Wd
   ·rintro rfl
    rcases he with z|z
    ·exact acU c b hc z
    ·rw[hc]at z;cases z;exact hb rfl
end
structure Un(fs ex:List ag)(H H':Hp)(h h':bz):Prop where
 keep:∀b o,h.get? b=some o->H b=none->b∉fs->b∉ex->h'.get? b=some o
 slot:∀b o,h.get? b=some o->H b=none->b∈fs->b∉ex->∃sl,h'.get? b=some { o with slots:=sl }
 free:∀b o,h.get? b=some o->H b=none->b∉ex->H' b=none
 there:∀b o,h.get? b=some o->b∉ex->∃o',h'.get? b=some o'
 JN:∀b xs,H b=some (.tup xs)->H' b=some (.tup xs)
 GB:∀b o u,H b=some (.JI o u)->H' b=some (.JI o u)
 JO:∀b ps,H b=some (.tbl ps)->∃bC,H' b=some (.tbl (ps++bC))
section
variable{fs fs' ex ex':List ag}{H H1 H2:Hp}{h h1 h2 h':bz}{a x e:ag}{o:HO}
theorem Un.any(u:Un fs ex H H1 h h1){b:ag}{ob:Obj}(q:h.get? b=some ob)(n:H b=none)(hx:b∉ex):∃sl,h1.get? b=some { ob with slots:=sl }:=by
 by_cases hb:b∈fs
 ·exact u.slot b ob q n hb hx
 ·exact⟨ob.slots,u.keep b ob q n hb hx⟩
theorem Un.kept(k:∀b u,h.get? b=some u->h'.get? b=some u):Un fs ex H H h h':=
 ⟨λ b ob q _ _ _=>k b ob q,λ b ob q _ _ _=>⟨ob.slots,k b ob q⟩,λ _ _ _ n _=>n,λ b ob q _=>⟨ob,k b ob q⟩,λ _ _ q=>q,λ _ _ _ q=>q,λ _ ps q=>⟨#[],by rw[q];simp⟩⟩
theorem Un.refl:Un fs ex H H h h:=Un.kept λ _ _ q=>q
theorem Un.laid(k:∀b u,h.get? b=some u->h'.get? b=some u)(hp:h.objs.size<=a)(hn:H a=none):Un fs ex H (upd H a o) h h' where
 keep:=λ b u q _ _ _=>k b u q
 slot:=λ b u q _ _ _=>⟨u.slots,k b u q⟩
 free:=λ b u q n _=>by rw[m4 (bL (aU (Heap.lt_size q) hp))];exact n
 there:=λ b u q _=>⟨u,k b u q⟩
 JN:=λ b xs q=>by rw[m4 (nG q hn)];exact q
 GB:=λ b u xs q=>by rw[m4 (nG q hn)];exact q
 JO:=λ b ps q=>⟨#[],by rw[m4 (nG q hn),q];simp⟩
theorem Un.write(mu:Mut (H x))(he:e=x\/H e=some (.own x))(k:∀b u,b≠e->h.get? b=some u->h'.get? b=some u)(heo:∃u,h'.get? e=some u):Un fs ex H (upd H x o) h h':=by
 have hx:∀b,H b=none->b≠x:=λ b n z=>by subst z;rw[n]at mu;exact mu
 have hb:∀b,H b=none->b≠e:=λ b n z=>by
  subst z
  rcases he with r|r
  ·exact hx b n r
  ·rw[n]at r;cases r
 have hm:∀b u,H b=some u->¬ Mut (some u)->b≠x:=λ b u q nm z=>by subst z;rw[q]at mu;exact nm mu
 refine⟨λ b u q n _ _=>k b u (hb b n) q,λ b u q n _ _=>⟨u.slots,k b u (hb b n) q⟩,λ b u q n _=>by rw[m4 (hx b n)];exact n,λ b u q _=>?_,
  λ b xs q=>by rw[m4 (hm b _ q λ z=>z)];exact q,λ b u xs q=>by rw[m4 (hm b _ q λ z=>z)];exact q,λ b ps q=>⟨#[],by rw[m4 (hm b _ q λ z=>z),q];simp⟩⟩
 by_cases Wd:b=e
 ·subst Wd;exact heo
 ·exact⟨u,k b u Wd q⟩
end
def trk(h:bz)(H:Hp):List ag:=(az h.objs.size).filter λ a=>(H a).isSome
def CW(h:bz)(H:Hp):bz:=PySem.W.hideAll h (trk h H)
theorem Ka(h:bz)(H:Hp):(CW h H).objs.size=h.objs.size:=PySem.W.hideAll_size _ _
theorem Nr{h:bz}{H:Hp}{b:ag}{o:Obj}(e:h.get? b=some o)(n:H b=none):(CW h H).get? b=some o:=
 PySem.W.hideAll_get _ e λ hm=>by
  have q:(H b).isSome=true:=(List.mem_filter.mp hm).2
  rw[n]at q;simp at q
theorem So{h:bz}{H:Hp}{b:ag}{o:Obj}(e:(CW h H).get? b=some o):h.get? b=some o/\H b=none:=by
 have e':h.get? b=some o:=PySem.W.of_hideAll (trk h H) e
 refine⟨e',?_⟩
 cases q:H b with
 |none=>rfl
 |some x=>
  have hm:b∈trk h H:=List.mem_filter.mpr ⟨List.mem_range.mpr (Heap.lt_size e'),by simp[q]⟩
  have z:(CW h H).get? b=none:=PySem.W.hideAll_none (trk h H) hm
  rw[z]at e;cases e
def Zi(g h:bz)(L:ag):List (ag×Obj):=(az h.objs.size).filterMap λ a=>if a=L\/(g.get? a).isSome=true then none else(h.get? a).map λ o=>(a,o)
def rest(g h:bz)(L d:ag):List (ag×Obj):=(Zi g h L).filter λ p=>decide (p.1≠d)
end L2
namespace L2
open PySem PySem.Spec PyProof.Rows
structure Mod(K:ah)(mg:Str->Option ao)(base:bz):Prop where
 Zj:K.In base
 glob:base.Ns aO mg
 blt:∃mb,base.Ns jW mb/\∀x:Str,x≠"__name__"->mb x=fD x
 nolimit:base.NoLimit
structure Cx where
 prog:aJ
 w:aY
 K:ah
 mg:Str->Option ao
 base:bz
 A:bU
 N:List Str
 JP:au
 H_0:Hp
 env:Env
 outer:List Env
 stack:List Env
 ex:List ag
 fn:Str->Bool
 calm:Bool
 pn:List (ag×Obj)
 xe:ao->au->Prop
def PU(l:List Env):List ag:=l.filterMap (·.frame)
abbrev Cx.fs(X:Cx):List ag:=PU X.outer
def Vis(sc:eQ)(x:Str):Prop:=sc.names.lookup x=some .local\/sc.names.lookup x=some .cell\/sc.names.lookup x=some .free
def Loc(sc:eQ)(x:Str):Prop:=sc.names.lookup x=some .local\/sc.names.lookup x=some .cell
def Look(env:Env)(h:bz)(m:Str->Option ao)(x:Str)(u:ao):Prop:=
 (env.kindOf x=some .local/\m x=some u)\/((env.kindOf x=some .cell\/env.kindOf x=some .free)/\∃c,env.cells.lookup x=some c/\h.IsCell c (some u))
structure Cx.Ok(X:Cx):Prop where
 mod:Mod X.K X.mg X.base
 kind:X.env.scope.kind= .function
 glob:X.env.globals=aO
 blt:X.env.builtins=jW
 above:X.JP.heap.objs.size<=X.env.locals
 inj:∀x y c,X.env.cells.lookup x=some c->X.env.cells.lookup y=some c->x=y
 has:∀x,(X.env.kindOf x=some .cell\/X.env.kindOf x=some .free)->∃c,X.env.cells.lookup x=some c
 cab:∀x c,X.fn x=true->X.env.cells.lookup x=some c->X.JP.heap.objs.size<=c
 hd:X.calm=true->X.A.handled=none
 frames:X.A.frames=some X.stack
 stk:X.stack=X.outer\/(X.stack=X.env::X.outer/\X.env.frame=some X.env.locals)
 exf:∀b∈X.ex,b≠X.env.locals/\∀x c,X.env.cells.lookup x=some c->c≠b
 bs:∀b o,X.base.get? b=some o->X.JP.heap.get? b=some o/\X.H_0 b=none
 Sq:X.base.objs.size<=X.JP.heap.objs.size
 Nt:∀b o,X.base.get? b=some o->b∉X.ex
 Nu:∀b∈X.ex,b∉X.fs
 Bf:X.JP.heap.FunFrames X.base X.outer
 VU:∀b∈X.fs,X.H_0 b=none
structure Inv(X:Cx)(pins:List (ag×Obj))(σ:List (Option V))(H:Hp)(s:au):Prop where
 ok:X.Ok
 os:s.os=X.JP.os
 bare:gq s.gens
 base:Un X.fs X.ex X.H_0 H X.JP.heap s.heap
 loc:∃m,s.heap.Ns X.env.locals m/\∀(i:Nat) (x:Str) (v:V),X.N[i]? =some x->σ[i]? =some (some v)->Vis X.env.scope x->∃u,RelV v u/\Look X.env s.heap m x u
 cell:∀x c,X.env.cells.lookup x=some c->∃v,s.heap.IsCell c v
 free:H X.env.locals=none
 uB:∀x c,X.env.cells.lookup x=some c->H c=none
 pin:∀p∈X.pn++pins,s.heap.get? p.1=some p.2/\H p.1=none/\p.1≠X.env.locals/\p.1∉X.fs/\∀v,p.2.data≠ .cell v
 oX:zD X.prog X.w H s.heap
 len:σ.length=X.N.length
section
variable{X:Cx}{pins:List (ag×Obj)}{σ:List (Option V)}{H H':Hp}{s:au}{h':bz}
theorem Cx.Ok.aed(ok:X.Ok){b:ag}{o:Obj}(e:X.base.get? b=some o):b∉X.fs:=λ hb=>by
 have:=(ok.Bf.mem hb).1
 rw[e]at this;cases this
theorem Inv.bs(I:Inv X pins σ H s):∀b o,X.base.get? b=some o->s.heap.get? b=some o/\H b=none:=λ b o e=>
 ⟨I.base.keep b o (I.ok.bs b o e).1 (I.ok.bs b o e).2 (I.ok.aed e) (I.ok.Nt b o e),I.base.free b o (I.ok.bs b o e).1 (I.ok.bs b o e).2 (I.ok.Nt b o e)⟩
theorem Inv.bk(I:Inv X pins σ H s):∀b o,X.base.get? b=some o->s.heap.get? b=some o:=λ b o e=>(I.bs b o e).1
theorem Inv.mod(I:Inv X pins σ H s):Mod X.K X.mg X.base:=I.ok.mod
theorem Inv.Fe(I:Inv X pins σ H s):X.K.In s.heap:=I.ok.mod.Zj.keeps I.bk
theorem Inv.fr(I:Inv X pins σ H s):∃m,Fr X.base X.env.locals s.heap m:=
 let⟨m,hn,_⟩:=I.loc
 ⟨m,hn,I.bk,aT I.ok.Sq I.ok.above⟩
theorem Inv.lt(I:Inv X pins σ H s):X.env.locals<s.heap.objs.size:=let⟨_,hn,_⟩:=I.loc;hn.lt
theorem Inv.sz(I:Inv X pins σ H s):X.JP.heap.objs.size<=s.heap.objs.size:=aT I.ok.above (fb I.lt)
theorem Inv.aee(I:Inv X pins σ H s){a:ag}(h:s.heap.objs.size<=a):a∉X.fs:=λ hb=>by
 obtain⟨_,o,ho,_⟩:=I.ok.Bf.mem hb
 exact absurd (aU (Heap.lt_size ho) (aT I.sz h)) (cX _)
theorem Inv.Zk(I:Inv X pins σ H s):∀x c,X.env.cells.lookup x=some c->c≠X.env.locals:=λ x c e z=>by
 obtain⟨v,o,ho,hd⟩:=I.cell x c e
 obtain⟨m,⟨o',es,ep,Sr,VV,_⟩,_⟩:=I.loc
 rw[z,Sr]at ho;cases ho;rw[VV]at hd;cases hd
theorem Inv.Bf(I:Inv X pins σ H s):s.heap.FunFrames X.base X.outer:=by
 have all:∀(l:List Env),(∀b∈PU l,b∈X.fs)->X.JP.heap.FunFrames X.base l->s.heap.FunFrames X.base l:=by
  intro l
  induction l with
  |nil=>intro _ _;trivial
  |cons env r ih=>
   intro hs hl
   obtain⟨hk,⟨L,o,hf,hn,ho,hd⟩,hr⟩:=hl
   have hL:L∈X.fs:=hs L (by unfold PU;rw[dG,hf];exact bT)
   obtain⟨sl,e⟩:=I.base.slot L o ho (I.ok.VU L hL) hL λ z=>I.ok.Nu L z hL
   exact⟨hk,⟨L,_,hf,hn,e,hd⟩,ih (λ b hb=>hs b (by unfold PU;rw[dG,hf];exact aQ _ hb)) hr⟩
 exact all X.outer (λ _ hb=>hb) I.ok.Bf
theorem Inv.stack(I:Inv X pins σ H s):s.heap.FunFrames X.base X.stack:=by
 rcases I.ok.stk with e|⟨e,hf⟩
 ·rw[e];exact I.Bf
 ·rw[e]
  obtain⟨m,hn,_⟩:=I.loc
  refine .cons (by rw[I.ok.kind];decide) hf hn ?_ I.Bf
  exact Heap.get?_none_of_le (aT I.ok.Sq I.ok.above)
theorem Inv.PV(I:Inv X pins σ H s):∀b∈PU X.stack,b∈X.env.locals::X.fs:=λ b hb=>by
 rcases I.ok.stk with e|⟨e,hf⟩
 ·rw[e]at hb;exact aQ _ hb
 ·rw[e]at hb
  unfold PU at hb
  rw[dG,hf]at hb
  exact hb
theorem Inv.Lr(I:Inv X pins σ H s):∀b∈PU X.stack,H b=none:=λ b hb=>by
 rcases List.mem_cons.mp (I.PV b hb)with e|hb
 ·rw[e];exact I.free
 ·obtain⟨_,o,ho,_⟩:=I.ok.Bf.mem hb
  exact I.base.free b o ho (I.ok.VU b hb) λ z=>I.ok.Nu b z hb
theorem Inv.step{g':Array GenState}{t':Nat}{d':Drawn}{ch:List ag}(I:Inv X pins σ H s)
  (PX:∀b∈ch,(b∈X.ex\/X.JP.heap.objs.size<=b)/\b≠X.env.locals/\(∀x c,X.env.cells.lookup x=some c->c≠b)/\∀p∈X.pn++pins,p.1≠b)
  (keep:∀b o,b≠X.env.locals->b∉X.fs->b∉ch->s.heap.get? b=some o->H b=none->h'.get? b=some o)
  (slot:∀b o,b≠X.env.locals->b∈X.fs->b∉ch->s.heap.get? b=some o->H b=none->∃sl,h'.get? b=some { o with slots:=sl })(free:∀b o,b∉ch->s.heap.get? b=some o->H b=none->H' b=none)
  (there:∀b o,b∉ch->s.heap.get? b=some o->∃o',h'.get? b=some o')
  (JN:∀b xs,H b=some (.tup xs)->H' b=some (.tup xs))(GB:∀b o u,H b=some (.JI o u)->H' b=some (.JI o u))(JO:∀b ps,H b=some (.tbl ps)->∃bC,H' b=some (.tbl (ps++bC)))
  (ns:∀m,s.heap.Ns X.env.locals m->h'.Ns X.env.locals m)(oX:zD X.prog X.w H' h')(hg:gq g'):
  Inv X pins σ H' { s with heap:=h',gens:=g',drawn:=d',toks:=t' }:=by
 have neL:∀b o,X.JP.heap.get? b=some o->b≠X.env.locals:=λ b o e=>bL (aU (Heap.lt_size e) I.ok.above)
 have neC:∀b o,X.JP.heap.get? b=some o->b∉X.ex->b∉ch:=λ b o e hx hb=>by
  rcases(PX b hb).1 with z|z
  ·exact hx z
  ·exact absurd (aU (Heap.lt_size e) z) (cX _)
 have cellK:∀x c,X.env.cells.lookup x=some c->∀v,s.heap.IsCell c v->h'.IsCell c v:=λ x c e v ⟨o,ho,hd⟩=>by
  have nch:c∉ch:=λ z=>(PX c z).2.2.1 x c e rfl
  by_cases hc:c∈X.fs
  ·obtain⟨sl,q⟩:=slot c o (I.Zk x c e) hc nch ho (I.uB x c e)
   exact⟨_,q,hd⟩
  ·exact⟨o,keep c o (I.Zk x c e) hc nch ho (I.uB x c e),hd⟩
 refine⟨I.ok,I.os,hg,⟨λ b o e n hb hx=>?_,λ b o e n hb hx=>?_,λ b o e n hx=>?_,λ b o e hx=>?_,λ b xs e=>JN b xs (I.base.JN b xs e),λ b o xs e=>GB b o xs (I.base.GB b o xs e),λ b ps e=>?_⟩,?_,λ x c e=>?_,?_,λ x c e=>?_,λ p hp=>?_,oX,I.len⟩
 ·exact keep b o (neL b o e) hb (neC b o e hx) (I.base.keep b o e n hb hx) (I.base.free b o e n hx)
 ·obtain⟨sl,e1⟩:=I.base.slot b o e n hb hx
  obtain⟨sl',e2⟩:=slot b _ (neL b o e) hb (neC b o e hx) e1 (I.base.free b o e n hx)
  exact⟨sl',e2⟩
 ·obtain⟨o',e1⟩:=I.base.there b o e hx
  exact free b o' (neC b o e hx) e1 (I.base.free b o e n hx)
 ·obtain⟨o',e1⟩:=I.base.there b o e hx
  exact there b o' (neC b o e hx) e1
 ·obtain⟨m1,e1⟩:=I.base.JO b ps e
  obtain⟨m2,e2⟩:=JO b _ e1
  exact⟨m1++m2,by rw[e2,Array.append_assoc]⟩
 ·obtain⟨m,hn,hl⟩:=I.loc
  refine⟨m,ns m hn,λ i x v e1 e2 e3=>?_⟩
  obtain⟨u,r,l⟩:=hl i x v e1 e2 e3
  refine⟨u,r,?_⟩
  rcases l with l|⟨k,c,e,z⟩
  ·exact .inl l
  ·exact .inr ⟨k,c,e,cellK x c e _ z⟩
 ·obtain⟨v,z⟩:=I.cell x c e
  exact⟨v,cellK x c e v z⟩
 ·obtain⟨m,⟨o,_,_,ho,_⟩,_⟩:=I.loc
  exact free _ o (λ z=>(PX _ z).2.1 rfl) ho I.free
 ·obtain⟨v,o,ho,hd⟩:=I.cell x c e
  exact free c o (λ z=>(PX c z).2.2.1 x c e rfl) ho (I.uB x c e)
 ·obtain⟨e,n,ne,nf,d⟩:=I.pin p hp
  have nch:p.1∉ch:=λ z=>(PX p.1 z).2.2.2 p hp rfl
  exact⟨keep p.1 p.2 ne nf nch e n,free p.1 p.2 nch e n,ne,nf,d⟩
theorem Inv.un{t':Nat}(I:Inv X pins σ H s)(u:Un X.fs [] H H' s.heap h')(oX:zD X.prog X.w H' h'):Inv X pins σ H' { s with heap:=h',toks:=t' }:=by
 obtain⟨m,⟨o,es,ep,ho,r⟩,_⟩:=id I.loc
 obtain⟨sl,hL⟩:=u.any ho I.free (by simp)
 exact I.step (g':=s.gens) (d':=s.drawn) (ch:=[]) (λ _ z=>nomatch z) (λ b o _ hb _ e n=>u.keep b o e n hb (by simp)) (λ b o _ hb _ e n=>u.slot b o e n hb (by simp)) (λ b o _ e n=>u.free b o e n (by simp)) (λ b o _ e=>u.there b o e (by simp)) u.JN u.GB u.JO (λ m' hm=>by
  obtain⟨o',VW,ep',Sr,r'⟩:=hm
  rw[ho]at Sr;cases Sr
  exact⟨_,VW,ep',hL,r'⟩) oX I.bare
theorem Inv.call{g':Array GenState}{t':Nat}{d':Drawn}{ch:List ag}(I:Inv X pins σ H s)(u:Un (PU X.stack) ch H H' s.heap h')(oX:zD X.prog X.w H' h')(hg:gq g')
  (PX:∀b∈ch,(b∈X.ex\/X.JP.heap.objs.size<=b)/\b≠X.env.locals/\(∀x c,X.env.cells.lookup x=some c->c≠b)/\∀p∈X.pn++pins,p.1≠b):
  Inv X pins σ H' { s with heap:=h',gens:=g',drawn:=d',toks:=t' }:=by
 obtain⟨m,⟨o,es,ep,ho,r⟩,_⟩:=id I.loc
 obtain⟨sl,hL⟩:=u.any ho I.free λ z=>(PX _ z).2.1 rfl
 exact I.step (ch:=ch) PX (λ b o hL hb hc e n=>u.keep b o e n (λ z=>(List.mem_cons.mp (I.PV b z)).elim hL hb) hc) (λ b o _ _ hc e n=>u.any e n hc) (λ b o hc e n=>u.free b o e n hc) (λ b o hc e=>u.there b o e hc) u.JN u.GB u.JO (λ m' hm=>by
  obtain⟨o',VW,ep',Sr,r'⟩:=hm
  rw[ho]at Sr;cases Sr
  exact⟨_,VW,ep',hL,r'⟩) oX hg
theorem Inv.turned{t':Nat}{it:ag}(I:Inv X pins σ H s)(k:∀b o,b≠it->s.heap.get? b=some o->h'.get? b=some o)(hn:H it=none)(hL:it≠X.env.locals)
  (h1:it∈X.ex\/X.JP.heap.objs.size<=it)(h2:∀x c,X.env.cells.lookup x=some c->c≠it)(h3:∀p∈X.pn++pins,p.1≠it):Inv X pins σ H { s with heap:=h',toks:=t' }:=by
 have nit:∀b u,H b=some u->b≠it:=λ b u e z=>by rw[z,hn]at e;cases e
 refine I.step (g':=s.gens) (d':=s.drawn) (ch:=[it]) (λ b hb=>?_) (λ b o _ _ hc e _=>k b o (λ z=>hc (by simp[z])) e) (λ b o _ _ hc e _=>⟨o.slots,k b o (λ z=>hc (by simp[z])) e⟩) (λ _ _ _ _ n=>n)
  (λ b o hc e=>⟨o,k b o (λ z=>hc (by simp[z])) e⟩) (λ _ _ e=>e) (λ _ _ _ e=>e) (λ b ps e=>⟨#[],by rw[e];simp⟩) (λ m hm=>?_) (λ b u e=>?_) I.bare
 ·have e:b=it:=by simpa using hb
  subst e
  exact⟨h1,hL,h2,h3⟩
 ·obtain⟨o,es,ep,ho,r⟩:=hm
  exact⟨o,es,ep,k _ o (Ne.symm hL) ho,r⟩
 ·refine(I.oX b u e).Ef (λ c v hc q=>k c v ?_ q) (λ _ q=>q) λ _ _ q=>q
  rcases hc with z|z
  ·rw[z];exact nit b u e
  ·exact nit c _ z
theorem Inv.tok(I:Inv X pins σ H s)(t:Nat):Inv X pins σ H { s with toks:=t }:=I.un (h':=s.heap) (t':=t) Un.refl I.oX
theorem Inv.kept{t':Nat}(I:Inv X pins σ H s)(k:∀b u,s.heap.get? b=some u->h'.get? b=some u):Inv X pins σ H { s with heap:=h',toks:=t' }:=I.un (Un.kept k) (I.oX.kept k)
theorem Inv.laid{a:ag}{o:HO}{t':Nat}(I:Inv X pins σ H s)(k:∀b u,s.heap.get? b=some u->h'.get? b=some u)(hp:s.heap.objs.size<=a)(new:pP X.prog X.w (upd H a o) h' a o):
  Inv X pins σ (upd H a o) { s with heap:=h',toks:=t' }:=I.un (Un.laid k hp (I.oX.fresh hp)) (I.oX.laid k hp new)
theorem Inv.write{x e:ag}{o:HO}{t':Nat}(I:Inv X pins σ H s)(mu:Mut (H x))(he:e=x\/H e=some (.own x))(k:∀b u,b≠e->s.heap.get? b=some u->h'.get? b=some u)(heo:∃u,h'.get? e=some u)
  (new:pP X.prog X.w (upd H x o) h' x o):Inv X pins σ (upd H x o) { s with heap:=h',toks:=t' }:=I.un (Un.write mu he k heo) (I.oX.write mu he k heo new)
theorem Inv.weak{σ':List (Option V)}(I:Inv X pins σ H s)(hl:σ'.length=σ.length)(w:∀(i:Nat) v,σ'[i]? =some (some v)->σ[i]? =some (some v)):Inv X pins σ' H s:=
 ⟨I.ok,I.os,I.bare,I.base,let⟨m,hn,GC⟩:=I.loc;⟨m,hn,λ i x v e1 e2 e3=>GC i x v e1 (w i v e2) e3⟩,I.cell,I.free,I.uB,I.pin,I.oX,hl.trans I.len⟩
theorem Inv.Lu{aaV:List (ag×Obj)}(I:Inv X pins σ H s)(h:∀p∈aaV,s.heap.get? p.1=some p.2/\H p.1=none/\p.1≠X.env.locals/\p.1∉X.fs/\∀v,p.2.data≠ .cell v):Inv X aaV σ H s:=
 ⟨I.ok,I.os,I.bare,I.base,I.loc,I.cell,I.free,I.uB,λ p hp=>(List.mem_append.mp hp).elim (λ z=>I.pin p (ib _ z)) (h p),I.oX,I.len⟩
theorem CY{N:List Str}(hN:N.Nodup){i j:Nat}{x:Str}(a:N[i]? =some x)(b:N[j]? =some x):i=j:=by
 obtain⟨h1,e1⟩:=List.getElem?_eq_some_iff.mp a
 obtain⟨h2,e2⟩:=List.getElem?_eq_some_iff.mp b
 exact(k_ hN).mp (e1.trans e2.symm)
theorem Kb{M:jI}{A:bU}{E:ao->au->Prop}{i:Nat}{x:Str}{v:V}{u:ao}{Q:Unit->au->Prop}(I:Inv X pins σ H s)(hN:X.N.Nodup)(hi:X.N[i]? =some x)(hx:Loc X.env.scope x)(r:RelV v u)
  (h:∀s',Inv X pins (σ.set i (some v)) H s'->(∃a,Heap.SameBut a s.heap s'.heap/\(a=X.env.locals\/X.env.cells.lookup x=some a))->Q () s')(hf:X.fn x=true\/X.env.scope.names.lookup x=some .local:=by first|exact .inl rfl|exact .inr rfl|assumption):aV M A (mr X.env x u) Q E s:=by
 obtain⟨m,hn,hl⟩:=id I.loc
 have abj:(X.env.scope.kind == .class || (X.env.scope.kind == .module && X.env.locals != X.env.globals))=false:=by rw[I.ok.kind];rfl
 have hiσ:i<σ.length:=by rw[I.len];exact(List.getElem?_eq_some_iff.mp hi).1
 have Zk:=I.Zk
 have tracked:∀{a:ag} {h':bz},(∃o,s.heap.get? a=some o/\H a=none)->Heap.SameBut a s.heap h'->zD X.prog X.w H h':=λ{a h'} ha hs b ob e=>by
  obtain⟨_,_,Kd⟩:=ha
  refine(I.oX b ob e).Ef (λ c w' hc q=>(hs.2 c ?_).trans q) (λ _ q=>q) λ _ _ q=>q
  rintro rfl
  rcases hc with rfl|hc
  ·rw[Kd]at e;cases e
  ·rw[Kd]at hc;cases hc
 rcases hx with hk|hk
 ·refine wpAny_storeName_local hk hn (λ h' hn' hs=>?_) abj
  obtain⟨oL,_,_,hoL,_⟩:=id hn
  refine h _ ⟨I.ok,I.os,I.bare,⟨λ b o e n hb hx=>?_,λ b o e n hb hx=>?_,I.base.free,λ b o e hx=>?_,I.base.JN,I.base.GB,I.base.JO⟩,⟨_,hn',λ j y v' e1 e2 e3=>?_⟩,λ y c e=>?_,I.free,I.uB,λ p hp=>?_,tracked ⟨oL,hoL,I.free⟩ hs,by simpa using I.len⟩ ⟨_,hs,.inl rfl⟩
  ·exact(hs.2 b (bL (aU (Heap.lt_size e) I.ok.above))).trans (I.base.keep b o e n hb hx)
  ·obtain⟨sl,e1⟩:=I.base.slot b o e n hb hx
   exact⟨sl,(hs.2 b (bL (aU (Heap.lt_size e) I.ok.above))).trans e1⟩
  ·obtain⟨o',e1⟩:=I.base.there b o e hx
   exact⟨o',(hs.2 b (bL (aU (Heap.lt_size e) I.ok.above))).trans e1⟩
  ·by_cases hj:j=i
   ·subst hj
    rw[hi]at e1;cases e1
    rw[cO hiσ]at e2
    cases e2
    exact⟨u,r,.inl ⟨hk,by simp⟩⟩
   ·rw[fG (Ne.symm hj)]at e2
    obtain⟨u',r',q⟩:=hl j y v' e1 e2 e3
    refine⟨u',r',?_⟩
    rcases q with⟨k,e⟩|⟨k,c,e,z⟩
    ·refine .inl ⟨k,?_⟩
     have:y≠x:=λ e=>hj (CY hN e1 (e ▸ hi))
     simp[this,e]
    ·exact .inr ⟨k,c,e,z.sameBut hs (Zk y c e)⟩
  ·obtain⟨w',z⟩:=I.cell y c e
   exact⟨w',z.sameBut hs (Zk y c e)⟩
  ·obtain⟨e,n,ne,nf,d⟩:=I.pin p hp
   exact⟨(hs.2 p.1 ne).trans e,n,ne,nf,d⟩
 ·have hfn:X.fn x=true:=by
   rcases hf with z|z
   ·exact z
   ·rw[z]at hk;cases hk
  obtain⟨c,hc⟩:=I.ok.has x (.inl hk)
  obtain⟨w',z⟩:=I.cell x c hc
  refine wpAny_storeName_cell I.ok.kind hk hc z (λ h' VX hs=>?_)
  obtain⟨oc,hoc,aef⟩:=id z
  refine h { s with heap:=h' } ⟨I.ok,I.os,I.bare,⟨λ b o e n hb hx=>?_,λ b o e n hb hx=>?_,I.base.free,λ b o e hx=>?_,I.base.JN,I.base.GB,I.base.JO⟩,⟨m,hn.sameBut hs (Ne.symm (Zk x c hc)),λ j y v' e1 e2 e3=>?_⟩,λ y c' e=>?_,I.free,I.uB,λ p hp=>?_,tracked ⟨oc,hoc,I.uB x c hc⟩ hs,by simpa using I.len⟩ ⟨c,hs,.inr hc⟩
  ·exact(hs.2 b (bL (aU (Heap.lt_size e) (I.ok.cab x c hfn hc)))).trans (I.base.keep b o e n hb hx)
  ·obtain⟨sl,e1⟩:=I.base.slot b o e n hb hx
   exact⟨sl,(hs.2 b (bL (aU (Heap.lt_size e) (I.ok.cab x c hfn hc)))).trans e1⟩
  ·obtain⟨o',e1⟩:=I.base.there b o e hx
   exact⟨o',(hs.2 b (bL (aU (Heap.lt_size e) (I.ok.cab x c hfn hc)))).trans e1⟩
  ·by_cases hj:j=i
   ·subst hj
    rw[hi]at e1;cases e1
    rw[cO hiσ]at e2
    cases e2
    exact⟨u,r,.inr ⟨.inl hk,c,hc,VX⟩⟩
   ·rw[fG (Ne.symm hj)]at e2
    obtain⟨u',r',q⟩:=hl j y v' e1 e2 e3
    refine⟨u',r',?_⟩
    rcases q with q|⟨k,c',e,z'⟩
    ·exact .inl q
    ·refine .inr ⟨k,c',e,z'.sameBut hs ?_⟩
     rintro rfl
     exact hj (CY hN e1 (I.ok.inj _ _ _ e hc ▸ hi))
  ·by_cases hcc:c'=c
   ·subst hcc;exact⟨_,VX⟩
   ·obtain⟨w2,z2⟩:=I.cell y c' e
    exact⟨w2,z2.sameBut hs hcc⟩
  ·obtain⟨e,n,ne,nf,d⟩:=I.pin p hp
   refine⟨(hs.2 p.1 ?_).trans e,n,ne,nf,d⟩
   intro q
   rw[q,hoc]at e
   have q':oc=p.2:=Option.some.inj e
   exact d w' (by rw[<-q'];exact aef)
theorem CZ{M:jI}{A:bU}{E:ao->au->Prop}{i:Nat}{x:Str}{v:V}{u:ao}{Q:Unit->au->Prop}(I:Inv X pins σ H s)(hN:X.N.Nodup)(hi:X.N[i]? =some x)(hx:Loc X.env.scope x)(r:RelV v u)
  (h:∀s',Inv X pins (σ.set i (some v)) H s'->Q () s')(hf:X.fn x=true\/X.env.scope.names.lookup x=some .local:=by first|exact .inl rfl|exact .inr rfl|assumption):aV M A (mr X.env x u) Q E s:=
 Kb I hN hi hx r (λ s' I' _=>h s' I') hf
theorem Inv.aaW{s':au}{ch:List ag}(I:Inv X pins σ H s)(ho:s'.os=s.os)(u:Un (PU X.stack) ch H H' s.heap s'.heap)(oX:zD X.prog X.w H' s'.heap)(hg:gq s'.gens)
  (PX:∀b∈ch,(b∈X.ex\/X.JP.heap.objs.size<=b)/\b≠X.env.locals/\(∀x c,X.env.cells.lookup x=some c->c≠b)/\∀p∈X.pn++pins,p.1≠b):Inv X pins σ H' s':=by
 obtain⟨h',g',d',t',o'⟩:=s'
 have e:o'=s.os:=ho
 subst e
 exact I.call (g':=g') (t':=t') (d':=d') u oX hg PX
end
abbrev XK:=ao->Option ag->Hp->Prop
abbrev St:=List (Option V)
abbrev VK:=V->Hp->Prop
abbrev TE:=St->Hp->VK->Prop
abbrev TT:=St->Hp->(Bool->Hp->Prop)->Prop
abbrev TA:=St->Hp->(List V->Hp->Prop)->Prop
structure Ends where
 nx:St->Hp->Prop
 rt:VK
 bk:St->Hp->Prop:=λ _ _=>False
 ct:St->Hp->Prop:=λ _ _=>False
abbrev TS:=Ends->St->Hp->Prop
def EP(X:Cx)(pins:List (ag×Obj))(σ:St)(Q:VK)(u:ao)(s':au):Prop:=∃v H',Inv X pins σ H' s'/\RelV v u/\Q v H'
def TP(X:Cx)(pins:List (ag×Obj))(σ:St)(Q:Bool->Hp->Prop)(b:Bool)(s':au):Prop:=∃H',Inv X pins σ H' s'/\Q b H'
def AP(X:Cx)(pins:List (ag×Obj))(σ:St)(Q:List V->Hp->Prop)(us:List ao)(s':au):Prop:=∃vs H',Inv X pins σ H' s'/\Vals vs us/\Q vs H'
def SP(X:Cx)(pins:List (ag×Obj))(D:Ends)(f:Flow)(s':au):Prop:=
 match f with
 | .next=>∃σ' H',Inv X pins σ' H' s'/\D.nx σ' H'
 | .brk=>∃σ' H',Inv X pins σ' H' s'/\D.bk σ' H'
 | .cont=>∃σ' H',Inv X pins σ' H' s'/\D.ct σ' H'
 | .ret u=>∃v σ' H',Inv X pins σ' H' s'/\RelV v u/\D.rt v H'
def PE(X:Cx)(e:bJ)(t:TE):Prop:=
 ∀(pins:List (ag×Obj)) (s:au) (σ:St) (H:Hp) (Q:VK),Inv X pins σ H s->t σ H Q->aV (aS X.prog X.w) X.A (cu e X.env) (EP X pins σ Q) X.xe s
def PT(X:Cx)(e:bJ)(t:TT):Prop:=
 ∀(pins:List (ag×Obj)) (s:au) (σ:St) (H:Hp) (Q:Bool->Hp->Prop),Inv X pins σ H s->t σ H Q->aV (aS X.prog X.w) X.A (kQ e X.env (cu e X.env)) (TP X pins σ Q) X.xe s
def PW(X:Cx)(e:bJ)(t:TT):Prop:=
 ∀(whole:Sem ao) (pins:List (ag×Obj)) (s:au) (σ:St) (H:Hp) (Q:Bool->Hp->Prop),Inv X pins σ H s->t σ H Q->aV (aS X.prog X.w) X.A (kQ e X.env whole) (TP X pins σ Q) X.xe s
theorem PW.pt{X:Cx}{e:bJ}{t:TT}(h:PW X e t):PT X e t:=h _
def PA(X:Cx)(es:List bJ)(t:TA):Prop:=
 ∀(pos:Pos) (pins:List (ag×Obj)) (s:au) (σ:St) (H:Hp) (Q:List V->Hp->Prop),Inv X pins σ H s->t σ H Q->aV (aS X.prog X.w) X.A (spliced (c7 pos (aN es X.env))) (AP X pins σ Q) X.xe s
def PS(X:Cx)(st:bA)(t:TS):Prop:=
 ∀(pins:List (ag×Obj)) (s:au) (σ:St) (H:Hp) (D:Ends),Inv X pins σ H s->t D σ H->aV (aS X.prog X.w) X.A (exec st X.env) (SP X pins D) X.xe s
def Lv(X:Cx)(st:List bA)(t:TS):Prop:=
 ∀(pins:List (ag×Obj)) (s:au) (σ:St) (H:Hp) (D:Ends),Inv X pins σ H s->t D σ H->aV (aS X.prog X.w) X.A (execs st X.env) (SP X pins D) X.xe s
theorem pM{α:Type}{t:Sem α}{Q Q':α->au->Prop}{M:jI}{A:bU}{E:ao->au->Prop}{s:au}(h:aV M A t Q E s)(hQ:∀a s,Q a s->Q' a s):aV M A t Q' E s:=cQ h hQ λ _ _ x=>x
end L2
namespace L2
open PySem PySem.Spec PyProof.Rows
section
variable{X:Cx}
def Zl(i:Nat):TE:=λ σ H Q=>∃v,σ[i]? =some (some v)/\Q v H
def tC(v:V):TE:=λ _ H Q=>Q v H
theorem abk{i:Nat}{x:Str}{pos:Pos}(hN:X.N[i]? =some x)(hv:Vis X.env.scope x)(hd:(x == ("__debug__":Str))=false:=by decide)(Lw:(x == ("__classdict__":Str))=false:=by decide):PE X (.Name x pos) (Zl i):=by
 intro pins s σ H Q I h
 obtain⟨v,e,h⟩:=h
 obtain⟨m,hn,hl⟩:=I.loc
 obtain⟨u,r,l⟩:=hl i x v hN e hv
 have fin:EP X pins σ Q u s:=⟨v,H,I,r,h⟩
 rcases l with⟨hk,hm⟩|⟨hk,c,hc,Ss⟩
 ·exact lQ (ll I.ok.kind hk hn hm fin) hd
 ·rcases hk with hk|hk
  ·exact lQ (lJ I.ok.kind hk hc Ss fin) hd
  ·exact lQ (wpAny_loadName_free I.ok.kind hk hc Ss fin Lw) hd
theorem nO{i j pos}:PE X (.Constant (.int i) j pos) (tC (.int i)):=λ _ _ _ H _ I h=>wpAny_Constant_int ⟨.int i,H,I.tok _,⟨_,rfl⟩,h⟩
theorem aaX{b j pos}:PE X (.Constant (.bool b) j pos) (tC (.bl b)):=λ _ _ _ H _ I h=>Constant_bool ⟨.bl b,H,I,rfl,h⟩
theorem zE{j pos}:PE X (.Constant .none j pos) (tC .qA):=λ _ _ _ H _ I h=>kj ⟨.qA,H,I,rfl,h⟩
theorem qo{x j pos}:PE X (.Constant (.str x) j pos) (tC (.str x)):=λ _ _ _ H _ I h=>Calls.Constant_str ⟨.str x,H,I.tok _,⟨_,rfl⟩,h⟩
def Gl(X:Cx)(x:Str):Prop:=X.env.kindOf x=some .globalImplicit
theorem xQ{E:ao->au->Prop}{pins:List (ag×Obj)}{s:au}{σ:St}{H:Hp}{x:Str}{u:ao}{pos:Pos}{Q:ao->au->Prop}(I:Inv X pins σ H s)(hg:Gl X x)(hm:X.mg x=some u)(h:Q u s)
  (hd:(x == ("__debug__":Str))=false:=by decide):aV (aS X.prog X.w) X.A (cu (.Name x pos) X.env) Q E s:=
 Calls.Name_function_global I.ok.kind hg (Calls.loadGlobal_global (by rw[I.ok.glob];exact I.mod.glob.keeps I.bk) hm h) hd
theorem vg{E:ao->au->Prop}{pins:List (ag×Obj)}{s:au}{σ:St}{H:Hp}{x:Str}{u:ao}{pos:Pos}{Q:ao->au->Prop}(I:Inv X pins σ H s)(hg:Gl X x)(hm:X.mg x=none)(hv:fD x=some u)(h:Q u s)
  (hn:x≠"__name__":=by decide)(hd:(x == ("__debug__":Str))=false:=by decide):aV (aS X.prog X.w) X.A (cu (.Name x pos) X.env) Q E s:=by
 obtain⟨mb,h1,h2⟩:=I.mod.blt
 exact Calls.Name_function_global I.ok.kind hg (Calls.loadGlobal_builtin (by rw[I.ok.glob];exact I.mod.glob.keeps I.bk) hm (by rw[I.ok.blt];exact h1.keeps I.bk) ((h2 x hn).trans hv) h) hd
theorem Lx{x:Str}{v:V}{u:ao}{pos:Pos}(hg:Gl X x)(hm:X.mg x=some u)(r:RelV v u)(hd:(x == ("__debug__":Str))=false:=by decide):PE X (.Name x pos) (tC v):=
 λ _ _ _ H _ I h=>xQ I hg hm ⟨v,H,I,r,h⟩ hd
variable{a b:bJ}{ta tb:TE}{pos:Pos}
def PC(X:Cx)(op:kC)(a b:bJ)(t:TE):Prop:=
 ∀(pins:List (ag×Obj)) (s:au) (σ:St) (H:Hp) (Q:VK),Inv X pins σ H s->t σ H Q->
  aV (aS X.prog X.w) X.A (cu a X.env) (λ v s₁=>aV (aS X.prog X.w) X.A (cu b X.env) (λ u s₂=>aV (aS X.prog X.w) X.A (cR op v u) (EP X pins σ Q) X.xe s₂) X.xe s₁) X.xe s
theorem We(b:bJ){op:kC}(h:op≠ .In)(h2:op≠ .NotIn):eT op b=false:=by
 have e1:(op == CmpOp.In)=false:=by cases op <;> first|rfl|exact absurd rfl h
 have e2:(op == CmpOp.NotIn)=false:=by cases op <;> first|rfl|exact absurd rfl h2
 cases b <;> simp[eT,e1,e2]
def aeg(ta:TE):TE:=λ σ H Q=>ta σ H λ x H1=>Q (.bl (decide (x= .qA))) H1
def acV(ta:TE):TE:=λ σ H Q=>ta σ H λ x H1=>Q (.bl (!decide (x= .qA))) H1
theorem RelV.Nv{x:V}{v:ao}(r:RelV x v):(v == Value.none)=decide (x= .qA):=by
 cases x with
 |qA=>cases r;rfl
 |bl _=>cases r;rfl
 |int _=>obtain⟨t,rfl⟩:=r;rfl
 |str _=>obtain⟨t,rfl⟩:=r;rfl
 |Lq _=>obtain⟨t,rfl⟩:=r;rfl
 |flt _=>obtain⟨t,rfl⟩:=r;rfl
 |ref _=>cases r;rfl
 |ty _=>cases r;rfl
theorem abl{j pos'}(ha:PE X a ta):PC X .Is a (.Constant .none j pos') (aeg ta):=by
 intro pins s σ H Q I h
 refine pM (ha pins s σ H _ I h) λ v s1 ⟨x,H1,I1,r1,q1⟩=>?_
 exact kj (is_none_gen ⟨.bl _,H1,I1,by rw[r1.Nv];rfl,q1⟩)
theorem Zm{j pos'}(ha:PE X a ta):PC X .IsNot a (.Constant .none j pos') (acV ta):=by
 intro pins s σ H Q I h
 refine pM (ha pins s σ H _ I h) λ v s1 ⟨x,H1,I1,r1,q1⟩=>?_
 exact kj (isnot_none_gen ⟨.bl _,H1,I1,by rw[r1.Nv];rfl,q1⟩)
def tB(t:TE):TT:=λ σ H Q=>t σ H λ x H1=>∃c,x= .bl c/\Q c H1
theorem PY{op:kC}{t:TE}(h:PC X op a b t)(h1:eT op b=false:=by first|exact We _ (by decide) (by decide)|rfl):PT X (.Compare a [op] [b] pos) (tB t):=by
 intro pins s σ H Q I hw
 refine kX (pM (h pins s σ H _ I hw) λ v s1 h1=>pM h1 λ u s2 h2=>pM h2 λ c s3 ⟨x,H1,I1,r1,q1⟩=>?_) h1
 obtain⟨d,rfl,q⟩:=q1
 cases r1
 exact cP ⟨H1,I1,q⟩
theorem tG{e:bJ}{t:TE}(h:PE X e t)(he:∀whole,kQ e X.env whole=(do let v <-whole;ir e.pos;gp [v] (truthy v)):=by intro _;rfl):PT X e (tB t):=by
 intro pins s σ H Q I hw
 refine isTrue_plain (pM (h pins s σ H _ I hw) λ v s1 ⟨x,H1,I1,r1,q1⟩=>?_) (he _)
 obtain⟨d,rfl,q⟩:=q1
 cases r1
 exact cP ⟨H1,I1,q⟩
variable{tA tB':TT}{rest:List bJ}
def aeh(t u:TT):TT:=λ σ H Q=>t σ H λ c H1=>if c=true then u σ H1 Q else Q false H1
def tOr(t u:TT):TT:=λ σ H Q=>t σ H λ c H1=>if c=true then Q true H1 else u σ H1 Q
def acW(t:TT):TT:=λ σ H Q=>t σ H λ c H1=>Q (!c) H1
theorem AO(ha:PT X a tA):PW X (.BoolOp .And [a] pos) tA:=by
 intro wh pins s σ H Q I h
 refine isTrue_and (pM (ha pins s σ H Q I h) λ c s1 e=>?_)
 cases c with
 |true=>exact isTrue_and_nil e
 |false=>exact e
theorem PZ(ha:PT X a tA):PW X (.BoolOp .Or [a] pos) tA:=by
 intro wh pins s σ H Q I h
 refine isTrue_or (pM (ha pins s σ H Q I h) λ c s1 e=>?_)
 cases c with
 |false=>exact isTrue_or_nil e
 |true=>exact e
theorem Eg(ha:PT X a tA)(hb:PW X (.BoolOp .And (b::rest) pos) tB'):PW X (.BoolOp .And (a::b::rest) pos) (aeh tA tB'):=by
 intro wh pins s σ H Q I h
 refine isTrue_and (pM (ha pins s σ H _ I h) λ c s1 ⟨H1,I1,q1⟩=>?_)
 cases c with
 |true=>exact hb wh pins s1 σ H1 Q I1 q1
 |false=>exact⟨H1,I1,q1⟩
theorem Wf(ha:PT X a tA)(hb:PW X (.BoolOp .Or (b::rest) pos) tB'):PW X (.BoolOp .Or (a::b::rest) pos) (tOr tA tB'):=by
 intro wh pins s σ H Q I h
 refine isTrue_or (pM (ha pins s σ H _ I h) λ c s1 ⟨H1,I1,q1⟩=>?_)
 cases c with
 |true=>exact⟨H1,I1,q1⟩
 |false=>exact hb wh pins s1 σ H1 Q I1 q1
theorem vh(ha:PT X a tA):PT X (.UnaryOp .Not a pos) (acW tA):=by
 intro pins s σ H Q I h
 exact isTrue_not (ha pins s σ H (λ c H1=>Q (!c) H1) I h)
def aaY(ta tb:TE):TE:=λ σ H Q=>ta σ H λ x H1=>∃c,x= .bl c/\if c=true then tb σ H1 Q else Q (.bl false) H1
theorem Ly{op}{t:TE}(h:PE X a t):PE X (.BoolOp op [a] pos) t:=λ pins s σ H Q I hw=>BoolOp_one (h pins s σ H Q I hw)
theorem Lz(ha:PE X a ta)(hb:PE X (.BoolOp .And (b::rest) pos) tb):PE X (.BoolOp .And (a::b::rest) pos) (aaY ta tb):=by
 intro pins s σ H Q I h
 refine BoolOp_and (pM (ha pins s σ H _ I h) λ v s1 ⟨x,H1,I1,r1,q1⟩=>?_)
 obtain⟨c,rfl,q1⟩:=q1
 cases r1
 refine cP ?_
 cases c with
 |true=>exact hb pins s1 σ H1 Q I1 q1
 |false=>exact⟨.bl false,H1,I1,rfl,q1⟩
def tIf(t:TT)(ta tb:TE):TE:=λ σ H Q=>t σ H λ c H1=>if c=true then ta σ H1 Q else tb σ H1 Q
theorem Nw{c:bJ}(hc:PT X c tA)(ha:PE X a ta)(hb:PE X b tb):PE X (.IfExp c a b pos) (tIf tA ta tb):=by
 intro pins s σ H Q I h
 refine wpAny_IfExp (pM (hc pins s σ H _ I h) λ d s1 ⟨H1,I1,q1⟩=>?_)
 cases d with
 |true=>exact ha pins s1 σ H1 Q I1 q1
 |false=>exact hb pins s1 σ H1 Q I1 q1
end
end L2
namespace L2
open PySem PySem.Spec PyProof.Rows
def nE(K:ah)(H:Hp)(a:ag)(xs:List V):Prop:=
 Rd H a (.lst xs)\/
  ∃(o:Obj) (om:Array ao) (n:Nat),K.lookup a=some o/\o.cls= .type "list"/\o.dict=none/\o.data= .seq om n/\om.size<=ay/\Vals xs om.toList
def Bi(K:ah)(H:Hp)(a:ag)(xs:List V):Prop:=
 Rd H a (.tup xs)\/
  ∃(o:Obj) (om:Array ao) (n:Nat),K.lookup a=some o/\o.cls= .type "tuple"/\o.data= .seq om n/\om.size<=ay/\Vals xs om.toList
def aei:ao->Option V
 | .none=>some .qA
 | .bool b=>some (.bl b)
 | .int i _=>some (.int i)
 | .str x _=>some (.str x)
 | .bytes b _=>some (.Lq b)
 | .float b _=>some (.flt b)
 | .ref a=>some (.ref a)
 | .type n=>some (.ty n)
 |_=>none
theorem RelV.abs{x:V}{u:ao}(r:RelV x u):aei u=some x:=by
 cases x with
 |qA=>cases r;rfl
 |bl _=>cases r;rfl
 |int _=>obtain⟨t,rfl⟩:=r;rfl
 |str _=>obtain⟨t,rfl⟩:=r;rfl
 |Lq _=>obtain⟨t,rfl⟩:=r;rfl
 |flt _=>obtain⟨t,rfl⟩:=r;rfl
 |ref _=>cases r;rfl
 |ty _=>cases r;rfl
theorem RelV.inj{x y:V}{u:ao}(r:RelV x u)(q:RelV y u):x=y:=Option.some.inj (r.abs.symm.trans q.abs)
theorem Vals.inj:∀{xs ys:List V} {us:List ao},Vals xs us->Vals ys us->xs=ys
 |_,_,_,.nil,.nil=>rfl
 |_,_,_,.cons r t,.cons r' t'=>by rw[r.inj r',Vals.inj t t']
section
variable{X:Cx}{pins:List (ag×Obj)}{σ:St}{H:Hp}{s:au}{a:ag}{xs ys:List V}
theorem nE.of{K:ah}(h:H a=some (.lst xs)):nE K H a xs:=.inl (.inl h)
theorem Bi.of{K:ah}(h:H a=some (.tup xs)):Bi K H a xs:=.inl (.inl h)
theorem Inv.list(I:Inv X pins σ H s)(h:nE X.K H a xs):∃om:List ao,Vals xs om/\PlainL s.heap a om.toArray/\xs.length<=ay:=by
 rcases h with h|⟨o,om,n,hk,hc,hd,hs,hz,r⟩
 ·obtain⟨z,om,n,r,e⟩:=h.ok I.oX
  exact⟨om,r,⟨_,n,e,rfl,rfl,rfl⟩,z⟩
 ·refine⟨om.toList,r,⟨o,n,I.Fe a o hk,hc,hd,by simpa using hs⟩,?_⟩
  have e:=r.length
  simp only[Array.length_toList]at e
  omega
theorem Inv.tuple(I:Inv X pins σ H s)(h:Bi X.K H a xs):∃om:List ao,Vals xs om/\IsTup s.heap a om.toArray/\xs.length<=ay:=by
 rcases h with h|⟨o,om,n,hk,hc,hs,hz,r⟩
 ·obtain⟨z,om,r,p⟩:=h.ok I.oX
  exact⟨om,r,p,z⟩
 ·refine⟨om.toList,r,⟨o,I.Fe a o hk,hc,n,by simpa using hs⟩,?_⟩
  have e:=r.length
  simp only[Array.length_toList]at e
  omega
theorem Inv.vi(I:Inv X pins σ H s)(h:nE X.K H a xs)(h':nE X.K H a ys):xs=ys:=by
 obtain⟨om,r,⟨o,n,e,_,_,d⟩,_⟩:=I.list h
 obtain⟨its',r',⟨o',n',e',_,_,d'⟩,_⟩:=I.list h'
 rw[e]at e';cases e'
 rw[d]at d'
 injection d' with d1 _
 have:om=its':=by simpa using congrArg Array.toList d1
 subst this
 exact r.inj r'
end
abbrev Cx.xR(X:Cx)(E:ao->au->Prop):Cx:={ X with xe:=E }
abbrev Cx.nox(X:Cx):Cx:=X.xR λ _ _=>False
theorem Cx.Ok.xR{X:Cx}(ok:X.Ok)(E:ao->au->Prop):(X.xR E).Ok:=
 ⟨ok.mod,ok.kind,ok.glob,ok.blt,ok.above,ok.inj,ok.has,ok.cab,ok.hd,ok.frames,ok.stk,ok.exf,ok.bs,ok.Sq,ok.Nt,ok.Nu,ok.Bf,ok.VU⟩
theorem Cx.Ok.sF{X:Cx}{E:ao->au->Prop}(ok:(X.xR E).Ok):X.Ok:=
 ⟨ok.mod,ok.kind,ok.glob,ok.blt,ok.above,ok.inj,ok.has,ok.cab,ok.hd,ok.frames,ok.stk,ok.exf,ok.bs,ok.Sq,ok.Nt,ok.Nu,ok.Bf,ok.VU⟩
section
variable{X:Cx}{pins:List (ag×Obj)}{σ:St}{H:Hp}{s:au}{E:ao->au->Prop}
theorem Inv.xR(I:Inv X pins σ H s)(E:ao->au->Prop):Inv (X.xR E) pins σ H s:=⟨I.ok.xR E,I.os,I.bare,I.base,I.loc,I.cell,I.free,I.uB,I.pin,I.oX,I.len⟩
theorem Inv.sF(I:Inv (X.xR E) pins σ H s):Inv X pins σ H s:=⟨I.ok.sF,I.os,I.bare,I.base,I.loc,I.cell,I.free,I.uB,I.pin,I.oX,I.len⟩
theorem SP.sF{D:Ends}{f:Flow}{s':au}(h:SP (X.xR E) pins D f s'):SP X pins D f s':=by
 cases f with
 |next=>obtain⟨σ',H',I,q⟩:=h;exact⟨σ',H',I.sF,q⟩
 |brk=>obtain⟨σ',H',I,q⟩:=h;exact⟨σ',H',I.sF,q⟩
 |cont=>obtain⟨σ',H',I,q⟩:=h;exact⟨σ',H',I.sF,q⟩
 |ret u=>obtain⟨v,σ',H',I,r,q⟩:=h;exact⟨v,σ',H',I.sF,r,q⟩
theorem Lv.nox{st:List bA}{t:TS}(h:Lv X.nox st t):Lv X st t:=λ pins s σ H D I hw=>
 cQ (h pins s σ H D (I.xR _) hw) (λ _ _ q=>q.sF) λ _ _ z=>False.elim z
end
section
variable{X:Cx}{st:bA}{rest:List bA}{t u:TS}{e:bJ}{te:TE}{pos:Pos}
def acX:TS:=λ D σ H=>D.nx σ H
def aej(t u:TS):TS:=λ D σ H=>t { D with nx:=u D } σ H
theorem nZ:Lv X [] acX:=λ _ _ σ H _ I h=>gh ⟨σ,H,I,h⟩
theorem mX(h1:PS X st t)(h2:Lv X rest u):Lv X (st::rest) (aej t u):=by
 intro pins s σ H D I h
 refine mj (pM (h1 pins s σ H { D with nx:=u D } I h) λ f s1 q=>?_)
 cases f with
 |next=>
  obtain⟨σ',H',I',q⟩:=q
  exact h2 pins s1 σ' H' D I' q
 |ret v=>exact q
 |brk=>exact q
 |cont=>exact q
theorem m6(h1:PS X st t):Lv X [st] t:=by
 intro pins s σ H D I h
 refine mj (pM (h1 pins s σ H D I h) λ f s1 q=>?_)
 cases f with
 |next=>exact gh q
 |ret v=>exact q
 |brk=>exact q
 |cont=>exact q
theorem Inv.quiet{pins:List (ag×Obj)}{σ:St}{H:Hp}{s:au}(I:Inv X pins σ H s):interactive X.env=false:=by simp[interactive,I.ok.kind]
def acY(te:TE):TS:=λ D σ H=>te σ H λ _ H1=>D.nx σ H1
theorem n_(he:PE X e te)(hs:hU e none pos.line X.env=pure false:=by rfl):PS X (.Expr e pos) (acY te):=by
 intro pins s σ H D I h
 exact wpAny_Expr_any (pM (he pins s σ H _ I h) λ v s1 ⟨x,H1,I1,r1,q1⟩=>⟨σ,H1,I1,q1⟩) I.quiet hs
def acZ(te:TE):TS:=λ D σ H=>te σ H D.rt
theorem nj(he:PE X e te):PS X (.Return (some e) pos) (acZ te):=by
 intro pins s σ H D I h
 exact wpAny_Return_some (pM (he pins s σ H _ I h) λ v s1 ⟨x,H1,I1,r1,q1⟩=>⟨x,σ,H1,I1,r1,q1⟩)
def abm(c:TT)(t u:TS):TS:=λ D σ H=>c σ H λ b H1=>if b=true then t D σ H1 else u D σ H1
theorem pj{c:bJ}{a b:List bA}{tc:TT}(hc:PT X c tc)(ha:Lv X a t)(hb:Lv X b u):PS X (.If c a b pos) (abm tc t u):=by
 intro pins s σ H D I h
 refine wpAny_If (pM (hc pins s σ H _ I h) λ d s1 ⟨H1,I1,q1⟩=>?_)
 cases d with
 |true=>exact ha pins s1 σ H1 D I1 q1
 |false=>exact hb pins s1 σ H1 D I1 q1
end
abbrev TG:=V->St->Hp->(St->Hp->Prop)->Prop
abbrev TGs:=List V->St->Hp->(St->Hp->Prop)->Prop
def PG(X:Cx)(target:bJ)(t:TG):Prop:=
 ∀(pins:List (ag×Obj)) (s:au) (σ:St) (H:Hp) (v:V) (u:ao) (Q:St->Hp->Prop),Inv X pins σ H s->RelV v u->t v σ H Q->
  aV (aS X.prog X.w) X.A (jY target X.env u) (λ _ s'=>∃σ' H',Inv X pins σ' H' s'/\Q σ' H') X.xe s
def PGs(X:Cx)(ts:List bJ)(t:TGs):Prop:=
 ∀(pins:List (ag×Obj)) (s:au) (σ:St) (H:Hp) (vs:List V) (us:List ao) (Q:St->Hp->Prop),Inv X pins σ H s->Vals vs us->t vs σ H Q->
  aV (aS X.prog X.w) X.A (assignInOrder ((fN ts X.env).map (·.2)) us) (λ _ s'=>∃σ' H',Inv X pins σ' H' s'/\Q σ' H') X.xe s
abbrev Wg:=V->V->V->Hp->(Hp->Prop)->Prop
def abn(X:Cx)(t:Wg):Prop:=
 ∀(pins:List (ag×Obj)) (s:au) (σ:St) (H:Hp) (o i v:V) (ov iv u:ao) (Q:Hp->Prop),Inv X pins σ H s->RelV o ov->RelV i iv->RelV v u->t o i v H Q->
  aV (aS X.prog X.w) X.A (mf ov iv u) (λ _ s'=>∃H',Inv X pins σ H' s'/\Q H') X.xe s
abbrev TIp:=V->V->Hp->VK->Prop
def PIp(X:Cx)(op:jr)(t:TIp):Prop:=
 ∀(pins:List (ag×Obj)) (s:au) (σ:St) (H:Hp) (x y:V) (v u:ao) (Q:VK),Inv X pins σ H s->RelV x v->RelV y u->t x y H Q->
  aV (aS X.prog X.w) X.A (mw op v u) (EP X pins σ Q) X.xe s
section
variable{X:Cx}{pos:Pos}
def Su(i:Nat):TG:=λ v σ H Q=>Q (σ.set i (some v)) H
theorem nA{i:Nat}{x:Str}(hN:X.N.Nodup)(hi:X.N[i]? =some x)(hx:Loc X.env.scope x)(hf:X.fn x=true\/X.env.scope.names.lookup x=some .local:=by first|exact .inl rfl|exact .inr rfl|assumption):PG X (.Name x pos) (Su i):=by
 intro pins s σ H v u Q I r h
 exact me (CZ I hN hi hx r (λ s' I'=>⟨_,H,I',h⟩) hf)
def aek:TGs:=λ vs σ H Q=>vs=[]/\Q σ H
def ac0(t:TG)(u:TGs):TGs:=λ vs σ H Q=>∃v r,vs=v::r/\t v σ H λ σ' H'=>u r σ' H' Q
theorem rC:PGs X [] aek:=by
 intro pins s σ H vs us Q I r h
 obtain⟨e,h⟩:=h
 subst e
 cases r
 exact assignInOrder_nil ⟨σ,H,I,h⟩
theorem oJ{e:bJ}{es:List bJ}{t:TG}{u:TGs}(h1:PG X e t)(h2:PGs X es u)
  (hs:(fN (e::es) X.env).map (·.2)=jY e X.env::(fN es X.env).map (·.2):=by rfl):PGs X (e::es) (ac0 t u):=by
 intro pins s σ H vs us Q I r h
 obtain⟨v,vr,e1,h⟩:=h
 subst e1
 cases r with
 |cons r rr=>
  rw[hs]
  refine assignInOrder_cons (pM (h1 pins s σ H _ _ _ I r h) λ _ s1 ⟨σ1,H1,I1,q1⟩=>?_)
  exact h2 pins s1 σ1 H1 _ _ Q I1 rr q1
def ac1(K:ah)(n:Nat)(t:TGs):TG:=λ v σ H Q=>∃a xs,v= .ref a/\Bi K H a xs/\xs.length=n/\t xs σ H Q
theorem zF{es:List bJ}{k:Nat}{t:TGs}{n:Nat}(hc:X.calm=true)(h:PGs X es t)
  (hn:(fN es X.env).length=n:=by rfl)(LA:(fN es X.env).findIdx? (·.1)=none:=by rfl):PG X (.Tuple es k pos) (ac1 X.K n t):=by
 intro pins s σ H v u Q I r hw
 obtain⟨a,xs,e1,hq,hl,hw⟩:=hw
 subst e1
 cases r
 obtain⟨om,rv,ht,hz⟩:=I.tuple hq
 refine assign_Tuple_tuple (I.ok.hd hc) ht (by simp[hn,<-hl,rv.length]) LA λ h' hx=>?_
 have I1:Inv X pins σ H { s with heap:=h' }:=I.kept (t':=s.toks) λ b o e=>hx b o (bL (Heap.lt_size e)) e
 exact h pins _ σ H xs _ Q I1 (by simpa using rv) hw
def ael(to ti:TE)(t:Wg):TG:=λ v σ H Q=>to σ H λ o H1=>ti σ H1 λ i H2=>t o i v H2 λ H3=>Q σ H3
theorem abo{o i:bJ}{to ti:TE}{t:Wg}(ho:PE X o to)(hi:PE X i ti)(hs:abn X t)
  (ha:∀v,jY (.Subscript o i pos) X.env v=(do
   let ov <-gp [v] (cu o X.env)
   let iv <-gp [v,ov] (cu i X.env)
   ir pos
   gp [v,ov,iv] (mf ov iv v)
   release [v,ov,iv] []):=by intro _;rfl):PG X (.Subscript o i pos) (ael to ti t):=by
 intro pins s σ H v u Q I r h
 rw[ha]
 refine aq (fQ (pM (ho pins s σ H _ I h) λ ov s1 ⟨x,H1,I1,r1,q1⟩=>?_))
 refine aq (fQ (pM (hi pins s1 σ H1 _ I1 q1) λ iv s2 ⟨y,H2,I2,r2,q2⟩=>?_))
 refine aq (gQ (aq (fQ (pM (hs pins s2 σ H2 x y v ov iv u _ I2 r1 r2 r q2) λ _ s3 ⟨H3,I3,q3⟩=>?_))))
 exact wpAny_release ⟨σ,H3,I3,q3⟩
def abp(te:TE)(g:TG):TS:=λ D σ H=>te σ H λ x H1=>g x σ H1 D.nx
theorem abq{tg e:bJ}{te:TE}{g:TG}(he:PE X e te)(hg:PG X tg g)(hs:swapsWithSole [tg] e pos.line X.env=pure false:=by rfl)(hw:swappedStores [tg] e X.env=pure none:=by rfl)
  (h1:(fN [tg] X.env).map (·.2)=[jY tg X.env]:=by rfl):PS X (.Assign [tg] e pos) (abp te g):=by
 intro pins s σ H D I h
 refine wpAny_Assign_stores (pM (he pins s σ H _ I h) λ v s1 ⟨x,H1,I1,r1,q1⟩=>?_) hs hw
 rw[h1]
 exact pM (hg pins s1 σ H1 x v _ I1 r1 q1) λ _ s2 q=>q
theorem m8{i:Nat}{x:Str}{e:bJ}{te:TE}{pos':Pos}(hN:X.N.Nodup)(hi:X.N[i]? =some x)(hx:Loc X.env.scope x)(he:PE X e te)(hs:hU e (some (.Name x pos')) pos.line X.env=pure false:=by rfl)(hf:X.fn x=true\/X.env.scope.names.lookup x=some .local:=by first|exact .inl rfl|exact .inr rfl|assumption):
  PS X (.Assign [.Name x pos'] e pos) (abp te (Su i)):=by
 intro pins s σ H D I h
 refine wpAny_Assign_Name (pM (he pins s σ H _ I h) λ v s1 ⟨y,H1,I1,r1,q1⟩=>?_) hs
 exact CZ I1 hN hi hx r1 (λ s2 I2=>⟨_,H1,I2,q1⟩) hf
def aem(i:Nat)(te:TE)(ti:TIp):TS:=λ D σ H=>∃x,σ[i]? =some (some x)/\te σ H λ y H1=>ti x y H1 λ z H2=>D.nx (σ.set i (some z)) H2
theorem G7{i:Nat}{x:Str}{e:bJ}{te:TE}{op:jr}{ti:TIp}{pos':Pos}(hN:X.N.Nodup)(hi:X.N[i]? =some x)(hx:Loc X.env.scope x)(he:PE X e te)(ho:PIp X op ti)(hf:X.fn x=true\/X.env.scope.names.lookup x=some .local:=by first|exact .inl rfl|exact .inr rfl|assumption):
  PS X (.AugAssign (.Name x pos') op e pos) (aem i te ti):=by
 intro pins s σ H D I h
 obtain⟨v,e1,h⟩:=h
 obtain⟨m,hn,hl⟩:=I.loc
 have vis:Vis X.env.scope x:=by rcases hx with k|k;exact .inl k;exact .inr (.inl k)
 obtain⟨u,r,l⟩:=hl i x v hi e1 vis
 refine wpAny_AugAssign_Name ?_
 have go:aV (aS X.prog X.w) X.A (cu e X.env) (λ w s₂=>aV (aS X.prog X.w) X.A (mw op u w) (λ r s₃=>aV (aS X.prog X.w) X.A (mr X.env x r) (λ _=>SP X pins D .next) X.xe s₃) X.xe s₂) X.xe s:=by
  refine pM (he pins s σ H _ I h) λ w s1 ⟨y,H1,I1,r1,q1⟩=>?_
  refine pM (ho pins s1 σ H1 v y u w _ I1 r r1 q1) λ z s2 ⟨zv,H2,I2,r2,q2⟩=>?_
  exact CZ I2 hN hi hx r2 (λ s3 I3=>⟨_,H2,I3,q2⟩) hf
 rcases l with⟨hk,hm⟩|⟨hk,c,hc,Ss⟩
 ·exact ll I.ok.kind hk hn hm go
 ·rcases hk with hk|hk
  ·exact lJ I.ok.kind hk hc Ss go
  ·rcases hx with k|k
   ·have:X.env.scope.names.lookup x=some .free:=hk
    rw[k]at this;cases this
   ·have:X.env.scope.names.lookup x=some .free:=hk
    rw[k]at this;cases this
def ac2(to ti te:TE)(Zn:V->V->Hp->VK->Prop)(tip:TIp)(Zo:Wg):TS:=λ D σ H=>to σ H λ o H1=>ti σ H1 λ i H2=>Zn o i H2 λ x H3=>te σ H3 λ y H4=>tip x y H4 λ z H5=>Zo o i z H5 λ H6=>D.nx σ H6
def ac3(X:Cx)(t:V->V->Hp->VK->Prop):Prop:=
 ∀(pins:List (ag×Obj)) (s:au) (σ:St) (H:Hp) (o i:V) (ov iv:ao) (Q:VK),Inv X pins σ H s->RelV o ov->RelV i iv->t o i H Q->
  aV (aS X.prog X.w) X.A (jn ov iv) (EP X pins σ Q) X.xe s
theorem AQ{o i e:bJ}{to ti te:TE}{Zn:V->V->Hp->VK->Prop}{tip:TIp}{Zo:Wg}{op:jr}{Bg:Pos}(ho:PE X o to)(hi:PE X i ti)(hg:ac3 X Zn)(he:PE X e te)(hp:PIp X op tip)(hs:abn X Zo)
  (ha:∀ov iv new,augStore i ov iv new=(do gp [new,ov,iv] (mf ov iv new);release [new,ov,iv] [];pure .next):=by intros;rfl):PS X (.AugAssign (.Subscript o i Bg) op e pos) (ac2 to ti te Zn tip Zo):=by
 intro pins s σ H D I h
 refine wpAny_AugAssign_SubscriptAny (pM (ho pins s σ H _ I h) λ ov s1 ⟨x1,H1,I1,r1,q1⟩=>?_) ha
 refine pM (hi pins s1 σ H1 _ I1 q1) λ iv s2 ⟨x2,H2,I2,r2,q2⟩=>?_
 refine pM (hg pins s2 σ H2 x1 x2 ov iv _ I2 r1 r2 q2) λ old s3 ⟨x3,H3,I3,r3,q3⟩=>?_
 refine pM (he pins s3 σ H3 _ I3 q3) λ v s4 ⟨x4,H4,I4,r4,q4⟩=>?_
 refine pM (hp pins s4 σ H4 x3 x4 old v _ I4 r3 r4 q4) λ new s5 ⟨x5,H5,I5,r5,q5⟩=>?_
 exact pM (hs pins s5 σ H5 x1 x2 x5 ov iv new _ I5 r1 r2 r5 q5) λ _ s6 ⟨H6,I6,q6⟩=>⟨σ,H6,I6,q6⟩
def ipI(f:Int->Int->Int):TIp:=λ x y H Q=>∃i j,x= .int i/\y= .int j/\Q (.int (f i j)) H
theorem zG:PIp X .Add (ipI λ i j=>i+j):=by
 intro pins s σ H x y v u Q I r1 r2 h
 obtain⟨i,j,e1,e2,q⟩:=h
 subst e1;subst e2
 obtain⟨t,rfl⟩:=r1
 obtain⟨t',rfl⟩:=r2
 exact kY ⟨.int _,H,I.tok _,⟨_,rfl⟩,q⟩
theorem P_:PIp X .Sub (ipI λ i j=>i-j):=by
 intro pins s σ H x y v u Q I r1 r2 h
 obtain⟨i,j,e1,e2,q⟩:=h
 subst e1;subst e2
 obtain⟨t,rfl⟩:=r1
 obtain⟨t',rfl⟩:=r2
 exact isub_int ⟨.int _,H,I.tok _,⟨_,rfl⟩,q⟩
end
section
variable{X:Cx}{pos:Pos}
def abr(c:TT)(tb:TS):TS:=λ D σ H=>∃W:Nat->St->Hp->Prop,(∃m,W m σ H)/\∀m σ H,W m σ H->
 c σ H λ b H1=>if b=true then ∃N:St->Hp->Prop,(∀σ' H',N σ' H'->∃m',m'<m/\W m' σ' H')/\tb { D with nx:=N,ct:=N,bk:=D.nx } σ H1 else D.nx σ H1
theorem rM{c:bJ}{body:List bA}{tc:TT}{tb:TS}(hp:mx (aS X.prog X.w) X.A X.env X.xe)(hc:PT X c tc)(hb:Lv X body tb):PS X (.While c body [] pos) (abr tc tb):=by
 intro pins s σ H D I h
 obtain⟨W,⟨m0,w0⟩,turn⟩:=h
 refine wpAny_While (codeAny_whileLoop (λ n s'=>∃σ' H',Inv X pins σ' H' s'/\W n σ' H') ?_ m0 ⟨σ,H,I,w0⟩)
 rintro n s1 ⟨σ1,H1,I1,w1⟩
 refine d6 hp (pM (hc pins s1 σ1 H1 _ I1 (turn n σ1 H1 w1)) λ b s2 ⟨H2,I2,q2⟩=>?_)
 cases b with
 |true=>
  obtain⟨N,hN,q2⟩:=q2
  rw[if_pos rfl]
  refine d6 hp (pM (hb pins s2 σ1 H2 _ I2 q2) λ f s3 q3=>?_)
  cases f with
  |next=>
   obtain⟨σ3,H3,I3,n3⟩:=q3
   obtain⟨m',hm,w3⟩:=hN σ3 H3 n3
   exact⟨m',hm,σ3,H3,I3,w3⟩
  |cont=>
   obtain⟨σ3,H3,I3,n3⟩:=q3
   obtain⟨m',hm,w3⟩:=hN σ3 H3 n3
   exact⟨m',hm,σ3,H3,I3,w3⟩
  |brk=>exact q3
  |ret v=>exact q3
 |false=>
  rw[if_neg a0]
  exact gh ⟨σ1,H2,I2,q2⟩
end
structure It where
 go:Nat->Hp->Prop
 G8:Nat->Hp->V->Hp->Prop
 stop:Nat->Hp->Prop
def GD(X:Cx)(pins:List (ag×Obj))(H:Hp)(b:ag):Prop:=
 H b=none/\b≠X.env.locals/\b∉X.fs/\(b∈X.ex\/X.JP.heap.objs.size<=b)/\(∀x c,X.env.cells.lookup x=some c->c≠b)/\∀p∈X.pn++pins,p.1≠b
theorem Inv.Qa{X:Cx}{pins:List (ag×Obj)}{σ:St}{H H':Hp}{s:au}{b:ag}(I:Inv X pins σ H s)(hb:s.heap.objs.size<=b)(hn:H' b=none):GD X pins H' b:=by
 refine⟨hn,fZ (aU I.lt hb),I.aee hb,.inr (aT I.sz hb),λ x c e z=>?_,λ p hp z=>?_⟩
 ·obtain⟨v,q⟩:=I.cell x c e
  exact absurd (aU q.lt (by rw[z];exact hb)) (cX _)
 ·exact absurd (aU (Heap.lt_size (I.pin p hp).1) (by rw[z];exact hb)) (cX _)
structure Turn(P:aJ)(w:aY)(K:ah)(tg:bJ)(J:It)(fp:List ag)(it:ag)(tn:Nat->bz->Prop):Prop where
 mem:it∈fp
 obj:∀i h,tn i h->∀b∈fp,∃o,h.get? b=some o/\∀v,o.data≠ .cell v
 keep:∀i h h',tn i h->(∀b∈fp,∀o,h.get? b=some o->h'.get? b=some o)->tn i h'
 item:∀(X:Cx),X.prog=P->X.w=w->X.K=K->X.calm=true->∀(i:Nat) (pins:List (ag×Obj)) (s:au) (σ:St) (H:Hp) (E:ao->au->Prop),Inv X pins σ H s->(∀b∈fp,GD X pins H b)->tn i s.heap->J.go i H->
  aV (aS P w) X.A (jU (.ref it)) (λ r s1=>∃u,r=some u/\
   aV (aS P w) X.A (iw tg (.ref it) u) (λ _ s2=>∃x H',Inv X pins σ H' s2/\RelV x u/\J.G8 i H x H'/\tn (i+1) s2.heap/\∀b∈fp,H' b=none) E s1) E s
 done:∀(X:Cx),X.prog=P->X.w=w->X.K=K->X.calm=true->∀(i:Nat) (pins:List (ag×Obj)) (s:au) (σ:St) (H:Hp) (E:ao->au->Prop),Inv X pins σ H s->(∀b∈fp,GD X pins H b)->tn i s.heap->J.stop i H->
  aV (aS P w) X.A (jU (.ref it)) (λ r s1=>r=none/\Inv X pins σ H s1) E s
 self:∀(A:bU) (i:Nat) (s:au) (Q:ao->au->Prop) (E:ao->au->Prop),tn i s.heap->Q (.ref it) s->aV (aS P w) A (mK (.ref it)) Q E s
abbrev TI:=St->Hp->(It->Hp->Prop)->Prop
def PIE(X:Cx)(pins:List (ag×Obj))(σ:St)(tg:bJ)(R:It->Hp->Prop)(itv:ao)(s2:au):Prop:=
 ∃(it:ag) (fp:List ag) (tn:Nat->bz->Prop) (J:It) (H':Hp),itv= .ref it/\Inv X pins σ H' s2/\Turn X.prog X.w X.K tg J fp it tn/\tn 0 s2.heap/\(∀b∈fp,GD X pins H' b)/\R J H'
def PI(X:Cx)(tg iter:bJ)(wi:TI):Prop:=
 ∀(pins:List (ag×Obj)) (s:au) (σ:St) (H:Hp) (R:It->Hp->Prop),Inv X pins σ H s->wi σ H R->
  aV (aS X.prog X.w) X.A (cu iter X.env) (λ v s1=>aV (aS X.prog X.w) X.A (mK v) (PIE X pins σ tg R) X.xe s1) X.xe s
theorem Sv{M:jI}{A:bU}{E:ao->au->Prop}{s:au}{tg:bJ}{it:ag}{u:ao}{o:Obj}{n:String}{vs:Array ao}{Q:Unit->au->Prop}(ho:s.heap.get? it=some o)(hc:o.cls= .type n)(hd:o.data= .fields vs)
  (hn:["enumerate","zip","dict_itemiterator","dict_reverseitemiterator","odict_iterator","itertools.zip_longest","itertools.pairwise"].contains n=false)(hQ:Q () s):aV M A (iw tg (.ref it) u) Q E s:=by
 unfold iw
 cases tg <;> first
  |exact aM hQ
  |(cases u <;> first
    |exact aM hQ
    |(refine aq (wpAny_load ho ?_)
      rw[hc,hd]
      show aV M A (if(["enumerate","zip","dict_itemiterator","dict_reverseitemiterator","odict_iterator","itertools.zip_longest","itertools.pairwise"].contains n && vs[0]? == some (dM _))=true then _ else _) Q E s
      rw[if_neg (by intro h;rw[hn,ij]at h;cases h)]
      exact aM hQ))
def Itl(K:ah)(a:ag):It:=
 ⟨λ i H=>∃xs x,nE K H a xs/\xs[i]? =some x,λ i H x H'=>H'=H/\∀xs,nE K H a xs->xs[i]? =some x,λ i H=>∃xs,nE K H a xs/\xs.length<=i⟩
def Itr(lo:Int)(n:Nat):It:=⟨λ i _=>i<n,λ i H x H'=>H'=H/\x= .int (lo+i),λ i _=>n<=i⟩
theorem Uj{P:aJ}{w:aY}{K:ah}{tg:bJ}(a it:ag):Turn P w K tg (Itl K a) [it] it (λ i h=>h.IsListIter it a i) where
 mem:=by simp
 obj:=λ i h st b hb=>by
  have e:b=it:=by simpa using hb
  subst e
  obtain⟨o,e,c,d⟩:=st
  exact⟨o,e,λ v z=>by rw[d]at z;cases z⟩
 keep:=λ i h h' st k=>st.at λ o e=>k it (by simp) o e
 item:=by
  intro X hP hw hK hc i pins s σ H E I hf st hg
  subst hP hw hK
  obtain⟨xs,x,hq,hx⟩:=hg
  obtain⟨om,rv,p,hz⟩:=I.list hq
  obtain⟨u,hu,ru⟩:=rv.get hx
  obtain⟨f0,f1,f2,f3,f4,f5⟩:=hf it (by simp)
  refine wpAny_pyNext_list_item st p.isList (x:=u) (by simpa using hu) λ h' D_ sb=>?_
  have I1:Inv X pins σ H { s with heap:=h' }:=I.turned (t':=s.toks) (λ b o hb e=>(sb.2 b hb).trans e) f0 f1 f3 f4 f5
  obtain⟨o,e,c,d⟩:=id D_
  exact⟨u,rfl,Sv (s:={ s with heap:=h' }) e c d (by decide) ⟨x,H,I1,ru,⟨rfl,λ ys hy=>by rw[I.vi hy hq];exact hx⟩,D_,λ b hb=>(hf b hb).1⟩⟩
 done:=by
  intro X hP hw hK hc i pins s σ H E I hf st hg
  subst hP hw hK
  obtain⟨xs,hq,hx⟩:=hg
  obtain⟨om,rv,p,hz⟩:=I.list hq
  obtain⟨f0,f1,f2,f3,f4,f5⟩:=hf it (by simp)
  have hl:=rv.length
  exact wpAny_pyNext_list_end (I.ok.hd hc) st p.isList (by simp;omega) λ h' eb=>⟨rfl,I.turned (t':=s.toks) (λ b o hb e=>eb b o hb e) f0 f1 f3 f4 f5⟩
 self:=λ _ _ _ _ _ st h=>wpAny_pyIter_listiter st h
theorem Qb{P:aJ}{w:aY}{K:ah}{tg:bJ}(it:ag)(lo:Int)(n:Nat):Turn P w K tg (Itr lo n) [it] it (λ i h=>jJ h it (lo+(i:Nat)*1) ((n:Int)-(i:Nat)) 1) where
 mem:=by simp
 obj:=λ i h st b hb=>by
  have e:b=it:=by simpa using hb
  subst e
  exact⟨_,st,λ v z=>by
   have z':Data.fields _=Data.cell v:=z
   cases z'⟩
 keep:=λ i h h' st k=>k it (by simp) _ st
 item:=by
  intro X hP hw hK hc i pins s σ H E I hf st hg
  subst hP hw hK
  obtain⟨f0,f1,f2,f3,f4,f5⟩:=hf it (by simp)
  have W:=Walks.range (prog:=X.prog) (w:=X.w) (I.ok.hd hc) it lo 1 n
  refine W.item i s _ _ hg st λ v h' tk hv D_ kk=>?_
  obtain⟨t,rfl⟩:=hv
  have I1:Inv X pins σ H { s with heap:=h',toks:=tk }:=I.turned (λ b o hb e=>kk b o (by simpa using hb) e) f0 f1 f3 f4 f5
  refine⟨_,rfl,Sv (s:={ s with heap:=h',toks:=tk }) (n:="range_iterator") D_ rfl rfl (by decide) ⟨.int (lo+i),H,I1,⟨t,?_⟩,⟨rfl,rfl⟩,D_,λ b hb=>(hf b hb).1⟩⟩
  rw[Int.mul_one]
 done:=by
  intro X hP hw hK hc i pins s σ H E I hf st hg
  subst hP hw hK
  obtain⟨f0,f1,f2,f3,f4,f5⟩:=hf it (by simp)
  exact kM (I.ok.hd hc) st (by have:n<=i:=hg;omega) λ h' eb=>⟨rfl,I.turned (t':=s.toks) (λ b o hb e=>eb b o hb e) f0 f1 f3 f4 f5⟩
 self:=λ _ _ _ _ _ st h=>kN st h
end L2
namespace L2
open PySem PySem.Spec PyProof.Rows
section
variable{X:Cx}{tg:bJ}
def ac4(K:ah)(tl:TE):TI:=λ σ H R=>tl σ H λ x H1=>∃a,x= .ref a/\(∃xs,nE K H1 a xs)/\R (Itl K a) H1
theorem oM{l:bJ}{tl:TE}(hl:PE X l tl):PI X tg l (ac4 X.K tl):=by
 intro pins s σ H R I h
 refine pM (hl pins s σ H _ I h) λ v s1 ⟨x,H1,I1,r1,q1⟩=>?_
 obtain⟨a,e,⟨xs,hq⟩,q⟩:=q1
 subst e
 cases r1
 obtain⟨om,rv,p,hz⟩:=I1.list hq
 refine fB p.isList ?_
 refine⟨s1.heap.objs.size,[s1.heap.objs.size],_,_,H1,rfl,I1.kept (t':=s1.toks) λ b o e=>Heap.get?_push_of_some _ e,Uj a _,⟨_,Heap.get?_push_size _ rfl,rfl,rfl⟩,λ b hb=>?_,q⟩
 have e:b=s1.heap.objs.size:=by simpa using hb
 subst e
 exact I1.Qa (ax _) (I1.oX.fresh (ax _))
theorem Ny{pins:List (ag×Obj)}{σ:St}{H:Hp}{s:au}{R:It->Hp->Prop}{E:ao->au->Prop}{lo hi:Int}{t u v:Tok}{tk:Nat}(I:Inv X pins σ H s)(h1: -(2 ^ 62)<=lo)(h2:lo<2 ^ 62)(h3: -(2 ^ 62)<=hi)(h4:hi<2 ^ 62)
  (q:R (Itr lo (hi-lo).toNat) H):aV (aS X.prog X.w) X.A (mK (.ref s.heap.objs.size)) (PIE X pins σ tg R) E { s with heap:=s.heap.push { cls:=.type "range",data:=.fields #[.int lo t,.int hi u,.int 1 v] },toks:=tk }:=by
 refine lP (IsRange.new ..) (small_one h1 h2 h3 h4) ?_
 have I1:Inv X pins σ H { s with heap:=s.heap.push { cls:=.type "range",data:=.fields #[.int lo t,.int hi u,.int 1 v] },toks:=tk }:=I.kept λ b o e=>Heap.get?_push_of_some _ e
 refine⟨(s.heap.push { cls:=.type "range",data:=.fields #[.int lo t,.int hi u,.int 1 v] }).objs.size,[(s.heap.push { cls:=.type "range",data:=.fields #[.int lo t,.int hi u,.int 1 v] }).objs.size],_,_,H,rfl,
  I1.kept (t':=tk) λ b o e=>Heap.get?_push_of_some _ e,Qb _ lo (hi-lo).toNat,?_,λ b hb=>?_,q⟩
 ·have e1:lo+((0:Nat):Int)*1=lo:=by simp
  have e2:(((hi-lo).toNat:Nat):Int)-((0:Nat):Int)=Builtin.Range.rangeSize lo hi 1:=by rw[mR];split <;> omega
  show jJ _ _ (lo+((0:Nat):Int)*1) ((((hi-lo).toNat:Nat):Int)-((0:Nat):Int)) 1
  rw[e1,e2]
  exact Heap.get?_push_size _ rfl
 ·have e:b=(s.heap.push { cls:=.type "range",data:=.fields #[.int lo t,.int hi u,.int 1 v] }).objs.size:=by simpa using hb
  subst e
  exact I1.Qa (ax _) (I1.oX.fresh (ax _))
def ac5(ta:TA):TI:=λ σ H R=>ta σ H λ vs H1=>∃j:Int,vs=[.int j]/\ -(2 ^ 62)<=j/\j<2 ^ 62/\R (Itr 0 j.toNat) H1
def ac6(ta:TA):TI:=λ σ H R=>ta σ H λ vs H1=>∃i j:Int,vs=[.int i,.int j]/\(-(2 ^ 62)<=i/\i<2 ^ 62/\ -(2 ^ 62)<=j/\j<2 ^ 62)/\R (Itr i (j-i).toNat) H1
theorem xx{a:bJ}{ta:TA}{p pos:Pos}(hg:Gl X "range")(hm:X.mg "range"=none)(ha:PA X [a] ta)(hs:aN [a] X.env=[(false,cu a X.env)]:=by rfl):PI X tg (.Call (.Name "range" p) [a] [] pos) (ac5 ta):=by
 intro pins s σ H R I h
 refine ly (vg I hg hm j0 (bS (pM (ha pos pins s σ H _ I h) λ us s1 ⟨vs,H1,I1,r1,q1⟩=>?_) hs rfl))
 obtain⟨j,e,q1,q2,q⟩:=q1
 subst e
 cases r1 with
 |cons r rr=>
  cases rr
  obtain⟨t,rfl⟩:=r
  exact call_range_1 (Ny I1 (by omega) (by omega) q1 q2 (by simpa using q))
theorem Ke{a b:bJ}{ta:TA}{p pos:Pos}(hg:Gl X "range")(hm:X.mg "range"=none)(ha:PA X [a,b] ta)(hs:aN [a,b] X.env=[(false,cu a X.env),(false,cu b X.env)]:=by rfl)(Uk:aN [b] X.env=[(false,cu b X.env)]:=by rfl):
  PI X tg (.Call (.Name "range" p) [a,b] [] pos) (ac6 ta):=by
 intro pins s σ H R I h
 refine ly (vg I hg hm j0 (bS (pM (ha pos pins s σ H _ I h) λ us s1 ⟨vs,H1,I1,r1,q1⟩=>?_) (by rw[hs,Uk]) (by rw[Uk];rfl)))
 obtain⟨i,j,e,⟨q1,q2,q3,q4⟩,q⟩:=q1
 subst e
 cases r1 with
 |cons r rr=>
  cases rr with
  |cons r' rr=>
   cases rr
   obtain⟨t,rfl⟩:=r
   obtain⟨t',rfl⟩:=r'
   exact call_range_2 (Ny I1 q1 q2 q3 q4 q)
def aen(wi:TI)(g:TG)(tb:TS):TS:=λ D σ H=>wi σ H λ J H1=>∃W:Nat->Nat->St->Hp->Prop,(∃m,W 0 m σ H1)/\∀i m σ H,W i m σ H->
 (J.stop i H/\D.nx σ H)\/(J.go i H/\∃N:St->Hp->Prop,(∀σ' H',N σ' H'->∃m',m'<m/\W (i+1) m' σ' H')/\∀x H',J.G8 i H x H'->g x σ H' λ σ2 H2=>tb { D with nx:=N,ct:=N,bk:=D.nx } σ2 H2)
def G9(fp:List ag)(h:bz):List (ag×Obj):=fp.filterMap λ b=>(h.get? b).map λ o=>(b,o)
theorem BC{fp:List ag}{h:bz}{b:ag}{o:Obj}(hb:b∈fp)(e:h.get? b=some o):(b,o)∈G9 fp h:=List.mem_filterMap.mpr ⟨b,hb,by rw[e];rfl⟩
theorem Ul{fp:List ag}{h:bz}{p:ag×Obj}(hp:p∈G9 fp h):p.1∈fp/\h.get? p.1=some p.2:=by
 obtain⟨b,hb,e⟩:=List.mem_filterMap.mp hp
 cases q:h.get? b with
 |none=>rw[q]at e;cases e
 |some o=>
  rw[q]at e
  have e':(b,o)=p:=Option.some.inj e
  subst e'
  exact⟨hb,q⟩
theorem Inv.pinned{pins:List (ag×Obj)}{σ:St}{H:Hp}{s:au}{fp:List ag}(I:Inv X pins σ H s)(hf:∀b∈fp,GD X pins H b)(ho:∀b∈fp,∃o,s.heap.get? b=some o/\∀v,o.data≠ .cell v):Inv X (pins++G9 fp s.heap) σ H s:=
 I.Lu λ p hp=>(List.mem_append.mp hp).elim (λ z=>I.pin p (cy _ z)) λ z=>by
  obtain⟨hb,e⟩:=Ul z
  obtain⟨f0,f1,f2,_⟩:=hf p.1 hb
  obtain⟨o,e',d⟩:=ho p.1 hb
  rw[e]at e';cases e'
  exact⟨e,f0,f1,f2,d⟩
theorem Inv.xy{pins pl:List (ag×Obj)}{σ:St}{H:Hp}{s:au}(I:Inv X (pins++pl) σ H s):Inv X pins σ H s:=I.Lu λ p hp=>I.pin p (cy _ (ib _ hp))
theorem qB{iter:bJ}{body:List bA}{wi:TI}{g:TG}{tb:TS}{pos:Pos}(hp:mx (aS X.prog X.w) X.A X.env X.xe)(hc:X.calm=true)(hi:PI X tg iter wi)(hg:PG X tg g)(hb:Lv X body tb)
  (hs:∀x,gL iter X.env x=pure x:=by intro _;rfl):PS X (.For tg iter body [] pos) (aen wi g tb):=by
 intro pins s σ H D I h
 refine wpAny_For (pM (hi pins s σ H _ I h) λ v s1 h1=>pM h1 λ itv s2 h2=>?_) hs
 obtain⟨it,fp,tn,J,H2,e,I2,T,st2,f2,W,⟨m0,w0⟩,turn⟩:=h2
 subst e
 have Qc:∀{H':Hp},(∀b∈fp,H' b=none)->∀b∈fp,GD X pins H' b:=λ hn b hb=>⟨hn b hb,(f2 b hb).2⟩
 refine codeAny_forLoop_any (λ n s'=>∃i σ' H',Inv X pins σ' H' s'/\tn i s'.heap/\(∀b∈fp,H' b=none)/\W i n σ' H') ?_ m0 ⟨0,σ,H2,I2,st2,λ b hb=>(f2 b hb).1,w0⟩
 rintro n s3 ⟨i,σ3,H3,I3,st3,fr3,w3⟩
 rcases turn i n σ3 H3 w3 with⟨stop,qn⟩|⟨go,N,hN,step⟩
 ·refine d6 hp (pM (T.done X rfl rfl rfl hc i pins s3 σ3 H3 X.xe I3 (Qc fr3) st3 stop) λ r s4 ⟨hr,I4⟩=>?_)
  subst hr
  exact gh ⟨σ3,H3,I4,qn⟩
 ·refine d6 hp (pM (T.item X rfl rfl rfl hc i pins s3 σ3 H3 X.xe I3 (Qc fr3) st3 go) λ r s4 ⟨u,hr,h4⟩=>?_)
  subst hr
  refine d6 hp (pM h4 λ _ s5 ⟨x,H5,I5,r5,y5,st5,fr5⟩=>?_)
  have I5':=I5.pinned (Qc fr5) (T.obj _ _ st5)
  refine d6 hp (pM (hg _ s5 σ3 H5 x u _ I5' r5 (step x H5 y5)) λ _ s6 ⟨σ6,H6,I6,q6⟩=>?_)
  refine d6 hp (pM (hb _ s6 σ6 H6 _ I6 q6) λ f s7 q7=>?_)
  have again:∀{σ7:St} {H7:Hp},Inv X (pins++G9 fp s5.heap) σ7 H7 s7->N σ7 H7->∃m,m<n/\∃i σ' H',Inv X pins σ' H' s7/\tn i s7.heap/\(∀b∈fp,H' b=none)/\W i m σ' H':=λ{σ7 H7} I7 n7=>by
   obtain⟨m',hm,w7⟩:=hN σ7 H7 n7
   refine⟨m',hm,i+1,σ7,H7,I7.xy,T.keep _ _ _ st5 λ b hb o e=>(I7.pin (b,o) (cy _ (cy _ (BC hb e)))).1,λ b hb=>?_,w7⟩
   obtain⟨o,e,d⟩:=T.obj _ _ st5 b hb
   exact(I7.pin (b,o) (cy _ (cy _ (BC hb e)))).2.1
  cases f with
  |next=>obtain⟨σ7,H7,I7,n7⟩:=q7;exact again I7 n7
  |cont=>obtain⟨σ7,H7,I7,n7⟩:=q7;exact again I7 n7
  |brk=>obtain⟨σ7,H7,I7,q7⟩:=q7;exact⟨σ7,H7,I7.xy,q7⟩
  |ret v=>obtain⟨x7,σ7,H7,I7,r7,q7⟩:=q7;exact⟨x7,σ7,H7,I7.xy,r7,q7⟩
end
theorem rh{K:ah}{a:ag}{xs:List V}{g:TG}{tb:TS}{D:Ends}{σ:St}{H:Hp}(Pv:Nat->St->Hp->Prop)(h0:Pv 0 σ H)(hl:∀i σ H,i<=xs.length->Pv i σ H->nE K H a xs)
  (hs:∀i x σ H,xs[i]? =some x->Pv i σ H->g x σ H λ σ2 H2=>tb { D with nx:=Pv (i+1),ct:=Pv (i+1),bk:=D.nx } σ2 H2)(hd:∀σ H,Pv xs.length σ H->D.nx σ H):
  ∃W:Nat->Nat->St->Hp->Prop,(∃m,W 0 m σ H)/\∀i m σ H,W i m σ H->
   ((Itl K a).stop i H/\D.nx σ H)\/((Itl K a).go i H/\∃N:St->Hp->Prop,(∀σ' H',N σ' H'->∃m',m'<m/\W (i+1) m' σ' H')/\∀x H',(Itl K a).G8 i H x H'->g x σ H' λ σ2 H2=>tb { D with nx:=N,ct:=N,bk:=D.nx } σ2 H2):=by
 refine⟨λ i m σ H=>m=xs.length-i/\i<=xs.length/\Pv i σ H,⟨xs.length,by simp,aE _,h0⟩,?_⟩
 rintro i m σ H ⟨rfl,hi,p⟩
 have q:=hl i σ H hi p
 by_cases rN:i<xs.length
 ·refine .inr ⟨⟨xs,xs[i],q,by simp[rN]⟩,Pv (i+1),λ σ' H' p'=>⟨xs.length-(i+1),by omega,rfl,rN,p'⟩,λ x H' y=>?_⟩
  obtain⟨e,y⟩:=y
  subst e
  exact hs i x σ _ (y xs q) p
 ·have e:i=xs.length:=by omega
  subst e
  exact .inl ⟨⟨xs,q,ax _⟩,hd σ H p⟩
theorem Um{lo:Int}{n:Nat}{g:TG}{tb:TS}{D:Ends}{σ:St}{H:Hp}(Pv:Nat->St->Hp->Prop)(h0:Pv 0 σ H)
  (hs:∀i σ H,i<n->Pv i σ H->g (.int (lo+i)) σ H λ σ2 H2=>tb { D with nx:=Pv (i+1),ct:=Pv (i+1),bk:=D.nx } σ2 H2)(hd:∀σ H,Pv n σ H->D.nx σ H):
  ∃W:Nat->Nat->St->Hp->Prop,(∃m,W 0 m σ H)/\∀i m σ H,W i m σ H->
   ((Itr lo n).stop i H/\D.nx σ H)\/((Itr lo n).go i H/\∃N:St->Hp->Prop,(∀σ' H',N σ' H'->∃m',m'<m/\W (i+1) m' σ' H')/\∀x H',(Itr lo n).G8 i H x H'->g x σ H' λ σ2 H2=>tb { D with nx:=N,ct:=N,bk:=D.nx } σ2 H2):=by
 refine⟨λ i m σ H=>m=n-i/\i<=n/\Pv i σ H,⟨n,by simp,aE _,h0⟩,?_⟩
 rintro i m σ H ⟨rfl,hi,p⟩
 by_cases rN:i<n
 ·refine .inr ⟨rN,Pv (i+1),λ σ' H' p'=>⟨n-(i+1),by omega,rfl,rN,p'⟩,λ x H' y=>?_⟩
  obtain⟨e,y⟩:=y
  subst e y
  exact hs i σ _ rN p
 ·have e:i=n:=by omega
  subst e
  exact .inl ⟨ax _,hd σ H p⟩
end L2
namespace L2
open PySem PySem.Spec PyProof.Rows
abbrev R2:=V->V->Hp->VK->Prop
def Ea(X:Cx)(f:ao->ao->Sem ao)(r:R2):Prop:=
 ∀(pins:List (ag×Obj)) (s:au) (σ:St) (H:Hp) (x y:V) (v u:ao) (Q:VK),Inv X pins σ H s->RelV x v->RelV y u->r x y H Q->
  aV (aS X.prog X.w) X.A (f v u) (EP X pins σ Q) X.xe s
def UnR(X:Cx)(f:ao->Sem ao)(r:V->Hp->VK->Prop):Prop:=
 ∀(pins:List (ag×Obj)) (s:au) (σ:St) (H:Hp) (x:V) (v:ao) (Q:VK),Inv X pins σ H s->RelV x v->r x H Q->
  aV (aS X.prog X.w) X.A (f v) (EP X pins σ Q) X.xe s
def zH(X:Cx)(f:ao)(r:List V->Hp->VK->Prop):Prop:=
 ∀(pins:List (ag×Obj)) (s:au) (σ:St) (H:Hp) (xs:List V) (us:List ao) (Q:VK),Inv X pins σ H s->Vals xs us->r xs H Q->
  aV (aS X.prog X.w) X.A (call f us) (EP X pins σ Q) X.xe s
def aeo(X:Cx)(r:V->Hp->(Bool->Hp->Prop)->Prop):Prop:=
 ∀(pins:List (ag×Obj)) (s:au) (σ:St) (H:Hp) (x:V) (v:ao) (Q:Bool->Hp->Prop),Inv X pins σ H s->RelV x v->r x H Q->
  aV (aS X.prog X.w) X.A (truthy v) (TP X pins σ Q) X.xe s
def tOp(r:R2)(ta tb:TE):TE:=λ σ H Q=>ta σ H λ x H1=>tb σ H1 λ y H2=>r x y H2 Q
def tUn(r:V->Hp->VK->Prop)(ta:TE):TE:=λ σ H Q=>ta σ H λ x H1=>r x H1 Q
def rI(C:Int->Int->Prop)(g:Int->Int->V):R2:=λ x y H Q=>∃i j,x= .int i/\y= .int j/\C i j/\Q (g i j) H
def Sw(g:Int->Int->V):R2:=λ x y H Q=>∃i j,x= .int i/\y= .int j/\Q (g i j) H
def rU(g:Int->V):V->Hp->VK->Prop:=λ x H Q=>∃i,x= .int i/\Q (g i) H
section
variable{X:Cx}{a b c:bJ}{ta tb tc:TE}{pos:Pos}
theorem abt(ha:PE X a ta)(hb:PE X b tb){pins:List (ag×Obj)}{s:au}{σ:St}{H:Hp}{R:V->V->Hp->Prop}(I:Inv X pins σ H s)
  (h:ta σ H λ x H1=>tb σ H1 λ y H2=>R x y H2){Q:ao->au->Prop}{f:ao->ao->Sem ao}
  (hf:∀v u s2 x y H2,Inv X pins σ H2 s2->RelV x v->RelV y u->R x y H2->aV (aS X.prog X.w) X.A (f v u) Q X.xe s2):
  aV (aS X.prog X.w) X.A (cu a X.env) (λ v s₁=>aV (aS X.prog X.w) X.A (cu b X.env) (λ u s₂=>aV (aS X.prog X.w) X.A (f v u) Q X.xe s₂) X.xe s₁) X.xe s:=by
 refine pM (ha pins s σ H _ I h) λ v s1 ⟨x,H1,I1,r1,q1⟩=>?_
 refine pM (hb pins s1 σ H1 _ I1 q1) λ u s2 ⟨y,H2,I2,r2,q2⟩=>?_
 exact hf v u s2 x y H2 I2 r1 r2 q2
theorem oj{op:jr}{r:R2}(ho:Ea X (gE op) r)(ha:PE X a ta)(hb:PE X b tb):PE X (.BinOp a op b pos) (tOp r ta tb):=by
 intro pins s σ H Q I h
 exact wpAny_BinOp (abt ha hb I h λ v u s2 x y H2 I2 rx ry q=>ho pins s2 σ H2 x y v u Q I2 rx ry q)
theorem Sx{op:UnaryOp}{r:V->Hp->VK->Prop}(ho:UnR X (unaryOp op) r)(ha:PE X a ta):PE X (.UnaryOp op a pos) (tUn r ta):=by
 intro pins s σ H Q I h
 exact UnaryOp_ (pM (ha pins s σ H _ I h) λ v s1 ⟨x,H1,I1,r1,q1⟩=>ho pins s1 σ H1 x v Q I1 r1 q1)
theorem opI{f:ao->ao->Sem ao}{C:Int->Int->Prop}{g:Int->Int->Int}
  (lr:∀(i j:Int) (t u:Tok) (s:au) (Q:ao->au->Prop) (E:ao->au->Prop),C i j->Q (.int (g i j) s.toks) { s with toks:=s.toks+1 }->aV (aS X.prog X.w) X.A (f (.int i t) (.int j u)) Q E s):
  Ea X f (rI C λ i j=>.int (g i j)):=by
 intro pins s σ H x y v u Q I rx ry h
 obtain⟨i,j,rfl,rfl,hc,q⟩:=h
 obtain⟨t,rfl⟩:=rx
 obtain⟨t',rfl⟩:=ry
 exact lr i j t t' s _ _ hc ⟨.int (g i j),H,I.tok _,⟨_,rfl⟩,q⟩
theorem ac7{f:ao->ao->Sem ao}{g:Int->Int->Int}
  (lr:∀(i j:Int) (t u:Tok) (s:au) (Q:ao->au->Prop) (E:ao->au->Prop),Q (.int (g i j) s.toks) { s with toks:=s.toks+1 }->aV (aS X.prog X.w) X.A (f (.int i t) (.int j u)) Q E s):
  Ea X f (Sw λ i j=>.int (g i j)):=by
 intro pins s σ H x y v u Q I rx ry h
 obtain⟨i,j,rfl,rfl,q⟩:=h
 obtain⟨t,rfl⟩:=rx
 obtain⟨t',rfl⟩:=ry
 exact lr i j t t' s _ _ ⟨.int (g i j),H,I.tok _,⟨_,rfl⟩,q⟩
theorem Zp{f:ao->ao->Sem ao}{g:Int->Int->Bool}
  (lr:∀(i j:Int) (t u:Tok) (s:au) (Q:ao->au->Prop) (E:ao->au->Prop),Q (.bool (g i j)) s->aV (aS X.prog X.w) X.A (f (.int i t) (.int j u)) Q E s):
  Ea X f (Sw λ i j=>.bl (g i j)):=by
 intro pins s σ H x y v u Q I rx ry h
 obtain⟨i,j,rfl,rfl,q⟩:=h
 obtain⟨t,rfl⟩:=rx
 obtain⟨t',rfl⟩:=ry
 exact lr i j t t' s _ _ ⟨.bl (g i j),H,I,rfl,q⟩
def ac8(i j:Int):Prop:=0<=j/\j<=1000000/\i.natAbs<2 ^ 64
def Qd(i j:Int):Prop:=(-(2 ^ 64)<i/\i<2 ^ 64)\/(-(2 ^ 64)<j/\j<2 ^ 64)
theorem Qd.ok{i j:Int}(h:Qd i j):IntMulOk i j:=by
 rcases h with⟨h1,h2⟩|⟨h1,h2⟩
 ·exact .of_left (mT h1 h2)
 ·exact .of_right (mT h1 h2)
theorem qV:Ea X (gE .Add) (Sw λ i j=>.int (i+j)):=ac7 λ _ _ _ _ _ _ _ q=>add_int q
theorem sG:Ea X (gE .Sub) (Sw λ i j=>.int (i-j)):=ac7 λ _ _ _ _ _ _ _ q=>sub_int q
theorem wQ:Ea X (gE .Mult) (rI Qd λ i j=>.int (i*j)):=opI λ _ _ _ _ _ _ _ hc q=>mul_int q hc.ok
theorem abu:Ea X (gE .Mod) (rI (λ _ j=>0<j) λ i j=>.int (i % j)):=opI λ i j _ _ _ _ _ hc q=>by
 have h1:(0:Int)<j:=hc
 exact mod_int' (by omega) (by rw[Int.fmod_eq_emod_of_nonneg i (by omega)];exact q)
theorem abv:Ea X (gE .Pow) (rI ac8 λ i j=>.int (i ^ j.toNat)):=opI λ _ _ _ _ _ _ _ hc q=>pow_int_small hc.1 hc.2.1 hc.2.2 q
theorem unI{f:ao->Sem ao}{g:Int->Int}
  (lr:∀(i:Int) (t:Tok) (s:au) (Q:ao->au->Prop) (E:ao->au->Prop),Q (.int (g i) s.toks) { s with toks:=s.toks+1 }->aV (aS X.prog X.w) X.A (f (.int i t)) Q E s):
  UnR X f (rU λ i=>.int (g i)):=by
 intro pins s σ H x v Q I rx h
 obtain⟨i,rfl,q⟩:=h
 obtain⟨t,rfl⟩:=rx
 exact lr i t s _ _ ⟨.int (g i),H,I.tok _,⟨_,rfl⟩,q⟩
theorem LB:UnR X (unaryOp .USub) (rU λ i=>.int (-i)):=unI λ _ _ _ _ _ q=>neg_int q
end
def abw:V->V->Bool
 | .qA,.qA=>true| .qA,.int _=>true| .int _,.qA=>true| .qA,.bl _=>true| .bl _,.qA=>true| .qA,.str _=>true| .str _,.qA=>true
 | .int _,.int _=>true| .bl _,.bl _=>true| .str _,.str _=>true| .Lq _,.Lq _=>true
 | .int _,.str _=>true| .str _,.int _=>true| .bl _,.str _=>true| .str _,.bl _=>true
 |_,_=>false
def rEq:R2:=λ x y H Q=>abw x y=true/\Q (.bl (decide (x=y))) H
def rNe:R2:=λ x y H Q=>abw x y=true/\Q (.bl (!decide (x=y))) H
theorem Sy{i j:Int}:decide (V.int i=V.int j)=(i == j):=by
 rw[du]
 simp
theorem Wh{i j:Bool}:decide (V.bl i=V.bl j)=(i == j):=by
 rw[du]
 simp
theorem wk{i j:Str}:decide (V.str i=V.str j)=(i == j):=by
 rw[du]
 simp
theorem Sz{i j:Array UInt8}:decide (V.Lq i=V.Lq j)=(i.toList == j.toList):=by
 rw[du]
 cases i
 cases j
 simp
section
variable{X:Cx}{a b c:bJ}{ta tb tc:TE}{pos:Pos}
theorem pB{pins:List (ag×Obj)}{σ:St}{H:Hp}{s:au}{Q:VK}{k k':Bool}(I:Inv X pins σ H s)(q:Q (.bl k) H)(e:k=k'):EP X pins σ Q (.bool k') s:=by
 subst e
 exact⟨.bl k,H,I,rfl,q⟩
theorem uc:Ea X (cR .Eq) rEq:=by
 intro pins s σ H x y v u Q I rx ry h
 obtain⟨hs,q⟩:=h
 cases x with
 |qA=>
  cases rx
  cases y with
  |qA=>cases ry;exact PySem.EqNone.eq_none_none (pB I q (by simp))
  |bl j=>cases ry;exact PySem.EqNone.eq_none_bool (pB I q (by simp))
  |int j=>obtain⟨t',rfl⟩:=ry;exact PySem.EqNone.eq_none_int (pB I q (by simp))
  |str j=>obtain⟨t',rfl⟩:=ry;exact PySem.EqNone.eq_none_str (pB I q (by simp))
  |_=>exact absurd (show false=true from hs) a0
 |bl i=>
  cases rx
  cases y with
  |qA=>cases ry;exact PySem.EqNone.eq_bool_none (pB I q (by simp))
  |bl j=>cases ry;exact eq_bool (pB I q Wh)
  |str j=>obtain⟨t',rfl⟩:=ry;exact PySem.EqMixed.eq_bool_str (pB I q (by simp))
  |_=>exact absurd (show false=true from hs) a0
 |int i=>
  obtain⟨t,rfl⟩:=rx
  cases y with
  |qA=>cases ry;exact PySem.EqNone.eq_int_none (pB I q (by simp))
  |int j=>obtain⟨t',rfl⟩:=ry;exact eq_int (pB I q Sy)
  |str j=>obtain⟨t',rfl⟩:=ry;exact PySem.EqMixed.eq_int_str (pB I q (by simp))
  |_=>exact absurd (show false=true from hs) a0
 |str i=>
  obtain⟨t,rfl⟩:=rx
  cases y with
  |qA=>cases ry;exact PySem.EqNone.eq_str_none (pB I q (by simp))
  |bl j=>cases ry;exact PySem.EqMixed.eq_str_bool (pB I q (by simp))
  |int j=>obtain⟨t',rfl⟩:=ry;exact PySem.EqMixed.eq_str_int (pB I q (by simp))
  |str j=>obtain⟨t',rfl⟩:=ry;exact eq_str (pB I q wk)
  |_=>exact absurd (show false=true from hs) a0
 |Lq i=>
  obtain⟨t,rfl⟩:=rx
  cases y with
  |Lq j=>obtain⟨t',rfl⟩:=ry;exact PySem.W.eq_bytes (pB I q Sz)
  |_=>exact absurd (show false=true from hs) a0
 |_=>cases y <;> exact absurd (show false=true from hs) a0
theorem ac9:Ea X (cR .NotEq) rNe:=by
 intro pins s σ H x y v u Q I rx ry h
 obtain⟨hs,q⟩:=h
 cases x with
 |qA=>
  cases rx
  cases y with
  |qA=>cases ry;exact PySem.EqNone.ne_none_none (pB I q (by simp))
  |bl j=>cases ry;exact PySem.EqNone.ne_none_bool (pB I q (by simp))
  |int j=>obtain⟨t',rfl⟩:=ry;exact PySem.EqNone.ne_none_int (pB I q (by simp))
  |str j=>obtain⟨t',rfl⟩:=ry;exact PySem.EqNone.ne_none_str (pB I q (by simp))
  |_=>exact absurd (show false=true from hs) a0
 |bl i=>
  cases rx
  cases y with
  |qA=>cases ry;exact PySem.EqNone.ne_bool_none (pB I q (by simp))
  |bl j=>cases ry;exact ne_bool (pB I q (congrArg not Wh))
  |str j=>obtain⟨t',rfl⟩:=ry;exact PySem.EqMixed.ne_bool_str (pB I q (by simp))
  |_=>exact absurd (show false=true from hs) a0
 |int i=>
  obtain⟨t,rfl⟩:=rx
  cases y with
  |qA=>cases ry;exact PySem.EqNone.ne_int_none (pB I q (by simp))
  |int j=>obtain⟨t',rfl⟩:=ry;exact ne_int (pB I q (congrArg not Sy))
  |str j=>obtain⟨t',rfl⟩:=ry;exact PySem.EqMixed.ne_int_str (pB I q (by simp))
  |_=>exact absurd (show false=true from hs) a0
 |str i=>
  obtain⟨t,rfl⟩:=rx
  cases y with
  |qA=>cases ry;exact PySem.EqNone.ne_str_none (pB I q (by simp))
  |bl j=>cases ry;exact PySem.EqMixed.ne_str_bool (pB I q (by simp))
  |int j=>obtain⟨t',rfl⟩:=ry;exact PySem.EqMixed.ne_str_int (pB I q (by simp))
  |str j=>obtain⟨t',rfl⟩:=ry;exact ne_str (pB I q (congrArg not wk))
  |_=>exact absurd (show false=true from hs) a0
 |Lq i=>
  obtain⟨t,rfl⟩:=rx
  cases y with
  |Lq j=>obtain⟨t',rfl⟩:=ry;exact PySem.W.ne_bytes (pB I q (congrArg not Sz))
  |_=>exact absurd (show false=true from hs) a0
 |_=>cases y <;> exact absurd (show false=true from hs) a0
theorem G_:Ea X (cR .Lt) (Sw λ i j=>.bl (decide (i<j))):=Zp λ _ _ _ _ _ _ _ q=>lt_int q
theorem p9:Ea X (cR .LtE) (Sw λ i j=>.bl (decide (i<=j))):=Zp λ _ _ _ _ _ _ _ q=>le_int q
theorem Bj:Ea X (cR .Gt) (Sw λ i j=>.bl (decide (j<i))):=Zp λ _ _ _ _ _ _ _ q=>gt_int q
theorem ac_:Ea X (cR .GtE) (Sw λ i j=>.bl (decide (j<=i))):=Zp λ _ _ _ _ _ _ _ q=>ge_int q
theorem oK(b:bJ){op:kC}(h:op≠ .In:=by decide)(h2:op≠ .NotIn:=by decide):eT op b=false:=by
 have e1:(op == CmpOp.In)=false:=by cases op <;> first|rfl|exact absurd rfl h
 have e2:(op == CmpOp.NotIn)=false:=by cases op <;> first|rfl|exact absurd rfl h2
 cases b <;> simp[eT,e1,e2]
theorem rR{op:kC}{r:R2}(ho:Ea X (cR op) r)(ha:PE X a ta)(hb:PE X b tb)(hm:eT op b=false):PE X (.Compare a [op] [b] pos) (tOp r ta tb):=by
 intro pins s σ H Q I h
 exact wpAny_Compare1 (abt ha hb I h λ v u s2 x y H2 I2 rx ry q=>ho pins s2 σ H2 x y v u Q I2 rx ry q) hm
def SA(t:TE):TT:=λ σ H Q=>t σ H λ x H'=>∃k,x= .bl k/\Q k H'
theorem oq{op:kC}{r:R2}(ho:Ea X (cR op) r)(ha:PE X a ta)(hb:PE X b tb)(hm:eT op b=false):PT X (.Compare a [op] [b] pos) (SA (tOp r ta tb)):=by
 intro pins s σ H Q I h
 refine kX (pM (ha pins s σ H _ I h) λ v s1 ⟨x,H1,I1,r1,q1⟩=>pM (hb pins s1 σ H1 _ I1 q1) λ u s2 ⟨y,H2,I2,r2,q2⟩=>
  pM (ho pins s2 σ H2 x y v u _ I2 r1 r2 q2) λ c s3 ⟨z,H3,I3,r3,k,e,q3⟩=>?_) hm
 subst e
 cases r3
 exact cP ⟨H3,I3,q3⟩
def Ha(r r':R2)(ta tb tc:TE):TE:=λ σ H Q=>ta σ H λ x H1=>tb σ H1 λ y H2=>r x y H2 λ z H3=>∃k,z= .bl k/\
 (if k=true then tc σ H3 λ w' H4=>r' y w' H4 Q else Q (.bl false) H3)
theorem vj{op op':kC}{r r':R2}(ho:Ea X (cR op) r)(Sr:Ea X (cR op') r')(ha:PE X a ta)(hb:PE X b tb)(hc:PE X c tc)
  (hm:lastMarks [op,op'] [b,c]=false:=by with_unfolding_all rfl):PE X (.Compare a [op,op'] [b,c] pos) (Ha r r' ta tb tc):=by
 intro pins s σ H Q I h
 refine Compare_chain (pM (ha pins s σ H _ I h) λ v s1 ⟨x,H1,I1,r1,q1⟩=>chain_link (pM (hb pins s1 σ H1 _ I1 q1) λ u s2 ⟨y,H2,I2,r2,q2⟩=>
  pM (ho pins s2 σ H2 x y v u _ I2 r1 r2 q2) λ d s3 ⟨z,H3,I3,r3,k,e,q3⟩=>?_)) hm
 subst e
 cases r3
 refine cP ?_
 cases k with
 |false=>exact ite_ff ⟨.bl false,H3,I3,rfl,q3⟩
 |true=>exact ite_tt (chain_last (pM (hc pins s3 σ H3 _ I3 q3) λ w' s4 ⟨z',H4,I4,r4,q4⟩=>Sr pins s4 σ H4 y z' u w' Q I4 r2 r4 q4))
theorem vk{op op':kC}{r r':R2}(ho:Ea X (cR op) r)(Sr:Ea X (cR op') r')(ha:PE X a ta)(hb:PE X b tb)(hc:PE X c tc)
  (hm:lastMarks [op,op'] [b,c]=false:=by with_unfolding_all rfl):PT X (.Compare a [op,op'] [b,c] pos) (SA (Ha r r' ta tb tc)):=by
 intro pins s σ H Q I h
 refine isTrue_chain (pM (ha pins s σ H _ I h) λ v s1 ⟨x,H1,I1,r1,q1⟩=>test_link (pM (hb pins s1 σ H1 _ I1 q1) λ u s2 ⟨y,H2,I2,r2,q2⟩=>
  pM (ho pins s2 σ H2 x y v u _ I2 r1 r2 q2) λ d s3 ⟨z,H3,I3,r3,k,e,q3⟩=>?_)) hm
 subst e
 cases r3
 refine cP ?_
 cases k with
 |false=>
  obtain⟨k',e',q'⟩:=q3
  cases e'
  exact ite_ff ⟨H3,I3,q'⟩
 |true=>
  refine ite_tt (test_last (pM (hc pins s3 σ H3 _ I3 q3) λ w' s4 ⟨z',H4,I4,r4,q4⟩=>pM (Sr pins s4 σ H4 y z' u w' _ I4 r2 r4 q4) λ d' s5 ⟨z2,H5,I5,r5,k2,e2,q5⟩=>?_))
  subst e2
  cases r5
  exact cP ⟨H5,I5,q5⟩
def ada(K:ah)(x:V)(H:Hp)(k:Bool):Prop:=
 match x with
 | .qA=>k=false
 | .bl b=>k=b
 | .int i=>k=(i != 0)
 | .str y=>y.length<=ay/\k=((y.length:Int) != 0)
 | .Lq y=>y.size<=ay/\k=((y.size:Int) != 0)
 | .ref p=>(∃xs,nE K H p xs/\k= !xs.isEmpty)\/(∃xs,Bi K H p xs/\k= !xs.isEmpty)\/∃oH,H p=some (.dK oH)/\k= !oH.isEmpty
 |_=>False
theorem Qe{κ:Type}{oH:List (κ×V)}{vs:List (κ×ao)}(r:KV oH vs):(!vs.isEmpty)= !oH.isEmpty:=by
 cases r <;> rfl
theorem Hb{xs:List V}{om:List ao}(r:Vals xs om):(!om.toArray.isEmpty)= !xs.isEmpty:=by
 cases r <;> simp
theorem BD:(ay:Nat)<2 ^ 63:=by rw[aA];decide
theorem abx:aeo X (λ x H Q=>∃k,ada X.K x H k/\Q k H):=by
 intro pins s σ H x v Q I rx h
 obtain⟨k,e,q⟩:=h
 have hl:=BD
 have hs:ay=16777216:=aA
 cases x with
 |qA=>
  cases rx
  have e':k=false:=e
  subst e'
  exact truthy_none ⟨H,I,q⟩
 |bl b=>
  cases rx
  have e':k=b:=e
  subst e'
  exact cP ⟨H,I,q⟩
 |int i=>
  obtain⟨t,rfl⟩:=rx
  have e':k=(i != 0):=e
  subst e'
  exact PySem.P.truthy_int ⟨H,I,q⟩
 |str y=>
  obtain⟨t,rfl⟩:=rx
  obtain⟨hy,e'⟩:y.length<=ay/\k=((y.length:Int) != 0):=e
  subst e'
  exact PySem.P.truthy_str (by omega) ⟨H,I.tok _,q⟩
 |Lq y=>
  obtain⟨t,rfl⟩:=rx
  obtain⟨hy,e'⟩:y.size<=ay/\k=((y.size:Int) != 0):=e
  subst e'
  exact PySem.W.truthy_bytes (by omega) ⟨H,I.tok _,q⟩
 |ref p=>
  cases rx
  have e':(∃xs,nE X.K H p xs/\k= !xs.isEmpty)\/(∃xs,Bi X.K H p xs/\k= !xs.isEmpty)\/∃oH,H p=some (.dK oH)/\k= !oH.isEmpty:=e
  rcases e' with⟨xs,hx,e'⟩|⟨xs,hx,e'⟩|⟨oH,hx,e'⟩
  ·subst e'
   obtain⟨om,r,pl,hz⟩:=I.list hx
   have hlen:=r.length
   exact wpAny_truthy_list pl.isList (by simp only[aK];omega) ⟨H,I.tok _,by rw[Hb r];exact q⟩
  ·subst e'
   obtain⟨om,r,pl,hz⟩:=I.tuple hx
   have hlen:=r.length
   exact truthy_tuple pl (by simp only[aK];omega) ⟨H,I.tok _,by rw[Hb r];exact q⟩
  ·subst e'
   obtain⟨hz,hS,vs,r,m⟩:oH.length<=ay/\(p == eg)=false/\∃vs,KV oH vs/\s.heap.DictOf (qZ X.prog X.w) p vs:=I.oX p _ hx
   have hlen:oH.length=vs.length:=Paired.length r
   exact wpAny_truthy_dict hS m (by omega) ⟨H,I.tok _,by rw[Qe r];exact q⟩
 |_=>exact(show False from e).elim
theorem xA(ha:PE X a ta)(he:∀whole,kQ a X.env whole=(do let v <-whole;ir a.pos;gp [v] (truthy v))):
  PT X a (λ σ H Q=>ta σ H λ x H'=>∃k,ada X.K x H' k/\Q k H'):=by
 intro pins s σ H Q I h
 exact isTrue_plain (pM (ha pins s σ H _ I h) λ v s1 ⟨x,H1,I1,r1,q1⟩=>abx pins s1 σ H1 x v Q I1 r1 q1) (he _)
theorem Qg:Ea X (gE .Add) (λ x y H Q=>∃i j,x= .str i/\y= .str j/\i.length+j.length<=ay/\Q (.str (i++j)) H):=by
 intro pins s σ H x y v u Q I rx ry h
 obtain⟨i,j,rfl,rfl,hz,q⟩:=h
 obtain⟨t,rfl⟩:=rx
 obtain⟨t',rfl⟩:=ry
 exact add_str (λ t' tk=>⟨.str (i++j),H,I.tok _,⟨_,rfl⟩,q⟩) hz
theorem vals1{x:V}{us:List ao}(r:Vals [x] us):∃u,us=[u]/\RelV x u:=by
 cases r with
 |cons r1 r2=>cases r2;exact⟨_,rfl,r1⟩
theorem sI:zH X (.type "str") (λ xs H Q=>∃i,xs=[.int i]/\i.natAbs.log2<1920/\Q (.str (toString i)) H):=by
 intro pins s σ H xs us Q I r h
 obtain⟨i,rfl,hz,q⟩:=h
 obtain⟨u,rfl,t,rfl⟩:=vals1 r
 exact PySem.P.str_of_int hz ⟨.str _,H,I.tok _,⟨_,rfl⟩,q⟩
theorem Wi:zH X (.builtin "ord") (λ xs H Q=>∃x,xs=[.str x]/\x.length=1/\Q (.int (x.cps.getD 0 0:Nat)) H):=by
 intro pins s σ H xs us Q I r h
 obtain⟨x,rfl,hz,q⟩:=h
 obtain⟨u,rfl,t,rfl⟩:=vals1 r
 exact ord_of_one hz ⟨.int _,H,I.tok _,⟨_,rfl⟩,q⟩
end
end L2
namespace L2
open PySem PySem.Spec PyProof.Rows
structure Qh(h:bz)(x dx C:ag)(mA:Str->Option ao):Prop where
 obj:h.get? x=some (dm C dx)
 ns:h.Ns1 dx mA
 ne:dx≠x
theorem Kf{h:bz}{dx:ag}{mA:Str->Option ao}(n:h.Ns1 dx mA):∃od,h.get? dx=some od/\∀name,eS name od=some (mA name):=by
 obtain⟨o,es,ep,ho,hd,hk,_,hm⟩:=n
 refine⟨o,ho,λ name=>?_⟩
 have e:=hm name
 unfold mL findBy at e
 rw[<-Array.find?_toList]at e
 unfold eS
 rw[hd]
 dsimp only
 split
 ·rename_i y q
  rw[q]at e
  exact congrArg some e
 ·rename_i q
  rw[q]at e
  have a:es.toList.any (·.refKey)=false:=by
   rw[iS]
   intro y hy
   obtain⟨z,t,aep⟩:=hk y (Array.mem_toList_iff.mp hy)
   simp[DictEntry.refKey,aep]
  have a':¬ es.toList.any (·.refKey)=true:=by rw[a];exact a0
  rw[if_neg a']
  exact congrArg some e
theorem Qh.look{h:bz}{x dx C:ag}{mA:Str->Option ao}(I:Qh h x dx C mA):∃od,kL h x (dm C dx) C (some od)/\∀name,eS name od=some (mA name):=
 let⟨od,ho,hl⟩:=Kf I.ns
 ⟨od,⟨I.obj,rfl,rfl,ho⟩,hl⟩
section
variable{prog:aJ}{w:aY}{A:bU}{E:ao->au->Prop}{s:au}{K:ah}{x dx C f:ag}{mA:Str->Option ao}{name:Str}{v:ao}
theorem get_map{expr:Bool}{Q:ao->au->Prop}(X:K.In s.heap)(I:Qh s.heap x dx C mA)(hg:eZ K C name=true)(hh:f9 K C=true)
  (ha:bw K (.ref C) name=some none)(hv:mA name=some v)(hv':ke v=true)(h:Q v { s with toks:=s.toks+1 }):
  aV (aS prog w) A (kR (.ref x) name expr) Q E s:=by
 obtain⟨od,J,hl⟩:=I.look
 exact PySem.W.get_value X J (g9 hg).1 (PySem.W.findObj_own hh ha rfl (by rw[hl,hv])) hv' h
theorem Wj{pl:Sem Bool}{Q:ao×List ao->au->Prop}(X:K.In s.heap)(I:Qh s.heap x dx C mA)(hg:eZ K C name=true)
  (hf:bw K (.ref C) name=some (some (.ref f)))(ht:gC K (.ref f)=true)(hv:mA name=none)(h:Q (.ref f,[.ref x]) s):
  aV (aS prog w) A (hX (.ref x) name pl) Q E s:=by
 obtain⟨od,J,hl⟩:=I.look
 exact PySem.W.method_fn X J (g9 hg).1 (g9 hg).2 hf (beq_iff_eq.mp ht) (by show(eS name od).map (·.isSome)=some false;rw[hl,hv];rfl) h
theorem Zq{ns:List Str}{Q:Unit->au->Prop}(X:K.In s.heap)(I:Qh s.heap x dx C mA)
  (hs:bw K (.ref C) "__setattr__"=some (some (.builtin "object.__setattr__")))(hp:iA K C=true)(ht:iU K C name=some none)(hh:f9 K C=true)
  (hw:eU mA ns)(hsz:ns.length<=ay)
  (h:∀h',Qh h' x dx C (λ y=>if y=name then some v else mA y)->Heap.SameBut dx s.heap h'->Q () { s with heap:=h',toks:=s.toks+2 }):
  aV (aS prog w) A (mh (.ref x) name v) Q E s:=by
 obtain⟨od,J,hl⟩:=I.look
 refine PySem.W.set_plain X J hs (PySem.W.osa_open (s:={ s with toks:=s.toks+1 }) (r:=none) X J hp ht λ b=>?_)
 obtain⟨cd,hc,VV⟩:=PySem.W.any_some hh
 have hx:s.heap.get? x=some ⟨.ref C,some dx,.plain,#[]⟩:=I.obj
 refine aq (aM (aq (aq (jT hx (aq (PySem.W.Looks.here (s:={ s with toks:=s.toks+1 }) (g_ X hc) ?_))))))
 rw[VV]
 refine aM (a:=some dx) (aq (aM (aq ?_)))
 refine kO (s:={ s with toks:=s.toks+1 }) I.ns λ h' PJ Uk=>?_
 obtain⟨oD,esD,epD,hoD,hdD,hcD⟩:=PJ.count (PySem.Within.cons name v hw)
 refine aq (jw hoD (by rw[hdD];exact jy (aT hcD (by rw[aD];omega))) ?_)
 exact aM (h _ ⟨(Uk.2 _ (Ne.symm I.ne)).trans I.obj,PJ,I.ne⟩ Uk)
theorem Wk{R:lU->au->Prop}{vs:List ao}{kw:List (Str×ao)}(X:K.In s.heap)(hm:iV K C=true)
  (hi:bw K (.ref C) "__init__"=some (some (.ref f)))(hf:fM K (.ref f)=some (.type "function"))
  (h:fR (aS prog w) (A.under (.builtin "type.__call__" ⟨.ref C::vs,kw⟩)) (.call (.ref f) ⟨.ref (s.heap.objs.size+1)::vs,kw⟩) (PySem.W.InitBack (s.heap.objs.size+1) R)
   { s with heap:=(s.heap.push cM).push (dm C s.heap.objs.size) }):
  fR (aS prog w) A (.call (.ref C) ⟨vs,kw⟩) R s:=by
 obtain⟨hh,g,d,t,os⟩:=s
 exact PySem.W.make_core (PySem.W.makes_of X hm) (PySem.W.looks_findIn X hi) (λ self=>PySem.W.bind_fn X self hf) (.inl rfl) h
end
def v_(f:Str)(v:V):List (Str×V)->List (Str×V)
 |[]=>[(f,v)]
 |(g,x)::r=>if g=f then(g,v)::r else(g,x)::v_ f v r
theorem zI(f g:Str)(v:V):∀fs:List (Str×V),(v_ f v fs).lookup g=if g=f then some v else fs.lookup g
 |[]=>by
  show dv g [(f,v)]=_
  by_cases h:g=f
  ·have hb:(g == f)=true:=beq_iff_eq.mpr h
   simp only[dv,hb,if_pos h]
  ·have hb:(g == f)=false:=beq_eq_false_iff_ne.mpr h
   simp only[dv,hb,if_neg h]
 |(k,x)::r=>by
  have ih:=zI f g v r
  rw[show v_ f v ((k,x)::r)=(if k=f then(k,v)::r else(k,x)::v_ f v r)from rfl]
  by_cases hk:k=f
  ·rw[if_pos hk]
   by_cases h:g=k
   ·have hb:(g == k)=true:=beq_iff_eq.mpr h
    simp only[dv,hb,if_pos (h.trans hk)]
   ·have hb:(g == k)=false:=beq_eq_false_iff_ne.mpr h
    simp only[dv,hb,if_neg (λ e:g=f=>h (e.trans hk.symm))]
  ·rw[if_neg hk]
   by_cases h:g=k
   ·have hb:(g == k)=true:=beq_iff_eq.mpr h
    simp only[dv,hb,if_neg (λ e:g=f=>hk (h.symm.trans e))]
   ·have hb:(g == k)=false:=beq_eq_false_iff_ne.mpr h
    simp only[dv,hb]
    exact ih
theorem Eh(f:Str)(v:V):∀fs:List (Str×V),f∈(v_ f v fs).map (·.1)/\∀g,g∈fs.map (·.1)->g∈(v_ f v fs).map (·.1)
 |[]=>⟨by simp[v_],λ g h=>by simp at h⟩
 |(k,x)::r=>by
  obtain⟨i1,i2⟩:=Eh f v r
  rw[show v_ f v ((k,x)::r)=(if k=f then(k,v)::r else(k,x)::v_ f v r)from rfl]
  by_cases hk:k=f
  ·rw[if_pos hk]
   subst hk
   exact⟨by simp,λ g h=>by simpa using h⟩
  ·rw[if_neg hk]
   refine⟨?_,λ g h=>?_⟩
   ·rw[aH]
    exact aQ _ i1
   ·rw[aH]at h ⊢
    rcases List.mem_cons.mp h with e|e
    ·exact List.mem_cons.mpr (.inl e)
    ·exact aQ _ (i2 g e)
theorem Ff(f:Str)(v:V):∀fs:List (Str×V),(v_ f v fs).length<=fs.length+1
 |[]=>by simp[v_]
 |(k,x)::r=>by
  have ih:=Ff f v r
  rw[show v_ f v ((k,x)::r)=(if k=f then(k,v)::r else(k,x)::v_ f v r)from rfl]
  by_cases hk:k=f
  ·rw[if_pos hk,aD,aD];omega
  ·rw[if_neg hk,aD,aD];omega
theorem wO.some_of{v:V}{o:Option ao}(r:wO (some v) o):∃u,o=some u/\RelV v u:=by
 cases o with
 |none=>exact(show False from r).elim
 |some u=>exact⟨u,rfl,r⟩
theorem wO.none_of{o:Option ao}(r:wO none o):o=none:=by
 cases o with
 |none=>rfl
 |some u=>exact(show False from r).elim
theorem Kg{v:V}{u:ao}(r:RelV v u):ke u=true:=by
 cases v with
 |qA=>cases(show u=Value.none from r);rfl
 |bl b=>cases(show u=Value.bool b from r);rfl
 |int i=>obtain⟨t,e⟩:=(show ∃t,u=Value.int i t from r);cases e;rfl
 |str x=>obtain⟨t,e⟩:=(show ∃t,u=Value.str x t from r);cases e;rfl
 |Lq b=>obtain⟨t,e⟩:=(show ∃t,u=Value.bytes b t from r);cases e;rfl
 |flt b=>obtain⟨t,e⟩:=(show ∃t,u=Value.float b t from r);cases e;rfl
 |ref a=>cases(show u=Value.ref a from r);rfl
 |ty n=>cases(show u=Value.type n from r);rfl
section
variable{P:aJ}{w:aY}{H H':Hp}{h h':bz}{a C dx:ag}{fs fs':List (Str×V)}
theorem LC(oX:zD P w H h)(e:H a=some (.ins C dx fs)):∃mA,Qh h a dx C mA/\(∀f,wO (fs.lookup f) (mA f))/\eU mA (fs.map (·.1))/\fs.length<=1000/\H dx=some (.own a):=by
 obtain⟨d,z,ne,ob,mA,n,r,q⟩:=(show pP P w H h a (.ins C dx fs)from oX a _ e)
 exact⟨mA,⟨ob,n,ne⟩,r,q,z,d⟩
end
structure GL(K:ah)(C:ag):Prop where
 pg:eZ K C Str.empty=true
 hd:f9 K C=true
 po:iA K C=true
 sa:bw K (.ref C) "__setattr__"=some (some (.builtin "object.__setattr__"))
theorem GL.get{K:ah}{C:ag}(c:GL K C)(f:Str):eZ K C f=true:=c.pg
def oC(K:ah)(C:ag)(f:Str):Prop:=bw K (.ref C) f=some none
theorem oC.adb{K:ah}{C:ag}{f:Str}(n:oC K C f):iU K C f=some none:=by
 unfold iU
 rw[show bw K (.ref C) f=some none from n]
 rfl
structure Meth(K:ah)(C:ag)(m:Str)(f:ag):Prop where
 at_:bw K (.ref C) m=some (some (.ref f))
 fn:gC K (.ref f)=true
 kp:bY K (.ref f)=true
section
variable{X:Cx}{pins:List (ag×Obj)}{σ:St}{H:Hp}{s:au}{a C dx:ag}{fs:List (Str×V)}{f:Str}{v:V}{A:bU}{E:ao->au->Prop}
theorem Hc{b:Bool}{Q:ao->au->Prop}(I:Inv X pins σ H s)(e:H a=some (.ins C dx fs))(c:GL X.K C)(n:oC X.K C f)(l:fs.lookup f=some v)
  (h:∀u s',Inv X pins σ H s'->RelV v u->Q u s'):aV (aS X.prog X.w) A (kR (.ref a) f b) Q E s:=by
 obtain⟨mA,O,r,_,_,_⟩:=LC I.oX e
 obtain⟨u,hu,ru⟩:=wO.some_of (v:=v) (o:=mA f) (by rw[<-l];exact r f)
 exact get_map I.Fe O (c.get f) c.hd n hu (Kg ru) (h u _ (I.tok _) ru)
theorem Hd{m:Str}{g:ag}{pl:Sem Bool}{Q:ao×List ao->au->Prop}(I:Inv X pins σ H s)(e:H a=some (.ins C dx fs))(c:GL X.K C)(k:Meth X.K C m g)(l:fs.lookup m=none)
  (h:Q (.ref g,[.ref a]) s):aV (aS X.prog X.w) A (hX (.ref a) m pl) Q E s:=by
 obtain⟨mA,O,r,_,_,_⟩:=LC I.oX e
 have hn:mA m=none:=wO.none_of (by rw[<-l];exact r m)
 exact Wj I.Fe O (c.get m) k.at_ k.fn hn h
theorem He{y:V}{u:ao}{Q:Unit->au->Prop}(I:Inv X pins σ H s)(e:H a=some (.ins C dx fs))(c:GL X.K C)(n:oC X.K C f)(hl:fs.length<1000)(ry:RelV y u)
  (h:∀s',Inv X pins σ (upd H a (.ins C dx (v_ f y fs))) s'->Q () s'):aV (aS X.prog X.w) A (mh (.ref a) f u) Q E s:=by
 obtain⟨mA,O,r,wi,_,ho⟩:=LC I.oX e
 have hz:(fs.map (·.1)).length<=ay:=by rw[aa,aA];omega
 refine Zq I.Fe O c.sa c.po n.adb c.hd wi hz λ h' O' sb=>h _ ?_
 have hd:∃o,h'.get? dx=some o:=let⟨o,_,_,e',_⟩:=O'.ns;⟨o,e'⟩
 refine I.write (x:=a) (e:=dx) (by rw[e];exact True.intro) (.inr ho) (λ b q hb z=>(sb.2 b hb).trans z) hd ?_
 refine⟨by rw[m4 O.ne];exact ho,?_,O.ne,O'.obj,_,O'.ns,λ g=>?_,λ g hg=>?_⟩
 ·have:=Ff f y fs;omega
 ·show wO ((v_ f y fs).lookup g) (if g=f then some u else mA g)
  rw[zI]
  by_cases q:g=f
  ·rw[if_pos q,if_pos q];exact ry
  ·rw[if_neg q,if_neg q];exact r g
 ·by_cases q:g=f
  ·rw[q];exact(Eh f y fs).1
  ·refine(Eh f y fs).2 g (wi g λ z=>hg ?_)
   show(if g=f then some u else mA g)=none
   rw[if_neg q];exact z
theorem Inv.made(I:Inv X pins σ H s):Inv X pins σ (upd (upd H s.heap.objs.size (.own (s.heap.objs.size+1))) (s.heap.objs.size+1) (.ins C s.heap.objs.size []))
  { s with heap:=(s.heap.push cM).push (dm C s.heap.objs.size) }:=by
 have e1:(s.heap.push cM).get? s.heap.objs.size=some cM:=Heap.get?_push_size s.heap rfl
 have e2:((s.heap.push cM).push (dm C s.heap.objs.size)).get? (s.heap.objs.size+1)=some (dm C s.heap.objs.size):=by
  have:=Heap.get?_push_size (s.heap.push cM) (o:=dm C s.heap.objs.size) rfl
  rwa [Heap.size_push]at this
 have e3:(s.heap.push cM).Ns s.heap.objs.size (λ _=>none):=⟨cM,#[],_,e1,rfl,(λ e he=>absurd he (by simp)),λ _=>rfl⟩
 have I1:=I.laid (a:=s.heap.objs.size) (o:=.own (s.heap.objs.size+1)) (h':=s.heap.push cM) (t':=s.toks) (λ b u q=>Heap.get?_push_of_some _ q) (ax _) ⟨_,e1⟩
 refine I1.laid (a:=s.heap.objs.size+1) (o:=.ins C s.heap.objs.size []) (t':=s.toks) (λ b u q=>Heap.get?_push_of_some _ q) (gR (Heap.size_push _ _)) ?_
 have ne:s.heap.objs.size≠s.heap.objs.size+1:=bL (cK _)
 refine⟨by rw[m4 ne,mZ],aE _,ne,e2,λ _=>none,(Heap.Ns1.of_empty e3).at λ o q=>Heap.get?_push_of_some _ q,λ _=>True.intro,λ y hy=>absurd rfl hy⟩
theorem SD{prog:aJ}{w:aY}{env:Env}{e:bJ}{f:Str}{pos:Pos}{s:au}{Q:ao->au->Prop}(hb:dN e f env (cu e env)=cu e env)
  (h:aV (aS prog w) A (cu e env) (λ o s₁=>aV (aS prog w) A (kR o f true) Q E s₁) E s):aV (aS prog w) A (cu (.Attribute e f pos) env) Q E s:=
 Attribute_any_ h (by rw[arm_eval_Attribute,hb])
end
def aby(K:ah)(ta:TE)(f:Str):TE:=λ σ H Q=>ta σ H λ x H1=>∃a C dx fs v,x= .ref a/\H1 a=some (.ins C dx fs)/\GL K C/\oC K C f/\fs.lookup f=some v/\Q v H1
def aeq(K:ah)(ta tv:TE)(f:Str):TS:=λ D σ H=>tv σ H λ y H1=>ta σ H1 λ x H2=>∃a C dx fs,x= .ref a/\H2 a=some (.ins C dx fs)/\GL K C/\oC K C f/\fs.length<1000/\
 D.nx σ (upd H2 a (.ins C dx (v_ f y fs)))
def ade(X:Cx)(op:jr)(rd:V->V->Hp->VK->Prop):Prop:=
 ∀(pins:List (ag×Obj)) (s:au) (σ:St) (H:Hp) (x y:V) (u v:ao) (Q:VK),Inv X pins σ H s->RelV x u->RelV y v->rd x y H Q->aV (aS X.prog X.w) X.A (mw op u v) (EP X pins σ Q) X.xe s
def Zr(K:ah)(ta tv:TE)(rd:V->V->Hp->VK->Prop)(f:Str):TS:=λ D σ H=>ta σ H λ x H1=>∃a C dx fs v,x= .ref a/\H1 a=some (.ins C dx fs)/\GL K C/\oC K C f/\fs.lookup f=some v/\
 tv σ H1 λ y H2=>rd v y H2 λ z H3=>∃dx' fs',H3 a=some (.ins C dx' fs')/\fs'.length<1000/\D.nx σ (upd H3 a (.ins C dx' (v_ f z fs')))
section
variable{X:Cx}{o e value:bJ}{f:Str}{pos pos' Bg:Pos}{ta tv:TE}
theorem nq(he:PE X e ta)(hb:dN e f X.env (cu e X.env)=cu e X.env):PE X (.Attribute e f pos) (aby X.K ta f):=by
 intro pins s σ H Q I h
 refine SD hb (pM (he pins s σ H _ I h) λ u s1 ⟨x,H1,I1,rx,a,C,dx,fs,v,ex,ea,c,n,l,q⟩=>?_)
 subst ex
 obtain rfl:u=Value.ref a:=rx
 exact Hc I1 ea c n l λ u' s2 I2 ru=>⟨v,H1,I2,ru,q⟩
theorem pU(ha:PE X o ta)(hv:PE X value tv)(hs:hU value (some (.Attribute o f pos')) pos.line X.env=pure false):PS X (.Assign [.Attribute o f pos'] value pos) (aeq X.K ta tv f):=by
 intro pins s σ H D I h
 refine fH (pM (hv pins s σ H _ I h) λ u s1 ⟨y,H1,I1,ry,q⟩=>pM (ha pins s1 σ H1 _ I1 q) λ ov s2 ⟨x,H2,I2,rx,a,C,dx,fs,ex,ea,c,n,l,q2⟩=>?_) hs
 subst ex
 obtain rfl:ov=Value.ref a:=rx
 exact He I2 ea c n l ry λ s3 I3=>⟨σ,_,I3,q2⟩
theorem Uo{op:jr}{rd:V->V->Hp->VK->Prop}(ha:PE X o ta)(hv:PE X value tv)(hop:ade X op rd):PS X (.AugAssign (.Attribute o f Bg) op value pos) (Zr X.K ta tv rd f):=by
 intro pins s σ H D I h
 refine wpAny_AugAssign_AttributeAny (pM (ha pins s σ H _ I h) λ ov s1 ⟨x,H1,I1,rx,a,C,dx,fs,v,ex,ea,c,n,l,q⟩=>?_)
 subst ex
 obtain rfl:ov=Value.ref a:=rx
 refine Hc I1 ea c n l λ u s2 I2 ru=>pM (hv pins s2 σ H1 _ I2 q) λ w3 s3 ⟨y,H2,I3,ry,q3⟩=>pM (hop pins s3 σ H2 v y u w3 _ I3 ru ry q3) λ w4 s4 ⟨z,H3,I4,rz,dx',fs',ea',l',q4⟩=>?_
 exact He I4 ea' c n l' rz λ s5 I5=>⟨σ,_,I5,q4⟩
def aer:V->V->Hp->VK->Prop:=λ x y H Q=>∃i j,x= .int i/\y= .int j/\Q (.int (i+j)) H
theorem abz:ade X .Add aer:=by
 rintro pins s σ H x y u v Q I rx ry ⟨i,j,rfl,rfl,q⟩
 obtain⟨t,rfl⟩:=(show ∃t,u=Value.int i t from rx)
 obtain⟨t',rfl⟩:=(show ∃t',v=Value.int j t' from ry)
 exact kY ⟨.int (i+j),H,I.tok _,⟨_,rfl⟩,q⟩
end
section
variable{X:Cx}{pins:List (ag×Obj)}{σ:St}{H:Hp}{s:au}{A:bU}{E:ao->au->Prop}{Q:ao->au->Prop}{c:ao}{b:Bool}
end
end L2
namespace L2
open PySem PySem.Spec PyProof.Rows
structure qS(k:Nat)(A:bU):Prop where
 hd:A.handled=none
 dp:A.depth+3*k+5<mJ
 un:A.units+16*k+200<jH
theorem qS.mono{j k:Nat}{A:bU}(r:qS k A)(h:j<=k):qS j A:=⟨r.hd,by have:=r.dp;omega,by have:=r.un;omega⟩
theorem qS.deeper{k:Nat}{A:bU}(r:qS (k+1) A)(env:Env):qS k (A.deeper env):=
 ⟨r.hd,by have:=r.dp;show A.depth+1+3*k+5< _;omega,by have:=r.un;show A.units+3+16*k+200< _;omega⟩
theorem Qi{A:bU}{C:ag}{us:List ao}{kw:List (Str×ao)}:(A.under (.builtin "type.__call__" ⟨.ref C::us,kw⟩)).depth=A.depth+1:=by
 first|rfl|simp[Around.under,Code.weight,Code.isCreation,Code.isGuard,Code.isCaller,Code.frames,Code.isFrame,guardIds]
theorem Qj{A:bU}{C:ag}{us:List ao}{kw:List (Str×ao)}:(A.under (.builtin "type.__call__" ⟨.ref C::us,kw⟩)).units=A.units+1:=by
 first|rfl|simp[Around.under,Code.cUnits,Code.frames,Code.isFrame]
theorem qS.make{k:Nat}{A:bU}(r:qS (k+1) A)(C:ag)(us:List ao)(kw:List (Str×ao)):qS k (A.under (.builtin "type.__call__" ⟨.ref C::us,kw⟩)):=
 ⟨r.hd,by have:=r.dp;rw[Qi];omega,by have:=r.un;rw[Qj];omega⟩
theorem qS.depth{k:Nat}{A:bU}(r:qS k A):A.depth<mJ:=by have:=r.dp;omega
theorem qS.units{k:Nat}{A:bU}(r:qS k A):A.units+64<jH:=by have:=r.un;omega
def Wl:TA:=λ _ H Q=>Q [] H
def adf(ta:TE)(tr:TA):TA:=λ σ H Q=>ta σ H λ x H1=>tr σ H1 λ xs H2=>Q (x::xs) H2
section
variable{X:Cx}{e:bJ}{es:List bJ}{te:TE}{t:TA}{pos:Pos}
theorem mY:PA X [] Wl:=λ _ _ _ _ H Q I h=>Calls.spliced_nil ⟨[],H,I,.nil,h⟩
theorem mW(ha:PE X e te)(hr:PA X es t)(hs:aN (e::es) X.env=(false,cu e X.env)::aN es X.env:=by rfl):PA X (e::es) (adf te t):=by
 intro pos pins s σ H Q I h
 rw[hs]
 show aV _ _ (spliced ((false,cu e X.env)::c7 pos (aN es X.env))) _ _ s
 refine Calls.spliced_cons (pM (ha pins s σ H _ I h) λ u s1 ⟨x,H1,I1,r1,q1⟩=>?_)
 exact pM (hr pos pins s1 σ H1 _ I1 q1) λ us s2 ⟨xs,H2,I2,r2,q2⟩=>⟨x::xs,H2,I2,.cons r1 r2,q2⟩
def aes(t:TA):TE:=λ σ H Q=>t σ H λ xs H1=>xs.length<=ay/\∀p,H1 p=none->Q (.ref p) (upd H1 p (.tup xs))
def aet(t:TA):TE:=λ σ H Q=>t σ H λ xs H1=>xs.length<=ay/\∀p,H1 p=none->Q (.ref p) (upd H1 p (.lst xs))
theorem abA{x1}(h:PA X es t):PE X (.Tuple es x1 pos) (aes t):=by
 intro pins s σ H Q I hq
 refine wpAny_Tuple_spliced (pM (h pos pins s σ H _ I hq) λ us s1 ⟨xs,H1,I1,r,z,q⟩=>⟨by rw[<-r.length];exact z,?_⟩)
 have hf:H1 s1.heap.objs.size=none:=I1.oX.fresh (ax _)
 refine⟨.ref s1.heap.objs.size,upd H1 s1.heap.objs.size (.tup xs),I1.laid (t':=s1.toks) (λ b u e=>Heap.get?_push_of_some _ e) (ax _) ?_,rfl,q _ hf⟩
 exact⟨z,us,r,⟨_,Heap.get?_push_size _ rfl,rfl,_,rfl⟩⟩
theorem nP(h:PA X es t):PE X (.List es pos) (aet t):=by
 intro pins s σ H Q I hq
 refine wpAny_List_spliced (pM (h pos pins s σ H _ I hq) λ us s1 ⟨xs,H1,I1,r,z,q⟩=>⟨by rw[<-r.length];exact z,?_⟩)
 have hf:H1 s1.heap.objs.size=none:=I1.oX.fresh (ax _)
 refine⟨.ref s1.heap.objs.size,upd H1 s1.heap.objs.size (.lst xs),I1.laid (t':=s1.toks) (λ b u e=>Heap.get?_push_of_some _ e) (ax _) ?_,rfl,q _ hf⟩
 exact⟨z,us,0,r,Heap.get?_push_size _ rfl⟩
end
abbrev Sp:=List V->Hp->VK->XK->Prop
abbrev CV:=List Env->Hp->au->XK->ao->au->Prop
structure LD(P:aJ)(w:aY)(K:ah)(mg:Str->Option ao)(base:bz)(A:bU)(outer:List Env)(s:au)(H:Hp):Prop where
 frames:A.frames=some outer
 mod:Mod K mg base
 bs:∀b o,base.get? b=some o->s.heap.get? b=some o/\H b=none
 Sq:base.objs.size<=s.heap.objs.size
 Bf:s.heap.FunFrames base outer
 VU:∀b∈PU outer,H b=none
 oX:zD P w H s.heap
 bare:gq s.gens
def CE(outer:List Env)(P:aJ)(w:aY)(H:Hp)(s:au)(Q:VK)(u:ao)(s':au):Prop:=
 ∃v H',s'.os=s.os/\gq s'.gens/\Un (PU outer) [] H H' s.heap s'.heap/\zD P w H' s'.heap/\RelV v u/\Q v H'
def CR(CX:CV)(outer:List Env)(P:aJ)(w:aY)(H:Hp)(s:au)(Q:VK)(E:XK)(r:lU)(s':au):Prop:=
 match r with
 | .ok (.ret u)=>CE outer P w H s Q u s'
 | .ok _=>False
 | .error e=>CX outer H s E e s'
structure nQ(P:aJ)(w:aY)(K:ah)(mg:Str->Option ao)(base:bz)(CX:CV)(k:Nat)(f:ag)(fd:bK)(ps:List Str)(sp:Sp):Prop where
 len:∀vs H Q E,sp vs H Q E->vs.length=ps.length
 run:∀(A:bU) (outer:List Env) (s:au) (H:Hp) (args:Args) (us:List ao) (vs:List V) (Q:VK) (E:XK),qS k A->LD P w K mg base A outer s H->iQ s fd args (ps.zip us)->Vals vs us->sp vs H Q E->
  fR (aS P w) A (.call (.ref f) args) (CR CX outer P w H s Q E) s
theorem nQ.mono{P:aJ}{w:aY}{K:ah}{mg:Str->Option ao}{base:bz}{CX:CV}{j k:Nat}{f:ag}{fd:bK}{ps:List Str}{sp:Sp}(F:nQ P w K mg base CX j f fd ps sp)(h:j<=k):
  nQ P w K mg base CX k f fd ps sp:=⟨F.len,λ A outer s H args us vs Q E hr=>F.run A outer s H args us vs Q E (hr.mono h)⟩
theorem nQ.imp{P:aJ}{w:aY}{K:ah}{mg:Str->Option ao}{base:bz}{CX:CV}{k:Nat}{f:ag}{fd:bK}{ps:List Str}{sp sp':Sp}(F:nQ P w K mg base CX k f fd ps sp)
  (h:∀vs H Q E,sp' vs H Q E->sp vs H Q E):nQ P w K mg base CX k f fd ps sp':=
 ⟨λ vs H Q E q=>F.len vs H Q E (h _ _ _ _ q),λ A outer s H args us vs Q E hr he hb hv hs=>F.run A outer s H args us vs Q E hr he hb hv (h _ _ _ _ hs)⟩
theorem LD.make{P:aJ}{w:aY}{K:ah}{mg:Str->Option ao}{base:bz}{A:bU}{outer:List Env}{s:au}{H:Hp}(e:LD P w K mg base A outer s H)(C:ag)(us:List ao)(kw:List (Str×ao)):
  LD P w K mg base (A.under (.builtin "type.__call__" ⟨.ref C::us,kw⟩)) outer s H:=⟨by first|exact e.frames|(simpa [Around.under,Code.envs,Code.isFrame,pushEnvs]using e.frames),e.mod,e.bs,e.Sq,e.Bf,e.VU,e.oX,e.bare⟩
section
variable{X:Cx}{pins:List (ag×Obj)}{σ:St}{H:Hp}{s s':au}
theorem Inv.abB(I:Inv X pins σ H s):LD X.prog X.w X.K X.mg X.base X.A X.stack s H:=
 ⟨I.ok.frames,I.ok.mod,I.bs,aT I.ok.Sq I.sz,I.stack,I.Lr,I.oX,I.bare⟩
theorem Inv.after{Q:VK}{u:ao}(I:Inv X pins σ H s)(h:CE X.stack X.prog X.w H s Q u s'):EP X pins σ Q u s':=by
 obtain⟨v,H',os,bare,un,oX,r,q⟩:=h
 obtain⟨hh,g,d,t,os'⟩:=s'
 obtain rfl:os'=s.os:=os
 exact⟨v,H',I.call (h':=hh) (g':=g) (d':=d) (t':=t) (ch:=[]) un oX bare (λ b z=>absurd z (by simp)),r,q⟩
end
def adg(sp:Sp)(JQ:List V)(E:XK)(t:TA):TE:=λ σ H Q=>t σ H λ vs H1=>sp (vs++JQ) H1 Q E
def aaZ(C:ag)(m:Str)(sp:Sp)(JQ:List V)(E:XK)(ta:TE)(t:TA):TE:=λ σ H Q=>ta σ H λ x H1=>∃a dx fs,x= .ref a/\H1 a=some (.ins C dx fs)/\fs.lookup m=none/\
 t σ H1 λ vs H2=>sp (x::(vs++JQ)) H2 Q E
def adh(C:ag)(sp:Sp)(JQ:List V)(E:XK)(t:TA):TE:=λ σ H Q=>t σ H λ vs H1=>∀x dx,H1 x=none->H1 dx=none->dx≠x->
 sp (.ref x::(vs++JQ)) (upd (upd H1 dx (.own x)) x (.ins C dx [])) (λ v H2=>v= .qA/\Q (.ref x) H2) E
def Binds(K:ah)(fd:bK)(ps:List Str)(ds:List ao):Prop:=
 ∀(s:au) (us:List ao),K.In s.heap->(us++ds).length=ps.length->iQ s fd ⟨us,[]⟩ (ps.zip (us++ds))
theorem Binds.all{K:ah}{fd:bK}{ps:List Str}(h:∀us:List ao,us.length=ps.length->iK fd ⟨us,[]⟩=pure (ps.zip us)):Binds K fd ps []:=λ s us _ hl=>by
 rw[bD]at hl ⊢
 exact .of_eq (h us hl)
def Passes(CX:CV)(X:Cx)(E:XK):Prop:=∀(pins:List (ag×Obj)) (σ:St) (H:Hp) (s:au) (e:ao) (s':au),Inv X pins σ H s->CX X.stack H s E e s'->X.xe e s'
section
variable{X:Cx}{CX:CV}{k:Nat}{f C:ag}{fd:bK}{ps:List Str}{sp:Sp}{JQ:List V}{ds:List ao}{E:XK}{x m:Str}{p pos apos:Pos}{e o:bJ}{es:List bJ}{ta:TE}{t:TA}
theorem LF{pins:List (ag×Obj)}{σ:St}{H:Hp}{s:au}{Q:VK}{us:List ao}{vs:List V}(F:nQ X.prog X.w X.K X.mg X.base CX k f fd ps sp)(hr:qS k X.A)(hb:Binds X.K fd ps ds)(hd:Vals JQ ds)(hx:Passes CX X E)
  (I:Inv X pins σ H s)(r:Vals vs us)(h:sp (vs++JQ) H Q E):aV (aS X.prog X.w) X.A (call (.ref f) us) (EP X pins σ Q) X.xe s:=by
 have r2:Vals (vs++JQ) (us++ds):=r.append hd
 have hl:(us++ds).length=ps.length:=by rw[<-r2.length];exact F.len _ _ _ _ h
 refine jc (dX (F.run X.A X.stack s H ⟨us,[]⟩ (us++ds) (vs++JQ) Q E hr I.abB (hb s us I.Fe hl) r2 h) λ r s' hq=>?_)
 cases r with
 |error e=>exact hx pins σ H s e s' I hq
 |ok fl=>
  cases fl with
  |ret u=>exact I.after hq
  |next=>exact False.elim hq
  |brk=>exact False.elim hq
  |cont=>exact False.elim hq
theorem Zs(F:nQ X.prog X.w X.K X.mg X.base CX k f fd ps sp)(hr:qS k X.A)(hg:Gl X x)(hm:X.mg x=some (.ref f))(hk:bY X.K (.ref f)=true)(hb:Binds X.K fd ps ds)(hd:Vals JQ ds)(hx:Passes CX X E)
  (ha:PA X (e::es) t)(PK:(x == ("__debug__":Str))=false:=by decide)(he:aN (e::es) X.env=(false,cu e X.env)::aN es X.env:=by rfl)(vm:(c7 pos (aN es X.env)).any (·.1)=false:=by rfl):
  PE X (.Call (.Name x p) (e::es) [] pos) (adg sp JQ E t):=by
 intro pins s σ H Q I h
 refine cZ (xQ I hg hm ?_ PK)
 refine dJ (h₀:=X.base) I.ok.mod.Zj hk (pM (ha pos pins s σ H _ I h) λ us s1 ⟨vs,H1,I1,r,q⟩=>⟨I1.Fe,?_⟩) he vm
 exact LF F hr hb hd hx I1 r q
theorem Zt{pl:Sem Bool}(he:PE X o ta)(c:GL X.K C)(hm:Meth X.K C m f)(F:nQ X.prog X.w X.K X.mg X.base CX k f fd ps sp)(hr:qS k X.A)(hb:Binds X.K fd ps ds)(hd:Vals JQ ds)(hx:Passes CX X E)(ha:PA X (e::es) t)
  (LA:aN (e::es) X.env=(false,cu e X.env)::aN es X.env:=by rfl)(vm:(c7 pos (aN es X.env)).any (·.1)=false:=by rfl)
  (ht:cu (.Call (.Attribute o m apos) (e::es) [] pos) X.env=(do
   let ov <-cu o X.env
   ir apos.atName
   let(f,first) <-gp [ov] (hX ov m pl)
   jo pos f first (c7 pos (aN (e::es) X.env)) (hZ pos (ff [] X.env))):=by rfl):
  PE X (.Call (.Attribute o m apos) (e::es) [] pos) (aaZ C m sp JQ E ta t):=by
 intro pins s σ H Q I h
 refine gJ (pl:=pl) (pM (he pins s σ H _ I h) λ u s1 ⟨x,H1,I1,rx,a,dx,fs,ex,ea,l,q⟩=>?_) ht
 subst ex
 obtain rfl:u=Value.ref a:=rx
 refine Hd I1 ea c hm l ?_
 refine dJ (first:=[.ref a]) (h₀:=X.base) I.ok.mod.Zj hm.kp (pM (ha pos pins s1 σ H1 _ I1 q) λ us s2 ⟨vs,H2,I2,r,q2⟩=>⟨I2.Fe,?_⟩) LA vm
 exact LF (us:=.ref a::us) (vs:=.ref a::vs) F hr hb hd hx I2 (.cons rfl r) q2
theorem Wm{pl:Sem Bool}(he:PE X o ta)(c:GL X.K C)(hm:Meth X.K C m f)(F:nQ X.prog X.w X.K X.mg X.base CX k f fd ps sp)(hr:qS k X.A)(hb:Binds X.K fd ps ds)(hd:Vals JQ ds)(hx:Passes CX X E)
  (ht:cu (.Call (.Attribute o m apos) [] [] pos) X.env=(do
   let ov <-cu o X.env
   ir apos.atName
   let(f,first) <-gp [ov] (hX ov m pl)
   jo pos f first (c7 pos (aN [] X.env)) (hZ pos (ff [] X.env))):=by rfl):
  PE X (.Call (.Attribute o m apos) [] [] pos) (aaZ C m sp JQ E ta Wl):=by
 intro pins s σ H Q I h
 refine gJ (pl:=pl) (pM (he pins s σ H _ I h) λ u s1 ⟨x,H1,I1,rx,a,dx,fs,ex,ea,l,q⟩=>?_) ht
 subst ex
 obtain rfl:u=Value.ref a:=rx
 refine Hd I1 ea c hm l ?_
 exact jL (first:=[.ref a]) I1.Fe hm.kp (LF (us:=[.ref a]) (vs:=[.ref a]) F hr hb hd hx I1 (.cons rfl .nil) q)
structure Mk(K:ah)(C f:ag):Prop where
 makes:iV K C=true
 init:bw K (.ref C) "__init__"=some (some (.ref f))
 fn:gC K (.ref f)=true
 kp:bY K (.ref C)=true
theorem Hf{pins:List (ag×Obj)}{σ:St}{H:Hp}{s:au}{Q:VK}{us:List ao}{vs:List V}(M:Mk X.K C f)(F:nQ X.prog X.w X.K X.mg X.base CX k f fd ps sp)(hr:qS (k+1) X.A)(hb:Binds X.K fd ps ds)(hd:Vals JQ ds)
  (hx:Passes CX X E)(I:Inv X pins σ H s)(r:Vals vs us)
  (h:∀x dx,H x=none->H dx=none->dx≠x->sp (.ref x::(vs++JQ)) (upd (upd H dx (.own x)) x (.ins C dx [])) (λ v H2=>v= .qA/\Q (.ref x) H2) E):
  aV (aS X.prog X.w) X.A (call (.ref C) us) (EP X pins σ Q) X.xe s:=by
 have hq:=h (s.heap.objs.size+1) s.heap.objs.size (I.oX.fresh (km _)) (I.oX.fresh (ax _)) (bL (cK _))
 have I2:=Inv.made (C:=C) I
 have r2:Vals (V.ref (s.heap.objs.size+1)::(vs++JQ)) (Value.ref (s.heap.objs.size+1)::(us++ds)):=.cons rfl (r.append hd)
 have hl:(Value.ref (s.heap.objs.size+1)::us++ds).length=ps.length:=by
  have e:=r2.length
  rw[F.len _ _ _ _ hq]at e
  exact e.symm
 refine jc (Wk (f:=f) I.Fe M.makes M.init (beq_iff_eq.mp M.fn) (dX (F.run _ X.stack _ _ ⟨Value.ref (s.heap.objs.size+1)::us,[]⟩ (Value.ref (s.heap.objs.size+1)::(us++ds)) _ _ E (hr.make C us [])
  (I2.abB.make C us []) (hb _ (Value.ref (s.heap.objs.size+1)::us) I2.Fe hl) r2 hq) λ r s' SE=>?_))
 cases r with
 |error e=>exact hx pins σ _ _ e s' I2 SE
 |ok fl=>
  cases fl with
  |ret u=>
   obtain⟨v,H',I3,rv,ev,q3⟩:=I2.after SE
   subst ev
   exact⟨rv,⟨V.ref (s.heap.objs.size+1),H',I3,rfl,q3⟩⟩
  |next=>exact False.elim SE
  |brk=>exact False.elim SE
  |cont=>exact False.elim SE
theorem Wn(M:Mk X.K C f)(F:nQ X.prog X.w X.K X.mg X.base CX k f fd ps sp)(hr:qS (k+1) X.A)(hg:Gl X x)(hm:X.mg x=some (.ref C))(hb:Binds X.K fd ps ds)(hd:Vals JQ ds)(hx:Passes CX X E)
  (PK:(x == ("__debug__":Str))=false:=by decide):PE X (.Call (.Name x p) [] [] pos) (adh C sp JQ E Wl):=by
 intro pins s σ H Q I h
 refine cZ (xQ I hg hm ?_ PK)
 exact jL I.Fe M.kp (Hf (us:=[]) M F hr hb hd hx I .nil h)
end
section
variable{X:Cx}{CX:CV}{k:Nat}{f C:ag}{fd:bK}{ps ks:List Str}{sp:Sp}{E:XK}{x m:Str}{p pos apos afk:Pos}{e o:bJ}{es:List bJ}{kws:List kS}{te ta:TE}{t tk:TA}{nm:Option Str}
variable{g:List ao->List ao->List ao}{gV:List V->List V->List V}
end
structure m9(N P:List Str)(sc:eQ):Prop where
 kind:sc.kind= .function
 co:sc.isCoroutine=false
 gen:sc.isGenerator=false
 nd:N.Nodup
 pre:N.take P.length=P
 par:∀x∈P,sc.names.lookup x=some .local\/sc.names.lookup x=some .cell
 abC:∀y∈sc.names,y.2≠ .free
theorem Kh{gj:Str->Option dF}{x:Str}:∀{binds:List (Str×ao)} {m:Str->Option ao},(∀v,(x,v)∉binds)->ky gj binds m x=m x
 |[],_,_=>rfl
 |(n,v)::r,m,h=>by
  unfold ky
  rw[Kh λ w hw=>h w (aQ _ hw)]
  split
  ·have:x≠n:=by rintro rfl;exact h v bT
   simp[this]
  ·rfl
theorem Ki{gj:Str->Option dF}{x:Str}:∀{binds:List (Str×ao)} {m:Str->Option ao},(∀v,(x,v)∉binds)->kz gj binds m x=m x
 |[],_,_=>rfl
 |(n,v)::r,m,h=>by
  unfold kz
  rw[Ki λ w hw=>h w (aQ _ hw)]
  split
  ·rfl
  ·have:x≠n:=by rintro rfl;exact h v bT
   simp[this]
theorem Kj{gj:Str->Option dF}{x:Str}{v:ao}:∀{P:List Str} {vs:List ao} {i:Nat} {m:Str->Option ao},P.Nodup->P[i]? =some x->vs[i]? =some v->gj x=some .local->
  ky gj (P.zip vs) m x=some v
 |[],_,_,_,_,h,_,_=>by simp at h
 |_::_,[],_,_,_,_,h,_=>by simp at h
 |p::P,w::vs,0,m,nd,h1,h2,hk=>by
  simp at h1 h2;subst h1;subst h2
  show ky gj ((p,w)::P.zip vs) m p=_
  unfold ky
  rw[Kh λ v hv=>(List.nodup_cons.mp nd).1 (gS hv).1,if_pos hk]
  simp
 |p::P,w::vs,i+1,m,nd,h1,h2,hk=>by
  show ky gj ((p,w)::P.zip vs) m x=_
  unfold ky
  exact Kj (i:=i) (List.nodup_cons.mp nd).2 (by simpa using h1) (by simpa using h2) hk
theorem Kk{gj:Str->Option dF}{x:Str}{v:ao}:∀{P:List Str} {vs:List ao} {i:Nat} {m:Str->Option ao},P.Nodup->P[i]? =some x->vs[i]? =some v->gj x≠some .local->
  kz gj (P.zip vs) m x=some v
 |[],_,_,_,_,h,_,_=>by simp at h
 |_::_,[],_,_,_,_,h,_=>by simp at h
 |p::P,w::vs,0,m,nd,h1,h2,hk=>by
  simp at h1 h2;subst h1;subst h2
  show kz gj ((p,w)::P.zip vs) m p=_
  unfold kz
  rw[Ki λ v hv=>(List.nodup_cons.mp nd).1 (gS hv).1,if_neg hk]
  simp
 |p::P,w::vs,i+1,m,nd,h1,h2,hk=>by
  show kz gj ((p,w)::P.zip vs) m x=_
  unfold kz
  exact Kk (i:=i) (List.nodup_cons.mp nd).2 (by simpa using h1) (by simpa using h2) hk
def start(N:List Str)(vs:List V):St:=vs.map some++cG (N.length-vs.length) none
def LG(CX:CV)(P:aJ)(w:aY)(K:ah)(mg:Str->Option ao)(base:bz)(N:List Str)(qual:Str)(scope:eQ)(f:ag)(cd:ao)(A:bU)(outer:List Env)(s:au)(H:Hp)(E:XK):Cx where
 prog:=P
 w:=w
 K:=K
 mg:=mg
 base:=base
 A:=A.deeper (iN qual scope s.heap.objs.size f cd)
 N:=N
 JP:=s
 H_0:=H
 env:=iN qual scope s.heap.objs.size f cd
 outer:=outer
 stack:=iN qual scope s.heap.objs.size f cd::outer
 ex:=[]
 calm:=true
 fn:=λ _=>true
 pn:=[]
 xe:=λ e s'=>aV (aS P w) (A.deeper (iN qual scope s.heap.objs.size f cd)) (leaving (iN qual scope s.heap.objs.size f cd) e) (λ _ s''=>CX outer H s E e s'') (λ e' s''=>CX outer H s E e' s'') s'
theorem Nz{sc:eQ}{n:Nat}{x:Str}(h:sc.names.lookup x=some .cell):∃c,(cE n sc.names []).lookup x=some c:=by
 have q:=jv sc.names n [] (.inl h)
 exact Option.isSome_iff_exists.mp q
theorem Up{CX:CV}{P:aJ}{w:aY}{K:ah}{mg:Str->Option ao}{base:bz}{N ps:List Str}{qual:Str}{scope:eQ}{f:ag}{cd:ao}{A:bU}{outer:List Env}{s s1:au}{H:Hp}{E:XK}{us:List ao}{vs:List V}
  (S:m9 N ps scope)(hd:A.handled=none)(e0:LD P w K mg base A outer s H)(hl:vs.length=ps.length)(r:Vals vs us)
  (x:InCallC s s.heap.objs.size (ky (iN qual scope s.heap.objs.size f cd).kindOf (ps.zip us) λ _=>none) (cE (s.heap.objs.size+1) scope.names []) (kz (iN qual scope s.heap.objs.size f cd).kindOf (ps.zip us) λ _=>none) s1):
  Inv (LG CX P w K mg base N qual scope f cd A outer s H E) [] (start N vs) H s1:=by
 have vm:ps.length<=N.length:=by have:=congrArg ie S.pre;rw[bW]at this;omega
 obtain⟨h1,tk,rfl,hk⟩:=x.done
 have noA:∀b:ag,b∉(LG CX P w K mg base N qual scope f cd A outer s H E).ex:=λ b z=>absurd (show b∈([]:List ag)from z) (by simp)
 refine⟨⟨e0.mod,S.kind,rfl,rfl,ax _,λ y z c h1 h2=>?_,λ y hy=>?_,λ y c _ h=>?_,λ _=>hd,Around.frames_deeper e0.frames,.inr ⟨rfl,rfl⟩,λ b z=>absurd z (noA b),e0.bs,e0.Sq,λ b _ _=>noA b,λ b z=>absurd z (noA b),e0.Bf,e0.VU⟩,
  rfl,e0.bare,Un.kept hk,⟨_,x.toInCall.ns,λ i y v h1 h2 h3=>?_⟩,λ y c h=>⟨_,x.cell y c h⟩,e0.oX.fresh (ax _),λ y c h=>?_,λ p hp=>absurd (show p∈([]:List (ag×Obj))from hp) (by simp),e0.oX.kept hk,?_⟩
 ·exact name_of_addr x.apart (bG h1) (bG h2)
 ·have hy:scope.names.lookup y=some .cell\/scope.names.lookup y=some .free:=hy
  rcases hy with hy|hy
  ·exact Nz hy
  ·exact absurd rfl (S.abC _ (bG hy))
 ·exact fb (x.above y c (bG h))
 ·have hi:i<vs.length:=by
   unfold start at h2
   by_cases hi:i<vs.length
   ·exact hi
   ·rw[bg (by simpa using hi)]at h2
    rw[gH]at h2
    split at h2 <;> cases h2
  have ha:vs[i]? =some v:=by
   unfold start at h2
   rw[bp (by simpa using hi),ak]at h2
   cases e:vs[i]? with
   |none=>rw[e]at h2;cases h2
   |some a=>rw[e]at h2;cases h2;rfl
  obtain⟨u,hu,rv⟩:=r.get ha
  have hp:ps[i]? =some y:=by
   rw[<-S.pre,List.getElem?_take_of_lt (by omega)];exact h1
  have ndP:ps.Nodup:=by rw[<-S.pre];exact S.nd.sublist (List.take_sublist _ _)
  refine⟨u,rv,?_⟩
  rcases S.par y (aC hp)with k|k
  ·exact .inl ⟨k,Kj ndP hp hu k⟩
  ·obtain⟨c,e⟩:=Nz (n:=s.heap.objs.size+1) k
   refine .inr ⟨.inl k,c,e,?_⟩
   have q:=x.cell y c e
   rw[Kk ndP hp hu (by show scope.names.lookup y≠_;rw[k];decide)]at q
   exact q
 ·exact e0.oX.fresh (fb (x.above y c (bG h)))
 ·unfold start
  show _=N.length
  rw[aw,aa,fm]
  omega
theorem aa0{CX:CV}{P:aJ}{w:aY}{K:ah}{mg:Str->Option ao}{base:bz}{k:Nat}{f:ag}{name qual:Str}{params:Arguments}{body:List bA}{scope:eQ}{dV kV doc pm oW ct oc:ao}{an od:Option ag}
  {Kl:Array (Option ao)}{N ps:List Str}{sp:Sp}(lk:K.lookup f=some ⟨oc,od,.func (cz name qual params body scope dV kV doc pm an oW ct),Kl⟩)(Lw:dW K oW qual=true)(S:m9 N ps scope)
  (len:∀vs H Q E,sp vs H Q E->vs.length=ps.length)
  (NA:∀(A:bU) (outer:List Env) (s:au) (H:Hp) (vs:List V) (Q:VK) (E:XK),qS k (A.deeper (iN qual scope s.heap.objs.size f oW))->sp vs H Q E->
   ∃t,Lv (LG CX P w K mg base N qual scope f oW A outer s H E) body t/\t { nx:=λ _ H'=>Q .qA H',rt:=Q } (start N vs) H):
  nQ P w K mg base CX (k+1) f (cz name qual params body scope dV kV doc pm an oW ct) ps sp:=by
 refine⟨len,λ A outer s H args us vs Q E hr e0 hb r NB=>?_⟩
 have hl:=len _ _ _ _ NB
 have KX:K.In s.heap:=e0.mod.Zj.keeps λ b o e=>(e0.bs b o e).1
 have lim:s.heap.NoLimit:=e0.mod.nolimit.keeps λ b o e=>(e0.bs b o e).1
 have adi:∀y∈ps.zip us,scope.names.lookup y.1=some .local\/(scope.names.lookup y.1=some .cell/\((cE (s.heap.objs.size+1) scope.names []).lookup y.1).isSome=true):=λ⟨n,v⟩ hy=>by
  rcases S.par n (gS hy).1 with q|q
  ·exact .inl q
  ·exact .inr ⟨q,jv _ _ _ (.inl q)⟩
 refine codeAny_call_function hr.depth (KX _ _ lk) rfl S.co S.gen rfl (PySem.W.codeRec_of KX Lw) (hb _ _ _ _ ?_)
 refine wpAny_newFunctionEnv_cells S.kind adi λ env he s1 x=>?_
 subst he
 refine⟨lim.keeps x.toInCall.keep,codeAny_func ?_⟩
 obtain⟨t,ht,hq⟩:=NA A outer s H vs Q E (hr.deeper _) NB
 have I:Inv (LG CX P w K mg base N qual scope f oW A outer s H E) [] (start N vs) H s1:=Up S hr.hd e0 hl r x
 refine cQ (ht [] s1 (start N vs) H _ I hq) (λ fl s' hs=>?_) λ e s' hs=>hs
 have fin:∀{σ':St} {H':Hp} {v:V} {u:ao},Inv (LG CX P w K mg base N qual scope f oW A outer s H E) [] σ' H' s'->RelV v u->Q v H'->CE outer P w H s Q u s':=
  λ{σ' H' v u} J rv q=>⟨v,H',J.os,J.bare,J.base,J.oX,rv,q⟩
 cases fl with
 |ret u=>
  obtain⟨v,σ',H',J,rv,q⟩:=hs
  exact fin J rv q
 |next=>
  obtain⟨σ',H',J,q⟩:=hs
  exact fin (v:=V.qA) (u:=Value.none) J rfl q
 |brk=>
  obtain⟨_,_,_,q⟩:=hs
  exact False.elim q
 |cont=>
  obtain⟨_,_,_,q⟩:=hs
  exact False.elim q
end L2
namespace L2
open PySem PySem.Spec PyProof.Rows
section
variable{X:Cx}{x:Str}{p pos:Pos}{e:bJ}{es:List bJ}{t:TA}{id T:String}{r:List V->Hp->VK->Prop}
def tCB(r:List V->Hp->VK->Prop)(t:TA):TE:=λ σ H Q=>t σ H λ vs H1=>r vs H1 Q
theorem nM(hc:zH X (.builtin id) r)(hg:Gl X x)(hm:X.mg x=none)(hv:fD x=some (.builtin id))(ha:PA X (e::es) t)(hn:x≠"__name__":=by decide)(PK:(x == ("__debug__":Str))=false:=by decide)
  (he:aN (e::es) X.env=(false,cu e X.env)::aN es X.env:=by rfl)(vm:(c7 pos (aN es X.env)).any (·.1)=false:=by rfl):PE X (.Call (.Name x p) (e::es) [] pos) (tCB r t):=by
 intro pins s σ H Q I h
 refine cZ (vg I hg hm hv ?_ hn PK)
 exact ia (pM (ha pos pins s σ H _ I h) λ us s1 ⟨vs,H1,I1,r1,q1⟩=>hc pins s1 σ H1 vs us Q I1 r1 q1) he vm
theorem sr(hc:zH X (.type T) r)(hg:Gl X x)(hm:X.mg x=none)(hv:fD x=some (.type T))(ha:PA X (e::es) t)(hn:x≠"__name__":=by decide)(PK:(x == ("__debug__":Str))=false:=by decide)
  (he:aN (e::es) X.env=(false,cu e X.env)::aN es X.env:=by rfl)(vm:(c7 pos (aN es X.env)).any (·.1)=false:=by rfl):PE X (.Call (.Name x p) (e::es) [] pos) (tCB r t):=by
 intro pins s σ H Q I h
 refine cZ (vg I hg hm hv ?_ hn PK)
 exact bS (pM (ha pos pins s σ H _ I h) λ us s1 ⟨vs,H1,I1,r1,q1⟩=>hc pins s1 σ H1 vs us Q I1 r1 q1) he vm
end
end L2
namespace HT
open PySem PyProof.Rows
section
open PySem.SeqAt
open PySem.AutoSeq1 (wpAny_loadPart')
open PySem.MeetsSeq PySem.MeetsSeq2 PySem.MeetsSeq3
end
section
variable{prog:aJ}{w:aY}{A:bU}{E:ao->au->Prop}{s:au}
def PL(n d:Nat):Option Int->Nat
 |none=>d
 |some v=>if v<0 then(v+(n:Int)).toNat else min v.toNat n
theorem GN(n d k:Nat):PL n d (some (k:Int))=min k n:=by
 show(if(k:Int)<0 then((k:Int)+(n:Int)).toNat else min (k:Int).toNat n)=min k n
 rw[if_neg (by omega),Int.toNat_natCast]
end
end HT
namespace L2
open PySem PySem.Spec PyProof.Rows
abbrev TO:=St->Hp->(Option Int->Hp->Prop)->Prop
def PO(X:Cx)(e:Option bJ)(t:TO):Prop:=
 ∀(pins:List (ag×Obj)) (s:au) (σ:St) (H:Hp) (Q:Option Int->Hp->Prop),Inv X pins σ H s->t σ H Q->
  aV (aS X.prog X.w) X.A (evalPart e X.env) (λ u s'=>∃o H',Inv X pins σ H' s'/\IsPart u o/\Q o H') X.xe s
def adj(t:TE):TO:=λ σ H Q=>t σ H λ x H1=>∃i,x= .int i/\Q (some i) H1
section
variable{X:Cx}{e:bJ}{te:TE}{lo hi:Option bJ}{tl th:TO}{pos p2:Pos}
theorem wm(h:PE X e te):PO X (some e) (adj te):=by
 intro pins s σ H Q I hw
 rw[evalPart_some]
 refine pM (h pins s σ H _ I hw) λ u s1 ⟨x,H1,I1,r1,q1⟩=>?_
 obtain⟨i,rfl,q⟩:=q1
 obtain⟨t,rfl⟩:=r1
 exact⟨some i,H1,I1,.int i t,q⟩
def SlR(X:Cx)(r:V->Option Int->Option Int->Hp->VK->Prop):Prop:=
 ∀(pins:List (ag×Obj)) (s:au) (σ:St) (H:Hp) (x:V) (v vl vu:ao) (lo hi:Option Int) (sl:ag) (Q:VK),Inv X pins σ H s->RelV x v->s.heap.IsSliceOf sl vl vu .none->IsPart vl lo->IsPart vu hi->r x lo hi H Q->
  ∃T id,typeLookup (.type T) "__getitem__"=pure (some (.builtin id))/\s.TypeIs v T/\aV (aS X.prog X.w) X.A (jn v (.ref sl)) (EP X pins σ Q) X.xe s
def tSl(r:V->Option Int->Option Int->Hp->VK->Prop)(te:TE)(tl th:TO):TE:=λ σ H Q=>te σ H λ x H1=>tl σ H1 λ l H2=>th σ H2 λ u H3=>r x l u H3 Q
theorem C0{r:V->Option Int->Option Int->Hp->VK->Prop}(hr:SlR X r)(he:PE X e te)(hl:PO X lo tl)(hu:PO X hi th):PE X (.Subscript e (.Slice lo hi none p2) pos) (tSl r te tl th):=by
 intro pins s σ H Q I h
 refine lV (pM (he pins s σ H _ I h) λ v s1 ⟨x,H1,I1,r1,q1⟩=>?_)
 refine wpAny_Slice (pM (hl pins s1 σ H1 _ I1 q1) λ vl s2 ⟨l,H2,I2,pl,q2⟩=>pM (hu pins s2 σ H2 _ I2 q2) λ vu s3 ⟨u,H3,I3,pu,q3⟩=>?_)
 rw[evalPart_none]
 refine aM ?_
 have I4:Inv X pins σ H3 { s3 with heap:=s3.heap.push { cls:=.type "slice",data:=.fields #[vl,vu,.none] } }:=I3.kept (t':=s3.toks) λ b ob q=>Heap.get?_push_of_some _ q
 obtain⟨T,id,hT,ht,hg⟩:=hr pins { s3 with heap:=s3.heap.push { cls:=.type "slice",data:=.fields #[vl,vu,.none] } } σ H3 x v vl vu l u s3.heap.objs.size Q I4 r1 (Heap.IsSliceOf.new ..) pl pu q3
 show aV (aS X.prog X.w) X.A (ki e (.Slice lo hi none p2) v (.ref s3.heap.objs.size)) (EP X pins σ Q) X.xe { s3 with heap:=s3.heap.push { cls:=.type "slice",data:=.fields #[vl,vu,.none] } }
 exact tail_any (ops:=[.ref s3.heap.objs.size,v]) ht hT hg (by with_unfolding_all rfl)
def BE(xs:List V)(lo hi:Option Int):List V:=(xs.drop (HT.PL xs.length 0 lo)).take (HT.PL xs.length xs.length hi-HT.PL xs.length 0 lo)
theorem NC(xs:List V)(lo hi:Option Int):(BE xs lo hi).length<=xs.length:=by
 unfold BE
 rw[bW,gG]
 omega
end
end L2
namespace L2
open PySem PySem.Spec PyProof.Rows
def Zu(n:Nat)(i:Int):Option Nat:=if 0<=i then(if i<n then some i.toNat else none)else if -(n:Int)<=i then some (i+n).toNat else none
def Y1{α:Type}(xs:List α)(i:Int):Option α:=(Zu xs.length i).bind λ j=>xs[j]?
theorem SG{n:Nat}{i:Int}{j:Nat}(h:Zu n i=some j):seqIndex? i n=some j/\j<n/\ -(n:Int)<=i/\i<n:=by
 unfold Zu at h
 by_cases h0:0<=i
 ·rw[if_pos h0]at h
  by_cases h1:i<n
  ·rw[if_pos h1]at h
   have e:i.toNat=j:=Option.some.inj h
   exact⟨by rw[lq h0 h1,e],by omega,by omega,h1⟩
  ·rw[if_neg h1]at h;cases h
 ·rw[if_neg h0]at h
  by_cases h1: -(n:Int)<=i
  ·rw[if_pos h1]at h
   have e:(i+n).toNat=j:=Option.some.inj h
   exact⟨by rw[kP (by omega) h1,e],by omega,h1,by omega⟩
  ·rw[if_neg h1]at h;cases h
theorem LH{α:Type}{xs:List α}{i:Int}{v:α}(h:Y1 xs i=some v):∃j,seqIndex? i xs.length=some j/\xs[j]? =some v/\j<xs.length/\ -(xs.length:Int)<=i/\i<xs.length:=by
 unfold Y1 at h
 cases e:Zu xs.length i with
 |none=>rw[e]at h;cases h
 |some j=>
  rw[e]at h
  obtain⟨h1,h2,h3,h4⟩:=SG e
  exact⟨j,h1,h,h2,h3,h4⟩
theorem ot{α:Type}{xs:List α}{j:Nat}{v:α}(h:xs[j]? =some v):Y1 xs (j:Int)=some v:=by
 have hj:j<xs.length:=(List.getElem?_eq_some_iff.mp h).1
 have e:Zu xs.length (j:Int)=some j:=by
  unfold Zu
  rw[if_pos (by omega),if_pos (by omega)];simp
 unfold Y1;rw[e];exact h
def SH(b:bJ):Prop:=∀o i,jG b false o i=operate [o,i] (jn o i)
def IxR(X:Cx)(r:R2):Prop:=
 ∀(value slice:bJ) (pins:List (ag×Obj)) (s:au) (σ:St) (H:Hp) (x y:V) (v u:ao) (Q:VK),Inv X pins σ H s->RelV x v->RelV y u->r x y H Q->
  jG slice false v u=operate [v,u] (jn v u)->aV (aS X.prog X.w) X.A (ki value slice v u) (EP X pins σ Q) X.xe s
def MtR(X:Cx)(id:String)(r:V->List V->Hp->VK->Prop):Prop:=
 ∀(pins:List (ag×Obj)) (s:au) (σ:St) (H:Hp) (x:V) (xs:List V) (v:ao) (us:List ao) (Q:VK),Inv X pins σ H s->RelV x v->Vals xs us->r x xs H Q->
  aV (aS X.prog X.w) X.A (call (.builtin id) (v::us)) (EP X pins σ Q) X.xe s
section
variable{X:Cx}{a b:bJ}{ta tb:TE}{pos:Pos}
theorem o_{r:R2}(hr:IxR X r)(ha:PE X a ta)(hb:PE X b tb)(hs:SH b):PE X (.Subscript a b pos) (tOp r ta tb):=by
 intro pins s σ H Q I h
 exact lV (abt ha hb I h λ v u s2 x y H2 I2 rx ry q=>hr a b pins s2 σ H2 x y v u Q I2 rx ry q (hs _ _))
def adk(K:ah):R2:=λ x y H Q=>∃p xs i v,x= .ref p/\y= .int i/\nE K H p xs/\Y1 xs i=some v/\Q v H
def aeu(K:ah):R2:=λ x y H Q=>∃p xs i v,x= .ref p/\y= .int i/\Bi K H p xs/\Y1 xs i=some v/\Q v H
def aev:R2:=λ x y H Q=>∃z i c,x= .str z/\y= .int i/\z.length<=ay/\Y1 z.cps.toList i=some c/\Q (.str ⟨#[c]⟩) H
theorem og:IxR X (adk X.K):=by
 intro value slice pins s σ H x y v u Q I rx ry h hs
 obtain⟨p,xs,i,z,rfl,rfl,hq,he,q⟩:=h
 cases rx
 obtain⟨t,rfl⟩:=ry
 obtain⟨om,r,pl,hz⟩:=I.list hq
 obtain⟨j,h1,h2,h3,h4,h5⟩:=LH he
 obtain⟨w,ew,wb⟩:=r.get h2
 have hl:=r.length
 have hn:=BD
 have fin:EP X pins σ Q w s:=⟨z,H,I,wb,q⟩
 by_cases h0:0<=i
 ·have hj:i.toNat=j:=by
   rw[lq h0 h5]at h1
   exact Option.some.inj h1
  exact item_listR pl.isList h0 (by omega) (by rw[hj];simpa using ew) fin hs
 ·have hj:(i+(om.toArray.size:Int)).toNat=j:=by
   rw[kP (by omega) h4]at h1
   rw[aK,<-hl]
   exact Option.some.inj h1
  exact kT (x:=w) pl.isList.typeIs slot_list_getitem.lookup
   (wpAny_getItem_list_neg (Q:=λ r s'=>r=w/\EP X pins σ Q r s') pl.isList (by omega) (by rw[aK] <;> omega) (by omega) (by rw[hj];simpa using ew) ⟨rfl,fin⟩) hs
theorem Wo:IxR X (aeu X.K):=by
 intro value slice pins s σ H x y v u Q I rx ry h hs
 obtain⟨p,xs,i,z,rfl,rfl,hq,he,q⟩:=h
 cases rx
 obtain⟨t,rfl⟩:=ry
 obtain⟨om,r,pl,hz⟩:=I.tuple hq
 obtain⟨j,h1,h2,h3,h4,h5⟩:=LH he
 obtain⟨w,ew,wb⟩:=r.get h2
 have hl:=r.length
 have hn:=BD
 have fin:EP X pins σ Q w s:=⟨z,H,I,wb,q⟩
 exact kT (x:=w) pl.typeIs slot_tuple_getitem.lookup
  (getItem_tuple (j:=j) (Q:=λ r s'=>r=w/\EP X pins σ Q r s') pl (by omega) (by omega) (by rw[aK,<-hl];exact h1) (by simpa using ew) ⟨rfl,fin⟩) hs
theorem abD:IxR X aev:=by
 intro value slice pins s σ H x y v u Q I rx ry h hs
 obtain⟨z,i,c,rfl,rfl,hz,he,q⟩:=h
 obtain⟨t,rfl⟩:=rx
 obtain⟨t',rfl⟩:=ry
 obtain⟨j,h1,h2,h3,h4,h5⟩:=LH he
 have hl:z.cps.toList.length=z.length:=by simp[Str.length]
 rw[hl]at h1 h4 h5
 have hn:=BD
 exact tail_any (lS s z t) slot_str_getitem.lookup (getItem_str (c:=c) (by
  have e1:decide (i< -(2 ^ 63:Int))=false:=decide_eq_false (by omega)
  have e2:decide (i ≥ 2 ^ 63)=false:=decide_eq_false (by omega)
  rw[e1,e2,lZ]) (by rw[h1];simpa using h2) ⟨.str ⟨#[c]⟩,H,I.tok _,⟨_,rfl⟩,q⟩) hs
theorem Qk(om:List ao)(n j:Nat)(u:ao):Obj.mapSeq (·.setIfInBounds j u) { cls:=.type "list",data:=.seq om.toArray n }={ cls:=.type "list",data:=.seq (om.set j u).toArray n }:=by
 simp[Obj.mapSeq]
theorem Inv.lst{pins:List (ag×Obj)}{σ:St}{H:Hp}{s:au}{p:ag}{xs:List V}(I:Inv X pins σ H s)(h:H p=some (.lst xs)):
  ∃(om:List ao) (n:Nat),Vals xs om/\s.heap.get? p=some { cls:=.type "list",data:=.seq om.toArray n }/\xs.length<=ay:=by
 obtain⟨z,om,n,r,e⟩:=I.oX p _ h
 exact⟨om,n,r,e,z⟩
theorem Inv.abE{pins:List (ag×Obj)}{σ:St}{H:Hp}{s:au}{p:ag}{xs ys:List V}{om its':List ao}{n n':Nat}{f:Obj->Obj}(I:Inv X pins σ H s)(h:H p=some (.lst xs))
  (ho:s.heap.get? p=some { cls:=.type "list",data:=.seq om.toArray n })(hf:f { cls:=.type "list",data:=.seq om.toArray n }={ cls:=.type "list",data:=.seq its'.toArray n' })(r:Vals ys its')(hz:ys.length<=ay)(t:Nat):
  Inv X pins σ (upd H p (.lst ys)) { s with heap:=s.heap.update p f,toks:=t }:=by
 have e:(s.heap.update p f).get? p=some { cls:=.type "list",data:=.seq its'.toArray n' }:=by
  rw[Heap.get?_update_self f ho (by rw[hf] <;> rfl),hf]
 refine I.write (x:=p) (e:=p) (by rw[h];trivial) (.inl rfl) (λ b u hb q=>(Heap.get?_update_other _ _ (Ne.symm hb)).trans q) ⟨_,e⟩ ?_
 exact⟨hz,its',n',r,e⟩
def adl:V->V->V->Hp->(Hp->Prop)->Prop:=λ o i v H Q=>∃p xs k j,o= .ref p/\i= .int k/\H p=some (.lst xs)/\Zu xs.length k=some j/\Q (upd H p (.lst (xs.set j v)))
theorem set_list:abn X adl:=by
 intro pins s σ H o i v ov iv u Q I ro ri rv h
 obtain⟨p,xs,k,j,rfl,rfl,hp,hj,q⟩:=h
 cases ro
 obtain⟨t,rfl⟩:=ri
 obtain⟨om,n,r,ho,hz⟩:=I.lst hp
 obtain⟨h1,h2,h3,h4⟩:=SG hj
 have hl:=r.length
 have hn:=BD
 have I':Inv X pins σ (upd H p (.lst (xs.set j v))) { s with heap:=s.heap.update p (Obj.mapSeq (·.setIfInBounds j u)) }:=
  I.abE hp ho (Qk om n j u) (r.set rv j) (by rw[fJ];exact hz) s.toks
 by_cases h0:0<=k
 ·have hk:k.toNat=j:=by
   rw[lq h0 h4]at h1
   exact Option.some.inj h1
  exact PySem.W.ki_setAt ho h0 (by omega) (by rw[aK,<-hl];exact h4) (by rw[hk];exact⟨_,I',q⟩)
 ·have hk:(k+(om.toArray.size:Int)).toNat=j:=by
   rw[kP (by omega) h3]at h1
   rw[aK,<-hl]
   exact Option.some.inj h1
  exact PySem.W.ki_setBack ho (by omega) (by rw[aK,<-hl];exact h3) (by omega) (by rw[hk];exact⟨_,I',q⟩)
theorem LI(lo hi:Option Int)(n:Nat):(fX lo hi none n).1=((HT.PL n 0 lo:Nat):Int)/\(fX lo hi none n).2.1=((HT.PL n n hi:Nat):Int)/\(fX lo hi none n).2.2=1:=by
 refine⟨?_,?_,rfl⟩
 ·cases lo with
  |none=>simp[fX,HT.PL]
  |some i=>
   simp only[fX,HT.PL,kE,show(1:Int) > 0 by decide,if_true]
   by_cases h:i<0
   ·simp only[h,if_true] <;> omega
   ·simp only[h,if_false] <;> omega
 ·cases hi with
  |none=>simp[fX,HT.PL]
  |some i=>
   simp only[fX,HT.PL,kE,show(1:Int) > 0 by decide,if_true]
   by_cases h:i<0
   ·simp only[h,if_true] <;> omega
   ·simp only[h,if_false] <;> omega
theorem JR(om:List ao)(lo hi:Option Int):slicePick om.toArray lo hi none=((om.drop (HT.PL om.length 0 lo)).take (HT.PL om.length om.length hi-HT.PL om.length 0 lo)).toArray:=by
 obtain⟨h1,h2,h3⟩:=LI lo hi om.toArray.size
 unfold slicePick
 rw[h1,h2,h3]
 simp only[sliceRange_one,pick_run,aK] <;> rfl
def aew(K:ah):V->Option Int->Option Int->Hp->VK->Prop:=λ x lo hi H Q=>∃a xs,x= .ref a/\nE K H a xs/\∀p,H p=none->Q (.ref p) (upd H p (.lst (BE xs lo hi)))
theorem GP:SlR X (aew X.K):=by
 intro pins s σ H x v vl vu lo hi sl Q I rx hs pl pu h
 obtain⟨a,xs,rfl,hx,q⟩:=h
 cases rx
 obtain⟨om,r,ht,hz⟩:=I.list hx
 have hlen:=r.length
 refine⟨"list",_,slot_list_getitem.lookup,ht.isList.typeIs,?_⟩
 refine wpAny_getItem_list_slice ht.isList hs pl pu .none (by simp) ?_ (by rw[aK] <;> omega)
 rw[JR,<-hlen]
 refine⟨.ref s.heap.objs.size,_,I.laid (t':=s.toks) (o:=.lst (BE xs lo hi)) (λ b ob q=>Heap.get?_push_of_some _ q) (ax _) ?_,rfl,q _ (I.oX.fresh (ax _))⟩
 exact⟨aT (NC xs lo hi) hz,_,0,(r.drop (HT.PL xs.length 0 lo)).take (HT.PL xs.length xs.length hi-HT.PL xs.length 0 lo),Heap.get?_push_size _ rfl⟩
def zw:V->Bool
 | .qA=>true
 | .bl _=>true
 | .int _=>true
 | .str _=>true
 |_=>false
def Y2:V->V->Bool
 | .qA,.qA=>true
 | .bl a,.bl b=>a == b
 | .bl a,.int b=>(if a then 1 else 0) == b
 | .int a,.bl b=>a == (if b then 1 else 0)
 | .int a,.int b=>a == b
 | .str a,.str b=>a == b
 |_,_=>false
theorem abF{A:bU}{s:au}{y x:V}{u v:ao}(ry:RelV y u)(rx:RelV x v)(fy:zw y=true)(fx:zw x=true):SeqAt.EqAt A s u v (Y2 y x):=by
 cases y with
 |qA=>
  cases ry
  cases x with
  |qA=>cases rx;exact SeqAt.EqAt.same _
  |bl b=>cases rx;exact SeqAt.EqAt.none_bool b
  |int b=>obtain⟨t,rfl⟩:=rx;exact SeqAt.EqAt.none_int b t
  |str b=>obtain⟨t,rfl⟩:=rx;exact SeqAt.EqAt.none_str b t
  |_=>exact absurd (show false=true from fx) a0
 |bl a=>
  cases ry
  cases x with
  |qA=>cases rx;exact SeqAt.EqAt.bool_none a
  |bl b=>cases rx;exact SeqAt.EqAt.bool_bool a b
  |int b=>obtain⟨t,rfl⟩:=rx;exact SeqAt.EqAt.bool_int a b t
  |str b=>obtain⟨t,rfl⟩:=rx;exact SeqAt.EqAt.bool_str a b t
  |_=>exact absurd (show false=true from fx) a0
 |int a=>
  obtain⟨t',rfl⟩:=ry
  cases x with
  |qA=>cases rx;exact SeqAt.EqAt.int_none a t'
  |bl b=>cases rx;exact SeqAt.EqAt.int_bool a t' b
  |int b=>obtain⟨t,rfl⟩:=rx;exact SeqAt.EqAt.int_int a t' b t
  |str b=>obtain⟨t,rfl⟩:=rx;exact SeqAt.EqAt.int_str a t' b t
  |_=>exact absurd (show false=true from fx) a0
 |str a=>
  obtain⟨t',rfl⟩:=ry
  cases x with
  |qA=>cases rx;exact SeqAt.EqAt.str_none a t'
  |bl b=>cases rx;exact SeqAt.EqAt.str_bool a t' b
  |int b=>obtain⟨t,rfl⟩:=rx;exact SeqAt.EqAt.str_int a t' b t
  |str b=>obtain⟨t,rfl⟩:=rx;exact SeqAt.EqAt.str_str a t' b t
  |_=>exact absurd (show false=true from fx) a0
 |_=>exact absurd (show false=true from fy) a0
def PM(x:V)(u:ao):Bool:=match u with
 | .none=>Y2 .qA x
 | .bool b=>Y2 (.bl b) x
 | .int i _=>Y2 (.int i) x
 | .str z _=>Y2 (.str z) x
 |_=>false
theorem LJ{x y:V}{u:ao}(r:RelV y u)(f:zw y=true):PM x u=Y2 y x:=by
 cases y with
 |qA=>cases r;rfl
 |bl b=>cases r;rfl
 |int i=>obtain⟨t,rfl⟩:=r;rfl
 |str z=>obtain⟨t,rfl⟩:=r;rfl
 |_=>exact absurd (show false=true from f) a0
theorem C1{x:V}:∀{xs:List V} {us:List ao},Vals xs us->xs.all zw=true->us.any (PM x)=xs.any λ y=>Y2 y x
 |_,_,.nil,_=>rfl
 |y::xs,u::us,.cons r t,f=>by
  rw[gA,bj]at f
  rw[eF,eF,LJ r f.1,C1 t f.2]
theorem xB{A:bU}{s:au}{x:V}{v:ao}(rx:RelV x v)(fx:zw x=true):∀{xs:List V} {us:List ao},Vals xs us->xs.all zw=true->∀u∈us,SeqAt.EqAt A s u v (PM x u)
 |_,_,.nil,_=>λ u hu=>by cases hu
 |y::xs,u::us,.cons r t,f=>λ u' hu=>by
  rw[gA,bj]at f
  rcases List.mem_cons.mp hu with rfl|hu
  ·rw[LJ r f.1];exact abF r rx f.1 fx
  ·exact xB rx fx t f.2 u' hu
def GQ(x:V)(xs:List V):Bool:=xs.any λ y=>Y2 y x
def rIn(K:ah)(neg:Bool):R2:=λ x y H Q=>∃p xs,y= .ref p/\(nE K H p xs\/Bi K H p xs)/\zw x=true/\xs.all zw=true/\Q (.bl (if neg then !GQ x xs else GQ x xs)) H
theorem AR:Ea X (cR .In) (rIn X.K false):=by
 intro pins s σ H x y v u Q I rx ry h
 obtain⟨p,xs,rfl,hq,fx,fs,q⟩:=h
 cases ry
 rcases hq with hq|hq
 ·obtain⟨om,r,pl,hz⟩:=I.list hq
  refine SeqAt.in_listAt (PM x) pl.isList (λ w hw=>xB rx fx r fs w (by simpa using hw)) ⟨.bl _,H,I,rfl,?_⟩
  rw[show om.toArray.any (PM x)=om.any (PM x) by simp,C1 r fs]
  exact q
 ·obtain⟨om,r,pl,hz⟩:=I.tuple hq
  refine SeqAt.in_tupleAt (PM x) pl (λ w hw=>xB rx fx r fs w (by simpa using hw)) ⟨.bl _,H,I,rfl,?_⟩
  rw[show om.toArray.any (PM x)=om.any (PM x) by simp,C1 r fs]
  exact q
theorem uG:Ea X (cR .NotIn) (rIn X.K true):=by
 intro pins s σ H x y v u Q I rx ry h
 obtain⟨p,xs,rfl,hq,fx,fs,q⟩:=h
 cases ry
 rcases hq with hq|hq
 ·obtain⟨om,r,pl,hz⟩:=I.list hq
  refine SeqAt.notIn_listAt (PM x) pl.isList (λ w hw=>xB rx fx r fs w (by simpa using hw)) ⟨.bl _,H,I,rfl,?_⟩
  rw[show om.toArray.any (PM x)=om.any (PM x) by simp,C1 r fs]
  exact q
 ·obtain⟨om,r,pl,hz⟩:=I.tuple hq
  refine SeqAt.notIn_tupleAt (PM x) pl (λ w hw=>xB rx fx r fs w (by simpa using hw)) ⟨.bl _,H,I,rfl,?_⟩
  rw[show om.toArray.any (PM x)=om.any (PM x) by simp,C1 r fs]
  exact q
theorem nN:zH X (.builtin "len") (λ xs H Q=>∃p ys,xs=[.ref p]/\(nE X.K H p ys\/Bi X.K H p ys)/\Q (.int ys.length) H):=by
 intro pins s σ H xs us Q I r h
 obtain⟨p,ys,rfl,hq,q⟩:=h
 obtain⟨u,rfl,rx⟩:=vals1 r
 cases rx
 have hn:=BD
 rcases hq with hq|hq
 ·obtain⟨om,r',pl,hz⟩:=I.list hq
  have hlen:=r'.length
  exact Calls.call_len_list pl.isList (by simp only[aK] <;> omega) ⟨.int ys.length,H,I.tok _,⟨s.toks+1,by rw[aK,hlen]⟩,q⟩
 ·obtain⟨om,r',pl,hz⟩:=I.tuple hq
  have hlen:=r'.length
  exact len_tuple pl (by simp only[aK] <;> omega) ⟨.int ys.length,H,I.tok _,⟨s.toks+1,by rw[aK,hlen]⟩,q⟩
theorem xS:zH X (.type "list") (λ xs H Q=>∃p ys,xs=[.ref p]/\(nE X.K H p ys\/Bi X.K H p ys)/\∀l,H l=none->Q (.ref l) (upd H l (.lst ys))):=by
 intro pins s σ H xs us Q I r h
 obtain⟨p,ys,rfl,hq,q⟩:=h
 obtain⟨u,rfl,rx⟩:=vals1 r
 cases rx
 have fin:∀(om:List ao),Vals ys om->ys.length<=ay->∀(h':bz) (c':Nat),(∀b o',s.heap.get? b=some o'->h'.get? b=some o')->
   h'.get? s.heap.objs.size=some { cls:=.type "list",dict:=none,data:=.seq om.toArray c',slots:= #[] }->EP X pins σ Q (.ref s.heap.objs.size) { s with heap:=h' }:=λ om r' hz h' c' kp e=>
  ⟨.ref s.heap.objs.size,_,I.laid (t':=s.toks) kp (ax _) (show pP X.prog X.w _ h' _ (.lst ys)from⟨hz,om,c',r',e⟩),rfl,q _ (I.oX.fresh (ax _))⟩
 rcases hq with hq|hq
 ·obtain⟨om,r',pl,hz⟩:=I.list hq
  have hlen:=r'.length
  obtain⟨o,ho,hc,n,hd⟩:=pl.isList
  exact mV p (.inl rfl) ho hc hd (λ h' c' kp e=>fin om r' hz h' c' kp e) (by simp only[aK] <;> omega)
 ·obtain⟨om,r',pl,hz⟩:=I.tuple hq
  have hlen:=r'.length
  obtain⟨o,ho,hc,n,hd⟩:=pl
  exact mV p (.inr rfl) ho hc hd (λ h' c' kp e=>fin om r' hz h' c' kp e) (by simp only[aK] <;> omega)
def tyV(K:ah)(T:String)(x:V)(H:Hp):Prop:=match x with
 | .str _=>T="str"
 | .int _=>T="int"
 | .ref p=>(T="list"/\∃xs,nE K H p xs)\/(T="tuple"/\∃o,K.lookup p=some o/\o.cls= .type "tuple"/\o.dict=none)\/
   (T="dict"/\((∃oH,H p=some (.dK oH))\/∃oH,H p=some (.dT oH)))\/(T="set"/\∃S n,H p=some (.set S n))
 |_=>False
theorem abG{pins:List (ag×Obj)}{σ:St}{H:Hp}{s:au}{T:String}{x:V}{v:ao}(I:Inv X pins σ H s)(r:RelV x v)(ty:tyV X.K T x H):
  s.TypeIs v T/\∀a,v= .ref a->∃ob,s.heap.get? a=some ob/\ob.dict=none:=by
 cases x with
 |str z=>
  obtain⟨t,rfl⟩:=r
  cases(show T="str" from ty)
  exact⟨lS s z t,λ _ e=>nomatch e⟩
 |int i=>
  obtain⟨t,rfl⟩:=r
  cases(show T="int" from ty)
  exact⟨typeIs_int s i t,λ _ e=>nomatch e⟩
 |ref p=>
  cases r
  rcases ty with⟨rfl,xs,hq⟩|⟨rfl,o,hk,hc,hd⟩|⟨rfl,hk⟩|⟨rfl,S,n,hk⟩
  ·obtain⟨om,_,pl,_⟩:=I.list hq
   refine⟨pl.isList.typeIs,λ a e=>?_⟩
   cases e
   obtain⟨o,n,e,c,hd,_⟩:=pl
   exact⟨o,e,hd⟩
  ·refine⟨⟨o,I.Fe p o hk,hc⟩,λ a e=>?_⟩
   cases e
   exact⟨o,I.Fe _ o hk,hd⟩
  ·have z:∃o,s.heap.get? p=some o/\o.ExactDict:=by
    rcases hk with⟨oH,hk⟩|⟨oH,hk⟩
    ·obtain⟨_,_,_,_,o,_,_,e,ex,_⟩:=I.oX p _ hk
     exact⟨o,e,ex⟩
    ·obtain⟨_,_,_,_,o,_,_,e,ex,_⟩:=I.oX p _ hk
     exact⟨o,e,ex⟩
   obtain⟨o,e,ex⟩:=z
   refine⟨⟨o,e,ex.1⟩,λ a e2=>?_⟩
   cases e2
   exact⟨o,e,ex.2.1⟩
  ·obtain⟨o,_,_,_,e,ex,_⟩:=I.oX p _ hk
   refine⟨⟨o,e,ex.1⟩,λ a e2=>?_⟩
   cases e2
   exact⟨o,e,ex.2.1⟩
 |_=>exact False.elim ty
def tBM(K:ah)(T:String)(r:V->List V->Hp->VK->Prop)(to:TE)(t:TA):TE:=λ σ H Q=>to σ H λ x H1=>tyV K T x H1/\t σ H1 λ xs H2=>r x xs H2 Q
variable{o e:bJ}{es:List bJ}{to:TE}{t:TA}{name:Str}{apos xC:Pos}{T id:String}{r:V->List V->Hp->VK->Prop}
theorem qT(pa:PlainAttrs T)(slot:Slot T name id)(hty:lR (.builtin id)=pure (.type "method_descriptor"))(hm:MtR X id r)(ho:PE X o to)(ha:PA X (e::es) t)
  (Hg:dN o name X.env (cu o X.env)=cu o X.env:=by rfl)
  (abH:((c7 xC (aN (e::es) X.env)).all (λ x=> !x.1) && (hZ xC (ff [] X.env)).all (λ x=>x.1.isSome)
   && decide ((e::es).length+([]:List kS).length+(if([]:List kS).isEmpty then 0 else 1)<30))=true:=by rfl)
  (Hh:(apos.endLine == xC.line)=true:=by rfl)(hs:aN (e::es) X.env=(false,cu e X.env)::aN es X.env:=by rfl)(abI:(c7 xC (aN es X.env)).any (·.1)=false:=by rfl):
  PE X (.Call (.Attribute o name apos) (e::es) [] xC) (tBM X.K T r to t):=by
 intro pins s σ H Q I h
 refine wpAny_Call_method_late Hg abH Hh rfl (pM (ho pins s σ H _ I h) λ v s1 ⟨x,H1,I1,r1,ty,q1⟩=>?_)
 obtain⟨h1,h2⟩:=abG I1 r1 ty
 refine⟨T,id,pa,slot,hty,h1,h2,?_⟩
 have hA:=ha xC pins s1 σ H1 _ I1 q1
 rw[hs]at hA ⊢
 refine Calls.callWith_builtin (by show(false || (c7 xC (aN es X.env)).any (·.1))=false;rw[abI] <;> rfl) (Calls.evalArgs_plain ?_)
 exact pM hA λ us s2 ⟨vs,H2,I2,r2,q2⟩=>hm pins s2 σ H2 x vs v us Q I2 r1 r2 q2
end
end L2
namespace L2
open PySem PySem.Spec PyProof.Rows
def MtM(X:Cx)(id:String)(r:V->List V->Hp->VK->Prop):Prop:=
 ∀(pins:List (ag×Obj)) (s:au) (σ:St) (H:Hp) (x:V) (xs:List V) (v:ao) (us:List ao) (Q:VK),Inv X pins σ H s->RelV x v->Vals xs us->r x xs H Q->
  aV (aS X.prog X.w) X.A (call (.builtin id) (v::us)) (EP X pins σ Q) X.xe s
theorem Vals.one:∀{x:V} {us:List ao},Vals [x] us->∃u,us=[u]/\RelV x u
 |_,_,.cons r .nil=>⟨_,rfl,r⟩
section
variable{X:Cx}{pins:List (ag×Obj)}{σ:St}{H:Hp}{s:au}{l b:ag}{xs ys zs:List V}
theorem Inv.abJ{om its':List ao}{n:Nat}{f:Array ao->Array ao}{t':Nat}(I:Inv X pins σ H s)(hH:H l=some (.lst xs))
  (e:s.heap.get? l=some { cls:=.type "list",data:=.seq om.toArray n })(hf:f om.toArray=its'.toArray)(hv:Vals ys its')(hz:ys.length<=ay):
  Inv X pins σ (upd H l (.lst ys)) { s with heap:=s.heap.update l (Obj.mapSeq f),toks:=t' }:=by
 have q:=PySem.IsL.update e f
 rw[hf]at q
 refine I.write (x:=l) (e:=l) (by rw[hH];exact trivial) (.inl rfl) (λ b' u hb hu=>(Heap.get?_update_other s.heap (Obj.mapSeq f) (Ne.symm hb)).trans hu) ⟨_,q⟩ ?_
 exact⟨hz,its',_,hv,q⟩
theorem Inv.aex{om:List ao}{t':Nat}(I:Inv X pins σ H s)(hv:Vals ys om)(hz:ys.length<=ay):
  Inv X pins σ (upd H s.heap.objs.size (.lst ys)) { s with heap:=s.heap.push { cls:=.type "list",data:=.seq om.toArray },toks:=t' }:=
 I.laid (λ _ _ q=>Heap.get?_push_of_some _ q) (ax _) ⟨hz,om,0,hv,Heap.get?_push_size _ rfl⟩
theorem Inv.fresh(I:Inv X pins σ H s):H s.heap.objs.size=none:=I.oX.fresh (ax _)
theorem Inv.Uq(I:Inv X pins σ H s)(hH:H l=some (.lst xs)):xs.length<=ay/\∃(om:List ao) (n:Nat),Vals xs om/\xs.length=om.length/\s.heap.get? l=some { cls:=.type "list",data:=.seq om.toArray n }:=by
 obtain⟨z,om,n,r,e⟩:=I.oX l _ hH
 exact⟨z,om,n,r,r.length,e⟩
theorem Wq{n:Nat}(h:n<=ay):Builtin.List.listTooLong n=false:=by
 unfold Builtin.List.listTooLong
 exact decide_eq_false (by omega)
end
section
variable{X:Cx}
def Zv:V->List V->Hp->VK->Prop:=λ x vs H Q=>∃l xs y,x= .ref l/\vs=[y]/\H l=some (.lst xs)/\xs.length<ay/\Q .qA (upd H l (.lst (xs++[y])))
theorem pF:MtM X "list.append" Zv:=by
 intro pins s σ H x vs v us Q I rx rv h
 obtain⟨l,xs,y,rfl,rfl,hH,hz,q⟩:=h
 cases rx
 obtain⟨u,rfl,ru⟩:=rv.one
 obtain⟨z,om,n,r,hl,e⟩:=I.Uq hH
 refine jV F.slot_list_append ⟨_,e,rfl⟩ F.entry_list_append (F.args_list_append_2 _ _) (PySem.list_append l om.toArray n u (by rw[aK];omega)) ⟨e,?_⟩
 refine⟨.qA,_,I.abJ (its':=om++[u]) hH e (by simp) (r.append (.cons ru .nil)) ?_,rfl,q⟩
 rw[aw,List.length_singleton]
 omega
def Zw:V->List V->Hp->VK->Prop:=λ x vs H Q=>∃l b xs zs,x= .ref l/\vs=[.ref b]/\H l=some (.lst xs)/\H b=some (.lst zs)/\xs.length+zs.length<=ay/\Q .qA (upd H l (.lst (xs++zs)))
theorem va:MtM X "list.extend" Zw:=by
 intro pins s σ H x vs v us Q I rx rv h
 obtain⟨l,b,xs,zs,rfl,rfl,hH,hB,hz,q⟩:=h
 cases rx
 obtain⟨u,rfl,ru⟩:=rv.one
 cases ru
 obtain⟨z,om,n,r,hl,e⟩:=I.Uq hH
 obtain⟨z2,Ei,n2,r2,Nl,e2⟩:=I.Uq hB
 have hsz:om.toArray.size+Ei.toArray.size<=ay:=by rw[aK,aK];omega
 have adm:¬ (!om.toArray.isEmpty && Builtin.List.listTooLong (om.toArray.size+Ei.toArray.size))=true:=by
  rw[Wq hsz,lK]
  exact a0
 refine jV F.slot_list_extend ⟨_,e,rfl⟩ F.entry_list_extend (F.args_list_extend_2 _ _)
  (AutoSeq1.list_extend_list_list_0 l om.toArray n b Ei.toArray n2 adm (by rw[aK];omega) (by omega)) ⟨e,e2,?_⟩
 refine⟨.qA,_,I.abJ (its':=om++Ei) hH e (by simp) (r.append r2) ?_,rfl,q⟩
 rw[aw]
 omega
def aey:R2:=λ x y H Q=>∃l b xs zs,x= .ref l/\y= .ref b/\H l=some (.lst xs)/\H b=some (.lst zs)/\xs.length+zs.length<=ay/\∀p,H p=none->Q (.ref p) (upd H p (.lst (xs++zs)))
theorem qW:Ea X (gE .Add) aey:=by
 intro pins s σ H x y v u Q I rx ry h
 obtain⟨l,b,xs,zs,rfl,rfl,hH,hB,hz,q⟩:=h
 cases rx
 cases ry
 obtain⟨z,om,n,r,hl,e⟩:=I.Uq hH
 obtain⟨z2,Ei,n2,r2,Nl,e2⟩:=I.Uq hB
 refine PySem.P.add_list e e2 ?_ (by rw[aK,aK];omega)
 have ea:om.toArray++Ei.toArray=(om++Ei).toArray:=by simp
 rw[ea]
 exact⟨.ref _,_,I.aex (t':=s.toks) (r.append r2) (by rw[aw];omega),rfl,q _ I.fresh⟩
end
section
variable{prog:aJ}{w:aY}{A:bU}{E:ao->au->Prop}{s:au}
set_option maxRecDepth 100000 in
end
section
variable{X:Cx}
end
end L2
namespace L2
open PySem PySem.Spec PyProof.Rows
theorem Vals.ints:∀{ns:List Int} {us:List ao},Vals (ns.map V.int) us->jN us ns
 |[],us,h=>by
  rw[fT]at h
  cases h
  exact IntsAre.nil
 |n::ns,us,h=>by
  rw[aH]at h
  cases h with
  |cons r t=>
   obtain⟨k,rfl⟩:=r
   exact IntsAre.cons n k (Vals.ints t)
theorem Vals.bls:∀{bs:List Bool} {us:List ao},Vals (bs.map V.bl) us->us=bs.map Value.bool
 |[],us,h=>by
  rw[fT]at h
  cases h
  rfl
 |b::bs,us,h=>by
  rw[aH]at h
  cases h with
  |cons r t=>
   cases r
   rw[Vals.bls t,aH]
theorem Vals.Zx{a:ag}{us:List ao}(r:Vals [V.ref a] us):us=[Value.ref a]:=by
 cases r with
 |cons r t=>
  cases t
  cases r
  rfl
section
variable{prog:aJ}{w:aY}{A:bU}{E:ao->au->Prop}{s:au}{l:ag}{om:List ao}{ns:List Int}{Q:ao->au->Prop}
theorem Zy(hh:A.handled=none)(hl:s.heap.IsList l om.toArray)(hi:jN om ns)
  (h:∀h' tk t',(∀b o,s.heap.get? b=some o->h'.get? b=some o)->Q (.int ns.sum t') { s with heap:=h',toks:=tk }):aV (aS prog w) A (call (.builtin "sum") [.ref l]) Q E s:=by
 obtain⟨xs,e⟩:=hi.allInts.items
 have hn:numsOf (intItems xs).toList=ns:=by rw[<-e];exact hi.numsOf
 rw[mS]at hn
 rw[e]at hl
 refine PySem.sum_intListG hh hl λ h' tk t' hk=>?_
 have:=h h' tk t' hk
 rw[preSum_eq,cq (by simp),hn];exact this
theorem Zz(hh:A.handled=none)(hl:s.heap.IsList l om.toArray)(hi:jN om ns)(xD:0<ns.length)
  (h:∀h' tk M t',(∀b o,s.heap.get? b=some o->h'.get? b=some o)->M∈ns->(∀a,a∈ns->a<=M)->Q (.int M t') { s with heap:=h',toks:=tk }):aV (aS prog w) A (call (.builtin "max") [.ref l]) Q E s:=by
 obtain⟨xs,e⟩:=hi.allInts.items
 have hn:numsOf (intItems xs).toList=ns:=by rw[<-e];exact hi.numsOf
 rw[mS]at hn
 subst hn
 rw[e]at hl
 have hsz:0<xs.size:=by simpa using xD
 refine PySem.max_intList hh hl hsz λ v h' tk hv hk=>?_
 obtain⟨t,rfl⟩:=intItems_at hv
 obtain⟨h1,h2⟩:=argBest_gt (numAt xs) (xs.size-1)
 refine h h' tk _ t hk ?_ λ a ha=>?_
 ·rw[numAt_eq];exact PySem.getD_mem (by rw[aa,Array.length_toList];omega)
 ·obtain⟨j,hj,rfl⟩:=mem_getD ha
  rw[aa,Array.length_toList]at hj
  rw[<-numAt_eq];exact h2 j (by omega)
end
section
variable{X:Cx}
def aez(K:ah):List V->Hp->VK->Prop:=λ vs H Q=>∃(a:ag) (ns:List Int),vs=[V.ref a]/\nE K H a (ns.map V.int)/\Q (.int ns.sum) H
def adn(K:ah):List V->Hp->VK->Prop:=λ vs H Q=>∃(a:ag) (ns:List Int),vs=[V.ref a]/\nE K H a (ns.map V.int)/\0<ns.length/\∀m,m∈ns->(∀y,y∈ns->y<=m)->Q (.int m) H
theorem BF(hc:X.calm=true):zH X (.builtin "sum") (aez X.K):=by
 intro pins s σ H vs us Q I r h
 obtain⟨a,ns,rfl,hs,q⟩:=h
 obtain⟨om,rv,hl,_⟩:=I.list hs
 rw[Vals.Zx r]
 exact Zy (I.ok.hd hc) hl.isList rv.ints λ h' tk t' hk=>⟨.int _,H,I.kept hk,⟨_,rfl⟩,q⟩
theorem Ql(hc:X.calm=true):zH X (.builtin "max") (adn X.K):=by
 intro pins s σ H vs us Q I r h
 obtain⟨a,ns,rfl,hs,xD,q⟩:=h
 obtain⟨om,rv,hl,_⟩:=I.list hs
 rw[Vals.Zx r]
 exact Zz (I.ok.hd hc) hl.isList rv.ints xD λ h' tk m t' hk h1 h2=>⟨.int _,H,I.kept hk,⟨_,rfl⟩,q m h1 h2⟩
end
section
variable{X:Cx}
def abK(K:ah):V->List V->Hp->VK->Prop:=λ x xs H Q=>∃(a:ag) (ys:List V) (y:V) (j:Nat) (z:V),x=V.ref a/\xs=[y]/\nE K H a ys/\zw y=true/\ys.all zw=true/\ys[j]? =some z/\Y2 z y=true/\
 (∀(m:Nat) (z':V),m<j->ys[m]? =some z'->Y2 z' y=false)/\Q (.int (j:Nat)) H
theorem SJ{ys:List V}(f:ys.all zw=true){j:Nat}{z:V}(h:ys[j]? =some z):zw z=true:=List.all_eq_true.mp f z (aC h)
theorem Ws:MtR X "list.index" (abK X.K):=by
 intro pins s σ H x xs v us Q I rx rxs h
 obtain⟨a,ys,y,j,z,rfl,rfl,hs,fy,fys,hz,hzj,hno,q⟩:=h
 cases rx
 cases rxs with
 |cons ry rt=>
  rename_i uy ut
  cases rt
  obtain⟨om,rv,⟨⟨cls,dd,data,sl⟩,n,ho,hc,hdn,hd⟩,hlen⟩:=I.list hs
  simp only at hc hd
  subst hc hd
  obtain⟨u,hu,ru⟩:=rv.get hz
  obtain⟨hjl,hje⟩:=List.getElem?_eq_some_iff.mp hu
  have hvl:=rv.length
  have hj:j<om.toArray.size:=by simpa using hjl
  have hsl:=aA
  refine jV js ⟨_,ho,rfl⟩ PySem.F.entry_list_index (PySem.F.args_list_index_2 _ _)
   (SeqAt.list_indexAt a om.toArray n dd sl uy (PM y) j hj (by omega) ?_ ?_) ⟨ho,λ u' hu'=>xB ry fy rv fys u' (by simpa using hu'),?_⟩
  ·have e1:om.toArray[j]=u:=by simpa using hje
   rw[e1,LJ ru (SJ fys hz)]
   exact hzj
  ·intro m hm hmj
   have hml:m<om.length:=by simpa using hm
   have hmy:m<ys.length:=by omega
   have hy':ys[m]? =some ys[m]:=af hmy
   obtain⟨u2,hu2,ru2⟩:=rv.get hy'
   obtain⟨_,hme⟩:=List.getElem?_eq_some_iff.mp hu2
   have e1:om.toArray[m]=u2:=by simpa using hme
   rw[e1,LJ ru2 (SJ fys hy')]
   exact hno m _ hmj hy'
  ·exact⟨.int (j:Nat),H,I.tok _,⟨_,rfl⟩,q⟩
end
section
variable{X:Cx}
end
theorem Wt{prog:aJ}{w:aY}{A:bU}{E:ao->au->Prop}{s:au}{l:ag}{items:Array ao}{Q:ao->au->Prop}(hl:s.heap.IsList l items)
  (h:∀s₂:au,s₂={ s with heap:=s.heap.push { cls:=.type "list_iterator",data:=.fields #[.ref l,.int 0 0] } }->
   (s₂.heap.IsListIter s.heap.objs.size l 0/\s₂.heap.IsList l items)->l≠s.heap.objs.size->Q (.ref s.heap.objs.size) s₂):aV (aS prog w) A (mK (.ref l)) Q E s:=by
 have rN:l<s.heap.objs.size:=by obtain⟨_,e,_⟩:=hl;exact Heap.lt_size e
 exact fB hl (h _ rfl ⟨⟨_,Heap.get?_push_size _ rfl,rfl,rfl⟩,hl.push _⟩ (bL rN))
theorem ND{prog:aJ}{w:aY}{A:bU}{bs:List Bool}{om:List ao}(e:om=bs.map Value.bool):
  TruthOf prog w A (λ i v=>om.toArray[i]? =some v) (λ i=>bs.getD i false):=λ i v s Q E hv hq=>by
 have hv':om[i]? =some v:=by simpa using hv
 rw[e,ak]at hv'
 obtain⟨b,hb,rfl⟩:=Option.map_eq_some_iff.mp hv'
 have hg:bs.getD i false=b:=by rw[aB,hb] <;> rfl
 have SE:Q (bs.getD i false) s:=hq
 rw[hg]at SE
 exact cP SE
theorem all_range:∀bs:List Bool,(az bs.length).all (λ i=>bs.getD i false)=bs.all id
 |[]=>rfl
 |b::bs=>by
  rw[aD,List.range_succ_eq_map,gA,cH,gA,<-all_range bs]
  all_goals rfl
section
variable{X:Cx}
def aeA(K:ah):List V->Hp->VK->Prop:=λ vs H Q=>∃(a:ag) (bs:List Bool),vs=[V.ref a]/\nE K H a (bs.map V.bl)/\Q (.bl (bs.all id)) H
theorem BG(hc:X.calm=true):zH X (.builtin "all") (aeA X.K):=by
 intro pins s σ H vs us Q I r h
 obtain⟨a,bs,rfl,hs,q⟩:=h
 obtain⟨om,rv,hl,_⟩:=I.list hs
 rw[Vals.Zx r]
 have hb:=rv.bls
 refine call_all_walk (Wt hl.isList λ s₂ e2 st xD=>?_)
 subst e2
 refine⟨_,_,_,_,_,_,_,rfl,Walks.list (A:=X.A.in1) (I.ok.hd hc) _ a xD om.toArray,st,ND hb,λ h' tk hk=>?_⟩
 refine⟨.bl _,H,I.kept λ b o eo=>hk b o (λ abL=>?_) (Heap.get?_push_of_some _ eo),?_,q⟩
 ·rcases List.mem_cons.mp abL with e1|abL
  ·exact absurd (e1 ▸ Heap.lt_size eo) (cX _)
  ·cases abL
 ·show Value.bool _=Value.bool _
  rw[<-all_range,hb,aK,aa]
end
mutual
inductive Dp (K:ah) (H:Hp):V->jz->Prop
 |qA:Dp K H .qA .none
 |bl (b:Bool):Dp K H (.bl b) (.bool b)
 |int (i:Int):Dp K H (.int i) (.int i)
 |str (x:Str):Dp K H (.str x) (.str x)
 |lst {a:ag} {xs:List V} {ds:List jz}:nE K H a xs->Hi K H xs ds->Dp K H (.ref a) (.list ds)
 |tup {a:ag} {xs:List V} {ds:List jz}:Bi K H a xs->Hi K H xs ds->Dp K H (.ref a) (.tuple ds)
inductive Hi (K:ah) (H:Hp):List V->List jz->Prop
 |nil:Hi K H [] []
 |cons {v:V} {vs:List V} {d:jz} {ds:List jz}:Dp K H v d->Hi K H vs ds->Hi K H (v::vs) (d::ds)
end
section
variable{X:Cx}{pins:List (ag×Obj)}{σ:St}{H:Hp}{s:au}
mutual
theorem Dp.reads(I:Inv X pins σ H s):∀(d:jz) (v:V) (u:ao),Dp X.K H v d->RelV v u->∃as,Reads s.heap u d as
 | .none,_,_,h,r=>by
  cases h
  cases r
  exact⟨_,Reads.none⟩
 | .bool b,_,_,h,r=>by
  cases h
  cases r
  exact⟨_,Reads.bool b⟩
 | .int i,_,_,h,r=>by
  cases h
  obtain⟨t,rfl⟩:=r
  exact⟨_,Reads.int i t⟩
 | .str x,_,_,h,r=>by
  cases h
  obtain⟨t,rfl⟩:=r
  exact⟨_,Reads.str x t⟩
 | .list ds,_,_,h,r=>by
  cases h with
  |lst hs ha=>
   cases r
   obtain⟨om,rv,⟨o,n,ho,hc,_,hd⟩,_⟩:=I.list hs
   obtain⟨as,hr⟩:=Dp.readsAll I ds _ om ha rv
   exact⟨_,Reads.list ho hc hd hr⟩
 | .tuple ds,_,_,h,r=>by
  cases h with
  |tup hs ha=>
   cases r
   obtain⟨om,rv,⟨o,ho,hc,n,hd⟩,_⟩:=I.tuple hs
   obtain⟨as,hr⟩:=Dp.readsAll I ds _ om ha rv
   exact⟨_,Reads.tuple ho hc hd hr⟩
 | .dict _,_,_,h,_=>by cases h
theorem Dp.readsAll(I:Inv X pins σ H s):∀(ds:List jz) (vs:List V) (us:List ao),Hi X.K H vs ds->Vals vs us->∃as,ReadsAll s.heap us ds as
 |[],_,_,h,r=>by
  cases h
  cases r
  exact⟨_,ReadsAll.nil⟩
 |d::ds,_,_,h,r=>by
  cases h with
  |cons h1 h2=>
   cases r with
   |cons r1 r2=>
    obtain⟨as,q1⟩:=Dp.reads I d _ _ h1 r1
    obtain⟨bs,q2⟩:=Dp.readsAll I ds _ _ h2 r2
    exact⟨_,ReadsAll.cons q1 q2⟩
end
end
section
variable{X:Cx}
def aeB(K:ah):R2:=λ x y H Q=>∃d e,Dp K H x d/\Dp K H y e/\SeqAt.shaped d=true/\SeqAt.shaped e=true/\Q (.bl (!PyData.eqv d e)) H
theorem abM(hu:X.A.units+64<jH):Ea X (cR .NotEq) (aeB X.K):=by
 intro pins s σ H x y v u Q I rx ry h
 obtain⟨d,e,hd,he,sd,se,q⟩:=h
 obtain⟨as,r1⟩:=Dp.reads I d x v hd rx
 obtain⟨bs,r2⟩:=Dp.reads I e y u he ry
 exact SeqAt.compareNe_shaped r1 r2 sd se hu ⟨.bl _,H,I,rfl,q⟩
end
end L2
namespace L2
open PySem PySem.Spec PyProof.Rows
abbrev BH(h:bz)(c:ag)(v:Option ao):Prop:=h.IsCell c v
def aeC(scope sc:eQ):eQ:=
 { scope with names:=scope.names.map λ(n,k)=>if(k == .free && sc.kind == .function && sc.names.lookup n == some .cell)then(n,.cell)else(n,k) }
def pR(cells:List (Str×ag)):List (Str×dF)->List (Str×ag)->List (Str×ag)
 |[],acc=>acc
 |(n,k)::r,acc=>if k == .free then pR cells r ((n,(cells.lookup n).getD 0)::acc)else pR cells r acc
theorem C2(env:Env)(f:Str×dF->List (Str×ag)->Sem (ForInStep (List (Str×ag))))
  (hf:∀n k c,f (n,k) c=if k == .free then(do let a <-cellOf env n;pure (.yield ((n,a)::c)))else pure (.yield c)):
  ∀(names:List (Str×dF)) (acc:List (Str×ag)),(∀y∈names,y.2= .free->∃c,env.cells.lookup y.1=some c)->forIn names acc f=pure (pR env.cells names acc)
 |[],acc,_=>by rw[ig];rfl
 |(n,k)::r,acc,h=>by
  rw[jg,hf]
  have ih:=λ acc=>C2 env f hf r acc λ y hy=>h y (aQ _ hy)
  unfold pR
  by_cases hk:(k == NameKind.free)=true
  ·rw[if_pos hk,if_pos hk]
   obtain⟨c,hc⟩:=h (n,k) bT (by simpa using hk)
   have e:cellOf env n=pure c:=by unfold cellOf;rw[hc]
   rw[e]
   have e2:(env.cells.lookup n).getD 0=c:=by rw[hc];rfl
   rw[e2]
   exact ih _
  ·rw[if_neg hk,if_neg hk]
   exact ih _
theorem Qm{scope:eQ}{env:Env}(h:∀y∈scope.names,y.2= .free->∃c,env.cells.lookup y.1=some c):closureFor scope env=pure (pR env.cells scope.names []):=by
 simp only[closureFor]
 rw[C2 env _ (λ n k c=>rfl) scope.names [] h]
 rfl
theorem mem_lookup{α:Type}:∀{l:List (Str×α)} {n:Str} {c:α},(n,c)∈l->∃c',l.lookup n=some c'
 |(k,v)::r,n,c,h=>by
  rw[dH]
  cases hb:n == k with
  |true=>exact⟨_,rfl⟩
  |false=>
   rcases List.mem_cons.mp h with e|h
   ·cases e;simp at hb
   ·exact mem_lookup h
theorem wo{cells:List (Str×ag)}:∀{names:List (Str×dF)} {acc:List (Str×ag)} {n:Str} {c:ag},(n,c)∈pR cells names acc->(n,c)∈acc\/((n,.free)∈names/\c=(cells.lookup n).getD 0)
 |[],_,_,_,h=>.inl h
 |(m,k)::r,acc,n,c,h=>by
  unfold pR at h
  split at h
  ·rename_i hk
   have hk:k= .free:=by simpa using hk
   rcases wo h with h|⟨h1,h2⟩
   ·rcases List.mem_cons.mp h with e|h
    ·cases e;exact .inr ⟨hk ▸ bT,rfl⟩
    ·exact .inl h
   ·exact .inr ⟨aQ _ h1,h2⟩
  ·rcases wo h with h|⟨h1,h2⟩
   ·exact .inl h
   ·exact .inr ⟨aQ _ h1,h2⟩
theorem zJ{cells:List (Str×ag)}:∀{names:List (Str×dF)} {acc:List (Str×ag)} {p:Str×ag},p∈acc->p∈pR cells names acc
 |[],_,_,h=>h
 |(m,k)::r,acc,p,h=>by
  unfold pR
  split
  ·exact zJ (aQ _ h)
  ·exact zJ h
theorem zK{cells:List (Str×ag)}:∀{names:List (Str×dF)} {acc:List (Str×ag)} {n:Str},(n,.free)∈names->(n,(cells.lookup n).getD 0)∈pR cells names acc
 |(m,k)::r,acc,n,h=>by
  unfold pR
  rcases List.mem_cons.mp h with e|h
  ·cases e
   exact zJ bT
  ·split
   ·exact zK h
   ·exact zK h
theorem xE:∀{names:List (Str×dF)} {h:bz} {acc:List (Str×ag)} {x:Str} {c:ag},(x,c)∈cE h.objs.size names acc->
  (x,c)∈acc\/((x,.cell)∈names/\h.objs.size<=c/\BH (gx h names) c none)
 |[],_,_,_,_,h=>.inl h
 |(n,k)::r,h,acc,x,c,hm=>by
  unfold cE at hm
  unfold gx
  split at hm
  ·rename_i hk
   rw[if_pos hk]
   have hk:k= .cell:=by simpa using hk
   rw[<-Heap.size_push h { cls:=.type "cell",data:=.cell none }]at hm
   rcases xE hm with hm|⟨h1,h2,h3⟩
   ·rcases List.mem_cons.mp hm with e|hm
    ·cases e
     exact .inr ⟨hk ▸ bT,ax _,_,iu r _ _ _ (Heap.get?_push_size _ rfl),rfl⟩
    ·exact .inl hm
   ·rw[Heap.size_push]at h2
    exact .inr ⟨aQ _ h1,gz h2,h3⟩
  ·rename_i hk
   rw[if_neg hk]
   rcases xE hm with hm|⟨h1,h2,h3⟩
   ·exact .inl hm
   ·exact .inr ⟨aQ _ h1,h2,h3⟩
theorem AS:∀{names:List (Str×dF)} {n:Nat} {acc:List (Str×ag)} {p:Str×ag},p∈acc->p∈cE n names acc
 |[],_,_,_,h=>h
 |(m,k)::r,n,acc,p,h=>by
  unfold cE
  split
  ·exact AS (aQ _ h)
  ·exact AS h
theorem Ej:∀{names:List (Str×dF)} {n:Nat} {acc:List (Str×ag)} {x:Str},(x,.cell)∈names->∃c,(x,c)∈cE n names acc
 |(m,k)::r,n,acc,x,h=>by
  unfold cE
  rcases List.mem_cons.mp h with e|h
  ·cases e
   exact⟨n,AS bT⟩
  ·split
   ·exact Ej h
   ·exact Ej h
theorem Ek:∀{names:List (Str×dF)} {h:bz} {acc:List (Str×ag)} {x y:Str} {c:ag},(∀p∈acc,p.2<h.objs.size)->(∀x y c,(x,c)∈acc->(y,c)∈acc->x=y)->
  (x,c)∈cE h.objs.size names acc->(y,c)∈cE h.objs.size names acc->x=y
 |[],_,_,_,_,_,_,hi,h1,h2=>hi _ _ _ h1 h2
 |(n,k)::r,h,acc,x,y,c,hl,hi,h1,h2=>by
  unfold cE at h1 h2
  split at h1
  ·rename_i hk
   rw[if_pos hk]at h2
   rw[<-Heap.size_push h { cls:=.type "cell",data:=.cell none }]at h1 h2
   refine Ek (h:=h.push _) (λ p hp=>?_) (λ x y c a b=>?_) h1 h2
   ·rw[Heap.size_push]
    rcases List.mem_cons.mp hp with rfl|hp
    ·exact cK _
    ·exact iZ (hl p hp)
   ·rcases List.mem_cons.mp a with e|a <;> rcases List.mem_cons.mp b with e'|b
    ·cases e;cases e';rfl
    ·cases e;exact absurd (hl _ b) (cX _)
    ·cases e';exact absurd (hl _ a) (cX _)
    ·exact hi _ _ _ a b
  ·rename_i hk
   rw[if_neg hk]at h2
   exact Ek hl hi h1 h2
theorem NF{M:jI}{A:bU}{E:ao->au->Prop}{s:au}{scope:eQ}{globals:ag}{closure:List (Str×ag)}{qual:Str}{func:Option ag}{code:ao}{around:Env}{builtins:ag}{Q:Env->au->Prop}
  (h:Q (newEnv scope s.heap.objs.size globals (cE (s.heap.objs.size+1) scope.names closure) qual func code (some around) builtins)
   { s with heap:=gx (s.heap.push { cls:=.type "dict",data:=.dict #[] }) scope.names }):
  aV M A (mM scope globals closure [] qual func code (some around) builtins) Q E s:=by
 simp only[mM,j9,if_true]
 refine aq (wpAny_alloc ?_)
 refine aq (wpAny_layCells _ (λ n k c=>rfl) scope.names closure _ _ ?_)
 rw[show({ s with heap:=s.heap.push { cls:=.type "dict",data:=.dict #[] } }:au).heap.objs.size=s.heap.objs.size+1 from Heap.size_push ..]
 rw[ig]
 exact aq (aM (aM h))
theorem zL{sc:eQ}:∀{names:List (Str×dF)} {x:Str} {k:dF},
  (names.map λ(n,k)=>if(k == NameKind.free && sc.kind == .function && sc.names.lookup n == some .cell)then(n,NameKind.cell)else(n,k)).lookup x=some k->
  ∃k',names.lookup x=some k'/\(k=k'\/(k'= .free/\k= .cell))
 |[],_,_,h=>by simp at h
 |(n,k₀)::r,x,k,h=>by
  have ih:=@zL sc r x k
  have h':dv x ((if(k₀ == NameKind.free && sc.kind == .function && sc.names.lookup n == some .cell)=true then(n,NameKind.cell)else(n,k₀))::(r.map _))=some k:=h
  cases hx:x == n with
  |true=>
   simp only[dH,hx]
   by_cases hc:(k₀ == NameKind.free && sc.kind == .function && sc.names.lookup n == some .cell)=true
   ·rw[if_pos hc]at h'
    simp only[dH,hx]at h'
    cases h'
    simp only[bj,beq_iff_eq]at hc
    exact⟨k₀,rfl,.inr ⟨hc.1.1,rfl⟩⟩
   ·rw[if_neg hc]at h'
    simp only[dH,hx]at h'
    cases h'
    exact⟨_,rfl,.inl rfl⟩
  |false=>
   simp only[dH,hx]
   by_cases hc:(k₀ == NameKind.free && sc.kind == .function && sc.names.lookup n == some .cell)=true
   ·rw[if_pos hc]at h'
    simp only[dH,hx]at h'
    exact ih h'
   ·rw[if_neg hc]at h'
    simp only[dH,hx]at h'
    exact ih h'
structure pC(N:List Str)(sc scope:eQ)(own:List (Str×Nat)):Prop where
 kind:scope.kind= .function
 uniq:∀y∈scope.names,scope.names.lookup y.1=some y.2
 ix:∀p∈own,N[p.2]? =some p.1
 free:∀y∈scope.names,y.2= .free->sc.names.lookup y.1=some .cell\/sc.names.lookup y.1=some .free
 own:∀y∈scope.names,y.2= .local\/y.2= .cell->y.1∈own.map (·.1)\/y.1∉N
def wipe(σ:St):List Nat->St
 |[]=>σ
 |v::vs=>(wipe σ vs).set v none
theorem zM(σ:St):∀vs:List Nat,(wipe σ vs).length=σ.length
 |[]=>rfl
 |v::vs=>by unfold wipe;rw[fJ,zM σ vs]
theorem El{σ:St}{i:Nat}{x:V}:∀{vs:List Nat},(wipe σ vs)[i]? =some (some x)->σ[i]? =some (some x)/\i∉vs
 |[],h=>⟨h,by simp⟩
 |v::vs,h=>by
  unfold wipe at h
  by_cases hi:v=i
  ·subst hi
   by_cases hv:v<(wipe σ vs).length
   ·rw[cO hv]at h;cases h
   ·rw[aI (by simpa using hv)]at h;cases h
  ·rw[fG hi]at h
   obtain⟨h1,h2⟩:=El h
   exact⟨h1,by simp only[dh,not_or];exact⟨λ e=>hi e.symm,h2⟩⟩
abbrev Cx.LK(X:Cx)(s:au)(H:Hp)(scope:eQ)(sy:Env)(fp:List ag):Cx:={ X with JP:=s,H_0:=H,env:=sy,outer:=X.stack,ex:=fp,fn:=λ x=>scope.names.lookup x == some .cell,pn:=[],xe:=λ _ _=>False }
section
variable{X:Cx}{pins:List (ag×Obj)}{σ:St}{H:Hp}{s:au}
theorem NG{scope:eQ}{own:List (Str×Nat)}{fp:List ag}(I:Inv X pins σ H s)(ok:pC X.N X.env.scope scope own)(hN:X.N.Nodup)(hfp:∀b∈fp,GD X pins H b/\b<s.heap.objs.size):
  Inv (X.LK s H scope (eh scope (cE (s.heap.objs.size+1) scope.names (pR X.env.cells scope.names [])) s.heap.objs.size X.env) fp) [] (wipe σ (own.map (·.2))) H { s with heap:=gx (s.heap.push { cls:=.type "dict",data:=.dict #[] }) scope.names }:=by
 have Kd:∀y∈scope.names,y.2= .free->∃c,X.env.cells.lookup y.1=some c:=λ y hy e=>by
  rcases ok.free y hy e with k|k
  ·exact I.ok.has _ (.inl k)
  ·exact I.ok.has _ (.inr k)
 generalize NH:eh scope (cE (s.heap.objs.size+1) scope.names (pR X.env.cells scope.names [])) s.heap.objs.size X.env=sy
 have kp:∀b o,s.heap.get? b=some o->(gx (s.heap.push { cls:=.type "dict",data:=.dict #[] }) scope.names).get? b=some o:=λ b o e=>iu _ _ _ _ (Heap.get?_push_of_some _ e)
 have hL:sy.locals=s.heap.objs.size:=by rw[<-NH];rfl
 have Ec:sy.cells=cE (s.heap.objs.size+1) scope.names (pR X.env.cells scope.names []):=by rw[<-NH];rfl
 have hsc:sy.scope=aeC scope X.env.scope:=by rw[<-NH];rfl
 rw[<-Heap.size_push s.heap { cls:=.type "dict",data:=.dict #[] }]at Ec
 have cm:∀{y c},(y,c)∈pR X.env.cells scope.names []->X.env.cells.lookup y=some c/\c<s.heap.objs.size:=λ{y c} hm=>by
  rcases wo hm with hm|⟨h1,rfl⟩
  ·cases hm
  ·obtain⟨c,hc⟩:=Kd _ h1 rfl
   rw[hc]
   obtain⟨w,z⟩:=I.cell _ _ hc
   exact⟨rfl,z.lt⟩
 have mem:∀{y c},sy.cells.lookup y=some c->(X.env.cells.lookup y=some c/\c<s.heap.objs.size)\/(s.heap.objs.size+1<=c/\BH (gx (s.heap.push { cls:=.type "dict",data:=.dict #[] }) scope.names) c none):=λ{y c} e=>by
  rw[Ec]at e
  rcases xE (bG e)with hm|⟨_,h2,h3⟩
  ·exact .inl (cm hm)
  ·rw[Heap.size_push]at h2;exact .inr ⟨h2,h3⟩
 have look:∀{y},scope.names.lookup y=some .free->∃c,sy.cells.lookup y=some c/\X.env.cells.lookup y=some c:=λ{y} hl=>by
  have hy:(y,NameKind.free)∈scope.names:=bG hl
  obtain⟨c',e'⟩:=mem_lookup (AS (names:=scope.names) (n:=(s.heap.push { cls:=.type "dict",data:=.dict #[] }).objs.size) (zK (cells:=X.env.cells) (acc:=[]) hy))
  rw[<-Ec]at e'
  refine⟨c',e',?_⟩
  rw[Ec]at e'
  rcases xE (bG e')with hm|⟨h1,_,_⟩
  ·exact(cm hm).1
  ·have:=ok.uniq _ h1
   rw[hl]at this;cases this
 have okB:(X.LK s H scope sy fp).Ok:=by
  refine⟨I.ok.mod,by show sy.scope.kind=_;rw[hsc];exact ok.kind,by show sy.globals=_;rw[<-NH];exact I.ok.glob,by show sy.builtins=_;rw[<-NH];exact I.ok.blt,by show s.heap.objs.size<=sy.locals;rw[hL];exact ax _,
   λ y z c e1 e2=>?_,λ y hy=>?_,λ y c z e=>?_,I.ok.hd,I.ok.frames,.inl rfl,λ b hb=>⟨?_,λ y c e z=>?_⟩,I.bs,aT I.ok.Sq I.sz,λ b o e hb=>?_,λ b hb z=>?_,I.stack,I.Lr⟩
  ·have e1:sy.cells.lookup y=some c:=e1
   have e2:sy.cells.lookup z=some c:=e2
   rw[Ec]at e1 e2
   refine Ek (λ p hp=>?_) (λ y z c a b=>I.ok.inj y z c (cm a).1 (cm b).1) (bG e1) (bG e2)
   rw[Heap.size_push]
   exact iZ (cm (y:=p.1) (c:=p.2) hp).2
  ·show ∃c,sy.cells.lookup y=some c
   have key:∀k,sy.kindOf y=some k->(k= .cell\/k= .free)->∃c,sy.cells.lookup y=some c:=λ k hk hk'=>by
    unfold Env.kindOf at hk
    rw[hsc]at hk
    obtain⟨k',e,r⟩:=zL hk
    have:k'= .cell\/k'= .free:=by
     rcases r with rfl|⟨rfl,_⟩
     ·exact hk'
     ·exact .inr rfl
    rcases this with rfl|rfl
    ·obtain⟨c,hm⟩:=Ej (n:=(s.heap.push { cls:=.type "dict",data:=.dict #[] }).objs.size) (acc:=pR X.env.cells scope.names []) (bG e)
     obtain⟨c',e'⟩:=mem_lookup hm
     exact⟨c',by rw[Ec];exact e'⟩
    ·obtain⟨c,h1,_⟩:=look e
     exact⟨c,h1⟩
   rcases hy with hy|hy
   ·exact key _ hy (.inl rfl)
   ·exact key _ hy (.inr rfl)
  ·have z:(scope.names.lookup y == some NameKind.cell)=true:=z
   have z:scope.names.lookup y=some .cell:=by simpa using z
   have e:sy.cells.lookup y=some c:=e
   rw[Ec]at e
   rcases xE (bG e)with hm|⟨_,h2,_⟩
   ·rcases wo hm with hm|⟨h1,_⟩
    ·cases hm
    ·have q:=ok.uniq _ h1
     rw[z]at q;cases q
   ·rw[Heap.size_push]at h2
    exact gz h2
  ·show b≠sy.locals
   rw[hL];exact bL (hfp b hb).2
  ·have e:sy.cells.lookup y=some c:=e
   rcases mem e with⟨h1,_⟩|⟨h1,_⟩
   ·exact(hfp b hb).1.2.2.2.2.1 y c h1 z
   ·have h2:s.heap.objs.size+1<=b:=by rw[<-z];exact h1
    exact absurd (aU (hfp b hb).2 (gz h2)) (cX _)
  ·rcases(hfp b hb).1.2.2.2.1 with z|z
   ·exact I.ok.Nt b o e z
   ·exact absurd (aU (Heap.lt_size e) (aT I.ok.Sq z)) (cX _)
  ·rcases List.mem_cons.mp (I.PV b z)with z|z
   ·exact(hfp b hb).1.2.1 z
   ·exact(hfp b hb).1.2.2.1 z
 refine⟨okB,rfl,I.bare,Un.kept kp,⟨λ _=>none,?_,λ i y av e1 e2 e3=>?_⟩,λ y c e=>?_,?_,λ y c e=>?_,λ p hp=>?_,I.oX.kept kp,by rw[zM];exact I.len⟩
 ·show Heap.Ns _ sy.locals _
  rw[hL]
  exact Heap.Ns.keeps (Heap.Ns.new ..) λ b o e=>iu _ _ _ _ e
 ·obtain⟨e2,xD⟩:=El e2
  have JJ:scope.names.lookup y=some .free/\(sy.kindOf y=some .cell\/sy.kindOf y=some .free):=by
   have key:∀k,sy.scope.names.lookup y=some k->k= .local\/k= .cell\/k= .free->scope.names.lookup y=some .free/\(sy.kindOf y=some .cell\/sy.kindOf y=some .free):=λ k hk hk'=>by
    have hk0:=hk
    rw[hsc]at hk
    obtain⟨k',e,r⟩:=zL hk
    have no:¬ (k'= .local\/k'= .cell):=λ hh=>by
     rcases ok.own _ (bG e) hh with e'|e'
     ·obtain⟨p,hp,hpy⟩:=List.mem_map.mp e'
      have e3:=ok.ix p hp
      have:p.1=y:=hpy
      rw[this]at e3
      exact xD (List.mem_map.mpr ⟨p,hp,CY hN e3 e1⟩)
     ·exact e' (aC e1)
    rcases r with rfl|⟨rfl,rfl⟩
    ·rcases hk' with rfl|rfl|rfl
     ·exact absurd (.inl rfl) no
     ·exact absurd (.inr rfl) no
     ·exact⟨e,.inr hk0⟩
    ·exact⟨e,.inl hk0⟩
   have e3:Vis sy.scope y:=e3
   rcases e3 with e3|e3|e3
   ·exact key _ e3 (.inl rfl)
   ·exact key _ e3 (.inr (.inl rfl))
   ·exact key _ e3 (.inr (.inr rfl))
  obtain⟨m,hn,hl⟩:=I.loc
  have aeD:Vis X.env.scope y:=(ok.free _ (bG JJ.1) rfl).elim (λ k=>.inr (.inl k)) (λ k=>.inr (.inr k))
  obtain⟨w,r,q⟩:=hl i y av e1 e2 aeD
  refine⟨w,r,.inr ⟨JJ.2,?_⟩⟩
  obtain⟨c,h1,h2⟩:=look JJ.1
  rcases q with⟨k,_⟩|⟨_,c',e',z⟩
  ·have k:X.env.scope.names.lookup y=some .local:=k
   rcases ok.free _ (bG JJ.1) rfl with k'|k' <;> rw[show X.env.scope.names.lookup y=_ from k']at k <;> cases k
  ·rw[h2]at e';cases e'
   exact⟨c,h1,z.keeps kp⟩
 ·have e:sy.cells.lookup y=some c:=e
  rcases mem e with⟨h1,_⟩|⟨_,z⟩
  ·obtain⟨w,z⟩:=I.cell y c h1
   exact⟨w,z.keeps kp⟩
  ·exact⟨_,z⟩
 ·show H sy.locals=none
  rw[hL];exact I.oX.fresh (ax _)
 ·have e:sy.cells.lookup y=some c:=e
  rcases mem e with⟨h1,_⟩|⟨h1,_⟩
  ·exact I.uB y c h1
  ·exact I.oX.fresh (gz h1)
 ·exact absurd (show p∈([]:List (ag×Obj))++[]from hp) (by simp)
theorem abN{E:ao->au->Prop}{D:ag}{xs:List V}{y:V}{v:ao}{Q:ao->au->Prop}(I:Inv X pins σ H s)(hD:H D=some (.lst xs))(hz:xs.length<ay)(r:RelV y v)
  (h:∀s',Inv X pins σ (upd H D (.lst (xs++[y]))) s'->Q .none s'):aV (aS X.prog X.w) X.A (call (.builtin "list.append") [.ref D,v]) Q E s:=by
 obtain⟨VY,om,n,ri,e⟩:=I.oX D _ hD
 have hl:=ri.length
 refine append_at (hsz:=by rw[aK];omega) e λ h' sb Sr=>?_
 refine h { s with heap:=h' } (I.write (t':=s.toks) (by rw[hD];trivial) (.inl rfl) (λ b u hb q=>(sb.2 b hb).trans q) ⟨_,Sr⟩ ⟨by rw[aw];exact hz,om++[v],n+1,ri.append (.cons r .nil),?_⟩)
 rw[Sr]
 simp
def PTs(X:Cx)(ifs:List bJ)(t:TT):Prop:=
 ∀(pins:List (ag×Obj)) (s:au) (σ:St) (H:Hp) (Q:Bool->Hp->Prop),Inv X pins σ H s->t σ H Q->
  aV (aS X.prog X.w) X.A (forIn ifs true λ c r=>if r=true then do let ok <-kQ c X.env (cu c X.env);pure (ForInStep.yield ok)else pure (ForInStep.yield r)) (TP X pins σ Q) X.xe s
def ado:TT:=λ _ H Q=>Q true H
theorem oR:PTs X [] ado:=λ _ _ _ H _ I h=>wpAny_tests_nil ⟨H,I,h⟩
theorem LL{c:bJ}{t:TT}(h:PT X c t):PTs X [c] t:=λ pins s σ H Q I hw=>wpAny_tests_one (h pins s σ H Q I hw)
end
theorem Ur{α:Type}{t:Sem α}{Q Q':α->au->Prop}{M:jI}{A:bU}{E:ao->au->Prop}{s:au}(h:aV M A t Q (λ _ _=>False) s)(hQ:∀a s,Q a s->Q' a s):aV M A t Q' E s:=cQ h hQ λ _ _ z=>False.elim z
theorem LM{prog:aJ}{w:aY}{A:bU}{R:lU->au->Prop}{s:au}{elt target iter:bJ}{ifs:List bJ}{scope:eQ}{pos:Pos}{it acc:ao}{env:Env}(I:Nat->au->Prop)
  (turn:∀n s,I n s->aV (aS prog w) A (jU it) (λ r s₁=>match r with
   |none=>R (.ok .next) s₁
   |some v=>aV (aS prog w) A (iw target it v) (λ _ s₁'=>aV (aS prog w) A (jY target env v) (λ _ s₂=>
     aV (aS prog w) A (forIn ifs true λ c r=>if r=true then do let ok <-kQ c env (cu c env);pure (ForInStep.yield ok)else pure (ForInStep.yield r)) (λ ok s₃=>
      if ok=true then aV (aS prog w) A (cu elt env) (λ x s₄=>
       aV (aS prog w) A (call (.builtin "list.append") [acc,x]) (λ _ s₅=>∃m,m<n/\I m s₅) (jM (aS prog w) A env λ e s'=>R (.error e) s') s₄) (jM (aS prog w) A env λ e s'=>R (.error e) s') s₃
      else ∃m,m<n/\I m s₃) (jM (aS prog w) A env λ e s'=>R (.error e) s') s₂) (jM (aS prog w) A env λ e s'=>R (.error e) s') s₁') (jM (aS prog w) A env λ e s'=>R (.error e) s') s₁) (jM (aS prog w) A env λ e s'=>R (.error e) s') s)
  (n:Nat)(h:I n s):
  fR (aS prog w) A (.compLoop (.ListComp elt [⟨target,iter,ifs,0⟩] scope pos) 0 it acc env) R s:=by
 refine codeAny_loop rfl I (λ n s hI=>?_) n h
 show aV _ A ((compTurn (.ListComp elt [⟨target,iter,ifs,0⟩] scope pos) 0 it acc env).onRaise (λ x=>do mv x env;theTreesLotGoes x)) _ _ s
 refine wpAny_noted ?_
 rw[compTurn_list]
 refine aq (gQ (aq (cQ (turn n s hI) (λ r s₁ h₁=>?_) λ _ _ h'=>h')))
 cases r with
 |none=>exact aM h₁
 |some v=>
  refine aq (cQ h₁ (λ _ s₁' h₁'=>?_) λ _ _ h'=>h')
  refine aq (cQ h₁' (λ _ s₂ h₂=>aq (cQ h₂ (λ ok s₃ h₃=>?_) λ _ _ h'=>h')) λ _ _ h'=>h')
  cases ok with
  |false=>exact aM ⟨rfl,h₃⟩
  |true=>
   exact aq (aq (cQ h₃ (λ x s₄ h₄=>aq (cQ h₄ (λ _ s₅ h₅=>aM (aM ⟨rfl,h₅⟩)) λ _ _ h'=>h')) λ _ _ h'=>h'))
section
variable{X:Cx}
def tLc(wi:TI)(g:TG)(tt:TT)(te:TE)(vs:List Nat):TE:=λ σ H Q=>wi σ H λ J H1=>∀D,H1 D=none->∃W:Nat->Nat->Hp->Prop,(∃m,W 0 m (upd H1 D (.lst [])))/\∀i m H,W i m H->
 (J.stop i H/\Q (.ref D) H)\/(J.go i H/\∃Nx:Hp->Prop,(∀H',Nx H'->∃m',m'<m/\W (i+1) m' H')/\∀x H',J.G8 i H x H'->g x (wipe σ vs) H' λ σ2 H2=>wipe σ2 vs=wipe σ vs/\tt σ2 H2 λ b H3=>
  if b=true then te σ2 H3 λ y H4=>∃acc,H4 D=some (.lst acc)/\acc.length<ay/\Nx (upd H4 D (.lst (acc++[y])))else Nx H3)
theorem SK{pins:List (ag×Obj)}{s:au}{σ:St}{H:Hp}{Q:VK}{elt tg iter:bJ}{ifs:List bJ}{scope:eQ}{own:List (Str×Nat)}{pos pos':Pos}{wi:TI}{g:TG}{tt:TT}{te:TE}{use:Option (ao->Sem Unit)}{Qf:ao->au->Prop}
  (hc:X.calm=true)(hN:X.N.Nodup)(I:Inv X pins σ H s)(hi:PI X tg iter wi)(ok:pC X.N X.env.scope scope own)
  (hg:∀(s:au) (H:Hp) (C:ag) (cl:List (Str×ag)) (fp:List ag),PG (X.LK s H scope (eh scope cl C X.env) fp) tg g)(ht:∀(s:au) (H:Hp) (C:ag) (cl:List (Str×ag)) (fp:List ag),PTs (X.LK s H scope (eh scope cl C X.env) fp) ifs tt)
  (he:∀(s:au) (H:Hp) (C:ag) (cl:List (Str×ag)) (fp:List ag),PE (X.LK s H scope (eh scope cl C X.env) fp) elt te)(hs:∀x,gL iter X.env x=pure x)
  (h:tLc wi g tt te (own.map (·.2)) σ H Q)
  (hRR:∀D C s' m H',Inv X pins σ H' s'->Q (.ref D) H'->s'.heap.Ns C m->GD X pins H' C->mO (aS X.prog X.w) X.A X.xe use Qf (.ref D) C (.ok .next) s'):
  aV (aS X.prog X.w) X.A (mU (.ListComp elt [⟨tg,iter,ifs,0⟩] scope pos) scope X.env pos' (newList []) false (cu iter X.env) use) Qf X.xe s:=by
 have Kd:∀y∈scope.names,y.2= .free->∃c,X.env.cells.lookup y.1=some c:=λ y hy e=>by
  rcases ok.free y hy e with k|k
  ·exact I.ok.has _ (.inl k)
  ·exact I.ok.has _ (.inr k)
 refine wpAny_comprehension_free (use:=use) rfl hs (Qm Kd) ok.kind (λ y hy e=>by rw[ok.uniq y hy,e])
  (pM (hi pins s σ H _ I h) λ xv s1 hx=>pM hx λ itv s2 h2=>?_)
 obtain⟨it,fp,tn,J,H2,e,I2,T,st2,f2,q⟩:=h2
 subst e
 refine jl (NF ?_) (by show 0<=ay;decide)
 generalize hD:s2.heap.objs.size=D
 have hDn:H2 D=none:=I2.oX.fresh (gR hD)
 obtain⟨W,⟨m0,w0⟩,turn⟩:=q D hDn
 generalize hs3:({ s2 with heap:=s2.heap.push { cls:=.type "list",data:=.seq ([]:List ao).toArray } }:au)=s3
 have I3:Inv X pins σ (upd H2 D (.lst [])) s3:=by
  rw[<-hs3]
  refine I2.laid (t':=s2.toks) (λ b o e=>Heap.get?_push_of_some _ e) (gR hD) ⟨aE _,[],0,.nil,?_⟩
  rw[<-hD]
  exact Heap.get?_push_size _ rfl
 have h3:s3.heap=s2.heap.push { cls:=.type "list",data:=.seq ([]:List ao).toArray }:=by rw[<-hs3]
 have sz:∀b∈fp,b<s2.heap.objs.size:=λ b hb=>by
  obtain⟨o,e,_⟩:=T.obj _ _ st2 b hb
  exact Heap.lt_size e
 have f3:∀b∈fp,GD X pins (upd H2 D (.lst [])) b/\b<s3.heap.objs.size:=λ b hb=>by
  have rN:=sz b hb
  refine⟨⟨?_,(f2 b hb).2⟩,by rw[h3,Heap.size_push];exact iZ rN⟩
  rw[m4 (by rw[<-hD];exact bL rN)]
  exact(f2 b hb).1
 have st3:tn 0 s3.heap:=T.keep _ _ _ st2 λ b _ o e=>by rw[h3];exact Heap.get?_push_of_some _ e
 have I4:=NG I3 ok hN f3
 have pg:=hg s3 (upd H2 D (.lst [])) s3.heap.objs.size (cE (s3.heap.objs.size+1) scope.names (pR X.env.cells scope.names [])) fp
 have pt:=ht s3 (upd H2 D (.lst [])) s3.heap.objs.size (cE (s3.heap.objs.size+1) scope.names (pR X.env.cells scope.names [])) fp
 have pe:=he s3 (upd H2 D (.lst [])) s3.heap.objs.size (cE (s3.heap.objs.size+1) scope.names (pR X.env.cells scope.names [])) fp
 show fR _ _ (.compStart (.ListComp elt [⟨tg,iter,ifs,0⟩] scope pos) 0 (.ref it) (.ref D) (eh scope (cE (s3.heap.objs.size+1) scope.names (pR X.env.cells scope.names [])) s3.heap.objs.size X.env)) (mO (aS X.prog X.w) X.A X.xe use Qf (.ref D) s3.heap.objs.size) { s3 with heap:=gx (s3.heap.push { cls:=.type "dict",data:=.dict #[] }) scope.names }
 have nfp:∀b∈fp,(upd H2 D (.lst [])) b=none:=λ b hb=>(f3 b hb).1.1
 generalize hce:eh scope (cE (s3.heap.objs.size+1) scope.names (pR X.env.cells scope.names [])) s3.heap.objs.size X.env=ce at I4 pg pt pe ⊢
 have cL:ce.locals=s3.heap.objs.size:=by subst hce;rfl
 generalize hH3:upd H2 D (.lst [])=H3 at I3 I4 pg pt pe w0 nfp f3
 generalize hs4:({ s3 with heap:=gx (s3.heap.push { cls:=.type "dict",data:=.dict #[] }) scope.names }:au)=s4 at I4 ⊢
 have st4:tn 0 s4.heap:=T.keep _ _ _ st3 λ b _ o e=>by rw[<-hs4];exact iu _ _ _ _ (Heap.get?_push_of_some _ e)
 have Qc:∀{σ':St} {H':Hp} {s':au},Inv (X.LK s3 H3 scope ce fp) [] σ' H' s'->(∀b∈fp,H' b=none)->∀b∈fp,GD (X.LK s3 H3 scope ce fp) [] H' b:=λ{σ' H' s'} I' hn b hb=>
  ⟨hn b hb,(I'.ok.exf b hb).1,I'.ok.Nu b hb,.inl hb,λ x c e=>(I'.ok.exf b hb).2 x c e,λ p hp=>absurd (show p∈([]:List (ag×Obj))++[]from hp) (by simp)⟩
 have loop:fR (aS X.prog X.w) X.A (.compLoop (.ListComp elt [⟨tg,iter,ifs,0⟩] scope pos) 0 (.ref it) (.ref D) ce) (mO (aS X.prog X.w) X.A X.xe use Qf (.ref D) s3.heap.objs.size) s4:=by
  refine LM (λ n s'=>∃i H',Inv (X.LK s3 H3 scope ce fp) [] (wipe σ (own.map (·.2))) H' s'/\tn i s'.heap/\(∀b∈fp,H' b=none)/\W i n H') ?_ m0 ⟨0,H3,I4,st4,nfp,w0⟩
  rintro n s5 ⟨i,H5,I5,st5,n5,w5⟩
  rcases turn i n H5 w5 with⟨stop,qq⟩|⟨go,Nx,hNx,step⟩
  ·have td:=T.done (X.LK s3 H3 scope ce fp) rfl rfl rfl hc i [] s5 _ H5 (λ _ _=>False) I5 (Qc I5 n5) st5 stop
   refine Ur td λ r s6 ⟨hr,I6⟩=>?_
   subst hr
   have I7:Inv X pins σ H5 s6:=I3.aaW (ch:=fp) I6.os I6.base I6.oX I6.bare λ b hb=>⟨(f3 b hb).1.2.2.2.1,(f3 b hb).1.2.1,(f3 b hb).1.2.2.2.2.1,(f3 b hb).1.2.2.2.2.2⟩
   have nC:H5 s3.heap.objs.size=none:=by
    have z:H5 ce.locals=none:=I6.free
    rw[cL]at z
    exact z
   obtain⟨m,hn,_⟩:=I6.loc
   have hn:s6.heap.Ns ce.locals m:=hn
   rw[cL]at hn
   exact hRR D s3.heap.objs.size s6 m H5 I7 qq hn (I3.Qa (ax _) nC)
  ·have ti:=T.item (X.LK s3 H3 scope ce fp) rfl rfl rfl hc i [] s5 _ H5 (λ _ _=>False) I5 (Qc I5 n5) st5 go
   refine Ur ti λ r s6 ⟨u,hr,h6⟩=>?_
   subst hr
   refine Ur h6 λ _ s7 ⟨x,H7,I7,r7,y7,st7,n7⟩=>?_
   have I7':=I7.pinned (Qc I7 n7) (T.obj _ _ st7)
   refine Ur (pg _ s7 _ H7 x u _ I7' r7 (step x H7 y7)) λ _ s8 ⟨σ8,H8,I8,hw8,q8⟩=>?_
   refine Ur (pt _ s8 σ8 H8 _ I8 q8) λ b s9 ⟨H9,I9,q9⟩=>?_
   have fin:∀{s':au} {H':Hp},Inv (X.LK s3 H3 scope ce fp) ([]++G9 fp s7.heap) σ8 H' s'->Nx H'->∃m,m<n/\∃i H',Inv (X.LK s3 H3 scope ce fp) [] (wipe σ (own.map (·.2))) H' s'/\tn i s'.heap/\(∀b∈fp,H' b=none)/\W i m H':=λ{s' H'} I' nx=>by
    obtain⟨m',hm,w'⟩:=hNx H' nx
    have adp:∀b∈fp,∀o,s7.heap.get? b=some o->s'.heap.get? b=some o/\H' b=none:=λ b hb o e=>
     let z:=I'.pin (b,o) (cy _ (cy _ (BC hb e)))
     ⟨z.1,z.2.1⟩
    have hl:(wipe σ (own.map (·.2))).length=σ8.length:=by rw[<-hw8,zM]
    refine⟨m',hm,i+1,H',(I'.xy (pins:=[])).weak hl (λ j v e=>?_),T.keep _ _ _ st7 λ b hb o e=>(adp b hb o e).1,λ b hb=>?_,w'⟩
    ·rw[<-hw8]at e
     exact(El e).1
    ·obtain⟨o,e,_⟩:=T.obj _ _ st7 b hb
     exact(adp b hb o e).2
   cases b with
   |false=>
    simp only[kJ,if_false]at q9 ⊢
    exact fin I9 q9
   |true=>
    simp only[if_true]at q9 ⊢
    refine Ur (pe _ s9 σ8 H9 _ I9 q9) λ z s10 ⟨yv,H10,I10,r10,acc,aeE,aeF,nx⟩=>?_
    exact abN (X:=X.LK s3 H3 scope ce fp) I10 aeE aeF r10 λ s11 I11=>fin I11 nx
 exact codeAny_compStart_list loop (T.self X.A 0 _ _ _ st4 loop)
theorem qt{elt tg iter:bJ}{ifs:List bJ}{scope:eQ}{own:List (Str×Nat)}{pos:Pos}{wi:TI}{g:TG}{tt:TT}{te:TE}(hc:X.calm=true)(hN:X.N.Nodup)(hi:PI X tg iter wi)(ok:pC X.N X.env.scope scope own)
  (hg:∀(s:au) (H:Hp) (C:ag) (cl:List (Str×ag)) (fp:List ag),PG (X.LK s H scope (eh scope cl C X.env) fp) tg g)(ht:∀(s:au) (H:Hp) (C:ag) (cl:List (Str×ag)) (fp:List ag),PTs (X.LK s H scope (eh scope cl C X.env) fp) ifs tt)
  (he:∀(s:au) (H:Hp) (C:ag) (cl:List (Str×ag)) (fp:List ag),PE (X.LK s H scope (eh scope cl C X.env) fp) elt te)(hs:∀x,gL iter X.env x=pure x:=by intro _;rfl):
  PE X (.ListComp elt [⟨tg,iter,ifs,0⟩] scope pos) (tLc wi g tt te (own.map (·.2))):=by
 intro pins s σ H Q I h
 rw[eval_ListComp]
 refine SK hc hN I hi ok hg ht he hs h λ D C s' m H' I' q hn f=>⟨m,hn,λ VZ sb=>?_⟩
 obtain⟨f0,f1,f2,f3,f4,f5⟩:=f
 exact⟨.ref D,H',I'.turned (t':=s'.toks) (λ b o hb e=>(sb.2 b hb).trans e) f0 f1 f3 f4 f5,rfl,q⟩
theorem zN{i:Nat}{y:Str}{py:Pos}{elt tg iter:bJ}{ifs:List bJ}{scope:eQ}{own:List (Str×Nat)}{pos adq:Pos}{wi:TI}{g:TG}{tt:TT}{te:TE}(hc:X.calm=true)(hN:X.N.Nodup)(hy:X.N[i]? =some y)(hyl:X.env.scope.names.lookup y=some .local)
  (hsw:hU (.ListComp elt [⟨tg,iter,ifs,0⟩] scope pos) (some (.Name y py)) adq.line X.env=pure true)(hi:PI X tg iter wi)(ok:pC X.N X.env.scope scope own)
  (hg:∀(s:au) (H:Hp) (C:ag) (cl:List (Str×ag)) (fp:List ag),PG (X.LK s H scope (eh scope cl C X.env) fp) tg g)(ht:∀(s:au) (H:Hp) (C:ag) (cl:List (Str×ag)) (fp:List ag),PTs (X.LK s H scope (eh scope cl C X.env) fp) ifs tt)
  (he:∀(s:au) (H:Hp) (C:ag) (cl:List (Str×ag)) (fp:List ag),PE (X.LK s H scope (eh scope cl C X.env) fp) elt te)(hs:∀x,gL iter X.env x=pure x:=by intro _;rfl):
  PS X (.Assign [.Name y py] (.ListComp elt [⟨tg,iter,ifs,0⟩] scope pos) adq) (abp (tLc wi g tt te (own.map (·.2))) (Su i)):=by
 intro pins s σ H D I h
 rw[exec_Assign_Name_used _ _ _ _ hsw]
 refine aq (gQ (aq ?_))
 show aV _ X.A (do let _ <-mU (.ListComp elt [⟨tg,iter,ifs,0⟩] scope pos) scope X.env (firstIterPos [⟨tg,iter,ifs,0⟩] pos) (newList []) false (cu iter X.env) (some (jY (.Name y py) X.env))) _ _ s
 have h:tLc wi g tt te (own.map (·.2)) σ H (λ x H1=>Su i x σ H1 D.nx):=h
 refine aq (pM (SK (Qf:=λ _ s'=>SP X pins D .next s') hc hN I hi ok hg ht he hs h λ L C s' m H' I' q hn f=>?_) λ _ s' hq=>aM (aM hq))
 show aV _ _ (jY (.Name y py) X.env (.ref L)) _ _ _
 refine me (Kb (v:=V.ref L) I' hN hy (.inl hyl) rfl (λ s2 I2 ⟨a,sb,ha⟩=>?_) (.inr hyl))
 obtain⟨f0,f1,f2,f3,f4,f5⟩:=f
 have haC:C≠a:=by
  rcases ha with z|z
  ·rw[z];exact f1
  ·exact λ e=>f4 y a z e.symm
 refine⟨m,hn.sameBut sb haC,λ h3 sb3=>?_⟩
 exact⟨_,H',I2.turned (t':=s2.toks) (λ b o hb e=>(sb3.2 b hb).trans e) f0 f1 f3 f4 f5,q⟩
end
end L2
namespace L2
open PySem PySem.Spec PyProof.Rows
section
variable{prog:aJ}{w:aY}{A:bU}{R:lU->au->Prop}{s:au}{elt t0 i0 t1 i1:bJ}{afl afm:List bJ}{scope:eQ}{pos:Pos}{it acc:ao}{env:Env}
end
section
variable{X:Cx}
end
end L2
namespace L2
open PySem PySem.Spec PyProof.Rows
section
variable{κ:Type}[DecidableEq κ]
def vo(oH:List (κ×V))(k:κ):Option V:=(oH.find? λ kv=>decide (kv.1=k)).map (·.2)
def putK(oH:List (κ×V))(k:κ)(v:V):List (κ×V):=
 if(oH.any λ kv=>decide (kv.1=k))=true then oH.map (λ kv=>if kv.1=k then(kv.1,v)else kv)else oH++[(k,v)]
theorem Wu{k:κ}:vo ([]:List (κ×V)) k=none:=rfl
theorem rj{p:κ×V}{r:List (κ×V)}{k:κ}(e:p.1=k):vo (p::r) k=some p.2:=by simp[vo,eK,e]
theorem rk{p:κ×V}{r:List (κ×V)}{k:κ}(e:¬ p.1=k):vo (p::r) k=vo r k:=by simp[vo,eK,e]
theorem C3(k:κ):∀oH:List (κ×V),(oH.any λ kv=>decide (kv.1=k))=(vo oH k).isSome
 |[]=>rfl
 |p::r=>by
  rw[eF]
  by_cases e:p.1=k
  ·simp only[rj e,decide_eq_true e,Bool.true_or,j9]
  ·rw[rk e,decide_eq_false e,Bool.false_or];exact C3 k r
theorem NI(k j:κ)(y:V):∀oH:List (κ×V),vo (oH.map λ kv=>if kv.1=k then(kv.1,y)else kv) j=(vo oH j).map λ x=>if j=k then y else x
 |[]=>rfl
 |p::r=>by
  have ih:=NI k j y r
  rw[aH]
  by_cases h:p.1=k
  ·rw[if_pos h]
   by_cases e:p.1=j
   ·rw[rj (p:=(p.1,y)) e,rj e,gK,if_pos (e.symm.trans h)]
   ·rw[rk (p:=(p.1,y)) e,rk e,ih]
  ·rw[if_neg h]
   by_cases e:p.1=j
   ·rw[rj (p:=p) e,rj e,gK,if_neg (λ z=>h (e.trans z))]
   ·rw[rk (p:=p) e,rk e,ih]
theorem Km(k j:κ)(y:V):∀oH:List (κ×V),vo oH k=none->vo (oH++[(k,y)]) j=if j=k then some y else vo oH j
 |[],_=>by
  by_cases e:k=j
  ·rw[if_pos e.symm];exact rj (p:=(k,y)) e
  ·rw[if_neg (λ z=>e z.symm)];exact rk (p:=(k,y)) e
 |p::r,hn=>by
  rw[jb]
  have hk:¬ p.1=k:=λ z=>by rw[rj z]at hn;cases hn
  rw[rk hk]at hn
  have ih:=Km k j y r hn
  by_cases e:p.1=j
  ·rw[rj e,rj e,if_neg (λ z=>hk (e.trans z))]
  ·rw[rk e,rk e,ih]
theorem Wv(oH:List (κ×V))(k j:κ)(y:V):vo (putK oH k y) j=if j=k then some y else vo oH j:=by
 unfold putK
 by_cases a:(oH.any λ kv=>decide (kv.1=k))=true
 ·rw[if_pos a,NI]
  rw[C3]at a
  by_cases e:j=k
  ·obtain⟨x,hx⟩:=Option.isSome_iff_exists.mp a
   rw[if_pos e,e,hx,gK,if_pos rfl]
  ·rw[if_neg e]
   cases vo oH j with
   |none=>rfl
   |some x=>rw[gK,if_neg e]
 ·rw[if_neg a]
  refine Km k j y oH ?_
  rw[C3]at a
  cases q:vo oH k with
  |none=>rfl
  |some x=>rw[q]at a;exact(a rfl).elim
theorem Fg(oH:List (κ×V))(k:κ)(v:V):(putK oH k v).length<=oH.length+1:=by
 unfold putK
 split
 ·rw[aa];omega
 ·rw[aw,aD,List.length_nil];omega
theorem wO.Em{o:Option V}{u:Option ao}(r:wO o u):o.isSome=u.isSome:=by
 cases o with
 |none=>cases u with
  |none=>rfl
  |some _=>exact(show False from r).elim
 |some _=>cases u with
  |none=>exact(show False from r).elim
  |some _=>rfl
theorem KV.val{oH:List (κ×V)}{vs:List (κ×ao)}(r:KV oH vs)(k:κ):wO (vo oH k) (jm vs k):=by
 unfold KV at r
 induction r with
 |nil=>exact True.intro
 | @cons p q ps qs h t ih=>
  obtain⟨h1,h2⟩:=h
  by_cases e:p.1=k
  ·have e':q.1=k:=h1.symm.trans e
   have b:jm (q::qs) k=some q.2:=by simp[jm,eK,e']
   rw[rj e,b];exact h2
  ·have e':¬ q.1=k:=λ z=>e (h1.trans z)
   have b:jm (q::qs) k=jm qs k:=by simp[jm,eK,e']
   rw[rk e,b];exact ih
theorem KV.any{oH:List (κ×V)}{vs:List (κ×ao)}(r:KV oH vs)(k:κ):(oH.any λ kv=>decide (kv.1=k))=vs.any λ kv=>decide (kv.1=k):=by
 unfold KV at r
 induction r with
 |nil=>rfl
 |cons h t ih=>rw[eF,eF,ih,h.1]
theorem KV.abO{oH:List (κ×V)}{vs:List (κ×ao)}(r:KV oH vs)(k:κ){y:V}{u:ao}(ry:RelV y u):
  KV (oH.map λ kv=>if kv.1=k then(kv.1,y)else kv) (vs.map λ kv=>if kv.1=k then(kv.1,u)else kv):=by
 unfold KV at r ⊢
 induction r with
 |nil=>exact .nil
 | @cons p q ps qs h t ih=>
  rw[aH,aH]
  refine .cons ?_ ih
  obtain⟨h1,h2⟩:=h
  by_cases e:p.1=k
  ·rw[if_pos e,if_pos (h1.symm.trans e)];exact⟨h1,ry⟩
  ·rw[if_neg e,if_neg (λ z=>e (h1.trans z))];exact⟨h1,h2⟩
theorem KV.put{oH:List (κ×V)}{vs:List (κ×ao)}(r:KV oH vs)(k:κ){y:V}{u:ao}(ry:RelV y u):KV (putK oH k y) (stored vs k u):=by
 unfold putK stored
 rw[r.any k]
 by_cases e:(vs.any λ kv=>decide (kv.1=k))=true
 ·rw[if_pos e,if_pos e];exact r.abO k ry
 ·rw[if_neg e,if_neg e];exact Paired.snoc r ⟨rfl,ry⟩
theorem KV.length{oH:List (κ×V)}{vs:List (κ×ao)}(r:KV oH vs):oH.length=vs.length:=Paired.length r
end
theorem SM{P:aJ}{w:aY}{k:Key}{u:ao}(r:RelV (kV k) u):(qZ P w).is k u=true:=by
 cases k with
 |inl i=>obtain⟨t,e⟩:=(show ∃t,u=Value.int i t from r);subst e;exact Np P w i t
 |inr x=>obtain⟨t,e⟩:=(show ∃t,u=Value.str x t from r);subst e;exact Nq P w x t
theorem Kn{P:aJ}{w:aY}:∀{ks:List Key} {us:List ao},Vals (ks.map kV) us->ItemsAre (qZ P w) ks us
 |[],_,r=>by rw[fT]at r;cases r;exact .nil
 |k::ks,_,r=>by
  rw[aH]at r
  cases r with
  |cons h t=>exact .cons (SM h) (Kn t)
abbrev KT(H:Hp):List (List Key×V)->List (List Key×ag×ao)->Prop:=Paired λ p q=>p.1=q.1/\H q.2.1=some (.tup (p.1.map kV))/\RelV p.2 q.2.2
theorem KT.val{H:Hp}{oH:List (List Key×V)}{xs:List (List Key×ag×ao)}(r:KT H oH xs)(k:List Key):wO (vo oH k) ((jX xs k).map (·.2)):=by
 induction r with
 |nil=>exact True.intro
 | @cons p q ps qs h t ih=>
  obtain⟨h1,_,h2⟩:=h
  by_cases e:p.1=k
  ·have e':q.1=k:=h1.symm.trans e
   have b:jX (q::qs) k=some q.2:=by simp[jX,eK,e']
   rw[rj e,b];exact h2
  ·have e':¬ q.1=k:=λ z=>e (h1.trans z)
   have b:jX (q::qs) k=jX qs k:=by simp[jX,eK,e']
   rw[rk e,b];exact ih
theorem KT.abO{H:Hp}{oH:List (List Key×V)}{xs:List (List Key×ag×ao)}(r:KT H oH xs)(k:List Key){y:V}{u:ao}(ry:RelV y u):
  KT H (oH.map λ kv=>if kv.1=k then(kv.1,y)else kv) (xs.map (putAt k u)):=by
 induction r with
 |nil=>exact .nil
 | @cons p q ps qs h t ih=>
  rw[aH,aH]
  refine .cons ?_ ih
  obtain⟨h1,h2,h3⟩:=h
  unfold putAt
  by_cases e:p.1=k
  ·rw[if_pos e,if_pos (h1.symm.trans e)];exact⟨h1,h2,ry⟩
  ·rw[if_neg e,if_neg (λ z=>e (h1.trans z))];exact⟨h1,h2,h3⟩
theorem KT.put{H:Hp}{oH:List (List Key×V)}{xs:List (List Key×ag×ao)}(r:KT H oH xs)(k:List Key){b:ag}{y:V}{u:ao}(hb:H b=some (.tup (k.map kV)))(ry:RelV y u):
  KT H (putK oH k y) (storedH xs k b u):=by
 have e:(oH.any λ kv=>decide (kv.1=k))=(jX xs k).isSome:=by
  rw[C3,(r.val k).Em,kl]
 unfold putK storedH
 rw[e]
 by_cases q:(jX xs k).isSome=true
 ·rw[if_pos q,if_pos q];exact r.abO k ry
 ·rw[if_neg q,if_neg q];exact Paired.snoc r ⟨rfl,hb,ry⟩
theorem KT.keeps{H H':Hp}{oH:List (List Key×V)}{xs:List (List Key×ag×ao)}(r:KT H oH xs)(ht:∀b ys,H b=some (.tup ys)->H' b=some (.tup ys)):KT H' oH xs:=
 Paired.abi r λ _ _ z=>⟨z.1,ht _ _ z.2.1,z.2.2⟩
section
variable{P:aJ}{w:aY}{H:Hp}{h:bz}{a:ag}
theorem aa1{u:HO}(ok:zD P w H h)(e:Rd H a u):pP P w H h a u:=e.ok ok
theorem SN{oH:List (Key×V)}(ok:zD P w H h)(e:Rd H a (.dK oH)):oH.length<=ay/\(a == eg)=false/\∃vs,KV oH vs/\h.DictOf (qZ P w) a vs:=
 show pP P w H h a (.dK oH)from aa1 ok e
theorem ads{oH:List (Key×V)}(ok:zD P w H h)(e:H a=some (.dK oH)):oH.length<=ay/\(a == eg)=false/\∃vs,KV oH vs/\h.DictOf (qZ P w) a vs:=SN ok (.inl e)
theorem LN{ks:List Key}(ok:zD P w H h)(e:H a=some (.tup (ks.map kV))):(jx (qZ P w)).is h ks a:=by
 obtain⟨_,om,r,o,h1,h2,n,h3⟩:=(show pP P w H h a (.tup (ks.map kV))from ok a _ e)
 exact⟨o,om.toArray,n,h1,h2,h3,by simpa using Kn r⟩
theorem SO{oH:List (List Key×V)}(ok:zD P w H h)(e:Rd H a (.dT oH)):oH.length<=ay/\(a == eg)=false/\
  ∃xs,KT H oH xs/\h.DictOfH (jx (qZ P w)) a xs:=by
 obtain⟨z,y,xs,r,o,es,ep,h1,h2,h3,h4,h5⟩:=(show pP P w H h a (.dT oH)from aa1 ok e)
 refine⟨z,y,xs,r,o,es,ep,h1,h2,h3,h4,λ x hx=>?_,h5⟩
 have all:∀{l:List (List Key×V)} {m:List (List Key×ag×ao)},KT H l m->∀x∈m,(jx (qZ P w)).is h x.1 x.2.1:=by
  intro l m q
  induction q with
  |nil=>intro x hx;exact nomatch hx
  | @cons p q ps qs hq t ih=>
   intro x hx
   rcases List.mem_cons.mp hx with e|hx
   ·subst e
    exact LN ok (by rw[<-hq.1];exact hq.2.1)
   ·exact ih x hx
 exact all r x hx
theorem adt{oH:List (List Key×V)}(ok:zD P w H h)(e:H a=some (.dT oH)):oH.length<=ay/\(a == eg)=false/\
  ∃xs,KT H oH xs/\h.DictOfH (jx (qZ P w)) a xs:=SO ok (.inl e)
end
def JS(H:Hp)(a:ag)(y:V)(r:Option V):Prop:=
 (∃oH k,Rd H a (.dK oH)/\y=kV k/\r=vo oH k)\/∃oH k b,Rd H a (.dT oH)/\y= .ref b/\H b=some (.tup (k.map kV))/\r=vo oH k
def Ww(H:Hp)(a:ag)(y v:V)(H':Hp):Prop:=
 (∃oH k,H a=some (.dK oH)/\y=kV k/\oH.length<ay/\H'=upd H a (.dK (putK oH k v)))\/
 ∃oH k b,H a=some (.dT oH)/\y= .ref b/\H b=some (.tup (k.map kV))/\oH.length<ay/\H'=upd H a (.dT (putK oH k v))
theorem JS.k{H:Hp}{a:ag}{oH:List (Key×V)}{k:Key}(e:H a=some (.dK oH)):JS H a (kV k) (vo oH k):=.inl ⟨oH,k,.inl e,rfl,rfl⟩
theorem Ww.k{H:Hp}{a:ag}{oH:List (Key×V)}{k:Key}{v:V}(e:H a=some (.dK oH))(hl:oH.length<ay):Ww H a (kV k) v (upd H a (.dK (putK oH k v))):=.inl ⟨oH,k,e,rfl,hl,rfl⟩
section
variable{X:Cx}{pins:List (ag×Obj)}{σ:St}{H:Hp}{s:au}{a:ag}{y v:V}{u r:ao}{o:Option V}{A:bU}{E:ao->au->Prop}
theorem Inv.big(I:Inv X pins σ H s):eg<s.heap.objs.size:=by
 have h:aO<s.heap.objs.size:=(I.mod.glob.keeps I.bk).lt
 exact iY (by decide) h
theorem Us{Q:ao->au->Prop}(hu:A.units+1<jH)(I:Inv X pins σ H s)(g:JS H a y (some v))(ry:RelV y u)(h:∀w' s',Inv X pins σ H s'->RelV v w'->Q w' s'):
  aV (aS X.prog X.w) A (jn (.ref a) u) Q E s:=by
 rcases g with⟨oH,k,e,ey,l⟩|⟨oH,k,b,e,ey,eb,l⟩
 ·subst ey
  obtain⟨z,hd,vs,rel,dd⟩:=SN I.oX e
  obtain⟨w',hw,wb⟩:=wO.some_of (v:=v) (o:=jm vs k) (by rw[l];exact rel.val k)
  exact wpAny_getItem_of (SM ry) dd.mapOf hw (h w' _ (I.tok _) wb)
 ·subst ey
  cases(show u=Value.ref b from ry)
  obtain⟨z,hd,xs,rel,dd⟩:=SO I.oX e
  obtain⟨w',hw,wb⟩:=wO.some_of (v:=v) (o:=(jX xs k).map (·.2)) (by rw[l];exact rel.val k)
  obtain⟨p,hp,ZA⟩:=Option.map_eq_some_iff.mp hw
  refine wpAny_getItem_heap (jd hu) (LN I.oX eb) dd hp ?_
  rw[ZA]
  exact h w' _ (I.tok _) wb
theorem ZC{Q:ao->au->Prop}(hu:A.units+1<jH)(I:Inv X pins σ H s)(g:JS H a y o)(ry:RelV y u)(h:∀s',Inv X pins σ H s'->Q (.bool (!o.isSome)) s'):
  aV (aS X.prog X.w) A (cR .NotIn u (.ref a)) Q E s:=by
 rcases g with⟨oH,k,e,ey,l⟩|⟨oH,k,b,e,ey,eb,l⟩
 ·subst ey
  obtain⟨z,hd,vs,rel,dd⟩:=SN I.oX e
  refine wpAny_notIn_of (SM ry) hd dd.mapOf ?_
  rw[<-(rel.val k).Em,<-l]
  exact h _ (I.tok _)
 ·subst ey
  cases(show u=Value.ref b from ry)
  obtain⟨z,hd,xs,rel,dd⟩:=SO I.oX e
  refine wpAny_notIn_heap (jd hu) (LN I.oX eb) hd dd ?_
  have q:=(rel.val k).Em
  rw[kl]at q
  rw[<-q,<-l]
  exact h _ (I.tok _)
theorem SQ{h':bz}{t':Nat}{ob:HO}(I:Inv X pins σ H s)(mu:Mut (H a))(hs:Heap.SameBut a s.heap h')(he:∃q,h'.get? a=some q)(new:pP X.prog X.w (upd H a ob) h' a ob):
  Inv X pins σ (upd H a ob) { s with heap:=h',toks:=t' }:=
 I.write (x:=a) (e:=a) mu (.inl rfl) (λ b q hb z=>(hs.2 b hb).trans z) he new
theorem abP{P:aJ}{w:aY}{H':Hp}{h':bz}{oH:List (Key×V)}{vs:List (Key×ao)}(z:oH.length<=ay)(hd:(a == eg)=false)(rel:KV oH vs)(dd:h'.DictOf (qZ P w) a vs):
  pP P w H' h' a (.dK oH):=⟨z,hd,vs,rel,dd⟩
theorem Ut{H':Hp}{Q:Unit->au->Prop}(hu:A.units+1<jH)(I:Inv X pins σ H s)(g:Ww H a y v H')(ry:RelV y u)(rv:RelV v r)(h:∀s',Inv X pins σ H' s'->Q () s'):
  aV (aS X.prog X.w) A (mf (.ref a) u r) Q E s:=by
 rcases g with⟨oH,k,e,ey,l,eH⟩|⟨oH,k,b,e,ey,eb,l,eH⟩
 ·subst ey eH
  obtain⟨z,hd,vs,rel,dd⟩:=ads I.oX e
  have hz:vs.length<=ay:=by rw[<-rel.length];exact z
  have hl:(putK oH k v).length<=ay:=by have:=Fg oH k v;omega
  refine wpAny_setItem_pairs (hsz:=hz) (SM ry) dd λ h' dd' hs=>h _ ?_
  have he:∃q,h'.get? a=some q:=let⟨q,_,_,hq,_⟩:=dd';⟨q,hq⟩
  exact SQ I (by rw[e];exact True.intro) hs he (abP hl hd (rel.put k rv) dd')
 ·subst ey eH
  cases(show u=Value.ref b from ry)
  obtain⟨z,hd,xs,rel,dd⟩:=adt I.oX e
  have hz:xs.length<=ay:=by rw[<-Paired.length rel];exact z
  have hl:(putK oH k v).length<=ay:=by have:=Fg oH k v;omega
  refine wpAny_setItem_heap (hsz:=hz) (jd hu) (LN I.oX eb) dd λ h' dd' hs=>h _ ?_
  obtain⟨q,es,ep,hq,h2,h3,h4,_,h5⟩:=dd'
  refine SQ I (by rw[e];exact True.intro) hs ⟨q,hq⟩ ⟨hl,hd,_,(rel.put k eb rv).keeps λ c ys ec=>?_,q,es,ep,hq,h2,h3,h4,h5⟩
  rw[m4 (acT ec e (λ z=>nomatch z))]
  exact ec
end
section
variable{X:Cx}{pins:List (ag×Obj)}{σ:St}{H:Hp}{s:au}{a:ag}{oH:List (Key×V)}{k:Key}{u:ao}{A:bU}{E:ao->au->Prop}
end
def adu(i:bJ):Prop:=∀ov iv,jG i false ov iv=operate [ov,iv] (jn ov iv)
theorem ZD{prog:aJ}{w:aY}{A:bU}{E:ao->au->Prop}{s:au}{env:Env}{value slice:bJ}{pos:Pos}{T id:String}{Q:ao->au->Prop}
  (hl:typeLookup (.type T) "__getitem__"=pure (some (.builtin id)))(hs:adu slice)
  (h:aV (aS prog w) A (cu value env) (λ o s₁=>aV (aS prog w) A (cu slice env) (λ i s₂=>s₂.TypeIs o T/\aV (aS prog w) A (jn o i) Q E s₂) E s₁) E s):
  aV (aS prog w) A (cu (.Subscript value slice pos) env) Q E s:=by
 refine lV (cQ h (λ o s₁ h₁=>cQ h₁ (λ i s₂ h₂=>?_) λ _ _ x=>x) λ _ _ x=>x)
 obtain⟨hT,h₂⟩:=h₂
 unfold ki
 refine aq ?_
 rw[getitemInPython_of_ne hT.not_modules]
 refine aq (wpAny_specialOf hT hl ?_)
 have fin:aV (aS prog w) A (jG slice false o i) (λ r s₃=>aV (aS prog w) A (letTemporaryGo value o r >>= λ _=>pure r) Q E s₃) E s₂:=by
  rw[hs o i]
  exact wpAny_operating (cQ h₂ (λ r s₃ h₃=>aq (wpAny_letTemporaryGo (aM h₃))) λ _ _ x=>x)
 first
  |exact aM (aq fin)
  |exact aq (aM (aq fin))
  |exact aq fin
theorem NJ{X:Cx}{pins:List (ag×Obj)}{σ:St}{H:Hp}{s:au}{a:ag}{y:V}{o:Option V}(I:Inv X pins σ H s)(g:JS H a y o):s.TypeIs (.ref a) "dict":=by
 rcases g with⟨oH,k,e,_,_⟩|⟨oH,k,b,e,_,_,_⟩
 ·obtain⟨_,_,vs,_,dd⟩:=SN I.oX e
  exact dd.typeIs
 ·obtain⟨_,_,xs,_,dd⟩:=SO I.oX e
  exact dd.typeIs
def adv(td ty:TE):TE:=λ σ H Q=>td σ H λ x H1=>ty σ H1 λ y H2=>∃a v,x= .ref a/\JS H2 a y (some v)/\Q v H2
def ZE(ty td:TE):TE:=λ σ H Q=>ty σ H λ y H1=>td σ H1 λ x H2=>∃a o,x= .ref a/\JS H2 a y o/\Q (.bl (!o.isSome)) H2
def adw(td ty tv:TE):TS:=λ D σ H=>tv σ H λ v H1=>td σ H1 λ x H2=>ty σ H2 λ y H3=>∃a H4,x= .ref a/\Ww H3 a y v H4/\D.nx σ H4
section
variable{X:Cx}{o i e value:bJ}{pos pos' Bg:Pos}{td ty tv:TE}
theorem SR(hu:X.A.units+1<jH)(ho:PE X o td)(hi:PE X i ty)(hs:adu i):PE X (.Subscript o i pos) (adv td ty):=by
 intro pins s σ H Q I h
 refine ZD PySem.F.slot_dict_getitem.lookup hs (pM (ho pins s σ H _ I h) λ u s1 ⟨x,H1,I1,rx,q1⟩=>pM (hi pins s1 σ H1 _ I1 q1) λ iv s2 ⟨y,H2,I2,ry,a,v,ex,g,q2⟩=>?_)
 subst ex
 obtain rfl:u=Value.ref a:=rx
 exact⟨NJ I2 g,Us hu I2 g ry λ w' s3 I3 wb=>⟨v,H2,I3,wb,q2⟩⟩
theorem Uu(hu:X.A.units+1<jH)(hi:PE X i ty)(ho:PE X o td):PC X .NotIn i o (ZE ty td):=by
 intro pins s σ H Q I h
 refine pM (hi pins s σ H _ I h) λ iv s1 ⟨y,H1,I1,ry,q1⟩=>pM (ho pins s1 σ H1 _ I1 q1) λ u s2 ⟨x,H2,I2,rx,a,ov,ex,g,q2⟩=>?_
 subst ex
 obtain rfl:u=Value.ref a:=rx
 exact ZC hu I2 g ry λ s3 I3=>⟨.bl (!ov.isSome),H2,I3,rfl,q2⟩
theorem ZF(hu:X.A.units+1<jH)(ho:PE X o td)(hi:PE X i ty)(hv:PE X value tv)(hs:hU value (some (.Subscript o i pos')) pos.line X.env=pure false):
  PS X (.Assign [.Subscript o i pos'] value pos) (adw td ty tv):=by
 intro pins s σ H D I h
 refine wpAny_Assign_Subscript (pM (hv pins s σ H _ I h) λ r s1 ⟨v,H1,I1,rv,q1⟩=>pM (ho pins s1 σ H1 _ I1 q1) λ u s2 ⟨x,H2,I2,rx,q2⟩=>pM (hi pins s2 σ H2 _ I2 q2) λ iv s3 ⟨y,H3,I3,ry,a,H4,ex,g,q3⟩=>?_) hs
 subst ex
 obtain rfl:u=Value.ref a:=rx
 exact Ut hu I3 g ry rv λ s4 I4=>⟨σ,H4,I4,q3⟩
end
theorem Wx{P:aJ}{w:aY}{H:Hp}(h:bz)(hb:eg<h.objs.size):pP P w H (h.push { cls:=.type "dict",data:=.dict #[] }) h.objs.size (.dK []):=
 ⟨aE _,beq_eq_false_iff_ne.mpr (Ne.symm (bL hb)),[],.nil,Heap.DictOf.new h⟩
def abQ:TE:=λ _ H Q=>∀p,H p=none->Q (.ref p) (upd H p (.dK []))
section
variable{X:Cx}{pos:Pos}
theorem Wy:PE X (.Dict [] [] pos) abQ:=λ pins s σ H Q I h=>
 wpAny_Dict_empty ⟨.ref s.heap.objs.size,_,I.laid (a:=s.heap.objs.size) (o:=.dK []) (t':=s.toks) (λ _ _ q=>Heap.get?_push_of_some _ q) (ax _) (Wx s.heap I.big),rfl,h _ (I.oX.fresh (ax _))⟩
end
section
variable{X:Cx}{pins:List (ag×Obj)}{σ:St}{H:Hp}{s:au}{a:ag}{y d:V}{u r:ao}{o:Option V}{A:bU}{E:ao->au->Prop}
end
section
variable{X:Cx}{o e f:bJ}{apos xC:Pos}{td ty tx:TE}
end
section
variable{X:Cx}{pins:List (ag×Obj)}{σ:St}{H:Hp}{s:au}{a:ag}{oH:List (Key×V)}{A:bU}{E:ao->au->Prop}
end
section
variable{X:Cx}{pins:List (ag×Obj)}{σ:St}{H:Hp}{s:au}{a:ag}{y:V}{u:ao}{A:bU}{E:ao->au->Prop}
end
end L2
namespace L2
open PySem PySem.Spec PyProof.Rows
section
variable{prog:aJ}{w:aY}{A:bU}{E:ao->au->Prop}
end
section
variable{X:Cx}
end
end L2
namespace L2
open PySem PySem.Spec PyProof.Rows
section
variable{X:Cx}{pins:List (ag×Obj)}{σ:St}{H:Hp}{s:au}{h':bz}
theorem Inv.SS{t':Nat}{ch:List ag}(I:Inv X pins σ H s)(k:∀b o,b∉ch->s.heap.get? b=some o->h'.get? b=some o)(hf:∀b∈ch,GD X pins H b):Inv X pins σ H { s with heap:=h',toks:=t' }:=by
 have nit:∀b u,H b=some u->b∉ch:=λ b u e z=>by
  have q:=(hf b z).1
  rw[q]at e;cases e
 refine I.step (g':=s.gens) (d':=s.drawn) (ch:=ch) (λ b hb=>⟨(hf b hb).2.2.2.1,(hf b hb).2.1,(hf b hb).2.2.2.2.1,(hf b hb).2.2.2.2.2⟩) (λ b o _ _ hc e _=>k b o hc e) (λ b o _ _ hc e _=>⟨o.slots,k b o hc e⟩)
  (λ _ _ _ _ n=>n) (λ b o hc e=>⟨o,k b o hc e⟩) (λ _ _ e=>e) (λ _ _ _ e=>e) (λ b ps e=>⟨#[],by rw[e];simp⟩) (λ m hm=>?_) (λ b u e=>?_) I.bare
 ·obtain⟨o,es,ep,ho,r⟩:=hm
  exact⟨o,es,ep,k _ o (λ z=>(hf _ z).2.1 rfl) ho,r⟩
 ·refine(I.oX b u e).Ef (λ c v hc q=>k c v ?_ q) (λ _ q=>q) λ _ _ q=>q
  rcases hc with z|z
  ·rw[z];exact nit b u e
  ·exact nit c _ z
theorem Inv.En{t':Nat}{ch:List ag}{T:ag}{ob:HO}(I:Inv X pins σ H s)(k:∀b o,b∉ch->s.heap.get? b=some o->h'.get? b=some o)(hf:∀b∈ch,GD X pins H b)(hT:s.heap.objs.size<=T)
  (new:pP X.prog X.w (upd H T ob) h' T ob):Inv X pins σ (upd H T ob) { s with heap:=h',toks:=t' }:=by
 have hn:H T=none:=I.oX.fresh hT
 have nit:∀b u,H b=some u->b∉ch:=λ b u e z=>by
  have q:=(hf b z).1
  rw[q]at e;cases e
 refine I.step (g':=s.gens) (d':=s.drawn) (ch:=ch) (λ b hb=>⟨(hf b hb).2.2.2.1,(hf b hb).2.1,(hf b hb).2.2.2.2.1,(hf b hb).2.2.2.2.2⟩) (λ b o _ _ hc e _=>k b o hc e) (λ b o _ _ hc e _=>⟨o.slots,k b o hc e⟩)
  (λ b o _ e n=>?_) (λ b o hc e=>⟨o,k b o hc e⟩) (λ b xs e=>?_) (λ b o u e=>?_) (λ b ps e=>⟨#[],?_⟩) (λ m hm=>?_) (λ b u e=>?_) I.bare
 ·rw[m4 (bL (aU (Heap.lt_size e) hT))];exact n
 ·rw[m4 (nG e hn)];exact e
 ·rw[m4 (nG e hn)];exact e
 ·rw[m4 (nG e hn),e];simp
 ·obtain⟨o,es,ep,ho,r⟩:=hm
  exact⟨o,es,ep,k _ o (λ z=>(hf _ z).2.1 rfl) ho,r⟩
 ·by_cases hb:b=T
  ·subst hb
   rw[mZ]at e
   cases e
   exact new
  ·rw[m4 hb]at e
   refine(I.oX b u e).Ef (λ c v hc q=>k c v ?_ q) (λ c q=>by rw[m4 (nG q hn)];exact q) λ c xs q=>by rw[m4 (nG q hn)];exact q
   rcases hc with z|z
   ·rw[z];exact nit b u e
   ·exact nit c _ z
end
section
variable{X:Cx}
theorem Qn{tg:bJ}{pins:List (ag×Obj)}{σ:St}{H:Hp}{s:au}{R:It->Hp->Prop}{J:It}{tn:Nat->bz->Prop}{tk:Nat}(I:Inv X pins σ H s)(o:Obj)
  (T:Turn X.prog X.w X.K tg J [s.heap.objs.size] s.heap.objs.size tn)(st:tn 0 (s.heap.push o))(q:R J H):PIE X pins σ tg R (.ref s.heap.objs.size) { s with heap:=s.heap.push o,toks:=tk }:=by
 refine⟨s.heap.objs.size,[s.heap.objs.size],tn,J,H,rfl,I.kept λ b ob e=>Heap.get?_push_of_some _ e,T,st,λ b hb=>?_,q⟩
 have e:b=s.heap.objs.size:=by simpa using hb
 subst e
 exact I.Qa (ax _) (I.oX.fresh (ax _))
end
def Itc(lo c:Int)(n:Nat):It:=⟨λ i _=>i<n,λ i H x H'=>H'=H/\x= .int (lo+(i:Nat)*c),λ i _=>n<=i⟩
theorem NK{P:aJ}{w:aY}{K:ah}{tg:bJ}(it:ag)(lo c:Int)(n:Nat):Turn P w K tg (Itc lo c n) [it] it (λ i h=>jJ h it (lo+(i:Nat)*c) ((n:Int)-(i:Nat)) c) where
 mem:=by simp
 obj:=λ i h st b hb=>by
  have e:b=it:=by simpa using hb
  subst e
  exact⟨_,st,λ v z=>nomatch z⟩
 keep:=λ i h h' st k=>k it (by simp) _ st
 item:=by
  intro X hP hw hK hc i pins s σ H E I hf st hg
  subst hP hw hK
  obtain⟨f0,f1,f2,f3,f4,f5⟩:=hf it (by simp)
  have W:=Walks.range (prog:=X.prog) (w:=X.w) (I.ok.hd hc) it lo c n
  refine W.item i s _ _ hg st λ v h' tk hv D_ kk=>?_
  obtain⟨t,rfl⟩:=hv
  have I1:Inv X pins σ H { s with heap:=h',toks:=tk }:=I.turned (λ b o hb e=>kk b o (by simpa using hb) e) f0 f1 f3 f4 f5
  exact⟨_,rfl,Sv (s:={ s with heap:=h',toks:=tk }) (n:="range_iterator") D_ rfl rfl (by decide) ⟨.int (lo+(i:Nat)*c),H,I1,⟨t,rfl⟩,⟨rfl,rfl⟩,D_,λ b hb=>(hf b hb).1⟩⟩
 done:=by
  intro X hP hw hK hc i pins s σ H E I hf st hg
  subst hP hw hK
  obtain⟨f0,f1,f2,f3,f4,f5⟩:=hf it (by simp)
  exact kM (I.ok.hd hc) st (by have:n<=i:=hg;omega) λ h' eb=>⟨rfl,I.turned (t':=s.toks) (λ b o hb e=>eb b o hb e) f0 f1 f3 f4 f5⟩
 self:=λ A i s Q E st h=>kN st h
def RgC(i j c:Int)(n:Nat):Prop:=c≠0/\c.natAbs<1073741824/\Builtin.Range.small i j c=true/\Builtin.Range.rangeSize i j c=n
theorem RgC.neg{i j:Int}(ha: -(2 ^ 62)<=i)(SU:i<2 ^ 62)(hb: -(2 ^ 62)<=j)(hb':j<2 ^ 62):RgC i j (-1) (i-j).toNat:=
 ⟨by decide,by decide,PySem.W.small_down ha SU hb hb',PySem.W.rangeSize_downNat i j⟩
def adx(ta:TA):TI:=λ σ H R=>ta σ H λ vs H1=>∃(i j c:Int) (n:Nat),vs=[.int i,.int j,.int c]/\RgC i j c n/\R (Itc i c n) H1
section
variable{X:Cx}{tg:bJ}
theorem Uv{a b c:bJ}{ta:TA}{p pos:Pos}(hg:Gl X "range")(hm:X.mg "range"=none)(ha:PA X [a,b,c] ta)
  (hs:aN [a,b,c] X.env=(false,cu a X.env)::aN [b,c] X.env:=by rfl)(vm:(c7 pos (aN [b,c] X.env)).any (·.1)=false:=by rfl):
  PI X tg (.Call (.Name "range" p) [a,b,c] [] pos) (adx ta):=by
 intro pins s σ H R I h
 refine ly (vg I hg hm j0 (bS (pM (ha pos pins s σ H _ I h) λ us s1 ⟨vs,H1,I1,r1,q1⟩=>?_) hs vm))
 obtain⟨i,j,k,n,e,⟨c0,c1,c2,c3⟩,q⟩:=q1
 subst e
 cases r1 with
 |cons r rr=>
  cases rr with
  |cons r' rr=>
   cases rr with
   |cons r'' rr=>
    cases rr
    obtain⟨t,rfl⟩:=r
    obtain⟨t',rfl⟩:=r'
    obtain⟨t'',rfl⟩:=r''
    refine call_range_3 c0 ?_ (.inl (PyProof.noPylong_small c1))
    refine lP (IsRange.new ..) c2 ?_
    have I2:Inv X pins σ H1 { s1 with heap:=s1.heap.push { cls:=.type "range",data:=.fields #[.int i t,.int j t',.int k t''] } }:=I1.kept (t':=s1.toks) λ b o e=>Heap.get?_push_of_some _ e
    refine Qn (tk:=s1.toks) I2 _ (NK _ i k n) ?_ q
    have e1:i+((0:Nat):Int)*k=i:=by simp
    have e2:(n:Int)-((0:Nat):Int)=Builtin.Range.rangeSize i j k:=by rw[c3];simp
    show jJ _ _ (i+((0:Nat):Int)*k) ((n:Int)-((0:Nat):Int)) k
    rw[e1,e2]
    exact Heap.get?_push_size _ rfl
end
theorem Qo{lo c:Int}{n:Nat}{g:TG}{tb:TS}{D:Ends}{σ:St}{H:Hp}(Pv:Nat->St->Hp->Prop)(h0:Pv 0 σ H)
  (hs:∀i σ H,i<n->Pv i σ H->g (.int (lo+(i:Nat)*c)) σ H λ σ2 H2=>tb { D with nx:=Pv (i+1),ct:=Pv (i+1),bk:=D.nx } σ2 H2)(hd:∀σ H,Pv n σ H->D.nx σ H):
  ∃W:Nat->Nat->St->Hp->Prop,(∃m,W 0 m σ H)/\∀i m σ H,W i m σ H->
   ((Itc lo c n).stop i H/\D.nx σ H)\/((Itc lo c n).go i H/\∃N:St->Hp->Prop,(∀σ' H',N σ' H'->∃m',m'<m/\W (i+1) m' σ' H')/\∀x H',(Itc lo c n).G8 i H x H'->g x σ H' λ σ2 H2=>tb { D with nx:=N,ct:=N,bk:=D.nx } σ2 H2):=by
 refine⟨λ i m σ H=>m=n-i/\i<=n/\Pv i σ H,⟨n,by simp,aE _,h0⟩,?_⟩
 rintro i m σ H ⟨rfl,hi,p⟩
 by_cases rN:i<n
 ·refine .inr ⟨rN,Pv (i+1),λ σ' H' p'=>⟨n-(i+1),by omega,rfl,rN,p'⟩,λ x H' y=>?_⟩
  obtain⟨e,y⟩:=y
  subst e y
  exact hs i σ _ rN p
 ·have e:i=n:=by omega
  subst e
  exact .inl ⟨ax _,hd σ H p⟩
section
variable{X:Cx}{tg:bJ}
end
def Its(x:Str):It:=⟨λ i _=>i<x.cps.size,λ i H v H'=>H'=H/\∃c,x.cps[i]? =some c/\v= .str ⟨#[c]⟩,λ i _=>x.cps.size<=i⟩
theorem NL{P:aJ}{w:aY}{K:ah}{tg:bJ}(it:ag)(x:Str)(t:Tok)(ty:String)(hty:ty="str_ascii_iterator"\/ty="str_iterator"):
  Turn P w K tg (Its x) [it] it (λ i h=>h.IsStrIter it ty x t i) where
 mem:=by simp
 obj:=λ i h st b hb=>by
  have e:b=it:=by simpa using hb
  subst e
  obtain⟨o,e,c,d⟩:=st
  exact⟨o,e,λ v z=>by rw[d]at z;cases z⟩
 keep:=λ i h h' st k=>let⟨o,ho,r⟩:=st;⟨o,k it (by simp) o ho,r⟩
 item:=by
  intro X hP hw hK hc i pins s σ H E I hf st hg
  subst hP hw hK
  obtain⟨f0,f1,f2,f3,f4,f5⟩:=hf it (by simp)
  have W:Walks X.prog X.w X.A it [it] [it] x.cps.size (SignAt x) (λ i h=>h.IsStrIter it ty x t i):=by
   rcases hty with e|e
   ·rw[e];exact Walks.strAscii (I.ok.hd hc) it x t
   ·rw[e];exact Walks.strWide (I.ok.hd hc) it x t
  have hno:["enumerate","zip","dict_itemiterator","dict_reverseitemiterator","odict_iterator","itertools.zip_longest","itertools.pairwise"].contains ty=false:=by
   rcases hty with e|e
   ·rw[e];decide
   ·rw[e];decide
  refine W.item i s _ _ hg st λ v h' tk hv D_ kk=>?_
  obtain⟨c,u,hcx,rfl⟩:=hv
  have I1:Inv X pins σ H { s with heap:=h',toks:=tk }:=I.turned (λ b o hb e=>kk b o (by simpa using hb) e) f0 f1 f3 f4 f5
  obtain⟨oi,e,cc,dd⟩:=id D_
  exact⟨_,rfl,Sv (s:={ s with heap:=h',toks:=tk }) e cc dd hno ⟨.str ⟨#[c]⟩,H,I1,⟨u,rfl⟩,⟨rfl,c,hcx,rfl⟩,D_,λ b hb=>(hf b hb).1⟩⟩
 done:=by
  intro X hP hw hK hc i pins s σ H E I hf st hg
  subst hP hw hK
  obtain⟨f0,f1,f2,f3,f4,f5⟩:=hf it (by simp)
  have hx:x.cps[i]? =none:=Array.getElem?_eq_none hg
  rcases hty with e|e
  ·rw[e]at st
   exact wpAny_pyNext_ascii_end (I.ok.hd hc) st hx λ h' eb=>⟨rfl,I.turned (t':=s.toks) (λ b o hb e=>eb b o hb e) f0 f1 f3 f4 f5⟩
  ·rw[e]at st
   exact wpAny_pyNext_wide_end (I.ok.hd hc) st hx λ h' eb=>⟨rfl,I.turned (t':=s.toks) (λ b o hb e=>eb b o hb e) f0 f1 f3 f4 f5⟩
 self:=λ A i s Q E st h=>by
  rcases hty with e|e
  ·rw[e]at st;exact wpAny_pyIter_striter_ascii st h
  ·rw[e]at st;exact wpAny_pyIter_striter_wide st h
def aeG(te:TE):TI:=λ σ H R=>te σ H λ v H1=>∃x,v= .str x/\R (Its x) H1
theorem abR{X:Cx}{tg e:bJ}{te:TE}(he:PE X e te):PI X tg e (aeG te):=by
 intro pins s σ H R I h
 refine pM (he pins s σ H _ I h) λ v s1 ⟨y,H1,I1,r1,x,ex,q⟩=>?_
 subst ex
 obtain⟨t,rfl⟩:=r1
 cases ha:x.cps.all (· <128)
 ·exact wpAny_pyIter_wide ha (Qn (tk:=s1.toks) I1 _ (NL _ x t "str_iterator" (.inr rfl)) ⟨_,Heap.get?_push_size _ rfl,rfl,rfl⟩ q)
 ·exact wpAny_pyIter_ascii ha (Qn (tk:=s1.toks) I1 _ (NL _ x t "str_ascii_iterator" (.inl rfl)) ⟨_,Heap.get?_push_size _ rfl,rfl,rfl⟩ q)
section
variable{prog:aJ}{w:aY}{A:bU}{E:ao->au->Prop}{s:au}
end
section
variable{X:Cx}{pins:List (ag×Obj)}{σ:St}{H:Hp}{s:au}{d:ag}{o:Obj}
end
section
variable{P:aJ}{w:aY}{K:ah}{tg:bJ}{d:ag}{o:Obj}{es:Array my}{ep:Nat}
end
section
variable{X:Cx}{tg e:bJ}{td:TE}{apos xC:Pos}
end
def Ite(K:ah)(a:ag):It:=
 ⟨λ i H=>∃(xs:List V) (x:V),nE K H a xs/\xs[i]? =some x,λ i H v H'=>∃T x,v= .ref T/\H T=none/\H'=upd H T (.tup [.int (i:Nat),x])/\∀xs,nE K H a xs->xs[i]? =some x,λ i H=>∃xs:List V,nE K H a xs/\xs.length<=i⟩
theorem Uw{P:aJ}{w:aY}{K:ah}{elts:List bJ}{kk:Nat}{Bg:Pos}(a e it:ag):
  Turn P w K (.Tuple elts kk Bg) (Ite K a) [e,it] e (λ i h=>(∃old,IsEnum h e it ((i:Nat):Int) old)/\h.IsListIter it a i/\e≠it) where
 mem:=by simp
 obj:=λ i h st b hb=>by
  obtain⟨⟨old,he⟩,⟨o,ho,hc,hd⟩,_⟩:=st
  have e':b=e\/b=it:=by simpa using hb
  rcases e' with z|z
  ·rw[z];exact⟨_,he,λ v q=>nomatch q⟩
  ·rw[z];exact⟨o,ho,λ v q=>by rw[hd]at q;cases q⟩
 keep:=λ i h h' st k=>let⟨⟨old,he⟩,hi,xD⟩:=st;⟨⟨old,k e (by simp) _ he⟩,hi.at λ o q=>k it (by simp) o q,xD⟩
 item:=by
  intro X hP hw hK hc i pins s σ H E I hf st hg
  subst hP hw hK
  obtain⟨⟨old,he⟩,hit,xD⟩:=st
  obtain⟨xs,x,hq,hx⟩:=hg
  obtain⟨om,rv,p,hz⟩:=I.list hq
  obtain⟨u,hu,ru⟩:=rv.get hx
  have hel:e<s.heap.objs.size:=Heap.lt_size he
  have Wz:it<s.heap.objs.size:=by obtain⟨_,q,_⟩:=hit;exact Heap.lt_size q
  refine wpAny_pyNext_enum_item he hit p.isList (x:=u) (by simpa using hu) xD λ h' ho aeH hT hsz hk=>?_
  refine⟨_,rfl,wpAny_letOwnedTupleGo_enum (s:={ s with heap:=h',toks:=s.toks+1 }) ho λ VZ he' sb=>?_⟩
  have LO:VZ.get? s.heap.objs.size=some { cls:=.type "tuple",data:=.seq #[.int i s.toks,u] }:=(sb.2 _ (fZ hel)).trans hT
  have new:pP X.prog X.w (upd H s.heap.objs.size (.tup [.int (i:Nat),x])) VZ s.heap.objs.size (.tup [.int (i:Nat),x]):=
   ⟨by show 2<=ay;decide,[.int i s.toks,u],.cons ⟨_,rfl⟩ (.cons ru .nil),⟨_,LO,rfl,_,rfl⟩⟩
  have I1:Inv X pins σ (upd H s.heap.objs.size (.tup [.int (i:Nat),x])) { s with heap:=VZ,toks:=s.toks+1 }:=
   I.En (ch:=[e,it]) (λ b ob hb q=>(sb.2 b (λ z=>hb (by simp[z]))).trans (hk b ob (λ z=>hb (by simp[z])) (λ z=>hb (by simp[z])) q)) hf (ax _) new
  refine⟨.ref s.heap.objs.size,_,I1,rfl,⟨_,x,rfl,I.oX.fresh (ax _),rfl,λ ys hy=>by rw[I.vi hy hq];exact hx⟩,⟨⟨u,?_⟩,aeH.at λ o q=>(sb.2 it (Ne.symm xD)).trans q,xD⟩,λ b hb=>?_⟩
  ·have e1:((i+1:Nat):Int)=(i:Int)+1:=by omega
   rw[e1];exact he'
  ·have hb':b<s.heap.objs.size:=by
    have e':b=e\/b=it:=by simpa using hb
    rcases e' with z|z
    ·rw[z];exact hel
    ·rw[z];exact Wz
   rw[m4 (bL hb')]
   exact(hf b hb).1
 done:=by
  intro X hP hw hK hc i pins s σ H E I hf st hg
  subst hP hw hK
  obtain⟨⟨old,he⟩,hit,xD⟩:=st
  obtain⟨xs,hq,hx⟩:=hg
  obtain⟨om,rv,p,hz⟩:=I.list hq
  obtain⟨f0,f1,f2,f3,f4,f5⟩:=hf it (by simp)
  have hl:=rv.length
  exact wpAny_pyNext_enum_end (I.ok.hd hc) he hit p.isList (by simp;omega) λ h' eb=>⟨rfl,I.turned (t':=s.toks) (λ b o hb q=>eb b o hb q) f0 f1 f3 f4 f5⟩
 self:=λ A i s Q E st h=>let⟨⟨_,he⟩,_⟩:=st;md he h
def ady(K:ah)(ta:TA):TI:=λ σ H R=>ta σ H λ vs H1=>∃a xs,vs=[.ref a]/\nE K H1 a xs/\R (Ite K a) H1
theorem C4{X:Cx}{e:bJ}{ta:TA}{p pos Bg:Pos}{elts:List bJ}{kk:Nat}(hg:Gl X "enumerate")(hm:X.mg "enumerate"=none)(ha:PA X [e] ta)(hs:aN [e] X.env=[(false,cu e X.env)]:=by rfl):
  PI X (.Tuple elts kk Bg) (.Call (.Name "enumerate" p) [e] [] pos) (ady X.K ta):=by
 intro pins s σ H R I h
 refine ly (vg I hg hm boot_enumerate (bS (pM (ha pos pins s σ H _ I h) λ us s1 ⟨vs,H1,I1,r1,q1⟩=>?_) hs rfl))
 obtain⟨a,xs,ex,hq,q⟩:=q1
 subst ex
 cases r1 with
 |cons r rr=>
  cases rr
  cases r
  obtain⟨om,rv,p',hz⟩:=I1.list hq
  refine call_enumerate_list p'.isList λ h' he hit hsz hk=>md he ?_
  have I2:Inv X pins σ H1 { s1 with heap:=h' }:=I1.kept (t':=s1.toks) hk
  refine⟨s1.heap.objs.size+1,[s1.heap.objs.size+1,s1.heap.objs.size],_,_,H1,rfl,I2,Uw a (s1.heap.objs.size+1) s1.heap.objs.size,⟨⟨.none,he⟩,hit,Nat.succ_ne_self _⟩,λ b hb=>?_,q⟩
  have e':b=s1.heap.objs.size+1\/b=s1.heap.objs.size:=by simpa using hb
  have hle:s1.heap.objs.size<=b:=by
   rcases e' with z|z
   ·rw[z];exact cB _ _
   ·rw[z];exact ax _
  exact I1.Qa hle (I1.oX.fresh hle)
theorem Ko:fD "zip"=some (.type "zip"):=by decide +kernel
def Itz(K:ah)(a b:ag):It:=
 ⟨λ i H=>∃(xs ys:List V) (x y:V),nE K H a xs/\nE K H b ys/\xs[i]? =some x/\ys[i]? =some y,
  λ i H v H'=>∃T x y,v= .ref T/\H T=none/\H'=upd H T (.tup [x,y])/\(∀xs,nE K H a xs->xs[i]? =some x)/\∀ys,nE K H b ys->ys[i]? =some y,
  λ i H=>∃xs ys:List V,nE K H a xs/\nE K H b ys/\(xs.length<=i\/ys.length<=i)⟩
theorem WA{P:aJ}{w:aY}{K:ah}{elts:List bJ}{kk:Nat}{Bg:Pos}{a b z TI TO i1 i2:ag}(D:ZipApart z TI TO i1 i2 a b):
  Turn P w K (.Tuple elts kk Bg) (Itz K a b) [z,TI,TO,i1,i2] z (λ i h=>gN h z TI TO .none/\IsPair h TI (.ref i1) (.ref i2)/\(∃x y,IsPair h TO x y)/\h.IsListIter i1 a i/\h.IsListIter i2 b i) where
 mem:=by simp
 obj:=λ i h st c hc=>by
  obtain⟨hz,WB,⟨x,y,Y3⟩,⟨o1,e1,_,d1⟩,⟨o2,e2,_,d2⟩⟩:=st
  have e':c=z\/c=TI\/c=TO\/c=i1\/c=i2:=by simpa using hc
  rcases e' with q|q|q|q|q
  ·rw[q];exact⟨_,hz,λ v q=>nomatch q⟩
  ·rw[q];exact⟨_,WB,λ v q=>nomatch q⟩
  ·rw[q];exact⟨_,Y3,λ v q=>nomatch q⟩
  ·rw[q];exact⟨o1,e1,λ v q=>by rw[d1]at q;cases q⟩
  ·rw[q];exact⟨o2,e2,λ v q=>by rw[d2]at q;cases q⟩
 keep:=λ i h h' st k=>by
  obtain⟨hz,WB,⟨x,y,Y3⟩,h1,h2⟩:=st
  exact⟨k z (by simp) _ hz,k TI (by simp) _ WB,⟨x,y,k TO (by simp) _ Y3⟩,h1.at λ o q=>k i1 (by simp) o q,h2.at λ o q=>k i2 (by simp) o q⟩
 item:=by
  intro X hP hw hK hc i pins s σ H E I hf st hg
  subst hP hw hK
  obtain⟨hz,WB,⟨x0,y0,Y3⟩,h1,h2⟩:=st
  obtain⟨xs,ys,x,y,hqx,hqy,hx,hy⟩:=hg
  obtain⟨om,rv,p,_⟩:=I.list hqx
  obtain⟨Ei,rv2,p2,_⟩:=I.list hqy
  obtain⟨u,hu,ru⟩:=rv.get hx
  obtain⟨u2,hu2,ru2⟩:=rv2.get hy
  have hzl:z<s.heap.objs.size:=Heap.lt_size hz
  refine wpAny_pyNext_zip_item D hz WB Y3 h1 h2 p.isList p2.isList (x:=u) (y:=u2) (by simpa using hu) (by simpa using hu2) λ h' z' TO' h1' h2' hT hsz hk=>?_
  refine⟨_,rfl,j6 (s:={ s with heap:=h' }) z' λ VZ z'' sb=>?_⟩
  have LO:VZ.get? s.heap.objs.size=some { cls:=.type "tuple",data:=.seq #[u,u2] }:=(sb.2 _ (fZ hzl)).trans hT
  have new:pP X.prog X.w (upd H s.heap.objs.size (.tup [x,y])) VZ s.heap.objs.size (.tup [x,y]):=
   ⟨by show 2<=ay;decide,[u,u2],.cons ru (.cons ru2 .nil),⟨_,LO,rfl,_,rfl⟩⟩
  have I1:Inv X pins σ (upd H s.heap.objs.size (.tup [x,y])) { s with heap:=VZ }:=
   I.En (t':=s.toks) (ch:=[z,TI,TO,i1,i2]) (λ c o hb q=>(sb.2 c (λ q'=>hb (by simp[q']))).trans (hk c o (λ q'=>hb (by simp[q'])) (λ q'=>hb (by simp[q'])) (λ q'=>hb (by simp[q'])) (λ q'=>hb (by simp[q'])) q)) hf (ax _) new
  refine⟨.ref s.heap.objs.size,_,I1,rfl,⟨_,x,y,rfl,I.oX.fresh (ax _),rfl,λ l hl=>by rw[I.vi hl hqx];exact hx,λ l hl=>by rw[I.vi hl hqy];exact hy⟩,⟨z'',?_,⟨u,u2,?_⟩,?_,?_⟩,λ c ZG=>?_⟩
  ·exact(sb.2 _ D.TIz).trans (hk _ _ D.TIz D.TITO D.TIi1 D.TIi2 WB)
  ·exact(sb.2 _ D.TOz).trans TO'
  ·exact h1'.at λ o q=>(sb.2 _ D.i1z).trans q
  ·exact h2'.at λ o q=>(sb.2 _ D.i2z).trans q
  ·have rN:c<s.heap.objs.size:=by
    have e':c=z\/c=TI\/c=TO\/c=i1\/c=i2:=by simpa using ZG
    rcases e' with q|q|q|q|q
    ·rw[q];exact hzl
    ·rw[q];exact Heap.lt_size WB
    ·rw[q];exact Heap.lt_size Y3
    ·rw[q];obtain⟨_,e1,_⟩:=h1;exact Heap.lt_size e1
    ·rw[q];obtain⟨_,e2,_⟩:=h2;exact Heap.lt_size e2
   rw[m4 (bL rN)]
   exact(hf c ZG).1
 done:=by
  intro X hP hw hK hc i pins s σ H E I hf st hg
  subst hP hw hK
  obtain⟨hz,WB,⟨x0,y0,Y3⟩,h1,h2⟩:=st
  obtain⟨xs,ys,hqx,hqy,adz⟩:=hg
  obtain⟨om,rv,p,_⟩:=I.list hqx
  obtain⟨Ei,rv2,p2,_⟩:=I.list hqy
  have l1:=rv.length
  have l2:=rv2.length
  have he:om.toArray[i]? =none\/Ei.toArray[i]? =none:=by
   rcases adz with q|q
   ·exact .inl (by simp;omega)
   ·exact .inr (by simp;omega)
  exact wpAny_pyNext_zip_end (I.ok.hd hc) D hz WB Y3 h1 h2 p.isList p2.isList he λ h' hk=>⟨rfl,I.SS (t':=s.toks) (ch:=[z,TI,TO,i1,i2]) (λ c o hb q=>
   hk c o (λ q'=>hb (by simp[q'])) (λ q'=>hb (by simp[q'])) (λ q'=>hb (by simp[q'])) (λ q'=>hb (by simp[q'])) q) hf⟩
 self:=λ A i s Q E st h=>hJ st.1 h
def aeI(K:ah)(ta:TA):TI:=λ σ H R=>ta σ H λ vs H1=>∃a b xs ys,vs=[.ref a,.ref b]/\nE K H1 a xs/\nE K H1 b ys/\R (Itz K a b) H1
theorem Eo{X:Cx}{e e2:bJ}{ta:TA}{p pos Bg:Pos}{elts:List bJ}{kk:Nat}(hg:Gl X "zip")(hm:X.mg "zip"=none)(ha:PA X [e,e2] ta)
  (hs:aN [e,e2] X.env=(false,cu e X.env)::aN [e2] X.env:=by rfl)(vm:(c7 pos (aN [e2] X.env)).any (·.1)=false:=by rfl):
  PI X (.Tuple elts kk Bg) (.Call (.Name "zip" p) [e,e2] [] pos) (aeI X.K ta):=by
 intro pins s σ H R I h
 refine ly (vg I hg hm Ko (bS (pM (ha pos pins s σ H _ I h) λ us s1 ⟨vs,H1,I1,r1,q1⟩=>?_) hs vm))
 obtain⟨a,b,xs,ys,ex,hqx,hqy,q⟩:=q1
 subst ex
 cases r1 with
 |cons r rr=>
  cases rr with
  |cons r' rr=>
   cases rr
   cases r
   cases r'
   obtain⟨om,rv,p1,_⟩:=I1.list hqx
   obtain⟨Ei,rv2,p2,_⟩:=I1.list hqy
   have la:a<s1.heap.objs.size:=p1.lt
   have lb:b<s1.heap.objs.size:=p2.lt
   refine call_zip_2 p1.isList p2.isList λ h' hz WB Y3 h1 h2 hsz hk=>hJ hz ?_
   have I2:Inv X pins σ H1 { s1 with heap:=h' }:=I1.kept (t':=s1.toks) hk
   refine⟨s1.heap.objs.size+4,[s1.heap.objs.size+4,s1.heap.objs.size+2,s1.heap.objs.size+3,s1.heap.objs.size,s1.heap.objs.size+1],_,_,H1,rfl,I2,WA (PySem.W.ktu_apart s1.heap.objs.size a b la lb),⟨hz,WB,⟨_,_,Y3⟩,h1,h2⟩,λ c ZG=>?_,q⟩
   have e':c=s1.heap.objs.size+4\/c=s1.heap.objs.size+2\/c=s1.heap.objs.size+3\/c=s1.heap.objs.size\/c=s1.heap.objs.size+1:=by simpa using ZG
   have hle:s1.heap.objs.size<=c:=by
    rcases e' with z|z|z|z|z
    ·rw[z];exact cB _ _
    ·rw[z];exact cB _ _
    ·rw[z];exact cB _ _
    ·rw[z];exact ax _
    ·rw[z];exact cB _ _
   exact I1.Qa hle (I1.oX.fresh hle)
end L2
namespace aeJ
open PySem PyProof.Rows
end aeJ
namespace TL
open PySem PySem.Builtin PySem.Builtin.Str PySem.StrLaws
abbrev tl(x:Str):List Nat:=x.cps.toList
theorem Qp{x y:Str}(h:tl x=tl y):x=y:=Str.ext' (Array.toList_inj.mp h)
theorem Kp(x y:Str):tl (x++y)=tl x++tl y:=by
 show(x++y).cps.toList=_
 rw[Str.cps_append,Array.toList_append]
def Fh(S:List Nat):List (List Nat)->List Nat
 |[]=>[]
 |[p]=>p
 |p::q::r=>p++(S++Fh S (q::r))
theorem GR(y:Str):∀parts:List Str,tl (Str.join y parts)=Fh (tl y) (parts.map tl)
 |[]=>rfl
 |[_]=>rfl
 |x::z::r=>by
  show tl (x++y++Str.join y (z::r))=tl x++(tl y++Fh (tl y) ((z::r).map tl))
  rw[Kp,Kp,GR y (z::r),bB]
theorem join_eq(y:Str)(parts:List Str):Txt.join y parts=Str.join y parts:=glued_eq_join y parts
end TL
namespace L2
open PySem PySem.Spec PyProof.Rows
theorem xT:∀{ys:List Str} {us:List ao},Vals (ys.map V.str) us->StrsAre us ys
 |[],_,.nil=>.nil
 |y::ys,_,.cons r t=>by
  obtain⟨k,rfl⟩:=r
  exact .cons y k (xT t)
section
variable{X:Cx}{pins:List (ag×Obj)}{σ:St}{H:Hp}{s:au}{Q:VK}
end
section
variable{X:Cx}
theorem ZH:MtR X "str.join" (λ x xs H Q=>∃a p,∃ys:List Str,x= .str a/\xs=[.ref p]/\(nE X.K H p (ys.map V.str)\/Bi X.K H p (ys.map V.str))/\
  (ys.map (·.length)).sum+ys.length*a.length<=16777216/\Q (.str (Txt.join a ys)) H):=by
 intro pins s σ H x xs v us Q I rx rs h
 obtain⟨a,p,ys,rfl,rfl,hp,hz,h⟩:=h
 obtain⟨t,rfl⟩:=rx
 cases rs with
 |cons r1 rs=>
  cases rs
  cases r1
  rcases hp with hp|hp
  ·obtain⟨om,r,⟨o,n,ho,hc,_,hd⟩,_⟩:=I.list hp
   exact mG (items:=om.toArray) ⟨o,ho,hc,n,hd⟩ (by rw[ko];exact xT r) hz λ t' k=>⟨.str _,H,I.tok k,⟨t',rfl⟩,h⟩
  ·obtain⟨om,r,ht,_⟩:=I.tuple hp
   exact mF (items:=om.toArray) ht (by rw[ko];exact xT r) hz λ t' k=>⟨.str _,H,I.tok k,⟨t',rfl⟩,h⟩
end
section
variable{X:Cx}{o e:bJ}{to te:TE}
def tM1(r:V->List V->Hp->VK->Prop)(to te:TE):TE:=λ σ H Q=>to σ H λ x H1=>(∃a,x= .str a)/\te σ H1 λ y H2=>r x [y] H2 Q
theorem adA{id:String}{name:Str}{apos pos:Pos}{r:V->List V->Hp->VK->Prop}(slot:Slot "str" name id)(ty:lR (.builtin id)=pure (.type "method_descriptor"))(lr:MtR X id r)(ho:PE X o to)(he:PE X e te)
  (hs:aN [e] X.env=[(false,cu e X.env)]:=by rfl)(Hg:dN o name X.env (cu o X.env)=cu o X.env:=by rfl)(Hh:(apos.endLine == pos.line)=true:=by rfl):
  PE X (.Call (.Attribute o name apos) [e] [] pos) (tM1 r to te):=by
 intro pins s σ H Q I h
 refine PySem.Call_method1 Hg hs Hh (pM (ho pins s σ H _ I h) λ v s1 ⟨x,H1,I1,r1,q1⟩=>?_)
 obtain⟨⟨a,rfl⟩,q1⟩:=q1
 obtain⟨t,rfl⟩:=_root_.id r1
 refine⟨"str",_,F.plainAttrs_str,slot,ty,lS _ _ _,(λ _ e=>nomatch e),Calls.callWith_builtin rfl (Calls.evalArgs_plain (Calls.spliced_cons ?_))⟩
 exact pM (he pins s1 σ H1 _ I1 q1) λ u s2 ⟨y,H2,I2,r2,q2⟩=>Calls.spliced_nil (lr pins s2 σ H2 _ [y] _ [u] Q I2 r1 (.cons r2 .nil) q2)
theorem LP{apos pos:Pos}(ho:PE X o to)(he:PE X e te)(hs:aN [e] X.env=[(false,cu e X.env)]:=by rfl)(Hg:dN o "join" X.env (cu o X.env)=cu o X.env:=by rfl)(Hh:(apos.endLine == pos.line)=true:=by rfl):
  PE X (.Call (.Attribute o "join" apos) [e] [] pos) (tM1 (λ x xs H Q=>∃a p,∃ys:List Str,x= .str a/\xs=[.ref p]/\(nE X.K H p (ys.map V.str)\/Bi X.K H p (ys.map V.str))/\
   (ys.map (·.length)).sum+ys.length*a.length<=16777216/\Q (.str (Txt.join a ys)) H) to te):=
 adA F.slot_str_join F.type_str_join ZH ho he hs Hg Hh
end
end L2
namespace L2
open PySem PySem.Spec PyProof.Rows
section
variable{X:Cx}
end
end L2
namespace Att
open PySem PySem.W PySem.Calls PyProof.Rows
theorem NM{l:OpenLaw}{n:Nat}{q:aJ}{loose:List Str}{XP:(Str->Option ao)->bz->Prop}{YP:aY->bz->Prop}{d:mP}
  (hn:l.most=some n)(hdf:d.params.defaults=[])
  (call:∀(w:aY) (s₀ s₁:au) (mg mb:Str->Option ao) (fa:ag) (o:Obj) (pm cd doc:ao) (a:ag) (vs:List ao) (ns:List Int),
   Ground q loose [] XP w s₀ mg mb s₁.heap->YP w s₁.heap->
   s₁.heap.get? fa=some o->o.data= .func (docDef d.name d.params d.body d.scope pm cd doc)->s₁.heap.CodeRec cd d.name->mg d.name=some (.ref fa)->
   s₁.heap.get? a=some { cls:=.type "list",data:=.seq vs.toArray }->jN vs ns->ns.length<=n->s₁.gens= #[]->
   fR (aS l.prog w) fC (.call (.ref fa) ⟨[.ref a],[]⟩) (λ r s'=>r= .ok (.ret (.bool true))/\OldK s₁.heap s'.heap/\s'.os=s₁.os/\gq s'.gens) s₁):
  WalkO q loose XP YP l.row.toRowW d [] (λ f vs=>jq f vs):=by
 intro w s₀ s₁ mg mb G Y fa o pm cd doc dV kV ho hd Lw hD hmg hg args vals as abS adB WC JK hlo
 obtain rfl:dV= .none:=Dflts.none hD hdf
 obtain rfl:kV= .none:=Dflts.noKw hD
 obtain⟨a,vs,ns,rfl,rfl,abT,hints,hlen⟩:=acR hn abS JK
 refine enter_call (dX (call w s₀ s₁ mg mb fa o pm cd doc a vs ns G Y ho (fd_plain hd) Lw hmg abT hints hlen hg) λ r s' hq=>?_)
 obtain⟨rfl,h2,h3,h4⟩:=hq
 exact⟨.inl ⟨.bool true,.bool true,[],rfl,λ _=>rfl,.bool true,acS l _,λ _=>⟨List.Pairwise.nil,λ _ hm=>(nomatch hm)⟩⟩,h2,h3,h4⟩
section
variable{prog:aJ}{w:aY}{A:bU}{E:ao->au->Prop}{s:au}{K:Frag}
end
end Att
namespace L2
open PySem PySem.Spec PyProof.Rows
theorem Kq:∀{vs:List ao} {ns:List Int},jN vs ns->Vals (ns.map V.int) vs
 |_,_,.nil=>.nil
 |_,_,.cons n t h=>.cons ⟨t,rfl⟩ (Kq h)
def abU(H:Hp):Prop:=∀b,H b=none\/∃o xs,H b=some (.JI o (.lst xs))
theorem WD{P:aJ}{w:aY}{K:ah}{mg mb:Str->Option ao}{CX:CV}{k:Nat}{fa a:ag}{fd:bK}{x:Str}{sp:Sp}{s₁:au}{vs:List ao}{ns:List Int}
  (KX:K.In s₁.heap)(SV:s₁.heap.Ns aO mg)(hb:s₁.heap.Ns jW mb)(hbb:∀x:Str,x≠"__name__"->mb x=fD x)(abV:s₁.heap.NoLimit)(hg:s₁.gens= #[])
  (ha:s₁.heap.get? a=some { cls:=.type "list",data:=.seq vs.toArray })(hi:jN vs ns)(hl:ns.length<=ay)(hr:qS k fC)
  (F:∀base:bz,K.In base->base.Ns aO mg->nQ P w K mg base CX k fa fd [x] sp)(WE:∀(s:au) (u:ao),iQ s fd ⟨[u],[]⟩ [(x,u)])
  (NB:∀H:Hp,abU H->nE K H a (ns.map V.int)->sp [.ref a] H (λ v _=>v= .bl true) λ _ _ _=>False)
  (ZI:∀H e s',CX [] H s₁ (λ _ _ _=>False) e s'->False):
  fR (aS P w) fC (.call (.ref fa) ⟨[.ref a],[]⟩) (λ r s'=>r= .ok (.ret (.bool true))/\OldK s₁.heap s'.heap/\s'.os=s₁.os/\gq s'.gens) s₁:=by
 have rv:=Kq hi
 have aeK:=hi.length
 have core:∀H:Hp,abU H->nE K H a (ns.map V.int)->zD P w H s₁.heap->(∀b,H b≠none->b=a)->(H a≠none->K.lookup a=none)->
   fR (aS P w) fC (.call (.ref fa) ⟨[.ref a],[]⟩) (λ r s'=>r= .ok (.ret (.bool true))/\OldK s₁.heap s'.heap/\s'.os=s₁.os/\gq s'.gens) s₁:=by
  intro H hO hS oX hA hK
  have C5:∀{b:ag} {o:Obj},s₁.heap.get? b=some o->H b=none->(CW s₁.heap H).get? b=some o:=λ e n=>Nr e n
  have noA:∀{b:ag} {o:Obj} {es:Array my} {ep:Nat},s₁.heap.get? b=some o->o.data= .dict es ep->H b=none:=λ{b o es ep} e d=>by
   cases q:H b with
   |none=>rfl
   |some u=>
    have e':b=a:=hA b (by rw[q];simp)
    subst e'
    rw[ha]at e;cases e
    have d':Data.seq vs.toArray _=Data.dict es ep:=d
    cases d'
  have ZJ:∀{b:ag} {m:Str->Option ao},s₁.heap.Ns b m->(CW s₁.heap H).Ns b m:=λ{b m} ⟨o,es,ep,e,d,r⟩=>⟨o,es,ep,C5 e (noA e d),d,r⟩
  have hKb:K.In (CW s₁.heap H):=λ b o e=>C5 (KX b o e) (by
   cases q:H b with
   |none=>rfl
   |some u=>
    have e':b=a:=hA b (by rw[q];simp)
    subst e'
    rw[hK (by rw[q];simp)]at e;cases e)
  have hM:Mod K mg (CW s₁.heap H):=⟨hKb,ZJ SV,⟨mb,ZJ hb,hbb⟩,let⟨mc,h1,h2⟩:=abV;⟨mc,ZJ h1,h2⟩⟩
  have e0:LD P w K mg (CW s₁.heap H) fC [] s₁ H:=⟨rfl,hM,λ b o e=>So e,gR (Ka _ _),trivial,λ b hb=>absurd (show b∈([]:List ag)from hb) (by simp),oX,.of_eq hg⟩
  refine dX ((F _ hKb (ZJ SV)).run fC [] s₁ H ⟨[.ref a],[]⟩ [.ref a] [.ref a] _ _ hr e0 (WE s₁ (.ref a)) (.cons rfl .nil) (NB H hO hS)) λ r s' h=>?_
  cases r with
  |error e=>exact(ZI H e s' h).elim
  |ok fl=>
   cases fl with
   |next=>exact False.elim h
   |brk=>exact False.elim h
   |cont=>exact False.elim h
   |ret u=>
    obtain⟨v,H',os,bare,un,ZK,r',q⟩:=h
    have q':v= .bl true:=q
    subst q'
    obtain rfl:u=Value.bool true:=r'
    refine⟨rfl,OldK.of_keep λ b o e=>?_,os,bare⟩
    cases q:H b with
    |none=>exact un.keep b o e q (by intro z;exact absurd (show b∈([]:List ag)from z) (by simp)) (by simp)
    |some u=>
     rcases hO b with z|⟨ob,xs,z⟩
     ·rw[q]at z;cases z
     ·have z2:=un.GB b ob _ z
      obtain⟨e1,_⟩:=oX b _ z
      obtain⟨e2,_⟩:=ZK b _ z2
      rw[e]at e1;cases e1
      exact e2
 cases hk:K.lookup a with
 |some o=>
  have e:=KX a o hk
  rw[ha]at e
  cases e
  refine core (λ _=>none) (λ _=>.inl rfl) (.inr ⟨_,vs.toArray,_,hk,rfl,rfl,rfl,by rw[aK,aeK];exact hl,by simpa using rv⟩) (λ b u z=>by have z':(none:Option HO)=some u:=z;cases z') (λ b z=>absurd rfl z) λ z=>absurd rfl z
 |none=>
  refine core (λ b=>if b=a then some (.JI { cls:=.type "list",data:=.seq vs.toArray } (.lst (ns.map V.int)))else none) (λ b=>?_) (.inl (.inr ⟨{ cls:=.type "list",data:=.seq vs.toArray },if_pos rfl⟩)) (λ b u z=>?_) (λ b z=>?_) λ _=>hk
  ·by_cases hb:b=a
   ·exact .inr ⟨_,_,if_pos hb⟩
   ·exact .inl (if_neg hb)
  ·by_cases hb:b=a
   ·have z':=(if_pos hb).symm.trans z
    cases z'
    subst hb
    exact⟨ha,by rw[aa];exact hl,vs,_,rv,ha⟩
   ·have z':=(if_neg hb).symm.trans z
    cases z'
  ·by_cases hb:b=a
   ·exact hb
   ·exact absurd (if_neg hb) z
end L2
namespace L2
open PySem PySem.Spec PyProof.Rows
abbrev KOf{K:ah}{h:bz}(_:K.In h):ah:=K
theorem ad_{l:PySem.W.OpenLaw}{n k:Nat}{q:aJ}{loose:List Str}{XP:(Str->Option ao)->bz->Prop}{YP:aY->bz->Prop}{d:mP}{K:iM->ah}{CX:aY->CV}{sp:aY->Sp}{x:Str}
  (hn:l.most=some n)(PJ:n<=ay)(hdf:d.params.defaults=[])(hr:qS k fC)
  (hY:∀(w:aY) (h:bz),YP w h->(K w.params).In h)
  (F:∀(w:aY) (mg:Str->Option ao) (fa:ag) (h:bz),(K w.params).In h->h.Ns aO mg->mg d.name=some (.ref fa)->
   ∃fd:bK,(∀(s:au) (u:ao),iQ s fd ⟨[u],[]⟩ [(x,u)])/\
    ∀base:bz,(K w.params).In base->base.Ns aO mg->nQ l.prog w (K w.params) mg base (CX w) k fa fd [x] (sp w))
  (NB:∀(w:aY) (H:Hp) (a:ag) (ns:List Int),ns.length<=n->abU H->nE (K w.params) H a (ns.map V.int)->sp w [.ref a] H (λ v _=>v= .bl true) λ _ _ _=>False)
  (ZI:∀(w:aY) (H:Hp) (s:au) (e:ao) (s':au),CX w [] H s (λ _ _ _=>False) e s'->False):
  PySem.W.WalkO q loose XP YP l.row.toRowW d [] (λ f vs=>jq f vs):=by
 refine Att.NM hn hdf λ w s₀ s₁ mg mb fa o pm cd doc a vs ns G Y ho hd Lw hmg abT hints hlen hg=>?_
 have KX:=hY w _ Y
 obtain⟨fd,hb,hF⟩:=F w mg fa _ KX G.T.g hmg
 exact WD KX G.T.g G.T.b G.T.builtins G.T.nolimit hg abT hints (aT hlen PJ) hr hF hb (λ H hO hS=>NB w H a ns hlen hO hS) λ H e s'=>ZI w H s₁ e s'
end L2
namespace L2
open PySem PySem.Spec PyProof.Rows
def inClass(s:bA)(j:Nat):bA:=match s with
 | .ClassDef _ _ _ body _ _ _ _ _ _ _=>body.getD j (.Pass ⟨0,0,0,0⟩)
 |_=>.Pass ⟨0,0,0,0⟩
def rD(s:bA):Arguments:=match s with
 | .FunctionDef _ a _ _ _ _ _ _ _ _=>a
 |_=>{ posonlyargs:=[],args:=[],vararg:=none,kwonlyargs:=[],kw_defaults:=[],kwarg:=none,defaults:=[] }
def qJ(s:bA):List bA:=match s with
 | .FunctionDef _ _ b _ _ _ _ _ _ _=>b
 |_=>[]
def m5(s:bA):eQ:=match s with
 | .FunctionDef _ _ _ _ _ _ sc _ _ _=>sc
 |_=>{ kind:=.function,names:=[],isGenerator:=false,isCoroutine:=false }
abbrev oG:CV:=λ _ _ _ _ _ _=>False
abbrev E0:XK:=λ _ _ _=>False
theorem nr{X:Cx}:Passes oG X E0:=λ _ _ _ _ _ _ _ h=>h.elim
structure pI(K:ah)(x qual:Str)(st:bA)(f:ag)(fd:bK):Prop where
 ex:∃(oc:ao) (od:Option ag) (kV doc pm:ao) (an:Option ag) (oW ct:ao) (Kl:Array (Option ao)),
  fd=cz x qual (rD st) (qJ st) (m5 st) .none kV doc pm an oW ct/\K.lookup f=some ⟨oc,od,.func fd,Kl⟩/\dW K oW qual=true
 kp:bY K (.ref f)=true
section
variable{P:aJ}{w:aY}{K:ah}{mg:Str->Option ao}{base:bz}
theorem pI.ok{x qual:Str}{st:bA}{f:ag}{fd:bK}{N ps:List Str}{k:Nat}{sp:Sp}(F:pI K x qual st f fd)(S:m9 N ps (m5 st))(len:∀vs H Q E,sp vs H Q E->vs.length=ps.length)
  (NA:∀(oW:ao) (A:bU) (outer:List Env) (s:au) (H:Hp) (vs:List V) (Q:VK) (E:XK),qS k (A.deeper (iN qual (m5 st) s.heap.objs.size f oW))->sp vs H Q E->
   ∃t,Lv (LG oG P w K mg base N qual (m5 st) f oW A outer s H E).nox (qJ st) t/\t { nx:=λ _ H'=>Q .qA H',rt:=Q } (start N vs) H):nQ P w K mg base oG (k+1) f fd ps sp:=by
 obtain⟨oc,od,kV,doc,pm,an,oW,ct,Kl,rfl,lk,Lw⟩:=F.ex
 refine aa0 lk Lw S len λ A outer s H vs Q E hr NB=>?_
 obtain⟨t,h,q⟩:=NA oW A outer s H vs Q E hr NB
 exact⟨t,h.nox,q⟩
theorem pI.binds{x qual:Str}{st:bA}{f:ag}{fd:bK}{ps:List Str}(F:pI K x qual st f fd)
  (h:∀(kV doc pm:ao) (an:Option ag) (oW ct:ao) (us:List ao),us.length=ps.length->iK (cz x qual (rD st) (qJ st) (m5 st) .none kV doc pm an oW ct) ⟨us,[]⟩=pure (ps.zip us)):Binds K fd ps []:=by
 obtain⟨oc,od,kV,doc,pm,an,oW,ct,Kl,rfl,lk,Lw⟩:=F.ex
 exact .all (h kV doc pm an oW ct)
theorem LQ{x qual:Str}{st:bA}{f:ag}{oc:ao}{od an:Option ag}{Kl:Array (Option ao)}{kV doc pm oW ct:ao}(l:K.lookup f=some ⟨oc,od,.func (cz x qual (rD st) (qJ st) (m5 st) .none kV doc pm an oW ct),Kl⟩)
  (c:dW K oW qual=true)(k:bY K (.ref f)=true):pI K x qual st f (cz x qual (rD st) (qJ st) (m5 st) .none kV doc pm an oW ct):=⟨⟨oc,od,kV,doc,pm,an,oW,ct,Kl,rfl,l,c⟩,k⟩
end
theorem SW{A:bU}{k:Nat}(hr:qS k A):A.units+1<jH:=bH (eu (by decide:1<=64) _) hr.units
section
variable{X:Cx}
theorem pv(i:Nat){x:Str}{pos:Pos}(hN:X.N[i]? =some x:=by rfl)(hv:Vis X.env.scope x:=by first|exact Or.inl rfl|exact Or.inr (Or.inl rfl)|exact Or.inr (Or.inr rfl))(hd:(x == ("__debug__":Str))=false:=by decide)
  (Lw:(x == ("__classdict__":Str))=false:=by decide):PE X (.Name x pos) (Zl i):=abk hN hv hd Lw
end
theorem rJ{A B:Prop}(h:B):if false=true then A else B:=by
 rw[if_neg a0]
 exact h
theorem tp{A B:Prop}(h:A):if true=true then A else B:=by
 rw[if_pos rfl]
 exact h
theorem p_{c A B:Prop}[Decidable c](h1:c->A)(h2:¬ c->B):if c then A else B:=by
 by_cases h:c
 ·rw[if_pos h]
  exact h1 h
 ·rw[if_neg h]
  exact h2 h
def m7(H H':Hp):Prop:=∀b o,H b=some o->H' b=some o
theorem m7.refl(H:Hp):m7 H H:=λ _ _ h=>h
theorem m7.trans{H H1 H2:Hp}(a:m7 H H1)(b:m7 H1 H2):m7 H H2:=λ c o h=>b c o (a c o h)
theorem m7.free{H H':Hp}(e:m7 H H'){l:ag}(h:H' l=iX):H l=iX:=by
 cases q:H l with
 |none=>rfl
 |some o=>
  rw[e l o q]at h
  cases h
theorem m7.seq{K:ah}{H H':Hp}{a:ag}{xs:List V}(e:m7 H H')(h:nE K H a xs):nE K H' a xs:=by
 rcases h with (h|⟨o,h⟩)|h
 ·exact .inl (.inl (e _ _ h))
 ·exact .inl (.inr ⟨o,e _ _ h⟩)
 ·exact .inr h
section
variable{κ:Type}[DecidableEq κ]
end
theorem at_of{xs:List V}{z:Int}{j:Nat}{v:V}(e:z=(j:Int))(h:xs[j]? =some v):Y1 xs z=some v:=by
 rw[e]
 exact ot h
theorem adC{α:Type}{l:List α}(hN:l.Nodup){i j:Nat}{x:α}(a:l[i]? =some x)(b:l[j]? =some x):i=j:=by
 obtain⟨h1,e1⟩:=List.getElem?_eq_some_iff.mp a
 obtain⟨h2,e2⟩:=List.getElem?_eq_some_iff.mp b
 exact(k_ hN).mp (e1.trans e2.symm)
theorem m7.made{H H1:Hp}{x dx C:ag}(nx:H x=iX)(nd:H dx=iX)(k:∀b o,(upd (upd H dx (.own x)) x (.ins C dx [])) b=some o->b≠x->H1 b=some o):m7 H H1:=λ b o e=>
 k b o (by rw[m4 (nG e nx),m4 (nG e nd)];exact e) (nG e nx)
end L2
section
set_option maxHeartbeats 2000000
namespace L2
open PySem PySem.Spec PyProof.Rows
open PySem.W (WData Codec OpenSpec Well WellAll ReadsW ReadsAllW)
mutual
inductive Dw (K:ah) (H:Hp):V->WData->Prop
 |qA:Dw K H .qA .none
 |bl (b:Bool):Dw K H (.bl b) (.bool b)
 |int (i:Int):Dw K H (.int i) (.int i)
 |str (x:Str):Dw K H (.str x) (.str x)
 |Lq (b:Array UInt8):Dw K H (.Lq b) (.bytes b.toList)
 |lst {a:ag} {xs:List V} {ds:List WData}:nE K H a xs->zx K H xs ds->Dw K H (.ref a) (.list ds)
 |tup {a:ag} {xs:List V} {ds:List WData}:Bi K H a xs->zx K H xs ds->Dw K H (.ref a) (.tuple ds)
inductive zx (K:ah) (H:Hp):List V->List WData->Prop
 |nil:zx K H [] []
 |cons {v:V} {vs:List V} {d:WData} {ds:List WData}:Dw K H v d->zx K H vs ds->zx K H (v::vs) (d::ds)
end
theorem SX{K:ah}{H:Hp}:∀ns:List Int,zx K H (ns.map V.int) (ns.map WData.int)
 |[]=>.nil
 |n::r=>.cons (.int n) (SX r)
theorem SY{K:ah}{H:Hp}:∀(ns:List Int) (xs:List V),zx K H xs (ns.map WData.int)->xs=ns.map V.int
 |[],xs,h=>by
  cases h
  rfl
 |n::r,xs,h=>by
  cases h with
  |cons h1 h2=>
   cases h1
   rw[SY r _ h2] <;> rfl
section
variable{P:aJ}{w:aY}{K:ah}{H:Hp}{h:bz}{R:kg}{cl:Str->Option ag}
theorem abW{a:ag}{xs:List V}(oX:zD P w H h)(KX:K.In h)(q:nE K H a xs):∃(om:List ao) (o:Obj) (n:Nat),Vals xs om/\h.get? a=some o/\o.cls= .type "list"/\o.data= .seq om.toArray n:=by
 rcases q with q|⟨o,om,n,e,hc,_,hd,_,hv⟩
 ·obtain⟨_,om,n,hv,e⟩:=(show pP P w H h a (.lst xs)from q.ok oX)
  exact⟨om,_,n,hv,e,rfl,rfl⟩
 ·exact⟨om.toList,o,n,hv,KX _ _ e,hc,by simp[hd]⟩
theorem abX{a:ag}{xs:List V}(oX:zD P w H h)(KX:K.In h)(q:Bi K H a xs):∃(om:List ao) (o:Obj) (n:Nat),Vals xs om/\h.get? a=some o/\o.cls= .type "tuple"/\o.data= .seq om.toArray n:=by
 rcases q with q|⟨o,om,n,e,hc,hd,_,hv⟩
 ·obtain⟨_,om,hv,o,e,hc,n,hd⟩:=(show pP P w H h a (.tup xs)from q.ok oX)
  exact⟨om,o,n,hv,e,hc,hd⟩
 ·exact⟨om.toList,o,n,hv,KX _ _ e,hc,by simp[hd]⟩
mutual
theorem Dw.reads(oX:zD P w H h)(KX:K.In h):∀(d:WData) (v:V) (u:ao),Dw K H v d->RelV v u->∃as,ReadsW R cl h u d as
 | .none,_,_,x,r=>by
  cases x
  cases r
  exact⟨_,ReadsW.none⟩
 | .bool b,_,_,x,r=>by
  cases x
  cases r
  exact⟨_,ReadsW.bool b⟩
 | .int i,_,_,x,r=>by
  cases x
  obtain⟨t,rfl⟩:=r
  exact⟨_,ReadsW.int i t⟩
 | .str s,_,_,x,r=>by
  cases x
  obtain⟨t,rfl⟩:=r
  exact⟨_,ReadsW.str s t⟩
 | .bytes b,_,_,x,r=>by
  cases x
  obtain⟨t,rfl⟩:=r
  exact⟨_,ReadsW.bytes _ t⟩
 | .list ds,_,_,x,r=>by
  cases x with
  |lst hs ha=>
   cases r
   obtain⟨om,o,n,rv,ho,hc,hd⟩:=abW oX KX hs
   obtain⟨as,hr⟩:=Dw.readsAll oX KX ds _ om ha rv
   exact⟨_,ReadsW.list ho hc hd hr⟩
 | .tuple ds,_,_,x,r=>by
  cases x with
  |tup hs ha=>
   cases r
   obtain⟨om,o,n,rv,ho,hc,hd⟩:=abX oX KX hs
   obtain⟨as,hr⟩:=Dw.readsAll oX KX ds _ om ha rv
   exact⟨_,ReadsW.tuple ho hc hd hr⟩
 | .float _,_,_,x,_=>by cases x
 | .dict _,_,_,x,_=>by cases x
 | .bytearray _,_,_,x,_=>by cases x
 | .set _,_,_,x,_=>by cases x
 | .frozenset _,_,_,x,_=>by cases x
 | .obj _ _,_,_,x,_=>by cases x
theorem Dw.readsAll(oX:zD P w H h)(KX:K.In h):∀(ds:List WData) (vs:List V) (us:List ao),zx K H vs ds->Vals vs us->∃as,ReadsAllW R cl h us ds as
 |[],_,_,x,r=>by
  cases x
  cases r
  exact⟨_,ReadsAllW.nil⟩
 |d::ds,_,_,x,r=>by
  cases x with
  |cons h1 h2=>
   cases r with
   |cons r1 r2=>
    obtain⟨as,q1⟩:=Dw.reads oX KX d _ _ h1 r1
    obtain⟨bs,q2⟩:=Dw.readsAll oX KX ds _ _ h2 r2
    exact⟨_,ReadsAllW.cons q1 q2⟩
end
end
mutual
def S9:WData->Bool
 | .none=>true
 | .bool _=>true
 | .int _=>true
 | .str _=>true
 | .bytes _=>true
 | .list xs=>GF xs
 | .tuple xs=>GF xs
 |_=>false
def GF:List WData->Bool
 |[]=>true
 |x::r=>S9 x && GF r
end
theorem NN{α:Type}{f:α->WData}(h:∀a,S9 (f a)=true):∀l:List α,GF (l.map f)=true
 |[]=>rfl
 |x::r=>by
  show(S9 (f x) && GF (r.map f))=true
  rw[h x,NN h r] <;> rfl
theorem zO:∀(c:Codec) (a:c.denote),S9 (c.enc a)=true
 | .unit,_=>rfl
 | .bool,_=>rfl
 | .int _ _,_=>rfl
 | .nat _ _,_=>rfl
 | .u8,_=>rfl
 | .bytes _ _,_=>rfl
 | .text _ _ _ _,_=>rfl
 | .list _ _ c,a=>NN (λ x=>zO c x) a
 | .pair c d,a=>by
  show(S9 (c.enc a.1) && (S9 (d.enc a.2) && true))=true
  rw[zO c a.1,zO d a.2] <;> rfl
 | .triple c d e,a=>by
  show(S9 (c.enc a.1) && (S9 (d.enc a.2.1) && (S9 (e.enc a.2.2) && true)))=true
  rw[zO c a.1,zO d a.2.1,zO e a.2.2] <;> rfl
 | .option c,none=>rfl
 | .option c,some x=>zO c x
theorem Kr:∀(cs:List Codec) (a:Codec.denoteAll cs),GF (Codec.encAll cs a)=true
 |[],_=>rfl
 |c::cs,a=>by
  show(S9 (c.enc a.1) && GF (Codec.encAll cs a.2))=true
  rw[zO c a.1,Kr cs a.2] <;> rfl
theorem BI:∀{xs:List WData} {d:WData},d∈xs->d.weight<=WData.weightAll xs
 |[],d,h=>absurd h (by simp)
 |x::r,d,h=>by
  show d.weight<=x.weight+1+WData.weightAll r
  rcases List.mem_cons.mp h with e|m
  ·rw[e]
   omega
  ·have z:=BI m
   omega
def toV:ao->V
 | .none=>.qA
 | .bool b=>.bl b
 | .int i _=>.int i
 | .str x _=>.str x
 | .bytes b _=>.Lq b
 | .ref a=>.ref a
 |_=>.qA
def Ux(A:List ag):ao->Prop
 | .none=>True
 | .bool _=>True
 | .int _ _=>True
 | .str _ _=>True
 | .bytes _ _=>True
 | .ref a=>a∈A
 |_=>False
theorem Ux.mono{A B:List ag}(h:∀a∈A,a∈B):∀{u:ao},Ux A u->Ux B u:=λ{u} x=>by
 cases u with
 |ref a=>exact h a x
 |none=>trivial
 |bool b=>trivial
 |int i t=>trivial
 |str s t=>trivial
 |bytes b t=>trivial
 |_=>exact False.elim x
theorem WG{A:List ag}{u:ao}(x:Ux A u):RelV (toV u) u:=by
 cases u with
 |ref a=>rfl
 |none=>rfl
 |bool b=>rfl
 |int i t=>exact⟨t,rfl⟩
 |str s t=>exact⟨t,rfl⟩
 |bytes b t=>exact⟨t,rfl⟩
 |_=>exact False.elim x
theorem xF{A:List ag}:∀{vs:List ao},(∀u∈vs,Ux A u)->Vals (vs.map toV) vs
 |[],_=>.nil
 |u::r,h=>.cons (WG (h u (bT ..))) (xF λ x hx=>h x (aQ _ hx))
def zy(h:bz)(A:List ag)(a:ag):Prop:=∃vs:List ao,vs.length<=ay/\(∀u∈vs,Ux A u)/\
 (h.get? a=some { cls:=.type "list",data:=.seq vs.toArray }\/h.get? a=some { cls:=.type "tuple",data:=.seq vs.toArray })
theorem zy.mono{h:bz}{A B:List ag}{a:ag}(k:∀a∈A,a∈B)(x:zy h A a):zy h B a:=by
 obtain⟨vs,h1,h2,h3⟩:=x
 exact⟨vs,h1,λ u hu=>(h2 u hu).mono k,h3⟩
theorem wq{P:iM}{h:bz}:∀{vs:List ao} {ds:List WData},WellAll P h vs ds->vs.length=ds.length
 |_,_,.nil=>rfl
 |_,_,.cons _ b=>by
  show _+1=_+1
  rw[wq b]
theorem Ks{P:iM}{h:bz}{v:ao}{ds:List WData}(x:Well P h v (.list ds)):∃(a:ag) (vs:List ao),v= .ref a/\h.get? a=some { cls:=.type "list",data:=.seq vs.toArray }/\WellAll P h vs ds:=by
 cases x with
 |list ho Ep=>exact⟨_,_,rfl,ho,Ep⟩
theorem Hj{P:iM}{h:bz}{v:ao}{ds:List WData}(x:Well P h v (.tuple ds)):∃(a:ag) (vs:List ao),v= .ref a/\h.get? a=some { cls:=.type "tuple",data:=.seq vs.toArray }/\WellAll P h vs ds:=by
 cases x with
 |tuple ho Ep=>exact⟨_,_,rfl,ho,Ep⟩
theorem Kt{P:iM}{h:bz}{us:List ao}{d:WData}{ds:List WData}(x:WellAll P h us (d::ds)):∃(v:ao) (vs:List ao),us=v::vs/\Well P h v d/\WellAll P h vs ds:=by
 cases x with
 |cons a b=>exact⟨_,_,rfl,a,b⟩
theorem S_{n:Nat}(h:n<=1048576):n<=ay:=aT h (by decide)
section
variable{P:iM}{h:bz}
mutual
theorem WH:∀(d:WData) (v:ao),Well P h v d->S9 d=true->d.weight<=1048576->∃A:List ag,Ux A v/\∀a∈A,zy h A a
 | .none,_,x,_,_=>by
  cases x
  exact⟨[],trivial,λ a m=>absurd m (by simp)⟩
 | .bool b,_,x,_,_=>by
  cases x
  exact⟨[],trivial,λ a m=>absurd m (by simp)⟩
 | .int i,_,x,_,_=>by
  cases x
  exact⟨[],trivial,λ a m=>absurd m (by simp)⟩
 | .str s,_,x,_,_=>by
  cases x
  exact⟨[],trivial,λ a m=>absurd m (by simp)⟩
 | .bytes b,_,x,_,_=>by
  cases x
  exact⟨[],trivial,λ a m=>absurd m (by simp)⟩
 | .list ds,_,x,p,z=>by
  obtain⟨a,vs,rfl,ho,Ep⟩:=Ks x
  have z2:WData.weightAll ds<=1048576:=z
  obtain⟨A,h1,h2⟩:=C6 ds _ Ep p λ d hd=>aT (BI hd) z2
  have k:∀b∈A,b∈a::A:=λ b hb=>aQ _ hb
  refine⟨a::A,bT ..,λ b hb=>?_⟩
  rcases List.mem_cons.mp hb with e|m
  ·rw[e]
   exact⟨vs,S_ (by rw[wq Ep];exact aT (iW ds) z2),λ u hu=>(h1 u hu).mono k,.inl ho⟩
  ·exact(h2 b m).mono k
 | .tuple ds,_,x,p,z=>by
  obtain⟨a,vs,rfl,ho,Ep⟩:=Hj x
  have z2:WData.weightAll ds<=1048576:=z
  obtain⟨A,h1,h2⟩:=C6 ds _ Ep p λ d hd=>aT (BI hd) z2
  have k:∀b∈A,b∈a::A:=λ b hb=>aQ _ hb
  refine⟨a::A,bT ..,λ b hb=>?_⟩
  rcases List.mem_cons.mp hb with e|m
  ·rw[e]
   exact⟨vs,S_ (by rw[wq Ep];exact aT (iW ds) z2),λ u hu=>(h1 u hu).mono k,.inr ho⟩
  ·exact(h2 b m).mono k
 | .float _,_,_,p,_=>cf (show false=true from p)
 | .dict _,_,_,p,_=>cf (show false=true from p)
 | .bytearray _,_,_,p,_=>cf (show false=true from p)
 | .set _,_,_,p,_=>cf (show false=true from p)
 | .frozenset _,_,_,p,_=>cf (show false=true from p)
 | .obj _ _,_,_,p,_=>cf (show false=true from p)
theorem C6:∀(ds:List WData) (vs:List ao),WellAll P h vs ds->GF ds=true->(∀d∈ds,d.weight<=1048576)->∃A:List ag,(∀u∈vs,Ux A u)/\∀a∈A,zy h A a
 |[],_,x,_,_=>by
  cases x
  exact⟨[],λ u m=>absurd m (by simp),λ a m=>absurd m (by simp)⟩
 |d::ds,_,x,p,z=>by
  obtain⟨v,vs,rfl,x1,x2⟩:=Kt x
  have q:S9 d=true/\GF ds=true:=Bool.and_eq_true_iff.mp p
  obtain⟨A,a1,a2⟩:=WH d v x1 q.1 (z d (bT ..))
  obtain⟨B,b1,b2⟩:=C6 ds vs x2 q.2 λ e he=>z e (aQ _ he)
  have kA:∀b∈A,b∈A++B:=λ b hb=>List.mem_append.mpr (.inl hb)
  have kB:∀b∈B,b∈A++B:=λ b hb=>List.mem_append.mpr (.inr hb)
  refine⟨A++B,λ u hu=>?_,λ b hb=>?_⟩
  ·rcases List.mem_cons.mp hu with e|m
   ·rw[e]
    exact a1.mono kA
   ·exact(b1 u m).mono kB
  ·rcases List.mem_append.mp hb with m|m
   ·exact(a2 b m).mono kA
   ·exact(b2 b m).mono kB
end
end
def ZL(o:Obj):Option HO:=match o.data with
 | .seq vs _=>if(o.cls == Value.type "list")=true then some (.JI o (.lst (vs.toList.map toV)))else some (.JI o (.tup (vs.toList.map toV)))
 |_=>none
def xU(K:ah)(h:bz)(A:List ag):Hp:=λ b=>if b∈A then(if(K.lookup b).isNone=true then(h.get? b).bind ZL else none)else none
def NO(H:Hp):Prop:=∀b,H b=none\/∃o u,H b=some (.JI o u)
theorem NP(vs:List ao):ZL { cls:=.type "list",data:=.seq vs.toArray }=some (.JI { cls:=.type "list",data:=.seq vs.toArray } (.lst (vs.map toV))):=by
 show(if(Value.type "list" == Value.type "list")=true then some (HO.JI { cls:=.type "list",data:=.seq vs.toArray } (.lst (vs.toArray.toList.map toV)))else some (HO.JI { cls:=.type "list",data:=.seq vs.toArray } (.tup (vs.toArray.toList.map toV))))=_
 rw[if_pos (beq_self_eq_true _)]
theorem NQ(vs:List ao):ZL { cls:=.type "tuple",data:=.seq vs.toArray }=some (.JI { cls:=.type "tuple",data:=.seq vs.toArray } (.tup (vs.map toV))):=by
 show(if(Value.type "tuple" == Value.type "list")=true then some (HO.JI { cls:=.type "tuple",data:=.seq vs.toArray } (.lst (vs.toArray.toList.map toV)))else some (HO.JI { cls:=.type "tuple",data:=.seq vs.toArray } (.tup (vs.toArray.toList.map toV))))=_
 rw[if_neg (by decide)]
section
variable{P:aJ}{w:aY}{K:ah}{h:bz}{A:List ag}
theorem GS{b:ag}{o:Obj}(hb:b∈A)(hk:K.lookup b=none)(e:h.get? b=some o):xU K h A b=ZL o:=by
 unfold xU
 rw[if_pos hb,hk,if_pos (show(none:Option Obj).isNone=true from rfl),e] <;> rfl
theorem ZM{b:ag}{u:HO}(q:xU K h A b=some u):b∈A/\K.lookup b=none:=by
 unfold xU at q
 by_cases hb:b∈A
 ·rw[if_pos hb]at q
  cases hk:K.lookup b with
  |none=>exact⟨hb,rfl⟩
  |some o=>
   rw[hk,if_neg (by simp)]at q
   cases q
 ·rw[if_neg hb]at q
  cases q
theorem GU(ar:∀a∈A,zy h A a){b:ag}{u:HO}(q:xU K h A b=some u):K.lookup b=none/\∃vs:List ao,vs.length<=ay/\(∀u∈vs,Ux A u)/\
  ((h.get? b=some { cls:=.type "list",data:=.seq vs.toArray }/\u= .JI { cls:=.type "list",data:=.seq vs.toArray } (.lst (vs.map toV)))\/
   (h.get? b=some { cls:=.type "tuple",data:=.seq vs.toArray }/\u= .JI { cls:=.type "tuple",data:=.seq vs.toArray } (.tup (vs.map toV)))):=by
 obtain⟨hb,hk⟩:=ZM q
 obtain⟨vs,h1,h2,h3⟩:=ar b hb
 refine⟨hk,vs,h1,h2,?_⟩
 rcases h3 with e|e
 ·rw[GS hb hk e,NP]at q
  exact .inl ⟨e,(Option.some.inj q).symm⟩
 ·rw[GS hb hk e,NQ]at q
  exact .inr ⟨e,(Option.some.inj q).symm⟩
theorem Uy(ar:∀a∈A,zy h A a):NO (xU K h A):=λ b=>by
 cases q:xU K h A b with
 |none=>exact .inl rfl
 |some u=>
  obtain⟨_,vs,_,_,⟨_,e⟩|⟨_,e⟩⟩:=GU ar q
  ·exact .inr ⟨_,_,by rw[e]⟩
  ·exact .inr ⟨_,_,by rw[e]⟩
theorem ZN(ar:∀a∈A,zy h A a):zD P w (xU K h A) h:=λ b u q=>by
 obtain⟨_,vs,h1,h2,⟨e,rfl⟩|⟨e,rfl⟩⟩:=GU ar q
 ·exact⟨e,by rw[aa];exact h1,vs,_,xF h2,e⟩
 ·exact⟨e,by rw[aa];exact h1,vs,xF h2,_,e,rfl,_,rfl⟩
theorem GV{c c':ao}{vs us:List ao}(e:(some { cls:=c,data:=.seq vs.toArray }:Option Obj)=some { cls:=c',data:=.seq us.toArray }):c=c'/\vs=us:=by
 have e1:=Option.some.inj e
 have e2:c=c':=congrArg Obj.cls e1
 have e3:Data.seq vs.toArray=Data.seq us.toArray:=congrArg Obj.data e1
 injection e3 with e4
 refine⟨e2,?_⟩
 have e5:=congrArg Array.toList e4
 simpa using e5
theorem aeL(KX:K.In h)(ar:∀a∈A,zy h A a){a:ag}{vs:List ao}(ha:a∈A)(e:h.get? a=some { cls:=.type "list",data:=.seq vs.toArray }):(∀u∈vs,Ux A u)/\nE K (xU K h A) a (vs.map toV):=by
 obtain⟨us,h1,h2,h3⟩:=ar a ha
 have hu:us=vs:=by
  rcases h3 with q|q
  ·rw[e]at q
   exact(GV q).2.symm
  ·rw[e]at q
   exact absurd (Value.type.inj (GV q).1) (by decide)
 subst hu
 refine⟨h2,?_⟩
 cases hk:K.lookup a with
 |none=>exact .inl (.inr ⟨_,by rw[GS ha hk e,NP]⟩)
 |some o=>
  have e2:=KX a o hk
  rw[e]at e2
  obtain rfl:=Option.some.inj e2
  exact .inr ⟨_,us.toArray,_,hk,rfl,rfl,rfl,by rw[aK];exact h1,by simpa using xF h2⟩
theorem aeM(KX:K.In h)(ar:∀a∈A,zy h A a){a:ag}{vs:List ao}(ha:a∈A)(e:h.get? a=some { cls:=.type "tuple",data:=.seq vs.toArray }):(∀u∈vs,Ux A u)/\Bi K (xU K h A) a (vs.map toV):=by
 obtain⟨us,h1,h2,h3⟩:=ar a ha
 have hu:us=vs:=by
  rcases h3 with q|q
  ·rw[e]at q
   exact absurd (Value.type.inj (GV q).1) (by decide)
  ·rw[e]at q
   exact(GV q).2.symm
 subst hu
 refine⟨h2,?_⟩
 cases hk:K.lookup a with
 |none=>exact .inl (.inr ⟨_,by rw[GS ha hk e,NQ]⟩)
 |some o=>
  have e2:=KX a o hk
  rw[e]at e2
  obtain rfl:=Option.some.inj e2
  exact .inr ⟨_,us.toArray,_,hk,rfl,rfl,by rw[aK];exact h1,by simpa using xF h2⟩
mutual
theorem abY{Pm:iM}(KX:K.In h)(ar:∀a∈A,zy h A a):∀(d:WData) (v:ao),Well Pm h v d->S9 d=true->Ux A v->Dw K (xU K h A) (toV v) d
 | .none,_,x,_,_=>by
  cases x
  exact .qA
 | .bool b,_,x,_,_=>by
  cases x
  exact .bl b
 | .int i,_,x,_,_=>by
  cases x
  exact .int i
 | .str s,_,x,_,_=>by
  cases x
  exact .str s
 | .bytes b,_,x,_,_=>by
  cases x
  have z:=Dw.Lq (K:=K) (H:=xU K h A) b.toArray
  exact z
 | .list ds,_,x,p,hu=>by
  obtain⟨a,vs,rfl,ho,Ep⟩:=Ks x
  obtain⟨h2,hs⟩:=aeL KX ar hu ho
  exact .lst hs (LR KX ar ds _ Ep p h2)
 | .tuple ds,_,x,p,hu=>by
  obtain⟨a,vs,rfl,ho,Ep⟩:=Hj x
  obtain⟨h2,hs⟩:=aeM KX ar hu ho
  exact .tup hs (LR KX ar ds _ Ep p h2)
 | .float _,_,_,p,_=>cf (show false=true from p)
 | .dict _,_,_,p,_=>cf (show false=true from p)
 | .bytearray _,_,_,p,_=>cf (show false=true from p)
 | .set _,_,_,p,_=>cf (show false=true from p)
 | .frozenset _,_,_,p,_=>cf (show false=true from p)
 | .obj _ _,_,_,p,_=>cf (show false=true from p)
theorem LR{Pm:iM}(KX:K.In h)(ar:∀a∈A,zy h A a):∀(ds:List WData) (vs:List ao),WellAll Pm h vs ds->GF ds=true->(∀u∈vs,Ux A u)->zx K (xU K h A) (vs.map toV) ds
 |[],_,x,_,_=>by
  cases x
  exact .nil
 |d::ds,_,x,p,hu=>by
  obtain⟨v,vs,rfl,x1,x2⟩:=Kt x
  have q:S9 d=true/\GF ds=true:=Bool.and_eq_true_iff.mp p
  exact .cons (abY KX ar d v x1 q.1 (hu _ (bT ..))) (LR KX ar ds vs x2 q.2 λ u m=>hu u (aQ _ m))
end
end
theorem Uz{P:aJ}{w:aY}{K:ah}{mg mb:Str->Option ao}{CX:CV}{k:Nat}{fa:ag}{fd:bK}{ps:List Str}{sp:Sp}{s₁:au}{vals:List ao}{ds:List WData}{R:kg}{cl:Str->Option ag}{d0:WData}
  (KX:K.In s₁.heap)(SV:s₁.heap.Ns aO mg)(hb:s₁.heap.Ns jW mb)(hbb:∀x:Str,x≠"__name__"->mb x=fD x)(abV:s₁.heap.NoLimit)(hg:s₁.gens= #[])
  (JK:WellAll w.params s₁.heap vals ds)(vm:GF ds=true)(hwt:∀d∈ds,d.weight<=1048576)(hr:qS k fC)
  (F:∀base:bz,K.In base->base.Ns aO mg->nQ P w K mg base CX k fa fd ps sp)(WE:∀(s:au) (us:List ao),us.length=ps.length->iQ s fd ⟨us,[]⟩ (ps.zip us))(hlen:ds.length=ps.length)
  (NB:∀(H:Hp) (xs:List V),NO H->zx K H xs ds->sp xs H (λ v H'=>Dw K H' v d0) λ _ _ _=>False)
  (ZI:∀H e s',CX [] H s₁ (λ _ _ _=>False) e s'->False):
  fR (aS P w) fC (.call (.ref fa) ⟨vals,[]⟩) (λ r s'=>∃u as,r= .ok (.ret u)/\ReadsW R cl s'.heap u d0 as/\OldK s₁.heap s'.heap/\s'.os=s₁.os/\gq s'.gens) s₁:=by
 obtain⟨A,ho,ar⟩:=C6 ds vals JK vm hwt
 have hO:NO (xU K s₁.heap A):=Uy ar
 have oX:zD P w (xU K s₁.heap A) s₁.heap:=ZN ar
 have hS:=LR KX ar ds vals JK vm ho
 have hV:=xF ho
 have hK:∀b u,xU K s₁.heap A b=some u->K.lookup b=none:=λ b u q=>(GU ar q).1
 have noA:∀{b:ag} {o:Obj} {es:Array my} {ep:Nat},s₁.heap.get? b=some o->o.data= .dict es ep->xU K s₁.heap A b=none:=λ{b o es ep} e d=>by
  cases q:xU K s₁.heap A b with
  |none=>rfl
  |some u=>
   obtain⟨_,vs,_,_,⟨e2,_⟩|⟨e2,_⟩⟩:=GU ar q
   ·rw[e2]at e
    cases e
    have d':Data.seq vs.toArray _=Data.dict es ep:=d
    cases d'
   ·rw[e2]at e
    cases e
    have d':Data.seq vs.toArray _=Data.dict es ep:=d
    cases d'
 generalize xU K s₁.heap A=H at hO oX hS hK noA
 have C5:∀{b:ag} {o:Obj},s₁.heap.get? b=some o->H b=none->(CW s₁.heap H).get? b=some o:=λ e n=>Nr e n
 have ZJ:∀{b:ag} {m:Str->Option ao},s₁.heap.Ns b m->(CW s₁.heap H).Ns b m:=λ{b m} ⟨o,es,ep,e,d,r⟩=>⟨o,es,ep,C5 e (noA e d),d,r⟩
 have nK:∀b o,K.lookup b=some o->H b=none:=λ b o e=>by
  cases q:H b with
  |none=>rfl
  |some u=>
   rw[hK b u q]at e
   cases e
 have hKb:K.In (CW s₁.heap H):=λ b o e=>C5 (KX b o e) (nK b o e)
 have hM:Mod K mg (CW s₁.heap H):=⟨hKb,ZJ SV,⟨mb,ZJ hb,hbb⟩,let⟨mc,h1,h2⟩:=abV;⟨mc,ZJ h1,h2⟩⟩
 have e0:LD P w K mg (CW s₁.heap H) fC [] s₁ H:=⟨rfl,hM,λ b o e=>So e,gR (Ka _ _),trivial,λ b hb=>absurd (show b∈([]:List ag)from hb) (by simp),oX,.of_eq hg⟩
 have hl:vals.length=ps.length:=by rw[wq JK];exact hlen
 refine dX ((F _ hKb (ZJ SV)).run fC [] s₁ H ⟨vals,[]⟩ vals (vals.map toV) _ _ hr e0 (WE s₁ vals hl) hV (NB H _ hO hS)) λ r s' x=>?_
 cases r with
 |error e=>exact(ZI H e s' x).elim
 |ok fl=>
  cases fl with
  |next=>exact False.elim x
  |brk=>exact False.elim x
  |cont=>exact False.elim x
  |ret u=>
   obtain⟨v,H',os,bare,un,ZK,r',q⟩:=x
   have kept:∀b o,s₁.heap.get? b=some o->s'.heap.get? b=some o:=λ b o e=>by
    cases q2:H b with
    |none=>exact un.keep b o e q2 (by intro z;exact absurd (show b∈([]:List ag)from z) (by simp)) (by simp)
    |some u2=>
     rcases hO b with z|⟨ob,u3,z⟩
     ·rw[q2]at z
      cases z
     ·have z2:=un.GB b ob _ z
      obtain⟨e1,_⟩:=oX b _ z
      obtain⟨e2,_⟩:=ZK b _ z2
      rw[e]at e1
      cases e1
      exact e2
   have KX':K.In s'.heap:=λ b o e=>kept b o (KX b o e)
   obtain⟨as,WC⟩:=Dw.reads (R:=R) (cl:=cl) ZK KX' d0 v u q r'
   exact⟨u,as,rfl,WC,OldK.of_keep kept,os,bare⟩
theorem Hk{ds:List WData}(h:WData.layableAll ds=true):∀d∈ds,d.weight<=1048576:=λ d hd=>
 (PySem.W.layableW_iff.mp (List.all_eq_true.mp h d hd)).2.2
theorem Hl:∀(cs:List Codec) (a:Codec.denoteAll cs),(Codec.encAll cs a).length=cs.length
 |[],_=>rfl
 |c::cs,a=>by
  show(Codec.encAll cs a.2).length+1=cs.length+1
  rw[Hl cs a.2]
theorem UA{r:OpenSpec}{k:Nat}{q:aJ}{loose:List Str}{XP:(Str->Option ao)->bz->Prop}{YP:aY->bz->Prop}{d:mP}{K:iM->ah}{CX:aY->CV}{ps:List Str}{sp:aY->Sp}
  (WJ:r.wellSaid=true)(hdf:d.params.defaults=[])(hlen:r.args.length=ps.length)(hr:qS k fC)
  (hY:∀(w:aY) (h:bz),YP w h->(K w.params).In h)
  (F:∀(w:aY) (mg:Str->Option ao) (fa:ag) (h:bz),YP w h->(K w.params).In h->h.Ns aO mg->mg d.name=some (.ref fa)->
   ∃fd:bK,(∀(s:au) (us:List ao),us.length=ps.length->iQ s fd ⟨us,[]⟩ (ps.zip us))/\
    ∀base:bz,(K w.params).In base->base.Ns aO mg->nQ r.prog w (K w.params) mg base (CX w) k fa fd ps (sp w))
  (NB:∀(w:aY) (H:Hp) (xs:List V) (a:Codec.denoteAll r.args),NO H->Codec.withinAll r.args a=true->Codec.app r.args r.asked a=true->zx (K w.params) H xs (Codec.encAll r.args a)->
   sp w xs H (λ v H'=>Dw (K w.params) H' v (r.ret.enc (Codec.app r.args r.f a))) λ _ _ _=>False)
  (ZI:∀(w:aY) (H:Hp) (s:au) (e:ao) (s':au),CX w [] H s (λ _ _ _=>False) e s'->False):
  kK q loose XP YP r d [] (λ f vs=>jq f vs):=by
 intro w JP s₁ mg mb G Y fa o pm cd doc dV kV ho hd Lw hD hmg hg args vals as abS adB WC JK hlo
 obtain⟨a,e1,e2⟩:=PySem.W.os_pre_some abS
 obtain⟨e3,hwi⟩:=Codec.encAll_of_decAll r.args args a e1
 subst e3
 have KX:=hY w _ Y
 obtain⟨fd,hb,hF⟩:=F w mg fa _ Y KX G.T.g hmg
 refine PySem.W.enter_call (dX (Uz (R:=[]) (cl:=classAt JP.heap) (d0:=r.ret.enc (Codec.app r.args r.f a)) KX G.T.g G.T.b G.T.builtins G.T.nolimit hg JK (Kr _ _) (Hk adB) hr hF hb (by rw[Hl];exact hlen)
  (λ H xs hO hS=>NB w H xs a hO hwi e2 hS) λ H e s'=>ZI w H s₁ e s') λ r' s' hq=>?_)
 obtain⟨u,Ed,rfl,h1,h2,h3,h4⟩:=hq
 exact⟨.inl ⟨u,_,Ed,rfl,λ _=>rfl,h1,(OpenSpec.post_iff WJ hwi _ _).mpr rfl,λ z=>cf (show false=true from z)⟩,h2,h3,h4⟩
theorem Qq{r:OpenSpec}{k:Nat}{q:aJ}{loose:List Str}{XP:(Str->Option ao)->bz->Prop}{YP:aY->bz->Prop}{d:mP}{K:iM->ah}{CX:CV}{ps:List Str}{sp:ah->Sp}
  (WJ:r.wellSaid=true)(hdf:d.params.defaults=[])(hlen:r.args.length=ps.length)(hr:qS k fC)
  (hY:∀(w:aY) (h:bz),YP w h->(K w.params).In h)
  (F:∀(w:aY) (mg:Str->Option ao) (fa:ag) (h:bz),YP w h->(K w.params).In h->h.Ns aO mg->mg d.name=some (.ref fa)->
   ∃fd:bK,(∀(s:au) (us:List ao),us.length=ps.length->iQ s fd ⟨us,[]⟩ (ps.zip us))/\
    ∀base:bz,(K w.params).In base->base.Ns aO mg->nQ r.prog w (K w.params) mg base CX k fa fd ps (sp (K w.params)))
  (NB:∀(K:ah) (H:Hp) (xs:List V) (a:Codec.denoteAll r.args),NO H->Codec.withinAll r.args a=true->Codec.app r.args r.asked a=true->zx K H xs (Codec.encAll r.args a)->
   sp K xs H (λ v H'=>Dw K H' v (r.ret.enc (Codec.app r.args r.f a))) λ _ _ _=>False)
  (ZI:∀(H:Hp) (s:au) (e:ao) (s':au),CX [] H s (λ _ _ _=>False) e s'->False):
  kK q loose XP YP r d [] (λ f vs=>jq f vs):=
 UA (K:=K) (CX:=λ _=>CX) (sp:=λ w=>sp (K w.params)) WJ hdf hlen hr hY F (λ w H xs a h1 h2 h3 h4=>NB (K w.params) H xs a h1 h2 h3 h4) λ _ H s e s'=>ZI H s e s'
end L2
end
section
namespace L2
open PySem PySem.Spec PyProof.Rows
structure tH(K:ah)(C:ag):Prop where
 cd:∃cd,jk K C=some cd/\cd.mro=[.ref C,.type "Exception",.type "BaseException",.type "object"]/\cd.hasDict=true
 sa:bw K (.ref C) "__setattr__"=some (some (.builtin "object.__setattr__"))
 ga:bw K (.ref C) "__getattribute__"=some (some (.builtin "BaseException.__getattribute__"))
theorem Qr(self:ao)(C:ag):refuseLoop self "__setattr__" [.ref C,.type "Exception",.type "BaseException",.type "object"]=pure ():=by
 rw[refuseLoop_ref]
 kernel_rfl
section
variable{prog:aJ}{w:aY}{A:bU}{E:ao->au->Prop}{s:au}{K:ah}{x C:ag}{ox:Obj}{od:Option Obj}{name:Str}{v:ao}
open PySem.W in
theorem Ta{R:lU->au->Prop}{tk:Tok}(X:K.In s.heap)(I:kL s.heap x ox C od)(EC:tH K C)(hn:oC K C name)
  (h:∀b,aV (aS prog w) A.in1 (Builtin.ObjectAttr.storeInOwnDict (.ref x) (.ref C) (.str name tk) name v b)
   (λ fin s'=>match fin with | .done f=>R (.ok f) s'| .again c'=>c'.quiet=true/\fR (aS prog w) A c' R s') (λ e s'=>R (.error e) s') s):
  fR (aS prog w) A (.call (.builtin "object.__setattr__") ⟨[.ref x,.str name tk,v],[]⟩) R s:=by
 have SF:=PySem.F.store_object
 obtain⟨cd,hc,LS,hd⟩:=EC.cd
 have sub:Looks (aS prog w) s.heap (lT (.ref x) (.type "object")) true:=I.type.andThen (looks_mroIn X (by unfold mroIn;rw[hc,dE,LS];rfl))
 refine iJ SF.slot.plain SF.entry (@check_slot (aS prog w) _ _ s "object.__setattr__" "object" "__setattr__" (.ref x) [.str name tk,v] [] _ SF.kind SF.split sub (SF.args (.ref x) (.str name tk) v) ?_)
 have hm:Looks (aS prog w) s.heap (mroOf (.ref C)) cd.mro:=(looks_clsIn X hc).andThen .now
 rw[osa_eq,refuse_eq]
 refine aq (aq (I.type.here (aq (hm.here ?_))))
 rw[LS,Qr]
 refine aM (aq (I.type.here (aq ((looks_findIn X hn).here (aq (Looks.now.here ?_))))))
 exact h _
open PySem.W in
theorem WK{vs:Array ao}{Q:Unit->au->Prop}(X:K.In s.heap)(hx:s.heap.get? x=some ⟨.ref C,none,.fields vs,#[]⟩)(EC:tH K C)(hn:oC K C name)
  (h:∀h',h'.get? x=some ⟨.ref C,some s.heap.objs.size,.fields vs,#[]⟩->h'.Ns1 s.heap.objs.size (λ y=>if y=name then some v else none)->(∀b o,b≠x->s.heap.get? b=some o->h'.get? b=some o)->Q () { s with heap:=h',toks:=s.toks+2 }):
  aV (aS prog w) A (mh (.ref x) name v) Q E s:=by
 have I:InstAt s.heap x ⟨.ref C,none,.fields vs,#[]⟩ C none:=⟨hx,rfl,rfl,True.intro⟩
 refine set_plain X I EC.sa (Ta (s:={ s with toks:=s.toks+1 }) X I EC hn λ b=>?_)
 obtain⟨cd,hc,LS,VV⟩:=EC.cd
 refine aq (aM (aq (aq (jT hx (aq (PySem.W.Looks.here (s:={ s with toks:=s.toks+1 }) (g_ X hc) ?_))))))
 rw[VV]
 have e1:(s.heap.push emptyDict).get? s.heap.objs.size=some emptyDict:=Heap.get?_push_size s.heap rfl
 have hx1:=Heap.get?_push_of_some (h:=s.heap) emptyDict hx
 have rN:=Heap.lt_size hx
 have C7:=Heap.get?_update_self (λ o=>{ o with dict:=some s.heap.objs.size }) hx1 rfl
 have e2:((s.heap.push emptyDict).update x λ o=>{ o with dict:=some s.heap.objs.size }).get? s.heap.objs.size=some emptyDict:=by
  rw[Heap.get?_update_other _ _ (bL rN)];exact e1
 have e3:((s.heap.push emptyDict).update x λ o=>{ o with dict:=some s.heap.objs.size }).Ns s.heap.objs.size (λ _=>none):=⟨emptyDict,#[],_,e2,rfl,(λ e he=>absurd he (by simp)),λ _=>rfl⟩
 refine aq (wpAny_alloc (aq (wpAny_update hx1 (aM (aq (aM (aq ?_)))))))
 refine kO (s:={ s with heap:=(s.heap.push emptyDict).update x λ o=>{ o with dict:=some s.heap.objs.size },toks:=s.toks+1 }) (Heap.Ns1.of_empty e3) λ h' PJ Uk=>?_
 have wi:eU (λ _:Str=>(none:Option ao)) []:=λ y hy=>absurd rfl hy
 obtain⟨oD,esD,epD,hoD,hdD,hcD⟩:=PJ.count (PySem.Within.cons name v wi)
 refine aq (jw hoD (by rw[hdD];exact jy (aT hcD (by simp[aA]))) ?_)
 refine aM (h _ ((Uk.2 _ (bL rN)).trans C7) PJ λ b o hb e=>?_)
 rw[Uk.2 b (bL (Heap.lt_size e))]
 show((s.heap.push emptyDict).update x _).get? b=_
 rw[Heap.get?_update_other _ _ (Ne.symm hb)]
 exact Heap.get?_push_of_some _ e
open PySem.W in
theorem WL{vs:Array ao}{dx:ag}{mA:Str->Option ao}{ns:List Str}{Q:Unit->au->Prop}(X:K.In s.heap)(hx:s.heap.get? x=some ⟨.ref C,some dx,.fields vs,#[]⟩)(xD:dx≠x)(SV:s.heap.Ns1 dx mA)(EC:tH K C)(hn:oC K C name)
  (hw:eU mA ns)(hsz:ns.length<=100)
  (h:∀h',h'.get? x=some ⟨.ref C,some dx,.fields vs,#[]⟩->h'.Ns1 dx (λ y=>if y=name then some v else mA y)->(∀b o,b≠dx->s.heap.get? b=some o->h'.get? b=some o)->Q () { s with heap:=h',toks:=s.toks+2 }):
  aV (aS prog w) A (mh (.ref x) name v) Q E s:=by
 obtain⟨od,hod⟩:∃od,s.heap.get? dx=some od:=let⟨o,_,_,e,_⟩:=SV;⟨o,e⟩
 have I:InstAt s.heap x ⟨.ref C,some dx,.fields vs,#[]⟩ C (some od):=⟨hx,rfl,rfl,hod⟩
 refine set_plain X I EC.sa (Ta (s:={ s with toks:=s.toks+1 }) X I EC hn λ b=>?_)
 obtain⟨cd,hc,LS,VV⟩:=EC.cd
 refine aq (aM (aq (aq (jT hx (aq (PySem.W.Looks.here (s:={ s with toks:=s.toks+1 }) (g_ X hc) ?_))))))
 rw[VV]
 refine aM (a:=some dx) (aq (aM (aq ?_)))
 refine kO (s:={ s with toks:=s.toks+1 }) SV λ h' PJ Uk=>?_
 obtain⟨oD,esD,epD,hoD,hdD,hcD⟩:=PJ.count (PySem.Within.cons name v hw)
 refine aq (jw hoD (by rw[hdD];exact jy (aT hcD (by rw[aD,aA];omega))) ?_)
 exact aM (h _ ((Uk.2 _ (Ne.symm xD)).trans hx) PJ λ b o hb e=>(Uk.2 b hb).trans e)
end
end L2
namespace L2
open PySem PySem.Spec PyProof.Rows
theorem LU:builtinKind "BaseException.__getattribute__"=some .slot:=by decide +kernel
theorem JT:splitId "BaseException.__getattribute__"=some ("BaseException","__getattribute__"):=by decide +kernel
section
variable{prog:aJ}{w:aY}{A:bU}{E:ao->au->Prop}{s:au}{K:ah}{x C:ag}{ox:Obj}{od:Option Obj}{name:Str}{v:ao}
open PySem.W in
theorem ZO{expr:Bool}{Q:ao->au->Prop}(X:K.In s.heap)(I:InstAt s.heap x ox C od)(EC:tH K C)(hk:findIn K (.ref C) "__getattr__"=some none)
  (hf:findObj K C od name=some (.value v))(hh:handedIn v=true)(h:Q v { s with toks:=s.toks+1 }):aV (aS prog w) A (kR (.ref x) name expr) Q E s:=by
 obtain⟨hh',g,d,t,os⟩:=s
 have L0:=I.type (M:=aS prog w)
 have L1:=looks_findIn (M:=aS prog w) X EC.ga
 have L2:=looks_findIn (M:=aS prog w) X hk
 have L3:=looks_find (M:=aS prog w) X I hf
 obtain⟨cd,hc,LS,hd⟩:=EC.cd
 have sub:Looks (aS prog w) hh' (lT (.ref x) (.type "BaseException")) true:=I.type.andThen (looks_mroIn X (by unfold mroIn;rw[hc,dE,LS];rfl))
 unfold kR getAttrBy
 refine aq (wpAny_mkText (fQ (aq (L0.at (aq (L1.at ?_))))))
 have C7:(Value.builtin "BaseException.__getattribute__" == Value.builtin "object.__getattribute__")=false:=by decide +kernel
 dsimp only
 rw[C7,lK,if_neg (by decide)]
 unfold getAttrByItsOwn
 refine aq (L2.at ?_)
 refine aq (kh (fQ ?_))
 unfold callGetattribute
 have hx0:(expr && onTheHeap (Value.builtin "BaseException.__getattribute__"))=false:=by cases expr <;> rfl
 rw[hx0,if_neg (by decide)]
 unfold boundAndCalled
 have FX:Slot "BaseException" "__getattribute__" "BaseException.__getattribute__":=.of (owner:="BaseException") (n:="__getattribute__") (by rw[typeLookup_type,builtinLookup_eq_fast];kernel_rfl) (by decide +kernel) (by decide +kernel) (by decide +kernel)
  (by first|exact .inl (by decide +kernel)|exact .inr (by decide +kernel)) (by rw[isSubtype_type];kernel_rfl)
 rw[FX.bind]
 refine aq (aM (jc ?_))
 refine iJ FX.plain PySem.F.entry_bexc_ga (@check_slot (aS prog w) _ _ _ "BaseException.__getattribute__" "BaseException" "__getattribute__" (.ref x) [.str name t] [] _ LU JT sub (PySem.F.args_bexc_ga _ _) ?_)
 unfold jf.«object.__getattribute__»
 refine aq (aM (aq (aM (aq (L0.at (aq (L3.at ?_)))))))
 refine aM ?_
 show aV _ _ (handedOut v) _ _ _
 rw[handedOut_of hh];exact aM h
end
end L2
namespace L2
open PySem PySem.Spec PyProof.Rows
def aa2(C:ag)(dx:Option ag)(tv:ao)(o:Obj):Prop:=∃vs:Array ao,o=⟨.ref C,dx,.fields vs,#[]⟩/\vs[1]? =some tv
def Fi(C e:ag)(dx:Option ag)(tv:ao):HO:=.ext λ h=>∃o,h.get? e=some o/\aa2 C dx tv o
def ZP(T:ag)(fl:ao):HO:=.ext λ h=>∃o ts,h.get? T=some o/\o.data= .fields ts/\ts[3]? =some fl
theorem rY{P:aJ}{w:aY}{H:Hp}{h:bz}{C e:ag}{dx:Option ag}{tv:ao}:pP P w H h e (Fi C e dx tv)↔ ∃o,h.get? e=some o/\aa2 C dx tv o:=by
 constructor
 ·intro z
  exact z.1
 ·intro z
  obtain⟨o,e1,f⟩:=z
  exact⟨⟨o,e1,f⟩,⟨o,e1⟩,λ h1 h2 ⟨o',e2,f'⟩ k=>⟨o',k o' e2,f'⟩⟩
theorem Hm{P:aJ}{w:aY}{H:Hp}{h:bz}{T:ag}{fl:ao}:pP P w H h T (ZP T fl)↔ ∃o ts,h.get? T=some o/\o.data= .fields ts/\ts[3]? =some fl:=by
 constructor
 ·intro z
  exact z.1
 ·intro z
  obtain⟨o,ts,e1,f⟩:=z
  exact⟨⟨o,ts,e1,f⟩,⟨o,e1⟩,λ h1 h2 ⟨o',ts',e2,f'⟩ k=>⟨o',ts',k o' e2,f'⟩⟩
def NE(H H':Hp):Prop:=∀b o,H b=some o->(∀φ,o≠ .ext φ)->H' b=some o
theorem NE.refl(H:Hp):NE H H:=λ _ _ e _=>e
theorem NE.trans{H H1 H2:Hp}(a:NE H H1)(b:NE H1 H2):NE H H2:=λ c o e n=>b c o (a c o e n) n
theorem NE.upd{H:Hp}{a:ag}{o:HO}(h:H a=none\/∃φ,H a=some (.ext φ)):NE H (upd H a o):=λ b u e n=>by
 rw[m4]
 ·exact e
 ·rintro rfl
  rcases h with q|⟨φ,q⟩
  ·rw[q]at e;cases e
  ·rw[q]at e;cases e;exact n φ rfl
def Tb(C L:ag)(H:Hp)(e:ag)(dx:Option ag):Prop:=
 H e=some (Fi C e dx .none)\/∃T fl,H e=some (Fi C e dx (.ref T))/\T≠e/\H T=some (ZP T fl)/\(fl= .none\/fl=dM L)
def C8(C:ag)(fl:ao)(H:Hp)(e:ag)(dx:Option ag):Prop:=
 ∃T,H e=some (Fi C e dx (.ref T))/\T≠e/\H T=some (ZP T fl)
section
variable{X:Cx}{pins:List (ag×Obj)}{σ:St}{H:Hp}{s:au}
theorem Inv.slots{h':bz}(I:Inv X pins σ H s)(x:Heap.SlotsOnly (PU X.stack) s.heap h'):Inv X pins σ H { s with heap:=h' }:=by
 refine I.call (g':=s.gens) (t':=s.toks) (d':=s.drawn) (ch:=[]) ⟨λ b o e n hb _=>(x.2.1 b hb).trans e,λ b o e n hb _=>x.2.2 b o e,λ b o e n _=>n,λ b o e _=>let⟨sl,q⟩:=x.2.2 b o e;⟨_,q⟩,
  λ _ _ q=>q,λ _ _ _ q=>q,λ _ ps q=>⟨#[],by rw[q];simp⟩⟩ ?_ I.bare (λ b z=>absurd z (by simp))
 intro a o e
 refine(I.oX a o e).Ef (λ b u hb q=>?_) (λ _ q=>q) λ _ _ q=>q
 have hn:∀c u,H c=some u->c∉PU X.stack:=λ c u q z=>by rw[I.Lr c z]at q;cases q
 rcases hb with rfl|hb
 ·exact(x.2.1 b (hn b o e)).trans q
 ·exact(x.2.1 b (hn b _ hb)).trans q
theorem UB{C e T:ag}{dx:Option ag}{fl:ao}{fr:Option ag}{Q:Unit->au->Prop}{A:bU}{E:ao->au->Prop}{M:jI}(I:Inv X pins σ H s)(he:H e=some (Fi C e dx (.ref T)))(ht:H T=some (ZP T fl))(xD:T≠e)
  (h:∀s',Inv X pins σ (upd H T (ZP T (fr.elim .none λ f=>dM f))) s'->Q () s'):aV M A (kx (.ref e) fr) Q E s:=by
 obtain⟨o,e1,vs,rfl,v1⟩:=rY.mp (I.oX e _ he)
 obtain⟨oT,ts,e2,d2,v2⟩:=Hm.mp (I.oX T _ ht)
 unfold kx
 refine aq (cN e1 rfl v1 ?_)
 rw[if_pos (show(Value.ref T != Value.none)=true from by simp)]
 have hsz:3<ts.size:=(Array.getElem?_eq_some_iff.mp v2).1
 refine iI e2 d2 hsz (h _ ?_)
 have d3:=Obj.data_mapFields d2 (·.setIfInBounds 3 (fr.elim Value.none λ f=>dM f))
 have e3:=Heap.get?_update_self (Obj.mapFields (·.setIfInBounds 3 (fr.elim Value.none λ f=>dM f))) e2 (Obj.isFreed_of_fields d3)
 refine I.write (x:=T) (e:=T) (t':=s.toks) (by rw[ht];exact True.intro) (.inl rfl) (λ b u hb q=>?_) ⟨_,e3⟩ (Hm.mpr ⟨_,_,e3,d3,by simp[hsz]⟩)
 rw[Heap.get?_update_other _ _ (Ne.symm hb)]
 exact q
theorem LV{C e:ag}{dx:Option ag}{Q:Unit->au->Prop}{E:ao->au->Prop}{M:jI}(I:Inv X pins σ H s)(LA:X.stack=X.env::X.outer)(JJ:X.env.frame=some X.env.locals)(fl:Tb C X.env.locals H e dx)
  (h:∀s' H',Inv X pins σ H' s'->C8 C (dM X.env.locals) H' e dx->NE H H'->Q () s'):aV M X.A (mv (.ref e) X.env) Q E s:=by
 have entry:∀(head:ao) (b:Bool) (tv:ao) (H:Hp) (s:au),Inv X pins σ H s->H e=some (Fi C e dx tv)->(∀s' H',Inv X pins σ H' s'->C8 C (dM X.env.locals) H' e dx->NE H H'->Q () s')->
   aV M X.A (do setField (.ref e) 1 (<-EntryCells.newEntry head (<-frameOf X.env) .none (dM X.env.locals) .none (<-entryPlaceOf X.env.locals b))) Q E s:=by
  intro head b tv H s I he h
  have hF:s.heap.FunFrames X.base (X.env::X.outer):=by have q:=I.stack;rw[LA]at q;exact q
  refine aq (wpAny_frameOf_fun (by rw[I.ok.frames,LA]) hF JJ λ h1 hs1=>?_)
  have I1:=I.slots (h':=h1) (by rw[LA];exact hs1)
  refine aq (wpAny_entryPlaceOf λ pl vm=>?_)
  unfold EntryCells.newEntry newFields
  refine aq (jl ?_ (vm.sizeOk5 _ _ _ _ _))
  obtain⟨o,e1,vs,rfl,v1⟩:=rY.mp (I1.oX e _ he)
  have e1:h1.get? e=some ⟨.ref C,dx,.fields vs,#[]⟩:=e1
  have I2:=I1.laid (a:=h1.objs.size) (o:=ZP h1.objs.size (dM X.env.locals)) (t':=s.toks) (h':=h1.push { cls:=.type "traceback",dict:=none,data:=.fields ([head,.ref X.env.locals,.none,dM X.env.locals,.none]++(if pl.isEmpty then cG 6 Value.none else pl)).toArray })
   (λ b u q=>Heap.get?_push_of_some _ q) (ax _) (Hm.mpr ⟨_,_,Heap.get?_push_size _ rfl,rfl,by simp⟩)
  have ne:h1.objs.size≠e:=fZ (Heap.lt_size e1)
  have e2:=Heap.get?_push_of_some (h:=h1) { cls:=.type "traceback",dict:=none,data:=.fields ([head,.ref X.env.locals,.none,dM X.env.locals,.none]++(if pl.isEmpty then cG 6 Value.none else pl)).toArray } e1
  have hsz:1<vs.size:=(Array.getElem?_eq_some_iff.mp v1).1
  refine iI e2 rfl hsz ?_
  have e3:=Heap.get?_update_self (Obj.mapFields (·.setIfInBounds 1 (Value.ref h1.objs.size))) e2 rfl
  have he2:upd H h1.objs.size (ZP h1.objs.size (dM X.env.locals)) e=some (Fi C e dx tv):=by rw[m4 (Ne.symm ne)];exact he
  refine h _ (upd (upd H h1.objs.size (ZP h1.objs.size (dM X.env.locals))) e (Fi C e dx (.ref h1.objs.size)))
   (I2.write (x:=e) (e:=e) (t':=s.toks) (by rw[he2];exact True.intro) (.inl rfl) (λ b u hb q=>?_) ⟨_,e3⟩ (rY.mpr ⟨_,e3,_,rfl,by simp[hsz]⟩))
   ⟨_,mZ,ne,by rw[m4 ne,mZ]⟩ ((NE.upd (.inl (I1.oX.fresh (ax _)))).trans (NE.upd (.inr ⟨_,he2⟩)))
  rw[Heap.get?_update_other _ _ (Ne.symm hb)]
  exact q
 unfold mv
 simp only[JJ]
 rcases fl with he|⟨T,fl,he,xD,ht,hfl⟩
 ·obtain⟨o,e1,vs,rfl,v1⟩:=rY.mp (I.oX e _ he)
  refine aq (cN e1 rfl v1 ?_)
  rw[if_neg (by decide)]
  exact entry _ _ _ H s I he h
 ·obtain⟨o,e1,vs,rfl,v1⟩:=rY.mp (I.oX e _ he)
  obtain⟨oT,ts,e2,d2,v2⟩:=Hm.mp (I.oX T _ ht)
  refine aq (cN e1 rfl v1 ?_)
  rw[if_pos (show(Value.ref T != Value.none)=true from by simp)]
  refine aq (cN e2 d2 v2 ?_)
  rcases hfl with rfl|rfl
  ·rw[if_neg (show ¬ ((Value.none == dM X.env.locals)=true)from by simp[dM])]
   have hsz:3<ts.size:=(Array.getElem?_eq_some_iff.mp v2).1
   refine aq (iI e2 d2 hsz ?_)
   have d3:=Obj.data_mapFields d2 (·.setIfInBounds 3 Value.none)
   have e3:=Heap.get?_update_self (Obj.mapFields (·.setIfInBounds 3 Value.none)) e2 (Obj.isFreed_of_fields d3)
   have I2:=I.write (x:=T) (e:=T) (o:=ZP T .none) (t':=s.toks) (h':=s.heap.update T (Obj.mapFields (·.setIfInBounds 3 Value.none))) (by rw[ht];exact True.intro) (.inl rfl) (λ b u hb q=>by rw[Heap.get?_update_other _ _ (Ne.symm hb)];exact q) ⟨_,e3⟩ (Hm.mpr ⟨_,_,e3,d3,by simp[hsz]⟩)
   exact entry _ _ _ _ _ I2 (by rw[m4 (Ne.symm xD)];exact he) λ s' H' I' n' k=>h s' H' I' n' ((NE.upd (.inr ⟨_,ht⟩)).trans k)
  ·rw[if_pos (show(dM X.env.locals == dM X.env.locals)=true from by first|(simp;done)|exact beq_self_eq_true _)]
   exact aM (h s H I ⟨T,he,xD,ht⟩ (NE.refl H))
end
end L2
namespace L2
open PySem PySem.Spec PyProof.Rows
def Calm(E:XK):Prop:=∀c d H H',NE H H'->E c d H->E c d H'
def BJ(P:aJ)(w:aY)(C:ag):CV:=λ outer H s E e s'=>
 ∃a dx H',e= .ref a/\s'.os=s.os/\gq s'.gens/\Un (PU outer) [] H H' s.heap s'.heap/\zD P w H' s'.heap/\C8 C .none H' a (some dx)/\E (.ref C) (some dx) H'
def XW(X:Cx)(C:ag)(E:XK):ao->au->Prop:=λ e s'=>
 ∃a dx σ H',e= .ref a/\Inv X [] σ H' s'/\Tb C X.env.locals H' a (some dx)/\E (.ref C) (some dx) H'
theorem C8.adD{C L:ag}{H:Hp}{e:ag}{dx:Option ag}(n:C8 C .none H e dx):Tb C L H e dx:=by
 obtain⟨T,h1,h2,h3⟩:=n
 exact .inr ⟨T,_,h1,h2,h3,.inl rfl⟩
theorem C8.here{C L:ag}{H:Hp}{e:ag}{dx:Option ag}(n:C8 C (dM L) H e dx):Tb C L H e dx:=by
 obtain⟨T,h1,h2,h3⟩:=n
 exact .inr ⟨T,_,h1,h2,h3,.inr rfl⟩
theorem Inv.WM{X:Cx}{pins:List (ag×Obj)}{σ:St}{H:Hp}{s:au}(I:Inv X pins σ H s):Inv X [] σ H s:=I.Lu λ p hp=>absurd hp (by simp)
section
variable{X:Cx}{pins:List (ag×Obj)}{σ:St}{H:Hp}{s:au}{C:ag}{E:XK}
theorem pk(hx:X.xe=XW X C E):Passes (BJ X.prog X.w C) X E:=by
 intro pins σ H s e s' I h
 obtain⟨a,dx,H',rfl,os,bare,un,oX,n,q⟩:=h
 rw[hx]
 exact⟨a,dx,σ,H',rfl,(I.aaW os un oX bare (λ b z=>absurd z (by simp))).WM,n.adD,q⟩
theorem uH{fl:ao}{fr:Option ag}{e:ag}{dx:Option ag}{Q:Unit->au->Prop}{A:bU}{E':ao->au->Prop}{M:jI}(I:Inv X pins σ H s)(n:C8 C fl H e dx)
  (h:∀s' H',Inv X pins σ H' s'->C8 C (fr.elim .none λ f=>dM f) H' e dx->NE H H'->Q () s'):aV M A (kx (.ref e) fr) Q E' s:=by
 obtain⟨T,h1,h2,h3⟩:=n
 exact UB I h1 h3 h2 λ s' I'=>h s' _ I' ⟨T,by rw[m4 (Ne.symm h2)];exact h1,h2,mZ⟩ (NE.upd (.inr ⟨_,h3⟩))
theorem Tc(LA:X.stack=X.env::X.outer)(JJ:X.env.frame=some X.env.locals)(hx:X.xe=XW X C E)(hE:Calm E):mx (aS X.prog X.w) X.A X.env X.xe:=by
 rw[hx]
 rintro e s' ⟨a,dx,σ,H',rfl,I,fl,q⟩
 refine LV I LA JJ fl λ s1 H1 I1 n1 k1=>?_
 obtain⟨T,h1,h2,h3⟩:=id n1
 obtain⟨o,e1,vs,rfl,v1⟩:=rY.mp (I1.oX a _ h1)
 unfold cameBackBy
 refine aq (cN e1 rfl v1 ?_)
 rw[if_neg (show ¬ ((Value.ref T == Value.none)=true)from by simp)]
 rw[JJ]
 refine uH I1 n1 λ s2 H2 I2 n2 k2=>⟨a,dx,σ,H2,rfl,I2,n2.here,hE _ _ _ _ (k1.trans k2) q⟩
end
theorem ZQ{P:aJ}{w:aY}{K:ah}{mg:Str->Option ao}{base:bz}{N:List Str}{qual:Str}{scope:eQ}{f C:ag}{cd:ao}{A:bU}{outer:List Env}{s:au}{H:Hp}{E:XK}(hE:Calm E)(e:ao)(s':au)
  (h:XW (LG (BJ P w C) P w K mg base N qual scope f cd A outer s H E) C E e s'):(LG (BJ P w C) P w K mg base N qual scope f cd A outer s H E).xe e s':=by
 obtain⟨a,dx,σ,H1,rfl,I,fl,q⟩:=h
 show aV _ _ (leaving _ _) _ _ _
 unfold leaving
 refine aq (LV I rfl rfl fl λ s1 H1 I1 n1 k1=>uH (fr:=none) I1 n1 λ s2 H2 I2 n2 k2=>?_)
 exact⟨a,dx,H2,rfl,I2.os,I2.bare,I2.base,I2.oX,n2,hE _ _ _ _ (k1.trans k2) q⟩
abbrev Cx.err(X:Cx)(C:ag)(E:XK):Cx:=X.xR (XW X C E)
theorem XW.xR{X:Cx}{C:ag}{E:XK}{E':ao->au->Prop}:XW (X.xR E') C E=XW X C E:=by
 funext e s'
 refine propext ⟨?_,?_⟩
 ·rintro⟨a,dx,σ,H',h1,I,h3⟩
  exact⟨a,dx,σ,H',h1,I.sF,h3⟩
 ·rintro⟨a,dx,σ,H',h1,I,h3⟩
  exact⟨a,dx,σ,H',h1,I.xR _,h3⟩
theorem Cx.oE(X:Cx)(C:ag)(E:XK):(X.err C E).xe=XW (X.err C E) C E:=XW.xR.symm
theorem Lv.toX{X:Cx}{E':ao->au->Prop}{st:List bA}{t:TS}(h:Lv (X.xR E') st t)(hE:∀e s,E' e s->X.xe e s):Lv X st t:=λ pins s σ H D I hw=>
 cQ (h pins s σ H D (I.xR _) hw) (λ _ _ q=>q.sF) hE
theorem pI.V8{P:aJ}{w:aY}{K:ah}{mg:Str->Option ao}{base:bz}{x qual:Str}{st:bA}{f C:ag}{fd:bK}{N ps:List Str}{k:Nat}{sp:Sp}(F:pI K x qual st f fd)(S:m9 N ps (m5 st))(len:∀vs H Q E,sp vs H Q E->vs.length=ps.length)
  (calm:∀vs H Q E,sp vs H Q E->Calm E)
  (NA:∀(oW:ao) (A:bU) (outer:List Env) (s:au) (H:Hp) (vs:List V) (Q:VK) (E:XK),qS k (A.deeper (iN qual (m5 st) s.heap.objs.size f oW))->sp vs H Q E->
   ∃t,Lv ((LG (BJ P w C) P w K mg base N qual (m5 st) f oW A outer s H E).err C E) (qJ st) t/\t { nx:=λ _ H'=>Q .qA H',rt:=Q } (start N vs) H):nQ P w K mg base (BJ P w C) (k+1) f fd ps sp:=by
 obtain⟨oc,od,kV,doc,pm,an,oW,ct,Kl,rfl,lk,Lw⟩:=F.ex
 refine aa0 lk Lw S len λ A outer s H vs Q E hr NB=>?_
 obtain⟨t,h,q⟩:=NA oW A outer s H vs Q E hr NB
 exact⟨t,h.toX λ e s' z=>ZQ (calm _ _ _ _ NB) e s' z,q⟩
end L2
namespace L2
open PySem PySem.Spec PyProof.Rows
abbrev WN:List ao:=[.type "Exception",.type "BaseException",.type "object"]
structure ZR(K:ah)(C f:ag):Prop where
 obj:∃nm q N bs LW sn sub ab col dd k0 k1 k2 k3 k5,K.lookup C=some (lu nm q C N bs WN LW sn sub ab col dd k0 k1 k2 k3 k5 "Exception.__new__")/\
  ∃oN es ep,K.lookup N=some oN/\oN.data= .dict es ep/\StrKeys es/\mL es "__init__"=some (.ref f)
 fn:∃oI,K.lookup f=some oI/\oI.cls= .type "function"
 kp:bY K (.ref C)=true
theorem pP.there{P:aJ}{w:aY}{H:Hp}{h:bz}{a:ag}{o:HO}(x:pP P w H h a o):∃u,h.get? a=some u:=by
 cases o with
 |lst xs=>obtain⟨_,_,_,_,e⟩:=x;exact⟨_,e⟩
 |tup xs=>obtain⟨_,_,_,o,e,_⟩:=x;exact⟨_,e⟩
 |dK oH=>obtain⟨_,_,_,_,o,_,_,e,_⟩:=x;exact⟨_,e⟩
 |dT oH=>obtain⟨_,_,_,_,o,_,_,e,_⟩:=x;exact⟨_,e⟩
 |set S n=>obtain⟨o,_,_,_,e,_⟩:=x;exact⟨_,e⟩
 |ins C dx fs=>obtain⟨_,_,_,e,_⟩:=x;exact⟨_,e⟩
 |own y=>exact x
 |xd fs=>obtain⟨_,⟨_,_,_,e,_⟩,_⟩:=x;exact⟨_,e⟩
 |rng lo hi=>obtain⟨_,_,_,e⟩:=x;exact⟨_,e⟩
 |JI ob u=>obtain⟨e,_⟩:=x;exact⟨_,e⟩
 |tbl ps=>exact⟨_,(show h.get? a=some _ from x)⟩
 |met f y=>exact⟨_,(show h.get? a=some _ from x)⟩
 |ext φ=>exact x.2.1
section
variable{X:Cx}{pins:List (ag×Obj)}{σ:St}{H:Hp}{s:au}
theorem Inv.gap(I:Inv X pins σ H s){a:ag}(h:s.heap.get? a=none):H a=none:=by
 cases q:H a with
 |none=>rfl
 |some o=>
  obtain⟨u,e⟩:=(I.oX a o q).there
  rw[h]at e;cases e
theorem Inv.adE{a:ag}{o:HO}{t':Nat}{h':bz}(I:Inv X pins σ H s)(k:∀b u,s.heap.get? b=some u->h'.get? b=some u)(hp:s.heap.get? a=none)(new:pP X.prog X.w (upd H a o) h' a o):
  Inv X pins σ (upd H a o) { s with heap:=h',toks:=t' }:=by
 have hn:=I.gap hp
 refine I.un ⟨λ b u q _ _ _=>k b u q,λ b u q _ _ _=>⟨u.slots,k b u q⟩,λ b u q n _=>?_,λ b u q _=>⟨u,k b u q⟩,λ b xs q=>by rw[m4 (nG q hn)];exact q,λ b u xs q=>by rw[m4 (nG q hn)];exact q,λ b ps q=>⟨#[],by rw[m4 (nG q hn),q];simp⟩⟩ ?_
 ·rw[m4 (by rintro rfl;rw[hp]at q;cases q)];exact n
 ·intro b u e
  by_cases hb:b=a
  ·subst hb;rw[mZ]at e;cases e;exact new
  ·rw[m4 hb]at e
   exact(I.oX b u e).Ef (λ c v _ q=>k c v q) (λ c q=>by rw[m4 (nG q hn)];exact q) λ c xs q=>by rw[m4 (nG q hn)];exact q
theorem UC{CX:CV}{k:Nat}{C f:ag}{fd:bK}{ps:List Str}{sp:Sp}{E:XK}{Q:VK}{us:List ao}{vs:List V}(M:ZR X.K C f)(F:nQ X.prog X.w X.K X.mg X.base CX k f fd ps sp)(hr:qS (k+1) X.A)(hb:Binds X.K fd ps [])
  (hx:Passes CX X E)(I:Inv X pins σ H s)(r:Vals vs us)(hlen:us.length<=ay)
  (h:∀e,H e=none->sp (.ref e::vs) (upd H e (Fi C e none .none)) (λ v H2=>v= .qA/\Q (.ref e) H2) E):
  aV (aS X.prog X.w) X.A (call (.ref C) us) (EP X pins σ Q) X.xe s:=by
 obtain⟨nm,q,N,bs,LW,sn,sub,ab,col,dd,k0,k1,k2,k3,k5,hC,oN,es,ep,hN,hNd,hNk,hNi⟩:=M.obj
 obtain⟨oI,hI,hIc⟩:=M.fn
 have KX:=I.Fe
 obtain⟨hh,g,d,t,os⟩:=s
 refine wpAny_call_exc_init (mN:=λ x=>mL es x) (F:=je) (KX _ _ hC) ⟨oN,es,ep,KX _ _ hN,hNd,hNk,λ _=>rfl⟩ hNi (KX _ _ hI) hIc (λ h' e hm=>?_) hlen
 obtain⟨ta,he,_,_⟩:=hm.there
 have I2:=I.adE (a:=e) (o:=Fi C e none .none) (t':=t) (h':=h') hm.keeps hm.new (rY.mpr ⟨_,he,_,rfl,rfl⟩)
 have hq:=h e (I.gap hm.new)
 have r2:Vals (V.ref e::vs) (Value.ref e::us):=.cons rfl r
 have hl:(Value.ref e::us++[]).length=ps.length:=by
  have z:=r2.length
  rw[F.len _ _ _ _ hq]at z
  rw[bD]
  exact z.symm
 refine jc (dX (F.run _ X.stack _ _ ⟨Value.ref e::us,[]⟩ (Value.ref e::us) _ _ E (hr.make C us []) (I2.abB.make C us []) (by have z:=hb ⟨h',g,d,t,os⟩ (Value.ref e::us) I2.Fe hl;rw[bD]at z;exact z) r2 hq) λ r s' SE=>?_)
 cases r with
 |error e=>exact hx pins σ _ _ e s' I2 SE
 |ok fl=>
  cases fl with
  |ret u=>
   obtain⟨v,H',I3,rv,ev,q3⟩:=I2.after SE
   subst ev
   exact⟨rv,⟨V.ref e,H',I3,rfl,q3⟩⟩
  |next=>exact False.elim SE
  |brk=>exact False.elim SE
  |cont=>exact False.elim SE
end
def abZ(C:ag)(sp:Sp)(E:XK)(t:TA):TE:=λ σ H Q=>t σ H λ vs H1=>vs.length<=1000/\∀e,H1 e=none->sp (.ref e::vs) (upd H1 e (Fi C e none .none)) (λ v H2=>v= .qA/\Q (.ref e) H2) E
theorem WO{X:Cx}{CX:CV}{k:Nat}{f C:ag}{fd:bK}{ps:List Str}{sp:Sp}{E:XK}{x:Str}{p pos:Pos}{e:bJ}{es:List bJ}{t:TA}(M:ZR X.K C f)(F:nQ X.prog X.w X.K X.mg X.base CX k f fd ps sp)(hr:qS (k+1) X.A)(hg:Gl X x)(hm:X.mg x=some (.ref C))(hb:Binds X.K fd ps [])(hx:Passes CX X E)
  (ha:PA X (e::es) t)(PK:(x == ("__debug__":Str))=false:=by decide)(he:aN (e::es) X.env=(false,cu e X.env)::aN es X.env:=by rfl)(vm:(c7 pos (aN es X.env)).any (·.1)=false:=by rfl):
  PE X (.Call (.Name x p) (e::es) [] pos) (abZ C sp E t):=by
 intro pins s σ H Q I h
 refine cZ (xQ I hg hm ?_ PK)
 refine dJ (h₀:=X.base) I.ok.mod.Zj M.kp (pM (ha pos pins s σ H _ I h) λ us s1 ⟨vs,H1,I1,r,z,q⟩=>⟨I1.Fe,?_⟩) he vm
 exact UC M F hr hb hx I1 r (by rw[gU,<-r.length];exact aT z (by decide)) q
def ab0(C:ag)(E:XK)(te:TE):TS:=λ D σ H=>te σ H λ v H1=>∃e dx,v= .ref e/\H1 e=some (Fi C e (some dx) .none)/\E (.ref C) (some dx) H1
theorem WQ{X:Cx}{C:ag}{E:XK}{te:TE}{x:bJ}{pos:Pos}(hc:X.calm=true)(hx:X.xe=XW X C E)(EC:tH X.K C)(hty:fM X.K (.ref C)=some (.type "type"))(he:PE X x te):PS X (.Raise (some x) none pos) (ab0 C E te):=by
 intro pins s σ H D I h
 rw[arm_exec_Raise]
 refine aq (gQ ?_)
 show aV _ _ (raiseStmt X.env (some (do let v <-cu x X.env;ir pos;pure v)) none) _ _ _
 unfold raiseStmt
 refine aq (aq (pM (he pins s σ H _ I h) λ v s1 ⟨vv,H1,I1,rv,q⟩=>aq (gQ (aM ?_))))
 obtain⟨e,dx,rfl,h1,q⟩:=q
 obtain rfl:v=Value.ref e:=rv
 obtain⟨o,e1,vs,rfl,v1⟩:=rY.mp (I1.oX e _ h1)
 obtain⟨cd,Lw,LS,_⟩:=EC.cd
 have KX:=I1.Fe
 have TY:h_ (aS X.prog X.w) s1.heap (lR (.ref e)) (.ref C):=(PySem.W.Looks.ld e1).andThen .now
 have IT:h_ (aS X.prog X.w) s1.heap (isType (.ref e)) false:=(PySem.W.Looks.ld e1).andThen .now
 have IB:h_ (aS X.prog X.w) s1.heap (lT (.ref e) (.type "BaseException")) true:=TY.andThen (PySem.W.looks_mroIn KX (by unfold PySem.W.mroIn;rw[Lw,dE,LS];rfl))
 have TC:h_ (aS X.prog X.w) s1.heap (lR (.ref C)) (.type "type"):=PySem.W.looks_typeIn KX hty
 refine aq (aM (aq (fQ ?_)))
 unfold excFromValue isExcClass
 refine aq (aq (IT.here (aM ?_)))
 rw[if_neg (by decide)]
 refine aq (IB.here ?_)
 rw[if_pos rfl]
 refine aM ?_
 refine aq (IT.here ?_)
 rw[if_neg (by decide)]
 unfold raisedInstance
 refine aq (aq (TY.here (aq (TC.here ?_))))
 rw[if_pos (show(Value.type "type" == Value.type "type")=true from by decide)]
 refine aM (aq ?_)
 unfold kx
 refine aq (cN e1 rfl v1 ?_)
 rw[if_neg (by decide)]
 refine aM (wpAny_raiseNew_none (I1.ok.hd hc) ?_)
 rw[hx]
 exact⟨e,dx,σ,H1,rfl,I1.WM,.inl h1,q⟩
end L2
namespace L2
open PySem PySem.Spec PyProof.Rows
def UD(C:ag)(t:TA):TE:=λ σ H Q=>t σ H λ vs H1=>∃e dx tv rest,vs= .ref e::rest/\rest.length<=1000/\H1 e=some (Fi C e dx tv)/\Q .qA H1
section
variable{X:Cx}{pins:List (ag×Obj)}{σ:St}{H:Hp}{s:au}
theorem UE{C e f:ag}{dx:Option ag}{tv:ao}{us:List ao}{Q:VK}(M:ZR X.K C f)(I:Inv X pins σ H s)(he:H e=some (Fi C e dx tv))(hl:us.length<=ay)(q:Q .qA H):
  aV (aS X.prog X.w) X.A (call (.builtin "Exception.__init__") (.ref e::us)) (EP X pins σ Q) X.xe s:=by
 obtain⟨nm,qn,N,bs,LW,sn,sub,ab,col,dd,k0,k1,k2,k3,k5,hC,_⟩:=M.obj
 obtain⟨o,e1,vs,rfl,v1⟩:=rY.mp (I.oX e _ he)
 have hC':=I.Fe _ _ hC
 have F:=je
 have hsz:0<vs.size:=iY Nat.zero_lt_one (Array.getElem?_eq_some_iff.mp v1).1
 have fin:∀h',(∀b o,b≠e->s.heap.get? b=some o->h'.get? b=some o)->h'.get? e=some ⟨.ref C,dx,.fields (vs.setIfInBounds 0 (.ref s.heap.objs.size)),#[]⟩->EP X pins σ Q .none { s with heap:=h' }:=by
  intro h' k e3
  refine⟨.qA,upd H e (Fi C e dx tv),I.write (x:=e) (e:=e) (t':=s.toks) (by rw[he];exact True.intro) (.inl rfl) (λ b u hb z=>k b u hb z) ⟨_,e3⟩ (rY.mpr ⟨_,e3,_,rfl,?_⟩),rfl,?_⟩
  ·rw[Array.getElem?_setIfInBounds_ne (by decide)];exact v1
  ·have z:upd H e (Fi C e dx tv)=H:=by
    funext b
    by_cases hb:b=e
    ·subst hb;rw[mZ,he]
    ·rw[m4 hb]
   rw[z];exact q
 obtain⟨hh,g,d,t,os⟩:=s
 refine jc (iJ F.init.plain F.initEntry (wpAny_check_init_sub F hC' e1 rfl ?_))
 unfold jf.«BaseException.__init__» Builtin.BaseException.bexcPut newTuple
 refine aq (jl ?_ hl)
 obtain⟨old,h0⟩:∃old,vs[0]? =some old:=⟨_,Array.getElem?_eq_getElem hsz⟩
 have e2:=Heap.get?_push_of_some (h:=hh) { cls:=.type "tuple",data:=.seq us.toArray } e1
 refine aq (aq (cN e2 rfl h0 (aq (iI e2 rfl hsz ?_))))
 have e3:=Heap.get?_update_self (Obj.mapFields (·.setIfInBounds 0 (Value.ref hh.objs.size))) e2 rfl
 have z:=fin ((hh.push { cls:=.type "tuple",data:=.seq us.toArray }).update e (Obj.mapFields (·.setIfInBounds 0 (Value.ref hh.objs.size)))) (λ b o hb q=>by rw[Heap.get?_update_other _ _ (Ne.symm hb)];exact Heap.get?_push_of_some _ q) e3
 cases old <;> first|exact aM (aM z)|exact jF (aM z)
theorem WR:lR (.type "Exception")=pure (.type "type"):=by kernel_rfl
theorem WS:Manifest.isStub "Exception"=false:=by decide +kernel
theorem JU(K:ah):PySem.W.findCls K (.type "Exception") (.type "type") "__init__"=some (.val (.builtin "Exception.__init__")):=by rfl
theorem NR{C f:ag}{e:bJ}{es:List bJ}{t:TA}{p0 apos pos:Pos}{pl:Sem Bool}(M:ZR X.K C f)(hg:Gl X "Exception")(hm:X.mg "Exception"=none)(ha:PA X (e::es) t)
  (he:aN (e::es) X.env=(false,cu e X.env)::aN es X.env:=by rfl)(vm:(c7 pos (aN es X.env)).any (·.1)=false:=by rfl)
  (ht:cu (.Call (.Attribute (.Name "Exception" p0) "__init__" apos) (e::es) [] pos) X.env=(do
   let ov <-cu (.Name "Exception" p0) X.env
   ir apos.atName
   let(f,first) <-gp [ov] (hX ov "__init__" pl)
   jo pos f first (c7 pos (aN (e::es) X.env)) (hZ pos (ff [] X.env))):=by rfl):
  PE X (.Call (.Attribute (.Name "Exception" p0) "__init__" apos) (e::es) [] pos) (UD C t):=by
 intro pins s σ H Q I h
 refine gJ (pl:=pl) (vg I hg hm (u:=.type "Exception") (by rfl) ?_) ht
 obtain⟨m,Fr⟩:=I.fr
 refine PySem.W.method_type Fr I.ok.mod.Zj WR WS (JU X.K) (by decide +kernel) ?_
 have I':=I.tok (s.toks+1)
 refine ia (pM (ha pos pins _ σ H _ I' h) λ us s1 ⟨vs,H1,I1,r1,e',dx,tv,rest,ev,hl,h1,q1⟩=>?_) he vm
 subst ev
 cases r1 with
 |cons r0 r2=>
  cases r0
  exact UE M I1 h1 (by rw[<-r2.length];exact aT hl (by decide)) q1
def DxO(dx:ag)(fs:List (Str×V)):HO:=.ext λ h=>∃mA,h.Ns1 dx mA/\(∀f,wO (fs.lookup f) (mA f))/\eU mA (fs.map (·.1))
theorem WT{P:aJ}{w:aY}{H:Hp}{h:bz}{dx:ag}{fs:List (Str×V)}:pP P w H h dx (DxO dx fs)↔ ∃mA,h.Ns1 dx mA/\(∀f,wO (fs.lookup f) (mA f))/\eU mA (fs.map (·.1)):=by
 constructor
 ·intro z
  exact z.1
 ·intro z
  obtain⟨mA,n,r,w'⟩:=z
  obtain⟨o,es,ep,e,c⟩:=id n
  exact⟨⟨mA,n,r,w'⟩,⟨o,e⟩,λ h1 h2 ⟨mB,⟨o',VW,ep',e',c'⟩,r',w2⟩ k=>⟨mB,⟨o',VW,ep',k o' e',c'⟩,r',w2⟩⟩
def ab1(K:ah)(C:ag)(ta tv:TE)(f:Str):TS:=λ D σ H=>tv σ H λ y H1=>ta σ H1 λ x H2=>∃e tv,x= .ref e/\H2 e=some (Fi C e none tv)/\oC K C f/\∀dx,H2 dx=none->dx≠e->
 D.nx σ (upd (upd H2 e (Fi C e (some dx) tv)) dx (DxO dx [(f,y)]))
theorem WU{C:ag}{o value:bJ}{f:Str}{pos pos':Pos}{ta tv:TE}(EC:tH X.K C)(ha:PE X o ta)(hv:PE X value tv)(hs:hU value (some (.Attribute o f pos')) pos.line X.env=pure false:=by rfl):PS X (.Assign [.Attribute o f pos'] value pos) (ab1 X.K C ta tv f):=by
 intro pins s σ H D I h
 refine fH (pM (hv pins s σ H _ I h) λ u s1 ⟨y,H1,I1,ry,q⟩=>pM (ha pins s1 σ H1 _ I1 q) λ ov s2 ⟨x,H2,I2,rx,e,tv,ex,h2,n,q2⟩=>?_) hs
 subst ex
 obtain rfl:ov=Value.ref e:=rx
 obtain⟨o,e1,vs,rfl,v1⟩:=rY.mp (I2.oX e _ h2)
 have lt:=Heap.lt_size e1
 refine WK I2.Fe e1 EC n λ h' g1 g2 g3=>?_
 have hn:=I2.oX.fresh (ax s2.heap.objs.size)
 refine⟨σ,_,?_,q2 s2.heap.objs.size hn (fZ lt)⟩
 have nx:∀b u,s2.heap.get? b=some u->b≠s2.heap.objs.size:=λ b u z=>bL (Heap.lt_size z)
 have tr:∀b u,H2 b=some u->(∀φ,u≠ .ext φ)->b≠e/\b≠s2.heap.objs.size:=λ b u z nu=>⟨λ w=>(by rw[w,h2]at z;exact nu _ (Option.some.inj z).symm),nG z hn⟩
 refine I2.un (h':=h') (t':=s2.toks+2) ⟨λ b u z n _ _=>g3 b u (λ w=>by rw[w,h2]at n;cases n) z,λ b u z n _ _=>⟨u.slots,g3 b u (λ w=>by rw[w,h2]at n;cases n) z⟩,λ b u z n _=>?_,λ b u z _=>?_,λ b xs z=>?_,λ b u xs z=>?_,λ b ps z=>?_⟩ ?_
 ·rw[m4 (nx b u z),m4 (λ w=>by rw[w,h2]at n;cases n)];exact n
 ·by_cases hb:b=e
  ·exact⟨_,by rw[hb];exact g1⟩
  ·exact⟨u,g3 b u hb z⟩
 ·obtain⟨p1,p2⟩:=tr b _ z (λ φ=>by intro w;cases w)
  rw[m4 p2,m4 p1];exact z
 ·obtain⟨p1,p2⟩:=tr b _ z (λ φ=>by intro w;cases w)
  rw[m4 p2,m4 p1];exact z
 ·obtain⟨p1,p2⟩:=tr b _ z (λ φ=>by intro w;cases w)
  exact⟨#[],by rw[m4 p2,m4 p1,z];simp⟩
 ·intro b u z
  by_cases hb:b=s2.heap.objs.size
  ·subst hb
   rw[mZ]at z;cases z
   refine WT.mpr ⟨_,g2,λ g=>?_,λ g hg=>?_⟩
   ·show wO (dv g [(f,y)]) (if g=f then some u else none)
    by_cases q:g=f
    ·have hb:(g == f)=true:=beq_iff_eq.mpr q
     simp only[dv,hb,if_pos q];exact ry
    ·have hb:(g == f)=false:=beq_eq_false_iff_ne.mpr q
     simp only[dv,hb,if_neg q];exact True.intro
   ·by_cases q:g=f
    ·simp[q]
    ·exact absurd (show(if g=f then some u else none)=none from if_neg q) hg
  ·rw[m4 hb]at z
   by_cases Wd:b=e
   ·subst Wd
    rw[mZ]at z;cases z
    exact rY.mpr ⟨_,g1,_,rfl,v1⟩
   ·rw[m4 Wd]at z
    refine(I2.oX b u z).Ef (λ c v hc w=>g3 c v ?_ w) (λ c w=>?_) λ c xs w=>?_
    ·rcases hc with rfl|hc
     ·exact Wd
     ·exact(tr c _ hc (λ φ=>by intro w;cases w)).1
    ·obtain⟨p1,p2⟩:=tr c _ w (λ φ=>by intro w;cases w)
     rw[m4 p2,m4 p1];exact w
    ·obtain⟨p1,p2⟩:=tr c _ w (λ φ=>by intro w;cases w)
     rw[m4 p2,m4 p1];exact w
def ab2(K:ah)(C:ag)(ta tv:TE)(f:Str):TS:=λ D σ H=>tv σ H λ y H1=>ta σ H1 λ x H2=>∃e tv dx fs,x= .ref e/\H2 e=some (Fi C e (some dx) tv)/\dx≠e/\H2 dx=some (DxO dx fs)/\fs.length<=50/\oC K C f/\
 D.nx σ (upd H2 dx (.xd (v_ f y fs)))
theorem WV{C:ag}{o value:bJ}{f:Str}{pos pos':Pos}{ta tv:TE}(EC:tH X.K C)(ha:PE X o ta)(hv:PE X value tv)(hs:hU value (some (.Attribute o f pos')) pos.line X.env=pure false:=by rfl):PS X (.Assign [.Attribute o f pos'] value pos) (ab2 X.K C ta tv f):=by
 intro pins s σ H D I h
 refine fH (pM (hv pins s σ H _ I h) λ u s1 ⟨y,H1,I1,ry,q⟩=>pM (ha pins s1 σ H1 _ I1 q) λ ov s2 ⟨x,H2,I2,rx,e,tv,dx,fs,ex,h2,ne,hd,hl,n,q2⟩=>?_) hs
 subst ex
 obtain rfl:ov=Value.ref e:=rx
 obtain⟨o,e1,vs,rfl,v1⟩:=rY.mp (I2.oX e _ h2)
 obtain⟨mA,hn,hr,hw⟩:=WT.mp (I2.oX dx _ hd)
 refine WL I2.Fe e1 ne hn EC n hw (by rw[aa];omega) λ h' g1 g2 g3=>?_
 refine⟨σ,upd H2 dx (.xd (v_ f y fs)),I2.write (x:=dx) (e:=dx) (o:=.xd (v_ f y fs)) (t':=s2.toks+2) (by rw[hd];exact True.intro) (.inl rfl) (λ b v hb z=>g3 b v hb z) (let⟨o,_,_,w,_⟩:=g2;⟨o,w⟩) ⟨_,g2,λ g=>?_⟩,q2⟩
 show wO ((v_ f y fs).lookup g) (if g=f then some u else mA g)
 rw[zI]
 by_cases q:g=f
 ·rw[if_pos q,if_pos q];exact ry
 ·rw[if_neg q,if_neg q];exact hr g
def aa3(K:ah)(C:ag)(ta:TE)(f:Str):TE:=λ σ H Q=>ta σ H λ x H1=>∃e tv dx fs v,x= .ref e/\H1 e=some (Fi C e (some dx) tv)/\H1 dx=some (.xd fs)/\oC K C f/\fs.lookup f=some v/\Q v H1
theorem ZS{C:ag}{e:bJ}{f:Str}{pos:Pos}{ta:TE}(EC:tH X.K C)(hk:oC X.K C "__getattr__")(he:PE X e ta)(hb:dN e f X.env (cu e X.env)=cu e X.env:=by rfl):PE X (.Attribute e f pos) (aa3 X.K C ta f):=by
 intro pins s σ H Q I h
 refine SD hb (pM (he pins s σ H _ I h) λ u s1 ⟨x,H1,I1,rx,a,tv,dx,fs,v,ex,h1,hd,n,l,q⟩=>?_)
 subst ex
 obtain rfl:u=Value.ref a:=rx
 obtain⟨o,e1,vs,rfl,v1⟩:=rY.mp (I1.oX a _ h1)
 obtain⟨mA,hn,hr⟩:=(show pP X.prog X.w H1 s1.heap dx (.xd fs)from I1.oX dx _ hd)
 obtain⟨w,hw,wb⟩:=wO.some_of (v:=v) (o:=mA f) (by rw[<-l];exact hr f)
 obtain⟨od,ho,hlk⟩:=Kf hn
 obtain⟨cd,Lw,LS,hhd⟩:=EC.cd
 have lk:eS f od=some (some w):=by rw[hlk f,hw]
 refine ZO (od:=some od) I1.Fe ⟨e1,rfl,rfl,ho⟩ EC hk ?_ (Kg wb) ⟨v,H1,I1.tok _,wb,q⟩
 unfold PySem.W.findObj
 rw[Lw,dE,show bw X.K (.ref C) f=some none from n]
 unfold PySem.W.ownOf
 rw[hhd]
 show((eS f od).bind _)=_
 rw[lk]
 rfl
end
end L2
namespace L2
open PySem PySem.Spec PyProof.Rows
abbrev Cx.pinned(X:Cx)(pn:List (ag×Obj)):Cx:={ X with pn:=pn }
abbrev Cx.inH(X:Cx)(e:ag):Cx:={ X with A:=X.A.mark (some (.ref e)),calm:=false,xe:=λ _ _=>False }
section
variable{X:Cx}{pins:List (ag×Obj)}{σ:St}{H:Hp}{s:au}
theorem Cx.Ok.pinned(ok:X.Ok)(pn:List (ag×Obj)):(X.pinned pn).Ok:=⟨ok.mod,ok.kind,ok.glob,ok.blt,ok.above,ok.inj,ok.has,ok.cab,ok.hd,ok.frames,ok.stk,ok.exf,ok.bs,ok.Sq,ok.Nt,ok.Nu,ok.Bf,ok.VU⟩
theorem Cx.Ok.xy{pn:List (ag×Obj)}(ok:(X.pinned pn).Ok):X.Ok:=⟨ok.mod,ok.kind,ok.glob,ok.blt,ok.above,ok.inj,ok.has,ok.cab,ok.hd,ok.frames,ok.stk,ok.exf,ok.bs,ok.Sq,ok.Nt,ok.Nu,ok.Bf,ok.VU⟩
theorem Inv.ab3(I:Inv X pins σ H s):Inv (X.pinned (X.pn++pins)) [] σ H s:=⟨I.ok.pinned _,I.os,I.bare,I.base,I.loc,I.cell,I.free,I.uB,λ p hp=>I.pin p (by simpa using hp),I.oX,I.len⟩
theorem Inv.tX(I:Inv (X.pinned (X.pn++pins)) [] σ H s):Inv X pins σ H s:=⟨I.ok.xy,I.os,I.bare,I.base,I.loc,I.cell,I.free,I.uB,λ p hp=>I.pin p (by simpa using hp),I.oX,I.len⟩
theorem Inv.inH(I:Inv X pins σ H s)(e:ag):Inv (X.inH e) pins σ H s:=⟨⟨I.ok.mod,I.ok.kind,I.ok.glob,I.ok.blt,I.ok.above,I.ok.inj,I.ok.has,I.ok.cab,(λ z=>cf z),I.ok.frames,I.ok.stk,I.ok.exf,I.ok.bs,I.ok.Sq,I.ok.Nt,I.ok.Nu,I.ok.Bf,I.ok.VU⟩,I.os,I.bare,I.base,I.loc,I.cell,I.free,I.uB,I.pin,I.oX,I.len⟩
theorem Inv.ZT{e:ag}(ok:X.Ok)(I:Inv (X.inH e) pins σ H s):Inv X pins σ H s:=⟨ok,I.os,I.bare,I.base,I.loc,I.cell,I.free,I.uB,I.pin,I.oX,I.len⟩
theorem SP.tX{E':ao->au->Prop}{D:Ends}{f:Flow}(h:SP ((X.pinned (X.pn++pins)).xR E') [] D f s):SP X pins D f s:=by
 cases f with
 |next=>obtain⟨σ',H',I,q⟩:=h;exact⟨σ',H',I.sF.tX,q⟩
 |brk=>obtain⟨σ',H',I,q⟩:=h;exact⟨σ',H',I.sF.tX,q⟩
 |cont=>obtain⟨σ',H',I,q⟩:=h;exact⟨σ',H',I.sF.tX,q⟩
 |ret u=>obtain⟨v,σ',H',I,r,q⟩:=h;exact⟨v,σ',H',I.sF.tX,r,q⟩
theorem GW{M:jI}{A:bU}{E:ao->au->Prop}{i:Nat}{n:Str}{pos:Pos}{Q:Unit->au->Prop}(I:Inv X pins σ H s)(hN:X.N.Nodup)(hi:X.N[i]? =some n)(hk:X.env.scope.names.lookup n=some .local)
  (h:∀s',Inv X pins (σ.set i none) H s'->Q () s'):aV M A (do bindName X.env n .none;unbindBehindTheSuite X.env n pos) Q E s:=by
 obtain⟨m,hn,hl⟩:=id I.loc
 have abj:(X.env.scope.kind == .class || (X.env.scope.kind == .module && X.env.locals != X.env.globals))=false:=by rw[I.ok.kind];rfl
 have hiσ:i<σ.length:=by rw[I.len];exact(List.getElem?_eq_some_iff.mp hi).1
 refine wpAny_nameGoes_keeps hk hn abj λ h' v hn' hs=>h _ ?_
 obtain⟨oL,_,_,hoL,_⟩:=id hn
 have below:∀b o,X.JP.heap.get? b=some o->b≠X.env.locals:=λ b o e=>bL (aU (Heap.lt_size e) I.ok.above)
 refine⟨I.ok,I.os,I.bare,⟨λ b o e n hb hx=>(hs.2 b (below b o e)).trans (I.base.keep b o e n hb hx),λ b o e n hb hx=>?_,I.base.free,λ b o e hx=>?_,I.base.JN,I.base.GB,I.base.JO⟩,⟨_,hn',λ j y v' e1 e2 e3=>?_⟩,λ y c e=>?_,I.free,I.uB,λ p hp=>?_,λ b ob e=>?_,by simpa using I.len⟩
 ·obtain⟨sl,e1⟩:=I.base.slot b o e n hb hx
  exact⟨sl,(hs.2 b (below b o e)).trans e1⟩
 ·obtain⟨o',e1⟩:=I.base.there b o e hx
  exact⟨o',(hs.2 b (below b o e)).trans e1⟩
 ·have hj:j≠i:=by
   rintro rfl
   rw[cO hiσ]at e2
   cases e2
  rw[fG (Ne.symm hj)]at e2
  obtain⟨u',r',q⟩:=hl j y v' e1 e2 e3
  refine⟨u',r',?_⟩
  rcases q with⟨k,e⟩|⟨k,c,e,z⟩
  ·refine .inl ⟨k,?_⟩
   have ne:y≠n:=λ e=>hj (CY hN e1 (e ▸ hi))
   simp[ne,e]
  ·exact .inr ⟨k,c,e,z.sameBut hs (I.Zk y c e)⟩
 ·obtain⟨w',z⟩:=I.cell y c e
  exact⟨w',z.sameBut hs (I.Zk y c e)⟩
 ·obtain⟨e,n,ne,nf,d⟩:=I.pin p hp
  exact⟨(hs.2 p.1 ne).trans e,n,ne,nf,d⟩
 ·refine(I.oX b ob e).Ef (λ c w' hc q=>(hs.2 c ?_).trans q) (λ _ q=>q) λ _ _ q=>q
  rintro rfl
  rcases hc with rfl|hc
  ·rw[I.free]at e;cases e
  ·rw[I.free]at hc;cases hc
def aeN(C:ag)(i:Nat)(tb th:TS)(Eb:XK):TS:=λ D σ H=>tb D σ H/\∀(σ':St) (H1:Hp) (e dx:ag) (tv:ao),σ'.length=σ.length->H1 e=some (Fi C e (some dx) tv)->Eb (.ref C) (some dx) H1->
 th { nx:=λ σ2 H2=>D.nx (σ2.set i none) H2,rt:=D.rt,bk:=λ σ2 H2=>D.bk (σ2.set i none) H2,ct:=λ σ2 H2=>D.ct (σ2.set i none) H2 } (σ'.set i (some (.ref e))) H1
theorem ab4{C f:ag}{i:Nat}{n x:Str}{body:List bA}{b0:bA}{aa4:List bA}{tb th:TS}{Eb:XK}{xC aeO pos:Pos}(LA:X.stack=X.env::X.outer)(JJ:X.env.frame=some X.env.locals)(M:ZR X.K C f)
  (hg:Gl X x)(hm:X.mg x=some (.ref C))(hN:X.N.Nodup)(hi:X.N[i]? =some n)(hk:X.env.scope.names.lookup n=some .local)(hE:Calm Eb)
  (hb:∀pn,Lv ((X.pinned pn).err C Eb) body tb)(hh:∀e,Lv (X.inH e) (b0::aa4) th)(PK:(x == ("__debug__":Str))=false:=by decide):
  PS X (.Try body [.ExceptHandler (some (.Name x xC)) (some n) (b0::aa4) aeO] [] [] pos) (aeN C i tb th Eb):=by
 intro pins s σ H D I h
 obtain⟨h1,h2⟩:=h
 refine wpAny_Try_except (cQ (hb (X.pn++pins) [] s σ H D (I.ab3.xR _) h1) (λ fl s1 q=>?_) λ ev s1 q=>?_)
 ·cases fl with
  |next=>exact gh (SP.tX q)
  |brk=>exact SP.tX q
  |cont=>exact SP.tX q
  |ret v=>exact SP.tX q
 ·obtain⟨a,dx,σ1,H1,rfl,I1,fl,q⟩:=q
  refine LV (X:=X.pinned (X.pn++pins)) I1 LA JJ fl λ s2 H2 I2 n2 k2=>?_
  refine uH (fr:=none) I2 n2 λ s3 H3 I3 n3 k3=>?_
  have J3:Inv X pins σ1 H3 s3:=I3.tX
  obtain⟨nm,qn,N,bs,LW,sn,sub,ab,col,dd,k0,k1,k2',k3',k5,hC,_⟩:=M.obj
  have hC3:=J3.Fe _ _ hC
  have lenσ:σ1.length=σ.length:=I3.len.trans I.len.symm
  obtain⟨T3,x1,x2,x3⟩:=id n3
  obtain⟨o,e1,vs,rfl,v1⟩:=rY.mp (J3.oX a _ x1)
  refine wpAny_handleBy_cons (codeAny_handlers_test (xQ (X:=X.inH a) (J3.inH a) hg hm ?_ PK)) (by intro w;cases w)
  obtain⟨NS,g3,d3,t3,os3⟩:=s3
  refine wpAny_excMatches_sub_self hC3 e1 rfl (by decide +kernel) ?_
  refine codeAny_handlers_suite_as (uH (fr:=none) (A:=X.A.mark (some (.ref a))) J3 n3 λ s4 H4 I4 n4 k4=>?_)
  refine CZ (v:=.ref a) I4 hN hi (.inl hk) rfl (λ s5 I5=>?_) (.inr hk)
  obtain⟨T4,y1,y2,y3⟩:=n4
  have E4:Eb (.ref C) (some dx) H4:=hE _ _ _ _ ((k2.trans k3).trans k4) q
  refine cQ (hh a pins s5 _ H4 _ (I5.inH a) (h2 σ1 H4 a dx _ lenσ y1 E4)) (λ fl s6 q6=>?_) λ _ _ z=>z.elim
  cases fl with
  |next=>
   obtain⟨σ6,H6,I6,q6⟩:=q6
   exact GW (I6.ZT I.ok) hN hi hk λ s7 I7=>⟨_,H6,I7,q6⟩
  |brk=>
   obtain⟨σ6,H6,I6,q6⟩:=q6
   exact GW (I6.ZT I.ok) hN hi hk λ s7 I7=>⟨_,H6,I7,q6⟩
  |cont=>
   obtain⟨σ6,H6,I6,q6⟩:=q6
   exact GW (I6.ZT I.ok) hN hi hk λ s7 I7=>⟨_,H6,I7,q6⟩
  |ret v=>
   obtain⟨v',σ6,H6,I6,r6,q6⟩:=q6
   exact GW (I6.ZT I.ok) hN hi hk λ s7 I7=>⟨v',_,H6,I7,r6,q6⟩
end
end L2
namespace L2
open PySem PySem.Spec PyProof.Rows
structure Walk(J:It)(H1:Hp)(n:Nat)(F:Nat->V->Hp->Prop):Prop where
 go:∀i H,i<n->m7 H1 H->J.go i H
 G8:∀i H x H',i<n->m7 H1 H->J.G8 i H x H'->F i x H'/\m7 H H'
 stop:∀H,m7 H1 H->J.stop n H
theorem oY{J:It}{H1:Hp}{n:Nat}{F:Nat->V->Hp->Prop}{g:TG}{tt:TT}{te:TE}{vs:List Nat}{σ:L2.St}{Q:ag->Hp->Prop}(W:Walk J H1 n F)(ys:List V)(hlen:ys.length=n)(hz:n<=ay)
  (hs:∀i x y H (R:V->Hp->Prop) (N:Hp->Prop),ys[i]? =some y->m7 H1 H->F i x H->(∀H4,m7 H H4->R y H4)->g x (wipe σ vs) H λ σ2 H2=>wipe σ2 vs=wipe σ vs/\tt σ2 H2 λ b H3=>if b=true then te σ2 H3 R else N H3)
  (fin:∀D H,H1 D=none->m7 H1 H->H D=some (.lst ys)->Q D H)(D:ag)(hD:H1 D=none):
  ∃W:Nat->Nat->Hp->Prop,(∃m,W 0 m (upd H1 D (.lst [])))/\∀i m H,W i m H->
   (J.stop i H/\Q D H)\/(J.go i H/\∃Nx:Hp->Prop,(∀H',Nx H'->∃m',m'<m/\W (i+1) m' H')/\∀x H',J.G8 i H x H'->g x (wipe σ vs) H' λ σ2 H2=>wipe σ2 vs=wipe σ vs/\tt σ2 H2 λ b H3=>
    if b=true then te σ2 H3 λ y H4=>∃acc,H4 D=some (.lst acc)/\acc.length<ay/\Nx (upd H4 D (.lst (acc++[y])))else Nx H3):=by
 refine⟨λ i m H=>m=n-i/\i<=n/\m7 H1 H/\H D=some (.lst (ys.take i)),⟨n,by omega,aE _,λ b o e=>by rw[m4 (nG e hD)];exact e,mZ⟩,?_⟩
 rintro i m H ⟨rfl,hi,sm,hd⟩
 by_cases rN:i<n
 ·refine .inr ⟨W.go i H rN sm,λ H'=>i+1<=n/\m7 H1 H'/\H' D=some (.lst (ys.take (i+1))),λ H' z=>⟨n-(i+1),by omega,rfl,z⟩,λ x H' y=>?_⟩
  obtain⟨hF,wc⟩:=W.G8 i H x H' rN sm y
  have hy:ys[i]? =some ys[i]:=af (by omega)
  refine hs i x _ H' _ _ hy (sm.trans wc) hF λ H4 Nm=>?_
  have hd4:H4 D=some (.lst (ys.take i)):=Nm _ _ (wc _ _ hd)
  refine⟨_,hd4,?_,rN,λ b o e=>?_,?_⟩
  ·rw[bW];omega
  ·rw[m4 (nG e hD)];exact Nm _ _ (wc _ _ (sm _ _ e))
  ·rw[mZ,bZ,hy];rfl
 ·have e:i=n:=by omega
  subst e
  refine .inl ⟨W.stop H sm,fin D H hD sm ?_⟩
  rw[hd,cq (by omega)]
theorem oS{K:ah}{H1:Hp}{a:ag}{xs:List V}(h:nE K H1 a xs):Walk (Itl K a) H1 xs.length (λ i x _=>xs[i]? =some x) where
 go:=λ i H hi sm=>⟨xs,xs[i],sm.seq h,af hi⟩
 G8:=λ i H x H' hi sm y=>by
  obtain⟨rfl,y⟩:=y
  exact⟨y xs (sm.seq h),m7.refl _⟩
 stop:=λ H sm=>⟨xs,sm.seq h,ax _⟩
theorem m7.new{H:Hp}{T:ag}{o:HO}(h:H T=none):m7 H (upd H T o):=λ b u e=>by
 rw[m4 (nG e h)];exact e
theorem UG{K:ah}{H1:Hp}{a:ag}{xs:List V}(h:nE K H1 a xs):Walk (Ite K a) H1 xs.length (λ i v H=>∃T x,v= .ref T/\xs[i]? =some x/\H T=some (.tup [.int (i:Nat),x])) where
 go:=λ i H hi sm=>⟨xs,xs[i],sm.seq h,af hi⟩
 G8:=λ i H x H' hi sm y=>by
  obtain⟨T,z,rfl,hT,rfl,y⟩:=y
  exact⟨⟨T,z,rfl,y xs (sm.seq h),mZ⟩,m7.new hT⟩
 stop:=λ H sm=>⟨xs,sm.seq h,ax _⟩
theorem Hn{K:ah}{H1:Hp}{a b:ag}{xs ys:List V}(h:nE K H1 a xs)(h':nE K H1 b ys)(hl:xs.length=ys.length):Walk (Itz K a b) H1 xs.length (λ i v H=>∃T x y,v= .ref T/\xs[i]? =some x/\ys[i]? =some y/\H T=some (.tup [x,y])) where
 go:=λ i H hi sm=>⟨xs,ys,xs[i],ys[i],sm.seq h,sm.seq h',af hi,af (by omega)⟩
 G8:=λ i H x H' hi sm y=>by
  obtain⟨T,z,z',rfl,hT,rfl,y,y'⟩:=y
  exact⟨⟨T,z,z',rfl,y xs (sm.seq h),y' ys (sm.seq h'),mZ⟩,m7.new hT⟩
 stop:=λ H sm=>⟨xs,ys,sm.seq h,sm.seq h',.inl (ax _)⟩
theorem xV(K:ah){X:Cx}{e:bJ}{f:Str}{pos:Pos}{ta:TE}(he:PE X e ta)(hK:X.K=K:=by rfl)(hb:dN e f X.env (cu e X.env)=cu e X.env:=by rfl):PE X (.Attribute e f pos) (aby K ta f):=by
 subst hK;exact nq he hb
theorem tY(K:ah){X:Cx}{a b:bJ}{pos:Pos}{ta tb:TE}(ha:PE X a ta)(hb:PE X b tb)(hK:X.K=K:=by rfl)(hs:SH b:=by exact λ _ _=>rfl):PE X (.Subscript a b pos) (tOp (adk K) ta tb):=by
 subst hK;exact o_ og ha hb hs
theorem sD{σ:L2.St}{H:Hp}{A B:Hp->Prop}(h:A H):ado σ H λ b H3=>if b=true then A H3 else B H3:=by
 show if true=true then A H else B H
 rw[if_pos rfl];exact h
theorem pC.of{N:List Str}{sc scope:eQ}{own:List (Str×Nat)}(h:scope.kind= .function/\(∀y∈scope.names,scope.names.lookup y.1=some y.2)/\(∀p∈own,N[p.2]? =some p.1)/\
  (∀y∈scope.names,y.2= .free->sc.names.lookup y.1=some .cell\/sc.names.lookup y.1=some .free)/\∀y∈scope.names,y.2= .local\/y.2= .cell->y.1∈own.map (·.1)\/y.1∉N):pC N sc scope own:=⟨h.1,h.2.1,h.2.2.1,h.2.2.2.1,h.2.2.2.2⟩
def Keeps(X:Cx)(CX:CV)(g:ag)(sp:Sp):Prop:=∃k fd ps,nQ X.prog X.w X.K X.mg X.base CX k g fd ps sp/\qS k X.A/\bY X.K (.ref g)=true/\Binds X.K fd ps []
def ab5(X:Cx)(CX:CV)(E:XK)(tf:TE)(t:TA):TE:=λ σ H Q=>tf σ H λ v H1=>∃g sp,v= .ref g/\Keeps X CX g sp/\t σ H1 λ vs H2=>sp vs H2 Q E
theorem WW{X:Cx}{CX:CV}{E:XK}{o i e:bJ}{es:List bJ}{tf:TE}{t:TA}{ZU pos:Pos}(hf:PE X (.Subscript o i ZU) tf)(hx:Passes CX X E)(ha:PA X (e::es) t)
  (he:aN (e::es) X.env=(false,cu e X.env)::aN es X.env:=by rfl)(vm:(c7 pos (aN es X.env)).any (·.1)=false:=by rfl)
  (ht:cu (.Call (.Subscript o i ZU) (e::es) [] pos) X.env=(do jo pos (<-cu (.Subscript o i ZU) X.env) [] (c7 pos (aN (e::es) X.env)) (hZ pos (ff [] X.env))):=by rfl):
  PE X (.Call (.Subscript o i ZU) (e::es) [] pos) (ab5 X CX E tf t):=by
 intro pins s σ H Q I h
 rw[ht]
 refine aq (pM (hf pins s σ H _ I h) λ u s1 ⟨v,H1,I1,rv,g,sp,ev,kp,q⟩=>?_)
 subst ev
 obtain rfl:u=Value.ref g:=rv
 obtain⟨k,fd,ps,F,hr,hk,hb⟩:=kp
 refine dJ (h₀:=X.base) I.ok.mod.Zj hk (pM (ha pos pins s1 σ H1 _ I1 q) λ us s2 ⟨vs,H2,I2,r,q2⟩=>⟨I2.Fe,?_⟩) he vm
 have q3:sp (vs++[]) H2 Q E:=by rw[bD];exact q2
 exact LF F hr hb .nil hx I2 r q3
end L2
namespace L2
open PySem PySem.Spec PyProof.Rows
theorem qh{N P:List Str}{sc:eQ}(a:sc.kind= .function:=by rfl)(b:sc.isCoroutine=false:=by rfl)(c:sc.isGenerator=false:=by rfl)(d:N.Nodup:=by decide +kernel)(e:N.take P.length=P:=by rfl)(f:∀x∈P,sc.names.lookup x=some .local\/sc.names.lookup x=some .cell:=by decide +kernel)(g:∀y∈sc.names,y.2≠ .free:=by decide +kernel):m9 N P sc:=⟨a,b,c,d,e,f,g⟩
abbrev tq:List Str:=["search","numbers","row"]
end L2
namespace oh
end oh
open PySem PySem.Spec PyProof.Rows L2
open Vbmrac (Tok Toks Bad bytesOf wordAhead mustWord semi numAt nameAt placeOf KEYS cellOf cellsAt membersAt teamsAt tokens isLetter isDigit isText nats inside mass gain left total more cellAt greatest gains deal less line decimal written wouldFind lowest timeSum goesAhead putIn ordered thriftRow thriftTable thriftFrom thrift slots canSearch augment slotFor teamsFrom teamDeal canMake Use State Field isRow isCell nums qRow tooMany room timesOf expected listed doing efforts none_ weighed)
variable{P:aJ}{w:aY}{K:ah}{mg:Str->Option ao}{base:bz}{f CS CF CC CT CB C CR CP:ag}{fd:bK}
namespace oh
def top(i:Nat):bA:=PySem.Challenge.pw_searchefforts_s01_answers.main.body.getD i (.Pass ⟨0,0,0,0⟩)
abbrev Er:bA:=top 2
abbrev BK:bA:=top 3
abbrev C9:bA:=top 4
abbrev AU:bA:=top 5
abbrev Qs:bA:=top 6
abbrev Es:bA:=top 7
abbrev BL:bA:=top 8
abbrev LX:bA:=top 9
abbrev Et:bA:=top 11
abbrev BM:bA:=top 12
abbrev BN:bA:=top 13
abbrev BO:bA:=top 14
abbrev wR:bA:=top 17
abbrev xW:bA:=top 18
abbrev Eu:bA:=inClass (top 20) 0
abbrev Ew:bA:=inClass (top 21) 0
abbrev BP:bA:=inClass (top 22) 0
abbrev BQ:bA:=inClass (top 38) 0
abbrev LY:bA:=top 39
abbrev xX:bA:=top 40
abbrev xY:bA:=top 41
abbrev Ex:bA:=top 42
abbrev Ho:bA:=top 43
abbrev ab6:bA:=top 44
abbrev tI:bA:=inClass (top 60) 0
abbrev zP:bA:=inClass (top 61) 0
abbrev xZ:bA:=inClass (top 61) 1
abbrev wU:bA:=inClass (top 61) 2
abbrev zQ:bA:=inClass (top 61) 3
abbrev ui:bA:=inClass (top 61) 4
abbrev uj:bA:=inClass (top 61) 5
abbrev uk:bA:=inClass (top 61) 6
abbrev sJ:bA:=inClass (top 61) 7
abbrev vp:bA:=inClass (top 61) 8
abbrev AV:bA:=top 62
abbrev BR:bA:=top 63
abbrev zR:bA:=top 64
abbrev Ey:bA:=top 65
abbrev x9:bA:=top 66
abbrev BS:bA:=top 67
abbrev zS:bA:=inClass (top 69) 0
abbrev sL:bA:=inClass (top 69) 1
abbrev wV:bA:=inClass (top 69) 2
abbrev wW:bA:=inClass (top 69) 3
abbrev uI:bA:=inClass (top 69) 4
abbrev sM:bA:=inClass (top 69) 5
abbrev sN:bA:=inClass (top 69) 6
abbrev uJ:bA:=inClass (top 69) 7
abbrev tZ:bA:=inClass (top 69) 8
abbrev zT:bA:=inClass (top 69) 9
abbrev C_:bA:=top 71
abbrev WX:bA:=top 72
abbrev Ez:bA:=top 73
abbrev AW:bA:=top 74
abbrev Qt:bA:=top 75
abbrev BU:bA:=inClass (top 77) 0
abbrev wt:bA:=inClass (top 77) 1
abbrev uK:bA:=top 78
abbrev x_:bA:=top 79
abbrev AX:bA:=top 80
abbrev Dc:bA:=top 81
abbrev vq:bA:=top 82
abbrev AY:bA:=top 83
abbrev ya:bA:=top 85
abbrev Dd:bA:=top 86
abbrev vt:bA:=top 87
abbrev yc:bA:=top 88
abbrev yd:bA:=top 103
abbrev BV:bA:=top 104
abbrev BW:bA:=top 105
abbrev EA:bA:=top 106
abbrev EB:bA:=top 107
abbrev rO:bA:=top 108
abbrev ye:bA:=top 109
abbrev AZ:bA:=top 110
abbrev Hq:bA:=top 111
abbrev BX:bA:=top 112
abbrev ED:bA:=top 113
abbrev BY:bA:=top 114
abbrev BZ:bA:=top 115
abbrev zU:bA:=top 116
abbrev B0:bA:=top 117
abbrev yf:bA:=top 118
abbrev B_:bA:=top 119
abbrev Hr:bA:=top 120
abbrev Ca:bA:=top 121
abbrev zV:bA:=top 122
abbrev Cb:bA:=top 123
abbrev EE:bA:=top 128
abbrev Hs:bA:=top 129
end oh
namespace L2
section
variable{X:Cx}
def Td:Nat:=2 ^ 8000
def Te(i j:Int):Prop:=0<j/\j<(Td:Int)
theorem De:Ea X (gE .FloorDiv) (rI Te λ i j=>.int (i / j)):=opI λ i j _ _ _ _ _ hc q=>by
 have h1:(0:Int)<j:=hc.1
 have h2:j<(Td:Int):=hc.2
 refine floordiv_int (by omega) (by rw[Int.fdiv_eq_ediv_of_nonneg i (by omega)];exact q) (.inl (PyProof.noPylong_of_log2 ?_))
 have h3:j.natAbs<Td:=by omega
 by_cases hz:j.natAbs=0
 ·rw[hz];decide
 ·exact iY ((mH hz).mpr h3) (by decide)
end
end L2
namespace oh
def GG(H:Hp)(Q:VK)(xs:List V):Prop:=∀H' p,m7 H H'->H p=none->H' p=some (.lst xs)->Q (.ref p) H'
def Ht:Sp:=λ vs H Q _=>∃u l:Nat,vs=[.int u,.int l]/\0<l/\l<Td/\u<Td/\GG H Q [.int ((u / k6 u l:Nat)),.int ((l / k6 u l:Nat))]
theorem Hu:m9 ["upper","lower","divisor","rest","smaller"] ["upper","lower"] (m5 Er):=qh
theorem Qu(F:pI K "fraction" "fraction" Er f fd):nQ P w K mg base oG 1 f fd ["upper","lower"] Ht:=by
 refine F.ok Hu (λ vs H Q E h=>?_) (λ oW A outer s H vs Q E hr h=>?_)
 ·obtain⟨u,l,rfl,_⟩:=h
  rfl
 ·obtain⟨u,l,rfl,hl,hb,hub,k⟩:=h
  have nd:=Hu.nd
  refine⟨_,mX (m8 (i:=2) nd rfl (Or.inl rfl) (pv 1)) (mX (m8 (i:=3) nd rfl (Or.inl rfl) (pv 0))
   (mX (rM PassesOwn.never (oq Bj (pv 3) nO (oK _))
    (mX (m8 (i:=4) nd rfl (Or.inl rfl) (oj abu (pv 2) (pv 3))) (mX (m8 (i:=2) nd rfl (Or.inl rfl) (pv 3)) (m6 (m8 (i:=3) nd rfl (Or.inl rfl) (pv 4))))))
   (m6 (nj (nP (mW (oj De (pv 0) (pv 2)) (mW (oj De (pv 1) (pv 2)) mY))))))),?_⟩
  refine⟨_,rfl,_,rfl,?_⟩
  refine⟨λ m σ H'=>∃(d:Nat) (sm:Option V),H'=H/\σ=[some (.int u),some (.int l),some (.int d),some (.int (m:Nat)),sm]/\0<d/\d<Td/\m<Td/\k6 d m=k6 u l,⟨u,l,none,rfl,rfl,hl,hb,hub,j4 l u⟩,?_⟩
  rintro r σ H' ⟨d,sm,rfl,rfl,hd,PK,hrb,hg⟩
  refine⟨_,rfl,_,_,rfl,rfl,_,rfl,p_ (λ hc=>?_) λ hc=>?_⟩
  ·have WY:0<r:=by
    have:=of_decide_eq_true hc
    omega
   refine⟨_,λ _ _ z=>z,_,rfl,_,rfl,_,_,rfl,rfl,(by show(0:Int)<(r:Int);omega),_,rfl,_,rfl,?_⟩
   have e:((d:Int) % (r:Int))=((d % r:Nat):Int):=(Int.natCast_emod d r).symm
   refine⟨d % r,mQ d WY,r,some (.int ((d % r:Nat):Int)),rfl,?_,WY,hrb,iY (mQ d WY) hrb,?_⟩
   ·rw[<-e];rfl
   ·rw[<-hg,j4 d r,Nat.gcd_rec r d,j4]
  ·have WY:r=0:=by
    have:¬ (0:Int)<(r:Int):=λ q=>hc (decide_eq_true q)
    omega
   subst WY
   rw[Nat.gcd_zero_right]at hg
   have e1:∀x:Int,Te x (d:Int):=λ x=>⟨by omega,by omega⟩
   refine⟨_,rfl,_,rfl,_,_,rfl,rfl,e1 _,_,rfl,_,rfl,_,_,rfl,rfl,e1 _,(by show 2<=ay;decide),λ p hp=>?_⟩
   refine k _ p (λ b o e=>by rw[m4 (nG e hp)];exact e) hp ?_
   rw[mZ,hg]
   rfl
end oh
namespace L2
def LZ(o:Obj):Bool:=match o.data with
 | .dict es _=>es.toList.all λ e=>match e.key with | .str _ _=>true|_=>false
 |_=>false
theorem ab7{K:ah}{C f N:ag}{nm q:Str}{bs:List ao}{LW:Bool}{sn:List Str}{sub:List ao}{ab:Bool}{col:Option Bool}{dd:Option ag}{k0 k1 k2 k3 k5:Option ao}{oN oI:Obj}
  (lC:K.lookup C=some (lu nm q C N bs WN LW sn sub ab col dd k0 k1 k2 k3 k5 "Exception.__new__"))(lN:K.lookup N=some oN)(hN:LZ oN=true)(hi:bt K N "__init__"=some (some (.ref f)))(lI:K.lookup f=some oI)(cI:oI.cls= .type "function")
  (kp:bY K (.ref C)=true):ZR K C f:=by
 refine⟨⟨nm,q,N,bs,LW,sn,sub,ab,col,dd,k0,k1,k2,k3,k5,lC,oN,?_⟩,⟨oI,lI,cI⟩,kp⟩
 obtain⟨oc,od,da,sl⟩:=oN
 unfold LZ at hN
 cases da with
 |dict es ep=>
  refine⟨es,ep,lN,rfl,λ e he=>?_,?_⟩
  ·have z:=List.all_eq_true.mp hN e (by simpa using he)
   split at z
   ·rename_i n t hk
    exact⟨n,t,hk⟩
   ·cases z
  ·unfold bt at hi
   rw[lN]at hi
   dsimp only at hi
   split at hi
   ·rename_i en he
    have ev:en.val=Value.ref f:=Option.some.inj (Option.some.inj hi)
    unfold mL findBy
    rw[<-Array.find?_toList,he,<-ev]
    rfl
   ·split at hi <;> cases hi
 |_=>cases hN
theorem UH{K:ah}{C:ag}{cd:ClassData}(c:jk K C=some cd)(m:cd.mro=[.ref C,.type "Exception",.type "BaseException",.type "object"])(h:cd.hasDict=true)
  (sa:bw K (.ref C) "__setattr__"=some (some (.builtin "object.__setattr__")))(ga:bw K (.ref C) "__getattribute__"=some (some (.builtin "BaseException.__getattribute__"))):tH K C:=⟨⟨cd,c,m,h⟩,sa,ga⟩
end L2
namespace oh
abbrev wd(k p:V):HO:=.xd (v_ "place" p [("kind",k)])
def Fj(C:ag):Sp:=λ vs H Q _=>∃(e:ag) (tv:ao) (k p:V),vs=[.ref e,k,p]/\H e=some (Fi C e none tv)/\
 ∀H' dx,H' e=some (Fi C e (some dx) tv)->H' dx=some (wd k p)->NE H H'->Q .qA H'
theorem NT:m9 ["self","kind","place"] ["self","kind","place"] (m5 tI):=qh
theorem NU{f C:ag}{fd:bK}(F:pI K "__init__" "Wrong.__init__" tI f fd)(M:ZR K C f)(EC:tH K C)(hm:mg "Exception"=none)(n1:oC K C "kind")(n2:oC K C "place"):
  nQ P w K mg base oG 1 f fd ["self","kind","place"] (Fj C):=by
 refine F.ok NT (λ vs H Q E h=>?_) (λ oW A outer s H vs Q E hr h=>?_)
 ·obtain⟨e,tv,k,p,rfl,_⟩:=h
  rfl
 ·obtain⟨e,tv,k,p,rfl,he,kk⟩:=h
  refine⟨_,mX (n_ (NR M rfl hm (mW (pv 0) (mW qo mY)))) (mX (WU EC (pv 0) (pv 1)) (m6 (WV EC (pv 0) (pv 2)))),?_⟩
  refine⟨_,rfl,e,none,tv,_,rfl,(by show 1<=1000;decide),he,_,rfl,_,rfl,e,tv,rfl,he,n1,λ dx hdx xD=>?_⟩
  refine⟨_,rfl,_,rfl,e,tv,dx,_,rfl,?_,xD,mZ,(by show 1<=50;decide),n2,?_⟩
  ·rw[m4 (Ne.symm xD),mZ]
  ·refine kk _ dx ?_ mZ ?_
   ·rw[m4 (Ne.symm xD),m4 (Ne.symm xD),mZ]
   ·have a1:NE H (upd H e (Fi C e (some dx) tv)):=NE.upd (.inr ⟨_,he⟩)
    have a2:NE (upd H e (Fi C e (some dx) tv)) (upd (upd H e (Fi C e (some dx) tv)) dx (DxO dx [("kind",k)])):=NE.upd (.inl (by rw[m4 xD];exact hdx))
    exact(a1.trans a2).trans (NE.upd (.inr ⟨_,mZ⟩))
abbrev nX(t:List Nat):List V:=t.map λ(n:Nat)=>V.int (n:Int)
def pf(t:List Nat)(start lo hi:Nat):Nat:=((t.drop start).takeWhile λ c=>decide (lo<=c) && decide (c<=hi)).length
theorem NV{t:List Nat}{start lo hi:Nat}(h:t.length<=start):pf t start lo hi=0:=by
 unfold pf;rw[gP h];rfl
theorem rn{t:List Nat}{start lo hi c:Nat}(h:t[start]? =some c):pf t start lo hi=if lo<=c/\c<=hi then pf t (start+1) lo hi+1 else 0:=by
 unfold pf
 obtain⟨hl,e⟩:=List.getElem?_eq_some_iff.mp h
 rw[d9 hl,e,List.takeWhile_cons]
 by_cases h1:lo<=c <;> by_cases h2:c<=hi <;> simp[h1,h2]
theorem Ku(t:List Nat)(start lo hi:Nat):start+pf t start lo hi<=max start t.length:=by
 unfold pf
 have h1:((t.drop start).takeWhile λ c=>decide (lo<=c) && decide (c<=hi)).length<=(t.drop start).length:=(gZ _).length_le
 rw[gG]at h1
 omega
theorem oU{t:List Nat}{i c:Nat}(h:t[i]? =some c):(nX t)[i]? =some (V.int c):=by rw[ak,h];rfl
def NW(K:ah):Sp:=λ vs H Q _=>∃(a:ag) (t:List Nat) (start lo hi:Nat),vs=[.ref a,.int start,.int lo,.int hi]/\nE K H a (nX t)/\start<=t.length/\Q (.int ((start+pf t start lo hi:Nat))) H
theorem NX:m9 ["text","start","low","high","end"] ["text","start","low","high"] (m5 LY):=qh
theorem WZ(F:pI K "run_end" "run_end" LY f fd)(hlen:mg "len"=none):nQ P w K mg base oG 1 f fd ["text","start","low","high"] (NW K):=by
 refine F.ok NX (λ vs H Q E h=>?_) (λ oW A outer s H vs Q E hr h=>?_)
 ·obtain⟨a,t,start,lo,hi,rfl,_⟩:=h
  rfl
 ·obtain⟨a,t,start,lo,hi,rfl,hs,LA,k⟩:=h
  have nd:=NX.nd
  refine⟨_,mX (m8 (i:=4) nd rfl (Or.inl rfl) (pv 1)) (mX (rM PassesOwn.never (PW.pt (Eg (oq G_ (pv 4) (nM nN rfl hlen aX (mW (pv 0) mY)) (oK _)) (AO (vk p9 p9 (pv 2) (o_ og (pv 0) (pv 4) (λ _ _=>rfl)) (pv 3)))))
   (m6 (G7 (i:=4) nd rfl (Or.inl rfl) nO zG))) (m6 (nj (pv 4)))),?_⟩
  refine⟨_,rfl,λ m σ H'=>∃e:Nat,H'=H/\σ=[some (.ref a),some (.int start),some (.int lo),some (.int hi),some (.int e)]/\e<=t.length/\m=t.length-e/\e+pf t e lo hi=start+pf t start lo hi,⟨_,start,rfl,rfl,LA,rfl,rfl⟩,?_⟩
  rintro m σ H' ⟨e,rfl,rfl,he,rfl,heq⟩
  refine⟨_,rfl,_,rfl,a,_,rfl,.inl hs,_,_,rfl,rfl,_,rfl,?_⟩
  have fin:pf t e lo hi=0->acZ (Zl 4) { nx:=λ _ H''=>Q .qA H'',rt:=Q } [some (.ref a),some (.int start),some (.int lo),some (.int hi),some (.int e)] H':=λ z=>by
   refine⟨_,rfl,?_⟩
   have z2:e=start+pf t start lo hi:=by omega
   show Q (.int (e:Int)) H'
   rw[z2];exact k
  refine p_ (λ hc=>?_) λ hc=>?_
  ·have rN:e<t.length:=by
    have z:=of_decide_eq_true hc
    rw[aa]at z
    omega
   have EF:t[e]? =some t[e]:=af rN
   have W9:=rn (lo:=lo) (hi:=hi) EF
   refine⟨_,rfl,_,rfl,_,rfl,a,_,_,_,rfl,rfl,hs,ot (oU EF),_,_,rfl,rfl,_,rfl,?_⟩
   refine p_ (λ h1=>?_) λ h1=>?_
   ·refine⟨_,rfl,_,_,rfl,rfl,_,rfl,p_ (λ h2=>?_) λ h2=>?_⟩
    ·have g1:=of_decide_eq_true h1
     have g2:=of_decide_eq_true h2
     rw[if_pos ⟨by omega,by omega⟩]at W9
     refine⟨_,λ _ _ z=>z,_,rfl,_,_,rfl,rfl,t.length-(e+1),by omega,e+1,rfl,?_,rN,rfl,by omega⟩
     show[_,_,_,_,some (V.int ((e:Int)+1))]=_
     rw[show((e:Int)+1)=((e+1:Nat):Int)from rfl]
    ·have g2:¬ ((t[e]:Nat):Int)<=hi:=λ q=>h2 (decide_eq_true q)
     rw[if_neg (by omega)]at W9
     exact fin W9
   ·have g1:¬ (lo:Int)<=((t[e]:Nat):Int):=λ q=>h1 (decide_eq_true q)
    rw[if_neg (by omega)]at W9
    exact⟨_,rfl,rJ (fin W9)⟩
  ·have hge:t.length<=e:=by
    have z:¬ (e:Int)<((nX t).length:Int):=λ q=>hc (decide_eq_true q)
    rw[aa]at z
    omega
   exact rJ (fin (NV hge))
end oh
namespace L2
def oF(mg:Str->Option ao)(x:Str)(n:Int):Prop:=∃t,mg x=some (.int n t)
def Bh(mg:Str->Option ao)(x:Str)(z:Str):Prop:=∃t,mg x=some (.str z t)
theorem nU{X:Cx}{x:Str}{n:Int}{pos:Pos}(hm:oF X.mg x n)(hg:Gl X x:=by rfl)(hd:(x == ("__debug__":Str))=false:=by decide):PE X (.Name x pos) (tC (.int n)):=by
 obtain⟨t,e⟩:=hm
 exact Lx hg e ⟨t,rfl⟩ hd
theorem wu{X:Cx}{x z:Str}{pos:Pos}(hm:Bh X.mg x z)(hg:Gl X x:=by rfl)(hd:(x == ("__debug__":Str))=false:=by decide):PE X (.Name x pos) (tC (.str z)):=by
 obtain⟨t,e⟩:=hm
 exact Lx hg e ⟨t,rfl⟩ hd
def rB(P:aJ)(w:aY)(K:ah)(mg:Str->Option ao)(base:bz)(CX:CV)(k:Nat)(x:Str)(ps:List Str)(sp:Sp):Prop:=
 ∃f fd,nQ P w K mg base CX k f fd ps sp/\mg x=some (.ref f)/\bY K (.ref f)=true/\Binds K fd ps []
theorem nv{X:Cx}{CX:CV}{E:XK}{k j:Nat}{x:Str}{ps:List Str}{sp:Sp}{e:bJ}{es:List bJ}{t:TA}{p pos:Pos}(h:rB X.prog X.w X.K X.mg X.base CX k x ps sp)(hr:qS j X.A)(hj:k<=j)(hx:Passes CX X E)(ha:PA X (e::es) t)(hg:Gl X x:=by rfl)
  (PK:(x == ("__debug__":Str))=false:=by decide)(he:aN (e::es) X.env=(false,cu e X.env)::aN es X.env:=by rfl)(vm:(c7 pos (aN es X.env)).any (·.1)=false:=by rfl):
  PE X (.Call (.Name x p) (e::es) [] pos) (tCB (λ vs H Q=>sp vs H Q E) t):=by
 obtain⟨f,fd,F,m,kp,b⟩:=h
 intro pins s σ H Q I hw
 have z:=Zs (pos:=pos) (p:=p) F (hr.mono hj) hg m kp b .nil hx ha PK he vm
 refine z pins s σ H Q I ?_
 show t σ H λ vs H1=>sp (vs++[]) H1 Q E
 have e2:(λ vs H1=>sp (vs++[]) H1 Q E)=(λ(vs:List V) (H1:Hp)=>sp vs H1 Q E):=by funext vs H1;rw[bD]
 rw[e2];exact hw
def Hv(C:ag)(fl:List Str):Sp:=λ vs H Q _=>∃x dx args,vs= .ref x::args/\args.length=fl.length/\H x=some (.ins C dx [])/\∀H',H' x=some (.ins C dx (fl.zip args))->(∀b o,H b=some o->b≠x->H' b=some o)->Q .qA H'
structure Rec(P:aJ)(w:aY)(K:ah)(mg:Str->Option ao)(base:bz)(x:Str)(C:ag)(fl:List Str):Prop where
 cl:GL K C
 nm:mg x=some (.ref C)
 na:∀f∈fl,oC K C f
 mkr:∃f fd,Mk K C f/\nQ P w K mg base oG 1 f fd ("self"::fl) (Hv C fl)/\Binds K fd ("self"::fl) []
def aeP(C:ag)(fl:List Str)(t:TA):TE:=λ σ H Q=>t σ H λ vs H1=>vs.length=fl.length/\∀x dx H2,H1 x=none->H2 x=some (.ins C dx (fl.zip vs))->m7 H1 H2->Q (.ref x) H2
theorem vw{X:Cx}{j:Nat}{x:Str}{C:ag}{fl:List Str}{e:bJ}{es:List bJ}{t:TA}{p pos:Pos}(h:Rec X.prog X.w X.K X.mg X.base x C fl)(hr:qS j X.A)(hj:2<=j)(ha:PA X (e::es) t)(hg:Gl X x:=by rfl)
  (PK:(x == ("__debug__":Str))=false:=by decide)(he:aN (e::es) X.env=(false,cu e X.env)::aN es X.env:=by rfl)(vm:(c7 pos (aN es X.env)).any (·.1)=false:=by rfl):
  PE X (.Call (.Name x p) (e::es) [] pos) (aeP C fl t):=by
 obtain⟨f,fd,M,F,b⟩:=h.mkr
 intro pins s σ H Q I hw
 refine cZ (xQ I hg h.nm ?_ PK)
 refine dJ (h₀:=X.base) I.ok.mod.Zj M.kp (pM (ha pos pins s σ H _ I hw) λ us s1 ⟨vs,H1,I1,r,hl,q⟩=>⟨I1.Fe,?_⟩) he vm
 refine Hf (E:=E0) M F (hr.mono hj) b .nil (λ _ _ _ _ _ _ _ z=>z.elim) I1 r λ y dy hy hdy ne=>?_
 refine⟨y,dy,vs,by rw[bD],hl,mZ,λ H' h1 h2=>⟨rfl,q y dy H' hy h1 (m7.made hy hdy h2)⟩⟩
end L2
namespace oh
theorem NY:m9 ["self","kind","value","place"] ["self","kind","value","place"] (m5 BQ):=qh
theorem NZ{f C:ag}{fd:bK}(F:pI K "__init__" "Piece.__init__" BQ f fd)(cl:GL K C)(na:∀g∈(["kind","value","place"]:List Str),oC K C g):nQ P w K mg base oG 1 f fd ["self","kind","value","place"] (Hv C ["kind","value","place"]):=by
 refine F.ok NY (λ vs H Q E h=>?_) (λ oW A outer s H vs Q E hr h=>?_)
 ·obtain⟨x,dx,args,rfl,hl,_⟩:=h
  rw[aD,hl];rfl
 ·obtain⟨x,dx,args,rfl,hl,hx,k⟩:=h
  match args,hl with
  |[a,b,c],_=>
   have n1:=na "kind" (by simp)
   have n2:=na "value" (by simp)
   have n3:=na "place" (by simp)
   refine⟨_,mX (pU (pv 0) (pv 1) rfl) (mX (pU (pv 0) (pv 2) rfl) (m6 (pU (pv 0) (pv 3) rfl))),?_⟩
   refine⟨_,rfl,_,rfl,x,C,dx,_,rfl,hx,cl,n1,(by show 0<1000;decide),_,rfl,_,rfl,x,C,dx,_,rfl,mZ,cl,n2,(by show 1<1000;decide),_,rfl,_,rfl,x,C,dx,_,rfl,mZ,cl,n3,(by show 2<1000;decide),?_⟩
   refine k _ mZ λ b o e hb=>?_
   rw[m4 hb,m4 hb,m4 hb];exact e
inductive Pc where
 |word (w:List Nat)|num (n:Nat)|stop|bad|fin
abbrev strOf(w:List Nat):Str:=⟨w.toArray⟩
def Pc.kd:Pc->V
 | .word _=>.str "word" | .num _=>.str "number" | .stop=>.str "stop" | .bad=>.str "bad" | .fin=>.str "end"
def Pc.vl:Pc->V
 | .word w=>.str (strOf w)| .num n=>.int n|_=>.qA
abbrev JV:List Str:=["kind","value","place"]
def rE(C:ag)(H:Hp)(a:ag)(p:Pc×Nat):Prop:=∃dx,H a=some (.ins C dx (JV.zip [p.1.kd,p.1.vl,.int p.2]))
def ab8(C:ag)(H:Hp)(Q:VK)(p:Pc×Nat):Prop:=∀H' x,m7 H H'->H x=none->rE C H' x p->Q (.ref x) H'
def zW(t:List Nat)(i e:Nat):Pc:=if 8<e-i then .bad else .word ((t.drop i).take (e-i))
def Fl(K:ah)(C:ag):Sp:=λ vs H Q _=>∃(a:ag) (t:List Nat) (i e:Nat),vs=[.ref a,.int i,.int e]/\nE K H a (nX t)/\i<=e/\e<=t.length/\t.length<=2000/\(∀c∈(t.drop i).take (e-i),97<=c/\c<=122)/\ab8 C H Q (zW t i e,i)
abbrev Hw:List Str:=["text","start","end","letters","byte"]
theorem Fm:m9 Hw ["text","start","end"] (m5 xX):=qh
theorem Tf(t:List Nat){i e:Nat}(h1:i<=e)(h2:e<=t.length):BE (nX t) (some (i:Int)) (some (e:Int))=nX ((t.drop i).take (e-i)):=by
 unfold BE
 rw[HT.GN,HT.GN,aa,fO (aT h1 h2),fO h2,<-lY,<-lX]
theorem Qv{c:Nat}(h1:97<=c)(h2:c<=122):Y1 (Str.ofString "abcdefghijklmnopqrstuvwxyz").cps.toList ((c:Int)-97)=some c:=by
 obtain⟨k,rfl⟩:∃k,c=97+k:=⟨c-97,by omega⟩
 have hk:k<26:=by omega
 have e:((97+k:Nat):Int)-97=(k:Int):=by omega
 rw[e]
 have all:∀k:Nat,k<26->Y1 (Str.ofString "abcdefghijklmnopqrstuvwxyz").cps.toList (k:Int)=some (97+k):=by decide +kernel
 exact all k hk
theorem Fn:∀u:List Nat,TL.Fh [] ((u.map λ c=>(⟨#[c]⟩:Str)).map TL.tl)=u
 |[]=>rfl
 |[c]=>rfl
 |c::d::r=>by
  have:=Fn (d::r)
  exact congrArg (c::·) this
theorem Qw(u:List Nat):Txt.join "" (u.map λ c=>(⟨#[c]⟩:Str))=strOf u:=by
 rw[TL.join_eq]
 have h:=TL.GR "" (u.map λ c=>(⟨#[c]⟩:Str))
 rw[show TL.tl ("":Str)=[]from rfl,Fn]at h
 exact TL.Qp h
theorem N0:∀u:List Nat,(u.map ((λ z:Str=>z.length) ∘ λ c=>(⟨#[c]⟩:Str))).sum=u.length
 |[]=>rfl
 |c::r=>by
  rw[aH,iD,N0 r,aD]
  show 1+ _=_
  omega
theorem ou{t:List Nat}{i:Nat}{x:V}(h:(nX t)[i]? =some x):∃c,t[i]? =some c/\x=V.int (c:Nat):=by
 rw[ak]at h
 cases q:t[i]? with
 |none=>rw[q]at h;cases h
 |some c=>rw[q]at h;exact⟨c,rfl,(Option.some.inj h).symm⟩
theorem N1{f C:ag}{fd:bK}(F:pI K "word_piece" "word_piece" xX f fd)(R:Rec P w K mg base "Piece" C JV)(g1:oF mg "LONGEST_WORD" 8)(g2:Bh mg "BAD" "bad")(g3:Bh mg "WORD" "word")(g4:Bh mg "LETTERS" "abcdefghijklmnopqrstuvwxyz")(g5:oF mg "FIRST_LETTER" 97):
  nQ P w K mg base oG 3 f fd ["text","start","end"] (Fl K C):=by
 refine F.ok Fm (λ vs H Q E h=>?_) (λ oW A outer s H vs Q E hr h=>?_)
 ·obtain⟨a,t,i,e,rfl,_⟩:=h
  rfl
 ·obtain⟨a,t,i,e,rfl,hs,h1,h2,h3,hl,k⟩:=h
  have nd:=Fm.nd
  refine⟨_,mX (pj (oq Bj (oj sG (pv 2) (pv 1)) (nU g1) (oK _)) (m6 (nj (vw R hr (by decide) (mW (wu g2) (mW zE (mW (pv 1) mY)))))) nZ)
   (mX (zN (i:=3) (own:=[("byte",4)]) rfl nd rfl rfl rfl (oM (C0 GP (pv 0) (wm (pv 1)) (wm (pv 2)))) (by exact pC.of (N:=Hw) (sc:=m5 xX) (by decide +kernel))
    (λ _ _ _ _ _=>nA (i:=4) nd rfl (Or.inl rfl)) (λ _ _ _ _ _=>oR) (λ _ _ _ _ _=>o_ abD (wu g4) (oj sG (pv 4) (nU g5)) (λ _ _=>rfl)))
   (m6 (nj (vw R hr (by decide) (mW (wu g3) (mW (LP qo (pv 3)) (mW (pv 1) mY))))))),?_⟩
  refine⟨_,rfl,_,rfl,_,_,rfl,rfl,_,_,rfl,rfl,_,rfl,p_ (λ hc=>?_) λ hc=>?_⟩
  ·have hc:=of_decide_eq_true hc
   refine⟨_,rfl,rfl,λ x dx H2 hx C7 sm=>k H2 x sm hx ⟨dx,?_⟩⟩
   rw[C7]
   unfold zW
   rw[if_pos (by omega)]
   rfl
  ·have hc:¬ (8:Int)<(e:Int)-(i:Int):=λ q=>hc (decide_eq_true q)
   have hw:zW t i e= .word ((t.drop i).take (e-i)):=by unfold zW;rw[if_neg (by omega)]
   refine⟨_,rfl,_,rfl,_,rfl,_,rfl,_,rfl,a,_,rfl,hs,λ p hp=>⟨p,rfl,⟨_,nE.of mZ⟩,?_⟩⟩
   rw[Tf t h1 h2]
   generalize hu:(t.drop i).take (e-i)=u at hl hw ⊢
   have hul:u.length<=8:=by rw[<-hu,bW];omega
   refine oY (oS (K:=K) (a:=p) (xs:=nX u) (nE.of mZ)) (u.map λ c=>V.str ⟨#[c]⟩) (by simp) (by rw[aa,aA];omega) (λ j x y H3 R3 N3 hy sm hF kk=>?_) (λ D H3 hD sm uC=>?_)
   ·obtain⟨c,hc1,rfl⟩:=ou hF
    rw[ak,hc1]at hy
    cases hy
    have Ec:=hl c (aC hc1)
    refine⟨rfl,sD ?_⟩
    refine⟨_,rfl,_,_,rfl,rfl,_,_,_,rfl,rfl,(by decide),Qv Ec.1 Ec.2,kk H3 (m7.refl _)⟩
   ·have wc:m7 H H3:=(m7.new hp).trans sm
    have hDH:H D=none:=(m7.new hp).free hD
    refine⟨⟨_,rfl⟩,_,rfl,_,D,u.map (λ c=>(⟨#[c]⟩:Str)),rfl,rfl,.inl (nE.of (by rw[uC,aW];rfl)),?_,_,rfl,rfl,λ x dx H4 hx hx4 Nm=>?_⟩
    ·rw[aW,aa]
     have e1:=N0 u
     rw[e1]
     show _+ _*0<=_
     omega
    ·refine k H4 x (wc.trans Nm) (wc.free hx) ⟨dx,?_⟩
     rw[hx4,hw]
     show some (HO.ins C dx (JV.zip [V.str "word",V.str (Txt.join "" (u.map λ c=>(⟨#[c]⟩:Str))),V.int i]))=_
     rw[Qw]
     rfl
theorem Qx(l:List Nat)(c:Nat):cU (l++[c])=10*cU l+(c-48):=by
 unfold cU
 rw[gu];rfl
theorem W_:∀(l:List Nat),(∀c∈l,48<=c/\c<=57)->l.length<=4->cU l<10000:=by
 intro l h hl
 have step:∀(l:List Nat) (n:Nat),(∀c∈l,48<=c/\c<=57)->l.foldl (λ n c=>10*n+(c-48)) n<(n+1)*10 ^ l.length:=by
  intro l
  induction l with
  |nil=>intro n _;simp
  |cons c r ih=>
   intro n h
   have h1:=h c (by simp)
   have h2:=ih (10*n+(c-48)) (λ d hd=>h d (by simp[hd]))
   rw[ck,aD,fY]
   refine aU h2 ?_
   rw[f6 (10 ^ r.length) 10,<-fF]
   exact c6 _ (by omega)
 have h3:=step l 0 h
 unfold cU
 have h4:10 ^ l.length<=10 ^ 4:=dw (by decide) hl
 omega
def Hx(t:List Nat)(i e:Nat):Pc:=if 4<e-i\/(1<e-i/\t[i]? =some 48)then .bad else .num (cU ((t.drop i).take (e-i)))
def Bk(K:ah)(C:ag):Sp:=λ vs H Q _=>∃(a:ag) (t:List Nat) (i e:Nat),vs=[.ref a,.int i,.int e]/\nE K H a (nX t)/\i<e/\e<=t.length/\t.length<=2000/\(∀c∈(t.drop i).take (e-i),48<=c/\c<=57)/\ab8 C H Q (Hx t i e,i)
abbrev L4:List Str:=["text","start","end","length","number","byte"]
theorem Bl:m9 L4 ["text","start","end"] (m5 xY):=qh
theorem JW{f C:ag}{fd:bK}(F:pI K "number_piece" "number_piece" xY f fd)(R:Rec P w K mg base "Piece" C JV)(g1:oF mg "LONGEST_NUMBER" 4)(g2:oF mg "FIRST_DIGIT" 48)(g3:Bh mg "BAD" "bad")(g4:Bh mg "NUMBER" "number"):
  nQ P w K mg base oG 3 f fd ["text","start","end"] (Bk K C):=by
 refine F.ok Bl (λ vs H Q E h=>?_) (λ oW A outer s H vs Q E hr h=>?_)
 ·obtain⟨a,t,i,e,rfl,_⟩:=h
  rfl
 ·obtain⟨a,t,i,e,rfl,hs,h1,h2,h3,hl,k⟩:=h
  have nd:=Bl.nd
  refine⟨_,mX (m8 (i:=3) nd rfl (Or.inl rfl) (oj sG (pv 2) (pv 1)))
   (mX (pj (PW.pt (Wf (oq Bj (pv 3) (nU g1) (oK _)) (PZ (PW.pt (Eg (oq Bj (pv 3) nO (oK _)) (AO (oq uc (o_ og (pv 0) (pv 1) (λ _ _=>rfl)) (nU g2) (oK _))))))))
    (m6 (nj (vw R hr (by decide) (mW (wu g3) (mW zE (mW (pv 1) mY)))))) nZ)
   (mX (m8 (i:=4) nd rfl (Or.inl rfl) nO)
   (mX (qB PassesOwn.never rfl (oM (C0 GP (pv 0) (wm (pv 1)) (wm (pv 2)))) (nA (i:=5) nd rfl (Or.inl rfl))
    (m6 (m8 (i:=4) nd rfl (Or.inl rfl) (oj sG (oj qV (oj wQ (pv 4) nO) (pv 5)) (nU g2)))))
   (m6 (nj (vw R hr (by decide) (mW (wu g4) (mW (pv 4) (mW (pv 1) mY))))))))),?_⟩
  have EF:t[i]? =some t[i]:=af (by omega)
  refine⟨_,rfl,_,rfl,_,_,rfl,rfl,_,rfl,_,_,rfl,rfl,_,rfl,?_⟩
  have bad:∀H2 x dx,(4<e-i\/(1<e-i/\t[i]? =some 48))->H x=none->H2 x=some (.ins C dx (JV.zip [.str "bad",.qA,.int i]))->m7 H H2->Q (.ref x) H2:=λ H2 x dx hc hx C7 sm=>by
   refine k H2 x sm hx ⟨dx,?_⟩
   rw[C7,show Hx t i e= .bad from if_pos hc]
   rfl
  refine p_ (λ hc=>tp ⟨_,rfl,rfl,λ x dx H2 hx C7 sm=>bad H2 x dx (.inl (by have:=of_decide_eq_true hc;omega)) hx C7 sm⟩) λ hc=>⟨_,rfl,_,_,rfl,rfl,_,rfl,p_ (λ hd=>⟨_,rfl,_,rfl,a,_,_,_,rfl,rfl,hs,ot (oU EF),rfl,_,rfl,
   p_ (λ he=>⟨_,rfl,rfl,λ x dx H2 hx C7 sm=>bad H2 x dx (.inr ⟨by have:=of_decide_eq_true hd;omega,by rw[EF];have:=V.int.inj (of_decide_eq_true he);exact congrArg some (by omega)⟩) hx C7 sm⟩) λ he=>?_⟩) λ hd=>rJ ?_⟩
  all_goals
   have nb:¬ (4<e-i\/(1<e-i/\t[i]? =some 48)):=by
    have hc:¬ (4:Int)<(e:Int)-i:=λ q=>hc (decide_eq_true q)
    rintro(q|⟨q1,q2⟩)
    ·omega
    ·first
      |(have hd:¬ (1:Int)<(e:Int)-i:=λ q=>hd (decide_eq_true q)
        omega)
      |(rw[EF]at q2
        have q3:=Option.some.inj q2
        exact he (decide_eq_true (by rw[q3];rfl)))
   have hw:Hx t i e= .num (cU ((t.drop i).take (e-i))):=if_neg nb
   refine⟨_,rfl,_,rfl,_,rfl,_,rfl,_,rfl,a,_,rfl,hs,λ p hp=>⟨p,rfl,⟨_,nE.of mZ⟩,?_⟩⟩
   rw[Tf t (fb h1) h2]
   have hul:((t.drop i).take (e-i)).length<=4:=by rw[bW];omega
   generalize hu:(t.drop i).take (e-i)=u at hl hw hul ⊢
   refine rh (K:=K) (a:=p) (xs:=nX u) (λ j σ H'=>∃b:Option V,H'=upd H p (.lst (nX u))/\σ=[some (.ref a),some (.int i),some (.int e),some (.int ((e:Int)-i)),some (.int (cU (u.take j):Nat)),b])
    ⟨none,rfl,rfl⟩ (λ j σ H' _ ⟨b,z,_⟩=>by rw[z];exact nE.of mZ) ?_ ?_
   ·rintro j x σ H' hx ⟨b,rfl,rfl⟩
    obtain⟨c,hc1,rfl⟩:=ou hx
    have Ec:=hl c (aC hc1)
    have hv:cU (u.take j)<10000:=W_ _ (λ d hd=>hl d (j_ hd)) (by rw[bW];omega)
    refine⟨_,rfl,_,_,rfl,rfl,.inl ⟨by omega,by omega⟩,_,rfl,_,_,rfl,rfl,_,_,rfl,rfl,some (.int c),rfl,?_⟩
    have e1:u.take (j+1)=u.take j++[c]:=by rw[bZ,hc1];rfl
    rw[e1,Qx]
    show[_,_,_,_,some (V.int (((cU (u.take j):Nat):Int)*10+(c:Int)-48)),_]=_
    rw[show((cU (u.take j):Nat):Int)*10+(c:Int)-48=((10*cU (u.take j)+(c-48):Nat):Int) by omega]
   ·rintro σ H' ⟨b,rfl,rfl⟩
    rw[aa,dj]
    refine⟨_,rfl,_,rfl,rfl,λ x dx H4 hx hx4 Nm=>?_⟩
    refine k H4 x ((m7.new hp).trans Nm) ((m7.new hp).free hx) ⟨dx,?_⟩
    rw[hx4,hw]
    rfl
end oh
namespace L2
theorem ZV{X:Cx}(hc:X.calm=true):zH X (.builtin "max") (λ xs H Q=>∃i j k:Int,xs=[.int i,.int j,.int k]/\Q (.int (max i (max j k))) H):=by
 intro pins s σ H xs us Q I r h
 obtain⟨i,j,k,rfl,q⟩:=h
 cases r with
 |cons r1 r=>
  cases r with
  |cons r2 r=>
   cases r with
   |cons r3 r=>
    cases r
    obtain⟨t1,rfl⟩:=r1
    obtain⟨t2,rfl⟩:=r2
    obtain⟨t3,rfl⟩:=r3
    refine max_three_ints (I.ok.hd hc) λ h' tk hk=>⟨_,H,I.kept hk,?_,q⟩
    by_cases h1:j > i
    ·rw[if_pos h1]
     by_cases h2:k > j
     ·rw[if_pos h2];exact⟨t3,by rw[show max i (max j k)=k by omega]⟩
     ·rw[if_neg h2];exact⟨t2,by rw[show max i (max j k)=j by omega]⟩
    ·rw[if_neg h1]
     by_cases h2:k > i
     ·rw[if_pos h2];exact⟨t3,by rw[show max i (max j k)=k by omega]⟩
     ·rw[if_neg h2];exact⟨t1,by rw[show max i (max j k)=i by omega]⟩
end L2
namespace L2
def Gives(ta:TE)(σ:L2.St)(H:Hp)(v:V):Prop:=∀Q:VK,Q v H->ta σ H Q
theorem gv{i:Nat}{σ:L2.St}{H:Hp}{v:V}(h:σ[i]? =some (some v):=by rfl):Gives (Zl i) σ H v:=λ Q q=>⟨v,h,q⟩
theorem gc{σ:L2.St}{H:Hp}{v:V}:Gives (tC v) σ H v:=λ Q q=>q
theorem N2{σ:L2.St}{H:Hp}{ta tb tc:TE}{lo x hi:Int}{t u:TS}{D:Ends}(ha:Gives ta σ H (.int lo))(hb:Gives tb σ H (.int x))(hc:Gives tc σ H (.int hi))(h1:lo<=x/\x<=hi->t D σ H)(h2:¬ (lo<=x/\x<=hi)->u D σ H):
  abm (SA (Ha (Sw λ i j=>.bl (decide (i<=j))) (Sw λ i j=>.bl (decide (i<=j))) ta tb tc)) t u D σ H:=by
 refine ha _ (hb _ ⟨_,_,rfl,rfl,_,rfl,p_ (λ a=>hc _ ⟨_,_,rfl,rfl,_,rfl,?_⟩) λ a=>⟨_,rfl,rJ (h2 λ z=>a (decide_eq_true z.1))⟩⟩)
 exact p_ (λ z=>h1 ⟨of_decide_eq_true a,of_decide_eq_true z⟩) λ z=>h2 λ y=>z (decide_eq_true y.2)
end L2
namespace oh
def nY(t:List Nat)(i:Nat):Nat:=max (i+pf t i 97 122) (max (i+pf t i 48 57) (i+1))
def Hy(K:ah):Sp:=λ vs H Q _=>∃(a:ag) (t:List Nat) (i:Nat),vs=[.ref a,.int i]/\nE K H a (nX t)/\i<=t.length/\Q (.int (nY t i:Nat)) H
abbrev UI:List Str:=["text","start","word_end","number_end"]
theorem Hz:m9 UI ["text","start"] (m5 Ex):=qh
theorem Qy(F:pI K "piece_end" "piece_end" Ex f fd)(R:rB P w K mg base oG 1 "run_end" ["text","start","low","high"] (NW K))(g1:oF mg "FIRST_LETTER" 97)(g2:oF mg "LAST_LETTER" 122)(g3:oF mg "FIRST_DIGIT" 48)(g4:oF mg "LAST_DIGIT" 57)(aeQ:mg "max"=none):
  nQ P w K mg base oG 2 f fd ["text","start"] (Hy K):=by
 refine F.ok Hz (λ vs H Q E h=>?_) (λ oW A outer s H vs Q E hr h=>?_)
 ·obtain⟨a,t,i,rfl,_⟩:=h
  rfl
 ·obtain⟨a,t,i,rfl,hs,h1,k⟩:=h
  have nd:=Hz.nd
  refine⟨_,mX (m8 (i:=2) nd rfl (Or.inl rfl) (nv (E:=E0) R hr (by decide) nr (mW (pv 0) (mW (pv 1) (mW (nU g1) (mW (nU g2) mY))))))
   (mX (m8 (i:=3) nd rfl (Or.inl rfl) (nv (E:=E0) R hr (by decide) nr (mW (pv 0) (mW (pv 1) (mW (nU g3) (mW (nU g4) mY))))))
   (m6 (nj (nM (ZV rfl) rfl aeQ lx (mW (pv 2) (mW (pv 3) (mW (oj qV (pv 1) nO) mY))))))),?_⟩
  refine⟨_,rfl,_,rfl,a,t,i,97,122,rfl,hs,h1,_,rfl,_,rfl,a,t,i,48,57,rfl,hs,h1,_,rfl,_,rfl,_,rfl,_,_,rfl,rfl,_,_,_,rfl,?_⟩
  show Q (.int _) H
  rw[show max (((i+pf t i 97 122:Nat):Int)) (max (((i+pf t i 48 57:Nat):Int)) ((i:Int)+1))=((nY t i:Nat):Int) by unfold nY;omega]
  exact k
def pieceAt(t:List Nat)(i c:Nat):Pc:=if 97<=c/\c<=122 then zW t i (nY t i)else if 48<=c/\c<=57 then Hx t i (nY t i)else if c=59 then .stop else .bad
theorem Tg{t:List Nat}{i lo hi e:Nat}(he:e=i+pf t i lo hi):∀c∈(t.drop i).take (e-i),lo<=c/\c<=hi:=by
 have h1:e-i=pf t i lo hi:=by omega
 rw[h1]
 unfold pf
 have h2:=gZ (p:=λ c=>decide (lo<=c) && decide (c<=hi)) (l:=t.drop i)
 rw[<-List.prefix_iff_eq_take.mp h2]
 intro c hc
 have:=List.all_takeWhile (p:=λ c=>decide (lo<=c) && decide (c<=hi)) (l:=t.drop i)
 have h3:=List.all_eq_true.mp this c hc
 simpa using h3
theorem HC{t:List Nat}{i c:Nat}(h:t[i]? =some c)(hc:97<=c/\c<=122):nY t i=i+pf t i 97 122:=by
 unfold nY
 have h1:=rn (lo:=97) (hi:=122) h
 have h2:=rn (lo:=48) (hi:=57) h
 rw[if_pos hc]at h1
 rw[if_neg (by omega)]at h2
 omega
theorem Kv{t:List Nat}{i c:Nat}(h:t[i]? =some c)(hc:48<=c/\c<=57):nY t i=i+pf t i 48 57:=by
 unfold nY
 have h1:=rn (lo:=97) (hi:=122) h
 have h2:=rn (lo:=48) (hi:=57) h
 rw[if_pos hc]at h2
 rw[if_neg (by omega)]at h1
 omega
theorem vx{t:List Nat}{i:Nat}(h:i<t.length):i<nY t i/\nY t i<=t.length:=by
 unfold nY
 have h1:=Ku t i 97 122
 have h2:=Ku t i 48 57
 omega
def Kw(K:ah)(C:ag):Sp:=λ vs H Q _=>∃(a:ag) (t:List Nat) (i c:Nat),vs=[.ref a,.int i,.int (nY t i:Nat)]/\nE K H a (nX t)/\t[i]? =some c/\t.length<=2000/\ab8 C H Q (pieceAt t i c,i)
abbrev Xa:List Str:=["text","start","end","byte"]
theorem Kx:m9 Xa ["text","start","end"] (m5 Ho):=qh
theorem UJ{f C:ag}{fd:bK}(F:pI K "piece_at" "piece_at" Ho f fd)(R:Rec P w K mg base "Piece" C JV)(W:rB P w K mg base oG 3 "word_piece" ["text","start","end"] (Fl K C))(N:rB P w K mg base oG 3 "number_piece" ["text","start","end"] (Bk K C))
  (g1:oF mg "FIRST_LETTER" 97)(g2:oF mg "LAST_LETTER" 122)(g3:oF mg "FIRST_DIGIT" 48)(g4:oF mg "LAST_DIGIT" 57)(g5:oF mg "SEMICOLON" 59)(g6:Bh mg "STOP" "stop")(g7:Bh mg "BAD" "bad"):
  nQ P w K mg base oG 4 f fd ["text","start","end"] (Kw K C):=by
 refine F.ok Kx (λ vs H Q E h=>?_) (λ oW A outer s H vs Q E hr h=>?_)
 ·obtain⟨a,t,i,c,rfl,_⟩:=h
  rfl
 ·obtain⟨a,t,i,c,rfl,hs,EF,h3,k⟩:=h
  have nd:=Kx.nd
  refine⟨_,mX (m8 (i:=3) nd rfl (Or.inl rfl) (o_ og (pv 0) (pv 1) (λ _ _=>rfl)))
   (mX (pj (vk p9 p9 (nU g1) (pv 3) (nU g2)) (m6 (nj (nv (E:=E0) W hr (by decide) nr (mW (pv 0) (mW (pv 1) (mW (pv 2) mY)))))) nZ)
   (mX (pj (vk p9 p9 (nU g3) (pv 3) (nU g4)) (m6 (nj (nv (E:=E0) N hr (by decide) nr (mW (pv 0) (mW (pv 1) (mW (pv 2) mY)))))) nZ)
   (mX (pj (oq uc (pv 3) (nU g5) (oK _)) (m6 (nj (vw R hr (by decide) (mW (wu g6) (mW zE (mW (pv 1) mY)))))) nZ)
   (m6 (nj (vw R hr (by decide) (mW (wu g7) (mW zE (mW (pv 1) mY))))))))),?_⟩
  have hi:i<t.length:=(List.getElem?_eq_some_iff.mp EF).1
  have eb:=vx hi
  refine⟨_,rfl,_,rfl,a,_,_,_,rfl,rfl,hs,ot (oU EF),?_⟩
  refine N2 gc gv gc (λ hc=>?_) λ hc=>?_
  ·have hc:97<=c/\c<=122:=by omega
   refine⟨_,rfl,_,rfl,_,rfl,a,t,i,_,rfl,hs,fb eb.1,eb.2,h3,Tg (HC EF hc),?_⟩
   rw[show zW t i (nY t i)=pieceAt t i c from(if_pos hc).symm];exact k
  have n1:¬ (97<=c/\c<=122):=by omega
  refine N2 gc gv gc (λ hc=>?_) λ hc=>?_
  ·have hc:48<=c/\c<=57:=by omega
   refine⟨_,rfl,_,rfl,_,rfl,a,t,i,_,rfl,hs,eb.1,eb.2,h3,Tg (Kv EF hc),?_⟩
   rw[show Hx t i (nY t i)=pieceAt t i c by unfold pieceAt;rw[if_neg n1,if_pos hc]];exact k
  have n2:¬ (48<=c/\c<=57):=by omega
  refine⟨_,rfl,rfl,_,rfl,p_ (λ hc=>?_) λ hc=>?_⟩
  ·have hc:c=59:=by have:=V.int.inj (of_decide_eq_true hc);omega
   refine⟨_,rfl,rfl,λ x dx H2 hx C7 sm=>k H2 x sm hx ⟨dx,?_⟩⟩
   rw[C7];unfold pieceAt;rw[if_neg n1,if_neg n2,if_pos hc];rfl
  ·have hc:¬ c=59:=λ q=>hc (decide_eq_true (by rw[q];rfl))
   refine⟨_,rfl,rfl,λ x dx H2 hx C7 sm=>k H2 x sm hx ⟨dx,?_⟩⟩
   rw[C7];unfold pieceAt;rw[if_neg n1,if_neg n2,if_neg hc];rfl
end oh
namespace L2
def N6(K:ah)(mg:Str->Option ao)(x:Str)(a:ag)(xs:List V):Prop:=mg x=some (.ref a)/\∀H:Hp,Bi K H a xs
theorem Ky{X:Cx}{x:Str}{a:ag}{xs:List V}{pos:Pos}(hm:N6 X.K X.mg x a xs)(hg:Gl X x:=by rfl)(hd:(x == ("__debug__":Str))=false:=by decide):PE X (.Name x pos) (tC (.ref a)):=Lx hg hm.1 rfl hd
end L2
namespace oh
def qf(t:List Nat):Nat->Nat->List (Pc×Nat)
 |0,_=>[]
 |n+1,i=>match t[i]? with
  |none=>[]
  |some c=>(if c=32\/c=10 then[]else[(pieceAt t i c,i)])++qf t n (nY t i)
theorem qj{t:List Nat}{i:Nat}(h:t.length<=i):∀n,qf t n i=[]
 |0=>rfl
 |n+1=>by
  unfold qf
  rw[aI h]
theorem L5(t:List Nat):∀(n m i:Nat),t.length-i<=n->t.length-i<=m->qf t n i=qf t m i:=by
 intro n
 induction n with
 |zero=>
  intro m i h1 h2
  rw[qj (by omega),qj (by omega)]
 |succ n ih=>
  intro m i h1 h2
  cases m with
  |zero=>rw[qj (by omega),qj (by omega)]
  |succ m=>
   by_cases hi:i<t.length
   ·have EF:t[i]? =some t[i]:=af hi
    unfold qf
    rw[EF]
    have eb:=vx hi
    show _++qf t n (nY t i)=_++qf t m (nY t i)
    rw[ih m (nY t i) (by omega) (by omega)]
   ·rw[qj (by omega),qj (by omega)]
theorem Df{t:List Nat}{i c:Nat}(h:t[i]? =some c):qf t (t.length-i) i=(if c=32\/c=10 then[]else[(pieceAt t i c,i)])++qf t (t.length-nY t i) (nY t i):=by
 have hi:i<t.length:=(List.getElem?_eq_some_iff.mp h).1
 obtain⟨n,hn⟩:∃n,t.length-i=n+1:=⟨t.length-i-1,by omega⟩
 rw[hn,show qf t (n+1) i=(match t[i]? with
  |none=>[]
  |some c=>(if c=32\/c=10 then[]else[(pieceAt t i c,i)])++qf t n (nY t i))from rfl,h]
 have eb:=vx hi
 show _++qf t n (nY t i)=_
 rw[L5 t n (t.length-nY t i) (nY t i) (by omega) (by omega)]
def Cc(t:List Nat):List (Pc×Nat):=qf t t.length 0++[(.fin,t.length)]
def qC(C:ag)(H:Hp)(as:List ag)(ps:List (Pc×Nat)):Prop:=as.length=ps.length/\∀(j:Nat) (a:ag) (p:Pc×Nat),as[j]? =some a->ps[j]? =some p->rE C H a p
theorem rE.same{C:ag}{H H':Hp}{a:ag}{p:Pc×Nat}(h:rE C H a p)(s:m7 H H'):rE C H' a p:=let⟨dx,e⟩:=h;⟨dx,s _ _ e⟩
theorem qC.same{C:ag}{H H':Hp}{as:List ag}{ps:List (Pc×Nat)}(h:qC C H as ps)(s:∀a o,a∈as->H a=some o->H' a=some o):qC C H' as ps:=
 ⟨h.1,λ j a p h1 h2=>let⟨dx,e⟩:=h.2 j a p h1 h2;⟨dx,s a _ (aC h1) e⟩⟩
theorem qC.snoc{C:ag}{H:Hp}{as:List ag}{ps:List (Pc×Nat)}{a:ag}{p:Pc×Nat}(h:qC C H as ps)(h':rE C H a p):qC C H (as++[a]) (ps++[p]):=by
 refine⟨by simp[h.1],λ j b q h1 h2=>?_⟩
 by_cases hj:j<as.length
 ·rw[bp hj]at h1
  rw[bp (by rw[<-h.1];exact hj)]at h2
  exact h.2 j b q h1 h2
 ·rw[bg (by omega)]at h1
  rw[bg (by rw[<-h.1];omega)]at h2
  have e:j-as.length=0:=by
   obtain⟨z,_⟩:=List.getElem?_eq_some_iff.mp h1
   simp at z;omega
  rw[e]at h1
  rw[<-h.1,e]at h2
  cases h1;cases h2
  exact h'
def aa5(K:ah)(C:ag):Sp:=λ vs H Q _=>∃(a:ag) (t:List Nat),vs=[.ref a]/\nE K H a (nX t)/\t.length<=2000/\
 ∀H' p as,m7 H H'->H p=none->(∀x∈as,H x=none)->H' p=some (.lst (as.map V.ref))->qC C H' as (Cc t)->Q (.ref p) H'
abbrev aeR:List Str:=["text","pieces","at","end"]
theorem aa6:m9 aeR ["text"] (m5 ab6):=qh
theorem adF{f C b:ag}{fd:bK}(F:pI K "cut" "cut" ab6 f fd)(R:Rec P w K mg base "Piece" C JV)(PE':rB P w K mg base oG 2 "piece_end" ["text","start"] (Hy K))(PA':rB P w K mg base oG 4 "piece_at" ["text","start","end"] (Kw K C))
  (g1:N6 K mg "BLANKS" b [.int 32,.int 10])(g2:Bh mg "END" "end")(hlen:mg "len"=none):nQ P w K mg base oG 5 f fd ["text"] (aa5 K C):=by
 refine F.ok aa6 (λ vs H Q E h=>?_) (λ oW A outer s H vs Q E hr h=>?_)
 ·obtain⟨a,t,rfl,_⟩:=h
  rfl
 ·obtain⟨a,t,rfl,hs,h3,k⟩:=h
  have nd:=aa6.nd
  refine⟨_,mX (m8 (i:=1) nd rfl (Or.inl rfl) (nP mY)) (mX (m8 (i:=2) nd rfl (Or.inl rfl) nO)
   (mX (rM PassesOwn.never (oq G_ (pv 2) (nM nN rfl hlen aX (mW (pv 0) mY)) (oK _))
    (mX (m8 (i:=3) nd rfl (Or.inl rfl) (nv (E:=E0) PE' hr (by decide) nr (mW (pv 0) (mW (pv 2) mY))))
    (mX (pj (oq uG (o_ og (pv 0) (pv 2) (λ _ _=>rfl)) (Ky g1) (by with_unfolding_all rfl))
     (m6 (n_ (qT aG bc a_ pF (pv 1) (mW (nv (E:=E0) PA' hr (by decide) nr (mW (pv 0) (mW (pv 2) (mW (pv 3) mY)))) mY)))) nZ)
    (m6 (m8 (i:=2) nd rfl (Or.inl rfl) (pv 3))))))
   (mX (n_ (qT aG bc a_ pF (pv 1) (mW (vw R hr (by decide) (mW (wu g2) (mW zE (mW (nM nN rfl hlen aX (mW (pv 0) mY)) mY)))) mY)))
   (m6 (nj (pv 1)))))),?_⟩
  refine⟨aE _,λ p hp=>?_⟩
  refine⟨λ m σ H'=>∃(i:Nat) (en:Option V) (as:List ag) (ps:List (Pc×Nat)),σ=[some (.ref a),some (.ref p),some (.int i),en]/\m7 H H'/\H' p=some (.lst (as.map V.ref))/\(∀x∈as,H x=none/\x≠p)/\qC C H' as ps/\
   m=t.length-i/\i<=t.length/\ps.length<=i/\ps++qf t (t.length-i) i=qf t t.length 0,⟨t.length,0,none,[],[],rfl,m7.new hp,mZ,by simp,⟨rfl,λ j x q z=>by simp at z⟩,by omega,aE _,ax _,by simp⟩,?_⟩
  rintro m σ H' ⟨i,en,as,ps,rfl,sm,JX,fr,pa,rfl,hi,vm,heq⟩
  refine⟨_,rfl,_,rfl,a,_,rfl,.inl (sm.seq hs),_,_,rfl,rfl,_,rfl,p_ (λ hc=>?_) λ hc=>?_⟩
  ·have rN:i<t.length:=by
    have z:=of_decide_eq_true hc
    rw[aa]at z
    omega
   have EF:t[i]? =some t[i]:=af rN
   have eb:=vx rN
   have st:=Df EF
   refine⟨_,λ _ _ z=>z,_,rfl,_,rfl,a,t,i,rfl,sm.seq hs,hi,?_⟩
   refine⟨_,rfl,_,rfl,a,_,_,_,rfl,rfl,sm.seq hs,ot (oU EF),b,_,rfl,.inr (g1.2 _),rfl,rfl,_,rfl,p_ (λ hb=>?_) λ hb=>?_⟩
   ·have nb:¬ (t[i]=32\/t[i]=10):=by
     intro q
     rcases q with q|q <;> (rw[q]at hb;exact absurd hb (by decide))
    rw[if_neg nb]at st
    refine⟨_,rfl,.inl ⟨rfl,_,nE.of JX⟩,_,rfl,_,rfl,_,rfl,a,t,i,_,rfl,sm.seq hs,EF,h3,λ H2 x wc hx px=>?_⟩
    have ZA:H2 p=some (.lst (as.map V.ref)):=wc _ _ JX
    refine⟨p,_,_,rfl,rfl,ZA,?_,_,rfl,?_⟩
    ·rw[aa,pa.1,aA];omega
    ·have xp:x≠p:=λ q=>(by rw[q,JX]at hx;cases hx)
     refine⟨t.length-nY t i,by omega,nY t i,_,as++[x],ps++[(pieceAt t i t[i],i)],rfl,λ c o e=>?_,?_,?_,?_,rfl,eb.2,?_,?_⟩
     ·rw[m4 (nG e hp)];exact wc _ _ (sm _ _ e)
     ·rw[mZ,aF];rfl
     ·intro y hy
      rcases List.mem_append.mp hy with hy|hy
      ·exact fr y hy
      ·rw[List.mem_singleton.mp hy];exact⟨sm.free hx,xp⟩
     ·refine qC.snoc (pa.same λ c o hc e=>?_) ?_
      ·rw[m4 (fr c hc).2];exact wc _ _ e
      ·obtain⟨dx,e⟩:=px
       exact⟨dx,by rw[m4 xp];exact e⟩
     ·rw[aw];simp;omega
     ·rw[bB,<-st];exact heq
   ·have yb:t[i]=32\/t[i]=10:=by
     refine Decidable.byContradiction λ q=>hb ?_
     have q1:¬ t[i]=32:=λ z=>q (.inl z)
     have q2:¬ t[i]=10:=λ z=>q (.inr z)
     show(!(((32:Int) == ((t[i]:Nat):Int)) || (((10:Int) == ((t[i]:Nat):Int)) || false)))=true
     rw[show((32:Int) == ((t[i]:Nat):Int))=false from beq_eq_false_iff_ne.mpr (by omega),show((10:Int) == ((t[i]:Nat):Int))=false from beq_eq_false_iff_ne.mpr (by omega)]
     rfl
    rw[if_pos yb,gU]at st
    refine⟨_,rfl,t.length-nY t i,by omega,nY t i,_,as,ps,rfl,sm,JX,fr,pa,rfl,eb.2,by omega,?_⟩
    rw[<-st];exact heq
  ·have hge:t.length<=i:=by
    have z:¬ (i:Int)<((nX t).length:Int):=λ q=>hc (decide_eq_true q)
    rw[aa]at z
    omega
   rw[qj hge,bD]at heq
   refine⟨_,rfl,.inl ⟨rfl,_,nE.of JX⟩,_,rfl,a,_,rfl,.inl (sm.seq hs),rfl,λ x dx H2 hx C7 wc=>?_⟩
   have ZA:H2 p=some (.lst (as.map V.ref)):=wc _ _ JX
   have xp:x≠p:=λ q=>(by rw[q,JX]at hx;cases hx)
   refine⟨p,_,_,rfl,rfl,ZA,?_,_,rfl,?_⟩
   ·rw[aa,pa.1,aA];omega
   ·refine k _ p (as++[x]) (λ c o e=>?_) hp ?_ ?_ ?_
    ·rw[m4 (nG e hp)];exact wc _ _ (sm _ _ e)
    ·intro y hy
     rcases List.mem_append.mp hy with hy|hy
     ·exact(fr y hy).1
     ·rw[List.mem_singleton.mp hy];exact sm.free hx
    ·rw[mZ,aF];rfl
    ·unfold Cc
     rw[<-heq]
     refine qC.snoc (pa.same λ c o hc e=>?_) ⟨dx,?_⟩
     ·rw[m4 (fr c hc).2];exact wc _ _ e
     ·rw[m4 xp,C7,aa];rfl
end oh
namespace L2
def upA(t:TA):TA:=λ σ H Q=>∃Q1,t σ H Q1/\∀vs H1,Q1 vs H1->Q vs H1
theorem PA.up{X:Cx}{es:List bJ}{t:TA}(h:PA X es t):PA X es (upA t):=by
 intro pos pins s σ H Q I hw
 obtain⟨Q1,h1,h2⟩:=hw
 exact pM (h pos pins s σ H Q1 I h1) λ us s1 ⟨vs,H1,I1,r,q⟩=>⟨vs,H1,I1,r,h2 _ _ q⟩
end L2
namespace oh
structure t6(P:aJ)(w:aY)(K:ah)(mg:Str->Option ao)(base:bz)(C:ag):Prop where
 nm:mg "Wrong"=some (.ref C)
 ec:tH K C
 ty:fM K (.ref C)=some (.type "type")
 ng:oC K C "__getattr__"
 n1:oC K C "kind"
 n2:oC K C "place"
 mkx:∃f fd,ZR K C f/\nQ P w K mg base oG 1 f fd ["self","kind","place"] (Fj C)/\Binds K fd ["self","kind","place"] []
def ab9(C:ag)(E:XK)(t:TA):TS:=λ D σ H=>t σ H λ vs H1=>∃k p,vs=[k,p]/\∀H2 dx,H2 dx=some (wd k p)->NE H1 H2->E (.ref C) (some dx) H2
theorem vy{X:Cx}{C:ag}{E:XK}{t:TA}{ek ep:bJ}{p xC pos:Pos}{j:Nat}(W:t6 X.prog X.w X.K X.mg X.base C)(hc:X.calm=true)(hx:X.xe=XW X C E)(hr:qS j X.A)(hj:2<=j)(ha:PA X [ek,ep] t)(hg:Gl X "Wrong":=by rfl)
  (he:aN [ek,ep] X.env=(false,cu ek X.env)::aN [ep] X.env:=by rfl)(vm:(c7 xC (aN [ep] X.env)).any (·.1)=false:=by rfl):
  PS X (.Raise (some (.Call (.Name "Wrong" p) [ek,ep] [] xC)) none pos) (ab9 C E t):=by
 obtain⟨f,fd,M,F,b⟩:=W.mkx
 have z:=WQ (pos:=pos) (E:=E) hc hx W.ec W.ty (WO (pos:=xC) (p:=p) M F (hr.mono hj) hg W.nm b (nr (X:=X)) ha.up (by decide) he vm)
 intro pins s σ H D I h
 refine z pins s σ H D I ?_
 refine⟨_,h,λ vs H1 ⟨k,q,ev,kk⟩=>?_⟩
 subst ev
 refine⟨by show 2<=1000;decide,λ e he=>⟨e,.none,k,q,rfl,mZ,λ H2 dx h1 h2 ne=>⟨rfl,e,dx,rfl,h1,?_⟩⟩⟩
 exact kk H2 dx h2 ((NE.upd (.inl he)).trans ne)
end oh
namespace L2
def um(P:aJ)(w:aY)(K:ah)(mg:Str->Option ao)(base:bz)(CX:CV)(k:Nat)(C:ag)(m:Str)(ps:List Str)(sp:Sp):Prop:=
 ∃f fd,Meth K C m f/\nQ P w K mg base CX k f fd ps sp/\Binds K fd ps []
def tHm(C:ag)(m:Str)(sp:Sp)(E:XK)(ta:TE)(t:TA):TE:=λ σ H Q=>ta σ H λ x H1=>∃a dx fs,x= .ref a/\H1 a=some (.ins C dx fs)/\fs.lookup m=none/\t σ H1 λ vs H2=>sp (x::vs) H2 Q E
section
variable{X:Cx}{CX:CV}{E:XK}{k j:Nat}{C:ag}{m:Str}{ps:List Str}{sp:Sp}{o e:bJ}{es:List bJ}{ta:TE}{t:TA}{apos pos:Pos}
theorem pQ{pl:Sem Bool}(h:um X.prog X.w X.K X.mg X.base CX k C m ps sp)(c:GL X.K C)(hr:qS j X.A)(hj:k<=j)(hx:Passes CX X E)(ho:PE X o ta)(ha:PA X (e::es) t)
  (LA:aN (e::es) X.env=(false,cu e X.env)::aN es X.env:=by rfl)(vm:(c7 pos (aN es X.env)).any (·.1)=false:=by rfl)
  (ht:cu (.Call (.Attribute o m apos) (e::es) [] pos) X.env=(do
   let ov <-cu o X.env
   ir apos.atName
   let(f,first) <-gp [ov] (hX ov m pl)
   jo pos f first (c7 pos (aN (e::es) X.env)) (hZ pos (ff [] X.env))):=by rfl):
  PE X (.Call (.Attribute o m apos) (e::es) [] pos) (tHm C m sp E ta t):=by
 obtain⟨f,fd,M,F,b⟩:=h
 intro pins s σ H Q I hw
 have z:=Zt (pos:=pos) (apos:=apos) ho c M F (hr.mono hj) b .nil hx ha LA vm ht
 refine z pins s σ H Q I ?_
 have e2:(λ(x:V) (H1:Hp)=>∃a dx fs,x= .ref a/\H1 a=some (.ins C dx fs)/\fs.lookup m=none/\t σ H1 λ vs H2=>sp (x::(vs++[])) H2 Q E)=(λ(x:V) (H1:Hp)=>∃a dx fs,x= .ref a/\H1 a=some (.ins C dx fs)/\fs.lookup m=none/\t σ H1 λ vs H2=>sp (x::vs) H2 Q E):=by
  simp only[bD]
 show ta σ H _
 rw[e2];exact hw
theorem oV{pl:Sem Bool}(h:um X.prog X.w X.K X.mg X.base CX k C m ps sp)(c:GL X.K C)(hr:qS j X.A)(hj:k<=j)(hx:Passes CX X E)(ho:PE X o ta)
  (ht:cu (.Call (.Attribute o m apos) [] [] pos) X.env=(do
   let ov <-cu o X.env
   ir apos.atName
   let(f,first) <-gp [ov] (hX ov m pl)
   jo pos f first (c7 pos (aN [] X.env)) (hZ pos (ff [] X.env))):=by rfl):
  PE X (.Call (.Attribute o m apos) [] [] pos) (tHm C m sp E ta Wl):=by
 obtain⟨f,fd,M,F,b⟩:=h
 exact Wm (pos:=pos) (apos:=apos) ho c M F (hr.mono hj) b .nil hx ht
end
end L2
namespace oh
abbrev N7(l:ag)(i:Nat):List (Str×V):=[(Str.ofString "pieces",V.ref l),(Str.ofString "at",V.int (i:Nat))]
def Qz(CR CP:ag)(H:Hp)(r:ag)(tk:List (Pc×Nat)):Prop:=
 ∃dx l i as ps,H r=some (.ins CR dx (N7 l i))/\H l=some (.lst (as.map V.ref))/\qC CP H as ps/\ps.drop i=tk/\i<=ps.length
def sE(r:ag)(H H':Hp):Prop:=∀b o,H b=some o->b≠r->(∀φ,o≠ .ext φ)->H' b=some o
theorem sE.refl(r:ag)(H:Hp):sE r H H:=λ _ _ e _ _=>e
theorem sE.trans{r:ag}{H H1 H2:Hp}(a:sE r H H1)(b:sE r H1 H2):sE r H H2:=λ c o e n x=>b c o (a c o e n x) n x
theorem sE.of_same{r:ag}{H H1:Hp}(a:m7 H H1):sE r H H1:=λ c o e _ _=>a c o e
theorem sE.ne{r:ag}{H H1:Hp}(a:NE H H1):sE r H H1:=λ c o e _ x=>a c o e x
def Raise(C r:ag)(H:Hp)(E:XK)(k p:Nat):Prop:=∀H' dx,H' dx=some (wd (.int k) (.int p))->sE r H H'->E (.ref C) (some dx) H'
theorem Raise.mono{C r:ag}{H H1:Hp}{E:XK}{k p:Nat}(h:Raise C r H E k p)(b:sE r H H1):Raise C r H1 E k p:=λ H' dx h1 h2=>h H' dx h1 (b.trans h2)
def Th(CR CP:ag):Sp:=λ vs H Q _=>∃r p tk,vs=[.ref r]/\Qz CR CP H r (p::tk)/\∀a,rE CP H a p->Q (.ref a) H
theorem ZW:m9 ["self"] ["self"] (m5 xZ):=qh
theorem ZX(F:pI K "ahead" "Reader.ahead" xZ f fd)(cl:GL K CR)(n1:oC K CR "pieces")(n2:oC K CR "at"):nQ P w K mg base oG 1 f fd ["self"] (Th CR CP):=by
 refine F.ok ZW (λ vs H Q E h=>?_) (λ oW A outer s H vs Q E hr h=>?_)
 ·obtain⟨r,p,tk,rfl,_⟩:=h
  rfl
 ·obtain⟨r,p,tk,rfl,⟨dx,l,i,as,ps,h1,h2,h3,h4,h5⟩,k⟩:=h
  refine⟨_,m6 (nj (o_ og (nq (pv 0) rfl) (nq (pv 0) rfl) (λ _ _=>rfl))),?_⟩
  have hp:ps[i]? =some p:=by
   have z:=kG (xs:=ps) (i:=i) (j:=0)
   rw[h4]at z
   simpa using z.symm
  obtain⟨a,ha⟩:∃a,as[i]? =some a:=⟨_,af (by rw[h3.1];exact(List.getElem?_eq_some_iff.mp hp).1)⟩
  refine⟨_,rfl,r,CR,dx,_,_,rfl,h1,cl,n1,rfl,_,rfl,r,CR,dx,_,_,rfl,h1,cl,n2,rfl,l,_,_,_,rfl,rfl,nE.of h2,ot (by rw[ak,ha];rfl),k a (h3.2 i a p ha hp)⟩
def isW(p:Pc)(z:Str):Bool:=match p with
 | .word w=>decide (strOf w=z)
 |_=>false
structure vz(P:aJ)(w:aY)(K:ah)(mg:Str->Option ao)(base:bz)(CR CP:ag):Prop where
 cl:GL K CR
 n1:oC K CR "pieces"
 n2:oC K CR "at"
 pc:Rec P w K mg base "Piece" CP JV
def HD(CR CP:ag):Sp:=λ vs H Q _=>∃r z p tk,vs=[.ref r,.str z]/\Qz CR CP H r (p::tk)/\Q (.bl (isW p.1 z)) H
theorem N8:m9 ["self","word","piece"] ["self","word"] (m5 wU):=qh
theorem Ti(p:Pc):decide (p.kd=V.str (Str.ofString "word"))=(match p with | .word _=>true|_=>false):=by
 cases p <;> simp[Pc.kd] <;> decide
abbrev Hz1(P:aJ)(w:aY)(K:ah)(mg:Str->Option ao)(base:bz)(CR:ag)(CP:ag):Prop:=um P w K mg base oG 1 CR "ahead" ["self"] (Th CR CP)
theorem Xb(F:pI K "is_word" "Reader.is_word" wU f fd)(T:vz P w K mg base CR CP)(A1:Hz1 P w K mg base CR CP)(g:Bh mg "WORD" "word"):
  nQ P w K mg base oG 2 f fd ["self","word"] (HD CR CP):=by
 refine F.ok N8 (λ vs H Q E h=>?_) (λ oW A outer s H vs Q E hr h=>?_)
 ·obtain⟨r,z,p,tk,rfl,_⟩:=h
  rfl
 ·obtain⟨r,z,p,tk,rfl,hR,k⟩:=h
  have nd:=N8.nd
  have Ee:=T.pc.cl
  have m1:=T.pc.na "kind" (by simp)
  have m2:=T.pc.na "value" (by simp)
  refine⟨_,mX (m8 (i:=2) nd rfl (Or.inl rfl) (oV (E:=E0) A1 T.cl hr (by decide) nr (pv 0))) (m6 (nj (Lz (rR uc (nq (pv 2) rfl) (wu g) (oK _)) (Ly (rR uc (nq (pv 2) rfl) (pv 1) (oK _)))))),?_⟩
  obtain⟨dx,l,i,as,ps,h1,h2⟩:=id hR
  refine⟨_,rfl,r,dx,_,rfl,h1,rfl,r,p,tk,rfl,hR,λ a ⟨dp,ha⟩=>?_⟩
  refine⟨_,rfl,a,CP,dp,_,_,rfl,ha,Ee,m1,rfl,(by cases p.1 <;> rfl),_,rfl,?_⟩
  rw[Ti]
  cases hp:p.1 with
  |word w=>
   refine tp ⟨_,rfl,a,CP,dp,_,_,rfl,ha,Ee,m2,rfl,_,rfl,(by rw[hp];rfl),?_⟩
   rw[hp]at k ⊢
   have e:decide (Pc.vl (.word w)=V.str z)=decide (strOf w=z):=by
    show decide (V.str (strOf w)=V.str z)=_
    by_cases q:strOf w=z
    ·rw[decide_eq_true q,q];simp
    ·rw[decide_eq_false q,decide_eq_false (λ y=>q (V.str.inj y))]
   rw[e];exact k
  |num n=>rw[hp]at k;exact rJ k
  |stop=>rw[hp]at k;exact rJ k
  |bad=>rw[hp]at k;exact rJ k
  |fin=>rw[hp]at k;exact rJ k
def L6(CR CP C:ag):Sp:=λ vs H Q E=>Calm E/\∃r b p tk,vs=[.ref r,.bl b]/\Qz CR CP H r (p::tk)/\
 (b=true->∀H' a,Qz CR CP H' r tk->sE r H H'->rE CP H' a p->Q (.ref a) H')/\(b=false->Raise C r H E 1 p.2)
theorem Xc:m9 ["self","fits","piece"] ["self","fits"] (m5 zQ):=qh
theorem ab_(F:pI K "take" "Reader.take" zQ f fd)(T:vz P w K mg base CR CP)(W:t6 P w K mg base C)(A1:Hz1 P w K mg base CR CP)(g:oF mg "MISPLACED" 1):
  nQ P w K mg base (BJ P w C) 3 f fd ["self","fits"] (L6 CR CP C):=by
 refine F.V8 Xc (λ vs H Q E h=>?_) (λ vs H Q E h=>h.1) (λ oW A outer s H vs Q E hr h=>?_)
 ·obtain⟨_,r,b,p,tk,rfl,_⟩:=h
  rfl
 ·obtain⟨hE,r,b,p,tk,rfl,hR,kt,kf⟩:=h
  have nd:=Xc.nd
  have Ee:=T.pc.cl
  have m3:=T.pc.na "place" (by simp)
  refine⟨_,mX (m8 (i:=2) nd rfl (Or.inl rfl) (oV (E:=E0) A1 T.cl hr (by decide) nr (pv 0)))
   (mX (pj (vh (tG (pv 1))) (m6 (vy W rfl (Cx.oE _ _ _) hr (by decide) (mW (nU g) (mW (nq (pv 2) rfl) mY)))) nZ)
   (mX (Uo (pv 0) nO abz) (m6 (nj (pv 2))))),?_⟩
  obtain⟨dx,l,i,as,ps,h1,h2,h3,h4,h5⟩:=id hR
  refine⟨_,rfl,r,dx,_,rfl,h1,rfl,r,p,tk,rfl,hR,λ a pa=>?_⟩
  obtain⟨dp,ha⟩:=id pa
  refine⟨_,rfl,b,rfl,?_⟩
  cases b with
  |false=>
   refine tp ⟨_,rfl,a,CP,dp,_,_,rfl,ha,Ee,m3,rfl,_,_,rfl,λ H2 Xd hd ne=>?_⟩
   exact kf rfl H2 Xd hd (sE.ne ne)
  |true=>
   have rN:i<ps.length:=by
    refine Nat.lt_of_le_of_ne h5 λ q=>?_
    rw[q,ft]at h4;cases h4
   refine rJ ⟨_,rfl,r,CR,dx,_,_,rfl,h1,T.cl,T.n2,rfl,_,_,rfl,rfl,dx,_,h1,(by show 2<1000;decide),_,rfl,?_⟩
   have ra:∀b o,H b=some o->o≠ .ins CR dx (N7 l i)->b≠r:=λ b o e n q=>n (by rw[q,h1]at e;exact(Option.some.inj e).symm)
   refine kt rfl _ a ⟨dx,l,i+1,as,ps,?_,?_,⟨h3.1,λ j y q e1 e2=>?_⟩,?_,rN⟩ (λ b o e n _=>by rw[m4 n];exact e) ⟨dp,?_⟩
   ·rw[mZ];rfl
   ·rw[m4 (ra l _ h2 (by intro z;cases z))];exact h2
   ·obtain⟨dy,ey⟩:=h3.2 j y q e1 e2
    exact⟨dy,by rw[m4 (ra y _ ey (by intro z;cases z))];exact ey⟩
   ·rw[<-eX,h4];rfl
   ·rw[m4 (ra a _ ha (by intro z;cases z))];exact ha
inductive tJ (en:Nat):List (Pc×Nat)->cA->Prop
 |fin:tJ en [(.fin,en)] []
 |word {w:List Nat} {i:Nat} {tk:List (Pc×Nat)} {l:cA}:tJ en tk l->tJ en ((.word w,i)::tk) ((i,.word w)::l)
 |num {n i:Nat} {tk:List (Pc×Nat)} {l:cA}:tJ en tk l->tJ en ((.num n,i)::tk) ((i,.num n)::l)
 |semi {i:Nat} {tk:List (Pc×Nat)} {l:cA}:tJ en tk l->tJ en ((.stop,i)::tk) ((i,.semi)::l)
 |bad {i:Nat} {tk:List (Pc×Nat)}:tJ en ((.bad,i)::tk) [(i,.wrong)]
def JL(CR CP:ag)(en:Nat)(H:Hp)(r:ag)(l:cA):Prop:=∃tk,Qz CR CP H r tk/\tJ en tk l
def rg(CR CP C:ag)(en:Nat)(r:ag)(H:Hp)(Q:VK)(E:XK){α:Type}(val:α->Hp->V->Prop):Except Bad (α×cA)->Prop
 | .ok (x,l)=>∀H' v,JL CR CP en H' r l->sE r H H'->val x H' v->Q v H'
 | .error b=>Raise C r H E b.kind b.place
def L7(CR CP C:ag){α β:Type}(args:β->List V)(f:Nat->β->cA->Except Bad (α×cA))(val:ag->α->Hp->V->Prop):Sp:=λ vs H Q E=>Calm E/\∃r en b l,vs= .ref r::args b/\JL CR CP en H r l/\rg CR CP C en r H Q E (val CP) (f en b l)
abbrev ZY:ag->Unit->Hp->V->Prop:=λ _ _ _ v=>v= .qA
abbrev vInt:ag->Nat->Hp->V->Prop:=λ _ n _ v=>v= .int n
abbrev aa7:ag->Nat×List Nat->Hp->V->Prop:=λ CP p H v=>∃a,v= .ref a/\rE CP H a (.word p.2,p.1)
def un(x:Except Bad cA):Except Bad (Unit×cA):=x.map λ l=>((),l)
theorem oO(s:String):Str.ofString s=strOf (bX s):=by rw[Str.ofString_eq_toList];rfl
theorem A0{a b:List Nat}(h:strOf a=strOf b):a=b:=by
 have:=congrArg (λ z:Str=>z.cps.toList) h
 simpa using this
theorem Xe(w:List Nat)(s:String):isW (.word w) (Str.ofString s)=decide (w=bX s):=by
 show decide (strOf w=Str.ofString s)=_
 rw[oO]
 by_cases q:w=bX s
 ·rw[q];simp
 ·rw[decide_eq_false q,decide_eq_false λ z=>q (A0 z)]
theorem tJ.ahead{en:Nat}{tk:List (Pc×Nat)}{l:cA}(h:tJ en tk l):∃p t,tk=p::t/\p.2=placeOf en l:=by
 cases h <;> exact⟨_,_,rfl,rfl⟩
theorem tJ.isW{en:Nat}{p:Pc×Nat}{t:List (Pc×Nat)}{l:cA}(h:tJ en (p::t) l)(s:String):isW p.1 (Str.ofString s)=dC s l:=by
 cases h with
 |fin=>rfl
 |word h=>
  rw[Xe]
  unfold dC
  rename_i w i l
  show decide (w=bX s)=(some (Tok.word w) == some (Tok.word (bX s)))
  by_cases q:w=bX s
  ·rw[q];simp
  ·rw[decide_eq_false q]
   exact(beq_eq_false_iff_ne.mpr λ z=>q (Tok.word.inj (Option.some.inj z))).symm
 |num h=>rfl
 |semi h=>rfl
 |bad=>rfl
theorem tJ.UK{en:Nat}{p:Pc×Nat}{t:List (Pc×Nat)}{l:cA}(h:tJ en (p::t) l){s:String}(hw:dC s l=true):tJ en t (l.drop 1):=by
 cases h with
 |fin=>exact absurd hw (by simp[dC])
 |word h=>exact h
 |num h=>exact h
 |semi h=>exact h
 |bad=>exact absurd hw (by simp[dC])
abbrev HE(CR CP C:ag):Sp:=L7 CR CP C (λ s:String=>[.str (Str.ofString s)]) (λ en s l=>un (bN en s l)) ZY
theorem QA:m9 ["self","word"] ["self","word"] (m5 ui):=qh
abbrev Hz2(P:aJ)(w:aY)(K:ah)(mg:Str->Option ao)(base:bz)(C:ag)(CR:ag)(CP:ag):Prop:=um P w K mg base (BJ P w C) 3 CR "take" ["self","fits"] (L6 CR CP C)
theorem QB(F:pI K "take_word" "Reader.take_word" ui f fd)(T:vz P w K mg base CR CP)(TK:Hz2 P w K mg base C CR CP)(IW:um P w K mg base oG 2 CR "is_word" ["self","word"] (HD CR CP)):
  nQ P w K mg base (BJ P w C) 4 f fd ["self","word"] (HE CR CP C):=by
 refine F.V8 QA (λ vs H Q E h=>?_) (λ vs H Q E h=>h.1) (λ oW A outer s H vs Q E hr h=>?_)
 ·obtain⟨_,r,en,b,l,rfl,_⟩:=h
  rfl
 ·obtain⟨hE,r,en,s,l,rfl,⟨tk,hR,hT⟩,k⟩:=h
  have k:rg CR CP C en r H Q E (ZY CP) (un (bN en s l)):=k
  obtain⟨p,t,rfl,vm⟩:=hT.ahead
  refine⟨_,m6 (n_ (pQ TK T.cl hr (by decide) (pk (Cx.oE _ _ _)) (pv 0) (mW (pQ (E:=E0) IW T.cl hr (by decide) nr (pv 0) (mW (pv 1) mY)) mY))),?_⟩
  obtain⟨dx,lp,i,as,ps,h1,h2⟩:=id hR
  refine⟨_,rfl,r,dx,_,rfl,h1,rfl,_,rfl,r,dx,_,rfl,h1,rfl,_,rfl,r,_,p,t,rfl,hR,hE,r,_,p,t,rfl,hR,λ hb H' a Nn hB pa=>?_,λ hb=>?_⟩
  ·rw[hT.isW]at hb
   have e:bN en s l= .ok (l.drop 1):=if_pos hb
   rw[e]at k
   exact k H' .qA ⟨t,Nn,hT.UK hb⟩ hB rfl
  ·rw[hT.isW]at hb
   have e:bN en s l= .error ⟨1,placeOf en l⟩:=if_neg (by rw[hb];decide)
   rw[e]at k
   rw[vm];exact k
abbrev HF(CR CP C:ag):Sp:=L7 CR CP C (λ _:Unit=>[]) (λ en _ l=>un (semi en l)) ZY
theorem QC:m9 ["self"] ["self"] (m5 uj):=qh
theorem Xf(p:Pc):decide (p.kd=V.str (Str.ofString "stop"))=(match p with | .stop=>true|_=>false)/\decide (p.kd=V.str (Str.ofString "end"))=(match p with | .fin=>true|_=>false)/\decide (p.kd=V.str (Str.ofString "number"))=(match p with | .num _=>true|_=>false):=by
 cases p <;> refine⟨?_,?_,?_⟩ <;> simp[Pc.kd] <;> decide
theorem Dg(p:Pc)(z:Str):abw p.kd (.str z)=true:=by cases p <;> rfl
theorem EG{en:Nat}{p:Pc×Nat}{t:List (Pc×Nat)}{l:cA}(h:tJ en (p::t) l):(decide (p.1.kd=V.str (Str.ofString "stop"))=true/\semi en l= .ok (l.drop 1)/\tJ en t (l.drop 1))\/(decide (p.1.kd=V.str (Str.ofString "stop"))=false/\semi en l= .error ⟨1,p.2⟩):=by
 rw[(Xf p.1).1]
 cases h with
 |fin=>exact .inr ⟨rfl,rfl⟩
 |word h=>exact .inr ⟨rfl,rfl⟩
 |num h=>exact .inr ⟨rfl,rfl⟩
 |semi h=>exact .inl ⟨rfl,rfl,h⟩
 |bad=>exact .inr ⟨rfl,rfl⟩
theorem QD(F:pI K "take_stop" "Reader.take_stop" uj f fd)(T:vz P w K mg base CR CP)(TK:Hz2 P w K mg base C CR CP)(A1:Hz1 P w K mg base CR CP)(g:Bh mg "STOP" "stop"):
  nQ P w K mg base (BJ P w C) 4 f fd ["self"] (HF CR CP C):=by
 refine F.V8 QC (λ vs H Q E h=>?_) (λ vs H Q E h=>h.1) (λ oW A outer s H vs Q E hr h=>?_)
 ·obtain⟨_,r,en,b,l,rfl,_⟩:=h
  rfl
 ·obtain⟨hE,r,en,s,l,rfl,⟨tk,hR,hT⟩,k⟩:=h
  have k:rg CR CP C en r H Q E (ZY CP) (un (semi en l)):=k
  obtain⟨p,t,rfl,vm⟩:=hT.ahead
  refine⟨_,m6 (n_ (pQ TK T.cl hr (by decide) (pk (Cx.oE _ _ _)) (pv 0) (mW (rR uc (nq (oV (E:=E0) A1 T.cl hr (by decide) nr (pv 0)) rfl) (wu g) (oK _)) mY))),?_⟩
  obtain⟨dx,lp,i,as,ps,h1,h2⟩:=id hR
  refine⟨_,rfl,r,dx,_,rfl,h1,rfl,_,rfl,r,dx,_,rfl,h1,rfl,r,p,t,rfl,hR,λ a ⟨dp,ha⟩=>⟨a,CP,dp,_,_,rfl,ha,T.pc.cl,T.pc.na "kind" (by simp),rfl,Dg _ _,hE,r,_,p,t,rfl,hR,λ hb H' a Nn hB pa=>?_,λ hb=>?_⟩⟩
  ·rcases EG hT with⟨z1,z2,z3⟩|⟨z1,z2⟩
   ·rw[z2]at k
    exact k H' .qA ⟨t,Nn,z3⟩ hB rfl
   ·exact absurd (hb.symm.trans z1) (by decide)
  ·rcases EG hT with⟨z1,z2,z3⟩|⟨z1,z2⟩
   ·exact absurd (z1.symm.trans hb) (by decide)
   ·rw[z2]at k;exact k
abbrev Kz(CR CP C:ag):Sp:=λ vs H Q E=>Calm E/\∃r en l,vs=[.ref r]/\JL CR CP en H r l/\(l=[]->∀H',sE r H H'->Q .qA H')/\(l≠[]->Raise C r H E 1 (placeOf en l))
theorem UL:m9 ["self"] ["self"] (m5 vp):=qh
theorem N9{en:Nat}{p:Pc×Nat}{t:List (Pc×Nat)}{l:cA}(h:tJ en (p::t) l):(decide (p.1.kd=V.str (Str.ofString "end"))=true/\l=[])\/(decide (p.1.kd=V.str (Str.ofString "end"))=false/\l≠[]):=by
 rw[(Xf p.1).2.1]
 cases h with
 |fin=>exact .inl ⟨rfl,rfl⟩
 |word h=>exact .inr ⟨rfl,by simp⟩
 |num h=>exact .inr ⟨rfl,by simp⟩
 |semi h=>exact .inr ⟨rfl,by simp⟩
 |bad=>exact .inr ⟨rfl,by simp⟩
theorem UM(F:pI K "take_end" "Reader.take_end" vp f fd)(T:vz P w K mg base CR CP)(TK:Hz2 P w K mg base C CR CP)(A1:Hz1 P w K mg base CR CP)(g:Bh mg "END" "end"):
  nQ P w K mg base (BJ P w C) 4 f fd ["self"] (Kz CR CP C):=by
 refine F.V8 UL (λ vs H Q E h=>?_) (λ vs H Q E h=>h.1) (λ oW A outer s H vs Q E hr h=>?_)
 ·obtain⟨_,r,en,l,rfl,_⟩:=h
  rfl
 ·obtain⟨hE,r,en,l,rfl,⟨tk,hR,hT⟩,k1,k2⟩:=h
  obtain⟨p,t,rfl,vm⟩:=hT.ahead
  refine⟨_,m6 (n_ (pQ TK T.cl hr (by decide) (pk (Cx.oE _ _ _)) (pv 0) (mW (rR uc (nq (oV (E:=E0) A1 T.cl hr (by decide) nr (pv 0)) rfl) (wu g) (oK _)) mY))),?_⟩
  obtain⟨dx,lp,i,as,ps,h1,h2⟩:=id hR
  refine⟨_,rfl,r,dx,_,rfl,h1,rfl,_,rfl,r,dx,_,rfl,h1,rfl,r,p,t,rfl,hR,λ a ⟨dp,ha⟩=>⟨a,CP,dp,_,_,rfl,ha,T.pc.cl,T.pc.na "kind" (by simp),rfl,Dg _ _,hE,r,_,p,t,rfl,hR,λ hb H' a Nn hB pa=>?_,λ hb=>?_⟩⟩
  ·rcases N9 hT with⟨z1,z2⟩|⟨z1,z2⟩
   ·exact k1 z2 H' hB
   ·exact absurd (hb.symm.trans z1) (by decide)
  ·rcases N9 hT with⟨z1,z2⟩|⟨z1,z2⟩
   ·exact absurd (z1.symm.trans hb) (by decide)
   ·rw[vm];exact k2 z2
end oh
namespace L2
theorem gf{K:ah}{ta:TE}{σ:L2.St}{H:Hp}{a C dx:ag}{fs:List (Str×V)}{f:Str}{v:V}(h:Gives ta σ H (.ref a))(ha:H a=some (.ins C dx fs))(c:GL K C)(n:oC K C f)(l:fs.lookup f=some v):Gives (aby K ta f) σ H v:=λ Q q=>h _ ⟨a,C,dx,fs,v,rfl,ha,c,n,l,q⟩
theorem KA{σ:L2.St}{H:Hp}{ta tb tc:TE}{lo x hi:Int}{t u:TS}{D:Ends}(ha:Gives ta σ H (.int lo))(hb:Gives tb σ H (.int x))(hc:Gives tc σ H (.int hi))(h1:¬ (lo<=x/\x<=hi)->t D σ H)(h2:lo<=x/\x<=hi->u D σ H):
  abm (acW (SA (Ha (Sw λ i j=>.bl (decide (i<=j))) (Sw λ i j=>.bl (decide (i<=j))) ta tb tc))) t u D σ H:=by
 refine ha _ (hb _ ⟨_,_,rfl,rfl,_,rfl,p_ (λ a=>hc _ ⟨_,_,rfl,rfl,_,rfl,?_⟩) λ a=>⟨_,rfl,tp (h1 λ z=>a (decide_eq_true z.1))⟩⟩)
 by_cases z:x<=hi
 ·rw[decide_eq_true z];exact rJ (h2 ⟨of_decide_eq_true a,z⟩)
 ·rw[decide_eq_false z];exact tp (h1 λ y=>z y.2)
end L2
namespace oh
abbrev Xg:List V:=[.str "parts",.str "cell",.str "weight",.str "finds",.str "time",.str "team",.str "in"]
theorem Xh(w:List Nat):GQ (.str (strOf w)) Xg=KEYS.contains w:=by
 have e:Xg=KEYS.map λ k=>V.str (strOf k):=by
  unfold KEYS
  simp only[aW,aH,fT,Function.comp]
  rw[<-oO,<-oO,<-oO,<-oO,<-oO,<-oO,<-oO]
 rw[e]
 generalize KEYS=ks
 unfold GQ
 rw[jQ]
 induction ks with
 |nil=>rfl
 |cons k r ih=>
  rw[eF,kI,ih]
  congr 1
  show(strOf k == strOf w)=(w == k)
  by_cases q:w=k
  ·rw[q];simp
  ·rw[beq_eq_false_iff_ne.mpr q]
   exact beq_eq_false_iff_ne.mpr λ z=>q (A0 z).symm
def isN(p:Pc):Bool:=match p with
 | .word w=> !KEYS.contains w
 |_=>false
theorem KC{en:Nat}{p:Pc×Nat}{t:List (Pc×Nat)}{l:cA}(h:tJ en (p::t) l):(∃w,p.1= .word w/\isN p.1=true/\nameAt en l= .ok ((p.2,w),l.drop 1)/\tJ en t (l.drop 1))\/(isN p.1=false/\nameAt en l= .error ⟨1,p.2⟩):=by
 cases h with
 |fin=>exact .inr ⟨rfl,rfl⟩
 |word h=>
  rename_i w i l
  by_cases q:KEYS.contains w=true
  ·refine .inr ⟨?_,?_⟩
   ·show(!KEYS.contains w)=false
    rw[q];rfl
   ·show(if KEYS.contains w=true then _ else _)=_
    rw[if_pos q]
  ·refine .inl ⟨w,rfl,?_,?_,h⟩
   ·show(!KEYS.contains w)=true
    rw[gI]at q
    rw[q];rfl
   ·show(if KEYS.contains w=true then _ else _)=_
    rw[if_neg q];rfl
 |num h=>exact .inr ⟨rfl,rfl⟩
 |semi h=>exact .inr ⟨rfl,rfl⟩
 |bad=>exact .inr ⟨rfl,rfl⟩
theorem N_{en:Nat}{p:Pc×Nat}{t:List (Pc×Nat)}{l:cA}(h:tJ en (p::t) l)(lo hi:Nat):(∃n,p.1= .num n/\decide (p.1.kd=V.str (Str.ofString "number"))=true/\numAt en lo hi l=(if lo<=n/\n<=hi then .ok (n,l.drop 1)else .error ⟨4,p.2⟩)/\tJ en t (l.drop 1))\/(decide (p.1.kd=V.str (Str.ofString "number"))=false/\numAt en lo hi l= .error ⟨1,p.2⟩):=by
 rw[(Xf p.1).2.2]
 cases h with
 |fin=>exact .inr ⟨rfl,rfl⟩
 |word h=>exact .inr ⟨rfl,rfl⟩
 |num h=>exact .inl ⟨_,rfl,rfl,rfl,h⟩
 |semi h=>exact .inr ⟨rfl,rfl⟩
 |bad=>exact .inr ⟨rfl,rfl⟩
abbrev HG(CR CP C:ag):Sp:=L7 CR CP C (λ _:Unit=>[]) (λ en _ l=>nameAt en l) aa7
theorem HH:m9 ["self","piece"] ["self"] (m5 uk):=qh
theorem QE{f rs:ag}{fd:bK}(F:pI K "take_name" "Reader.take_name" uk f fd)(T:vz P w K mg base CR CP)(TK:Hz2 P w K mg base C CR CP)(A1:Hz1 P w K mg base CR CP)(g:Bh mg "WORD" "word")(g2:N6 K mg "RESERVED" rs Xg):
  nQ P w K mg base (BJ P w C) 4 f fd ["self"] (HG CR CP C):=by
 refine F.V8 HH (λ vs H Q E h=>?_) (λ vs H Q E h=>h.1) (λ oW A outer s H vs Q E hr h=>?_)
 ·obtain⟨_,r,en,b,l,rfl,_⟩:=h
  rfl
 ·obtain⟨hE,r,en,s,l,rfl,⟨tk,hR,hT⟩,k⟩:=h
  have k:rg CR CP C en r H Q E (aa7 CP) (nameAt en l):=k
  obtain⟨p,t,rfl,vm⟩:=hT.ahead
  have nd:=HH.nd
  have Ee:=T.pc.cl
  have m1:=T.pc.na "kind" (by simp)
  have m2:=T.pc.na "value" (by simp)
  refine⟨_,mX (m8 (i:=1) nd rfl (Or.inl rfl) (oV (E:=E0) A1 T.cl hr (by decide) nr (pv 0)))
   (m6 (nj (pQ TK T.cl hr (by decide) (pk (Cx.oE _ _ _)) (pv 0) (mW (Lz (rR uc (nq (pv 1) rfl) (wu g) (oK _)) (Ly (rR uG (nq (pv 1) rfl) (Ky g2) (by with_unfolding_all rfl)))) mY)))),?_⟩
  obtain⟨dx,lp,i,as,ps,h1,h2⟩:=id hR
  refine⟨_,rfl,r,dx,_,rfl,h1,rfl,r,p,t,rfl,hR,λ a ⟨dp,ha⟩=>?_⟩
  refine⟨_,rfl,r,dx,_,rfl,h1,rfl,_,rfl,a,CP,dp,_,_,rfl,ha,Ee,m1,rfl,Dg _ _,_,rfl,?_⟩
  have fin:L6 CR CP C [V.ref r,V.bl (isN p.1)] H Q E:=by
   refine⟨hE,r,_,p,t,rfl,hR,λ hb H' a Nn hB pa=>?_,λ hb=>?_⟩
   ·rcases KC hT with⟨w,z0,z1,z2,z3⟩|⟨z1,z2⟩
    ·rw[z2]at k
     refine k H' _ ⟨t,Nn,z3⟩ hB ⟨a,rfl,?_⟩
     obtain⟨pp,pn⟩:=p
     have z0:pp= .word w:=z0
     subst z0
     exact pa
    ·exact absurd (hb.symm.trans z1) (by decide)
   ·rcases KC hT with⟨w,z0,z1,z2,z3⟩|⟨z1,z2⟩
    ·exact absurd (z1.symm.trans hb) (by decide)
    ·rw[z2]at k;exact k
  rw[Ti]
  cases hp:p.1 with
  |word w=>
   refine tp ⟨_,rfl,a,CP,dp,_,_,rfl,ha,Ee,m2,rfl,rs,_,rfl,.inr (g2.2 _),(by rw[hp];rfl),rfl,?_⟩
   rw[hp]at fin ⊢
   show L6 CR CP C [V.ref r,V.bl (!GQ (.str (strOf w)) Xg)] H Q E
   rw[Xh];exact fin
  |num n=>rw[hp]at fin;exact rJ fin
  |stop=>rw[hp]at fin;exact rJ fin
  |bad=>rw[hp]at fin;exact rJ fin
  |fin=>rw[hp]at fin;exact rJ fin
abbrev Dh(CR CP C:ag):Sp:=L7 CR CP C (λ b:Nat×Nat=>[.int b.1,.int b.2]) (λ en b l=>numAt en b.1 b.2 l) vInt
theorem Di:m9 ["self","least","most","piece"] ["self","least","most"] (m5 sJ):=qh
theorem L8(F:pI K "take_number" "Reader.take_number" sJ f fd)(T:vz P w K mg base CR CP)(W:t6 P w K mg base C)(TK:Hz2 P w K mg base C CR CP)(A1:Hz1 P w K mg base CR CP)(g:Bh mg "NUMBER" "number")(g2:oF mg "OUT_OF_RANGE" 4):
  nQ P w K mg base (BJ P w C) 4 f fd ["self","least","most"] (Dh CR CP C):=by
 refine F.V8 Di (λ vs H Q E h=>?_) (λ vs H Q E h=>h.1) (λ oW A outer s H vs Q E hr h=>?_)
 ·obtain⟨_,r,en,b,l,rfl,_⟩:=h
  rfl
 ·obtain⟨hE,r,en,⟨lo,hi⟩,l,rfl,⟨tk,hR,hT⟩,k⟩:=h
  have k:rg CR CP C en r H Q E (vInt CP) (numAt en lo hi l):=k
  obtain⟨p,t,rfl,vm⟩:=hT.ahead
  have nd:=Di.nd
  have Ee:=T.pc.cl
  have m1:=T.pc.na "kind" (by simp)
  have m2:=T.pc.na "value" (by simp)
  have m3:=T.pc.na "place" (by simp)
  refine⟨_,mX (m8 (i:=3) nd rfl (Or.inl rfl) (pQ TK T.cl hr (by decide) (pk (Cx.oE _ _ _)) (pv 0) (mW (rR uc (nq (oV (E:=E0) A1 T.cl hr (by decide) nr (pv 0)) rfl) (wu g) (oK _)) mY)))
   (mX (pj (vh (vk p9 p9 (pv 1) (nq (pv 3) rfl) (pv 2))) (m6 (vy W rfl (Cx.oE _ _ _) hr (by decide) (mW (nU g2) (mW (nq (pv 3) rfl) mY)))) nZ)
   (m6 (nj (nq (pv 3) rfl)))),?_⟩
  obtain⟨dx,lp,i,as,ps,h1,h2⟩:=id hR
  refine⟨_,rfl,r,dx,_,rfl,h1,rfl,_,rfl,r,dx,_,rfl,h1,rfl,r,p,t,rfl,hR,λ a ⟨dp,ha⟩=>⟨a,CP,dp,_,_,rfl,ha,Ee,m1,rfl,Dg _ _,hE,r,_,p,t,rfl,hR,λ hb H' a Nn hB pa=>?_,λ hb=>?_⟩⟩
  ·rcases N_ hT lo hi with⟨n,z0,z1,z2,z3⟩|⟨z1,z2⟩
   ·obtain⟨pp,pn⟩:=p
    have z0:pp= .num n:=z0
    subst z0
    obtain⟨dp',SU⟩:=pa
    rw[z2]at k
    refine KA gv (gf gv SU Ee m2 rfl) gv (λ hc=>?_) λ hc=>?_
    ·rw[if_neg (by omega)]at k
     exact⟨_,rfl,a,CP,dp',_,_,rfl,SU,Ee,m3,rfl,_,_,rfl,λ H2 Xd hd ne=>k H2 Xd hd (hB.trans (sE.ne ne))⟩
    ·rw[if_pos (by omega)]at k
     exact⟨_,rfl,a,CP,dp',_,_,rfl,SU,Ee,m2,rfl,k H' _ ⟨t,Nn,z3⟩ hB rfl⟩
   ·exact absurd (hb.symm.trans z1) (by decide)
  ·rcases N_ hT lo hi with⟨n,z0,z1,z2,z3⟩|⟨z1,z2⟩
   ·exact absurd (z1.symm.trans hb) (by decide)
   ·rw[z2]at k;exact k
theorem rg.by{en r:Nat}{H:Hp}{Q:VK}{E:XK}{α:Type}{val:α->Hp->V->Prop}{x:Except Bad (α×cA)}(he:∀b,x= .error b->Raise C r H E b.kind b.place)
  (hk:∀a l,x= .ok (a,l)->∀H' v,JL CR CP en H' r l->sE r H H'->val a H' v->Q v H'):rg CR CP C en r H Q E val x:=by
 cases x with
 |error b=>exact he b rfl
 |ok y=>exact hk y.1 y.2 rfl
structure RdM(P:aJ)(w:aY)(K:ah)(mg:Str->Option ao)(base:bz)(CR CP C:ag):Prop where
 ahead:Hz1 P w K mg base CR CP
 isWord:um P w K mg base oG 2 CR "is_word" ["self","word"] (HD CR CP)
 word:um P w K mg base (BJ P w C) 4 CR "take_word" ["self","word"] (HE CR CP C)
 stop:um P w K mg base (BJ P w C) 4 CR "take_stop" ["self"] (HF CR CP C)
 name:um P w K mg base (BJ P w C) 4 CR "take_name" ["self"] (HG CR CP C)
 number:um P w K mg base (BJ P w C) 4 CR "take_number" ["self","least","most"] (Dh CR CP C)
 fin:um P w K mg base (BJ P w C) 4 CR "take_end" ["self"] (Kz CR CP C)
abbrev EH:List Str:=["name","weight","finds","time"]
def ceV(c:bF):List V:=[.str (strOf c.name),.int c.weight,.int c.finds,.int c.time]
def BH(CC:ag)(H:Hp)(a:ag)(c:bF):Prop:=∃dx,H a=some (.ins CC dx (EH.zip (ceV c)))
def qK(CC:ag)(H:Hp)(as:List ag)(cs:List bF):Prop:=as.length=cs.length/\∀(j:Nat) (a:ag) (c:bF),as[j]? =some a->cs[j]? =some c->BH CC H a c
def xG(en:Nat)(f:ae)(l:cA):Except Bad (bF×cA):=do
 let l <-bN en "cell" l
 let n <-nameAt en l
 if(cellOf f n.1.2).isSome=true\/iG<=f.cells.length then .error ⟨3,n.1.1⟩
 else do
  let l <-bN en "weight" n.2
  let w <-numAt en 0 d_ l
  let l <-bN en "finds" w.2
  let p <-numAt en 0 f.parts l
  let l <-bN en "time" p.2
  let t <-numAt en 1 fo l
  let r <-semi en t.2
  .ok (⟨n.1.2,w.1,p.1,t.1⟩,r)
def HI(K:ah)(CR CP C CC:ag):Sp:=λ vs H Q E=>Calm E/\∃r en parts lc as cs l,vs=[.ref r,.int (parts:Nat),.ref lc]/\JL CR CP en H r l/\H lc=some (.lst (as.map V.ref))/\qK CC H as cs/\cs.length<=16/\
 rg CR CP C en r H Q E (λ c H' v=>∃a,v= .ref a/\BH CC H' a c) (xG en ⟨parts,cs,[]⟩ l)
abbrev KD:List Str:=["reader","parts","cells","name","weight","finds","time","cell"]
theorem HJ:m9 KD ["reader","parts","cells"] (m5 AV):=qh
theorem Xi(as:List ag)(cs:List bF)(nm:List Nat)(n:Nat):GQ (.str (strOf nm)) (cs.map λ c=>V.str (strOf c.name))=(cellOf ⟨n,cs,[]⟩ nm).isSome:=by
 unfold cF
 show _=(cs.findIdx? λ c=>c.name == nm).isSome
 rw[kb]
 unfold GQ
 rw[jQ]
 congr 1
 funext c
 show(strOf c.name == strOf nm)=(c.name == nm)
 by_cases q:c.name=nm
 ·rw[q];simp
 ·rw[beq_eq_false_iff_ne.mpr q]
  exact beq_eq_false_iff_ne.mpr λ z=>q (A0 z)
theorem JL.ins{en r:Nat}{H:Hp}{l:cA}(h:JL CR CP en H r l):∃dx a i,H r=some (.ins CR dx (N7 a i)):=by
 obtain⟨tk,⟨dx,a,i,as,ps,h1,_⟩,_⟩:=h
 exact⟨dx,a,i,h1⟩
theorem wX{x:Except Bad cA}{b:Bad}(h:un x= .error b):x= .error b:=by
 cases x with
 |error c=>cases h;rfl
 |ok l=>cases h
theorem wx{x:Except Bad cA}{a:Unit}{l:cA}(h:un x= .ok (a,l)):x= .ok l:=by
 cases x with
 |error c=>cases h
 |ok l=>cases h;rfl
theorem sE.lst{r lc dx a i:Nat}{H H':Hp}{xs:List V}(b:sE r H H')(h:H lc=some (.lst xs))(hr:H r=some (.ins CR dx (N7 a i))):H' lc=some (.lst xs):=
 b lc _ h (λ e=>by rw[e,hr]at h;cases h) (λ φ q=>by cases q)
theorem sE.cells{r dx a i:Nat}{H H':Hp}{as:List ag}{cs:List bF}(b:sE r H H')(h:qK CC H as cs)(hr:H r=some (.ins CR dx (N7 a i))):qK CC H' as cs:=
 ⟨h.1,λ j x c e1 e2=>let⟨dy,ey⟩:=h.2 j x c e1 e2;⟨dy,b x _ ey (λ e=>by rw[e,hr]at ey;cases ey) (λ φ q=>by cases q)⟩⟩
theorem sE.HK{r x dx a i:Nat}{H H':Hp}{p:Pc×Nat}(b:sE r H H')(h:rE CP H x p)(hr:H r=some (.ins CR dx (N7 a i))):rE CP H' x p:=
 let⟨dy,ey⟩:=h;⟨dy,b x _ ey (λ e=>by rw[e,hr]at ey;cases ey) (λ φ q=>by cases q)⟩
theorem QF(F:pI K "read_cell" "read_cell" AV f fd)(T:vz P w K mg base CR CP)(W:t6 P w K mg base C)(M:RdM P w K mg base CR CP C)(oz:Rec P w K mg base "Cell" CC EH)(pd:mg "len"=none)
  (yg:oF mg "MOST_CELLS" 16)(pD:oF mg "TOLD_OR_FULL" 3)(wY:oF mg "MOST_WEIGHT" 1000)(zX:oF mg "MOST_TIME" 20):nQ P w K mg base (BJ P w C) 5 f fd ["reader","parts","cells"] (HI K CR CP C CC):=by
 refine F.V8 HJ (λ vs H Q E h=>?_) (λ vs H Q E h=>h.1) (λ oW A outer s H vs Q E hr h=>?_)
 ·obtain⟨_,r,en,parts,lc,as,cs,l,rfl,_⟩:=h
  rfl
 ·obtain⟨hE,r,en,parts,lc,as,cs,l,rfl,hR,hL,hC,Ec,k⟩:=h
  have nd:=HJ.nd
  have oB:=T.cl
  have pV:=M.word
  have ud:=M.name
  have pS:=M.number
  have rp:=M.stop
  refine⟨_,(mX (n_ (pQ pV oB hr (by decide) (pk (Cx.oE _ _ _)) (pv 0) (mW qo mY)))
   (mX (m8 (i:=3) nd rfl (Or.inl rfl) (oV ud oB hr (by decide) (pk (Cx.oE _ _ _)) (pv 0)))
   (mX (pj (PW.pt (Wf (oq uc (nM nN rfl pd aX (mW (pv 2) mY)) (nU yg) (oK _)) (PZ (oq AR (nq (pv 3) rfl) (qt (own:=[("cell",7)]) rfl nd (oM (pv 2)) (by exact pC.of (N:=KD) (sc:=m5 AV) (by decide +kernel)) (λ _ _ _ _ _=>(nA (i:=7) nd rfl (Or.inl rfl))) (λ _ _ _ _ _=>oR) (λ _ _ _ _ _=>by exact(xV K (pv 7)))) (by with_unfolding_all rfl))))) (m6 (vy W rfl (Cx.oE _ _ _) hr (by decide) (mW (nU pD) (mW (nq (pv 3) rfl) mY)))) nZ)
   (mX (n_ (pQ pV oB hr (by decide) (pk (Cx.oE _ _ _)) (pv 0) (mW qo mY)))
   (mX (m8 (i:=4) nd rfl (Or.inl rfl) (pQ pS oB hr (by decide) (pk (Cx.oE _ _ _)) (pv 0) (mW nO (mW (nU wY) mY))))
   (mX (n_ (pQ pV oB hr (by decide) (pk (Cx.oE _ _ _)) (pv 0) (mW qo mY)))
   (mX (m8 (i:=5) nd rfl (Or.inl rfl) (pQ pS oB hr (by decide) (pk (Cx.oE _ _ _)) (pv 0) (mW nO (mW (pv 1) mY))))
   (mX (n_ (pQ pV oB hr (by decide) (pk (Cx.oE _ _ _)) (pv 0) (mW qo mY)))
   (mX (m8 (i:=6) nd rfl (Or.inl rfl) (pQ pS oB hr (by decide) (pk (Cx.oE _ _ _)) (pv 0) (mW nO (mW (nU zX) mY))))
   (mX (n_ (oV rp oB hr (by decide) (pk (Cx.oE _ _ _)) (pv 0)))
   (m6 (nj (vw oz hr (by decide) (mW (nq (pv 3) rfl) (mW (pv 4) (mW (pv 5) (mW (pv 6) mY))))))))))))))))),?_⟩
  have Ee:=T.pc.cl
  have m2:=T.pc.na "value" (by simp)
  have m3:=T.pc.na "place" (by simp)
  obtain⟨dx,la,i,h1⟩:=hR.ins
  refine⟨_,rfl,r,dx,_,rfl,h1,rfl,hE,r,en,"cell",l,rfl,hR,rg.by (λ b e=>?_) λ _ l1 e1 H1 v Xj Y4 _=>?_⟩
  ·have e:=wX e
   unfold xG at k
   rw[e]at k;exact k
  have e1:=wx e1
  unfold xG at k
  rw[e1]at k
  dsimp only[Bind.bind,Except.bind]at k
  obtain⟨dx1,la1,i1,Y5⟩:=Xj.ins
  refine⟨_,rfl,r,dx1,_,rfl,Y5,rfl,hE,r,en,(),l1,rfl,Xj,rg.by (λ b e=>?_) λ nm l2 e2 H2 v PN L9 ⟨a,ev,pa⟩=>?_⟩
  ·have e:nameAt en l1= .error b:=e
   rw[e]at k;exact Raise.mono k Y4
  subst ev
  have e2:nameAt en l1= .ok (nm,l2):=e2
  rw[e2]at k
  dsimp only at k
  have B2:=Y4.trans L9
  have Y6:=B2.lst hL h1
  have hC2:=B2.cells hC h1
  obtain⟨dp,ha⟩:=id pa
  have wrong:((cF ⟨parts,cs,[]⟩ nm.2).isSome=true\/iG<=cs.length)->∀H3 H4 d4,NE H2 H3->H4 d4=some (wd (.int 3) (.int (nm.1:Nat)))->NE H3 H4->E (.ref C) (some d4) H4:=λ hc H3 H4 d4 ne1 hd ne2=>by
   rw[if_pos hc]at k
   exact k H4 d4 hd (B2.trans ((sE.ne ne1).trans (sE.ne ne2)))
  refine⟨_,rfl,lc,_,rfl,.inl (nE.of Y6),rfl,_,rfl,p_ (λ hc=>?_) λ hc=>?_⟩
  ·have hc:=V.int.inj (of_decide_eq_true hc)
   rw[aa,hC.1]at hc
   refine tp ⟨_,rfl,a,CP,dp,_,_,rfl,ha,Ee,m3,rfl,_,_,rfl,λ H4 d4 hd ne=>wrong (.inr (by show 16<=_;omega)) H2 H4 d4 (NE.refl _) hd ne⟩
  have adG:¬ iG<=cs.length:=by
   have z:¬ ((as.map V.ref).length:Int)=16:=λ q=>hc (decide_eq_true (congrArg V.int q))
   rw[aa,hC.1]at z
   show ¬ 16<=_
   omega
  refine⟨_,rfl,a,CP,dp,_,_,rfl,ha,Ee,m2,rfl,_,rfl,lc,rfl,⟨_,nE.of Y6⟩,?_⟩
  refine oY (oS (K:=K) (xs:=as.map V.ref) (nE.of Y6)) (cs.map λ c=>V.str (strOf c.name)) (by rw[aa,aa,hC.1]) (by rw[aa,hC.1,aA];omega) (λ j x y H3 R3 N3 hy sm hF kk=>?_) (λ D H3 hD sm uC=>?_)
  ·rw[ak]at hF hy
   cases q1:as[j]? with
   |none=>rw[q1]at hF;cases hF
   |some aj=>
    cases q2:cs[j]? with
    |none=>rw[q2]at hy;cases hy
    |some cj=>
     rw[q1]at hF;rw[q2]at hy
     cases hF;cases hy
     obtain⟨dc,ec⟩:=hC2.2 j aj cj q1 q2
     exact⟨rfl,sD ⟨_,rfl,aj,CC,dc,_,_,rfl,sm _ _ ec,oz.cl,oz.na "name" (by simp),rfl,kk H3 (m7.refl _)⟩⟩
  refine⟨D,_,rfl,.inl (nE.of uC),rfl,(by rw[cH];exact List.all_eq_true.mpr λ _ _=>rfl),_,rfl,?_⟩
  have ein:GQ (.str (strOf nm.2)) (cs.map λ c=>V.str (strOf c.name))=(cF ⟨parts,cs,[]⟩ nm.2).isSome:=Xi as cs nm.2 parts
  refine p_ (λ hc=>?_) λ hc=>?_
  ·have hc:(cF ⟨parts,cs,[]⟩ nm.2).isSome=true:=ein.symm.trans hc
   exact⟨_,rfl,a,CP,dp,_,_,rfl,sm _ _ ha,Ee,m3,rfl,_,_,rfl,λ H4 d4 hd ne=>wrong (.inl hc) H3 H4 d4 (λ b o e _=>sm b o e) hd ne⟩
  have aeS:¬ (cF ⟨parts,cs,[]⟩ nm.2).isSome=true:=λ q=>hc (ein.trans q)
  rw[if_neg (λ q=>q.elim aeS adG)]at k
  have B3:sE r H H3:=B2.trans (sE.of_same sm)
  have hR3:JL CR CP en H3 r l2:=by
   obtain⟨tk,⟨d',l',i',Ed,ZZ,q1,q2,q3,q4,q5⟩,ht⟩:=PN
   exact⟨tk,⟨d',l',i',Ed,ZZ,sm _ _ q1,sm _ _ q2,q3.same λ x o _ e=>sm x o e,q4,q5⟩,ht⟩
  obtain⟨dx3,la3,i3,Y7⟩:=hR3.ins
  refine⟨_,rfl,r,dx3,_,rfl,Y7,rfl,hE,r,en,"weight",l2,rfl,hR3,rg.by (λ b e=>?_) λ _ l4 e4 H4 v Y8 Xk _=>?_⟩
  ·rw[wX e]at k;exact Raise.mono k B3
  rw[wx e4]at k
  dsimp only at k
  have B4:=B3.trans Xk
  obtain⟨dx4,la4,i4,Z5⟩:=Y8.ins
  refine⟨_,rfl,r,dx4,_,rfl,Z5,rfl,hE,r,en,(0,1000),l4,rfl,Y8,rg.by (λ b e=>?_) λ nw l5 e5 H5 v Xl Oa ev=>?_⟩
  ·have e:numAt en 0 d_ l4= .error b:=e
   rw[e]at k;exact Raise.mono k B4
  have e5:numAt en 0 d_ l4= .ok (nw,l5):=e5
  rw[e5]at k
  dsimp only at k
  subst ev
  have B5:=B4.trans Oa
  obtain⟨dx5,la5,i5,Y9⟩:=Xl.ins
  refine⟨_,rfl,r,dx5,_,rfl,Y9,rfl,hE,r,en,"finds",l5,rfl,Xl,rg.by (λ b e=>?_) λ _ l6 e6 H6 v hR6 hB6 _=>?_⟩
  ·rw[wX e]at k;exact Raise.mono k B5
  rw[wx e6]at k
  dsimp only at k
  have B6:=B5.trans hB6
  obtain⟨dx6,la6,i6,GH⟩:=hR6.ins
  refine⟨_,rfl,r,dx6,_,rfl,GH,rfl,_,rfl,hE,r,en,(0,parts),l6,rfl,hR6,rg.by (λ b e=>?_) λ nf l7 e7 H7 v hR7 hB7 ev=>?_⟩
  ·have e:numAt en 0 parts l6= .error b:=e
   rw[e]at k;exact Raise.mono k B6
  have e7:numAt en 0 parts l6= .ok (nf,l7):=e7
  rw[e7]at k
  dsimp only at k
  subst ev
  have B7:=B6.trans hB7
  obtain⟨dx7,la7,i7,h17⟩:=hR7.ins
  refine⟨_,rfl,r,dx7,_,rfl,h17,rfl,hE,r,en,"time",l7,rfl,hR7,rg.by (λ b e=>?_) λ _ l8 e8 H8 v hR8 hB8 _=>?_⟩
  ·rw[wX e]at k;exact Raise.mono k B7
  rw[wx e8]at k
  dsimp only at k
  have B8:=B7.trans hB8
  obtain⟨dx8,la8,i8,h18⟩:=hR8.ins
  refine⟨_,rfl,r,dx8,_,rfl,h18,rfl,hE,r,en,(1,20),l8,rfl,hR8,rg.by (λ b e=>?_) λ nt l9 e9 H9 v hR9 hB9 ev=>?_⟩
  ·have e:numAt en 1 fo l8= .error b:=e
   rw[e]at k;exact Raise.mono k B8
  have e9:numAt en 1 fo l8= .ok (nt,l9):=e9
  rw[e9]at k
  dsimp only at k
  subst ev
  have B9:=B8.trans hB9
  obtain⟨dx9,la9,i9,h19⟩:=hR9.ins
  refine⟨_,rfl,r,dx9,_,rfl,h19,rfl,hE,r,en,(),l9,rfl,hR9,rg.by (λ b e=>?_) λ _ lA eA HA v hRA hBA _=>?_⟩
  ·rw[wX e]at k;exact Raise.mono k B9
  rw[wx eA]at k
  have BA:=B9.trans hBA
  have p3:rE CP H3 a (.word nm.2,nm.1):=pa.same sm
  have pA:rE CP HA a (.word nm.2,nm.1):=hBA.HK (hB9.HK (hB8.HK (hB7.HK (hB6.HK (Oa.HK (Xk.HK p3 Y7) Z5) Y9) GH) h17) h18) h19
  obtain⟨dpA,haA⟩:=pA
  refine⟨_,rfl,a,CP,dpA,_,_,rfl,haA,Ee,m2,rfl,_,rfl,_,rfl,_,rfl,rfl,λ x dx HB hx C7 smB=>?_⟩
  refine k HB (.ref x) ?_ (BA.trans (sE.of_same smB)) ⟨x,rfl,⟨dx,C7⟩⟩
  ·obtain⟨tk,⟨d',l',i',Ed,ZZ,q1,q2,q3,q4,q5⟩,ht⟩:=hRA
   exact⟨tk,⟨d',l',i',Ed,ZZ,smB _ _ q1,smB _ _ q2,q3.same λ x o _ e=>smB x o e,q4,q5⟩,ht⟩
theorem pE{en:Nat}{s:String}{l r:cA}(h:bN en s l= .ok r):r.length<l.length:=by
 unfold bN at h
 split at h
 ·cases h
  rename_i hw
  cases l with
  |nil=>exact absurd hw (by simp[dC])
  |cons x y=>simp
 ·cases h
theorem Ob{en:Nat}{l r:cA}(h:semi en l= .ok r):r.length<l.length:=by
 unfold lL at h
 split at h
 ·cases h
  rename_i hw
  cases l with
  |nil=>exact absurd hw (by simp)
  |cons x y=>simp
 ·cases h
theorem tK{en lo hi:Nat}{l r:cA}{n:Nat}(h:numAt en lo hi l= .ok (n,r)):r.length<l.length:=by
 unfold jC at h
 split at h
 ·split at h
  ·cases h;simp
  ·cases h
 ·cases h
theorem Cd{en:Nat}{l r:cA}{n:Nat×List Nat}(h:nameAt en l= .ok (n,r)):r.length<l.length:=by
 unfold lj at h
 split at h
 ·split at h
  ·cases h
  ·cases h;simp
 ·cases h
theorem HL{en:Nat}{f:ae}{l r:cA}{c:bF}(h:xG en f l= .ok (c,r)):r.length<l.length/\f.cells.length<16:=by
 unfold xG at h
 cases e1:bN en "cell" l with
 |error b=>rw[e1]at h;cases h
 |ok l1=>
  rw[e1]at h
  dsimp only[Bind.bind,Except.bind]at h
  cases e2:nameAt en l1 with
  |error b=>rw[e2]at h;cases h
  |ok x=>
   obtain⟨n,l2⟩:=x
   rw[e2]at h
   dsimp only at h
   split at h
   ·cases h
   ·rename_i hc
    cases e3:bN en "weight" l2 with
    |error b=>rw[e3]at h;cases h
    |ok l3=>
     rw[e3]at h
     dsimp only at h
     cases e4:numAt en 0 d_ l3 with
     |error b=>rw[e4]at h;cases h
     |ok x4=>
      obtain⟨n4,l4⟩:=x4
      rw[e4]at h
      dsimp only at h
      cases e5:bN en "finds" l4 with
      |error b=>rw[e5]at h;cases h
      |ok l5=>
       rw[e5]at h
       dsimp only at h
       cases e6:numAt en 0 f.parts l5 with
       |error b=>rw[e6]at h;cases h
       |ok x6=>
        obtain⟨n6,l6⟩:=x6
        rw[e6]at h
        dsimp only at h
        cases e7:bN en "time" l6 with
        |error b=>rw[e7]at h;cases h
        |ok l7=>
         rw[e7]at h
         dsimp only at h
         cases e8:numAt en 1 fo l7 with
         |error b=>rw[e8]at h;cases h
         |ok x8=>
          obtain⟨n8,l8⟩:=x8
          rw[e8]at h
          dsimp only at h
          cases e9:semi en l8 with
          |error b=>rw[e9]at h;cases h
          |ok l9=>
           rw[e9]at h
           dsimp only at h
           cases h
           have a1:=pE e1
           have a2:=Cd e2
           have a3:=pE e3
           have a4:=tK e4
           have a5:=pE e5
           have a6:=tK e6
           have a7:=pE e7
           have a8:=tK e8
           have a9:=Ob e9
           refine⟨by omega,?_⟩
           have:¬ 16<=f.cells.length:=λ q=>hc (.inr q)
           omega
theorem yi(en k:Nat)(f:ae)(l:cA):fP en (k+1) f l=if dC "cell" l=false/\f.cells.isEmpty=false then .ok (f,l)else
  match xG en f l with
  | .error b=>.error b
  | .ok (c,r)=>fP en k { f with cells:=f.cells++[c] } r:=by
 show(if dC "cell" l=false/\f.cells.isEmpty=false then _ else _)=_
 by_cases hc:dC "cell" l=false/\f.cells.isEmpty=false
 ·rw[if_pos hc,if_pos hc]
 ·rw[if_neg hc,if_neg hc]
  unfold xG
  cases e1:bN en "cell" l with
  |error b=>rfl
  |ok l1=>
   dsimp only[Bind.bind,Except.bind]
   cases e2:nameAt en l1 with
   |error b=>rfl
   |ok x=>
    dsimp only
    by_cases hd:(cF f x.1.2).isSome=true\/iG<=f.cells.length
    ·rw[if_pos hd,if_pos hd]
    ·rw[if_neg hd,if_neg hd]
     cases bN en "weight" x.2 with
     |error b=>rfl
     |ok l3=>
      dsimp only
      cases numAt en 0 d_ l3 with
      |error b=>rfl
      |ok x4=>
       dsimp only
       cases bN en "finds" x4.2 with
       |error b=>rfl
       |ok l5=>
        dsimp only
        cases numAt en 0 f.parts l5 with
        |error b=>rfl
        |ok x6=>
         dsimp only
         cases bN en "time" x6.2 with
         |error b=>rfl
         |ok l7=>
          dsimp only
          cases numAt en 1 fo l7 with
          |error b=>rfl
          |ok x8=>
           dsimp only
           cases semi en x8.2 with
           |error b=>rfl
           |ok l9=>rfl
def Fo(CR CP C CC:ag):Sp:=λ vs H Q E=>Calm E/\∃r en parts l,vs=[.ref r,.int (parts:Nat)]/\JL CR CP en H r l/\
 rg CR CP C en r H Q E (λ(f:ae) H' v=>∃lc as,v= .ref lc/\H' lc=some (.lst (as.map V.ref))/\qK CC H' as f.cells) (fP en (l.length+1) ⟨parts,[],[]⟩ l)
abbrev QG:List Str:=["reader","parts","cells"]
theorem Fp:m9 QG ["reader","parts"] (m5 BR):=qh
theorem qK.snoc{H:Hp}{as:List ag}{cs:List bF}{a:ag}{c:bF}(h:qK CC H as cs)(h':BH CC H a c):qK CC H (as++[a]) (cs++[c]):=by
 refine⟨by simp[h.1],λ j b q h1 h2=>?_⟩
 by_cases hj:j<as.length
 ·rw[bp hj]at h1
  rw[bp (by rw[<-h.1];exact hj)]at h2
  exact h.2 j b q h1 h2
 ·rw[bg (by omega)]at h1
  rw[bg (by rw[<-h.1];omega)]at h2
  have e:j-as.length=0:=by
   obtain⟨z,_⟩:=List.getElem?_eq_some_iff.mp h1
   simp at z;omega
  rw[e]at h1
  rw[<-h.1,e]at h2
  cases h1;cases h2
  exact h'
theorem JL.same{en r:Nat}{H H':Hp}{l:cA}(h:JL CR CP en H r l)(sm:m7 H H'):JL CR CP en H' r l:=by
 obtain⟨tk,⟨d',l',i',Ed,ZZ,q1,q2,q3,q4,q5⟩,ht⟩:=h
 exact⟨tk,⟨d',l',i',Ed,ZZ,sm _ _ q1,sm _ _ q2,q3.same λ x o _ e=>sm x o e,q4,q5⟩,ht⟩
theorem JL.sO{en r lc:Nat}{H:Hp}{l:cA}{xs ys:List V}(h:JL CR CP en H r l)(hl:H lc=some (.lst xs))(hp:∀(as:List ag) (ps:List (Pc×Nat)),as≠[]->qC CP H as ps->xs≠as.map V.ref):JL CR CP en (upd H lc (.lst ys)) r l:=by
 obtain⟨tk,⟨d',l',i',Ed,ZZ,q1,q2,q3,q4,q5⟩,ht⟩:=h
 have xD:Ed≠[]:=by
  intro e
  have hz:=q3.1
  rw[e]at hz
  have:ZZ=[]:=List.eq_nil_of_length_eq_zero hz.symm
  rw[this,List.drop_nil]at q4
  obtain⟨p,t,e2,_⟩:=ht.ahead
  rw[<-q4]at e2;cases e2
 refine⟨tk,⟨d',l',i',Ed,ZZ,?_,?_,⟨q3.1,λ j x q e1 e2=>?_⟩,q4,q5⟩,ht⟩
 ·rw[m4 (λ e=>by rw[e,hl]at q1;cases q1)];exact q1
 ·rw[m4 (λ e=>by rw[e,hl]at q2;exact hp Ed ZZ xD q3 (HO.lst.inj (Option.some.inj q2)))];exact q2
 ·obtain⟨dy,ey⟩:=q3.2 j x q e1 e2
  exact⟨dy,by rw[m4 (λ e=>by rw[e,hl]at ey;cases ey)];exact ey⟩
theorem zY:∀{as bs:List ag},as.map V.ref=bs.map V.ref->as=bs
 |[],[],_=>rfl
 |[],_::_,h=>by cases h
 |_::_,[],h=>by cases h
 |a::as,b::bs,h=>by
  have h1:=(List.cons.inj h).1
  rw[V.ref.inj h1,zY (List.cons.inj h).2]
theorem GI{H:Hp}{as:List ag}{cs:List bF}(h:qK CC H as cs)(xD:cs≠[]):∀(Ed:List ag) (ps:List (Pc×Nat)),Ed≠[]->qC CP H Ed ps->as.map V.ref≠Ed.map V.ref:=by
 intro Ed ps h1 h2 e
 have e:=zY e
 subst e
 match as,cs,ps,h,xD,h1,h2 with
 |a::r,c::cr,p::pr,h,_,_,h2=>
  obtain⟨d1,e1⟩:=h.2 0 a c rfl rfl
  obtain⟨d2,e2⟩:=h2.2 0 a p rfl rfl
  rw[e1]at e2
  cases e2
 |a::r,c::cr,[],h,_,_,h2=>exact absurd h2.1 (by simp)
theorem qK.sO{lc:Nat}{H:Hp}{xs ys:List V}{as:List ag}{cs:List bF}(h:qK CC H as cs)(hl:H lc=some (.lst xs)):qK CC (upd H lc (.lst ys)) as cs:=
 ⟨h.1,λ j a c e1 e2=>let⟨dx,e⟩:=h.2 j a c e1 e2;⟨dx,by rw[m4 (λ q=>by rw[q,hl]at e;cases e)];exact e⟩⟩
theorem Oc(F:pI K "read_cells" "read_cells" BR f fd)(T:vz P w K mg base CR CP)(M:RdM P w K mg base CR CP C)(wy:rB P w K mg base (BJ P w C) 5 "read_cell" ["reader","parts","cells"] (HI K CR CP C CC)):
  nQ P w K mg base (BJ P w C) 6 f fd ["reader","parts"] (Fo CR CP C CC):=by
 refine F.V8 Fp (λ vs H Q E h=>?_) (λ vs H Q E h=>h.1) (λ oW A outer s H vs Q E hr h=>?_)
 ·obtain⟨_,r,en,parts,l,rfl,_⟩:=h
  rfl
 ·obtain⟨hE,r,en,parts,l,rfl,hR,k⟩:=h
  have nd:=Fp.nd
  have oB:=T.cl
  have vb:=M.isWord
  refine⟨_,(mX (m8 (i:=2) nd rfl (Or.inl rfl) (nP (mW (nv wy hr (by decide) (pk (Cx.oE _ _ _)) (mW (pv 0) (mW (pv 1) (mW (nP mY) mY)))) mY)))
   (mX (rM (Tc rfl rfl (Cx.oE _ _ _) hE) (tG (pQ (E:=E0) vb oB hr (by decide) nr (pv 0) (mW qo mY))) (m6 (n_ (qT aG bc a_ pF (pv 2) (mW (nv wy hr (by decide) (pk (Cx.oE _ _ _)) (mW (pv 0) (mW (pv 1) (mW (pv 2) mY)))) mY)))))
   (m6 (nj (pv 2))))),?_⟩
  refine⟨_,rfl,_,rfl,aE _,λ p0 hp0=>?_⟩
  have s0:m7 H (upd H p0 (.lst [])):=m7.new hp0
  have st:=yi en l.length ⟨parts,[],[]⟩ l
  rw[if_neg (λ z=>by simp at z)]at st
  refine⟨hE,r,en,parts,p0,[],[],l,rfl,hR.same s0,mZ,⟨rfl,λ j a c e1=>by simp at e1⟩,aE _,rg.by (λ b e=>?_) λ c l1 e1 H1 v Xj Y4 ⟨a,ev,ca⟩=>?_⟩
  ·rw[st,e]at k;exact Raise.mono k (sE.of_same s0)
  subst ev
  rw[e1]at st
  have st:fP en (l.length+1) ⟨parts,[],[]⟩ l=fP en l.length ⟨parts,[c],[]⟩ l1:=st
  have aeT:=HL e1
  have B1:sE r H H1:=(sE.of_same s0).trans Y4
  refine⟨(by show 1<=ay;decide),λ lc hlc=>?_⟩
  have s1:m7 H1 (upd H1 lc (.lst [.ref a])):=m7.new hlc
  refine⟨λ m σ H'=>∃(as:List ag) (cs:List bF) (l':cA) (fu:Nat),σ=[some (.ref r),some (.int parts),some (.ref lc)]/\H' lc=some (.lst (as.map V.ref))/\qK CC H' as cs/\JL CR CP en H' r l'/\sE r H H'/\m=l'.length/\cs≠[]/\cs.length<=16/\l'.length<fu/\fP en (l.length+1) ⟨parts,[],[]⟩ l=fP en fu ⟨parts,cs,[]⟩ l',
   ⟨_,[a],[c],l1,l.length,rfl,mZ,⟨rfl,λ j x y e1 e2=>?_⟩,Xj.same s1,B1.trans (sE.of_same s1),rfl,by simp,by simp,aeT.1,st⟩,?_⟩
  ·match j,e1,e2 with
   |0,e1,e2=>
    cases e1;cases e2
    obtain⟨d,e⟩:=ca
    exact⟨d,s1 _ _ e⟩
   |j+1,e1,e2=>simp at e1
  rintro m σ H' ⟨as,cs,l',fu,rfl,GC,hC',Nn,hB',rfl,xD,GH,hfu,heq⟩
  obtain⟨tk,hRA,hT⟩:=id Nn
  obtain⟨p,t,rfl,vm⟩:=hT.ahead
  obtain⟨dx,la,i,h1⟩:=Nn.ins
  obtain⟨f1,rfl⟩:∃f1,fu=f1+1:=⟨fu-1,by omega⟩
  have D_:=yi en f1 ⟨parts,cs,[]⟩ l'
  have ce:(cs.isEmpty=false):=by cases cs with |nil=>exact absurd rfl xD|cons=>rfl
  refine⟨_,rfl,r,dx,_,rfl,h1,rfl,r,_,p,t,rfl,hRA,_,rfl,?_⟩
  rw[hT.isW]
  refine p_ (λ hw=>?_) λ hw=>?_
  ·rw[if_neg (λ z=>by rw[hw]at z;exact absurd z.1 (by decide))]at D_
   refine⟨_,λ _ _ z=>z,_,rfl,.inl ⟨rfl,_,nE.of GC⟩,_,rfl,_,rfl,_,rfl,hE,r,en,parts,lc,as,cs,l',rfl,Nn,GC,hC',GH,rg.by (λ b e=>?_) λ c2 l2 e2 H2 v PN L9 ⟨a2,ev,ca2⟩=>?_⟩
   ·rw[heq,D_,e]at k;exact Raise.mono k hB'
   subst ev
   rw[e2]at D_
   have aca:=HL e2
   have Nl:=L9.lst GC h1
   have hC2:=L9.cells hC' h1
   refine⟨lc,_,_,rfl,rfl,Nl,?_,?_⟩
   ·rw[aa,hC'.1,aA];omega
   refine⟨l2.length,aca.1,as++[a2],cs++[c2],l2,f1,rfl,?_,?_,PN.sO Nl (GI hC2 xD),?_,rfl,by simp,?_,by have:=aca.1;omega,?_⟩
   ·rw[mZ,aF];rfl
   ·refine(hC2.sO Nl).snoc ?_
    obtain⟨d,e⟩:=ca2
    exact⟨d,by rw[m4 (λ q=>by rw[q,Nl]at e;cases e)];exact e⟩
   ·intro b o e n x
    rw[m4 (λ q=>by have z:=B1 b o e n x;rw[q,hlc]at z;cases z)]
    exact L9 b o (hB' b o e n x) n x
   ·rw[aw];have z:cs.length<16:=aca.2;simp;omega
   ·rw[heq,D_]
  ·have hw:dC "cell" l'=false:=by rw[gI]at hw;exact hw
   rw[if_pos ⟨hw,ce⟩]at D_
   rw[heq,D_]at k
   exact⟨_,rfl,k H' (.ref lc) Nn hB' ⟨lc,as,rfl,GC,hC'⟩⟩
def NumOf(H:Hp)(dn:ag)(f:ae):Prop:=∃oH,H dn=some (.dK oH)/\∀nm:List Nat,vo oH (Sum.inr (strOf nm))=(cF f nm).map λ(i:Nat)=>V.int (i:Int)
def wz(en:Nat)(f:ae)(m:List Nat)(l:cA):Except Bad (Nat×cA):=match nameAt en l with
 | .error b=>.error b
 | .ok (n,r)=>match cF f n.2 with
  |none=>.error ⟨2,n.1⟩
  |some c=>if m.contains c=true then .error ⟨3,n.1⟩else .ok (c,r)
def Dj(CR CP C:ag):Sp:=λ vs H Q E=>Calm E/\∃(r en dn ml:Nat) (ms:List Nat) (f:ae) (l:cA),vs=[.ref r,.ref dn,.ref ml]/\JL CR CP en H r l/\NumOf H dn f/\H ml=some (.lst (nX ms))/\
 rg CR CP C en r H Q E (λ(c:Nat) _ v=>v= .int c) (wz en f ms l)
abbrev Od:List Str:=["reader","number_of","members","name"]
theorem Dk:m9 Od ["reader","number_of","members"] (m5 zR):=qh
theorem sE.dict{r dn dx a i:Nat}{H H':Hp}{f:ae}(b:sE r H H')(h:NumOf H dn f)(hr:H r=some (.ins CR dx (N7 a i))):NumOf H' dn f:=
 let⟨oH,e,q⟩:=h;⟨oH,b dn _ e (λ z=>by rw[z,hr]at e;cases e) (λ φ z=>by cases z),q⟩
theorem Dl(c:Nat)(ms:List Nat):GQ (.int (c:Nat)) (nX ms)=ms.contains c:=by
 unfold GQ
 rw[jQ]
 induction ms with
 |nil=>rfl
 |cons m r ih=>
  rw[eF,kI,ih]
  congr 1
  show(((m:Nat):Int) == ((c:Nat):Int))=(c == m)
  by_cases q:c=m
  ·rw[q];simp
  ·rw[beq_eq_false_iff_ne.mpr q]
   exact beq_eq_false_iff_ne.mpr (by omega)
theorem L_(F:pI K "read_member" "read_member" zR f fd)(T:vz P w K mg base CR CP)(W:t6 P w K mg base C)(M:RdM P w K mg base CR CP C)(EI:oF mg "NO_CELL" 2)(pD:oF mg "TOLD_OR_FULL" 3):
  nQ P w K mg base (BJ P w C) 5 f fd ["reader","number_of","members"] (Dj CR CP C):=by
 refine F.V8 Dk (λ vs H Q E h=>?_) (λ vs H Q E h=>h.1) (λ oW A outer s H vs Q E hr h=>?_)
 ·obtain⟨_,r,en,dn,ml,ms,f,l,rfl,_⟩:=h
  rfl
 ·obtain⟨hE,r,en,dn,ml,ms,f,l,rfl,hR,hD,hM,k⟩:=h
  have nd:=Dk.nd
  have oB:=T.cl
  have ud:=M.name
  have Ee:=T.pc.cl
  have m2:=T.pc.na "value" (by simp)
  have m3:=T.pc.na "place" (by simp)
  refine⟨_,(mX (m8 (i:=3) nd rfl (Or.inl rfl) (oV ud oB hr (by decide) (pk (Cx.oE _ _ _)) (pv 0)))
   (mX (pj (PY (Uu (SW hr) (nq (pv 3) rfl) (pv 1))) (m6 (vy W rfl (Cx.oE _ _ _) hr (by decide) (mW (nU EI) (mW (nq (pv 3) rfl) mY)))) nZ)
   (mX (pj (oq AR (SR (SW hr) (pv 1) (nq (pv 3) rfl) (λ _ _=>rfl)) (pv 2) (by with_unfolding_all rfl)) (m6 (vy W rfl (Cx.oE _ _ _) hr (by decide) (mW (nU pD) (mW (nq (pv 3) rfl) mY)))) nZ)
   (m6 (nj (SR (SW hr) (pv 1) (nq (pv 3) rfl) (λ _ _=>rfl))))))),?_⟩
  obtain⟨dx,la,i,h1⟩:=hR.ins
  refine⟨_,rfl,r,dx,_,rfl,h1,rfl,hE,r,en,(),l,rfl,hR,rg.by (λ b e=>?_) λ nm l2 e2 H2 v PN L9 ⟨a,ev,pa⟩=>?_⟩
  ·have e:nameAt en l= .error b:=e
   unfold wz at k
   rw[e]at k;exact k
  subst ev
  have e2:nameAt en l= .ok (nm,l2):=e2
  unfold wz at k
  rw[e2]at k
  dsimp only at k
  obtain⟨dp,ha⟩:=id pa
  obtain⟨oH,hd2,hv⟩:=L9.dict hD h1
  have hM2:=L9.lst hM h1
  have hvn:=hv nm.2
  refine⟨_,rfl,a,CP,dp,_,_,rfl,ha,Ee,m2,rfl,_,rfl,dn,_,rfl,JS.k (k:=Sum.inr (strOf nm.2)) hd2,_,rfl,?_⟩
  cases hc:cF f nm.2 with
  |none=>
   rw[hc]at hvn k
   rw[hvn]
   refine tp ⟨_,rfl,a,CP,dp,_,_,rfl,ha,Ee,m3,rfl,_,_,rfl,λ H4 d4 hd ne=>k H4 d4 hd (L9.trans (sE.ne ne))⟩
  |some c=>
   rw[hc]at hvn k
   rw[hvn]
   dsimp only at k
   have hg:JS H2 dn (.str (strOf nm.2)) (some (.int (c:Nat))):=by
    have z:=JS.k (k:=Sum.inr (strOf nm.2)) hd2
    rw[hvn]at z;exact z
   refine rJ ⟨_,rfl,_,rfl,a,CP,dp,_,_,rfl,ha,Ee,m2,rfl,dn,_,rfl,hg,_,rfl,ml,_,rfl,.inl (nE.of hM2),rfl,(by rw[cH];exact List.all_eq_true.mpr λ _ _=>rfl),_,rfl,?_⟩
   rw[show(if false=true then !GQ (.int (c:Nat)) (nX ms)else GQ (.int (c:Nat)) (nX ms))=ms.contains c from Dl c ms]
   refine p_ (λ hm=>?_) λ hm=>?_
   ·rw[if_pos hm]at k
    exact⟨_,rfl,a,CP,dp,_,_,rfl,ha,Ee,m3,rfl,_,_,rfl,λ H4 d4 hd ne=>k H4 d4 hd (L9.trans (sE.ne ne))⟩
   ·rw[if_neg hm]at k
    exact⟨_,rfl,_,rfl,a,CP,dp,_,_,rfl,ha,Ee,m2,rfl,dn,_,rfl,hg,k H2 _ PN L9 rfl⟩
def KG(en:Nat)(f:ae)(k:Nat)(m:List Nat)(r:cA):Except Bad (List Nat×cA):=match r with
 |(_,.semi)::r'=>.ok (m,r')
 |r=>fK en f k m r
theorem EJ(en k:Nat)(f:ae)(m:List Nat)(l:cA):fK en f (k+1) m l=match wz en f m l with
  | .error b=>.error b
  | .ok (c,r)=>KG en f k (m++[c]) r:=by
 unfold wz
 show(do let n <-nameAt en l;_)=_
 cases e2:nameAt en l with
 |error b=>rfl
 |ok x=>
  obtain⟨n,r⟩:=x
  dsimp only[Bind.bind,Except.bind]
  cases hc:cF f n.2 with
  |none=>rfl
  |some c=>
   dsimp only
   by_cases hm:m.contains c=true
   ·rw[if_pos hm,if_pos hm]
   ·rw[if_neg hm,if_neg hm]
    dsimp only
    unfold KG
    cases r with
    |nil=>rfl
    |cons x r'=>
     obtain⟨i,tok⟩:=x
     cases tok <;> rfl
theorem zZ{en:Nat}{f:ae}{m:List Nat}{l r:cA}{c:Nat}(h:wz en f m l= .ok (c,r)):r.length<l.length:=by
 unfold wz at h
 cases e2:nameAt en l with
 |error b=>rw[e2]at h;cases h
 |ok x=>
  obtain⟨n,r'⟩:=x
  rw[e2]at h
  dsimp only at h
  split at h
  ·cases h
  ·split at h
   ·cases h
   ·cases h;exact Cd e2
def Dm(en:Nat)(f:ae)(l:cA):Except Bad (aL×cA):=match bN en "team" l with
 | .error b=>.error b
 | .ok l1=>match numAt en 1 12 l1 with
  | .error b=>.error b
  | .ok (n,l2)=>if lH<aZ (f.teams.map λ t=>t.efforts)+n then .error ⟨5,placeOf en l1⟩else match bN en "in" l2 with
   | .error b=>.error b
   | .ok l3=>match fK en f (l3.length+1) [] l3 with
    | .error b=>.error b
    | .ok (m,r)=>.ok (⟨n,m⟩,r)
abbrev JY:List Str:=["efforts","cells"]
def sP(CT:ag)(H:Hp)(a:ag)(t:aL):Prop:=∃dx ml,H a=some (.ins CT dx (JY.zip [.int t.efforts,.ref ml]))/\H ml=some (.lst (nX t.cells))/\t.cells≠[]
def HM(CR CP C CT:ag):Sp:=λ vs H Q E=>Calm E/\∃(r en dn:Nat) (f:ae) (l:cA),vs=[.ref r,.ref dn,.int (24-(aZ (f.teams.map λ t=>t.efforts):Nat))]/\JL CR CP en H r l/\NumOf H dn f/\l.length<=5000/\
 rg CR CP C en r H Q E (λ(t:aL) H' v=>∃a,v= .ref a/\sP CT H' a t) (Dm en f l)
abbrev UN:List Str:=["reader","number_of","efforts_left","place","efforts","members"]
theorem HP:m9 UN ["reader","number_of","efforts_left"] (m5 Ey):=qh
theorem NumOf.sO{H:Hp}{dn ml:ag}{f:ae}{xs ys:List V}(h:NumOf H dn f)(hl:H ml=some (.lst xs)):NumOf (upd H ml (.lst ys)) dn f:=
 let⟨oH,e,q⟩:=h;⟨oH,by rw[m4 (λ z=>by rw[z,hl]at e;cases e)];exact e,q⟩
theorem NumOf.same{H H':Hp}{dn:ag}{f:ae}(h:NumOf H dn f)(sm:m7 H H'):NumOf H' dn f:=let⟨oH,e,q⟩:=h;⟨oH,sm _ _ e,q⟩
theorem Xm(ms:List Nat)(c:Nat):nX (ms++[c])=nX ms++[V.int (c:Nat)]:=by simp[nX]
theorem Fq{ms:List Nat}:∀(Ed:List ag),Ed≠[]->nX ms≠Ed.map V.ref:=by
 intro Ed h e
 match ms,Ed,h,e with
 |[],a::r,_,e=>cases e
 |m::r',a::r,_,e=>exact absurd (List.cons.inj e).1 (by intro z;cases z)
theorem QH(F:pI K "read_team" "read_team" Ey f fd)(T:vz P w K mg base CR CP)(W:t6 P w K mg base C)(M:RdM P w K mg base CR CP C)(qp:Rec P w K mg base "Team" CT JY)
  (t7:rB P w K mg base (BJ P w C) 5 "read_member" ["reader","number_of","members"] (Dj CR CP C))(rK:oF mg "MOST_TEAM_EFFORTS" 12)(rZ:oF mg "TOO_MANY_EFFORTS" 5)(HQ:Bh mg "STOP" "stop"):
  nQ P w K mg base (BJ P w C) 6 f fd ["reader","number_of","efforts_left"] (HM CR CP C CT):=by
 refine F.V8 HP (λ vs H Q E h=>?_) (λ vs H Q E h=>h.1) (λ oW A outer s H vs Q E hr h=>?_)
 ·obtain⟨_,r,en,dn,f,l,rfl,_⟩:=h
  rfl
 ·obtain⟨hE,r,en,dn,f,l,rfl,hR,hD,hl5,k⟩:=h
  have nd:=HP.nd
  have oB:=T.cl
  have pV:=M.word
  have pS:=M.number
  have rp:=M.stop
  have rS:=M.ahead
  have Ee:=T.pc.cl
  have m1:=T.pc.na "kind" (by simp)
  have m3:=T.pc.na "place" (by simp)
  refine⟨_,(mX (n_ (pQ pV oB hr (by decide) (pk (Cx.oE _ _ _)) (pv 0) (mW qo mY)))
   (mX (m8 (i:=3) nd rfl (Or.inl rfl) (nq (oV (E:=E0) rS oB hr (by decide) nr (pv 0)) rfl))
   (mX (m8 (i:=4) nd rfl (Or.inl rfl) (pQ pS oB hr (by decide) (pk (Cx.oE _ _ _)) (pv 0) (mW nO (mW (nU rK) mY))))
   (mX (pj (oq Bj (pv 4) (pv 2) (oK _)) (m6 (vy W rfl (Cx.oE _ _ _) hr (by decide) (mW (nU rZ) (mW (pv 3) mY)))) nZ)
   (mX (n_ (pQ pV oB hr (by decide) (pk (Cx.oE _ _ _)) (pv 0) (mW qo mY)))
   (mX (m8 (i:=5) nd rfl (Or.inl rfl) (nP (mW (nv t7 hr (by decide) (pk (Cx.oE _ _ _)) (mW (pv 0) (mW (pv 1) (mW (nP mY) mY)))) mY)))
   (mX (rM (Tc rfl rfl (Cx.oE _ _ _) hE) (oq ac9 (nq (oV (E:=E0) rS oB hr (by decide) nr (pv 0)) rfl) (wu HQ) (oK _)) (m6 (n_ (qT aG bc a_ pF (pv 5) (mW (nv t7 hr (by decide) (pk (Cx.oE _ _ _)) (mW (pv 0) (mW (pv 1) (mW (pv 5) mY)))) mY)))))
   (mX (n_ (oV rp oB hr (by decide) (pk (Cx.oE _ _ _)) (pv 0)))
   (m6 (nj (vw qp hr (by decide) (mW (pv 4) (mW (pv 5) mY))))))))))))),?_⟩
  unfold Dm at k
  obtain⟨dx,la,i,h1⟩:=hR.ins
  refine⟨_,rfl,r,dx,_,rfl,h1,rfl,hE,r,en,"team",l,rfl,hR,rg.by (λ b e=>?_) λ _ l1 e1 H1 v Xj Y4 _=>?_⟩
  ·rw[wX e]at k;exact k
  rw[wx e1]at k
  dsimp only at k
  obtain⟨dx1,la1,i1,Y5⟩:=Xj.ins
  obtain⟨tk1,aeU,hT1⟩:=id Xj
  obtain⟨p1,t1,rfl,aeV⟩:=hT1.ahead
  refine⟨_,rfl,r,dx1,_,rfl,Y5,rfl,r,p1,t1,rfl,aeU,λ a1 ⟨dp1,ha1⟩=>⟨a1,CP,dp1,_,_,rfl,ha1,Ee,m3,rfl,?_⟩⟩
  refine⟨_,rfl,r,dx1,_,rfl,Y5,rfl,hE,r,en,(1,12),l1,rfl,Xj,rg.by (λ b e=>?_) λ n l2 e2 H2 v PN L9 ev=>?_⟩
  ·have e:numAt en 1 12 l1= .error b:=e
   rw[e]at k;exact Raise.mono k Y4
  have e2:numAt en 1 12 l1= .ok (n,l2):=e2
  rw[e2]at k
  dsimp only at k
  subst ev
  have B2:=Y4.trans L9
  refine⟨_,rfl,_,rfl,_,_,rfl,rfl,_,rfl,p_ (λ hc=>?_) λ hc=>?_⟩
  ·have hc:=of_decide_eq_true hc
   rw[if_pos (by show 24< _;omega)]at k
   refine⟨_,rfl,_,_,rfl,λ H4 d4 hd ne=>k H4 d4 ?_ (B2.trans (sE.ne ne))⟩
   rw[hd,aeV];rfl
  have hc:¬ (24-((aZ (f.teams.map λ t=>t.efforts):Nat):Int))<(n:Int):=λ q=>hc (decide_eq_true q)
  rw[if_neg (by show ¬ 24< _;omega)]at k
  obtain⟨Xd,la2,i2,h12⟩:=PN.ins
  refine⟨_,rfl,r,Xd,_,rfl,h12,rfl,hE,r,en,"in",l2,rfl,PN,rg.by (λ b e=>?_) λ _ l3 e3 H3 v hR3 hB3 _=>?_⟩
  ·rw[wX e]at k;exact Raise.mono k B2
  rw[wx e3]at k
  dsimp only at k
  have B3:=B2.trans hB3
  have uC:=B3.dict hD h1
  refine⟨_,rfl,_,rfl,aE _,λ p0 hp0=>?_⟩
  have s0:m7 H3 (upd H3 p0 (.lst [])):=m7.new hp0
  have st:=EJ en l3.length f [] l3
  refine⟨hE,r,en,dn,p0,[],f,l3,rfl,hR3.same s0,uC.same s0,mZ,rg.by (λ b e=>?_) λ c l4 e4 H4 v Y8 Xk ev=>?_⟩
  ·rw[e]at st
   rw[st]at k;exact Raise.mono k (B3.trans (sE.of_same s0))
  subst ev
  rw[e4]at st
  dsimp only at st
  have aeW:=zZ e4
  have B4:sE r H H4:=(B3.trans (sE.of_same s0)).trans Xk
  have hD4:NumOf H4 dn f:=Xk.dict (uC.same s0) (s0 _ _ (hR3.ins.choose_spec.choose_spec.choose_spec))
  refine⟨(by show 1<=ay;decide),λ ml hml=>?_⟩
  have s4:m7 H4 (upd H4 ml (.lst [.int (c:Nat)])):=m7.new hml
  refine⟨λ m σ H'=>∃(ms:List Nat) (l':cA) (fu:Nat),σ=[some (.ref r),some (.ref dn),some (.int (24-(aZ (f.teams.map λ t=>t.efforts):Nat))),some (.int (p1.2:Nat)),some (.int (n:Nat)),some (.ref ml)]/\H' ml=some (.lst (nX ms))/\ms≠[]/\JL CR CP en H' r l'/\NumOf H' dn f/\sE r H H'/\m=l'.length/\ms.length+l'.length<=l3.length+1/\l'.length<fu/\fK en f (l3.length+1) [] l3=KG en f fu ms l',
   ⟨_,[c],l4,l3.length,rfl,mZ,by simp,Y8.same s4,hD4.same s4,B4.trans (sE.of_same s4),rfl,by simp;omega,aeW,st⟩,?_⟩
  rintro m σ H' ⟨ms,l',fu,rfl,hm',xD,Nn,Z6,hB',rfl,hlen,hfu,heq⟩
  obtain⟨tk',aeX,hT'⟩:=id Nn
  obtain⟨p,t,rfl,vm⟩:=hT'.ahead
  obtain⟨dx',la',i',h1'⟩:=Nn.ins
  refine⟨_,rfl,r,dx',_,rfl,h1',rfl,r,p,t,rfl,aeX,λ a ⟨dp,ha⟩=>⟨a,CP,dp,_,_,rfl,ha,Ee,m1,rfl,Dg _ _,_,rfl,?_⟩⟩
  rcases EG hT' with⟨z1,z2,z3⟩|⟨z1,z2⟩
  ·rw[z1]
   refine rJ ?_
   refine⟨_,rfl,r,dx',_,rfl,h1',rfl,hE,r,en,(),l',rfl,Nn,rg.by (λ b e=>?_) λ _ l5 e5 H5 v Xl Oa _=>?_⟩
   ·have e:=wX e
    rw[z2]at e;cases e
   have e5:=wx e5
   rw[z2]at e5
   cases e5
   have hr:KG en f fu ms l'= .ok (ms,l'.drop 1):=by
    cases hT' with
    |semi h=>rfl
    |fin=>cases z2
    |word h=>cases z2
    |num h=>cases z2
    |bad=>cases z2
   rw[heq,hr]at k
   dsimp only at k
   have hm5:=Oa.lst hm' h1'
   refine⟨_,rfl,_,rfl,rfl,λ x dx6 H6 hx hx6 sm6=>?_⟩
   exact k H6 _ (Xl.same sm6) ((hB'.trans Oa).trans (sE.of_same sm6)) ⟨x,rfl,dx6,ml,hx6,sm6 _ _ hm5,xD⟩
  ·rw[z1]
   refine tp ?_
   obtain⟨f1,rfl⟩:∃f1,fu=f1+1:=⟨fu-1,by omega⟩
   have hr:KG en f (f1+1) ms l'=fK en f (f1+1) ms l':=by
    cases hT' with
    |semi h=>cases z2
    |fin=>rfl
    |word h=>rfl
    |num h=>rfl
    |bad=>rfl
   have D_:=EJ en f1 f ms l'
   refine⟨_,λ _ _ z=>z,_,rfl,.inl ⟨rfl,_,nE.of hm'⟩,_,rfl,_,rfl,_,rfl,hE,r,en,dn,ml,ms,f,l',rfl,Nn,Z6,hm',rg.by (λ b e=>?_) λ c2 l5 e5 H5 v Xl Oa ev=>?_⟩
   ·rw[e]at D_
    rw[heq,hr,D_]at k;exact Raise.mono k hB'
   subst ev
   rw[e5]at D_
   dsimp only at D_
   have acb:=zZ e5
   have hm5:=Oa.lst hm' h1'
   have hD5:=Oa.dict Z6 h1'
   refine⟨ml,_,_,rfl,rfl,hm5,?_,?_⟩
   ·have a1:=pE (wx e1)
    have a2:=tK e2
    have a3:=pE (wx e3)
    rw[aa,aA];omega
   refine⟨l5.length,acb,ms++[c2],l5,f1,rfl,?_,by simp,Xl.sO hm5 (λ Ed ps h _=>Fq Ed h),hD5.sO hm5,?_,rfl,?_,by omega,?_⟩
   ·rw[mZ,Xm]
   ·intro b o e n x
    rw[m4 (λ q=>by have z:=B4 b o e n x;rw[q,hml]at z;cases z)]
    exact Oa b o (hB' b o e n x) n x
   ·simp;omega
   ·rw[heq,hr,D_]
end oh
namespace L2
theorem Dn{K:ah}{a:ag}{xs:List V}{g:TG}{tb:TS}{D:Ends}{σ:L2.St}{H:Hp}(Pv:Nat->L2.St->Hp->Prop)(h0:Pv 0 σ H)(hl:∀i σ H,i<=xs.length->Pv i σ H->nE K H a xs)
  (hs:∀i x T σ H,xs[i]? =some x->Pv i σ H->H T=none->g (.ref T) σ (upd H T (.tup [.int (i:Nat),x])) λ σ2 H2=>tb { D with nx:=Pv (i+1),ct:=Pv (i+1),bk:=D.nx } σ2 H2)(hd:∀σ H,Pv xs.length σ H->D.nx σ H):
  ∃W:Nat->Nat->L2.St->Hp->Prop,(∃m,W 0 m σ H)/\∀i m σ H,W i m σ H->
   ((Ite K a).stop i H/\D.nx σ H)\/((Ite K a).go i H/\∃N:L2.St->Hp->Prop,(∀σ' H',N σ' H'->∃m',m'<m/\W (i+1) m' σ' H')/\∀x H',(Ite K a).G8 i H x H'->g x σ H' λ σ2 H2=>tb { D with nx:=N,ct:=N,bk:=D.nx } σ2 H2):=by
 refine⟨λ i m σ H=>m=xs.length-i/\i<=xs.length/\Pv i σ H,⟨xs.length,by simp,aE _,h0⟩,?_⟩
 rintro i m σ H ⟨rfl,hi,p⟩
 have q:=hl i σ H hi p
 by_cases rN:i<xs.length
 ·refine .inr ⟨⟨xs,xs[i],q,by simp[rN]⟩,Pv (i+1),λ σ' H' p'=>⟨xs.length-(i+1),by omega,rfl,rN,p'⟩,λ x H' y=>?_⟩
  obtain⟨T,z,rfl,hT,rfl,y⟩:=y
  exact hs i z T σ H (y xs q) p hT
 ·have e:i=xs.length:=by omega
  subst e
  exact .inl ⟨⟨xs,q,ax _⟩,hd σ H p⟩
theorem Tj{K:ah}{a b:ag}{xs ys:List V}{g:TG}{tb:TS}{D:Ends}{σ:L2.St}{H:Hp}(hxy:xs.length=ys.length)(Pv:Nat->L2.St->Hp->Prop)(h0:Pv 0 σ H)(hl:∀i σ H,i<=xs.length->Pv i σ H->nE K H a xs/\nE K H b ys)
  (hs:∀i x y T σ H,xs[i]? =some x->ys[i]? =some y->Pv i σ H->H T=none->g (.ref T) σ (upd H T (.tup [x,y])) λ σ2 H2=>tb { D with nx:=Pv (i+1),ct:=Pv (i+1),bk:=D.nx } σ2 H2)(hd:∀σ H,Pv xs.length σ H->D.nx σ H):
  ∃W:Nat->Nat->L2.St->Hp->Prop,(∃m,W 0 m σ H)/\∀i m σ H,W i m σ H->
   ((Itz K a b).stop i H/\D.nx σ H)\/((Itz K a b).go i H/\∃N:L2.St->Hp->Prop,(∀σ' H',N σ' H'->∃m',m'<m/\W (i+1) m' σ' H')/\∀x H',(Itz K a b).G8 i H x H'->g x σ H' λ σ2 H2=>tb { D with nx:=N,ct:=N,bk:=D.nx } σ2 H2):=by
 refine⟨λ i m σ H=>m=xs.length-i/\i<=xs.length/\Pv i σ H,⟨xs.length,by simp,aE _,h0⟩,?_⟩
 rintro i m σ H ⟨rfl,hi,p⟩
 obtain⟨q,q'⟩:=hl i σ H hi p
 by_cases rN:i<xs.length
 ·refine .inr ⟨⟨xs,ys,xs[i],ys[i],q,q',by simp[rN],af (by omega)⟩,Pv (i+1),λ σ' H' p'=>⟨xs.length-(i+1),by omega,rfl,rN,p'⟩,λ x H' y=>?_⟩
  obtain⟨T,z,z',rfl,hT,rfl,y,y'⟩:=y
  exact hs i z z' T σ H (y xs q) (y' ys q') p hT
 ·have e:i=xs.length:=by omega
  subst e
  exact .inl ⟨⟨xs,ys,q,q',.inl (ax _)⟩,hd σ H p⟩
end L2
namespace oh
def rT(en:Nat):Nat->ae->cA->Except Bad (ae×cA)
 |0,f,l=>.ok (f,l)
 |k+1,f,l=>if dC "team" l=true then(if jE<=f.teams.length then .error ⟨3,placeOf en l⟩else match Dm en f l with
  | .error b=>.error b
  | .ok (t,r)=>rT en k { f with teams:=f.teams++[t] } r)else .ok (f,l)
theorem Bm(en:Nat)(f:ae):∀(k:Nat) (m:List Nat) (l:cA) (m':List Nat) (r:cA),fK en f k m l= .ok (m',r)->r.length<=l.length:=by
 intro k
 induction k with
 |zero=>intro m l m' r h;cases h;exact ax _
 |succ k ih=>
  intro m l m' r h
  rw[EJ]at h
  cases e:wz en f m l with
  |error b=>rw[e]at h;cases h
  |ok x=>
   obtain⟨c,r1⟩:=x
   rw[e]at h
   dsimp only at h
   have a1:=zZ e
   unfold KG at h
   split at h
   ·cases h;simp at a1;omega
   ·have:=ih _ _ _ _ h;omega
theorem UO{en:Nat}{f:ae}{l r:cA}{t:aL}(h:Dm en f l= .ok (t,r)):r.length<l.length:=by
 unfold Dm at h
 split at h
 ·cases h
 ·rename_i l1 e1
  split at h
  ·cases h
  ·rename_i n l2 e2
   split at h
   ·cases h
   ·split at h
    ·cases h
    ·rename_i l3 e3
     split at h
     ·cases h
     ·rename_i m r' e4
      cases h
      have a1:=pE e1
      have a2:=tK e2
      have a3:=pE e3
      have a4:=Bm en f _ _ _ _ _ e4
      omega
theorem Xn(en:Nat):∀(k:Nat) (f:ae) (l:cA),l.length<k->teamsAt en k f l=match rT en k f l with
  | .error b=>.error b
  | .ok (f',l')=>if l'.isEmpty=true then .ok f' else .error ⟨1,placeOf en l'⟩:=by
 intro k
 induction k with
 |zero=>intro f l h;omega
 |succ k ih=>
  intro f l h
  show(if l.isEmpty=true then Except.ok f else _)=_
  unfold rT
  by_cases he:l.isEmpty=true
  ·rw[if_pos he]
   have e:l=[]:=List.isEmpty_iff.mp he
   subst e
   rfl
  ·rw[if_neg he]
   by_cases hw:dC "team" l=true
   ·rw[if_pos hw]
    have e1:bN en "team" l= .ok (l.drop 1):=if_pos hw
    unfold Dm
    rw[e1]
    dsimp only[Bind.bind,Except.bind]
    by_cases ht:jE<=f.teams.length
    ·rw[if_pos ht,if_pos ht]
    ·rw[if_neg ht,if_neg ht]
     cases e2:numAt en 1 12 (l.drop 1)with
     |error b=>rfl
     |ok x=>
      obtain⟨n,l2⟩:=x
      dsimp only
      by_cases hs:lH<aZ (f.teams.map λ t=>t.efforts)+n
      ·rw[if_pos hs,if_pos hs]
      ·rw[if_neg hs,if_neg hs]
       cases e3:bN en "in" l2 with
       |error b=>rfl
       |ok l3=>
        dsimp only
        cases e4:fK en f (l3.length+1) [] l3 with
        |error b=>rfl
        |ok y=>
         obtain⟨m,r⟩:=y
         dsimp only
         have a1:=pE e1
         have a2:=tK e2
         have a3:=pE e3
         have a4:=Bm en f _ _ _ _ _ e4
         exact ih _ r (by omega)
   ·rw[if_neg hw]
    have e1:bN en "team" l= .error ⟨1,placeOf en l⟩:=if_neg hw
    rw[e1]
    dsimp only[Bind.bind,Except.bind]
    rw[if_neg he]
theorem Xo(oH:List (Key×V))(k:Key)(v:V):(putK oH k v).length<=oH.length+1:=by
 unfold putK
 split
 ·rw[aa];omega
 ·rw[aw];simp
theorem Xp{cs:List bF}{i:Nat}{c:bF}(hn:(cs.map (·.name)).Nodup)(hc:cs[i]? =some c)(nm:List Nat):
  (if(Sum.inr (strOf nm):Key)=Sum.inr (strOf c.name)then some (V.int (i:Nat))else((cs.take i).findIdx? λ c=>c.name == nm).map λ(i:Nat)=>V.int (i:Int))=((cs.take i++(some c).toList).findIdx? λ c=>c.name == nm).map λ(i:Nat)=>V.int (i:Int):=by
 have hi:i<cs.length:=(List.getElem?_eq_some_iff.mp hc).1
 rw[List.findIdx?_append]
 have e1:(some c).toList=[c]:=rfl
 rw[e1,List.findIdx?_singleton,bW,fO (fb hi)]
 by_cases q:nm=c.name
 ·have hb:(c.name == nm)=true:=by rw[q];exact beq_self_eq_true _
  have h0:(cs.take i).findIdx? (λ c=>c.name == nm)=none:=by
   rw[List.findIdx?_eq_none_iff]
   intro d hd
   rw[beq_eq_false_iff_ne]
   intro e
   obtain⟨j,hj,ej⟩:=cw hd
   rw[bW]at hj
   rw[List.getElem_take]at ej
   have a1:(cs.map (·.name))[j]? =some c.name:=by rw[ak,af (by omega),ej];exact congrArg some (e.trans q)
   have a2:(cs.map (·.name))[i]? =some c.name:=by rw[ak,hc];rfl
   have:=adC hn a1 a2
   omega
  rw[if_pos (by rw[q]),h0,hb]
  simp
 ·have hb:(c.name == nm)=false:=beq_eq_false_iff_ne.mpr (λ z=>q z.symm)
  rw[if_neg (λ z=>q (A0 (Sum.inr.inj z))),hb]
  simp
theorem tL(l:List Nat):((l.map λ(n:Nat)=>(n:Int)).sum)=((aZ l:Nat):Int):=by
 have step:∀(l:List Nat) (a:Nat),((l.foldl (λ a b=>a+b) a:Nat):Int)=(a:Int)+(l.map λ(n:Nat)=>(n:Int)).sum:=by
  intro l
  induction l with
  |nil=>intro a;simp
  |cons n r ih=>intro a;rw[ck,ih,aH,iD];omega
 unfold aZ
 rw[step l 0];simp
def Dq(CT:ag)(H:Hp)(as:List ag)(ts:List aL):Prop:=as.length=ts.length/\∀(j:Nat) (a:ag) (t:aL),as[j]? =some a->ts[j]? =some t->sP CT H a t
def Fs(CR CP C CC CT:ag):Sp:=λ vs H Q E=>Calm E/\∃(r en lc:Nat) (as:List ag) (f:ae) (l:cA),vs=[.ref r,.ref lc]/\JL CR CP en H r l/\H lc=some (.lst (as.map V.ref))/\qK CC H as f.cells/\(f.cells.map (·.name)).Nodup/\f.cells.length<=16/\f.teams=[]/\l.length<=5000/\
 rg CR CP C en r H Q E (λ(g:ae) H' v=>∃lt bs,v= .ref lt/\H' lt=some (.lst (bs.map V.ref))/\Dq CT H' bs g.teams) (rT en (l.length+1) f l)
abbrev HR:List Str:=["reader","cells","number_of","number","cell","teams","together","team"]
theorem Ft:m9 HR ["reader","cells"] (m5 x9):=qh
theorem sP.but{r dx a i x:Nat}{H H':Hp}{t:aL}(b:sE r H H')(h:sP CT H x t)(hr:H r=some (.ins CR dx (N7 a i))):sP CT H' x t:=by
 obtain⟨d,ml,e1,e2,e3⟩:=h
 exact⟨d,ml,b x _ e1 (λ e=>by rw[e,hr]at e1;cases e1) (λ φ q=>by cases q),b.lst e2 hr,e3⟩
theorem sP.same{x:Nat}{H H':Hp}{t:aL}(h:sP CT H x t)(sm:m7 H H'):sP CT H' x t:=let⟨d,ml,e1,e2,e3⟩:=h;⟨d,ml,sm _ _ e1,sm _ _ e2,e3⟩
theorem sP.sO{x lt:Nat}{H:Hp}{t:aL}{bs:List ag}{ys:List V}(h:sP CT H x t)(hl:H lt=some (.lst (bs.map V.ref))):sP CT (upd H lt (.lst ys)) x t:=by
 obtain⟨d,ml,e1,e2,e3⟩:=h
 refine⟨d,ml,by rw[m4 (λ e=>by rw[e,hl]at e1;cases e1)];exact e1,?_,e3⟩
 rw[m4 (λ e=>?_)]
 ·exact e2
 ·rw[e,hl]at e2
  have z:=HO.lst.inj (Option.some.inj e2)
  cases hb:bs with
  |nil=>
   rw[hb]at z
   cases hc:t.cells with
   |nil=>exact e3 hc
   |cons c r=>rw[hc]at z;cases z
  |cons b r=>exact Fq (ms:=t.cells) bs (by rw[hb];simp) z.symm
theorem Oe(F:pI K "read_teams" "read_teams" x9 f fd)(T:vz P w K mg base CR CP)(W:t6 P w K mg base C)(M:RdM P w K mg base CR CP C)(oz:Rec P w K mg base "Cell" CC EH)(qp:Rec P w K mg base "Team" CT JY)
  (z6:rB P w K mg base (BJ P w C) 6 "read_team" ["reader","number_of","efforts_left"] (HM CR CP C CT))(qk:mg "enumerate"=none)(pd:mg "len"=none)(xH:mg "sum"=none)(yj:oF mg "MOST_TEAMS" 6)(pD:oF mg "TOLD_OR_FULL" 3)(qD:oF mg "MOST_EFFORTS_TOGETHER" 24):
  nQ P w K mg base (BJ P w C) 7 f fd ["reader","cells"] (Fs CR CP C CC CT):=by
 refine F.V8 Ft (λ vs H Q E h=>?_) (λ vs H Q E h=>h.1) (λ oW A outer s H vs Q E hr h=>?_)
 ·obtain⟨_,r,en,lc,as,f,l,rfl,_⟩:=h
  rfl
 ·obtain⟨hE,r,en,lc,as,f,l,rfl,hR,hL,hC,hnn,GH,hft,hl5,k⟩:=h
  have nd:=Ft.nd
  have oB:=T.cl
  have vb:=M.isWord
  have rS:=M.ahead
  have Ee:=T.pc.cl
  have m3:=T.pc.na "place" (by simp)
  refine⟨_,(mX (m8 (i:=2) nd rfl (Or.inl rfl) Wy)
   (mX (qB (Tc rfl rfl (Cx.oE _ _ _) hE) rfl (C4 rfl qk (mW (pv 1) mY)) (zF rfl (oJ (nA (i:=3) nd rfl (Or.inl rfl)) (oJ (nA (i:=4) nd rfl (Or.inl rfl)) rC))) (m6 (ZF (SW hr) (pv 2) (nq (pv 4) rfl) (pv 3) rfl)))
   (mX (m8 (i:=5) nd rfl (Or.inl rfl) (nP mY))
   (mX (rM (Tc rfl rfl (Cx.oE _ _ _) hE) (tG (pQ (E:=E0) vb oB hr (by decide) nr (pv 0) (mW qo mY))) (mX (pj (oq uc (nM nN rfl pd aX (mW (pv 5) mY)) (nU yj) (oK _)) (m6 (vy W rfl (Cx.oE _ _ _) hr (by decide) (mW (nU pD) (mW (nq (oV (E:=E0) rS oB hr (by decide) nr (pv 0)) rfl) mY)))) nZ)
   (mX (m8 (i:=6) nd rfl (Or.inl rfl) (nM (BF rfl) rfl xH iO (mW (qt (own:=[("team",7)]) rfl nd (oM (pv 5)) (by exact pC.of (N:=HR) (sc:=m5 x9) (by decide +kernel)) (λ _ _ _ _ _=>by exact(nA (i:=7) nd rfl (Or.inl rfl))) (λ _ _ _ _ _=>by exact oR) (λ _ _ _ _ _=>by exact(xV K (pv 7)))) mY)))
   (m6 (n_ (qT aG bc a_ pF (pv 5) (mW (nv z6 hr (by decide) (pk (Cx.oE _ _ _)) (mW (pv 0) (mW (pv 2) (mW (oj sG (nU qD) (pv 6)) mY)))) mY)))))))
   (m6 (nj (pv 5))))))),?_⟩
  refine λ dn hdn=>?_
  have s0:m7 H (upd H dn (.dK [])):=m7.new hdn
  refine⟨_,rfl,lc,_,rfl,nE.of (s0 _ _ hL),Dn (K:=K) (a:=lc) (xs:=as.map V.ref) (λ i σ H'=>∃(o3 o4:Option V) (oH:List (Key×V)),σ=[some (.ref r),some (.ref lc),some (.ref dn),o3,o4,none,none,none]/\m7 H H'/\H' dn=some (.dK oH)/\oH.length<=i/\∀nm:List Nat,vo oH (Sum.inr (strOf nm))=((f.cells.take i).findIdx? λ c=>c.name == nm).map λ(i:Nat)=>V.int (i:Int))
   ⟨none,none,[],rfl,s0,mZ,ax _,λ nm=>by simp[Wu]⟩ (λ i σ H' _ ⟨_,_,_,_,sm,_⟩=>nE.of (sm _ _ hL)) ?_ ?_⟩
  ·rintro i x T σ H' hx ⟨o3,o4,oH,rfl,sm,hd,hk,hv⟩ hT
   rw[ak]at hx
   cases q1:as[i]? with
   |none=>rw[q1]at hx;cases hx
   |some aj=>
    rw[q1]at hx;cases hx
    have hi:i<f.cells.length:=by rw[<-hC.1];exact(List.getElem?_eq_some_iff.mp q1).1
    have q2:f.cells[i]? =some f.cells[i]:=af hi
    obtain⟨dc,ec⟩:=hC.2 i aj _ q1 q2
    have dT:dn≠T:=λ q=>by rw[q,hT]at hd;cases hd
    have VV:upd H' T (.tup [.int (i:Nat),.ref aj]) dn=some (.dK oH):=by rw[m4 dT];exact hd
    have sT:m7 H' (upd H' T (.tup [.int (i:Nat),.ref aj])):=m7.new hT
    refine⟨T,_,rfl,Bi.of mZ,rfl,_,_,rfl,_,_,rfl,rfl,?_⟩
    refine⟨_,rfl,_,rfl,_,rfl,aj,CC,dc,_,_,rfl,sT _ _ (sm _ _ ec),oz.cl,oz.na "name" (by simp),rfl,dn,_,rfl,Ww.k (k:=Sum.inr (strOf f.cells[i].name)) VV (by rw[aA];omega),?_⟩
    refine⟨_,_,_,rfl,λ b o e=>?_,mZ,?_,λ nm=>?_⟩
    ·rw[m4 (nG e hdn)];exact sT _ _ (sm _ _ e)
    ·have z:=Xo oH (Sum.inr (strOf f.cells[i].name)) (V.int (i:Nat))
     omega
    ·rw[Wv,hv nm,bZ,q2]
     exact Xp hnn q2 nm
  ·rintro σ H' ⟨o3,o4,oH,rfl,sm,hd,hk,hv⟩
   rw[aa,hC.1,dj]at hv
   have hN:NumOf H' dn f:=⟨oH,hd,hv⟩
   clear hk hv hd
   refine⟨aE _,λ lt rN=>?_⟩
   have s1:m7 H' (upd H' lt (.lst [])):=m7.new rN
   have ltH:∀b o,H b=some o->b≠lt:=λ b o e=>nG (sm _ _ e) rN
   refine⟨λ m σ H2=>∃(o6:Option V) (bs:List ag) (ts:List aL) (l':cA) (fu:Nat),σ=[some (.ref r),some (.ref lc),some (.ref dn),o3,o4,some (.ref lt),o6,none]/\H2 lt=some (.lst (bs.map V.ref))/\Dq CT H2 bs ts/\JL CR CP en H2 r l'/\NumOf H2 dn f/\sE r H H2/\m=l'.length/\ts.length<=6/\l'.length<fu/\l'.length<=5000/\rT en (l.length+1) f l=rT en fu { f with teams:=ts } l',
    ⟨_,none,[],[],l,l.length+1,rfl,mZ,⟨rfl,λ j a t e1=>by simp at e1⟩,(hR.same sm).same s1,hN.same s1,(sE.of_same sm).trans (sE.of_same s1),rfl,aE _,cK _,hl5,by rw[<-hft]⟩,?_⟩
   rintro m σ H2 ⟨o6,bs,ts,l',fu,rfl,hb2,LO,PN,hN2,L9,rfl,h6,hfu,GC,heq⟩
   obtain⟨tk,hRA,hT⟩:=id PN
   obtain⟨p,t,rfl,vm⟩:=hT.ahead
   obtain⟨dx,la,i,h1⟩:=PN.ins
   obtain⟨f1,rfl⟩:∃f1,fu=f1+1:=⟨fu-1,by omega⟩
   have st:rT en (f1+1) { f with teams:=ts } l'=if dC "team" l'=true then(if jE<=ts.length then .error ⟨3,placeOf en l'⟩else match Dm en { f with teams:=ts } l' with
    | .error b=>.error b
    | .ok (t,r)=>rT en f1 { f with teams:=ts++[t] } r)else .ok ({ f with teams:=ts },l'):=rfl
   refine⟨_,rfl,r,dx,_,rfl,h1,rfl,r,_,p,t,rfl,hRA,_,rfl,?_⟩
   rw[hT.isW]
   refine p_ (λ hw=>?_) λ hw=>?_
   ·rw[if_pos hw]at st
    refine⟨_,λ _ _ z=>z,_,rfl,lt,_,rfl,.inl (nE.of hb2),rfl,_,rfl,p_ (λ hc=>?_) λ hc=>?_⟩
    ·have hc:=V.int.inj (of_decide_eq_true hc)
     rw[aa,LO.1]at hc
     rw[if_pos (by show 6<=_;omega)]at st
     rw[heq,st]at k
     refine⟨_,rfl,r,dx,_,rfl,h1,rfl,r,p,t,rfl,hRA,λ a ⟨dp,ha⟩=>⟨a,CP,dp,_,_,rfl,ha,Ee,m3,rfl,_,_,rfl,λ H4 d4 hd ne=>k H4 d4 ?_ (L9.trans (sE.ne ne))⟩⟩
     rw[hd,vm];rfl
    ·have hc:¬ ((bs.map V.ref).length:Int)=6:=λ q=>hc (decide_eq_true (congrArg V.int q))
     rw[aa,LO.1]at hc
     rw[if_neg (by show ¬ 6<=_;omega)]at st
     refine⟨_,rfl,lt,rfl,⟨_,nE.of hb2⟩,?_⟩
     refine oY (oS (K:=K) (xs:=bs.map V.ref) (nE.of hb2)) (ts.map λ t=>V.int (t.efforts:Nat)) (by rw[aa,aa,LO.1]) (by rw[aa,LO.1,aA];omega) (λ j x y H3 R3 N3 hy pG hF kk=>?_) (λ D H3 hD pG uC=>?_)
     ·rw[ak]at hF hy
      cases q1:bs[j]? with
      |none=>rw[q1]at hF;cases hF
      |some aj=>
       cases q2:ts[j]? with
       |none=>rw[q2]at hy;cases hy
       |some tj=>
        rw[q1]at hF;rw[q2]at hy
        cases hF;cases hy
        obtain⟨dc,ml,ec,_⟩:=LO.2 j aj tj q1 q2
        exact⟨rfl,sD ⟨_,rfl,aj,CT,dc,_,_,rfl,pG _ _ ec,qp.cl,qp.na "efforts" (by simp),rfl,kk H3 (m7.refl _)⟩⟩
     have aeY:(ts.map λ t=>((t.efforts:Nat):Int)).sum=((aZ (ts.map λ t=>t.efforts):Nat):Int):=by
      rw[<-tL,aW];rfl
     refine⟨D,ts.map (λ t=>((t.efforts:Nat):Int)),rfl,nE.of (by rw[uC,aW];rfl),?_⟩
     rw[aeY]
     have B3:sE r H H3:=L9.trans (sE.of_same pG)
     have hb3:=pG _ _ hb2
     have Y7:=pG _ _ h1
     refine⟨_,rfl,.inl ⟨rfl,_,nE.of hb3⟩,_,rfl,_,rfl,_,rfl,_,_,rfl,rfl,hE,r,en,dn,{ f with teams:=ts },l',rfl,PN.same pG,hN2.same pG,GC,rg.by (λ b e=>?_) λ tm l5 e5 H5 v Xl Oa ⟨a5,ev,ta⟩=>?_⟩
     ·rw[e]at st
      rw[heq,st]at k;exact Raise.mono k B3
     subst ev
     rw[e5]at st
     dsimp only at st
     have acb:=UO e5
     have hb5:=Oa.lst hb3 Y7
     refine⟨lt,_,_,rfl,rfl,hb5,?_,?_⟩
     ·rw[aa,LO.1,aA];omega
     have hT5:Dq CT H5 bs ts:=⟨LO.1,λ j a t e1 e2=>((LO.2 j a t e1 e2).same pG).but Oa Y7⟩
     refine⟨l5.length,acb,_,bs++[a5],ts++[tm],l5,f1,rfl,?_,?_,Xl.sO hb5 ?_,(Oa.dict (hN2.same pG) Y7).sO hb5,?_,rfl,?_,by omega,by omega,?_⟩
     ·rw[mZ,aF];rfl
     ·refine⟨by simp[LO.1],λ j a t e1 e2=>?_⟩
      by_cases hj:j<bs.length
      ·rw[bp hj]at e1
       rw[bp (by rw[<-LO.1];exact hj)]at e2
       exact(hT5.2 j a t e1 e2).sO hb5
      ·rw[bg (by omega)]at e1
       rw[bg (by rw[<-LO.1];omega)]at e2
       have e:j-bs.length=0:=by
        obtain⟨z,_⟩:=List.getElem?_eq_some_iff.mp e1
        simp at z;omega
       rw[e]at e1
       rw[<-LO.1,e]at e2
       cases e1;cases e2
       exact ta.sO hb5
     ·intro Ed ps h h2 e
      have e:=zY e
      subst e
      match bs,ts,ps,hT5,h,h2 with
      |b::br,t::tr,q::pr,hT5,_,h2=>
       obtain⟨d1,ml,e1,_⟩:=hT5.2 0 b t rfl rfl
       obtain⟨d2,e2⟩:=h2.2 0 b q rfl rfl
       rw[e1]at e2
       cases e2
      |b::br,t::tr,[],hT5,_,h2=>exact absurd h2.1 (by simp)
      |b::br,[],_,hT5,_,h2=>exact absurd hT5.1 (by simp)
     ·intro b o e n x
      rw[m4 (ltH b o e)]
      exact Oa b o (B3 b o e n x) n x
     ·rw[aw];simp;omega
     ·rw[heq,st]
   ·rw[if_neg hw]at st
    rw[heq,st]at k
    exact⟨_,rfl,k H2 (.ref lt) PN L9 ⟨lt,bs,rfl,hb2,LO⟩⟩
theorem Of(t:List Nat)(i lo hi:Nat):(t.drop i).take (pf t i lo hi)=(t.drop i).takeWhile λ c=>decide (lo<=c) && decide (c<=hi):=by
 unfold pf
 exact(List.prefix_iff_eq_take.mp (gZ _)).symm
theorem EK{t:List Nat}{i c:Nat}(h:t[i]? =some c)(h1:¬ (97<=c/\c<=122))(h2:¬ (48<=c/\c<=57)):nY t i=i+1:=by
 unfold nY
 have a1:=rn (lo:=97) (hi:=122) h
 have a2:=rn (lo:=48) (hi:=57) h
 rw[if_neg h1]at a1
 rw[if_neg h2]at a2
 omega
theorem Z_(t:List Nat):∀(n i f:Nat),t.length-i<=n->n<f->i<=t.length->tJ t.length (qf t (t.length-i) i++[(.fin,t.length)]) (iH f i (t.drop i)):=by
 intro n
 induction n with
 |zero=>
  intro i f h1 h2 h3
  have e:i=t.length:=by omega
  subst e
  obtain⟨f',rfl⟩:∃f',f=f'+1:=⟨f-1,by omega⟩
  rw[qj (ax _),ft]
  exact .fin
 |succ n ih=>
  intro i f h1 h2 h3
  obtain⟨f',rfl⟩:∃f',f=f'+1:=⟨f-1,by omega⟩
  by_cases hi:i<t.length
  ·have EF:t[i]? =some t[i]:=af hi
   have Bn:t.drop i=t[i]::t.drop (i+1):=d9 hi
   rw[Df EF]
   have eb:=vx hi
   have next:=ih (nY t i) f' (by omega) (by omega) eb.2
   generalize hc:t[i]=c at EF Bn
   rw[Bn]
   show tJ _ _ (if c=32\/c=10 then _ else _)
   by_cases hb:c=32\/c=10
   ·rw[if_pos hb,if_pos hb,gU]
    rw[EK EF (by omega) (by omega)]at next
    rw[EK EF (by omega) (by omega)]
    exact next
   ·rw[if_neg hb,if_neg hb]
    show tJ _ ((pieceAt t i c,i)::(qf t (t.length-nY t i) (nY t i)++[(.fin,t.length)])) _
    by_cases hs:c=59
    ·rw[if_pos hs]
     have e:pieceAt t i c= .stop:=by unfold pieceAt;rw[if_neg (by omega),if_neg (by omega),if_pos hs]
     rw[e]
     rw[EK EF (by omega) (by omega)]at next ⊢
     exact .semi next
    ·rw[if_neg hs]
     by_cases hl:97<=c/\c<=122
     ·have hL:fj c=true:=by unfold fj;simp[hl]
      rw[if_pos hL]
      have e0:=HC EF hl
      have ew:(c::t.drop (i+1)).takeWhile fj=(t.drop i).take (pf t i 97 122):=by rw[Of,<-Bn];rfl
      have el:((c::t.drop (i+1)).takeWhile fj).length=pf t i 97 122:=by rw[<-Bn];rfl
      have ep:pieceAt t i c=zW t i (nY t i):=if_pos hl
      rw[ep]
      dsimp only
      rw[el]
      unfold zW
      rw[show nY t i-i=pf t i 97 122 by omega]
      by_cases h8:8<pf t i 97 122
      ·rw[if_pos h8,if_pos h8];exact .bad
      ·rw[if_neg h8,if_neg h8,ew,<-Bn,eX]
       rw[e0]at next
       rw[e0]
       exact .word next
     ·have hL:¬ fj c=true:=by unfold fj;simp;omega
      rw[if_neg hL]
      by_cases hd:48<=c/\c<=57
      ·have hD:fV c=true:=by unfold fV;simp[hd]
       rw[if_pos hD]
       have e0:=Kv EF hd
       have ew:(c::t.drop (i+1)).takeWhile fV=(t.drop i).take (pf t i 48 57):=by rw[Of,<-Bn];rfl
       have el:((c::t.drop (i+1)).takeWhile fV).length=pf t i 48 57:=by rw[<-Bn];rfl
       have ep:pieceAt t i c=Hx t i (nY t i):=by unfold pieceAt;rw[if_neg hl,if_pos hd]
       rw[ep]
       dsimp only
       rw[el]
       unfold Hx
       rw[show nY t i-i=pf t i 48 57 by omega,EF]
       by_cases h4:4<pf t i 48 57\/(1<pf t i 48 57/\c=48)
       ·rw[if_pos h4,if_pos (by rcases h4 with z|⟨z1,z2⟩;exact .inl z;exact .inr ⟨z1,congrArg some z2⟩)];exact .bad
       ·rw[if_neg h4,if_neg (by rintro(z|⟨z1,z2⟩);exact h4 (.inl z);exact h4 (.inr ⟨z1,Option.some.inj z2⟩)),ew,<-Bn,eX]
        rw[e0]at next
        rw[e0]
        exact .num next
      ·have hD:¬ fV c=true:=by unfold fV;simp;omega
       rw[if_neg hD]
       have ep:pieceAt t i c= .bad:=by unfold pieceAt;rw[if_neg hl,if_neg hd,if_neg hs]
       rw[ep];exact .bad
  ·have e:i=t.length:=by omega
   subst e
   rw[qj (ax _),ft]
   exact .fin
theorem aaa(t:List Nat):tJ t.length (Cc t) (iH (t.length+1) 0 t):=by
 have h:=Z_ t t.length 0 (t.length+1) (by omega) (cK _) (aE _)
 simpa [Cc]using h
theorem vA:∀(f i:Nat) (t:List Nat),(iH f i t).length<=f
 |0,_,_=>ax _
 |_+1,_,[]=>aE _
 |f+1,i,c::t=>by
  show(if c=32\/c=10 then _ else _:cA).length<=_
  split
  ·have:=vA f (i+1) t;omega
  ·split
   ·have:=vA f (i+1) t;simp;omega
   ·split
    ·dsimp only
     split
     ·simp
     ·have:=vA f (i+((c::t).takeWhile fj).length) ((c::t).drop ((c::t).takeWhile fj).length);simp at this ⊢;omega
    ·split
     ·dsimp only
      split
      ·simp
      ·have:=vA f (i+((c::t).takeWhile fV).length) ((c::t).drop ((c::t).takeWhile fV).length);simp at this ⊢;omega
     ·simp
def Dr(K:ah)(CR CP:ag):Sp:=λ vs H Q _=>∃(x dx a:ag) (t:List Nat),vs=[.ref x,.ref a]/\H x=some (.ins CR dx [])/\nE K H a (nX t)/\t.length<=2000/\∀H',Qz CR CP H' x (Cc t)->(∀b o,H b=some o->b≠x->H' b=some o)->Q .qA H'
theorem Ma:m9 ["self","text"] ["self","text"] (m5 zP):=qh
theorem Mb(F:pI K "__init__" "Reader.__init__" zP f fd)(T:vz P w K mg base CR CP)(Xq:rB P w K mg base oG 5 "cut" ["text"] (aa5 K CP)):nQ P w K mg base oG 6 f fd ["self","text"] (Dr K CR CP):=by
 refine F.ok Ma (λ vs H Q E h=>?_) (λ oW A outer s H vs Q E hr h=>?_)
 ·obtain⟨x,dx,a,t,rfl,_⟩:=h
  rfl
 ·obtain⟨x,dx,a,t,rfl,hx,hs,ht,k⟩:=h
  refine⟨_,mX (pU (pv 0) (nv (E:=E0) Xq hr (by decide) nr (mW (pv 1) mY)) rfl) (m6 (pU (pv 0) nO rfl)),?_⟩
  refine⟨_,rfl,a,t,rfl,hs,ht,λ H1 p as sm hp hf JX pa=>?_⟩
  have px:p≠x:=λ e=>by rw[e,hx]at hp;cases hp
  refine⟨_,rfl,x,CR,dx,_,rfl,sm _ _ hx,T.cl,T.n1,(by show 0<1000;decide),_,rfl,x,CR,dx,_,rfl,mZ,T.cl,T.n2,(by show 1<1000;decide),?_⟩
  refine k _ ⟨dx,p,0,as,Cc t,?_,?_,pa.same λ y o hy e=>?_,rfl,aE _⟩ λ b o e n=>?_
  ·rw[mZ];rfl
  ·rw[m4 px,m4 px];exact JX
  ·have yx:y≠x:=λ q=>by have:=hf y hy;rw[q,hx]at this;cases this
   rw[m4 yx,m4 yx];exact e
  ·rw[m4 n,m4 n];exact sm _ _ e
structure Xr(parts:Nat)(c:bF):Prop where
 weight:c.weight<=1000
 finds:c.finds<=parts
 time:1<=c.time/\c.time<=20
structure CellsOk(f:ae):Prop where
 nd:(f.cells.map (·.name)).Nodup
 len:f.cells.length<=16
 each:∀c∈f.cells,Xr f.parts c
theorem z7{en lo hi:Nat}{l r:cA}{n:Nat}(h:numAt en lo hi l= .ok (n,r)):lo<=n/\n<=hi:=by
 unfold jC at h
 split at h
 ·split at h
  ·rename_i hc;cases h;exact hc
  ·cases h
 ·cases h
theorem Xs{en:Nat}{f:ae}{l r:cA}{c:bF}(h:xG en f l= .ok (c,r)):Xr f.parts c/\c.name∉f.cells.map (·.name):=by
 unfold xG at h
 cases e1:bN en "cell" l with
 |error b=>rw[e1]at h;cases h
 |ok l1=>
  rw[e1]at h
  dsimp only[Bind.bind,Except.bind]at h
  cases e2:nameAt en l1 with
  |error b=>rw[e2]at h;cases h
  |ok x=>
   obtain⟨n,l2⟩:=x
   rw[e2]at h
   dsimp only at h
   split at h
   ·cases h
   ·rename_i hc
    cases e3:bN en "weight" l2 with
    |error b=>rw[e3]at h;cases h
    |ok l3=>
     rw[e3]at h
     dsimp only at h
     cases e4:numAt en 0 d_ l3 with
     |error b=>rw[e4]at h;cases h
     |ok x4=>
      obtain⟨n4,l4⟩:=x4
      rw[e4]at h
      dsimp only at h
      cases e5:bN en "finds" l4 with
      |error b=>rw[e5]at h;cases h
      |ok l5=>
       rw[e5]at h
       dsimp only at h
       cases e6:numAt en 0 f.parts l5 with
       |error b=>rw[e6]at h;cases h
       |ok x6=>
        obtain⟨n6,l6⟩:=x6
        rw[e6]at h
        dsimp only at h
        cases e7:bN en "time" l6 with
        |error b=>rw[e7]at h;cases h
        |ok l7=>
         rw[e7]at h
         dsimp only at h
         cases e8:numAt en 1 fo l7 with
         |error b=>rw[e8]at h;cases h
         |ok x8=>
          obtain⟨n8,l8⟩:=x8
          rw[e8]at h
          dsimp only at h
          cases e9:semi en l8 with
          |error b=>rw[e9]at h;cases h
          |ok l9=>
           rw[e9]at h
           dsimp only at h
           cases h
           refine⟨⟨(z7 e4).2,(z7 e6).2,z7 e8⟩,λ q=>hc (.inl ?_)⟩
           obtain⟨d,hd,ed⟩:=List.mem_map.mp q
           unfold cF
           rw[kb,dI]
           exact⟨d,hd,beq_iff_eq.mpr ed⟩
theorem Ce(en:Nat):∀(k:Nat) (f:ae) (l:cA) (g:ae) (r:cA),l.length<k->CellsOk f->fP en k f l= .ok (g,r)->CellsOk g/\g.parts=f.parts/\g.teams=f.teams/\g.cells≠[]/\r.length<=l.length:=by
 intro k
 induction k with
 |zero=>intro f l g r h0;omega
 |succ k ih=>
  intro f l g r h0 hf h
  rw[yi]at h
  split at h
  ·rename_i hc
   cases h
   exact⟨hf,rfl,rfl,λ q=>by rw[q]at hc;simp at hc,ax _⟩
  ·cases e:xG en f l with
   |error b=>rw[e]at h;cases h
   |ok x=>
    obtain⟨c,r1⟩:=x
    rw[e]at h
    dsimp only at h
    obtain⟨a1,a2⟩:=HL e
    obtain⟨b1,b2⟩:=Xs e
    have hf':CellsOk { f with cells:=f.cells++[c] }:=by
     refine⟨?_,by simp;omega,λ d hd=>?_⟩
     ·show(ka _ (f.cells++[c])).Nodup
      rw[aF,kW]
      refine⟨hf.nd,by simp,λ x hx y hy=>?_⟩
      simp at hy
      subst hy
      exact λ q=>b2 (q ▸ hx)
     ·rcases List.mem_append.mp hd with q|q
      ·exact hf.each d q
      ·simp at q;subst q;exact b1
    by_cases hk:r1.length<k
    ·obtain⟨z1,z2,z3,z4,z5⟩:=ih _ _ _ _ hk hf' h
     exact⟨z1,z2,z3,z4,by omega⟩
    ·omega
structure Mc(n:Nat)(t:aL):Prop where
 efforts:1<=t.efforts/\t.efforts<=12
 ne:t.cells≠[]
 nd:t.cells.Nodup
 lt:∀c∈t.cells,c<n
structure Md(f:ae):Prop where
 len:f.teams.length<=6
 tot:aZ (f.teams.map λ t=>t.efforts)<=24
 each:∀t∈f.teams,Mc f.cells.length t
theorem Me(en:Nat)(f:ae):∀(k:Nat) (m:List Nat) (l:cA) (m':List Nat) (r:cA),0<k->l.length<k->m.Nodup->(∀c∈m,c<f.cells.length)->fK en f k m l= .ok (m',r)->m'≠[]/\m'.Nodup/\∀c∈m',c<f.cells.length:=by
 intro k
 induction k with
 |zero=>intro m l m' r h0;omega
 |succ k ih=>
  intro m l m' r _ hk hm1 hm2 h
  show m'≠[]/\_
  change (nameAt en l >>= λ n=>_)=_ at h
  cases e:nameAt en l with
  |error b=>rw[e]at h;cases h
  |ok x=>
   obtain⟨n,r1⟩:=x
   rw[e]at h
   dsimp only[Bind.bind,Except.bind]at h
   cases e2:cF f n.2 with
   |none=>rw[e2]at h;cases h
   |some c=>
    rw[e2]at h
    dsimp only at h
    have rN:c<f.cells.length:=by
     unfold cF at e2
     exact(List.findIdx?_eq_some_iff_getElem.mp e2).1
    split at h
    ·cases h
    ·rename_i hc
     have VX:c∉m:=λ q=>hc (List.contains_iff_mem.mpr q)
     have g1:(m++[c]).Nodup:=by
      rw[kW]
      refine⟨hm1,by simp,λ x hx y hy=>?_⟩
      simp at hy;subst hy
      exact λ q=>VX (q ▸ hx)
     have g2:∀d∈m++[c],d<f.cells.length:=λ d hd=>by
      rcases List.mem_append.mp hd with q|q
      ·exact hm2 d q
      ·simp at q;subst q;exact rN
     have a1:=Cd e
     split at h
     ·cases h;exact⟨by simp,g1,g2⟩
     ·by_cases q:0<k
      ·exact ih _ _ _ _ q (by omega) g1 g2 h
      ·omega
theorem Cf(l:List Nat)(n:Nat):aZ (l++[n])=aZ l+n:=by
 unfold aZ
 rw[gu];rfl
theorem Xt{en:Nat}{f:ae}{l r:cA}{t:aL}(h:Dm en f l= .ok (t,r)):Mc f.cells.length t/\aZ (f.teams.map λ t=>t.efforts)+t.efforts<=24:=by
 unfold Dm at h
 split at h
 ·cases h
 ·rename_i l1 e1
  split at h
  ·cases h
  ·rename_i n l2 e2
   split at h
   ·cases h
   ·rename_i hs
    split at h
    ·cases h
    ·rename_i l3 e3
     split at h
     ·cases h
     ·rename_i m r' e4
      cases h
      obtain⟨z1,z2,z3⟩:=Me en f _ _ _ _ _ (mz _) (cK _) eV (λ c hc=>absurd hc (by simp)) e4
      have:¬ 24< _:=hs
      exact⟨⟨z7 e2,z1,z2,z3⟩,by dsimp only;omega⟩
theorem Cg(en:Nat):∀(k:Nat) (f:ae) (l:cA) (g:ae) (r:cA),Md f->rT en k f l= .ok (g,r)->Md g/\g.parts=f.parts/\g.cells=f.cells:=by
 intro k
 induction k with
 |zero=>intro f l g r hf h;cases h;exact⟨hf,rfl,rfl⟩
 |succ k ih=>
  intro f l g r hf h
  unfold rT at h
  split at h
  ·split at h
   ·cases h
   ·rename_i ht
    split at h
    ·cases h
    ·rename_i t r1 e
     obtain⟨b1,b2⟩:=Xt e
     have ht:¬ 6<=_:=ht
     obtain⟨z1,z2,z3⟩:=ih _ _ _ _ ⟨by simp;omega,by rw[aF];show aZ (_++[_])<=24;rw[Cf];exact b2,λ t' h'=>by
      rcases List.mem_append.mp h' with q|q
      ·exact hf.each t' q
      ·simp at q;subst q;exact b1⟩ h
     exact⟨z1,z2,z3⟩
  ·cases h;exact⟨hf,rfl,rfl⟩
theorem QI:m9 ["self","name","weight","finds","time"] ["self","name","weight","finds","time"] (m5 Eu):=qh
theorem QJ{f C:ag}{fd:bK}(F:pI K "__init__" "Cell.__init__" Eu f fd)(cl:GL K C)(na:∀g∈EH,oC K C g):nQ P w K mg base oG 1 f fd ["self","name","weight","finds","time"] (Hv C EH):=by
 refine F.ok QI (λ vs H Q E h=>?_) (λ oW A outer s H vs Q E hr h=>?_)
 ·obtain⟨x,dx,args,rfl,hl,_⟩:=h
  rw[aD,hl];rfl
 ·obtain⟨x,dx,args,rfl,hl,hx,k⟩:=h
  match args,hl with
  |[a,b,c,d],_=>
   have n1:=na "name" (by simp)
   have n2:=na "weight" (by simp)
   have n3:=na "finds" (by simp)
   have n4:=na "time" (by simp)
   refine⟨_,mX (pU (pv 0) (pv 1) rfl) (mX (pU (pv 0) (pv 2) rfl) (mX (pU (pv 0) (pv 3) rfl) (m6 (pU (pv 0) (pv 4) rfl)))),?_⟩
   refine⟨_,rfl,_,rfl,x,C,dx,_,rfl,hx,cl,n1,(by show 0<1000;decide),_,rfl,_,rfl,x,C,dx,_,rfl,mZ,cl,n2,(by show 1<1000;decide),_,rfl,_,rfl,x,C,dx,_,rfl,mZ,cl,n3,(by show 2<1000;decide),_,rfl,_,rfl,x,C,dx,_,rfl,mZ,cl,n4,(by show 3<1000;decide),?_⟩
   refine k _ mZ λ b o e hb=>?_
   rw[m4 hb,m4 hb,m4 hb,m4 hb];exact e
theorem QK:m9 ["self","efforts","cells"] ["self","efforts","cells"] (m5 Ew):=qh
theorem QL{f C:ag}{fd:bK}(F:pI K "__init__" "Team.__init__" Ew f fd)(cl:GL K C)(na:∀g∈JY,oC K C g):nQ P w K mg base oG 1 f fd ["self","efforts","cells"] (Hv C JY):=by
 refine F.ok QK (λ vs H Q E h=>?_) (λ oW A outer s H vs Q E hr h=>?_)
 ·obtain⟨x,dx,args,rfl,hl,_⟩:=h
  rw[aD,hl];rfl
 ·obtain⟨x,dx,args,rfl,hl,hx,k⟩:=h
  match args,hl with
  |[a,b],_=>
   have n1:=na "efforts" (by simp)
   have n2:=na "cells" (by simp)
   refine⟨_,mX (pU (pv 0) (pv 1) rfl) (m6 (pU (pv 0) (pv 2) rfl)),?_⟩
   refine⟨_,rfl,_,rfl,x,C,dx,_,rfl,hx,cl,n1,(by show 0<1000;decide),_,rfl,_,rfl,x,C,dx,_,rfl,mZ,cl,n2,(by show 1<1000;decide),?_⟩
   refine k _ mZ λ b o e hb=>?_
   rw[m4 hb,m4 hb];exact e
abbrev Ci:List Str:=["parts","cells","teams"]
theorem Og:m9 ["self","parts","cells","teams"] ["self","parts","cells","teams"] (m5 BP):=qh
theorem Oh{f C:ag}{fd:bK}(F:pI K "__init__" "Field.__init__" BP f fd)(cl:GL K C)(na:∀g∈Ci,oC K C g):nQ P w K mg base oG 1 f fd ["self","parts","cells","teams"] (Hv C Ci):=by
 refine F.ok Og (λ vs H Q E h=>?_) (λ oW A outer s H vs Q E hr h=>?_)
 ·obtain⟨x,dx,args,rfl,hl,_⟩:=h
  rw[aD,hl];rfl
 ·obtain⟨x,dx,args,rfl,hl,hx,k⟩:=h
  match args,hl with
  |[a,b,c],_=>
   have n1:=na "parts" (by simp)
   have n2:=na "cells" (by simp)
   have n3:=na "teams" (by simp)
   refine⟨_,mX (pU (pv 0) (pv 1) rfl) (mX (pU (pv 0) (pv 2) rfl) (m6 (pU (pv 0) (pv 3) rfl))),?_⟩
   refine⟨_,rfl,_,rfl,x,C,dx,_,rfl,hx,cl,n1,(by show 0<1000;decide),_,rfl,_,rfl,x,C,dx,_,rfl,mZ,cl,n2,(by show 1<1000;decide),_,rfl,_,rfl,x,C,dx,_,rfl,mZ,cl,n3,(by show 2<1000;decide),?_⟩
   refine k _ mZ λ b o e hb=>?_
   rw[m4 hb,m4 hb,m4 hb];exact e
structure Ds(f:ae):Prop where
 parts:2<=f.parts/\f.parts<=100
 ne:f.cells≠[]
 cells:CellsOk f
 teams:Md f
theorem Mf(t:List Nat):cV t=(match bN t.length "parts" (iH (t.length+1) 0 t)with
  | .error b=>.error b
  | .ok l1=>match numAt t.length 2 100 l1 with
   | .error b=>.error b
   | .ok (p,l2)=>match semi t.length l2 with
    | .error b=>.error b
    | .ok l3=>match fP t.length (l3.length+1) ⟨p,[],[]⟩ l3 with
     | .error b=>.error b
     | .ok (f,l4)=>match rT t.length (l4.length+1) f l4 with
      | .error b=>.error b
      | .ok (g,l5)=>if l5=[]then .ok g else .error ⟨1,placeOf t.length l5⟩):=by
 show(bN t.length "parts" (iH (t.length+1) 0 t) >>= _)=_
 cases bN t.length "parts" (iH (t.length+1) 0 t)with
 |error b=>rfl
 |ok l1=>
  dsimp only[Bind.bind,Except.bind]
  rw[show Vbmrac.PARTS=100 from rfl]
  cases numAt t.length 2 100 l1 with
  |error b=>rfl
  |ok x=>
   obtain⟨p,l2⟩:=x
   dsimp only
   cases semi t.length l2 with
   |error b=>rfl
   |ok l3=>
    dsimp only
    cases fP t.length (l3.length+1) ⟨p,[],[]⟩ l3 with
    |error b=>rfl
    |ok y=>
     obtain⟨f,l4⟩:=y
     dsimp only
     rw[Xn _ _ _ _ (cK _)]
     cases rT t.length (l4.length+1) f l4 with
     |error b=>rfl
     |ok z=>
      obtain⟨g,l5⟩:=z
      dsimp only
      cases l5 <;> rfl
theorem aab{t:List Nat}{g:ae}(h:cV t= .ok g):Ds g:=by
 rw[Mf]at h
 split at h
 ·cases h
 ·split at h
  ·cases h
  ·rename_i p l2 e2
   split at h
   ·cases h
   ·split at h
    ·cases h
    ·rename_i l3 e3 _ f l4 e4
     split at h
     ·cases h
     ·rename_i g' l5 e5
      split at h
      ·cases h
       obtain⟨a1,a2,a3,a4,_⟩:=Ce _ _ ⟨p,[],[]⟩ _ _ _ (cK _) ⟨eV,aE _,λ c hc=>absurd hc (by simp)⟩ e4
       obtain⟨b1,b2,b3⟩:=Cg _ _ _ _ _ _ ⟨by rw[a3];exact aE _,by rw[a3];exact aE _,λ c hc=>by rw[a3]at hc;exact absurd hc (by simp)⟩ e5
       have pp:=z7 e2
       refine⟨by rw[b2,a2];exact pp,by rw[b3];exact a4,⟨by rw[b3];exact a1.nd,by rw[b3];exact a1.len,λ c hc=>by rw[b2];exact a1.each c (b3 ▸ hc)⟩,b1⟩
      ·cases h
def rF(CF CC CT:ag)(H:Hp)(a:ag)(f:ae):Prop:=∃dx lc lt as bs,H a=some (.ins CF dx (Ci.zip [.int f.parts,.ref lc,.ref lt]))/\H lc=some (.lst (as.map V.ref))/\qK CC H as f.cells/\H lt=some (.lst (bs.map V.ref))/\Dq CT H bs f.teams
def z8(K:ah)(C CF CC CT:ag):Sp:=λ vs H Q E=>Calm E/\∃(a:ag) (t:List Nat),vs=[.ref a]/\nE K H a (nX t)/\t.length<=2000/\
 match cV t with
 | .ok g=>∀H' v,NE H H'->rF CF CC CT H' v g->Q (.ref v) H'
 | .error b=>∀H' dx,H' dx=some (wd (.int b.kind) (.int b.place))->NE H H'->E (.ref C) (some dx) H'
theorem Oi{H H':Hp}{a:ag}{xs:List V}(h:nE K H a xs)(sm:m7 H H'):nE K H' a xs:=by
 rcases h with (h|⟨o,h⟩)|h
 ·exact .inl (.inl (sm _ _ h))
 ·exact .inl (.inr ⟨o,sm _ _ h⟩)
 ·exact .inr h
structure Xu(P:aJ)(w:aY)(K:ah)(mg:Str->Option ao)(base:bz)(CR CP:ag):Prop where
 nm:mg "Reader"=some (.ref CR)
 mkr:∃f fd,Mk K CR f/\nQ P w K mg base oG 6 f fd ["self","text"] (Dr K CR CP)/\Binds K fd ["self","text"] []
def aac(K:ah)(CR CP:ag)(t:TA):TE:=λ σ H Q=>t σ H λ vs H1=>∃(a:ag) (tx:List Nat),vs=[.ref a]/\nE K H1 a (nX tx)/\tx.length<=2000/\∀x H2,H1 x=none->Qz CR CP H2 x (Cc tx)->m7 H1 H2->Q (.ref x) H2
theorem UP{X:Cx}{j:Nat}{e:bJ}{es:List bJ}{t:TA}{p pos:Pos}(h:Xu X.prog X.w X.K X.mg X.base CR CP)(hr:qS j X.A)(hj:7<=j)(ha:PA X (e::es) t)(hg:Gl X "Reader":=by rfl)
  (he:aN (e::es) X.env=(false,cu e X.env)::aN es X.env:=by rfl)(vm:(c7 pos (aN es X.env)).any (·.1)=false:=by rfl):
  PE X (.Call (.Name "Reader" p) (e::es) [] pos) (aac X.K CR CP t):=by
 obtain⟨f,fd,M,F,b⟩:=h.mkr
 intro pins s σ H Q I hw
 refine cZ (xQ I hg h.nm ?_ (by decide))
 refine dJ (h₀:=X.base) I.ok.mod.Zj M.kp (pM (ha pos pins s σ H _ I hw) λ us s1 ⟨vs,H1,I1,r,a,tx,ev,hs,hl,q⟩=>⟨I1.Fe,?_⟩) he vm
 refine Hf (E:=E0) M F (hr.mono hj) b .nil (λ _ _ _ _ _ _ _ z=>z.elim) I1 r λ y dy hy hdy ne=>?_
 subst ev
 refine⟨y,dy,a,tx,rfl,mZ,?_,hl,λ H' h1 h2=>⟨rfl,q y H' hy h1 (m7.made hy hdy h2)⟩⟩
 exact Oi hs (m7.made hy hdy λ b o e n=>e)
abbrev QM:List Str:=["text","reader","parts","cells","teams"]
theorem Fu:m9 QM ["text"] (m5 BS):=qh
theorem Oj(F:pI K "read_field" "read_field" BS f fd)(T:vz P w K mg base CR CP)(RM:Xu P w K mg base CR CP)(M:RdM P w K mg base CR CP C)(nI:Rec P w K mg base "Field" CF Ci)
  (yk:rB P w K mg base (BJ P w C) 6 "read_cells" ["reader","parts"] (Fo CR CP C CC))(yl:rB P w K mg base (BJ P w C) 7 "read_teams" ["reader","cells"] (Fs CR CP C CC CT))(wZ:oF mg "LEAST_PARTS" 2)(ym:oF mg "MOST_PARTS" 100):
  nQ P w K mg base (BJ P w C) 8 f fd ["text"] (z8 K C CF CC CT):=by
 refine F.V8 Fu (λ vs H Q E h=>?_) (λ vs H Q E h=>h.1) (λ oW A outer s H vs Q E hr h=>?_)
 ·obtain⟨_,a,t,rfl,_⟩:=h
  rfl
 ·obtain⟨hE,a,t,rfl,hs,ht,k⟩:=h
  have nd:=Fu.nd
  have oB:=T.cl
  have pV:=M.word
  have pS:=M.number
  have rp:=M.stop
  have Cj:=M.fin
  refine⟨_,(mX (m8 (i:=1) nd rfl (Or.inl rfl) (UP RM hr (by decide) (mW (pv 0) mY)))
   (mX (n_ (pQ pV oB hr (by decide) (pk (Cx.oE _ _ _)) (pv 1) (mW qo mY)))
   (mX (m8 (i:=2) nd rfl (Or.inl rfl) (pQ pS oB hr (by decide) (pk (Cx.oE _ _ _)) (pv 1) (mW (nU wZ) (mW (nU ym) mY))))
   (mX (n_ (oV rp oB hr (by decide) (pk (Cx.oE _ _ _)) (pv 1)))
   (mX (m8 (i:=3) nd rfl (Or.inl rfl) (nv yk hr (by decide) (pk (Cx.oE _ _ _)) (mW (pv 1) (mW (pv 2) mY))))
   (mX (m8 (i:=4) nd rfl (Or.inl rfl) (nv yl hr (by decide) (pk (Cx.oE _ _ _)) (mW (pv 1) (mW (pv 3) mY))))
   (mX (n_ (oV Cj oB hr (by decide) (pk (Cx.oE _ _ _)) (pv 1)))
   (m6 (nj (vw nI hr (by decide) (mW (pv 2) (mW (pv 3) (mW (pv 4) mY))))))))))))),?_⟩
  rw[Mf]at k
  refine⟨_,rfl,a,t,rfl,hs,ht,λ r H0 WY hRA sm0=>?_⟩
  have l0:=vA (t.length+1) 0 t
  have hR:JL CR CP t.length H0 r (iH (t.length+1) 0 t):=⟨_,hRA,aaa t⟩
  generalize htk:iH (t.length+1) 0 t=tk at hR k l0
  obtain⟨dx,la,i,h1⟩:=hR.ins
  have up:∀{H1:Hp},sE r H0 H1->NE H H1:=λ b c o e x=>b c o (sm0 _ _ e) (λ q=>by rw[q,WY]at e;cases e) x
  have rs:∀{H1:Hp} {b:Bad},sE r H0 H1->(∀H' dx,H' dx=some (wd (.int b.kind) (.int b.place))->NE H H'->E (.ref C) (some dx) H')->Raise C r H1 E b.kind b.place:=λ b0 kk H' d e bb=>kk H' d e (up (b0.trans bb))
  refine⟨_,rfl,r,dx,_,rfl,h1,rfl,hE,r,t.length,"parts",tk,rfl,hR,rg.by (λ b e=>?_) λ _ l1 e1 H1 v Xj Y4 _=>?_⟩
  ·rw[wX e]at k;exact rs (sE.refl _ _) k
  rw[wx e1]at k
  dsimp only at k
  obtain⟨dx1,la1,i1,Y5⟩:=Xj.ins
  refine⟨_,rfl,r,dx1,_,rfl,Y5,rfl,hE,r,t.length,(2,100),l1,rfl,Xj,rg.by (λ b e=>?_) λ n l2 e2 H2 v PN L9 ev=>?_⟩
  ·have e:numAt t.length 2 100 l1= .error b:=e
   rw[e]at k;exact rs Y4 k
  have e2:numAt t.length 2 100 l1= .ok (n,l2):=e2
  rw[e2]at k
  dsimp only at k
  subst ev
  have B2:=Y4.trans L9
  obtain⟨Xd,la2,i2,h12⟩:=PN.ins
  refine⟨_,rfl,r,Xd,_,rfl,h12,rfl,hE,r,t.length,(),l2,rfl,PN,rg.by (λ b e=>?_) λ _ l3 e3 H3 v hR3 hB3 _=>?_⟩
  ·rw[wX e]at k;exact rs B2 k
  rw[wx e3]at k
  dsimp only at k
  have B3:=B2.trans hB3
  refine⟨_,rfl,_,rfl,hE,r,t.length,n,l3,rfl,hR3,rg.by (λ b e=>?_) λ fc l4 e4 H4 v Y8 Xk ⟨lc,as,ev,hlc,Mg⟩=>?_⟩
  ·rw[e]at k;exact rs B3 k
  rw[e4]at k
  dsimp only at k
  subst ev
  have B4:=B3.trans Xk
  obtain⟨a1,a2,a3,a4,a5⟩:=Ce _ _ ⟨n,[],[]⟩ _ _ _ (cK _) ⟨eV,aE _,λ c hc=>absurd hc (by simp)⟩ e4
  have q1:=pE (wx e1)
  have q2:=tK e2
  have q3:=Ob (wx e3)
  obtain⟨dx4,la4,i4,Z5⟩:=Y8.ins
  refine⟨_,rfl,_,rfl,hE,r,t.length,lc,as,fc,l4,rfl,Y8,hlc,Mg,a1.nd,a1.len,a3,by omega,rg.by (λ b e=>?_) λ fg l5 e5 H5 v Xl Oa ⟨lt,bs,ev,rN,hts⟩=>?_⟩
  ·rw[e]at k;exact rs B4 k
  rw[e5]at k
  dsimp only at k
  subst ev
  have B5:=B4.trans Oa
  obtain⟨b1,b2,b3⟩:=Cg _ _ _ _ _ _ ⟨by rw[a3];exact aE _,by rw[a3];exact aE _,λ c hc=>by rw[a3]at hc;exact absurd hc (by simp)⟩ e5
  obtain⟨dx5,la5,i5,Y9⟩:=Xl.ins
  refine⟨_,rfl,r,dx5,_,rfl,Y9,rfl,hE,r,t.length,l5,rfl,Xl,λ e H6 hB6=>?_,λ e=>?_⟩
  ·rw[if_pos e]at k
   refine⟨_,rfl,_,rfl,_,rfl,rfl,λ y dy H7 hy h7 sm7=>?_⟩
   have bE:sE r H4 H6:=Oa.trans hB6
   refine k H7 y (up ((B5.trans hB6).trans (sE.of_same sm7))) ⟨dy,lc,lt,as,bs,?_,sm7 _ _ (bE.lst hlc Z5),?_,sm7 _ _ (hB6.lst rN Y9),hts.1,λ j x t e1 e2=>(sP.but hB6 (hts.2 j x t e1 e2) Y9).same sm7⟩
   ·rw[h7,b2,a2]
   ·rw[b3]
    have hc6:=bE.cells Mg Z5
    exact⟨hc6.1,λ j x c e1 e2=>let⟨d,z⟩:=hc6.2 j x c e1 e2;⟨d,sm7 _ _ z⟩⟩
  ·rw[if_neg e]at k
   exact rs B5 k
end oh
namespace L2
theorem Ol{K:ah}{X:Cx}{C:ag}{e:bJ}{f:Str}{pos:Pos}{ta:TE}(EC:tH K C)(hk:oC K C "__getattr__")(he:PE X e ta)(hK:X.K=K:=by rfl)(hb:dN e f X.env (cu e X.env)=cu e X.env:=by rfl):PE X (.Attribute e f pos) (aa3 K C ta f):=by
 subst hK;exact ZS EC hk he hb
end L2
namespace oh
def Fr(H:Hp)(p:ag):Prop:=∀o,H p=some o->∃φ,o= .ext φ
theorem Fr.of{H H':Hp}{p:ag}(n:NE H H')(h:H' p=none):Fr H p:=λ o e=>by
 apply Classical.byContradiction
 intro z
 have:=n p o e λ φ q=>z ⟨φ,q⟩
 rw[h]at this;cases this
theorem Fr.ne{H:Hp}{p b:ag}{o:HO}(f:Fr H p)(e:H b=some o)(x:∀φ,o≠ .ext φ):b≠p:=λ q=>by
 obtain⟨φ,z⟩:=f o (q ▸ e)
 exact x φ z
theorem _root_.L2.NE.of_same{H H1:Hp}(a:m7 H H1):NE H H1:=λ c o e _=>a c o e
theorem _root_.L2.NE.new{H H1:Hp}{p:ag}{o:HO}(n:NE H H1)(h:H1 p=none):NE H (upd H1 p o):=n.trans (NE.upd (.inl h))
def z9(H:Hp)(Q:VK)(xs:List V):Prop:=∀H' p,NE H H'->Fr H p->H' p=some (.lst xs)->Q (.ref p) H'
theorem z9.new{H H1:Hp}{Q:VK}{xs:List V}(k:z9 H Q xs)(n:NE H H1){p:ag}(h:H1 p=none):Q (.ref p) (upd H1 p (.lst xs)):=k _ p (n.new h) (Fr.of n h) mZ
def iL(l:List Int):List V:=l.map V.int
def qE(zs:List Int):List Int:=if dD zs=false then[-1]else match cV (bV zs)with
 | .error b=>[1,(b.kind:Int),(b.place:Int)]
 | .ok _=>[0]
theorem Fv{zs:List Int}(h:dD zs=true):iL zs=nX (bV zs)/\(bV zs).length<=1500:=by
 unfold dD at h
 rw[bj,fz]at h
 have h1:zs.length<=1500:=of_decide_eq_true h.1
 refine⟨?_,by unfold bV;rw[aa];exact h1⟩
 unfold iL nX bV
 rw[aW]
 refine bP λ z hz=>?_
 have q:=h.2 z hz
 unfold bI at q
 simp at q
 show V.int z=V.int (z.toNat:Int)
 rw[Int.toNat_of_nonneg q.1]
theorem ue{σ:L2.St}{H:Hp}{ta tb tc:TE}{lo x hi:Int}{R:VK}(ha:Gives ta σ H (.int lo))(hb:Gives tb σ H (.int x))(hc:Gives tc σ H (.int hi))(k:R (.bl (bI x lo hi)) H):
  Ha (Sw λ i j=>.bl (decide (i<=j))) (Sw λ i j=>.bl (decide (i<=j))) ta tb tc σ H R:=by
 refine ha _ (hb _ ⟨_,_,rfl,rfl,_,rfl,p_ (λ a=>hc _ ⟨_,_,rfl,rfl,?_⟩) λ a=>?_⟩)
 ·have e:bI x lo hi=decide (x<=hi):=by unfold bI;rw[a];rfl
  show R (V.bl (decide (x<=hi))) H
  rw[<-e];exact k
 ·have e:bI x lo hi=false:=by
   unfold bI
   cases q:decide (lo<=x)with
   |true=>exact absurd q a
   |false=>rfl
  rw[<-e];exact k
theorem pW(zs:List Int):(iL zs).length=zs.length:=aa _
def acd(H:Hp)(r:Except ma ae):XK:=λ _ d H'=>∃dx b,d=some dx/\r= .error b/\H' dx=some (wd (.int b.kind) (.int b.place))/\NE H H'
theorem acd.calm(H:Hp)(r:Except ma ae):Calm (acd H r):=λ c d H1 H2 n ⟨dx,b,e1,e2,e3,e4⟩=>⟨dx,b,e1,e2,n _ _ e3 (λ φ q=>by cases q),e4.trans n⟩
def Mh(K:ah):Sp:=λ vs H Q _=>∃(x y:V) (a:ag) (zs:List Int),vs=[x,y,.ref a]/\nE K H a (iL zs)/\zs.length<=1600/\z9 H Q (iL (qE zs))
abbrev HS:List Str:=["search","numbers","text","wrong","byte"]
theorem Fw:m9 HS ["search","numbers","text"] (m5 yd):=qh
theorem Fx(F:pI K "call_where" "call_where" yd f fd)(W:t6 P w K mg base C)(qM:rB P w K mg base (BJ P w C) 8 "read_field" ["text"] (z8 K C CF CC CT))(pd:mg "len"=none)(zA:mg "all"=none)(uL:oF mg "MOST_BYTES" 1500)(nH:oF mg "NOT_AS_TOLD" (-1))(uM:oF mg "TEXT_WRONG" 1)(nF:oF mg "DONE" 0):
  nQ P w K mg base oG 9 f fd ["search","numbers","text"] (Mh K):=by
 refine F.ok Fw (λ vs H Q E h=>?_) (λ oW A outer s H vs Q E hr h=>?_)
 ·obtain⟨x,y,a,zs,rfl,_⟩:=h
  rfl
 ·obtain⟨x,y,a,zs,rfl,hs,hl,k⟩:=h
  have nd:=Fw.nd
  obtain⟨fi,fdi,Xv,_⟩:=W.mkx
  have hEb:=acd.calm H (cV (bV zs))
  refine⟨_,(mX (pj (PW.pt (Wf (oq Bj (nM nN rfl pd aX (mW (pv 2) mY)) (nU uL) (oK _)) (PZ (vh (tG (nM (BG rfl) rfl zA iP (mW (qt (own:=[("byte",4)]) rfl nd (oM (pv 2)) (by exact pC.of (N:=HS) (sc:=m5 yd) (by decide +kernel)) (λ _ _ _ _ _=>by exact(nA (i:=4) nd rfl (Or.inl rfl))) (λ _ _ _ _ _=>by exact oR) (λ _ _ _ _ _=>by exact(vj p9 p9 nO (pv 4) nO))) mY))))))) (m6 (nj (nP (mW (nU nH) mY)))) nZ)
   (mX (ab4 (i:=3) rfl rfl Xv rfl W.nm nd rfl rfl hEb (λ _=>by exact(m6 (n_ (nv qM hr (by decide) (pk (Cx.oE _ _ _)) (mW (pv 2) mY))))) (λ _=>by exact(m6 (nj (nP (mW (nU uM) (mW (Ol W.ec W.ng (pv 3)) (mW (Ol W.ec W.ng (pv 3)) mY))))))))
   (m6 (nj (nP (mW (nU nF) mY)))))),?_⟩
  have no:dD zs=false->∀H1 p,m7 H H1->H1 p=none->Q (.ref p) (upd H1 p (.lst [.int (-1)])):=λ hi H1 p sm hp=>by
   have e:qE zs=[-1]:=if_pos hi
   rw[e]at k
   exact k.new (NE.of_same sm) hp
  refine⟨_,rfl,a,_,rfl,.inl hs,_,_,rfl,rfl,_,rfl,p_ (λ hc=>?_) λ hc=>?_⟩
  ·have hc:(1500:Int)<((iL zs).length:Int):=of_decide_eq_true hc
   unfold iL at hc
   rw[aa]at hc
   have hi:dD zs=false:=by
    unfold dD
    rw[decide_eq_false (show ¬ zs.length<=lO from λ(q:zs.length<=1500)=>by omega)];rfl
   exact tp ⟨(by show 1<=ay;decide),λ p hp=>no hi H p (m7.refl _) hp⟩
  have hc:¬ (1500:Int)<((iL zs).length:Int):=λ q=>hc (decide_eq_true q)
  unfold iL at hc
  rw[aa]at hc
  refine⟨_,rfl,a,rfl,⟨_,hs⟩,?_⟩
  refine oY (oS (K:=K) (xs:=iL zs) hs) (zs.map λ z=>V.bl (bI z 0 255)) (by unfold iL;rw[aa,aa]) (by unfold iL;rw[aa,aA];omega) (λ j x y H3 R3 N3 hy pG hF kk=>?_) (λ D H3 hD pG uC=>?_)
  ·unfold iL at hF
   rw[ak]at hF hy
   cases q1:zs[j]? with
   |none=>rw[q1]at hF;cases hF
   |some z=>
    rw[q1]at hF hy
    cases hF;cases hy
    refine⟨rfl,sD ?_⟩
    exact ue gc gv gc (kk H3 (m7.refl _))
  have hin:dD zs=(zs.map λ z=>bI z 0 255).all id:=by
   unfold dD
   rw[decide_eq_true (show zs.length<=lO by show zs.length<=1500;omega),fE,cH];rfl
  refine⟨D,zs.map λ z=>bI z 0 255,rfl,nE.of (by rw[uC,aW];rfl),?_⟩
  rw[<-hin]
  refine⟨_,rfl,?_⟩
  cases hi:dD zs with
  |false=>exact tp ⟨(by show 1<=ay;decide),λ p hp=>no hi H3 p pG hp⟩
  |true=>
   refine rJ ?_
   obtain⟨t1,t2⟩:=Fv hi
   have hs3:nE K H3 a (nX (bV zs)):=by rw[<-t1];exact Oi hs pG
   have wa:qE zs=match cV (bV zs)with
    | .error b=>[1,(b.kind:Int),(b.place:Int)]
    | .ok _=>[0]:=if_neg (by rw[hi];simp)
   refine⟨⟨_,rfl,hEb,a,bV zs,rfl,hs3,by omega,?_⟩,λ σ' H1 e dx tv hlen he ⟨dx',b,e1,e2,e3,e4⟩=>?_⟩
   ·cases q:cV (bV zs)with
    |error b=>exact λ H' dx h1 h2=>⟨dx,b,rfl,rfl,h1,λ c o e x=>h2 c o (pG _ _ e) x⟩
    |ok g=>
     intro H' v h1 h2
     rw[q]at wa
     rw[wa]at k
     refine⟨(by show 1<=ay;decide),λ p hp=>k.new ((NE.of_same pG).trans h1) hp⟩
   ·cases e1
    rw[e2]at wa
    rw[wa]at k
    have hv:(σ'.set 3 (some (V.ref e)))[3]? =some (some (V.ref e)):=cO (by rw[hlen];show 3<5;decide)
    refine⟨_,hv,e,tv,dx,_,_,rfl,he,e3,W.n1,rfl,_,hv,e,tv,dx,_,_,rfl,he,e3,W.n2,rfl,(by show 3<=ay;decide),λ p hp=>k.new e4 hp⟩
def rP(w fi p n:Nat):Nat:=w*((p-fi) ^ n*p ^ (20-n))
def rG(w fi p:Nat):List Nat:=(az 21).map (rP w fi p)
theorem QN(w fi p:Nat):rP w fi p 0=w*p ^ 20:=by
 unfold rP;rw[Nat.pow_zero,Nat.one_mul]
theorem QO{w fi p n:Nat}(hp:0<p)(hn:n<20):rP w fi p n*(p-fi) / p=rP w fi p (n+1):=by
 unfold rP
 have e:20-n=(20-(n+1))+1:=by omega
 rw[e]
 generalize 20-(n+1)=k
 rw[fY p k,fY (p-fi) n]
 have e2:w*((p-fi) ^ n*(p ^ k*p))*(p-fi)=(w*((p-fi) ^ n*(p-fi)*p ^ k))*p:=by
  simp only[fF,f6,gy]
 rw[e2,Nat.mul_div_cancel _ hp]
def Fy:Sp:=λ vs H Q _=>∃we fi p:Nat,vs=[.int we,.int fi,.int p]/\we<=1000000000000/\fi<=p/\0<p/\p<=100/\GG H Q (nX (rG we fi p))
abbrev QP:List Str:=["weight","finds","parts","mass","table"]
theorem Fz:m9 QP ["weight","finds","parts"] (m5 BK):=qh
theorem Om(F:pI K "mass_table" "mass_table" BK f fd)(pd:mg "len"=none)(nB:oF mg "MOST_EFFORTS" 20):nQ P w K mg base oG 1 f fd ["weight","finds","parts"] Fy:=by
 refine F.ok Fz (λ vs H Q E h=>?_) (λ oW A outer s H vs Q E hr h=>?_)
 ·obtain⟨we,fi,p,rfl,_⟩:=h
  rfl
 ·obtain⟨we,fi,p,rfl,hw,hf,hp,JX,k⟩:=h
  have nd:=Fz.nd
  refine⟨_,(mX (m8 (i:=3) nd rfl (Or.inl rfl) (oj wQ (pv 0) (oj abv (pv 2) nO)))
   (mX (m8 (i:=4) nd rfl (Or.inl rfl) (nP (mW (pv 3) mY)))
   (mX (rM PassesOwn.never (oq p9 (nM nN rfl pd aX (mW (pv 4) mY)) (nU nB) (oK _)) (mX (m8 (i:=3) nd rfl (Or.inl rfl) (oj De (oj wQ (pv 3) (oj sG (pv 2) (pv 1))) (pv 2)))
   (m6 (n_ (qT aG bc a_ pF (pv 4) (mW (pv 3) mY))))))
   (m6 (nj (pv 4)))))),?_⟩
  have c1:ac8 (p:Int) 20:=⟨by decide,by decide,by show p<2 ^ 64;omega⟩
  have c2:∀j:Int,Qd (we:Int) j:=λ j=>.inl ⟨by omega,by omega⟩
  have c3:∀i:Int,Qd i ((p:Int)-(fi:Int)):=λ i=>.inr ⟨by omega,by omega⟩
  have c4:∀i:Int,Te i (p:Int):=λ i=>⟨by omega,by
   have z:(100:Nat)<Td:=by exact aU (by decide:100<2 ^ 7) (dw (by decide:0<2) (by decide:7<=8000))
   omega⟩
  have e0:(we:Int)*(p:Int) ^ (20:Int).toNat=((rP we fi p 0:Nat):Int):=by
   rw[QN,Int.natCast_mul,Int.natCast_pow];rfl
  refine⟨_,rfl,_,rfl,_,_,rfl,rfl,c1,_,_,rfl,rfl,c2 _,?_⟩
  refine⟨_,rfl,(by show 1<=ay;decide),λ t ht=>?_⟩
  refine⟨λ m σ H'=>∃(n:Nat) (x:Int),x=((rP we fi p n:Nat):Int)/\m=20-n/\n<=20/\σ=[some (.int (we:Nat)),some (.int (fi:Nat)),some (.int (p:Nat)),some (.int x),some (.ref t)]/\m7 H H'/\H' t=some (.lst (nX ((az (n+1)).map (rP we fi p)))),
   ⟨20,0,_,e0,rfl,aE _,rfl,m7.new ht,by rw[mZ];show some (HO.lst [V.int _])=some (HO.lst [V.int _]);exact congrArg (λ z=>some (HO.lst [V.int z])) e0⟩,?_⟩
  rintro m σ H' ⟨n,x,hx,rfl,hn,rfl,sm,h1⟩
  have len:(nX ((az (n+1)).map (rP we fi p))).length=n+1:=by unfold nX;simp
  refine⟨_,rfl,t,_,rfl,.inl (nE.of h1),_,_,rfl,rfl,_,rfl,?_⟩
  rw[len]
  refine p_ (λ hc=>?_) λ hc=>?_
  ·have hc:((n+1:Nat):Int)<=20:=of_decide_eq_true hc
   have e1:x*((p:Int)-(fi:Int)) / (p:Int)=((rP we fi p (n+1):Nat):Int):=by
    rw[hx,<-Int.ofNat_sub hf,<-Int.natCast_mul,<-Int.natCast_ediv,QO hp (by omega)]
   refine⟨_,λ _ _ z=>z,_,rfl,_,rfl,_,rfl,_,_,rfl,rfl,_,_,rfl,rfl,c3 _,_,rfl,_,_,rfl,rfl,c4 _,?_⟩
   refine⟨_,rfl,.inl ⟨rfl,_,nE.of h1⟩,_,rfl,t,_,_,rfl,rfl,h1,?_,?_⟩
   ·rw[len,aA];omega
   ·refine⟨20-(n+1),by omega,n+1,_,e1,rfl,by omega,rfl,λ b o e=>by rw[m4 (nG e ht)];exact sm _ _ e,?_⟩
    rw[mZ,eI (n:=n+1)]
    unfold nX
    rw[aF,aF]
    exact congrArg (λ z=>some (HO.lst (_++[V.int z]))) e1
  ·have hc:¬ ((n+1:Nat):Int)<=20:=λ q=>hc (decide_eq_true q)
   have e:n=20:=by omega
   subst e
   exact⟨_,rfl,k H' t sm ht h1⟩
end oh
namespace L2
theorem A2(K:ah){X:Cx}{es:List bJ}{k:Nat}{t:TGs}{n:Nat}{pos:Pos}(hc:X.calm=true)(h:PGs X es t)(hK:X.K=K:=by rfl)
  (hn:(fN es X.env).length=n:=by rfl)(LA:(fN es X.env).findIdx? (·.1)=none:=by rfl):PG X (.Tuple es k pos) (ac1 K n t):=by
 subst hK;exact zF hc h hn LA
end L2
namespace oh
theorem m_(l:List Nat):(nX l).length=l.length:=aa _
def TabsAt(H:Hp)(as:List ag)(ts:List (List Nat)):Prop:=as.length=ts.length/\∀(j:Nat) (a:ag) (t:List Nat),as[j]? =some a->ts[j]? =some t->H a=some (.lst (nX t))
theorem TabsAt.same{H H':Hp}{as:List ag}{ts:List (List Nat)}(h:TabsAt H as ts)(sm:m7 H H'):TabsAt H' as ts:=⟨h.1,λ j a t e1 e2=>sm _ _ (h.2 j a t e1 e2)⟩
def aad(ts:List (List Nat))(d:List Nat):Nat:=aZ ((ts.zip d).map λ x=>x.1.getD x.2 0)
def Ck:Sp:=λ vs H Q _=>∃(a b:ag) (d e:List Nat),vs=[.ref a,.ref b]/\H a=some (.lst (nX d))/\H b=some (.lst (nX e))/\d.length=e.length/\d.length<=16/\GG H Q (nX (bC d e))
abbrev KH:List Str:=["had","row","before","more"]
theorem HU:m9 KH ["had","row"] (m5 AU):=qh
def KI:Sp:=λ vs H Q _=>∃(a b:ag) (as:List ag) (ts:List (List Nat)) (d:List Nat),vs=[.ref a,.ref b]/\H a=some (.lst (as.map V.ref))/\TabsAt H as ts/\H b=some (.lst (nX d))/\ts.length=d.length/\d.length<=16/\(∀(j:Nat) (t:List Nat) (n:Nat),ts[j]? =some t->d[j]? =some n->n<t.length)/\∀H',m7 H H'->Q (.int (aad ts d)) H'
abbrev Oo:List Str:=["tables","had","table","efforts"]
theorem KJ:m9 Oo ["tables","had"] (m5 C9):=qh
theorem UQ(F:pI K "mass_sum" "mass_sum" C9 f fd)(xI:mg "zip"=none)(xH:mg "sum"=none):nQ P w K mg base oG 1 f fd ["tables","had"] KI:=by
 refine F.ok KJ (λ vs H Q E h=>?_) (λ oW A outer s H vs Q E hr h=>?_)
 ·obtain⟨a,b,as,ts,d,rfl,_⟩:=h
  rfl
 ·obtain⟨a,b,as,ts,d,rfl,ha,hT,hb,hde,GH,hin,k⟩:=h
  have nd:=KJ.nd
  refine⟨_,(m6 (nj (nM (BF rfl) rfl xH iO (mW (qt (own:=[("table",2),("efforts",3)]) rfl nd (Eo rfl xI (mW (pv 0) (mW (pv 1) mY))) (by exact pC.of (N:=Oo) (sc:=m5 C9) (by decide +kernel)) (λ _ _ _ _ _=>by exact(A2 K (n:=2) rfl (oJ (nA (i:=2) nd rfl (Or.inl rfl)) (oJ (nA (i:=3) nd rfl (Or.inl rfl)) rC)))) (λ _ _ _ _ _=>by exact oR) (λ _ _ _ _ _=>by exact(tY K (pv 2) (pv 3)))) mY)))),?_⟩
  refine⟨_,rfl,_,rfl,a,b,_,_,rfl,nE.of ha,nE.of hb,?_⟩
  refine oY (Hn (K:=K) (nE.of ha) (nE.of hb) (by rw[aa,m_,hT.1,hde])) (nX ((ts.zip d).map λ x=>x.1.getD x.2 0)) (by rw[m_,aa,aa,eJ,hde,f7,hT.1,hde]) (by rw[aa,hT.1,aA];omega) (λ j x y H3 R3 N3 hy pG hF kk=>?_) (λ D H3 hD pG uC=>?_)
  ·obtain⟨T,x1,y1,rfl,h1,h2,hTu⟩:=hF
   rw[ak]at h1
   cases q1:as[j]? with
   |none=>rw[q1]at h1;cases h1
   |some aj=>
    rw[q1]at h1;cases h1
    obtain⟨c2,q2,rfl⟩:=ou h2
    obtain⟨c3,q3,rfl⟩:=ou hy
    have hj:j<ts.length:=by rw[<-hT.1];exact(List.getElem?_eq_some_iff.mp q1).1
    have q4:ts[j]? =some ts[j]:=af hj
    have lt:=hin j _ c2 q4 q2
    have e3:ts[j][c2]? =some c3:=by
     rw[ak,gn (z:=(ts[j],c2)) |>.mpr ⟨q4,q2⟩]at q3
     have q3:ts[j].getD c2 0=c3:=Option.some.inj q3
     rw[aB]at q3
     rw[af lt]at q3 ⊢
     exact congrArg some q3
    refine⟨T,_,rfl,Bi.of hTu,rfl,_,_,rfl,_,_,rfl,rfl,rfl,sD ⟨_,rfl,_,rfl,aj,_,_,_,rfl,rfl,nE.of (pG _ _ (hT.2 j aj _ q1 q4)),ot (oU e3),kk H3 (m7.refl _)⟩⟩
  ·refine⟨D,((ts.zip d).map λ x=>x.1.getD x.2 0).map (λ(n:Nat)=>(n:Int)),rfl,nE.of (by rw[uC,aW];rfl),?_⟩
   rw[tL]
   exact k H3 pG
structure FW(f:ae):Prop where
 p0:0<f.parts
 p1:f.parts<=100
 len:f.cells.length<=16
 ne:f.cells≠[]
 we:∀c∈f.cells,c.weight<=1000000000000
 fi:∀c∈f.cells,c.finds<=f.parts
def n9(f:ae):List (List Nat):=f.cells.map λ c=>rG c.weight c.finds f.parts
theorem pO(f:ae):(n9 f).length=f.cells.length:=aa _
theorem z_(w fi p:Nat):(rG w fi p).length=21:=by unfold rG;simp
theorem vB{w fi p n:Nat}(h:n<=20):(rG w fi p)[n]? =some (rP w fi p n):=by
 unfold rG
 rw[ak,bf (by omega)];rfl
theorem wA{f:ae}{c:Nat}{x:bF}(h:f.cells[c]? =some x)(n:Nat):cY f c n=rP x.weight x.finds f.parts n:=by
 have e:bx f c=x:=by unfold bx;rw[aB,h];rfl
 unfold cY rP
 rw[e];rfl
theorem ace{f:ae}{c n:Nat}(hc:c<f.cells.length)(h:n<=20):((n9 f).getD c []).getD n 0=cY f c n:=by
 have e:f.cells[c]? =some f.cells[c]:=af hc
 have e2:(n9 f).getD c []=rG f.cells[c].weight f.cells[c].finds f.parts:=by
  unfold n9
  rw[aB,ak,e];rfl
 rw[wA e,e2,aB,vB h];rfl
theorem UR{α:Type}(d0:α)(ts:List α)(d:List Nat)(h:ts.length=d.length)(g:α->Nat->Nat):(ts.zip d).map (λ x=>g x.1 x.2)=d.zipIdx.map λ x=>g (ts.getD x.2 d0) x.1:=by
 apply bO
 intro i
 rw[ak,ak,bQ]
 by_cases hi:i<d.length
 ·have e1:d[i]? =some d[i]:=af hi
  have e2:ts[i]? =some (ts[i]'(by omega)):=af (by omega)
  rw[(gn (z:=(ts[i]'(by omega),d[i]))).mpr ⟨e2,e1⟩,e1]
  show some _=some _
  simp[aB,e2]
 ·have e1:d[i]? =none:=aI (by omega)
  have e2:(ts.zip d)[i]? =none:=aI (by rw[eJ];omega)
  rw[e1,e2];rfl
theorem tM{f:ae}{d:List Nat}(hl:d.length=f.cells.length)(wg:∀n∈d,n<=20):aad (n9 f) d=left f d:=by
 unfold aad lM
 rw[UR [] (n9 f) d (by rw[pO,hl]) λ t n=>t.getD n 0]
 refine congrArg aZ (bP λ x hx=>?_)
 have h1:=gW hx
 have h2:x.2<d.length:=by omega
 exact ace (by omega) (wg _ (by rw[h1.2.2];exact cp _))
theorem ow(a:Nat)(l:List Nat):aZ (a::l)=a+aZ l:=by
 have step:∀(l:List Nat) (a:Nat),l.foldl (λ a b=>a+b) a=a+l.foldl (λ a b=>a+b) 0:=by
  intro l
  induction l with
  |nil=>intro a;rfl
  |cons x r ih=>intro a;rw[ck,ih,ck,ih (0+x)];omega
 unfold aZ
 rw[ck,step];omega
theorem Dt{B:Nat}:∀(l:List Nat),(∀x∈l,x<=B)->aZ l<=l.length*B
 |[],_=>by simp[aZ]
 |a::l,h=>by
  rw[ow,aD,j3]
  have h1:=h a (by simp)
  have h2:=Dt l λ x hx=>h x (by simp[hx])
  omega
theorem Cm:∀(l m:List Nat),l.length=m.length->(∀(i a b:Nat),l[i]? =some a->m[i]? =some b->a<=b)->aZ l<=aZ m
 |[],[],_,_=>ax _
 |a::l,b::m,h,g=>by
  rw[ow,ow]
  have h1:=g 0 a b rfl rfl
  have h2:=Cm l m (by simpa using h) λ i x y e1 e2=>g (i+1) x y e1 e2
  omega
 |[],_::_,h,_=>by simp at h
 |_::_,[],h,_=>by simp at h
theorem Xw{w fi p n:Nat}(hn:n<=20):rP w fi p n<=w*p ^ 20:=by
 unfold rP
 refine dg _ ?_
 have e:p ^ 20=p ^ n*p ^ (20-n):=by rw[<-Nat.pow_add];congr 1;omega
 rw[e]
 exact c6 _ (kF (kU _ _) n)
theorem QQ{w fi p n:Nat}(hn:n<20):rP w fi p (n+1)<=rP w fi p n:=by
 unfold rP
 refine dg _ ?_
 have e:20-n=(20-(n+1))+1:=by omega
 rw[e,fY,fY p]
 generalize 20-(n+1)=k
 have e2:(p-fi) ^ n*(p-fi)*p ^ k=(p-fi) ^ n*(p ^ k*(p-fi)):=by simp only[fF,f6,gy]
 rw[e2]
 exact dg _ (dg _ (kU _ _))
theorem HV{w fi p:Nat}:∀(k n:Nat),n+k<=20->rP w fi p (n+k)<=rP w fi p n
 |0,n,_=>ax _
 |k+1,n,h=>aT (QQ (n:=n+k) (by omega)) (HV k n (by omega))
theorem A3{f:ae}{c n k:Nat}(h:n+k<=20)(hc:c<f.cells.length):cY f c (n+k)<=cY f c n:=by
 have e:f.cells[c]? =some f.cells[c]:=af hc
 rw[wA e,wA e];exact HV k n h
theorem Xx:16*(1000000000000*100 ^ 20)<Td:=by
 have h1:1000000000000<2 ^ 40:=by decide
 have h2:16*(1000000000000*100 ^ 20)<2 ^ 200:=by decide
 exact aU h2 (dw (by decide:0<2) (by decide:200<=8000))
theorem Mi{f:ae}(W:FW f){c n:Nat}(hc:c<f.cells.length)(hn:n<=20):cY f c n<=1000000000000*100 ^ 20:=by
 have e:f.cells[c]? =some f.cells[c]:=af hc
 rw[wA e]
 exact aT (Xw hn) (lW (W.we _ (cp _)) (kF W.p1 20))
theorem uf{f:ae}(W:FW f){d:List Nat}(hl:d.length=f.cells.length)(wg:∀n∈d,n<=20):left f d<Td:=by
 refine bH (Dt (B:=1000000000000*100 ^ 20) _ λ x hx=>?_) ?_
 ·obtain⟨y,hy,rfl⟩:=List.mem_map.mp hx
  have h1:=gW hy
  exact Mi W (by omega) (wg _ (by rw[h1.2.2];exact cp _))
 ·rw[aa,dP,hl]
  exact bH (c6 _ W.len) Xx
theorem US{f:ae}{d e:List Nat}(hl:d.length=f.cells.length)(he:e.length=d.length)(wg:∀n∈bC d e,n<=20):left f (bC d e)<=left f d:=by
 have lm:(bC d e).length=d.length:=by unfold bC;rw[c_,he,f7]
 refine Cm _ _ (by simp[lm]) λ i a b h1 h2=>?_
 rw[ak,bQ]at h1 h2
 by_cases hi:i<d.length
 ·have e1:d[i]? =some d[i]:=af hi
  have e2:e[i]? =some (e[i]'(by omega)):=af (by omega)
  have e3:(bC d e)[i]? =some (d[i]+e[i]'(by omega)):=by unfold bC;rw[aP,e1,e2]
  rw[e3]at h1
  rw[e1]at h2
  cases h1;cases h2
  simp only[cW]
  exact A3 (wg _ (aC e3)) (by omega)
 ·rw[aI (by omega)]at h2;cases h2
def qL(q:mC):List Nat:=[q.n,q.d]
theorem Du{d e:List Nat}(h:e.length=d.length):(bC d e).length=d.length:=by unfold bC;rw[c_,h,f7]
theorem more_le{d e:List Nat}(h:e.length=d.length)(wg:∀n∈bC d e,n<=20):∀n∈d,n<=20:=by
 intro n hn
 obtain⟨i,hi,rfl⟩:=cw hn
 have e1:d[i]? =some d[i]:=af hi
 have e2:e[i]? =some (e[i]'(by omega)):=af (by omega)
 have e3:(bC d e)[i]? =some (d[i]+e[i]'(by omega)):=by unfold bC;rw[aP,e1,e2]
 have:=wg _ (aC e3)
 omega
theorem A4{f:ae}{d:List Nat}(wg:∀n∈d,n<=20)(j:Nat)(t:List Nat)(n:Nat)(h1:(n9 f)[j]? =some t)(h2:d[j]? =some n):n<t.length:=by
 unfold n9 at h1
 rw[ak]at h1
 cases q:f.cells[j]? with
 |none=>rw[q]at h1;cases h1
 |some c=>
  rw[q]at h1
  have e:rG c.weight c.finds f.parts=t:=Option.some.inj h1
  rw[<-e,z_]
  have:=wg n (aC h2)
  omega
def Tn:Sp:=λ vs H Q _=>∃(a b c:ag) (as:List ag) (f:ae) (d e:List Nat),vs=[.ref a,.ref b,.ref c]/\FW f/\H a=some (.lst (as.map V.ref))/\TabsAt H as (n9 f)/\H b=some (.lst (nX d))/\H c=some (.lst (nX e))/\d.length=f.cells.length/\e.length=d.length/\(∀n∈bC d e,n<=20)/\0<left f d/\GG H Q (nX (qL (dQ f d e)))
abbrev acf:List Str:=["tables","had","row","left"]
theorem To:m9 acf ["tables","had","row"] (m5 Qs):=qh
abbrev Hz3(P:aJ)(w:aY)(K:ah)(mg:Str->Option ao)(base:bz):Prop:=rB P w K mg base oG 1 "mass_sum" ["tables","had"] KI
abbrev Hz4(P:aJ)(w:aY)(K:ah)(mg:Str->Option ao)(base:bz):Prop:=rB P w K mg base oG 1 "fraction" ["upper","lower"] Ht
theorem aae(F:pI K "found" "found" Qs f fd)(oZ:Hz3 P w K mg base)(vC:rB P w K mg base oG 1 "together" ["had","row"] Ck)(oy:Hz4 P w K mg base):nQ P w K mg base oG 2 f fd ["tables","had","row"] Tn:=by
 refine F.ok To (λ vs H Q E h=>?_) (λ oW A outer s H vs Q E hr h=>?_)
 ·obtain⟨a,b,c,as,f,d,e,rfl,_⟩:=h
  rfl
 ·obtain⟨a,b,c,as,f,d,e,rfl,W,ha,hT,hb,hc,hd,he,wg,hl0,k⟩:=h
  have nd:=To.nd
  refine⟨_,(mX (m8 (i:=3) nd rfl (Or.inl rfl) (nv (E:=E0) oZ hr (by decide) nr (mW (pv 0) (mW (pv 1) mY))))
   (m6 (nj (nv (E:=E0) oy hr (by decide) nr (mW (oj sG (pv 3) (nv (E:=E0) oZ hr (by decide) nr (mW (pv 0) (mW (nv (E:=E0) vC hr (by decide) nr (mW (pv 1) (mW (pv 2) mY))) mY)))) (mW (pv 3) mY)))))),?_⟩
  have tu:=more_le he wg
  have wB:=W.len
  refine⟨_,rfl,_,rfl,a,b,as,n9 f,d,rfl,ha,hT,hb,by rw[pO,hd],by omega,A4 tu,λ H1 s1=>?_⟩
  rw[tM hd tu]
  refine⟨_,rfl,_,rfl,_,rfl,_,rfl,b,c,d,e,rfl,s1 _ _ hb,s1 _ _ hc,he.symm,by omega,λ H2 p s2 hp ZA=>?_⟩
  have vD:m7 H H2:=s1.trans s2
  have m1:=Du he
  refine⟨a,p,as,n9 f,bC d e,rfl,vD _ _ ha,hT.same vD,ZA,by rw[pO,m1,hd],by omega,A4 wg,λ H3 s3=>?_⟩
  rw[tM (by rw[m1,hd]) wg]
  have le:=US hd he wg
  refine⟨_,_,rfl,rfl,_,rfl,left f d-left f (bC d e),left f d,?_,hl0,uf W hd tu,bH (kU _ _) (uf W hd tu),λ H4 q s4 hq hq2=>k H4 q ((vD.trans s3).trans s4) ?_ hq2⟩
  ·rw[Int.ofNat_sub le]
  ·cases z:H q with
   |none=>rfl
   |some o=>rw[(vD.trans s3) _ _ z]at hq;cases hq
def FA(b:Option (Nat×Nat))(x:Option Nat×Nat):Option (Nat×Nat):=match x.1,b with
 |none,_=>b
 |some n,none=>some (x.2,n)
 |some n,some y=>if y.2<n then some (x.2,n)else b
def tE(l:List (Option Nat×Nat)):Option (Nat×Nat):=l.foldl FA none
theorem wC(l:List (Option Nat)):fW l=(tE l.zipIdx).map λ y=>y.1:=rfl
theorem QR(l:List (Option Nat×Nat))(x:Option Nat×Nat):tE (l++[x])=FA (tE l) x:=by
 unfold tE;rw[gu];rfl
def gM(o:Option (Nat×Nat)):Int:=match o with |none=> -1|some y=>y.2
theorem yn(b:Option (Nat×Nat))(c:Nat):FA b (none,c)=b:=by cases b <;> rfl
theorem yo(b:Option (Nat×Nat))(c n:Nat):FA b (some n,c)=if gM b<(n:Int)then some (c,n)else b:=by
 cases b with
 |none=>show some (c,n)=_;rw[if_pos (by show(-1:Int)< _;omega)]
 |some y=>
  show(if y.2<n then some (c,n)else some y)=_
  by_cases h:y.2<n
  ·rw[if_pos h,if_pos (by show(y.2:Int)<n;omega)]
  ·rw[if_neg h,if_neg (by show ¬ (y.2:Int)<n;omega)]
theorem HW{f:ae}{d:List Nat}{i n:Nat}(h:d[i]? =some n):(fk f d)[i]? =some (if n<20 then some (c8 f i n)else none):=by
 unfold fk
 rw[ak,bQ,h]
 show some (if n<20 then some (c8 f (0+i) n)else none)=_
 rw[cW]
theorem EL(f:ae)(d:List Nat):(fk f d).length=d.length:=by unfold fk;simp
theorem HX:∀(l:List (Option Nat×Nat)) (b:Option (Nat×Nat)) (y:Nat×Nat),l.foldl FA b=some y->b=some y\/(some y.2,y.1)∈l
 |[],b,y,h=>.inl h
 |(o,c)::l,b,y,h=>by
  rw[ck]at h
  rcases HX l _ y h with q|q
  ·cases o with
   |none=>rw[yn]at q;exact .inl q
   |some n=>
    rw[yo]at q
    split at q
    ·cases q;exact .inr (by simp)
    ·exact .inl q
  ·exact .inr (by simp[q])
theorem UT(l:List (Option Nat×Nat))(y:Nat×Nat)(h:tE l=some y):(some y.2,y.1)∈l:=by
 rcases HX l none y h with q|q
 ·cases q
 ·exact q
theorem FC:∀(l:List (Option Nat×Nat)) (b:Option (Nat×Nat)),l.foldl FA b=none->b=none/\∀x∈l,x.1=none
 |[],b,h=>⟨h,λ x hx=>by cases hx⟩
 |(o,c)::l,b,h=>by
  rw[ck]at h
  obtain⟨h1,h2⟩:=FC l _ h
  cases o with
  |none=>
   rw[yn]at h1
   refine⟨h1,λ x hx=>?_⟩
   rcases List.mem_cons.mp hx with q|q
   ·rw[q]
   ·exact h2 x q
  |some n=>
   rw[yo]at h1
   split at h1
   ·cases h1
   ·rename_i hc
    rw[h1]at hc
    exact absurd (show(-1:Int)<n by omega) hc
theorem HY(l:List (Option Nat×Nat))(h:tE l=none):∀x∈l,x.1=none:=(FC l none h).2
theorem Bo{f:ae}{d:List Nat}(wg:∀n∈d,n<=20)(ht:aZ d<20*d.length):∃c n,fW (fk f d)=some c/\d[c]? =some n/\n<20:=by
 cases q:tE (fk f d).zipIdx with
 |none=>
  have h:=HY _ q
  exfalso
  have all:∀(i:Nat) (a b:Nat),(cG d.length 20)[i]? =some a->d[i]? =some b->a<=b:=by
   intro i a b e1 e2
   have ea:a=20:=by
    rw[gH]at e1
    split at e1
    ·exact(Option.some.inj e1).symm
    ·cases e1
   have g:=HW (f:=f) e2
   have:=h (if b<20 then some (c8 f i b)else none,i) (by
    apply aC (i:=i)
    rw[bQ,g]
    show some (_,0+i)=_
    rw[cW])
   by_cases hb:b<20
   ·rw[if_pos hb]at this;cases this
   ·omega
  have h2:=Cm _ _ (by simp) all
  have e3:aZ (cG d.length 20)=20*d.length:=by
   generalize d.length=n
   induction n with
   |zero=>rfl
   |succ n ih=>rw[List.replicate_succ,ow,ih];omega
  omega
 |some y=>
  have m:=UT _ y q
  have h1:=gW m
  have hy:y.1<d.length:=by have:=h1.2.1;rw[EL]at this;omega
  have e:d[y.1]? =some d[y.1]:=af hy
  refine⟨y.1,d[y.1],by rw[wC,q];rfl,e,?_⟩
  have g:=HW (f:=f) e
  have g2:(fk f d)[y.1]? =some (some y.2):=by
   rw[af (by rw[EL];exact hy)]
   have:=h1.2.2
   simp only[Nat.sub_zero]at this
   rw[<-this]
  rw[g]at g2
  by_cases hb:d[y.1]<20
  ·exact hb
  ·rw[if_neg hb]at g2;cases g2
theorem EM:∀(l:List Nat) (c n m:Nat),l[c]? =some n->aZ (l.set c m)+n=aZ l+m
 |[],c,n,m,h=>by simp at h
 |a::l,0,n,m,h=>by cases h;rw[List.set_cons_zero,ow,ow];omega
 |a::l,c+1,n,m,h=>by
  rw[List.set_cons_succ,ow,ow]
  have:=EM l c n m (by simpa using h)
  omega
theorem Xy(d r:List Nat)(c n:Nat)(h:r[c]? =some n)(hl:r.length=d.length):bC d (r.set c (n+1))=(bC d r).set c ((bC d r).getD c 0+1):=by
 unfold bC
 apply bO
 intro i
 have hc:c<r.length:=(List.getElem?_eq_some_iff.mp h).1
 rw[aP,dY,dY,aP]
 by_cases e:c=i
 ·subst e
  rw[if_pos rfl,if_pos rfl,if_pos hc,if_pos (by rw[c_,hl,f7];omega),aB,aP,h,af (show c<d.length by omega)]
  rfl
 ·rw[if_neg e,if_neg e]
theorem EN(d r:List Nat)(hl:r.length=d.length):eN (bC d r) d=r:=by
 unfold eN bC
 apply bO
 intro i
 rw[aP,aP]
 by_cases hi:i<d.length
 ·rw[af hi,af (show i<r.length by omega)]
  show some _=some _
  congr 1;omega
 ·rw[aI (show d.length<=i by omega),aI (show r.length<=i by omega)]
theorem UU{f:ae}{d:List Nat}{k c:Nat}(h:fW (fk f d)=some c):jS f (k+1) d=jS f k (d.set c (d.getD c 0+1)):=by
 show(match fW (fk f d)with |some c=>_|none=>_)=_
 rw[h]
end oh
namespace L2
def adH(K:ah):V->V->Hp->VK->Prop:=λ o i H Q=>∃(p:ag) (xs:List V) (k:Nat) (v:V),o= .ref p/\i= .int k/\nE K H p xs/\xs[k]? =some v/\Q v H
theorem xJ{X:Cx}:ac3 X (adH X.K):=by
 intro pins s σ H o i ov iv Q I ro ri h
 obtain⟨p,xs,k,v,rfl,rfl,hq,he,q⟩:=h
 cases ro
 obtain⟨t,rfl⟩:=ri
 obtain⟨om,r,pl,hz⟩:=I.list hq
 obtain⟨w,ew,wb⟩:=r.get he
 have hk:k<xs.length:=(List.getElem?_eq_some_iff.mp he).1
 have hn:=BD
 exact wpAny_getItem_list pl.isList (by omega) (by omega) (by simpa using ew) ⟨v,H,I,wb,q⟩
theorem yp{n k:Nat}(h:k<n):Zu n (k:Int)=some k:=by
 unfold Zu
 rw[if_pos (by omega),if_pos (by omega)];simp
end L2
namespace oh
theorem KL(d:List Nat):bC d (d.map λ _=>0)=d:=by
 unfold bC
 apply bO
 intro i
 rw[aP,ak]
 cases d[i]? <;> rfl
end oh
namespace L2
theorem QS{J:It}{H1:Hp}{n:Nat}{F:Nat->V->Hp->Prop}{g:TG}{tt:TT}{te:TE}{vs:List Nat}{σ:L2.St}{Q:ag->Hp->Prop}(W:Walk J H1 n F)(O:Nat->HO)(hz:n<=ay)
  (hs:∀i x H (R:V->Hp->Prop) (N:Hp->Prop),i<n->m7 H1 H->F i x H->(∀a H4,m7 H H4->H a=none->H4 a=some (O i)->R (.ref a) H4)->g x (wipe σ vs) H λ σ2 H2=>wipe σ2 vs=wipe σ vs/\tt σ2 H2 λ b H3=>if b=true then te σ2 H3 R else N H3)
  (fin:∀(D:ag) (H:Hp) (as:List ag),H1 D=none->m7 H1 H->H D=some (.lst (as.map V.ref))->as.length=n->(∀(j:Nat) (a:ag),as[j]? =some a->H1 a=none/\H a=some (O j))->Q D H)(D:ag)(hD:H1 D=none):
  ∃W:Nat->Nat->Hp->Prop,(∃m,W 0 m (upd H1 D (.lst [])))/\∀i m H,W i m H->
   (J.stop i H/\Q D H)\/(J.go i H/\∃Nx:Hp->Prop,(∀H',Nx H'->∃m',m'<m/\W (i+1) m' H')/\∀x H',J.G8 i H x H'->g x (wipe σ vs) H' λ σ2 H2=>wipe σ2 vs=wipe σ vs/\tt σ2 H2 λ b H3=>
    if b=true then te σ2 H3 λ y H4=>∃acc,H4 D=some (.lst acc)/\acc.length<ay/\Nx (upd H4 D (.lst (acc++[y])))else Nx H3):=by
 refine⟨λ i m H=>m=n-i/\i<=n/\m7 H1 H/\∃as:List ag,H D=some (.lst (as.map V.ref))/\as.length=i/\∀j a,as[j]? =some a->a≠D/\H1 a=none/\H a=some (O j),⟨n,by omega,aE _,λ b o e=>by rw[m4 (nG e hD)];exact e,[],mZ,rfl,λ j a e=>by simp at e⟩,?_⟩
 rintro i m H ⟨rfl,hi,sm,as,hd,hl,ha⟩
 by_cases rN:i<n
 ·refine .inr ⟨W.go i H rN sm,λ H'=>i+1<=n/\m7 H1 H'/\∃as:List ag,H' D=some (.lst (as.map V.ref))/\as.length=i+1/\∀j a,as[j]? =some a->a≠D/\H1 a=none/\H' a=some (O j),λ H' z=>⟨n-(i+1),by omega,rfl,z⟩,λ x H' y=>?_⟩
  obtain⟨hF,wc⟩:=W.G8 i H x H' rN sm y
  refine hs i x H' _ _ rN (sm.trans wc) hF λ a H4 Nm ha0 ha4=>?_
  have VV:H' D=some (.lst (as.map V.ref)):=wc _ _ hd
  have hd4:H4 D=some (.lst (as.map V.ref)):=Nm _ _ VV
  have naD:a≠D:=λ q=>by rw[q,VV]at ha0;cases ha0
  refine⟨_,hd4,?_,rN,λ b o e=>?_,as++[a],?_,?_,λ j b e=>?_⟩
  ·rw[aa];omega
  ·rw[m4 (nG e hD)];exact Nm _ _ (wc _ _ (sm _ _ e))
  ·rw[mZ,aF];rfl
  ·rw[aw,hl];rfl
  ·by_cases hj:j<as.length
   ·rw[bp hj]at e
    obtain⟨z1,z2,z3⟩:=ha j b e
    exact⟨z1,z2,by rw[m4 z1];exact Nm _ _ (wc _ _ z3)⟩
   ·rw[bg (by omega)]at e
    have ej:j-as.length=0:=by
     obtain⟨z,_⟩:=List.getElem?_eq_some_iff.mp e
     simp at z;omega
    rw[ej]at e
    cases e
    have e2:j=i:=by omega
    subst e2
    refine⟨naD,?_,by rw[m4 naD];exact ha4⟩
    cases q:H1 a with
    |none=>rfl
    |some o=>rw[wc _ _ (sm _ _ q)]at ha0;cases ha0
 ·have e:i=n:=by omega
  subst e
  exact .inl ⟨W.stop H sm,fin D H as hD sm hd hl λ j a e=>(ha j a e).2⟩
end L2
namespace oh
def pL(f:ae)(ws:List Nat):ae:={ f with cells:=jO (λ(c:bF) w=>{ c with weight:=w }) f.cells ws }
theorem qN{f:ae}{ws:List Nat}(h:ws.length=f.cells.length):(pL f ws).cells.length=f.cells.length:=by
 unfold pL;rw[c_,h,f7]
theorem QT{f:ae}{ws:List Nat}{j w:Nat}{c:bF}(h1:f.cells[j]? =some c)(h2:ws[j]? =some w):(n9 (pL f ws))[j]? =some (rG w c.finds f.parts):=by
 unfold n9 pL
 rw[ak,aP,h1,h2];rfl
abbrev JZ:List Str:=["field","weights","had"]
def Aa(CS:ag)(H:Hp)(x:ag)(v:V)(wl hl:ag)(ws d:List Nat):Prop:=(∃dx,H x=some (.ins CS dx (JZ.zip [v,.ref wl,.ref hl])))/\H wl=some (.lst (nX ws))/\H hl=some (.lst (nX d))
structure p6(K:ah)(CS:ag):Prop where
 cl:GL K CS
 n1:oC K CS "field"
 n2:oC K CS "weights"
 n3:oC K CS "had"
def H_(CS:ag):Sp:=λ vs H Q _=>∃(x wl hl:ag) (v:V) (ws d:List Nat) (z:Int),vs=[.ref x,.int z]/\Aa CS H x v wl hl ws d/\Q (.bl (bI z 0 ((d.length:Int)-1))) H
theorem Xz:m9 ["self","number"] ["self","number"] (m5 wW):=qh
theorem XA(F:pI K "is_cell" "Search.is_cell" wW f fd)(S:p6 K CS)(pd:mg "len"=none):nQ P w K mg base oG 1 f fd ["self","number"] (H_ CS):=by
 refine F.ok Xz (λ vs H Q E h=>?_) (λ oW A outer s H vs Q E hr h=>?_)
 ·obtain⟨x,wl,hl,v,ws,d,z,rfl,_⟩:=h
  rfl
 ·obtain⟨x,wl,hl,v,ws,d,z,rfl,⟨⟨dx,h1⟩,h2,h3⟩,k⟩:=h
  refine⟨_,(m6 (nj (vj p9 G_ nO (pv 1) (nM nN rfl pd aX (mW (nq (pv 0) rfl) mY))))),?_⟩
  have e:bI z 0 ((d.length:Int)-1)=(decide (0<=z) && decide (z<(((nX d).length:Nat):Int))):=by
   unfold bI
   rw[m_]
   congr 1
   exact decide_eq_decide.mpr (by omega)
  rw[e]at k
  refine⟨_,rfl,_,_,rfl,rfl,_,rfl,p_ (λ a=>?_) λ a=>?_⟩
  ·refine⟨_,rfl,x,CS,dx,_,_,rfl,h1,S.cl,S.n3,rfl,hl,_,rfl,.inl (nE.of h3),_,_,rfl,rfl,?_⟩
   rw[a]at k
   exact k
  ·have a:decide (0<=z)=false:=by cases q:decide (0<=z)with |true=>exact absurd q a|false=>rfl
   rw[a]at k
   exact k
def Ia(CS CF CC CT:ag):Sp:=λ vs H Q _=>∃(x wl hl a:ag) (ws d:List Nat) (f:ae),vs=[.ref x]/\Aa CS H x (.ref a) wl hl ws d/\rF CF CC CT H a f/\ws.length=f.cells.length/\FW (pL f ws)/\
 ∀H' p as,m7 H H'->H p=none->H' p=some (.lst (as.map V.ref))->TabsAt H' as (n9 (pL f ws))->Q (.ref p) H'
abbrev Bp:List Str:=["self","parts","cells","weight","cell"]
theorem Oq:m9 Bp ["self"] (m5 tZ):=qh
theorem XB(F:pI K "tables" "Search.tables" tZ f fd)(S:p6 K CS)(nI:Rec P w K mg base "Field" CF Ci)(oz:Rec P w K mg base "Cell" CC EH)(xI:mg "zip"=none)(yq:rB P w K mg base oG 1 "mass_table" ["weight","finds","parts"] Fy):nQ P w K mg base oG 2 f fd ["self"] (Ia CS CF CC CT):=by
 refine F.ok Oq (λ vs H Q E h=>?_) (λ oW A outer s H vs Q E hr h=>?_)
 ·obtain⟨x,wl,hl,a,ws,d,f,rfl,_⟩:=h
  rfl
 ·obtain⟨x,wl,hl,a,ws,d,f,rfl,⟨⟨dx,h1⟩,h2,h3⟩,⟨df,lc,lt,as,bs,f1,f2,f3,f4,f5⟩,hw,W,k⟩:=h
  have nd:=Oq.nd
  refine⟨_,(mX (m8 (i:=1) nd rfl (Or.inr rfl) (nq (nq (pv 0) rfl) rfl))
   (mX (m8 (i:=2) nd rfl (Or.inl rfl) (nq (nq (pv 0) rfl) rfl))
   (m6 (nj (qt (own:=[("weight",3),("cell",4)]) rfl nd (Eo rfl xI (mW (nq (pv 0) rfl) (mW (pv 2) mY))) (by exact pC.of (N:=Bp) (sc:=m5 tZ) (by decide +kernel)) (λ _ _ _ _ _=>by exact(A2 K (n:=2) rfl (oJ (nA (i:=3) nd rfl (Or.inl rfl)) (oJ (nA (i:=4) nd rfl (Or.inl rfl)) rC)))) (λ _ _ _ _ _=>by exact oR) (λ _ _ _ _ _=>by exact(nv (E:=E0) yq hr (by decide) nr (mW (pv 3) (mW (xV K (pv 4)) (mW (pv 1) mY)))))))))),?_⟩
  refine⟨_,rfl,x,CS,dx,_,_,rfl,h1,S.cl,S.n1,rfl,a,CF,df,_,_,rfl,f1,nI.cl,nI.na "parts" (by simp),rfl,?_⟩
  refine⟨_,rfl,x,CS,dx,_,_,rfl,h1,S.cl,S.n1,rfl,a,CF,df,_,_,rfl,f1,nI.cl,nI.na "cells" (by simp),rfl,?_⟩
  refine⟨_,rfl,x,CS,dx,_,_,rfl,h1,S.cl,S.n2,rfl,_,rfl,wl,lc,_,_,rfl,nE.of h2,nE.of f2,?_⟩
  have wB:=W.len
  rw[qN hw]at wB
  refine QS (Hn (K:=K) (nE.of h2) (nE.of f2) (by rw[m_,aa,f3.1,hw])) (λ j=>.lst (nX ((n9 (pL f ws)).getD j []))) (by rw[m_,aA];omega) (λ j y H3 R3 N3 hj pG hF kk=>?_) (λ D H3 ts hD pG uC hlen hts=>?_)
  ·obtain⟨T,x1,y1,rfl,q1,q2,hT⟩:=hF
   obtain⟨wj,e1,rfl⟩:=ou q1
   rw[ak]at q2
   cases e2:as[j]? with
   |none=>rw[e2]at q2;cases q2
   |some aj=>
    rw[e2]at q2;cases q2
    have Y_:j<f.cells.length:=by rw[<-f3.1];exact(List.getElem?_eq_some_iff.mp e2).1
    have e3:f.cells[j]? =some f.cells[j]:=af Y_
    obtain⟨dc,ec⟩:=f3.2 j aj _ e2 e3
    have e4:=QT e3 e1
    have e5:(n9 (pL f ws)).getD j []=rG wj f.cells[j].finds f.parts:=by rw[aB,e4];rfl
    have ce:(pL f ws).cells[j]? =some { f.cells[j]with weight:=wj }:=by unfold pL;rw[aP,e3,e1]
    have b1:=W.we _ (aC ce)
    have b2:=W.fi _ (aC ce)
    refine⟨T,_,rfl,Bi.of hT,rfl,_,_,rfl,_,_,rfl,rfl,rfl,sD ⟨_,rfl,_,rfl,aj,CC,dc,_,_,rfl,pG _ _ ec,oz.cl,oz.na "finds" (by simp),rfl,_,rfl,wj,f.cells[j].finds,f.parts,rfl,b1,b2,W.p0,W.p1,λ H4 p s4 hp hp4=>kk p H4 s4 hp (by rw[hp4,e5])⟩⟩
  ·refine k H3 D ts pG hD uC ⟨by rw[hlen,m_,pO,qN hw,hw],λ j b t e1 e2=>?_⟩
   rw[(hts j b e1).2,aB,e2];rfl
def QU(CS CF CC CT:ag):Sp:=λ vs H Q _=>∃(x wl hl a:ag) (ws d:List Nat) (f:ae),vs=[.ref x]/\Aa CS H x (.ref a) wl hl ws d/\rF CF CC CT H a f/\ws.length=f.cells.length/\FW (pL f ws)/\d.length=f.cells.length/\(∀n∈d,n<=20)/\
 ∀H',m7 H H'->Q (.int (left (pL f ws) d)) H'
theorem acg:m9 ["self"] ["self"] (m5 zT):=qh
abbrev V9(P:aJ)(w:aY)(K:ah)(mg:Str->Option ao)(base:bz)(CS:ag)(CF:ag)(CC:ag)(CT:ag):Prop:=um P w K mg base oG 2 CS "tables" ["self"] (Ia CS CF CC CT)
theorem ach(F:pI K "left" "Search.left" zT f fd)(S:p6 K CS)(nV:V9 P w K mg base CS CF CC CT)(oZ:Hz3 P w K mg base):nQ P w K mg base oG 3 f fd ["self"] (QU CS CF CC CT):=by
 refine F.ok acg (λ vs H Q E h=>?_) (λ oW A outer s H vs Q E hr h=>?_)
 ·obtain⟨x,wl,hl,a,ws,d,f,rfl,_⟩:=h
  rfl
 ·obtain⟨x,wl,hl,a,ws,d,f,rfl,hS,hF,hw,W,hd,tu,k⟩:=h
  have nL:=S.cl
  refine⟨_,(m6 (nj (nv (E:=E0) oZ hr (by decide) nr (mW (oV (E:=E0) nV nL hr (by decide) nr (pv 0)) (mW (nq (pv 0) rfl) mY))))),?_⟩
  obtain⟨⟨dx,h1⟩,h2,h3⟩:=id hS
  have wB:=W.len
  rw[qN hw]at wB
  refine⟨_,rfl,x,dx,_,rfl,h1,rfl,x,wl,hl,a,ws,d,f,rfl,hS,hF,hw,W,λ H1 p ts s1 hp JX ht=>?_⟩
  refine⟨_,rfl,x,CS,dx,_,_,rfl,s1 _ _ h1,S.cl,S.n3,rfl,p,hl,ts,n9 (pL f ws),d,rfl,JX,ht,s1 _ _ h3,?_,?_,A4 tu,λ H2 s2=>?_⟩
  ·rw[pO,qN hw,hd]
  ·omega
  ·rw[tM (by rw[qN hw,hd]) tu]
   exact k H2 (s1.trans s2)
def Mj(CS:ag):Sp:=λ vs H Q _=>∃(x wl hl b:ag) (v:V) (ws d:List Nat) (zs:List Int),vs=[.ref x,.ref b]/\Aa CS H x v wl hl ws d/\H b=some (.lst (iL zs))/\zs.length<=1600/\∀H',m7 H H'->Q (.bl (zs.length == d.length && zs.all λ z=>bI z 0 20)) H'
abbrev XC:List Str:=["self","row","efforts"]
theorem Tp:m9 XC ["self","row"] (m5 uI):=qh
theorem aaf(F:pI K "is_row" "Search.is_row" uI f fd)(S:p6 K CS)(pd:mg "len"=none)(zA:mg "all"=none)(nB:oF mg "MOST_EFFORTS" 20):nQ P w K mg base oG 1 f fd ["self","row"] (Mj CS):=by
 refine F.ok Tp (λ vs H Q E h=>?_) (λ oW A outer s H vs Q E hr h=>?_)
 ·obtain⟨x,wl,hl,b,v,ws,d,zs,rfl,_⟩:=h
  rfl
 ·obtain⟨x,wl,hl,b,v,ws,d,zs,rfl,⟨⟨dx,h1⟩,h2,h3⟩,hb,hz,k⟩:=h
  have nd:=Tp.nd
  refine⟨_,(m6 (nj (Lz (rR uc (nM nN rfl pd aX (mW (pv 1) mY)) (nM nN rfl pd aX (mW (nq (pv 0) rfl) mY)) (oK _)) (Ly (nM (BG rfl) rfl zA iP (mW (qt (own:=[("efforts",2)]) rfl nd (oM (pv 1)) (by exact pC.of (N:=XC) (sc:=m5 uI) (by decide +kernel)) (λ _ _ _ _ _=>by exact(nA (i:=2) nd rfl (Or.inl rfl))) (λ _ _ _ _ _=>by exact oR) (λ _ _ _ _ _=>by exact(vj p9 p9 nO (pv 2) (nU nB)))) mY)))))),?_⟩
  refine⟨_,rfl,b,_,rfl,.inl (nE.of hb),_,rfl,x,CS,dx,_,_,rfl,h1,S.cl,S.n3,rfl,hl,_,rfl,.inl (nE.of h3),rfl,?_⟩
  refine⟨_,rfl,p_ (λ hc=>?_) λ hc=>?_⟩
  ·have hc:=V.int.inj (of_decide_eq_true hc)
   rw[pW,m_]at hc
   have e:(zs.length == d.length)=true:=by rw[beq_iff_eq];omega
   rw[e]at k
   refine⟨_,rfl,b,rfl,⟨_,nE.of hb⟩,?_⟩
   refine oY (oS (K:=K) (xs:=iL zs) (nE.of hb)) (zs.map λ z=>V.bl (bI z 0 20)) (by rw[pW,aa]) (by rw[pW,aA];omega) (λ j x y H3 R3 N3 hy pG hF kk=>?_) (λ D H3 hD pG uC=>?_)
   ·unfold iL at hF
    rw[ak]at hF hy
    cases q1:zs[j]? with
    |none=>rw[q1]at hF;cases hF
    |some z=>
     rw[q1]at hF hy
     cases hF;cases hy
     refine⟨rfl,sD ?_⟩
     exact ue gc gv gc (kk H3 (m7.refl _))
   ·refine⟨D,zs.map λ z=>bI z 0 20,rfl,nE.of (by rw[uC,aW];rfl),?_⟩
    have k:=k H3 pG
    rw[fE]at k
    rw[cH];exact k
  ·have hc:¬ (V.int ((iL zs).length:Nat)=V.int ((nX d).length:Nat)):=λ q=>hc (decide_eq_true q)
   rw[pW,m_]at hc
   have e:(zs.length == d.length)=false:=by
    rw[beq_eq_false_iff_ne]
    intro q
    exact hc (by rw[q])
   rw[e]at k
   exact k H (m7.refl _)
def Ml(CS CF CC CT:ag):Sp:=λ vs H Q _=>∃(x dx a:ag) (v1 v2 v3:V) (f:ae),vs=[.ref x,.ref a]/\H x=some (.ins CS dx (JZ.zip [v1,v2,v3]))/\rF CF CC CT H a f/\f.cells.length<=16/\x≠a/\
 ∀H' wl hl,sE x H H'->H wl=none->H hl=none->wl≠hl->Aa CS H' x (.ref a) wl hl (f.cells.map (·.weight)) (f.cells.map λ _=>0)->Q .qA H'
abbrev yr:List Str:=["self","field","cell"]
theorem Tq:m9 yr ["self","field"] (m5 sL):=qh
theorem aag(F:pI K "begin" "Search.begin" sL f fd)(S:p6 K CS)(nI:Rec P w K mg base "Field" CF Ci)(oz:Rec P w K mg base "Cell" CC EH)(ne:CS≠CC):nQ P w K mg base oG 1 f fd ["self","field"] (Ml CS CF CC CT):=by
 refine F.ok Tq (λ vs H Q E h=>?_) (λ oW A outer s H vs Q E hr h=>?_)
 ·obtain⟨x,dx,a,v1,v2,v3,f,rfl,_⟩:=h
  rfl
 ·obtain⟨x,dx,a,v1,v2,v3,f,rfl,h1,⟨df,lc,lt,as,bs,f1,f2,f3,f4,f5⟩,wB,xa,k⟩:=h
  have nd:=Tq.nd
  refine⟨_,(mX (pU (pv 0) (pv 1) rfl)
   (mX (pU (pv 0) (qt (own:=[("cell",2)]) rfl nd (oM (nq (pv 1) rfl)) (by exact pC.of (N:=yr) (sc:=m5 sL) (by decide +kernel)) (λ _ _ _ _ _=>by exact(nA (i:=2) nd rfl (Or.inl rfl))) (λ _ _ _ _ _=>by exact oR) (λ _ _ _ _ _=>by exact(xV K (pv 2)))) rfl)
   (m6 (pU (pv 0) (qt (own:=[("cell",2)]) rfl nd (oM (nq (pv 1) rfl)) (by exact pC.of (N:=yr) (sc:=m5 sL) (by decide +kernel)) (λ _ _ _ _ _=>by exact(nA (i:=2) nd rfl (Or.inl rfl))) (λ _ _ _ _ _=>by exact oR) (λ _ _ _ _ _=>by exact nO)) rfl)))),?_⟩
  have lcx:lc≠x:=λ q=>by rw[q,h1]at f2;cases f2
  have aix:∀j b c,as[j]? =some b->f.cells[j]? =some c->b≠x:=λ j b c e1 e2 q=>by
   obtain⟨dc,ec⟩:=f3.2 j b c e1 e2
   rw[q,h1]at ec
   injection ec with ec
   injection ec with ec
   exact ne ec
  refine⟨_,rfl,_,rfl,x,CS,dx,_,rfl,h1,S.cl,S.n1,(by show 3<1000;decide),?_⟩
  generalize hH0:upd H x _=H0
  have k0:∀b o,b≠x->H b=some o->H0 b=some o:=λ b o n e=>by rw[<-hH0,m4 n];exact e
  have x0:H0 x=some (.ins CS dx (JZ.zip [.ref a,v2,v3])):=by rw[<-hH0,mZ];rfl
  refine⟨_,rfl,a,CF,df,_,_,rfl,k0 _ _ (Ne.symm xa) f1,nI.cl,nI.na "cells" (by simp),rfl,lc,rfl,⟨_,nE.of (k0 _ _ lcx f2)⟩,?_⟩
  have lz:(as.map V.ref).length<=ay:=by rw[aa,f3.1,aA];omega
  refine oY (oS (K:=K) (xs:=as.map V.ref) (nE.of (k0 _ _ lcx f2))) (nX (f.cells.map (·.weight))) (by rw[m_,aa,aa,f3.1]) lz (λ j y z H3 R3 N3 hy pG hF kk=>?_) (λ D H3 hD pG uC=>?_)
  ·obtain⟨c,q,rfl⟩:=ou hy
   rw[ak]at hF q
   cases q1:as[j]? with
   |none=>rw[q1]at hF;cases hF
   |some aj=>
    cases q2:f.cells[j]? with
    |none=>rw[q2]at q;cases q
    |some cj=>
     rw[q1]at hF;rw[q2]at q
     cases hF;cases q
     obtain⟨dc,ec⟩:=f3.2 j aj cj q1 q2
     exact⟨rfl,sD ⟨_,rfl,aj,CC,dc,_,_,rfl,pG _ _ (k0 _ _ (aix j aj cj q1 q2) ec),oz.cl,oz.na "weight" (by simp),rfl,kk H3 (m7.refl _)⟩⟩
  have x3:=pG _ _ x0
  refine⟨_,rfl,x,CS,dx,_,rfl,x3,S.cl,S.n2,(by show 3<1000;decide),?_⟩
  have Dx:D≠x:=λ q=>by rw[q,x0]at hD;cases hD
  generalize UW:upd H3 x _=H4
  have k4:∀b o,b≠x->H0 b=some o->H4 b=some o:=λ b o n e=>by rw[<-UW,m4 n];exact pG _ _ e
  have x4:H4 x=some (.ins CS dx (JZ.zip [.ref a,.ref D,v3])):=by rw[<-UW,mZ];rfl
  have D4:H4 D=some (.lst (nX (f.cells.map (·.weight)))):=by rw[<-UW,m4 Dx];exact uC
  have f24:=k4 _ _ lcx (k0 _ _ lcx f2)
  refine⟨_,rfl,a,CF,df,_,_,rfl,k4 _ _ (Ne.symm xa) (k0 _ _ (Ne.symm xa) f1),nI.cl,nI.na "cells" (by simp),rfl,lc,rfl,⟨_,nE.of f24⟩,?_⟩
  refine oY (oS (K:=K) (xs:=as.map V.ref) (nE.of f24)) (nX (f.cells.map λ _=>0)) (by rw[m_,aa,aa,f3.1]) lz (λ j y z H5 R5 N5 hy sm5 hF kk=>?_) (λ D2 H5 hD2 sm5 hD5=>?_)
  ·obtain⟨c,q,rfl⟩:=ou hy
   have e:c=0:=by
    rw[ak]at q
    cases z:f.cells[j]? with
    |none=>rw[z]at q;cases q
    |some n=>rw[z]at q;exact(Option.some.inj q).symm
   subst e
   exact⟨rfl,sD (kk H5 (m7.refl _))⟩
  refine⟨_,rfl,x,CS,dx,_,rfl,sm5 _ _ x4,S.cl,S.n3,(by show 3<1000;decide),?_⟩
  have D2x:D2≠x:=λ q=>by rw[q,x4]at hD2;cases hD2
  have D12:D≠D2:=λ q=>by rw[<-q,D4]at hD2;cases hD2
  have up:∀b o,b≠x->H b=some o->H5 b=some o:=λ b o n e=>sm5 _ _ (k4 b o n (k0 b o n e))
  refine k _ D D2 (λ b o e n _=>by rw[m4 n];exact up b o n e) ?_ ?_ D12 ⟨⟨dx,by rw[mZ];rfl⟩,?_,?_⟩
  ·cases q:H D with
   |none=>rfl
   |some o=>rw[k0 _ _ Dx q]at hD;cases hD
  ·cases q:H D2 with
   |none=>rfl
   |some o=>rw[k4 _ _ D2x (k0 _ _ D2x q)]at hD2;cases hD2
  ·rw[m4 Dx];exact sm5 _ _ D4
  ·rw[m4 D2x];exact hD5
theorem Ot(r:List (List Nat)):∀(a:List Nat),r.foldl (λ a y=>a++(32::y)) a=a++(r.map λ y=>32::y).flatten:=by
 induction r with
 |nil=>intro a;simp
 |cons y r ih=>intro a;rw[ck,ih,aH,dZ,bB]
theorem wk(n:Nat):(Str.ofString (toString ((n:Nat):Int)))=strOf (dB n):=by
 rw[oO];rfl
theorem Ib:∀(r:List (List Nat)) (x:List Nat),TL.Fh [32] (x::r)=x++(r.map λ y=>32::y).flatten
 |[],x=>by show x=_;simp
 |y::r,x=>by
  show x++([32]++TL.Fh [32] (y::r))=_
  rw[Ib r y,aH,dZ]
  simp
theorem UX(a b:List Nat):strOf a++strOf b=strOf (a++b):=by
 show(⟨a.toArray++b.toArray⟩:Str)=⟨(a++b).toArray⟩
 rw[List.append_toArray]
theorem KO(x:List Nat)(r:List (List Nat)):Txt.join (Str.ofString " ") ((x::r).map strOf)=strOf (x++(r.map λ y=>32::y).flatten):=by
 rw[TL.join_eq]
 apply TL.Qp
 rw[TL.GR,show TL.tl (Str.ofString " ")=[32] by decide,aW,show(TL.tl ∘ strOf)=id from rfl,ic,Ib]
theorem Ic:∀(r:List (List Nat)),(∀w∈r,w.length<=30)->((r.map λ y=>32::y).flatten).length<=31*r.length
 |[],_=>ax _
 |w::r,h=>by
  rw[aH,dZ,aw,aD,aD]
  have h1:=h w (by simp)
  have h2:=Ic r λ x hx=>h x (by simp[hx])
  omega
theorem UY(x:List Nat)(r:List (List Nat)):Txt.join (Str.ofString " ") ((x::r).map strOf)++Str.ofString ";\n"=strOf (ik (x::r)):=by
 rw[KO,oO ";\n",UX]
 unfold ik
 dsimp only
 rw[Ot]
 rfl
def QV(l:List (List Nat)):List V:=l.map λ w=>V.str (strOf w)
def XD:Sp:=λ vs H Q _=>∃(a:ag) (l:List (List Nat)),vs=[.ref a]/\H a=some (.lst (QV l))/\l≠[]/\l.length<=30/\(∀w∈l,w.length<=30)/\Q (.str (strOf (ik l))) H
theorem aci:m9 ["pieces"] ["pieces"] (m5 WX):=qh
theorem Ie:∀(l:List (List Nat)),(∀w∈l,w.length<=30)->((l.map strOf).map (·.length)).sum<=30*l.length
 |[],_=>ax _
 |w::l,h=>by
  rw[aH,aH,iD,aD]
  have h1:(strOf w).length<=30:=by show w.toArray.size<=30;rw[aK];exact h w (by simp)
  have h2:=Ie l λ x hx=>h x (by simp[hx])
  omega
theorem acj(F:pI K "line" "line" WX f fd):nQ P w K mg base oG 1 f fd ["pieces"] XD:=by
 refine F.ok aci (λ vs H Q E h=>?_) (λ oW A outer s H vs Q E hr h=>?_)
 ·obtain⟨a,l,rfl,_⟩:=h
  rfl
 ·obtain⟨a,l,rfl,ha,xD,hl,hw,k⟩:=h
  refine⟨_,(m6 (nj (oj Qg (LP qo (pv 0)) qo))),?_⟩
  match l,xD with
  |x::r,_=>
   have sl:=Ie (x::r) hw
   have hx:=hw x (by simp)
   have fl:=Ic r λ z hz=>hw z (by simp[hz])
   rw[aD]at hl sl
   refine⟨⟨_,rfl⟩,_,rfl,_,a,(x::r).map strOf,rfl,rfl,.inl (nE.of (by rw[ha];unfold QV;rw[aW];rfl)),?_,_,_,rfl,rfl,?_,?_⟩
   ·rw[aa,aD,show(Str.ofString " ").length=1 by decide];omega
   ·rw[KO,show(Str.ofString ";\n").length=2 by decide,aA]
    show(x++_).toArray.size+2<=_
    rw[aK,aw];omega
   ·rw[UY];exact k
def yt(l:cA):Prop:=∀x∈l,∀w,x.2=Vbmrac.Tok.word w->w.length<=8
theorem yt.tail{x:Nat×Vbmrac.Tok}{l:cA}(h:yt (x::l)):yt l:=λ y hy=>h y (by simp[hy])
theorem yt.drop{l:cA}(h:yt l)(n:Nat):yt (l.drop n):=λ y hy=>h y (List.mem_of_mem_drop hy)
theorem Ab:∀(f i:Nat) (t:List Nat),yt (iH f i t)
 |0,_,_=>λ x hx=>by cases hx
 |_+1,_,[]=>λ x hx=>by cases hx
 |f+1,i,c::t=>by
  show yt (if c=32\/c=10 then _ else _:cA)
  split
  ·exact Ab f (i+1) t
  ·split
   ·intro x hx w e
    rcases List.mem_cons.mp hx with q|q
    ·rw[q]at e;cases e
    ·exact Ab f (i+1) t x q w e
   ·split
    ·dsimp only
     split
     ·intro x hx w e
      simp at hx
      rw[hx]at e;cases e
     ·rename_i hl
      intro x hx w e
      rcases List.mem_cons.mp hx with q|q
      ·rw[q]at e;cases e;omega
      ·exact Ab f _ _ x q w e
    ·split
     ·dsimp only
      split
      ·intro x hx w e
       simp at hx
       rw[hx]at e;cases e
      ·intro x hx w e
       rcases List.mem_cons.mp hx with q|q
       ·rw[q]at e;cases e
       ·exact Ab f _ _ x q w e
     ·intro x hx w e
      simp at hx
      rw[hx]at e;cases e
theorem vE{en:Nat}{s:String}{l r:cA}(h:bN en s l= .ok r)(hl:yt l):yt r:=by
 unfold bN at h
 split at h
 ·cases h;exact hl.drop 1
 ·cases h
theorem XE{en:Nat}{l r:cA}(h:semi en l= .ok r)(hl:yt l):yt r:=by
 unfold lL at h
 split at h
 ·cases h;exact hl.drop 1
 ·cases h
theorem GX{en lo hi:Nat}{l r:cA}{n:Nat}(h:numAt en lo hi l= .ok (n,r))(hl:yt l):yt r:=by
 unfold jC at h
 split at h
 ·split at h
  ·cases h;exact hl.tail
  ·cases h
 ·cases h
theorem XF{en:Nat}{l r:cA}{n:Nat×List Nat}(h:nameAt en l= .ok (n,r))(hl:yt l):yt r/\n.2.length<=8:=by
 unfold lj at h
 split at h
 ·split at h
  ·cases h
  ·cases h;exact⟨hl.tail,hl _ (bT ..) _ rfl⟩
 ·cases h
theorem aah{en:Nat}{f:ae}{l r:cA}{c:bF}(h:xG en f l= .ok (c,r))(hl:yt l):yt r/\c.name.length<=8:=by
 unfold xG at h
 cases e1:bN en "cell" l with
 |error b=>rw[e1]at h;cases h
 |ok l1=>
  rw[e1]at h
  dsimp only[Bind.bind,Except.bind]at h
  cases e2:nameAt en l1 with
  |error b=>rw[e2]at h;cases h
  |ok x=>
   obtain⟨n,l2⟩:=x
   rw[e2]at h
   dsimp only at h
   split at h
   ·cases h
   ·cases e3:bN en "weight" l2 with
    |error b=>rw[e3]at h;cases h
    |ok l3=>
     rw[e3]at h
     dsimp only at h
     cases e4:numAt en 0 d_ l3 with
     |error b=>rw[e4]at h;cases h
     |ok x4=>
      obtain⟨n4,l4⟩:=x4
      rw[e4]at h
      dsimp only at h
      cases e5:bN en "finds" l4 with
      |error b=>rw[e5]at h;cases h
      |ok l5=>
       rw[e5]at h
       dsimp only at h
       cases e6:numAt en 0 f.parts l5 with
       |error b=>rw[e6]at h;cases h
       |ok x6=>
        obtain⟨n6,l6⟩:=x6
        rw[e6]at h
        dsimp only at h
        cases e7:bN en "time" l6 with
        |error b=>rw[e7]at h;cases h
        |ok l7=>
         rw[e7]at h
         dsimp only at h
         cases e8:numAt en 1 fo l7 with
         |error b=>rw[e8]at h;cases h
         |ok x8=>
          obtain⟨n8,l8⟩:=x8
          rw[e8]at h
          dsimp only at h
          cases e9:semi en l8 with
          |error b=>rw[e9]at h;cases h
          |ok l9=>
           rw[e9]at h
           dsimp only at h
           cases h
           obtain⟨a2,a3⟩:=XF e2 (vE e1 hl)
           exact⟨XE e9 (GX e8 (vE e7 (GX e6 (vE e5 (GX e4 (vE e3 a2)))))),a3⟩
theorem UZ(en:Nat):∀(k:Nat) (f:ae) (l:cA) (g:ae) (r:cA),yt l->(∀c∈f.cells,c.name.length<=8)->fP en k f l= .ok (g,r)->∀c∈g.cells,c.name.length<=8:=by
 intro k
 induction k with
 |zero=>intro f l g r _ hf h;cases h;exact hf
 |succ k ih=>
  intro f l g r hl hf h
  rw[yi]at h
  split at h
  ·cases h;exact hf
  ·cases e:xG en f l with
   |error b=>rw[e]at h;cases h
   |ok x=>
    obtain⟨c,r1⟩:=x
    rw[e]at h
    dsimp only at h
    obtain⟨a1,a2⟩:=aah e hl
    refine ih _ _ _ _ a1 (λ d hd=>?_) h
    rcases List.mem_append.mp hd with q|q
    ·exact hf d q
    ·simp at q;subst q;exact a2
theorem QW{t:List Nat}{g:ae}(h:cV t= .ok g):∀c∈g.cells,c.name.length<=8:=by
 rw[Mf]at h
 split at h
 ·cases h
 ·rename_i l1 e1
  split at h
  ·cases h
  ·rename_i p l2 e2
   split at h
   ·cases h
   ·rename_i l3 e3
    split at h
    ·cases h
    ·rename_i f l4 e4
     split at h
     ·cases h
     ·rename_i g' l5 e5
      split at h
      ·cases h
       obtain⟨a1,a2,a3,a4,_⟩:=Ce _ _ ⟨p,[],[]⟩ _ _ _ (cK _) ⟨eV,aE _,λ c hc=>absurd hc (by simp)⟩ e4
       obtain⟨b1,b2,b3⟩:=Cg _ _ _ _ _ _ ⟨by rw[a3];exact aE _,by rw[a3];exact aE _,λ c hc=>by rw[a3]at hc;exact absurd hc (by simp)⟩ e5
       rw[b3]
       exact UZ _ _ _ _ _ _ (XE e3 (GX e2 (vE e1 (Ab _ _ _)))) (λ c hc=>absurd hc (by simp)) e4
      ·cases h
theorem sQ:∀n:Nat,n<=1000->(dB n).length<=30:=by decide +kernel
def Cn(c:bF):List Nat:=ik [bX "cell",c.name,bX "weight",dB c.weight,bX "finds",dB c.finds,bX "time",dB c.time]
def w6(f:ae)(t:aL):List Nat:=ik ([bX "team",dB t.efforts,bX "in"]++t.cells.map λ c=>(bx f c).name)
theorem xK{n:Nat}(h:n<=1000):((n:Nat):Int).natAbs.log2<1920:=by
 show n.log2<1920
 by_cases hz:n=0
 ·subst hz;decide
 ·exact aU ((mH hz).mpr (show n<2 ^ 10 by omega)) (by decide)
def Ig(CC:ag):Sp:=λ vs H Q _=>∃(a:ag) (c:bF),vs=[.ref a]/\BH CC H a c/\c.name.length<=8/\c.weight<=1000/\c.finds<=1000/\c.time<=1000/\∀H',m7 H H'->Q (.str (strOf (Cn c))) H'
theorem QX:m9 ["cell"] ["cell"] (m5 Ez):=qh
abbrev Hz6(P:aJ)(w:aY)(K:ah)(mg:Str->Option ao)(base:bz):Prop:=rB P w K mg base oG 1 "line" ["pieces"] XD
theorem QY(F:pI K "cell_line" "cell_line" Ez f fd)(oz:Rec P w K mg base "Cell" CC EH)(yu:Hz6 P w K mg base)(Ih:mg "str"=none):nQ P w K mg base oG 2 f fd ["cell"] (Ig CC):=by
 refine F.ok QX (λ vs H Q E h=>?_) (λ oW A outer s H vs Q E hr h=>?_)
 ·obtain⟨a,c,rfl,_⟩:=h
  rfl
 ·obtain⟨a,c,rfl,⟨dx,ha⟩,hn,h1,h2,h3,k⟩:=h
  refine⟨_,(m6 (nj (nv (E:=E0) yu hr (by decide) nr (mW (nP (mW qo (mW (nq (pv 0) rfl) (mW qo (mW (sr sI rfl Ih jZ (mW (nq (pv 0) rfl) mY)) (mW qo (mW (sr sI rfl Ih jZ (mW (nq (pv 0) rfl) mY)) (mW qo (mW (sr sI rfl Ih jZ (mW (nq (pv 0) rfl) mY)) mY))))))))) mY)))),?_⟩
  refine⟨_,rfl,a,CC,dx,_,_,rfl,ha,oz.cl,oz.na "name" (by simp),rfl,?_⟩
  refine⟨_,rfl,a,CC,dx,_,_,rfl,ha,oz.cl,oz.na "weight" (by simp),rfl,_,rfl,xK h1,?_⟩
  refine⟨_,rfl,a,CC,dx,_,_,rfl,ha,oz.cl,oz.na "finds" (by simp),rfl,_,rfl,xK h2,?_⟩
  refine⟨_,rfl,a,CC,dx,_,_,rfl,ha,oz.cl,oz.na "time" (by simp),rfl,_,rfl,xK h3,?_⟩
  refine⟨(by show 8<=ay;decide),λ p hp=>⟨p,[bX "cell",c.name,bX "weight",dB c.weight,bX "finds",dB c.finds,bX "time",dB c.time],rfl,?_,by simp,by simp,λ z hz=>?_,k _ (m7.new hp)⟩⟩
  ·rw[mZ]
   show some (HO.lst [V.str (Str.ofString "cell"),V.str (strOf c.name),V.str (Str.ofString "weight"),V.str (Str.ofString (toString ((c.weight:Nat):Int))),V.str (Str.ofString "finds"),V.str (Str.ofString (toString ((c.finds:Nat):Int))),V.str (Str.ofString "time"),V.str (Str.ofString (toString ((c.time:Nat):Int)))])=_
   rw[wk,wk,wk,oO "cell",oO "weight",oO "finds",oO "time"]
   rfl
  ·have d1:=sQ _ h1
   have d2:=sQ _ h2
   have d3:=sQ _ h3
   have b1:(bX "cell").length<=30:=by decide
   have b2:(bX "weight").length<=30:=by decide
   have b3:(bX "finds").length<=30:=by decide
   have b4:(bX "time").length<=30:=by decide
   simp only[dh,cJ,or_false]at hz
   rcases hz with rfl|rfl|rfl|rfl|rfl|rfl|rfl|rfl <;> omega
def Ii(CC CT:ag):Sp:=λ vs H Q _=>∃(a lc:ag) (as:List ag) (f:ae) (t:aL),vs=[.ref a,.ref lc]/\sP CT H a t/\H lc=some (.lst (as.map V.ref))/\qK CC H as f.cells/\f.cells.length<=16/\(∀c∈f.cells,c.name.length<=8)/\Mc f.cells.length t/\∀H',m7 H H'->Q (.str (strOf (w6 f t))) H'
abbrev KP:List Str:=["team","cells","names","number"]
theorem Ij:m9 KP ["team","cells"] (m5 AW):=qh
theorem Ac:∀{n:Nat} {l:List Nat},l.Nodup->(∀c∈l,c<n)->l.length<=n
 |0,[],_,_=>ax _
 |0,c::l,_,hl=>absurd (hl c (by simp)) (by omega)
 |n+1,l,h,hl=>by
  by_cases hn:n∈l
  ·have h1:=Ac (n:=n) (h.erase n) λ c hc=>by
    obtain⟨z1,z2⟩:=h.mem_erase_iff.mp hc
    have:=hl c z2
    omega
   rw[List.length_erase_of_mem hn]at h1
   omega
  ·have h1:=Ac (n:=n) h λ c hc=>by
    have:=hl c hc
    have:c≠n:=λ q=>hn (q ▸ hc)
    omega
   omega
theorem QZ(F:pI K "team_line" "team_line" AW f fd)(oz:Rec P w K mg base "Cell" CC EH)(qp:Rec P w K mg base "Team" CT JY)(yu:Hz6 P w K mg base)(Ih:mg "str"=none):nQ P w K mg base oG 2 f fd ["team","cells"] (Ii CC CT):=by
 refine F.ok Ij (λ vs H Q E h=>?_) (λ oW A outer s H vs Q E hr h=>?_)
 ·obtain⟨a,lc,as,f,t,rfl,_⟩:=h
  rfl
 ·obtain⟨a,lc,as,f,t,rfl,⟨dx,ml,h1,h2,h3⟩,hlc,Mg,wB,XG,tok,k⟩:=h
  have nd:=Ij.nd
  refine⟨_,(mX (zN (i:=2) (own:=[("number",3)]) rfl nd rfl rfl rfl (oM (nq (pv 0) rfl)) (by exact pC.of (N:=KP) (sc:=m5 AW) (by decide +kernel)) (λ _ _ _ _ _=>by exact(nA (i:=3) nd rfl (Or.inl rfl))) (λ _ _ _ _ _=>by exact oR) (λ _ _ _ _ _=>by exact(xV K (tY K (pv 1) (pv 3)))))
   (m6 (nj (nv (E:=E0) yu hr (by decide) nr (mW (oj qW (nP (mW qo (mW (sr sI rfl Ih jZ (mW (nq (pv 0) rfl) mY)) (mW qo mY)))) (pv 2)) mY))))),?_⟩
  have tl:=Ac tok.nd tok.lt
  refine⟨_,rfl,a,CT,dx,_,_,rfl,h1,qp.cl,qp.na "cells" (by simp),rfl,ml,rfl,⟨_,nE.of h2⟩,?_⟩
  refine oY (oS (K:=K) (xs:=nX t.cells) (nE.of h2)) (QV (t.cells.map λ c=>(bx f c).name)) (by unfold QV;rw[m_,aa,aa]) (by rw[m_,aA];omega) (λ j y z H3 R3 N3 hy pG hF kk=>?_) (λ D H3 hD pG uC=>?_)
  ·obtain⟨c,q,rfl⟩:=ou hF
   have cm:=tok.lt c (aC q)
   unfold QV at hy
   rw[ak,ak,q]at hy
   cases hy
   have e1:f.cells[c]? =some f.cells[c]:=af cm
   have e2:as[c]? =some (as[c]'(by rw[Mg.1];exact cm)):=af _
   have ca:bx f c=f.cells[c]:=by unfold bx;rw[aB,e1];rfl
   obtain⟨dc,ec⟩:=Mg.2 c _ _ e2 e1
   have kk:=kk H3 (m7.refl _)
   refine⟨rfl,sD ⟨_,rfl,_,rfl,lc,_,_,_,rfl,rfl,nE.of (pG _ _ hlc),ot (by rw[ak,e2];rfl),_,CC,dc,_,_,rfl,pG _ _ ec,oz.cl,oz.na "name" (by simp),rfl,?_⟩⟩
   show R3 (V.str (strOf f.cells[c].name)) H3
   rw[<-ca];exact kk
  have e24:t.efforts<=1000:=by have:=tok.efforts;omega
  refine⟨_,rfl,a,CT,dx,_,_,rfl,pG _ _ h1,qp.cl,qp.na "efforts" (by simp),rfl,_,rfl,xK e24,(by show 3<=ay;decide),λ p hp=>?_⟩
  have sp:m7 H3 (upd H3 p (.lst [V.str (Str.ofString "team"),V.str (Str.ofString (toString ((t.efforts:Nat):Int))),V.str (Str.ofString "in")])):=m7.new hp
  refine⟨_,rfl,p,D,_,_,rfl,rfl,mZ,sp _ _ uC,?_,λ q hq=>?_⟩
  ·unfold QV;rw[aa,aa,aA];show 3+ _<=_;omega
  refine⟨q,[bX "team",dB t.efforts,bX "in"]++t.cells.map (λ c=>(bx f c).name),rfl,?_,by simp,?_,λ z hz=>?_,k _ ((pG.trans sp).trans (m7.new hq))⟩
  ·rw[mZ]
   show some (HO.lst ([V.str (Str.ofString "team"),V.str (Str.ofString (toString ((t.efforts:Nat):Int))),V.str (Str.ofString "in")]++QV (t.cells.map λ c=>(bx f c).name)))=_
   rw[wk,oO "team",oO "in"]
   unfold QV
   rw[aF];rfl
  ·rw[aw,aa];show 3+ _<=30;omega
  ·have d1:=sQ _ e24
   have b1:(bX "team").length<=30:=by decide
   have b2:(bX "in").length<=30:=by decide
   rcases List.mem_append.mp hz with q1|q1
   ·simp only[dh,cJ,or_false]at q1
    rcases q1 with rfl|rfl|rfl <;> omega
   ·obtain⟨c,hc,rfl⟩:=List.mem_map.mp q1
    have cm:=tok.lt c hc
    have ca:bx f c=f.cells[c]:=by unfold bx;rw[aB,af cm];rfl
    rw[ca]
    have:=XG _ (cp cm)
    omega
end oh
namespace L2
theorem XH{H1:Hp}(x:Str):Walk (Its x) H1 x.cps.size (λ i v _=>∃c,x.cps[i]? =some c/\v= .str ⟨#[c]⟩) where
 go:=λ i H hi sm=>hi
 G8:=λ i H v H' hi sm y=>by
  obtain⟨rfl,c,e1,e2⟩:=y
  exact⟨⟨c,e1,e2⟩,m7.refl _⟩
 stop:=λ H sm=>ax _
end L2
namespace oh
theorem KQ:∀(l:List (List Nat)),TL.Fh [] l=l.flatten
 |[]=>rfl
 |[x]=>by show x=_;simp
 |x::y::r=>by
  show x++([]++TL.Fh [] (y::r))=_
  rw[KQ (y::r),dZ];rfl
theorem XI(l:List (List Nat)):Txt.join (Str.ofString "") (l.map strOf)=strOf l.flatten:=by
 rw[TL.join_eq]
 apply TL.Qp
 rw[TL.GR,show TL.tl (Str.ofString "")=[] by decide,aW,show(TL.tl ∘ strOf)=id from rfl,ic,KQ]
theorem Dv{l:List (List Nat)}(hl:l.length<=30)(hw:∀w∈l,w.length<=30):(ik l).length<=1000:=by
 unfold ik
 cases l with
 |nil=>simp
 |cons x r=>
  dsimp only
  rw[Ot,aw,aw]
  have h1:=hw x (by simp)
  have h2:=Ic r λ z hz=>hw z (by simp[hz])
  rw[aD]at hl
  show _+2<=1000
  omega
theorem Mm{B:Nat}:∀(l:List (List Nat)),(∀w∈l,w.length<=B)->l.flatten.length<=l.length*B
 |[],_=>by simp
 |w::l,h=>by
  rw[dZ,aw,aD,j3]
  have h1:=h w (by simp)
  have h2:=Mm l λ x hx=>h x (by simp[hx])
  omega
theorem Tr:∀(l:List (List Nat)),((l.map strOf).map (·.length)).sum=l.flatten.length
 |[]=>rfl
 |w::l=>by
  rw[aH,aH,iD,Tr l,dZ,aw]
  show w.toArray.size+ _=_
  rw[aK]
theorem Ik(f:ae):iE f=([ik [bX "parts",dB f.parts]]++f.cells.map Cn++f.teams.map (w6 f)).flatten:=by
 rw[kq,kq]
 unfold iE
 rw[lh,lh,bB]
 congr 1
 simp
theorem Il{c:bF}(hn:c.name.length<=8)(h1:c.weight<=1000)(h2:c.finds<=1000)(h3:c.time<=1000):(Cn c).length<=1000:=by
 refine Dv (by simp) λ z hz=>?_
 have d1:=sQ _ h1
 have d2:=sQ _ h2
 have d3:=sQ _ h3
 have b1:(bX "cell").length<=30:=by decide
 have b2:(bX "weight").length<=30:=by decide
 have b3:(bX "finds").length<=30:=by decide
 have b4:(bX "time").length<=30:=by decide
 simp only[dh,cJ,or_false]at hz
 rcases hz with rfl|rfl|rfl|rfl|rfl|rfl|rfl|rfl <;> omega
theorem Im{f:ae}{t:aL}(wB:f.cells.length<=16)(XG:∀c∈f.cells,c.name.length<=8)(tok:Mc f.cells.length t):(w6 f t).length<=1000:=by
 have tl:=Ac tok.nd tok.lt
 have e24:t.efforts<=1000:=by have:=tok.efforts;omega
 refine Dv ?_ λ z hz=>?_
 ·rw[aw,aa];show 3+ _<=30;omega
 ·have d1:=sQ _ e24
  have b1:(bX "team").length<=30:=by decide
  have b2:(bX "in").length<=30:=by decide
  rcases List.mem_append.mp hz with q1|q1
  ·simp only[dh,cJ,or_false]at q1
   rcases q1 with rfl|rfl|rfl <;> omega
  ·obtain⟨c,hc,rfl⟩:=List.mem_map.mp q1
   have cm:=tok.lt c hc
   have ca:bx f c=f.cells[c]:=by unfold bx;rw[aB,af cm];rfl
   rw[ca]
   have:=XG _ (cp cm)
   omega
def EO:Sp:=λ vs H Q _=>∃(x:List Nat),vs=[.str (strOf x)]/\x.length<=30000/\GG H Q (nX x)
abbrev Ou:List Str:=["text","sign"]
theorem KR:m9 Ou ["text"] (m5 C_):=qh
theorem U8(F:pI K "to_bytes" "to_bytes" C_ f fd)(adI:mg "ord"=none):nQ P w K mg base oG 1 f fd ["text"] EO:=by
 refine F.ok KR (λ vs H Q E h=>?_) (λ oW A outer s H vs Q E hr h=>?_)
 ·obtain⟨x,rfl,_⟩:=h
  rfl
 ·obtain⟨x,rfl,hx,k⟩:=h
  have nd:=KR.nd
  refine⟨_,(m6 (nj (qt (own:=[("sign",1)]) rfl nd (abR (pv 0)) (by exact pC.of (N:=Ou) (sc:=m5 C_) (by decide +kernel)) (λ _ _ _ _ _=>by exact(nA (i:=1) nd rfl (Or.inl rfl))) (λ _ _ _ _ _=>by exact oR) (λ _ _ _ _ _=>by exact(nM Wi rfl adI boot_ord (mW (pv 1) mY)))))),?_⟩
  refine⟨_,rfl,_,rfl,?_⟩
  refine oY (XH (strOf x)) (nX x) (by rw[m_];show _=x.toArray.size;rw[aK]) (by show x.toArray.size<=_;rw[aK,aA];omega) (λ j y z H3 R3 N3 hy pG hF kk=>?_) (λ D H3 hD pG uC=>k H3 D pG hD uC)
  obtain⟨c,q,rfl⟩:=ou hy
  obtain⟨c',e1,rfl⟩:=hF
  have e2:c'=c:=by
   have:x.toArray[j]? =some c':=e1
   rw[List.getElem?_toArray,q]at this
   exact(Option.some.inj this).symm
  subst e2
  exact⟨rfl,sD ⟨_,rfl,_,rfl,rfl,kk H3 (m7.refl _)⟩⟩
def Ts(CF CC CT:ag):Sp:=λ vs H Q _=>∃(a:ag) (f:ae),vs=[.ref a]/\rF CF CC CT H a f/\Ds f/\(∀c∈f.cells,c.name.length<=8)/\GG H Q (nX (iE f))
abbrev ack:List Str:=["field","lines","cell","team"]
theorem Tt:m9 ack ["field"] (m5 Qt):=qh
theorem aai(F:pI K "shown" "shown" Qt f fd)(nI:Rec P w K mg base "Field" CF Ci)(yu:Hz6 P w K mg base)(Ih:mg "str"=none)(Ad:rB P w K mg base oG 2 "cell_line" ["cell"] (Ig CC))(Ae:rB P w K mg base oG 2 "team_line" ["team","cells"] (Ii CC CT))(r8:rB P w K mg base oG 1 "to_bytes" ["text"] EO):nQ P w K mg base oG 3 f fd ["field"] (Ts CF CC CT):=by
 refine F.ok Tt (λ vs H Q E h=>?_) (λ oW A outer s H vs Q E hr h=>?_)
 ·obtain⟨a,f,rfl,_⟩:=h
  rfl
 ·obtain⟨a,f,rfl,⟨df,lc,lt,as,bs,f1,f2,f3,f4,f5⟩,ok,XG,k⟩:=h
  have nd:=Tt.nd
  refine⟨_,(mX (m8 (i:=1) nd rfl (Or.inl rfl) (nP (mW (nv (E:=E0) yu hr (by decide) nr (mW (nP (mW qo (mW (sr sI rfl Ih jZ (mW (nq (pv 0) rfl) mY)) mY))) mY)) mY)))
   (mX (qB PassesOwn.never rfl (oM (nq (pv 0) rfl)) (nA (i:=2) nd rfl (Or.inl rfl)) (m6 (n_ (qT aG bc a_ pF (pv 1) (mW (nv (E:=E0) Ad hr (by decide) nr (mW (pv 2) mY)) mY)))))
   (mX (qB PassesOwn.never rfl (oM (nq (pv 0) rfl)) (nA (i:=3) nd rfl (Or.inl rfl)) (m6 (n_ (qT aG bc a_ pF (pv 1) (mW (nv (E:=E0) Ae hr (by decide) nr (mW (pv 3) (mW (nq (pv 0) rfl) mY))) mY)))))
   (m6 (nj (nv (E:=E0) r8 hr (by decide) nr (mW (LP qo (pv 1)) mY))))))),?_⟩
  have XJ:f.parts<=1000:=by have:=ok.parts;omega
  refine⟨_,rfl,a,CF,df,_,_,rfl,f1,nI.cl,nI.na "parts" (by simp),rfl,_,rfl,xK XJ,(by show 2<=ay;decide),λ p hp=>?_⟩
  have s0:m7 H (upd H p (.lst [V.str (Str.ofString "parts"),V.str (Str.ofString (toString ((f.parts:Nat):Int)))])):=m7.new hp
  refine⟨p,[bX "parts",dB f.parts],rfl,?_,by simp,by simp,λ z hz=>?_,(by show 1<=ay;decide),λ ln hln=>?_⟩
  ·rw[mZ]
   show some (HO.lst [V.str (Str.ofString "parts"),V.str (Str.ofString (toString ((f.parts:Nat):Int)))])=_
   rw[wk,oO "parts"];rfl
  ·have d1:=sQ _ XJ
   have b1:(bX "parts").length<=30:=by decide
   simp only[dh,cJ,or_false]at hz
   rcases hz with rfl|rfl <;> omega
  have hl0:H ln=none:=by
   cases q:H ln with
   |none=>rfl
   |some o=>rw[s0 _ _ q]at hln;cases hln
  have sm1:=s0.trans (m7.new (o:=.lst [V.str (strOf (ik [bX "parts",dB f.parts]))]) hln)
  refine⟨_,rfl,a,CF,df,_,_,rfl,sm1 _ _ f1,nI.cl,nI.na "cells" (by simp),rfl,lc,rfl,⟨_,nE.of (sm1 _ _ f2)⟩,rh (K:=K) (a:=lc) (xs:=as.map V.ref) (λ i σ H'=>∃(o:Option V),σ=[some (.ref a),some (.ref ln),o,none]/\m7 H H'/\H' ln=some (.lst (QV ([ik [bX "parts",dB f.parts]]++(f.cells.take i).map Cn))))
   ⟨none,rfl,sm1,by rw[mZ];rfl⟩ (λ i σ H' _ ⟨_,_,sm,_⟩=>nE.of (sm _ _ f2)) ?_ ?_⟩
  ·rintro i x σ H' hx ⟨o,rfl,sm,hL⟩
   rw[ak]at hx
   cases q1:as[i]? with
   |none=>rw[q1]at hx;cases hx
   |some ai=>
    rw[q1]at hx;cases hx
    have hi:i<f.cells.length:=by rw[<-f3.1];exact(List.getElem?_eq_some_iff.mp q1).1
    have q2:f.cells[i]? =some f.cells[i]:=af hi
    obtain⟨dc,ec⟩:=f3.2 i ai _ q1 q2
    have co:=ok.cells.each _ (cp hi)
    have pp:=ok.parts
    refine⟨_,rfl,.inl ⟨rfl,_,nE.of hL⟩,_,rfl,ai,f.cells[i],rfl,⟨dc,sm _ _ ec⟩,XG _ (cp hi),co.weight,by have:=co.finds;omega,by have:=co.time;omega,λ H2 s2=>⟨ln,_,_,rfl,rfl,s2 _ _ hL,?_,_,rfl,λ b o e=>?_,?_⟩⟩
    ·have:=ok.cells.len
     unfold QV
     rw[aa,aw,aa,bW,aA]
     show 1+ _< _
     omega
    ·rw[m4 (nG e hl0)];exact s2 _ _ (sm _ _ e)
    ·rw[mZ,bZ,q2]
     unfold QV
     rw[aF,aF,aF]
     simp
  ·rintro σ H' ⟨o,rfl,sm,hL⟩
   rw[aa,f3.1,dj]at hL
   refine⟨_,rfl,a,CF,df,_,_,rfl,sm _ _ f1,nI.cl,nI.na "teams" (by simp),rfl,lt,rfl,⟨_,nE.of (sm _ _ f4)⟩,rh (K:=K) (a:=lt) (xs:=bs.map V.ref) (λ i σ H'=>∃(o3:Option V),σ=[some (.ref a),some (.ref ln),o,o3]/\m7 H H'/\H' ln=some (.lst (QV ([ik [bX "parts",dB f.parts]]++f.cells.map Cn++(f.teams.take i).map (w6 f)))))
    ⟨none,rfl,sm,by rw[hL];simp⟩ (λ i σ H' _ ⟨_,_,sm,_⟩=>nE.of (sm _ _ f4)) ?_ ?_⟩
   ·rintro i x σ H2 hx ⟨o3,rfl,wc,Y6⟩
    rw[ak]at hx
    cases q1:bs[i]? with
    |none=>rw[q1]at hx;cases hx
    |some ai=>
     rw[q1]at hx;cases hx
     have hi:i<f.teams.length:=by rw[<-f5.1];exact(List.getElem?_eq_some_iff.mp q1).1
     have q2:f.teams[i]? =some f.teams[i]:=af hi
     have ta:=(f5.2 i ai _ q1 q2).same wc
     refine⟨_,rfl,.inl ⟨rfl,_,nE.of Y6⟩,_,rfl,_,rfl,a,CF,df,_,_,rfl,wc _ _ f1,nI.cl,nI.na "cells" (by simp),rfl,ai,lc,as,f,f.teams[i],rfl,ta,wc _ _ f2,⟨f3.1,λ j b c e1 e2=>let⟨d,z⟩:=f3.2 j b c e1 e2;⟨d,wc _ _ z⟩⟩,ok.cells.len,XG,ok.teams.each _ (cp hi),λ H3 s3=>⟨ln,_,_,rfl,rfl,s3 _ _ Y6,?_,_,rfl,λ b o e=>?_,?_⟩⟩
     ·have:=ok.cells.len
      have:=ok.teams.len
      unfold QV
      rw[aa,aw,aw,aa,aa,bW,aA]
      show 1+ _+ _< _
      omega
     ·rw[m4 (nG e hl0)];exact s3 _ _ (wc _ _ e)
     ·have e9:(f.teams.take (i+1)).map (w6 f)=(f.teams.take i).map (w6 f)++[w6 f f.teams[i]]:=by
       rw[bZ,q2,aF];rfl
      rw[mZ,e9,<-bB]
      unfold QV
      rw[aF (l₂:=[w6 f f.teams[i]])];rfl
   ·rintro σ H2 ⟨o3,rfl,wc,Y6⟩
    rw[aa,f5.1,dj]at Y6
    generalize Za:[ik [bX "parts",dB f.parts]]++f.cells.map Cn++f.teams.map (w6 f)=ls at Y6
    have we:iE f=ls.flatten:=by rw[Ik,Za]
    have afn:ls.flatten.length<=23000:=by
     have h1:ls.flatten.length<=ls.length*1000:=Mm ls λ z hz=>by
      rw[<-Za]at hz
      rcases List.mem_append.mp hz with hz|hz
      ·rcases List.mem_append.mp hz with hz|hz
       ·simp only[dh,cJ,or_false]at hz
        rw[hz]
        refine Dv (by simp) λ z hz=>?_
        have d1:=sQ _ XJ
        have b1:(bX "parts").length<=30:=by decide
        simp only[dh,cJ,or_false]at hz
        rcases hz with rfl|rfl <;> omega
       ·obtain⟨c,hc,rfl⟩:=List.mem_map.mp hz
        have co:=ok.cells.each _ hc
        have pp:=ok.parts
        exact Il (XG c hc) co.weight (by have:=co.finds;omega) (by have:=co.time;omega)
      ·obtain⟨t,ht,rfl⟩:=List.mem_map.mp hz
       exact Im ok.cells.len XG (ok.teams.each t ht)
     have h2:ls.length<=23:=by
      have:=ok.cells.len
      have:=ok.teams.len
      rw[<-Za,aw,aw,aa,aa]
      show 1+ _+ _<=23
      omega
     have h3:ls.length*1000<=23*1000:=c6 _ h2
     omega
    refine⟨⟨_,rfl⟩,_,rfl,_,ln,ls.map strOf,rfl,rfl,.inl (nE.of (by rw[Y6];unfold QV;rw[aW];rfl)),?_,?_⟩
    ·rw[Tr,show(Str.ofString "").length=0 by decide];omega
    rw[XI]
    rw[we]at k
    refine⟨ls.flatten,rfl,by omega,λ H3 D s3 hD uC=>k H3 D (wc.trans s3) ?_ uC⟩
    cases q:H D with
    |none=>rfl
    |some o=>rw[wc _ _ q]at hD;cases hD
end oh
namespace L2
section
variable{X:Cx}
def XM(K:ah):V->List V->Hp->VK->Prop:=λ x xs H Q=>∃(a:ag) (ns:List Int) (k:Int),x=V.ref a/\xs=[V.int k]/\nE K H a (ns.map V.int)/\Q (.int (ns.count k:Nat)) H
theorem Q0:MtR X "list.count" (XM X.K):=by
 intro pins s σ H x xs v us Q I rx rxs h
 obtain⟨a,ns,k,rfl,rfl,hs,q⟩:=h
 cases rx
 obtain⟨u,rfl,ru⟩:=rxs.one
 obtain⟨t,rfl⟩:=ru
 obtain⟨om,rv,hl,_⟩:=I.list hs
 exact count_list_ints hl.isList rv.ints ⟨.int _,H,I.tok _,⟨_,rfl⟩,q⟩
def XN:V->List V->Hp->VK->Prop:=λ x xs H Q=>∃(l:ag) (ys:List V) (y:V),x=V.ref l/\xs=[V.int 0,y]/\H l=some (.lst ys)/\ys.length<ay/\Q .qA (upd H l (.lst (y::ys)))
theorem Q_:MtM X "list.insert" XN:=by
 intro pins s σ H x vs v us Q I rx rv h
 obtain⟨l,ys,y,rfl,rfl,hH,hz,q⟩:=h
 cases rx
 cases rv with
 |cons r0 rt=>
  obtain⟨u,rfl,ru⟩:=Vals.one rt
  obtain⟨t,rfl⟩:=r0
  obtain⟨z,om,n,r,hl,e⟩:=I.Uq hH
  refine jV F.slot_list_insert ⟨_,e,rfl⟩ F.entry_list_insert (F.args_list_insert_3 _ _ _) (AutoSeq1.list_insert_list_int_val_1 l om.toArray n 0 t u (by decide) (by rw[aK];omega)) ⟨e,?_⟩
  refine⟨.qA,_,I.abJ (its':=u::om) hH e (by simp) (.cons ru r) ?_,rfl,q⟩
  rw[aD];omega
def acm(ta:TA):TE:=λ σ H Q=>ta σ H λ vs H1=>∃n:Nat,vs=[.int n]/\n<=1000/\∀l,H1 l=none->Q (.ref l) (upd H1 l (.lst ((az n).map λ(i:Nat)=>V.int i)))
theorem Tu:∀{xs:List V} {us:List ao},xs.length=us.length->(∀(i:Nat) x u,xs[i]? =some x->us[i]? =some u->RelV x u)->Vals xs us
 |[],[],_,_=>.nil
 |x::xs,u::us,h,g=>.cons (g 0 x u rfl rfl) (Tu (by simpa using h) λ i y v e1 e2=>g (i+1) y v (by simpa using e1) (by simpa using e2))
 |[],_::_,h,_=>by simp at h
 |_::_,[],h,_=>by simp at h
theorem U9{acc:Array ao}{n:Nat}(h:ItemsOf (λ i v=>∃t,v=Value.int (0+i*1) t) acc n):Vals ((az n).map λ(i:Nat)=>V.int i) acc.toList:=by
 refine Tu (by rw[aa,aR,Array.length_toList,h.1]) λ i x u e1 e2=>?_
 obtain⟨t,rfl⟩:=h.2 i u (by simpa using e2)
 rw[ak]at e1
 cases q:(az n)[i]? with
 |none=>rw[q]at e1;cases e1
 |some j=>
  rw[q]at e1
  obtain⟨hi,hj⟩:=List.getElem?_eq_some_iff.mp q
  rw[List.getElem_range]at hj
  subst hj
  cases e1
  exact⟨t,by simp⟩
theorem XO{a:bJ}{ta:TA}{p p2 pos XQ:Pos}(hc:X.calm=true)(hg1:Gl X "list")(hm1:X.mg "list"=none)(hg2:Gl X "range")(hm2:X.mg "range"=none)(ha:PA X [a] ta)
  (hs:aN [.Call (.Name "range" p2) [a] [] XQ] X.env=[(false,cu (.Call (.Name "range" p2) [a] [] XQ) X.env)]:=by rfl)(Uk:aN [a] X.env=[(false,cu a X.env)]:=by rfl):
  PE X (.Call (.Name "list" p) [.Call (.Name "range" p2) [a] [] XQ] [] pos) (acm ta):=by
 intro pins s σ H Q I h
 refine cZ (vg I hg1 hm1 kD ?_)
 refine bS ?_ hs rfl
 rw[hs]
 show aV _ _ (spliced ((false,cu (.Call (.Name "range" p2) [a] [] XQ) X.env)::c7 pos [])) _ _ s
 refine Calls.spliced_cons (ly (vg I hg2 hm2 j0 (bS (pM (ha XQ pins s σ H _ I h) λ us s1 ⟨vs,H1,I1,r1,n,e,hn,q⟩=>?_) Uk rfl)))
 subst e
 cases r1 with
 |cons r rr=>
  cases rr
  obtain⟨t,rfl⟩:=r
  refine call_range_1 (Calls.spliced_nil ?_)
  have I2:Inv X pins σ H1 { s1 with heap:=s1.heap.push { cls:=.type "range",data:=.fields #[.int 0 s1.toks,.int n t,.int 1 (s1.toks+1)] },toks:=s1.toks+1+1 }:=I1.kept λ b o e=>Heap.get?_push_of_some _ e
  refine call_list_range (n:=n) (I.ok.hd hc) (IsRange.new ..) (small_one (by omega) (by omega) (by omega) (by omega)) (by rw[mR];split <;> omega) (by omega) λ h' tk acc c' hk hS aeZ=>?_
  have hz:((az n).map λ(i:Nat)=>V.int i).length<=ay:=by rw[aa,aR,aA];omega
  exact⟨.ref _,_,I2.laid (t':=tk) hk (ax _) (show pP X.prog X.w _ h' _ (.lst _)from⟨hz,acc.toList,c',U9 aeZ,by rw[hS]⟩),rfl,q _ (I2.oX.fresh (ax _))⟩
end
theorem tN{H1:Hp}(lo:Int)(n:Nat):Walk (Itr lo n) H1 n (λ i x _=>x= .int (lo+i)) where
 go:=λ i H hi sm=>hi
 G8:=λ i H x H' hi sm y=>by
  obtain⟨rfl,y⟩:=y
  exact⟨y,m7.refl _⟩
 stop:=λ H sm=>ax _
theorem U_{K:ah}{H1:Hp}{a b:ag}{xs ys:List V}(h:nE K H1 a xs)(h':nE K H1 b ys):Walk (Itz K a b) H1 (min xs.length ys.length) (λ i v H=>∃T x y,v= .ref T/\xs[i]? =some x/\ys[i]? =some y/\H T=some (.tup [x,y])) where
 go:=λ i H hi sm=>⟨xs,ys,xs[i],ys[i],sm.seq h,sm.seq h',af (by omega),af (by omega)⟩
 G8:=λ i H x H' hi sm y=>by
  obtain⟨T,z,z',rfl,hT,rfl,y,y'⟩:=y
  exact⟨⟨T,z,z',rfl,y xs (sm.seq h),y' ys (sm.seq h'),mZ⟩,m7.new hT⟩
 stop:=λ H sm=>⟨xs,ys,sm.seq h,sm.seq h',by omega⟩
theorem XR{J:It}{H1:Hp}{n:Nat}{F:Nat->V->Hp->Prop}{g:TG}{tt:TT}{te:TE}{vs:List Nat}{σ:L2.St}{Q:ag->Hp->Prop}(W:Walk J H1 n F)(ys:List (Option V))(hlen:ys.length=n)(hz:n<=ay)
  (hs:∀i x y H (R:V->Hp->Prop) (N:Hp->Prop),ys[i]? =some y->m7 H1 H->F i x H->(∀z,y=some z->∀H4,m7 H H4->R z H4)->(y=none->∀H4,m7 H H4->N H4)->g x (wipe σ vs) H λ σ2 H2=>wipe σ2 vs=wipe σ vs/\tt σ2 H2 λ b H3=>if b=true then te σ2 H3 R else N H3)
  (fin:∀D H,H1 D=none->m7 H1 H->H D=some (.lst (ys.filterMap id))->Q D H)(D:ag)(hD:H1 D=none):
  ∃W:Nat->Nat->Hp->Prop,(∃m,W 0 m (upd H1 D (.lst [])))/\∀i m H,W i m H->
   (J.stop i H/\Q D H)\/(J.go i H/\∃Nx:Hp->Prop,(∀H',Nx H'->∃m',m'<m/\W (i+1) m' H')/\∀x H',J.G8 i H x H'->g x (wipe σ vs) H' λ σ2 H2=>wipe σ2 vs=wipe σ vs/\tt σ2 H2 λ b H3=>
    if b=true then te σ2 H3 λ y H4=>∃acc,H4 D=some (.lst acc)/\acc.length<ay/\Nx (upd H4 D (.lst (acc++[y])))else Nx H3):=by
 refine⟨λ i m H=>m=n-i/\i<=n/\m7 H1 H/\H D=some (.lst ((ys.take i).filterMap id)),⟨n,by omega,aE _,λ b o e=>by rw[m4 (nG e hD)];exact e,mZ⟩,?_⟩
 rintro i m H ⟨rfl,hi,sm,hd⟩
 by_cases rN:i<n
 ·refine .inr ⟨W.go i H rN sm,λ H'=>i+1<=n/\m7 H1 H'/\H' D=some (.lst ((ys.take (i+1)).filterMap id)),λ H' z=>⟨n-(i+1),by omega,rfl,z⟩,λ x H' y=>?_⟩
  obtain⟨hF,wc⟩:=W.G8 i H x H' rN sm y
  have hy:ys[i]? =some ys[i]:=af (by omega)
  have ht:ys.take (i+1)=ys.take i++[ys[i]]:=by rw[bZ,hy];rfl
  have hl:((ys.take i).filterMap id).length<=i:=aT (List.length_filterMap_le _ _) (by rw[bW];omega)
  refine hs i x _ H' _ _ hy (sm.trans wc) hF (λ z ez H4 Nm=>?_) λ ez H4 Nm=>?_
  ·have hd4:H4 D=some (.lst ((ys.take i).filterMap id)):=Nm _ _ (wc _ _ hd)
   refine⟨_,hd4,by omega,rN,λ b o e=>?_,?_⟩
   ·rw[m4 (nG e hD)];exact Nm _ _ (wc _ _ (sm _ _ e))
   ·rw[mZ,ht,g0,ez];rfl
  ·refine⟨rN,sm.trans (wc.trans Nm),?_⟩
   rw[Nm _ _ (wc _ _ hd),ht,g0,ez]
   show _=some (HO.lst (_++[]))
   rw[bD]
 ·have e:i=n:=by omega
  subst e
  refine .inl ⟨W.stop H sm,fin D H hD sm ?_⟩
  rw[hd,cq (by omega)]
theorem Va(K:ah){X:Cx}{o e:bJ}{to:TE}{t:TA}{apos xC:Pos}(ho:PE X o to)(ha:PA X [e] t)(hK:X.K=K:=by rfl)
  (Hg:dN o "count" X.env (cu o X.env)=cu o X.env:=by rfl)
  (abH:((c7 xC (aN [e] X.env)).all (λ x=> !x.1) && (hZ xC (ff [] X.env)).all (λ x=>x.1.isSome)
   && decide (([e]:List bJ).length+([]:List kS).length+(if([]:List kS).isEmpty then 0 else 1)<30))=true:=by rfl)
  (Hh:(apos.endLine == xC.line)=true:=by rfl)(hs:aN [e] X.env=(false,cu e X.env)::aN [] X.env:=by rfl):
  PE X (.Call (.Attribute o "count" apos) [e] [] xC) (tBM K "list" (XM K) to t):=by
 subst hK;exact qT aG PySem.F.slot_list_count PySem.F.type_list_count Q0 ho ha Hg abH Hh hs rfl
theorem aaj(K:ah){X:Cx}{e:bJ}{t:TA}{p pos:Pos}(hc:X.calm=true)(hg:Gl X "max")(hm:X.mg "max"=none)(ha:PA X [e] t)(hK:X.K=K:=by rfl)(he:aN [e] X.env=(false,cu e X.env)::aN [] X.env:=by rfl):
  PE X (.Call (.Name "max" p) [e] [] pos) (tCB (adn K) t):=by
 subst hK;exact nM (Ql hc) hg hm lx ha (by decide) (by decide) he rfl
theorem Vb(K:ah){X:Cx}(hK:X.K=K:=by rfl):Ea X (cR .NotIn) (rIn K true):=by
 subst hK;exact uG
end L2
namespace L2
theorem m7.put{H H':Hp}(sm:m7 H H'){p:ag}{o:HO}(h:H p=none):m7 H (upd H' p o):=λ b u e=>by
 rw[m4 (nG e h)];exact sm b u e
end L2
namespace oh
def bump(d:List Nat)(c:Nat):List Nat:=d.set c (d.getD c 0+1)
def wD(d l:List Nat):List Nat:=l.foldl bump d
theorem pX(d:List Nat)(c:Nat):(bump d c).length=d.length:=by unfold bump;rw[fJ]
theorem ER:∀(l d:List Nat),(wD d l).length=d.length
 |[],_=>rfl
 |c::l,d=>by show(wD (bump d c) l).length=_;rw[ER l,pX]
def uD:List Nat->List Nat->Prop
 |_,[]=>True
 |d,c::l=>c<d.length/\d.getD c 0<20/\uD (bump d c) l
def qa(f:ae):List Nat->List Nat->List Nat
 |_,[]=>[]
 |d,c::l=>c8 f c (d.getD c 0)::qa f (bump d c) l
theorem xM(f:ae):∀(l d:List Nat),(qa f d l).length=l.length
 |[],_=>rfl
 |c::l,d=>by show(qa f (bump d c) l).length+1=_;rw[xM f l];rfl
theorem getD_at{d:List Nat}{c:Nat}(h:c<d.length):d[c]? =some (d.getD c 0):=by
 rw[aB,af h];rfl
theorem yw{α:Type}{l:List α}{i:Nat}{c:α}(h:l[i]? =some c):l.drop i=c::l.drop (i+1):=by
 obtain⟨hi,e⟩:=List.getElem?_eq_some_iff.mp h
 rw[d9 hi,e]
theorem GY{f:ae}{H:Hp}{as:List ag}{c n:Nat}(hT:TabsAt H as (n9 f))(hc:c<f.cells.length)(hn:n<20):
  ∃b t,(as.map V.ref)[c]? =some (V.ref b)/\H b=some (.lst (nX t))/\t[n]? =some (cY f c n)/\t[n+1]? =some (cY f c (n+1))/\((cY f c n:Nat):Int)-((cY f c (n+1):Nat):Int)=((c8 f c n:Nat):Int):=by
 have ec:f.cells[c]? =some f.cells[c]:=af hc
 have q2:(n9 f)[c]? =some (rG f.cells[c].weight f.cells[c].finds f.parts):=by
  unfold n9
  rw[ak,ec];rfl
 have q3:as[c]? =some (as[c]'(by rw[hT.1,pO];exact hc)):=af _
 refine⟨_,_,by rw[ak,q3];rfl,hT.2 c _ _ q3 q2,?_,?_,?_⟩
 ·rw[wA ec];exact vB (by omega)
 ·rw[wA ec];exact vB (by omega)
 ·have le:cY f c (n+1)<=cY f c n:=A3 (by omega) hc
  unfold c8;rw[Int.ofNat_sub le]
def Io:Sp:=λ vs H Q _=>∃(a:ag) (t:List Nat) (n x y:Nat),vs=[.ref a,.int (n:Nat)]/\H a=some (.lst (nX t))/\t[n]? =some x/\t[n+1]? =some y/\Q (.int ((x:Int)-(y:Int))) H
abbrev Vc:List Str:=["table","efforts"]
theorem Ip:m9 Vc ["table","efforts"] (m5 Es):=qh
theorem Ra(F:pI K "next_adds" "next_adds" Es f fd):nQ P w K mg base oG 1 f fd ["table","efforts"] Io:=by
 refine F.ok Ip (λ vs H Q E h=>?_) (λ oW A outer s H vs Q E hr h=>?_)
 ·obtain⟨a,t,n,x,y,rfl,_⟩:=h
  rfl
 ·obtain⟨a,t,n,x,y,rfl,h1,h2,h3,k⟩:=h
  have nd:=Ip.nd
  refine⟨_,(m6 (nj (oj sG (o_ og (pv 0) (pv 1) (λ _ _=>rfl)) (o_ og (pv 0) (oj qV (pv 1) nO) (λ _ _=>rfl))))),?_⟩
  exact⟨_,rfl,_,rfl,a,_,_,_,rfl,rfl,nE.of h1,ot (oU h2),_,rfl,_,rfl,_,_,rfl,rfl,a,_,_,_,rfl,rfl,nE.of h1,ot (oU h3),_,_,rfl,rfl,k⟩
def FD:Sp:=λ vs H Q _=>∃(a b o:ag) (as:List ag) (f:ae) (d l:List Nat),vs=[.ref a,.ref b,.ref o]/\H a=some (.lst (as.map V.ref))/\TabsAt H as (n9 f)/\H b=some (.lst (nX d))/\H o=some (.lst (nX l))/\d.length=f.cells.length/\l.length<=1000/\uD d l/\GG H Q (nX (qa f d l))
abbrev Rb:List Str:=["tables","had","order","now","adds","cell"]
theorem FE:m9 Rb ["tables","had","order"] (m5 BL):=qh
abbrev Hz7(P:aJ)(w:aY)(K:ah)(mg:Str->Option ao)(base:bz):Prop:=rB P w K mg base oG 1 "next_adds" ["table","efforts"] Io
theorem Ov(F:pI K "order_adds" "order_adds" BL f fd)(ES:mg "list"=none)(pJ:Hz7 P w K mg base):nQ P w K mg base oG 2 f fd ["tables","had","order"] FD:=by
 refine F.ok FE (λ vs H Q E h=>?_) (λ oW A outer s H vs Q E hr h=>?_)
 ·obtain⟨a,b,o,as,f,d,l,rfl,_⟩:=h
  rfl
 ·obtain⟨a,b,o,as,f,d,l,rfl,ha,hT,hb,ho,hd,hl,oX,k⟩:=h
  have nd:=FE.nd
  refine⟨_,(mX (m8 (i:=3) nd rfl (Or.inl rfl) (sr xS rfl ES kD (mW (pv 1) mY)))
   (mX (m8 (i:=4) nd rfl (Or.inl rfl) (nP mY))
   (mX (qB PassesOwn.never rfl (oM (pv 2)) (nA (i:=5) nd rfl (Or.inl rfl)) (mX (n_ (qT aG bc a_ pF (pv 4) (mW (nv (E:=E0) pJ hr (by decide) nr (mW (o_ og (pv 0) (pv 5) (λ _ _=>rfl)) (mW (o_ og (pv 3) (pv 5) (λ _ _=>rfl)) mY))) mY)))
   (m6 (AQ (pv 3) (pv 5) xJ nO zG set_list))))
   (m6 (nj (pv 4)))))),?_⟩
  refine⟨_,rfl,b,_,rfl,.inl (nE.of hb),λ nw Zb=>?_⟩
  refine⟨aE _,λ ad had=>?_⟩
  have s1:m7 H (upd H nw (.lst (nX d))):=m7.new Zb
  have acn:nw≠ad:=λ q=>by rw[<-q,mZ]at had;cases had
  have aco:H ad=none:=by
   cases q:H ad with
   |none=>rfl
   |some z=>rw[s1 _ _ q]at had;cases had
  have s2:m7 H (upd (upd H nw (.lst (nX d))) ad (.lst [])):=s1.put aco
  refine⟨_,rfl,o,rfl,⟨_,nE.of (s2 _ _ ho)⟩,rh (K:=K) (a:=o) (xs:=nX l) (λ i σ H'=>∃(v5:Option V) (D A:List Nat),σ=[some (.ref a),some (.ref b),some (.ref o),some (.ref nw),some (.ref ad),v5]/\m7 H H'/\H' nw=some (.lst (nX D))/\H' ad=some (.lst (nX A))/\qa f d l=A++qa f D (l.drop i)/\uD D (l.drop i)/\D.length=d.length/\A.length=i)
   ⟨none,d,[],rfl,s2,by rw[m4 acn,mZ],mZ,rfl,oX,rfl,rfl⟩ (λ i σ H' _ ⟨_,_,_,_,sm,_⟩=>nE.of (sm _ _ ho)) ?_ ?_⟩
  ·rintro i x σ H' hx ⟨v5,D,A,rfl,sm,hD,hA,eq,ok,Ow,hAl⟩
   obtain⟨c,q,rfl⟩:=ou hx
   have hi:i<l.length:=(List.getElem?_eq_some_iff.mp q).1
   rw[yw q]at eq ok
   obtain⟨o1,o2,o3⟩:=ok
   obtain⟨tb,t,t1,t2,t3,t4,t5⟩:=GY (hT.same sm) (show c<f.cells.length by omega) o2
   have gd:=getD_at o1
   refine⟨_,rfl,.inl ⟨rfl,_,nE.of hA⟩,_,rfl,_,rfl,a,_,_,_,rfl,rfl,nE.of (sm _ _ ha),ot t1,_,rfl,_,rfl,nw,_,_,_,rfl,rfl,nE.of hD,ot (oU gd),tb,t,_,_,_,rfl,t2,t3,t4,ad,_,_,rfl,rfl,hA,(by rw[m_,aA];omega),?_⟩
   rw[t5]
   have hD1:(upd H' ad (.lst (nX A++[V.int (c8 f c (D.getD c 0):Nat)]))) nw=some (.lst (nX D)):=by rw[m4 acn];exact hD
   refine⟨_,rfl,_,rfl,nw,_,c,_,rfl,rfl,nE.of hD1,oU gd,_,_,rfl,rfl,nw,_,_,c,rfl,rfl,hD1,yp (by rw[m_];exact o1),?_⟩
   refine⟨_,bump D c,A++[c8 f c (D.getD c 0)],rfl,(sm.put aco).put Zb,?_,?_,?_,o3,by rw[pX,Ow],by rw[aw,hAl];rfl⟩
   ·rw[mZ];unfold nX bump;rw[fS];rfl
   ·rw[m4 (Ne.symm acn),mZ];unfold nX;rw[aF];rfl
   ·rw[eq,bB];rfl
  ·rintro σ H' ⟨v5,D,A,rfl,sm,hD,hA,eq,ok,Ow,hAl⟩
   rw[m_,ft]at eq
   have e:qa f d l=A:=by rw[eq];exact bD _
   rw[e]at k
   exact⟨_,rfl,k H' ad sm aco hA⟩
def Mo:Sp:=λ vs H Q _=>∃(o:ag) (zs:List Int) (n:Nat),vs=[.ref o,.int (n:Nat)]/\H o=some (.lst (iL zs))/\n<=16/\GG H Q (nX ((az n).map λ(c:Nat)=>zs.count (c:Int)))
abbrev XS:List Str:=["order","many_cells","cell"]
theorem Tv:m9 XS ["order","many_cells"] (m5 LX):=qh
theorem aak(F:pI K "row_of" "row_of" LX f fd)(qO:mg "range"=none):nQ P w K mg base oG 1 f fd ["order","many_cells"] Mo:=by
 refine F.ok Tv (λ vs H Q E h=>?_) (λ oW A outer s H vs Q E hr h=>?_)
 ·obtain⟨o,zs,n,rfl,_⟩:=h
  rfl
 ·obtain⟨o,zs,n,rfl,ho,hn,k⟩:=h
  have nd:=Tv.nd
  refine⟨_,(m6 (nj (qt (own:=[("cell",2)]) rfl nd (xx rfl qO (mW (pv 1) mY)) (by exact pC.of (N:=XS) (sc:=m5 LX) (by decide +kernel)) (λ _ _ _ _ _=>by exact(nA (i:=2) nd rfl (Or.inl rfl))) (λ _ _ _ _ _=>by exact oR) (λ _ _ _ _ _=>by exact(Va K (pv 0) (mW (pv 2) mY)))))),?_⟩
  refine⟨_,rfl,(n:Int),rfl,by omega,by omega,?_⟩
  refine oY (tN 0 _) (nX ((az n).map λ(c:Nat)=>zs.count (c:Int))) (by rw[m_,aa,aR];rfl) (by rw[aA];show n<=_;omega) (λ j x y H3 R3 N3 hy pG hF kk=>?_) (λ D H3 hD pG uC=>k H3 D pG hD uC)
  obtain⟨c,q,rfl⟩:=ou hy
  have hj:j<n:=by
   have:=(List.getElem?_eq_some_iff.mp q).1
   simpa using this
  rw[ak,bf hj]at q
  have q:zs.count (j:Int)=c:=Option.some.inj q
  subst q
  have e:(0:Int)+(j:Int)=(j:Int):=Int.zero_add _
  rw[e]at hF
  subst hF
  exact⟨rfl,sD ⟨_,rfl,.inl ⟨rfl,_,nE.of (pG _ _ ho)⟩,_,rfl,o,zs,_,rfl,rfl,nE.of (pG _ _ ho),kk H3 (m7.refl _)⟩⟩
def acp(o:Option Nat):V:=match o with |none=>.qA|some c=>.int (c:Nat)
def Mp(f:ae)(d:List Nat)(c:Nat):Option Nat×Nat:=(if d.getD c 0<20 then some (c8 f c (d.getD c 0))else none,c)
def bestOf(f:ae)(d cs:List Nat):Option Nat:=(tE (cs.map (Mp f d))).map λ y=>y.1
theorem FF(f:ae)(d:List Nat):(fk f d).zipIdx=(az d.length).map (Mp f d):=by
 apply bO
 intro i
 rw[bQ,ak]
 by_cases hi:i<d.length
 ·rw[bf hi,HW (getD_at hi)]
  show some (_,0+i)=some (_,i)
  rw[cW]
 ·rw[aI (by rw[EL];omega),aI (by rw[aR];omega)]
  rfl
theorem XT(f:ae)(d:List Nat):bestOf f d (az d.length)=fW (fk f d):=by
 unfold bestOf
 rw[wC,FF]
def gV(o:Option (Nat×Nat)):V:=acp (o.map λ y=>y.1)
def Co:Sp:=λ vs H Q _=>∃(a b e:ag) (as:List ag) (f:ae) (d cs:List Nat),vs=[.ref a,.ref b,.ref e]/\H a=some (.lst (as.map V.ref))/\TabsAt H as (n9 f)/\H b=some (.lst (nX d))/\H e=some (.lst (nX cs))/\d.length=f.cells.length/\(∀c∈cs,c<d.length)/\Q (acp (bestOf f d cs)) H
abbrev Vd:List Str:=["tables","had","cells","best","most","cell","adds"]
theorem Iq:m9 Vd ["tables","had","cells"] (m5 Et):=qh
theorem Rc(F:pI K "best_cell" "best_cell" Et f fd)(nB:oF mg "MOST_EFFORTS" 20)(pJ:Hz7 P w K mg base):nQ P w K mg base oG 2 f fd ["tables","had","cells"] Co:=by
 refine F.ok Iq (λ vs H Q E h=>?_) (λ oW A outer s H vs Q E hr h=>?_)
 ·obtain⟨a,b,e,as,f,d,cs,rfl,_⟩:=h
  rfl
 ·obtain⟨a,b,e,as,f,d,cs,rfl,ha,hT,hb,he,hd,Mg,k⟩:=h
  have nd:=Iq.nd
  refine⟨_,(mX (m8 (i:=3) nd rfl (Or.inl rfl) zE)
   (mX (m8 (i:=4) nd rfl (Or.inl rfl) (Sx LB nO))
   (mX (qB PassesOwn.never rfl (oM (pv 2)) (nA (i:=5) nd rfl (Or.inl rfl)) (m6 (pj (oq G_ (o_ og (pv 1) (pv 5) (λ _ _=>rfl)) (nU nB) (oK _)) (mX (m8 (i:=6) nd rfl (Or.inl rfl) (nv (E:=E0) pJ hr (by decide) nr (mW (o_ og (pv 0) (pv 5) (λ _ _=>rfl)) (mW (o_ og (pv 1) (pv 5) (λ _ _=>rfl)) mY))))
   (m6 (pj (oq Bj (pv 6) (pv 4) (oK _)) (mX (m8 (i:=3) nd rfl (Or.inl rfl) (pv 5))
   (m6 (m8 (i:=4) nd rfl (Or.inl rfl) (pv 6)))) nZ))) nZ)))
   (m6 (nj (pv 3)))))),?_⟩
  refine⟨_,rfl,_,rfl,e,rfl,⟨_,nE.of he⟩,rh (K:=K) (a:=e) (xs:=nX cs) (λ i σ H'=>∃(o5 o6:Option V),σ=[some (.ref a),some (.ref b),some (.ref e),some (gV (tE ((cs.take i).map (Mp f d)))),some (.int (gM (tE ((cs.take i).map (Mp f d))))),o5,o6]/\H'=H)
   ⟨none,none,rfl,rfl⟩ (λ i σ H' _ ⟨_,_,_,e⟩=>by rw[e];exact nE.of he) ?_ ?_⟩
  ·rintro i x σ H' hx ⟨o5,o6,rfl,rfl⟩
   obtain⟨c,q,rfl⟩:=ou hx
   have hc:c<d.length:=Mg c (aC q)
   have gd:=getD_at hc
   have gs:tE ((cs.take (i+1)).map (Mp f d))=FA (tE ((cs.take i).map (Mp f d))) (Mp f d c):=by
    rw[bZ,q,aF];exact QR _ _
   refine⟨_,rfl,_,rfl,b,_,_,_,rfl,rfl,nE.of hb,ot (oU gd),_,_,rfl,rfl,_,rfl,p_ (λ hq=>?_) λ hq=>?_⟩
   ·have hq:((d.getD c 0:Nat):Int)<20:=of_decide_eq_true hq
    have hn:d.getD c 0<20:=by omega
    have go:Mp f d c=(some (c8 f c (d.getD c 0)),c):=by unfold Mp;rw[if_pos hn]
    rw[go,yo]at gs
    obtain⟨tb,t,t1,t2,t3,t4,t5⟩:=GY hT (show c<f.cells.length by omega) hn
    refine⟨_,rfl,_,rfl,a,_,_,_,rfl,rfl,nE.of ha,ot t1,_,rfl,_,rfl,b,_,_,_,rfl,rfl,nE.of hb,ot (oU gd),tb,t,_,_,_,rfl,t2,t3,t4,?_⟩
    rw[t5]
    refine⟨_,rfl,_,rfl,_,_,rfl,rfl,_,rfl,p_ (λ hg=>?_) λ hg=>?_⟩
    ·have hg:=of_decide_eq_true hg
     rw[if_pos hg]at gs
     rw[gs]
     exact⟨_,rfl,_,rfl,_,_,rfl,rfl⟩
    ·have hg:=λ q=>hg (decide_eq_true q)
     rw[if_neg hg]at gs
     rw[gs]
     exact⟨_,_,rfl,rfl⟩
   ·have hq:¬ ((d.getD c 0:Nat):Int)<20:=λ q=>hq (decide_eq_true q)
    have go:Mp f d c=(none,c):=by unfold Mp;rw[if_neg (by omega)]
    rw[go,yn]at gs
    rw[gs]
    exact⟨_,_,rfl,rfl⟩
  ·rintro σ H' ⟨o5,o6,rfl,rfl⟩
   rw[m_,dj]
   exact⟨_,rfl,k⟩
theorem Dy{d:List Nat}{c n:Nat}(wg:∀n∈d,n<=20)(hc:d.getD c 0<20)(h:n∈bump d c):n<=20:=by
 unfold bump at h
 rcases gm h with q|q
 ·exact wg n q
 ·omega
theorem Ir{d:List Nat}{c:Nat}(hc:c<d.length):aZ (bump d c)=aZ d+1:=by
 have:=EM d c _ (d.getD c 0+1) (getD_at hc)
 unfold bump;omega
theorem A5{d:List Nat}{c:Nat}(hc:c<d.length)(i:Nat):(bump d c).getD i 0=if i=c then d.getD c 0+1 else d.getD i 0:=by
 unfold bump
 rw[aB,dY]
 by_cases e:c=i
 ·subst e;rw[if_pos rfl,if_pos hc,if_pos rfl];rfl
 ·rw[if_neg e,if_neg (Ne.symm e),aB]
theorem XU{f:ae}{d:List Nat}{c m:Nat}(hc:c<d.length):left f (d.set c m)+cY f c (d.getD c 0)=left f d+cY f c m:=by
 have e:(d.set c m).zipIdx.map (λ x=>cY f x.2 x.1)=(d.zipIdx.map λ x=>cY f x.2 x.1).set c (cY f c m):=by
  apply bO
  intro i
  rw[ak,bQ,dY,dY,ak,bQ,aa,dP]
  by_cases e:c=i
  ·subst e;rw[if_pos rfl,if_pos rfl,if_pos hc,if_pos hc];simp
  ·rw[if_neg e,if_neg e]
 unfold lM
 rw[e]
 refine EM _ c _ _ ?_
 rw[ak,bQ,getD_at hc];simp
theorem ET{f:ae}{d:List Nat}{c:Nat}(hc:c<d.length)(hd:d.length=f.cells.length)(hn:d.getD c 0<20):left f (bump d c)+c8 f c (d.getD c 0)=left f d:=by
 have h:=XU (f:=f) (m:=d.getD c 0+1) hc
 have le:cY f c (d.getD c 0+1)<=cY f c (d.getD c 0):=A3 (by omega) (by omega)
 unfold bump c8
 omega
theorem tO{f:ae}:∀(l d:List Nat),d.length=f.cells.length->uD d l->left f (wD d l)+aZ (qa f d l)=left f d
 |[],d,_,_=>by show left f d+0=_;omega
 |c::l,d,hd,⟨h1,h2,h3⟩=>by
  have h:=ET (f:=f) h1 hd h2
  have ih:=tO (f:=f) l (bump d c) (by rw[pX,hd]) h3
  show left f (wD (bump d c) l)+aZ (c8 f c (d.getD c 0)::qa f (bump d c) l)=_
  rw[ow];omega
theorem yy:∀(l d:List Nat) (j:Nat),uD d l->uD d (l.take j)
 |[],d,j,_=>by rw[iC];trivial
 |c::l,d,0,_=>trivial
 |c::l,d,j+1,⟨h1,h2,h3⟩=>⟨h1,h2,yy l _ j h3⟩
theorem yz(f:ae):∀(l d:List Nat) (j:Nat),(qa f d l).take j=qa f d (l.take j)
 |[],d,j=>by rw[iC];show List.take j []=[];exact iC
 |c::l,d,0=>rfl
 |c::l,d,j+1=>by
  show c8 f c (d.getD c 0)::(qa f (bump d c) l).take j=c8 f c (d.getD c 0)::qa f (bump d c) (l.take j)
  rw[yz f l]
theorem A6:∀(l d:List Nat),uD d l->∀c∈l,c<d.length
 |[],d,_,c,h=>by cases h
 |x::l,d,⟨h1,h2,h3⟩,c,h=>by
  rcases List.mem_cons.mp h with q|q
  ·rw[q];exact h1
  ·have:=A6 l _ h3 c q
   rw[pX]at this;exact this
theorem Ox:∀(l d:List Nat),(∀n∈d,n<=20)->uD d l->∀n∈wD d l,n<=20
 |[],d,h,_=>h
 |c::l,d,h,⟨h1,h2,h3⟩=>Ox l (bump d c) (λ n hn=>Dy h h2 hn) h3
theorem Iu:∀(l d:List Nat) (i:Nat),(∀c∈l,c<d.length)->(wD d l).getD i 0=d.getD i 0+l.count i
 |[],d,i,_=>by show d.getD i 0=_;simp
 |c::l,d,i,h=>by
  have hc:c<d.length:=h c (by simp)
  show(wD (bump d c) l).getD i 0=_
  rw[Iu l (bump d c) i (λ x hx=>by rw[pX];exact h x (by simp[hx])),A5 hc,eM]
  by_cases e:i=c
  ·subst e;simp;omega
  ·rw[if_neg e]
   have:(c == i)=false:=by rw[beq_eq_false_iff_ne];exact Ne.symm e
   rw[this];simp
theorem Iv(l d:List Nat)(h:∀c∈l,c<d.length):wD d l=bC d ((az d.length).map λ c=>l.count c):=by
 apply bO
 intro i
 unfold bC
 rw[aP,ak]
 by_cases hi:i<d.length
 ·rw[getD_at (d:=wD d l) (by rw[ER];exact hi),Iu l d i h,getD_at hi,bf hi];rfl
 ·rw[aI (show d.length<=i by omega),aI (show(wD d l).length<=i by rw[ER];omega)]
theorem Iw(l d:List Nat)(h:∀c∈l,c<d.length):eN (wD d l) d=(az d.length).map λ c=>l.count c:=by
 rw[Iv l d h];exact EN _ _ (by simp)
theorem Iy(l d:List Nat)(h:∀c∈l,c<d.length):bC d (eN (wD d l) d)=wD d l:=by
 rw[Iw l d h,Iv l d h]
def oP(f:ae):Nat->List Nat->List Nat
 |0,_=>[]
 |k+1,d=>match fW (fk f d)with
  |some c=>c::oP f k (bump d c)
  |none=>[]
theorem tP{f:ae}:∀(k:Nat) (d:List Nat),(∀n∈d,n<=20)->aZ d+k<=20*d.length->(oP f k d).length=k/\uD d (oP f k d)/\∀j<=k,wD d ((oP f k d).take j)=jS f j d
 |0,d,_,_=>⟨rfl,trivial,λ j hj=>by
   have e:j=0:=by omega
   subst e;rfl⟩
 |k+1,d,wg,ht=>by
  obtain⟨c,n,g1,g2,g3⟩:=Bo (f:=f) wg (by omega)
  have hc:c<d.length:=(List.getElem?_eq_some_iff.mp g2).1
  have gd:d.getD c 0=n:=by rw[aB,g2];rfl
  have e:oP f (k+1) d=c::oP f k (bump d c):=by
   show(match fW (fk f d)with |some c=>c::oP f k (bump d c)|none=>[])=_
   rw[g1]
  obtain⟨h1,h2,h3⟩:=tP (f:=f) k (bump d c) (λ m hm=>Dy wg (by omega) hm) (by rw[Ir hc,pX];omega)
  rw[e]
  refine⟨by rw[aD,h1],⟨hc,by omega,h2⟩,λ j hj=>?_⟩
  cases j with
  |zero=>rfl
  |succ j=>
   rw[UU g1]
   exact h3 j (by omega)
theorem KS{f:ae}{d:List Nat}{k j:Nat}(hd:d.length=f.cells.length)(wg:∀n∈d,n<=20)(ht:aZ d+k<=20*d.length)(hj:j<=k):
  dQ f d (eN (jS f j d) d)=mI (aZ ((qa f d (oP f k d)).take j)) (left f d):=by
 obtain⟨h1,h2,h3⟩:=tP (f:=f) k d wg ht
 have h4:=h3 j hj
 have ok:=yy _ _ j h2
 have lb:=tO (f:=f) _ d hd ok
 unfold dQ
 rw[<-h4,Iy _ _ (A6 _ _ ok),yz]
 congr 1;omega
theorem KU{f:ae}{d:List Nat}{k j:Nat}(hd:d.length=f.cells.length)(wg:∀n∈d,n<=20)(ht:aZ d+k<=20*d.length)(hj:j<k):
  gg f d j=mI ((qa f d (oP f k d)).getD j 0) (left f d)/\(qa f d (oP f k d))[j]? =some ((qa f d (oP f k d)).getD j 0):=by
 obtain⟨h1,h2,h3⟩:=tP (f:=f) k d wg ht
 have ga:(qa f d (oP f k d))[j]? =some ((qa f d (oP f k d)).getD j 0):=getD_at (by rw[xM,h1];exact hj)
 refine⟨?_,ga⟩
 have a1:=tO (f:=f) _ d hd (yy _ _ j h2)
 have a2:=tO (f:=f) _ d hd (yy _ _ (j+1) h2)
 rw[h3 j (by omega),<-yz]at a1
 rw[h3 (j+1) (by omega),<-yz,bZ,ga,j7,Cf]at a2
 unfold gg
 congr 1;omega
theorem Iz:∀(l:List Nat) (j:Nat),l.getD j 0<=aZ l
 |[],j=>by simp
 |a::l,0=>by rw[ow];show a<=_;omega
 |a::l,j+1=>by rw[ow];have:=Iz l j;show l.getD j 0<=_;omega
theorem none_of{H H':Hp}{p:ag}(sm:m7 H H')(h:H' p=none):H p=none:=by
 cases q:H p with
 |none=>rfl
 |some z=>rw[sm _ _ q]at h;cases h
theorem Tw{x y z:Int}{H:Hp}{Q:VK}(e:x+y=z)(k:Q (.int z) H):ipI (λ i j=>i+j) (.int x) (.int y) H Q:=⟨x,y,rfl,rfl,by show Q (.int (x+y)) H;rw[e];exact k⟩
theorem Mq{x y z:Int}{H:Hp}{Q:VK}(e:x-y=z)(k:Q (.int z) H):ipI (λ i j=>i-j) (.int x) (.int y) H Q:=⟨x,y,rfl,rfl,by show Q (.int (x-y)) H;rw[e];exact k⟩
def FG:Sp:=λ vs H Q _=>∃(a b:ag) (as:List ag) (f:ae) (d:List Nat) (k:Nat),vs=[.ref a,.ref b,.int (k:Nat)]/\FW f/\H a=some (.lst (as.map V.ref))/\TabsAt H as (n9 f)/\H b=some (.lst (nX d))/\d.length=f.cells.length/\(∀n∈d,n<=20)/\aZ d+k<=20*d.length/\GG H Q (nX (oP f k d))
abbrev Rf:List Str:=["tables","had","many","cells","now","dealt","cell"]
theorem FH:m9 Rf ["tables","had","many"] (m5 BM):=qh
theorem Oy(F:pI K "best_cells" "best_cells" BM f fd)(ES:mg "list"=none)(qO:mg "range"=none)(pd:mg "len"=none)(rq:rB P w K mg base oG 2 "best_cell" ["tables","had","cells"] Co):nQ P w K mg base oG 3 f fd ["tables","had","many"] FG:=by
 refine F.ok FH (λ vs H Q E h=>?_) (λ oW A outer s H vs Q E hr h=>?_)
 ·obtain⟨a,b,as,f,d,many,rfl,_⟩:=h
  rfl
 ·obtain⟨a,b,as,f,d,many,rfl,W,ha,hT,hb,hd,tu,room,k⟩:=h
  have nd:=FH.nd
  refine⟨_,(mX (m8 (i:=3) nd rfl (Or.inl rfl) (XO rfl rfl ES rfl qO (mW (nM nN rfl pd aX (mW (pv 1) mY)) mY)))
   (mX (m8 (i:=4) nd rfl (Or.inl rfl) (sr xS rfl ES kD (mW (pv 1) mY)))
   (mX (m8 (i:=5) nd rfl (Or.inl rfl) (nP mY))
   (mX (rM PassesOwn.never (oq G_ (nM nN rfl pd aX (mW (pv 5) mY)) (pv 2) (oK _)) (mX (m8 (i:=6) nd rfl (Or.inl rfl) (nv (E:=E0) rq hr (by decide) nr (mW (pv 0) (mW (pv 4) (mW (pv 3) mY)))))
   (mX (n_ (qT aG bc a_ pF (pv 5) (mW (pv 6) mY)))
   (m6 (AQ (pv 4) (pv 6) xJ nO zG set_list)))))
   (m6 (nj (pv 5))))))),?_⟩
  have wB:=W.len
  refine⟨_,rfl,b,_,rfl,.inl (nE.of hb),d.length,by rw[m_],by omega,λ cl Ec=>?_⟩
  have s1:m7 H (upd H cl (.lst (nX (az d.length)))):=m7.new Ec
  refine⟨_,rfl,b,_,rfl,.inl (nE.of (s1 _ _ hb)),λ nw Zb=>?_⟩
  have XX:=none_of s1 Zb
  have ncn:cl≠nw:=λ q=>by rw[<-q]at Zb;exact absurd (Zb.symm.trans mZ) (by intro z;cases z)
  refine⟨aE _,λ dl hdl=>?_⟩
  have s2:m7 H (upd (upd H cl (.lst (nX (az d.length)))) nw (.lst (nX d))):=s1.put XX
  have acq:=none_of s2 hdl
  have ndn:dl≠nw:=λ q=>by rw[q]at hdl;exact absurd (hdl.symm.trans mZ) (by intro z;cases z)
  have ndc:dl≠cl:=λ q=>by rw[q]at hdl;exact absurd (hdl.symm.trans ((m4 ncn).trans mZ)) (by intro z;cases z)
  refine⟨λ m σ H'=>∃(v6:Option V) (D A:List Nat),σ=[some (.ref a),some (.ref b),some (.int (many:Nat)),some (.ref cl),some (.ref nw),some (.ref dl),v6]/\m7 H H'/\H' cl=some (.lst (nX (az d.length)))/\H' nw=some (.lst (nX D))/\H' dl=some (.lst (nX A))/\D.length=d.length/\(∀n∈D,n<=20)/\aZ D=aZ d+A.length/\A.length<=many/\m=many-A.length/\oP f many d=A++oP f (many-A.length) D,
   ⟨many,none,d,[],rfl,s2.put acq,?_,?_,mZ,rfl,tu,rfl,aE _,rfl,rfl⟩,?_⟩
  ·rw[m4 (Ne.symm ndc),m4 ncn,mZ]
  ·rw[m4 (Ne.symm ndn),mZ]
  rintro m σ H' ⟨v6,D,A,rfl,sm,hC,hD,hA,Ow,D20,tD,hAm,rfl,heq⟩
  refine⟨_,rfl,dl,_,rfl,.inl (nE.of hA),_,rfl,_,_,rfl,rfl,_,rfl,?_⟩
  rw[m_]
  refine p_ (λ hc=>?_) λ hc=>?_
  ·have hc:((A.length:Nat):Int)<(many:Int):=of_decide_eq_true hc
   obtain⟨c,n,g1,g2,g3⟩:=Bo (f:=f) D20 (by rw[tD,Ow];omega)
   have hcD:c<D.length:=(List.getElem?_eq_some_iff.mp g2).1
   have gd:D.getD c 0=n:=by rw[aB,g2];rfl
   have e:oP f (many-A.length) D=c::oP f (many-(A.length+1)) (bump D c):=by
    rw[show many-A.length=(many-(A.length+1))+1 by omega]
    show(match fW (fk f D)with |some c=>c::oP f _ (bump D c)|none=>[])=_
    rw[g1]
   refine⟨_,λ _ _ z=>z,_,rfl,_,rfl,_,rfl,a,nw,cl,as,f,D,az d.length,rfl,sm _ _ ha,hT.same sm,hD,hC,by rw[Ow,hd],λ x hx=>by rw[Ow];exact List.mem_range.mp hx,?_⟩
   have eb:bestOf f D (az d.length)=some c:=by rw[<-Ow,XT,g1]
   rw[eb]
   refine⟨_,rfl,.inl ⟨rfl,_,nE.of hA⟩,_,rfl,dl,_,_,rfl,rfl,hA,(by rw[m_,aA];have:=hd;omega),?_⟩
   have hD1:(upd H' dl (.lst (nX A++[V.int (c:Nat)]))) nw=some (.lst (nX D)):=by rw[m4 (Ne.symm ndn)];exact hD
   refine⟨_,rfl,_,rfl,nw,_,c,_,rfl,rfl,nE.of hD1,oU g2,_,_,rfl,rfl,nw,_,_,c,rfl,rfl,hD1,yp (by rw[m_];exact hcD),?_⟩
   refine⟨many-(A.length+1),by omega,_,bump D c,A++[c],rfl,(sm.put acq).put XX,?_,?_,?_,by rw[pX,Ow],λ m hm=>Dy D20 (by omega) hm,?_,?_,?_,?_⟩
   ·rw[m4 ncn,m4 (Ne.symm ndc)];exact hC
   ·rw[mZ];unfold nX bump;rw[fS,gd];rfl
   ·rw[m4 ndn,mZ];unfold nX;rw[aF];rfl
   ·rw[Ir hcD,aw,tD];rfl
   ·rw[aw];show A.length+1<=many;omega
   ·rw[aw];rfl
   ·rw[heq,e,aw,bB];rfl
  ·have hc:¬ ((A.length:Nat):Int)<(many:Int):=λ q=>hc (decide_eq_true q)
   have e:many-A.length=0:=by omega
   rw[e]at heq
   have e2:oP f many d=A:=by rw[heq];exact bD _
   rw[e2]at k
   exact⟨_,rfl,k H' dl sm acq hA⟩
theorem Bq:∀(l:List Nat) (i:Nat),aZ (l.take i)<=aZ l
 |[],i=>by rw[iC];exact ax _
 |a::l,0=>aE _
 |a::l,i+1=>by rw[List.take_succ_cons,ow,ow];have:=Bq l i;omega
def A7(f:ae)(d:List Nat)(n:Nat):List Nat:=(az n).flatMap λ j=>qL (dQ f d (eN (jS f j d) d))
theorem yA(f:ae)(d:List Nat)(n:Nat):A7 f d (n+1)=A7 f d n++qL (dQ f d (eN (jS f n d) d)):=by
 unfold A7
 rw[eI,ee];simp
theorem Af(f:ae)(d:List Nat):∀n,(A7 f d n).length=2*n
 |0=>rfl
 |n+1=>by rw[yA,aw,Af f d n];show 2*n+2=_;omega
def FJ:Sp:=λ vs H Q _=>∃(a b:ag) (as:List ag) (f:ae) (d:List Nat) (k:Nat),vs=[.ref a,.ref b,.int (k:Nat)]/\FW f/\H a=some (.lst (as.map V.ref))/\TabsAt H as (n9 f)/\H b=some (.lst (nX d))/\d.length=f.cells.length/\(∀n∈d,n<=20)/\aZ d+k<=20*d.length/\0<left f d/\GG H Q (nX (A7 f d (k+1)))
abbrev Rg:List Str:=["tables","had","many","left","so_far","curve","adds"]
theorem FK:m9 Rg ["tables","had","many"] (m5 BN):=qh
abbrev Hz8(P:aJ)(w:aY)(K:ah)(mg:Str->Option ao)(base:bz):Prop:=rB P w K mg base oG 2 "order_adds" ["tables","had","order"] FD
abbrev Hz9(P:aJ)(w:aY)(K:ah)(mg:Str->Option ao)(base:bz):Prop:=rB P w K mg base oG 3 "best_cells" ["tables","had","many"] FG
theorem Oz(F:pI K "best_curve" "best_curve" BN f fd)(oZ:Hz3 P w K mg base)(oy:Hz4 P w K mg base)(p7:Hz8 P w K mg base)(pT:Hz9 P w K mg base):nQ P w K mg base oG 4 f fd ["tables","had","many"] FJ:=by
 refine F.ok FK (λ vs H Q E h=>?_) (λ oW A outer s H vs Q E hr h=>?_)
 ·obtain⟨a,b,as,f,d,many,rfl,_⟩:=h
  rfl
 ·obtain⟨a,b,as,f,d,many,rfl,W,ha,hT,hb,hd,tu,room,h0,k⟩:=h
  have nd:=FK.nd
  refine⟨_,(mX (m8 (i:=3) nd rfl (Or.inl rfl) (nv (E:=E0) oZ hr (by decide) nr (mW (pv 0) (mW (pv 1) mY))))
   (mX (m8 (i:=4) nd rfl (Or.inl rfl) nO)
   (mX (m8 (i:=5) nd rfl (Or.inl rfl) (nv (E:=E0) oy hr (by decide) nr (mW (pv 4) (mW (pv 3) mY))))
   (mX (qB PassesOwn.never rfl (oM (nv (E:=E0) p7 hr (by decide) nr (mW (pv 0) (mW (pv 1) (mW (nv (E:=E0) pT hr (by decide) nr (mW (pv 0) (mW (pv 1) (mW (pv 2) mY)))) mY))))) (nA (i:=6) nd rfl (Or.inl rfl)) (mX (G7 (i:=4) nd rfl (Or.inl rfl) (pv 6) zG)
   (m6 (n_ (qT aG cT cS va (pv 5) (mW (nv (E:=E0) oy hr (by decide) nr (mW (pv 4) (mW (pv 3) mY))) mY))))))
   (m6 (nj (pv 5))))))),?_⟩
  have wB:=W.len
  have lb:=uf W hd tu
  obtain⟨q1,q2,q3⟩:=tP (f:=f) many d tu room
  have tb:aZ (qa f d (oP f many d))<=left f d:=by have:=tO (f:=f) _ d hd q2;omega
  have aea:many<=320:=by omega
  refine⟨_,rfl,_,rfl,a,b,as,n9 f,d,rfl,ha,hT,hb,by rw[pO,hd],by omega,A4 tu,λ H1 s1=>?_⟩
  rw[tM hd tu]
  refine⟨_,rfl,_,rfl,0,left f d,rfl,h0,lb,by omega,λ H2 cv s2 hcv adJ=>?_⟩
  have vD:=s1.trans s2
  refine⟨_,rfl,_,rfl,_,rfl,_,rfl,_,rfl,a,b,as,f,d,many,rfl,W,vD _ _ ha,hT.same vD,vD _ _ hb,hd,tu,room,λ H3 sq s3 Zc acr=>?_⟩
  have wF:=vD.trans s3
  refine⟨a,b,sq,as,f,d,_,rfl,wF _ _ ha,hT.same wF,wF _ _ hb,acr,hd,by rw[q1];omega,q2,λ H4 oa s4 hoa XY=>?_⟩
  have KW:=wF.trans s4
  have adK:H cv=none:=none_of s1 hcv
  have ae0:=s4 _ _ (s3 _ _ adJ)
  have nco:oa≠cv:=λ q=>by rw[q,s3 _ _ adJ]at hoa;cases hoa
  refine⟨oa,rfl,⟨_,nE.of XY⟩,rh (K:=K) (a:=oa) (xs:=nX (qa f d (oP f many d))) (λ i σ H'=>∃(v6:Option V),σ=[some (.ref a),some (.ref b),some (.int (many:Nat)),some (.int (left f d:Nat)),some (.int (aZ ((qa f d (oP f many d)).take i):Nat)),some (.ref cv),v6]/\i<=many/\m7 H H'/\H' oa=some (.lst (nX (qa f d (oP f many d))))/\H' cv=some (.lst (nX (A7 f d (i+1)))))
   ⟨none,rfl,aE _,KW,XY,?_⟩ (λ i σ H' _ ⟨_,_,_,_,q,_⟩=>nE.of q) ?_ ?_⟩
  ·rw[ae0,yA,KS hd tu room (aE _)];rfl
  ·rintro i x σ H' hx ⟨v6,rfl,him,sm,ho,hc⟩
   obtain⟨c,q,rfl⟩:=ou hx
   have hi:i<many:=by have:=(List.getElem?_eq_some_iff.mp q).1;rw[xM,q1]at this;exact this
   have e1:((aZ ((qa f d (oP f many d)).take i):Nat):Int)+(c:Int)=((aZ ((qa f d (oP f many d)).take (i+1)):Nat):Int):=by
    rw[bZ,q,j7,Cf];rfl
   refine⟨_,rfl,_,rfl,Tw e1 ?_⟩
   refine⟨_,rfl,.inl ⟨rfl,_,nE.of hc⟩,_,rfl,_,rfl,_,left f d,rfl,h0,lb,bH (aT (Bq _ _) tb) lb,λ H5 fr s5 JJ acs=>?_⟩
   refine⟨cv,fr,_,_,rfl,rfl,s5 _ _ hc,acs,?_,?_⟩
   ·rw[m_,Af,aA];show _+2<=_;omega
   ·refine⟨_,rfl,hi,(sm.trans s5).put adK,by rw[m4 nco];exact s5 _ _ ho,?_⟩
    rw[mZ,yA f d (i+1),KS hd tu room hi]
    unfold nX;rw[aF];rfl
  ·rintro σ H' ⟨v6,rfl,him,sm,ho,hc⟩
   rw[m_,xM,q1]at hc
   exact⟨_,rfl,k H' cv sm adK hc⟩
def FL:Sp:=λ vs H Q _=>∃(a b:ag) (as:List ag) (f:ae) (d:List Nat) (k:Nat),vs=[.ref a,.ref b,.int (k:Nat)]/\FW f/\H a=some (.lst (as.map V.ref))/\TabsAt H as (n9 f)/\H b=some (.lst (nX d))/\d.length=f.cells.length/\(∀n∈d,n<=20)/\aZ d+(k+1)<=20*d.length/\1<=k/\0<left f d/\GG H Q (nX (qL (gg f d (k-1))++qL (gg f d k)))
abbrev Rh:List Str:=["tables","had","many","left","adds"]
theorem FN:m9 Rh ["tables","had","many"] (m5 BO):=qh
theorem OA(F:pI K "best_price" "best_price" BO f fd)(oZ:Hz3 P w K mg base)(p7:Hz8 P w K mg base)(pT:Hz9 P w K mg base)(oy:Hz4 P w K mg base):nQ P w K mg base oG 4 f fd ["tables","had","many"] FL:=by
 refine F.ok FN (λ vs H Q E h=>?_) (λ oW A outer s H vs Q E hr h=>?_)
 ·obtain⟨a,b,as,f,d,many,rfl,_⟩:=h
  rfl
 ·obtain⟨a,b,as,f,d,many,rfl,W,ha,hT,hb,hd,tu,room,h1,h0,k⟩:=h
  have nd:=FN.nd
  refine⟨_,(mX (m8 (i:=3) nd rfl (Or.inl rfl) (nv (E:=E0) oZ hr (by decide) nr (mW (pv 0) (mW (pv 1) mY))))
   (mX (m8 (i:=4) nd rfl (Or.inl rfl) (nv (E:=E0) p7 hr (by decide) nr (mW (pv 0) (mW (pv 1) (mW (nv (E:=E0) pT hr (by decide) nr (mW (pv 0) (mW (pv 1) (mW (oj qV (pv 2) nO) mY)))) mY)))))
   (m6 (nj (oj qW (nv (E:=E0) oy hr (by decide) nr (mW (o_ og (pv 4) (oj sG (pv 2) nO) (λ _ _=>rfl)) (mW (pv 3) mY))) (nv (E:=E0) oy hr (by decide) nr (mW (o_ og (pv 4) (pv 2) (λ _ _=>rfl)) (mW (pv 3) mY)))))))),?_⟩
  have wB:=W.len
  have lb:=uf W hd tu
  obtain⟨q1,q2,q3⟩:=tP (f:=f) (many+1) d tu room
  have tb:aZ (qa f d (oP f (many+1) d))<=left f d:=by have:=tO (f:=f) _ d hd q2;omega
  obtain⟨a1,a2⟩:=KU (f:=f) (j:=many-1) hd tu room (by omega)
  obtain⟨b1,b2⟩:=KU (f:=f) (j:=many) hd tu room (by omega)
  have le:∀j,(qa f d (oP f (many+1) d)).getD j 0<=aZ (qa f d (oP f (many+1) d)):=Iz _
  rw[a1,b1]at k
  refine⟨_,rfl,_,rfl,a,b,as,n9 f,d,rfl,ha,hT,hb,by rw[pO,hd],by omega,A4 tu,λ H1 s1=>?_⟩
  rw[tM hd tu]
  refine⟨_,rfl,_,rfl,_,rfl,_,rfl,_,rfl,_,_,rfl,rfl,a,b,as,f,d,many+1,rfl,W,s1 _ _ ha,hT.same s1,s1 _ _ hb,hd,tu,room,λ H3 sq s3 Zc acr=>?_⟩
  have wF:=s1.trans s3
  refine⟨a,b,sq,as,f,d,_,rfl,wF _ _ ha,hT.same wF,wF _ _ hb,acr,hd,by rw[q1];omega,q2,λ H4 oa s4 hoa XY=>?_⟩
  have KW:=wF.trans s4
  have em:(many:Int)-1=((many-1:Nat):Int):=by omega
  refine⟨_,rfl,_,rfl,_,_,rfl,rfl,oa,_,_,_,rfl,rfl,nE.of XY,at_of em (oU a2),_,rfl,_,left f d,rfl,h0,lb,bH (aT (le _) tb) lb,λ H5 f1 s5 hf1 hf5=>?_⟩
  refine⟨_,rfl,_,rfl,oa,_,_,_,rfl,rfl,nE.of (s5 _ _ XY),ot (oU b2),_,rfl,_,left f d,rfl,h0,lb,bH (aT (le _) tb) lb,λ H6 f2 s6 hf2 hf6=>?_⟩
  have V_:=KW.trans (s5.trans s6)
  refine⟨f1,f2,_,_,rfl,rfl,s6 _ _ hf5,hf6,(by show 4<=ay;decide),λ p hp=>?_⟩
  exact k _ p (V_.put (none_of V_ hp)) (none_of V_ hp) (by rw[mZ];rfl)
end oh
namespace L2
def w8(x y:Int×Int):Prop:=x.1<y.1\/(x.1=y.1/\x.2<=y.2)
def XZ(K:ah):List V->Hp->VK->Prop:=λ vs H Q=>∃(a:ag) (as:List ag) (key:ag->Int×Int),vs=[V.ref a]/\nE K H a (as.map V.ref)/\(∀b∈as,H b=some (.tup [.int (key b).1,.int (key b).2]))/\as.length<=1000/\
 ∀(Ed:List ag) (p:ag),Ed.Perm as->Ed.Pairwise (λ b c=>w8 (key b) (key c))->H p=none->Q (.ref p) (upd H p (.lst (Ed.map V.ref)))
def vF:ao->ag
 | .ref a=>a
 |_=>0
theorem KY:∀{as:List ag} {us:List ao},Vals (as.map V.ref) us->us=as.map Value.ref
 |[],us,h=>by cases h;rfl
 |a::as,us,h=>by
  cases h with
  |cons r t=>rw[KY t];cases r;rfl
theorem Dz:∀(as:List ag),Vals (as.map V.ref) (as.map Value.ref)
 |[]=>.nil
 |a::as=>.cons rfl (Dz as)
theorem aal{a b c d:Int}(h:(listOrd itemOrd).kle [Sum.inl a,Sum.inl b] [Sum.inl c,Sum.inl d]):w8 (a,b) (c,d):=by
 have h:jt itemOrd [Sum.inl c,Sum.inl d] [Sum.inl a,Sum.inl b]=false:=h
 rw[lex_cons,lex_cons]at h
 have e1:∀x y:Int,itemOrd.blt (Sum.inl x) (Sum.inl y)=decide (x<y):=λ x y=>rfl
 rw[e1,e1,e1,e1]at h
 simp[jt]at h
 unfold w8
 show a<c\/(a=c/\b<=d)
 omega
section
variable{X:Cx}
theorem Mr{pins:List (ag×Obj)}{σ:L2.St}{H:Hp}{s:au}(I:Inv X pins σ H s){b:ag}{x y:Int}(h:H b=some (.tup [.int x,.int y])):
  G.tupKeyC s.heap (λ _=>false) (.ref b)=some [Sum.inl x,Sum.inl y]/\∃f,TupOf s.heap (λ _=>false) (.ref b) f:=by
 obtain⟨_,om,r,p⟩:=I.oX b _ h
 cases r with
 |cons r1 r=>
  cases r with
  |cons r2 r=>
   cases r
   obtain⟨t1,rfl⟩:=r1
   obtain⟨t2,rfl⟩:=r2
   obtain⟨o,e,c,n,d⟩:=p
   refine⟨?_,_,b,o,_,n,rfl,e,c,d,rfl,λ _=>⟨_,_,rfl⟩,λ z=>by cases z⟩
   unfold G.tupKeyC
   have i:G.isTupObj s.heap (.ref b)=true:=by
    unfold G.isTupObj
    simp only[e,c];rfl
   rw[if_pos i]
   unfold tupKey
   simp only[e,d];rfl
theorem Tx{h:bz}{sh:Nat->Bool}:∀{vs:List ao},(∀v∈vs,∃f,TupOf h sh v f)->∃fs,TupsOf h sh vs fs
 |[],_=>⟨[],.nil⟩
 |v::vs,g=>by
  obtain⟨f,hf⟩:=g v (by simp)
  obtain⟨fs,hfs⟩:=Tx (vs:=vs) λ u hu=>g u (by simp[hu])
  exact⟨f::fs,.cons hf hfs⟩
theorem Ri:zH X (.builtin "sorted") (XZ X.K):=by
 intro pins s σ H vs us Q I r h
 obtain⟨a,as,key,rfl,hs,hk,h64,q⟩:=h
 obtain⟨om,rv,hl,_⟩:=I.list hs
 rw[Vals.Zx r]
 have hi:=KY rv
 have hsl:=aA
 obtain⟨fs,hfs⟩:=Tx (h:=s.heap) (sh:=λ _=>false) (vs:=om) λ v hv=>by
  rw[hi]at hv
  obtain⟨b,hb,rfl⟩:=List.mem_map.mp hv
  exact(Mr I (hk b hb)).2
 refine G.sorted_tups hl.isList hfs (λ v hv=>?_) (by rw[hi,aa];omega) λ st h1 h2 h3=>?_
 ·rw[hi]at hv
  obtain⟨b,hb,rfl⟩:=List.mem_map.mp hv
  exact⟨_,(Mr I (hk b hb)).1⟩
 have p1:(gk st).toList.Perm (om.zip om):=by
  have:=Array.perm_iff_toList_perm.mp h1
  rw[pairsOf_toList]at this;exact this
 have same:∀p∈(gk st).toList,p.1=p.2/\∃b∈as,p.1= .ref b:=λ p hp=>by
  obtain⟨e,m⟩:=mem_zip_self (p1.mem_iff.mp hp)
  rw[hi]at m
  obtain⟨b,hb,e2⟩:=List.mem_map.mp m
  exact⟨e.symm ▸ rfl,b,hb,e2.symm⟩
 have p2:((gk st).toList.map (·.2)).Perm om:=by
  have:=p1.map (·.2)
  rw[show(om.zip om).map (·.2)=om by rw[k8];exact ax _]at this
  exact this
 have e1:((gk st).toList.map (·.2)).map vF=(gk st).toList.map (λ p=>vF p.2):=by rw[aW];rfl
 have p3:((gk st).toList.map (λ p=>vF p.2)).Perm as:=by
  have:=p2.map vF
  rw[e1,hi,aW]at this
  have e2:as.map (vF ∘ Value.ref)=as:=by
   rw[show(vF ∘ Value.ref)=id from rfl,ic]
  rw[e2]at this;exact this
 have out:((gk st).map (·.2)).toList=((gk st).toList.map (λ p=>vF p.2)).map Value.ref:=by
  rw[Array.toList_map,aW]
  refine bP λ p hp=>?_
  obtain⟨e,b,_,e2⟩:=same p hp
  show p.2=Value.ref (vF p.2)
  rw[<-e,e2];rfl
 obtain⟨ep,he⟩:=mE s.heap om ((gk st).map (·.2))
 have hlen:(((gk st).toList.map (λ p=>vF p.2)).map V.ref).length<=ay:=by rw[aa,p3.length_eq];omega
 refine⟨.ref _,_,I.laid (t':=s.toks) (λ _ _=>mD) (km _) (show pP X.prog X.w _ _ _ (.lst _)from⟨hlen,((gk st).map (·.2)).toList,ep,by rw[out];exact Dz _,he⟩),rfl,q _ _ p3 ?_ (I.oX.fresh (km _))⟩
 rw[List.pairwise_iff_getElem]
 intro i j hi' Y_ hij
 rw[aa,Array.length_toList]at hi' Y_
 have hsz:(pairsOf om).size=(gk st).size:=h1.size_eq.symm
 have z:=h2 i j (fb hij) (by rw[hsz];exact Y_)
 have kk:∀(m:Nat) (hm:m<(gk st).size),KK (G.tupKindC s.heap λ _=>false) (gk st) m=[Sum.inl (key (vF ((gk st)[m]).2)).1,Sum.inl (key (vF ((gk st)[m]).2)).2]:=λ m hm=>by
  obtain⟨e,b,hb,e2⟩:=same (gk st)[m] (Array.getElem_mem_toList hm)
  unfold KK
  rw[Array.getElem?_eq_getElem hm]
  show((G.tupKeyC s.heap (λ _=>false) (gk st)[m].1).getD [])=_
  rw[<-e,e2,(Mr I (hk b hb)).1];rfl
 rw[kk i hi',kk j Y_]at z
 rw[k9,k9]
 simp only[Array.getElem_toList]
 exact aal z
end
end L2
namespace oh
def uo(f:ae):Prop:=∀c∈f.cells,1<=c.time/\c.time<=20
theorem uN{f:ae}(h:uo f)(c:Nat):1<=(bx f c).time/\(bx f c).time<=20:=by
 unfold bx
 rw[aB]
 cases q:f.cells[c]? with
 |none=>exact⟨ax _,by decide⟩
 |some x=>exact h x (aC q)
theorem GZ{f:ae}{c:Nat}(hc:c<f.cells.length):(f.cells.map (·.time))[c]? =some (bx f c).time:=by
 have e:f.cells[c]? =some f.cells[c]:=af hc
 unfold bx
 rw[ak,aB,e];rfl
theorem aam{f:ae}(W:FW f){d:List Nat}(hl:d.length=f.cells.length)(wg:∀n∈d,n<=20):left f d<=16*(1000000000000*100 ^ 20):=by
 refine aT (Dt (B:=1000000000000*100 ^ 20) _ λ x hx=>?_) ?_
 ·obtain⟨y,hy,rfl⟩:=List.mem_map.mp hx
  have h1:=gW hy
  exact Mi W (by omega) (wg _ (by rw[h1.2.2];exact cp _))
 ·rw[aa,dP,hl]
  exact c6 _ W.len
theorem IA{f:ae}(T:uo f):∀(l d:List Nat),d.length=f.cells.length->uD d l->ji f d l<=l.length*(20*left f d)
 |[],d,_,_=>aE _
 |c::l,d,hd,⟨h1,h2,h3⟩=>by
  have ih:=IA T l (bump d c) (by rw[pX,hd]) h3
  have lb:=ET (f:=f) h1 hd h2
  show left f d*(bx f c).time+ji f (bump d c) l<=(l.length+1)*(20*left f d)
  have t20:=(uN T c).2
  have a1:left f d*(bx f c).time<=20*left f d:=by rw[f6];exact c6 _ t20
  have a2:l.length*(20*left f (bump d c))<=l.length*(20*left f d):=dg _ (dg _ (by omega))
  rw[j3];omega
theorem OB{f:ae}(W:FW f)(T:uo f){l d:List Nat}(hd:d.length=f.cells.length)(wg:∀n∈d,n<=20)(ho:uD d l)(hl:l.length<=1000):ji f d l<Td:=by
 have h1:=IA T l d hd ho
 have h2:=aam W hd wg
 have h3:l.length*(20*left f d)<=1000*(20*(16*(1000000000000*100 ^ 20))):=lW hl (dg _ h2)
 have h4:1000*(20*(16*(1000000000000*100 ^ 20)))<2 ^ 250:=by decide
 have h5:2 ^ 250<=Td:=dw (by decide:0<2) (by decide:250<=8000)
 exact bH h1 (bH h3 (aU h4 h5))
def tQ:Nat:=232792560
theorem common{t:Nat}(h:1<=t/\t<=20):t*(tQ / t)=tQ:=by
 have h0:∀t∈az 21,1<=t->t*(232792560 / t)=232792560:=by decide
 exact h0 t (List.mem_range.mpr (by omega)) h.1
def keyOf(f:ae)(x:Nat×Nat):Int×Int:=(-((x.2*(tQ / (bx f x.1).time):Nat):Int),(x.1:Int))
theorem OC{a b s t:Nat}(hs:1<=s/\s<=20)(ht:1<=t/\t<=20):(a*(tQ / s)<b*(tQ / t)↔a*t<b*s):=by
 have cs:=common hs
 have ct:=common ht
 generalize tQ / s=p at *
 generalize tQ / t=q at *
 have hC:0<tQ:=by decide
 generalize tQ=C at *
 have LA:0<s*t:=Nat.mul_pos (by omega) (by omega)
 have e1:a*p*(s*t)=a*t*C:=by rw[<-cs];simp only[fF,f6,gy]
 have e2:b*q*(s*t)=b*s*C:=by rw[<-ct];simp only[fF,f6,gy]
 constructor
 ·intro h
  have:=ju h LA
  rw[e1,e2]at this
  exact jA this
 ·intro h
  have:=ju h hC
  rw[<-e1,<-e2]at this
  exact jA this
theorem KZ{f:ae}(T:uo f)(x y:Nat×Nat):kr f x y=true↔w8 (keyOf f x) (keyOf f y):=by
 have c1:=OC (a:=y.2) (b:=x.2) (uN T y.1) (uN T x.1)
 have c2:=OC (a:=x.2) (b:=y.2) (uN T x.1) (uN T y.1)
 unfold kr w8 keyOf
 dsimp only
 rw[gX,bj,decide_eq_true_iff,decide_eq_true_iff,beq_iff_eq]
 generalize x.2*(tQ / (bx f x.1).time)=p at *
 generalize y.2*(tQ / (bx f y.1).time)=q at *
 generalize y.2*(bx f x.1).time=r at *
 generalize x.2*(bx f y.1).time=u at *
 omega
theorem Rj(x y:Int×Int):w8 x y\/w8 y x:=by unfold w8;omega
theorem Rk{x y z:Int×Int}(h:w8 x y)(g:w8 y z):w8 x z:=by unfold w8 at *;omega
theorem Ve{x y:Int×Int}(h:w8 x y)(g:w8 y x):x=y:=by
 unfold w8 at *
 have h1:x.1=y.1:=by omega
 have h2:x.2=y.2:=by omega
 exact Prod.ext h1 h2
theorem Cp(f:ae)(x:Nat×Nat):∀l,(putIn f x l).Perm (x::l)
 |[]=>List.Perm.refl _
 |y::l=>by
  unfold lG
  split
  ·exact List.Perm.refl _
  ·exact((Cp f x l).cons y).trans (List.Perm.swap x y l)
theorem DA{f:ae}(T:uo f)(x:Nat×Nat):∀l,l.Pairwise (λ a b=>w8 (keyOf f a) (keyOf f b))->(putIn f x l).Pairwise (λ a b=>w8 (keyOf f a) (keyOf f b))
 |[],_=>by show[x].Pairwise _;exact List.pairwise_singleton _ _
 |y::l,h=>by
  obtain⟨h1,h2⟩:=List.pairwise_cons.mp h
  unfold lG
  split
  ·rename_i hc
   have hc:=(KZ T x y).mp hc
   refine List.pairwise_cons.mpr ⟨λ z hz=>?_,h⟩
   rcases List.mem_cons.mp hz with q|q
   ·rw[q];exact hc
   ·exact Rk hc (h1 z q)
  ·rename_i hc
   have hc:w8 (keyOf f y) (keyOf f x):=by
    rcases Rj (keyOf f x) (keyOf f y)with q|q
    ·exact absurd ((KZ T x y).mpr q) hc
    ·exact q
   refine List.pairwise_cons.mpr ⟨λ z hz=>?_,DA T x l h2⟩
   rcases List.mem_cons.mp ((Cp f x l).mem_iff.mp hz)with q|q
   ·rw[q];exact hc
   ·exact h1 z q
theorem EU(f:ae):∀(l:List (Nat×Nat)),(l.foldr (putIn f) []).Perm l
 |[]=>List.Perm.refl _
 |x::l=>(Cp f x _).trans ((EU f l).cons x)
theorem FO{f:ae}(T:uo f):∀(l:List (Nat×Nat)),(l.foldr (putIn f) []).Pairwise (λ a b=>w8 (keyOf f a) (keyOf f b))
 |[]=>List.Pairwise.nil
 |x::l=>DA T x _ (FO T l)
theorem Rl{f:ae}(T:uo f){d e:List Nat}{ks:List (Int×Int)}(hp:ks.Perm ((gY f d e).map (keyOf f)))(hs:ks.Pairwise w8):ks.map (·.2)=(dO f d e).map λ(c:Nat)=>(c:Int):=by
 have e1:ks=((gY f d e).foldr (putIn f) []).map (keyOf f):=by
  refine List.Perm.eq_of_pairwise (le:=w8) (λ a b _ _ h g=>Ve h g) hs ?_ ?_
  ·rw[iR];exact FO T _
  ·exact hp.trans ((EU f _).map _).symm
 rw[e1]
 unfold dO
 rw[aW,aW];rfl
theorem K0{t:Nat}(h:t<=1000000000000)(j:Int):Qd (t:Int) j:=.inl ⟨by omega,by omega⟩
theorem adL{t:Nat}(h:1<=t/\t<=100)(i:Int):Te i (t:Int):=⟨by omega,by
 have z:(100:Nat)<Td:=by exact aU (by decide:100<2 ^ 7) (dw (by decide:0<2) (by decide:7<=8000))
 omega⟩
def IC(H:Hp)(as:List ag)(ks:List (Int×Int)):Prop:=as.length=ks.length/\∀(j:Nat) (b:ag) (k:Int×Int),as[j]? =some b->ks[j]? =some k->H b=some (.tup [.int k.1,.int k.2])
def vG:Sp:=λ vs H Q _=>∃(a b c o:ag) (as:List ag) (f:ae) (d l:List Nat),vs=[.ref a,.ref b,.ref c,.ref o]/\FW f/\uo f/\H a=some (.lst (as.map V.ref))/\TabsAt H as (n9 f)/\H b=some (.lst (nX d))/\H c=some (.lst (nX (f.cells.map (·.time))))/\H o=some (.lst (nX l))/\d.length=f.cells.length/\(∀n∈d,n<=20)/\l.length<=1000/\uD d l/\0<left f d/\GG H Q (nX (qL (iz f d l)))
abbrev J0:List Str:=["tables","had","times","order","left","not_found","sums","cell","adds"]
theorem Ag:m9 J0 ["tables","had","times","order"] (m5 wR):=qh
theorem ID(F:pI K "expected_time" "expected_time" wR f fd)(oZ:Hz3 P w K mg base)(xI:mg "zip"=none)(p7:Hz8 P w K mg base)(oy:Hz4 P w K mg base):nQ P w K mg base oG 3 f fd ["tables","had","times","order"] vG:=by
 refine F.ok Ag (λ vs H Q E h=>?_) (λ oW A outer s H vs Q E hr h=>?_)
 ·obtain⟨a,b,c,o,as,f,d,l,rfl,_⟩:=h
  rfl
 ·obtain⟨a,b,c,o,as,f,d,l,rfl,W,T,ha,hT,hb,hc,ho,hd,tu,hl,oX,h0,k⟩:=h
  have nd:=Ag.nd
  refine⟨_,(mX (m8 (i:=4) nd rfl (Or.inl rfl) (nv (E:=E0) oZ hr (by decide) nr (mW (pv 0) (mW (pv 1) mY))))
   (mX (m8 (i:=5) nd rfl (Or.inl rfl) (pv 4))
   (mX (m8 (i:=6) nd rfl (Or.inl rfl) nO)
   (mX (qB PassesOwn.never rfl (Eo rfl xI (mW (pv 3) (mW (nv (E:=E0) p7 hr (by decide) nr (mW (pv 0) (mW (pv 1) (mW (pv 3) mY)))) mY))) (zF rfl (oJ (nA (i:=7) nd rfl (Or.inl rfl)) (oJ (nA (i:=8) nd rfl (Or.inl rfl)) rC))) (mX (G7 (i:=6) nd rfl (Or.inl rfl) (oj wQ (o_ og (pv 2) (pv 7) (λ _ _=>rfl)) (pv 5)) zG)
   (m6 (G7 (i:=5) nd rfl (Or.inl rfl) (pv 8) P_))))
   (m6 (nj (nv (E:=E0) oy hr (by decide) nr (mW (pv 6) (mW (pv 4) mY))))))))),?_⟩
  have wB:=W.len
  have lb:=uf W hd tu
  refine⟨_,rfl,_,rfl,a,b,as,n9 f,d,rfl,ha,hT,hb,by rw[pO,hd],by omega,A4 tu,λ H1 s1=>?_⟩
  rw[tM hd tu]
  refine⟨_,rfl,_,rfl,_,rfl,_,rfl,_,rfl,a,b,o,as,f,d,l,rfl,s1 _ _ ha,hT.same s1,s1 _ _ hb,s1 _ _ ho,hd,hl,oX,λ H2 oa s2 hoa adM=>?_⟩
  have vD:=s1.trans s2
  refine⟨o,oa,_,_,rfl,nE.of (vD _ _ ho),nE.of adM,Tj (K:=K) (a:=o) (b:=oa) (xs:=nX l) (ys:=nX (qa f d l)) (by rw[m_,m_,xM]) (λ i σ H'=>∃(v7 v8:Option V) (D:List Nat) (tm:Nat),σ=[some (.ref a),some (.ref b),some (.ref c),some (.ref o),some (.int (left f d:Nat)),some (.int (left f D:Nat)),some (.int (tm:Nat)),v7,v8]/\m7 H2 H'/\ji f d l=tm+ji f D (l.drop i)/\uD D (l.drop i)/\D.length=d.length/\(qa f d l).drop i=qa f D (l.drop i))
   ⟨none,none,d,0,rfl,m7.refl _,(cW _).symm,oX,rfl,rfl⟩ (λ i σ H' _ ⟨_,_,_,_,_,sm,_⟩=>⟨nE.of (sm _ _ (vD _ _ ho)),nE.of (sm _ _ adM)⟩) ?_ ?_⟩
  ·rintro i x y TT σ H' hx hy ⟨v7,v8,D,tm,rfl,sm,eq,ok,Ow,ea⟩ Vf
   obtain⟨cc,q,rfl⟩:=ou hx
   obtain⟨g,q2,rfl⟩:=ou hy
   rw[yw q]at eq ok ea
   obtain⟨o1,o2,o3⟩:=ok
   rw[yw q2]at ea
   obtain⟨e1,e2⟩:=List.cons.inj ea
   subst e1
   have lbb:=ET (f:=f) o1 (Ow.trans hd) o2
   have sT:m7 H2 (upd H' TT (.tup [.int (cc:Nat),.int (c8 f cc (D.getD cc 0):Nat)])):=sm.trans (m7.new Vf)
   have ta:=GZ (f:=f) (c:=cc) (by omega)
   have t20:=uN T cc
   refine⟨TT,_,rfl,Bi.of mZ,rfl,_,_,rfl,_,_,rfl,rfl,?_⟩
   refine⟨_,rfl,_,rfl,_,rfl,c,_,_,_,rfl,rfl,nE.of (sT _ _ (vD _ _ hc)),ot (oU ta),_,rfl,_,_,rfl,rfl,K0 (by omega) _,Tw (z:=((tm+left f D*(bx f cc).time:Nat):Int)) ?_ ?_⟩
   ·rw[Int.natCast_add,Int.natCast_mul,Int.mul_comm (left f D:Int)]
   refine⟨_,rfl,_,rfl,Mq (z:=((left f (bump D cc):Nat):Int)) (by omega) ?_⟩
   exact⟨_,_,bump D cc,tm+left f D*(bx f cc).time,rfl,sT,by rw[eq,Nat.add_assoc];rfl,o3,by rw[pX,Ow],e2⟩
  ·rintro σ H' ⟨v7,v8,D,tm,rfl,sm,eq,ok,Ow,ea⟩
   rw[m_,ft]at eq
   have e:ji f d l=tm:=eq
   have big:=OB W T hd tu oX hl
   rw[e]at big
   refine⟨_,rfl,_,rfl,tm,left f d,rfl,h0,lb,big,λ H3 p s3 hp NS=>?_⟩
   have wF:=vD.trans sm
   refine k H3 p (wF.trans s3) (none_of wF hp) ?_
   rw[NS]
   unfold iz
   rw[e];rfl
def Ms(f:ae)(d:List Nat)(x:Nat×Nat):List (Nat×Nat):=(az x.1).map λ j=>(x.2,c8 f x.2 (d.getD x.2 0+j))
def tupK(H:Hp)(b:ag):Int×Int:=match H b with
 |some (.tup [.int x,.int y])=>(x,y)
 |_=>(0,0)
theorem Tz{H:Hp}{b:ag}{x y:Int}(h:H b=some (.tup [.int x,.int y])):tupK H b=(x,y):=by unfold tupK;rw[h]
def FP:Sp:=λ vs H Q _=>∃(a b c r:ag) (as:List ag) (f:ae) (d e:List Nat),vs=[.ref a,.ref b,.ref c,.ref r]/\uo f/\H a=some (.lst (as.map V.ref))/\TabsAt H as (n9 f)/\H b=some (.lst (nX d))/\H c=some (.lst (nX (f.cells.map (·.time))))/\H r=some (.lst (nX e))/\d.length=f.cells.length/\e.length=d.length/\d.length<=16/\(∀n∈bC d e,n<=20)/\GG H Q (nX (dO f d e))
abbrev IE:List Str:=["tables","had","times","row","efforts","cell","many","before","by_time"]
theorem FQ:m9 IE ["tables","had","times","row"] (m5 xW):=qh
theorem OD(F:pI K "best_order" "best_order" xW f fd)(qk:mg "enumerate"=none)(qO:mg "range"=none)(pJ:Hz7 P w K mg base)(w9:oF mg "COMMON_TIME" 232792560)(X0:mg "sorted"=none):nQ P w K mg base oG 2 f fd ["tables","had","times","row"] FP:=by
 refine F.ok FQ (λ vs H Q E h=>?_) (λ oW A outer s H vs Q E hr h=>?_)
 ·obtain⟨a,b,c,r,as,f,d,e,rfl,_⟩:=h
  rfl
 ·obtain⟨a,b,c,r,as,f,d,e,rfl,T,ha,hT,hb,hc,X1,hd,he,GH,m20,k⟩:=h
  have nd:=FQ.nd
  refine⟨_,(mX (m8 (i:=4) nd rfl (Or.inl rfl) (nP mY))
   (mX (qB PassesOwn.never rfl (C4 rfl qk (mW (pv 3) mY)) (zF rfl (oJ (nA (i:=5) nd rfl (Or.inl rfl)) (oJ (nA (i:=6) nd rfl (Or.inl rfl)) rC))) (m6 (qB PassesOwn.never rfl (Ke rfl qO (mW (o_ og (pv 1) (pv 5) (λ _ _=>rfl)) (mW (oj qV (o_ og (pv 1) (pv 5) (λ _ _=>rfl)) (pv 6)) mY))) (nA (i:=7) nd rfl (Or.inl rfl)) (mX (m8 (i:=8) nd rfl (Or.inl rfl) (oj wQ (nv (E:=E0) pJ hr (by decide) nr (mW (o_ og (pv 0) (pv 5) (λ _ _=>rfl)) (mW (pv 7) mY))) (oj De (nU w9) (o_ og (pv 2) (pv 5) (λ _ _=>rfl)))))
   (m6 (n_ (qT aG bc a_ pF (pv 4) (mW (abA (mW (Sx LB (pv 8)) (mW (pv 5) mY))) mY))))))))
   (m6 (nj (qt (own:=[("by_time",8),("cell",5)]) rfl nd (oM (nM Ri rfl X0 boot_sorted (mW (pv 4) mY))) (by exact pC.of (N:=IE) (sc:=m5 xW) (by decide +kernel)) (λ _ _ _ _ _=>by exact(A2 K (n:=2) rfl (oJ (nA (i:=8) nd rfl (Or.inl rfl)) (oJ (nA (i:=5) nd rfl (Or.inl rfl)) rC)))) (λ _ _ _ _ _=>by exact oR) (λ _ _ _ _ _=>by exact(pv 5))))))),?_⟩
  refine⟨aE _,λ ef hef=>?_⟩
  have s1:m7 H (upd H ef (.lst [])):=m7.new hef
  have GO:∀(E:List (Nat×Nat)) (es:List ag) (H':Hp) (x:Nat×Nat) (z:Int) (T0:ag),z= -((x.2*(tQ / (bx f x.1).time):Nat):Int)->m7 H H'->H' ef=some (.lst (es.map V.ref))->IC H' es (E.map (keyOf f))->H' T0=none->
    m7 H (upd (upd H' T0 (.tup [.int z,.int (x.1:Nat)])) ef (.lst (es.map V.ref++[V.ref T0])))/\(upd (upd H' T0 (.tup [.int z,.int (x.1:Nat)])) ef (.lst (es.map V.ref++[V.ref T0]))) ef=some (.lst ((es++[T0]).map V.ref))/\IC (upd (upd H' T0 (.tup [.int z,.int (x.1:Nat)])) ef (.lst (es.map V.ref++[V.ref T0]))) (es++[T0]) ((E++[x]).map (keyOf f)):=by
   intro E es H' x z T0 hz sm h1 h2 h3
   have nT:T0≠ef:=λ q=>by rw[q,h1]at h3;cases h3
   refine⟨(sm.put (none_of sm h3)).put hef,by rw[mZ,aF];rfl,by rw[aw,aF,aw,h2.1];rfl,λ j b0 k0 q1 q2=>?_⟩
   by_cases hj:j<es.length
   ·rw[bp hj]at q1
    rw[aF,bp (by rw[<-h2.1];exact hj)]at q2
    have X2:=h2.2 j b0 k0 q1 q2
    have n1:b0≠ef:=λ q=>by rw[q,h1]at X2;cases X2
    have n2:b0≠T0:=λ q=>by rw[q,h3]at X2;cases X2
    rw[m4 n1,m4 n2];exact X2
   ·rw[bg (by omega)]at q1
    rw[aF,bg (by rw[<-h2.1];omega),<-h2.1]at q2
    have ej:j-es.length=0:=by
     have:=(List.getElem?_eq_some_iff.mp q1).1
     simp at this;omega
    rw[ej]at q1 q2
    cases q1;cases q2
    rw[m4 nT,mZ,hz];rfl
  refine⟨_,rfl,r,_,rfl,nE.of (s1 _ _ X1),Dn (K:=K) (a:=r) (xs:=nX e) (λ i σ H'=>∃(v5 v6 v7 v8:Option V) (es:List ag),σ=[some (.ref a),some (.ref b),some (.ref c),some (.ref r),some (.ref ef),v5,v6,v7,v8]/\m7 H H'/\H' ef=some (.lst (es.map V.ref))/\IC H' es (((e.zipIdx.take i).flatMap (Ms f d)).map (keyOf f))/\es.length<=20*i)
   ⟨none,none,none,none,[],rfl,s1,mZ,⟨rfl,λ j b0 k0 q=>by simp at q⟩,ax _⟩ (λ i σ H' _ ⟨_,_,_,_,_,_,sm,_⟩=>nE.of (sm _ _ X1)) ?_ ?_⟩
  ·rintro i x T1 σ H' hx ⟨v5,v6,v7,v8,es,rfl,sm,h1,h2,h3⟩ hT1
   obtain⟨n,q,rfl⟩:=ou hx
   have hi:i<e.length:=(List.getElem?_eq_some_iff.mp q).1
   have gd:=getD_at (d:=d) (c:=i) (by omega)
   have hm:d.getD i 0+n<=20:=m20 _ (aC (i:=i) (by unfold bC;rw[aP,gd,q]))
   have ze:e.zipIdx[i]? =some (n,i):=by rw[bQ,q];show some (n,0+i)=_;rw[cW]
   have sT:m7 H (upd H' T1 (.tup [.int (i:Nat),.int (n:Nat)])):=sm.trans (m7.new hT1)
   have g1:(upd H' T1 (.tup [.int (i:Nat),.int (n:Nat)])) ef=some (.lst (es.map V.ref)):=m7.new hT1 _ _ h1
   have g2:IC (upd H' T1 (.tup [.int (i:Nat),.int (n:Nat)])) es (((e.zipIdx.take i).flatMap (Ms f d)).map (keyOf f)):=⟨h2.1,λ j b0 k0 q1 q2=>m7.new hT1 _ _ (h2.2 j b0 k0 q1 q2)⟩
   refine⟨T1,_,rfl,Bi.of mZ,rfl,_,_,rfl,_,_,rfl,rfl,?_⟩
   refine⟨_,rfl,_,rfl,b,_,_,_,rfl,rfl,nE.of (sT _ _ hb),ot (oU gd),_,rfl,_,rfl,b,_,_,_,rfl,rfl,nE.of (sT _ _ hb),ot (oU gd),_,rfl,_,_,rfl,rfl,_,_,rfl,⟨by omega,by omega,by omega,by omega⟩,?_⟩
   have en:(((d.getD i 0:Nat):Int)+((n:Nat):Int)-((d.getD i 0:Nat):Int)).toNat=n:=by omega
   show ∃W,_
   rw[en]
   refine Um (n:=n) (λ j σ H'=>∃(v7 v8:Option V) (es:List ag),σ=[some (.ref a),some (.ref b),some (.ref c),some (.ref r),some (.ref ef),some (.int (i:Nat)),some (.int (n:Nat)),v7,v8]/\m7 H H'/\H' ef=some (.lst (es.map V.ref))/\IC H' es (((e.zipIdx.take i).flatMap (Ms f d)++(az j).map λ j=>(i,c8 f i (d.getD i 0+j))).map (keyOf f))/\es.length<=20*i+j)
    ⟨v7,v8,es,rfl,sT,g1,by rw[List.range_zero,fT,bD];exact g2,by omega⟩ ?_ ?_
   ·rintro j σ H' hj ⟨v7,v8,es,rfl,sm,h1,h2,h3⟩
    obtain⟨tb,t,t1,t2,t3,t4,t5⟩:=GY (hT.same sm) (show i<f.cells.length by omega) (show d.getD i 0+j<20 by omega)
    have ta:=GZ (f:=f) (c:=i) (by omega)
    have t20:=uN T i
    refine⟨_,rfl,_,rfl,a,_,_,_,rfl,rfl,nE.of (sm _ _ ha),ot t1,_,rfl,tb,t,d.getD i 0+j,_,_,rfl,t2,t3,t4,_,rfl,_,rfl,c,_,_,_,rfl,rfl,nE.of (sm _ _ hc),ot (oU ta),_,_,rfl,rfl,adL (by omega) _,_,_,rfl,rfl,?_,?_⟩
    ·exact .inr ⟨by have:(0:Int)<=232792560 / ((bx f i).time:Int):=Int.ediv_nonneg (by omega) (by omega);omega,by have:(232792560:Int) / ((bx f i).time:Int)<=232792560:=Int.ediv_le_self _ (by omega);omega⟩
    refine⟨_,rfl,.inl ⟨rfl,_,nE.of h1⟩,_,rfl,_,rfl,_,rfl,(by show 2<=ay;decide),λ T0 hT0=>?_⟩
    have ez: -((((cY f i (d.getD i 0+j):Nat):Int)-((cY f i (d.getD i 0+j+1):Nat):Int))*(232792560 / ((bx f i).time:Int)))= -((c8 f i (d.getD i 0+j)*(tQ / (bx f i).time):Nat):Int):=by
     rw[t5,Int.natCast_mul,Int.natCast_ediv];rfl
    obtain⟨z1,z2,z3⟩:=GO _ es H' (i,c8 f i (d.getD i 0+j)) _ T0 ez sm h1 h2 hT0
    have nT:ef≠T0:=λ q=>by rw[<-q,h1]at hT0;cases hT0
    refine⟨ef,_,_,rfl,rfl,(m4 nT).trans h1,(by rw[aa,aA];omega),?_⟩
    refine⟨_,_,es++[T0],rfl,z1,z2,?_,by rw[aw];show es.length+1<=_;omega⟩
    have eE:((e.zipIdx.take i).flatMap (Ms f d)++(az j).map λ j=>(i,c8 f i (d.getD i 0+j)))++[(i,c8 f i (d.getD i 0+j))]=(e.zipIdx.take i).flatMap (Ms f d)++(az (j+1)).map λ j=>(i,c8 f i (d.getD i 0+j)):=by
     rw[eI,aF,bB];rfl
    rw[<-eE];exact z3
   ·rintro σ H' ⟨v7,v8,es,rfl,sm,h1,h2,h3⟩
    refine⟨_,_,_,_,es,rfl,sm,h1,?_,by omega⟩
    rw[bZ,ze,ee]
    simpa [Ms]using h2
  ·rintro σ H' ⟨v5,v6,v7,v8,es,rfl,sm,h1,h2,h3⟩
   rw[m_]at h2 h3
   have et:e.zipIdx.take e.length=e.zipIdx:=cq (by rw[dP];exact ax _)
   rw[et]at h2
   have tk:∀b0∈es,H' b0=some (.tup [.int (tupK H' b0).1,.int (tupK H' b0).2]):=λ b0 X2=>by
    obtain⟨j,hj,ej⟩:=cw X2
    have q1:es[j]? =some b0:=by rw[af hj,ej]
    have q2:=h2.2 j b0 _ q1 (af (by rw[<-h2.1];exact hj))
    rw[Tz q2,q2]
   have ek:es.map (tupK H')=(gY f d e).map (keyOf f):=by
    apply bO
    intro j
    by_cases hj:j<es.length
    ·have q1:es[j]? =some es[j]:=af hj
     have q3:(((e.zipIdx).flatMap (Ms f d)).map (keyOf f))[j]? =some _:=af (by rw[<-h2.1];exact hj)
     have q2:=h2.2 j _ _ q1 q3
     rw[ak,q1]
     show some (tupK H' es[j])=(((e.zipIdx).flatMap (Ms f d)).map (keyOf f))[j]?
     rw[q3,Tz q2]
    ·rw[aI (by rw[aa];omega),aI (show((gY f d e).map (keyOf f)).length<=j from by have:=h2.1;show(((e.zipIdx).flatMap (Ms f d)).map (keyOf f)).length<=j;omega)]
   refine⟨_,rfl,ef,es,tupK H',rfl,nE.of h1,tk,by omega,λ VW so X3 adN hso=>?_⟩
   have wc:m7 H' (upd H' so (.lst (VW.map V.ref))):=m7.new hso
   refine⟨so,rfl,⟨_,nE.of mZ⟩,?_⟩
   have o1:=Rl T (d:=d) (e:=e) (ks:=VW.map (tupK H')) (by rw[<-ek];exact X3.map _) (by rw[iR];exact adN)
   have o2:nX (dO f d e)=VW.map λ b0=>V.int (tupK H' b0).2:=by
    unfold nX
    rw[show(dO f d e).map (λ(c:Nat)=>V.int (c:Int))=((dO f d e).map λ(c:Nat)=>(c:Int)).map V.int by rw[aW];rfl,<-o1,aW,aW];rfl
   have o3:(nX (dO f d e)).length=VW.length:=by rw[o2,aa]
   refine oY (oS (K:=K) (xs:=VW.map V.ref) (nE.of mZ)) (nX (dO f d e)) (by rw[o3,aa]) (by rw[aa,X3.length_eq,aA];omega) (λ j x y H3 R3 N3 hy pG hF kk=>?_) (λ D H3 hD pG uC=>k H3 D (sm.trans (wc.trans pG)) (none_of (sm.trans wc) hD) uC)
   rw[o2,ak]at hy
   rw[ak]at hF
   cases q1:VW[j]? with
   |none=>rw[q1]at hF;cases hF
   |some b0=>
    rw[q1]at hF hy
    cases hF;cases hy
    have tb:=tk b0 (X3.mem_iff.mp (aC q1))
    exact⟨b0,_,rfl,Bi.of (pG _ _ (wc _ _ tb)),rfl,_,_,rfl,_,_,rfl,rfl,rfl,sD ⟨_,rfl,kk H3 (m7.refl _)⟩⟩
theorem EV{zs:List Int}{j:Nat}{x:V}(h:(iL zs)[j]? =some x):∃z,zs[j]? =some z/\x= .int z:=by
 unfold iL at h
 rw[ak]at h
 cases q:zs[j]? with
 |none=>rw[q]at h;cases h
 |some z=>rw[q]at h;cases h;exact⟨z,rfl,rfl⟩
theorem aa8{zs:List Int}{j:Nat}{z:Int}(h:zs[j]? =some z):(iL zs)[j]? =some (.int z):=by
 unfold iL;rw[ak,h];rfl
theorem uq(l:List Nat):nX l=iL (l.map λ(n:Nat)=>(n:Int)):=by unfold nX iL;rw[aW];rfl
def vH(d:List Nat)(zs:List Int):List Int:=jO (λ(n:Nat) (z:Int)=>(n:Int)+z) d zs
theorem K1(d:List Nat)(zs:List Int):(vH d zs).length=min d.length zs.length:=by unfold vH;rw[c_]
theorem Vg(d e:List Nat):nX (bC d e)=iL (vH d (e.map λ(n:Nat)=>(n:Int))):=by
 rw[uq]
 congr 1
 unfold vH bC
 rw[ja,gO];rfl
def DB(d:List Nat)(zs:List Int):Bool:=(vH d zs).all λ z=>decide (z<=20)
def wG:Sp:=λ vs H Q _=>∃(a b:ag) (d:List Nat) (zs:List Int),vs=[.ref a,.ref b]/\H a=some (.lst (nX d))/\H b=some (.lst (iL zs))/\d.length<=16/\GG H Q (iL (vH d zs))
theorem FR(F:pI K "together" "together" AU f fd)(xI:mg "zip"=none):nQ P w K mg base oG 1 f fd ["had","row"] wG:=by
 refine F.ok HU (λ vs H Q E h=>?_) (λ oW A outer s H vs Q E hr h=>?_)
 ·obtain⟨a,b,d,zs,rfl,_⟩:=h
  rfl
 ·obtain⟨a,b,d,zs,rfl,ha,hb,GH,k⟩:=h
  have nd:=HU.nd
  refine⟨_,(m6 (nj (qt (own:=[("before",2),("more",3)]) rfl nd (Eo rfl xI (mW (pv 0) (mW (pv 1) mY))) (by exact pC.of (N:=KH) (sc:=m5 AU) (by decide +kernel)) (λ _ _ _ _ _=>by exact(A2 K (n:=2) rfl (oJ (nA (i:=2) nd rfl (Or.inl rfl)) (oJ (nA (i:=3) nd rfl (Or.inl rfl)) rC)))) (λ _ _ _ _ _=>by exact oR) (λ _ _ _ _ _=>by exact(oj qV (pv 2) (pv 3)))))),?_⟩
  refine⟨_,rfl,_,rfl,a,b,_,_,rfl,nE.of ha,nE.of hb,?_⟩
  refine oY (U_ (K:=K) (nE.of ha) (nE.of hb)) (iL (vH d zs)) (by rw[pW,m_,pW,K1]) (by rw[m_,aA];omega) (λ j x y H3 R3 N3 hy pG hF kk=>?_) (λ D H3 hD pG uC=>k H3 D pG hD uC)
  obtain⟨T,x1,y1,rfl,h1,h2,hT⟩:=hF
  obtain⟨c1,q1,rfl⟩:=ou h1
  obtain⟨c2,q2,rfl⟩:=EV h2
  obtain⟨c3,q3,rfl⟩:=EV hy
  have e3:c3=(c1:Int)+c2:=by
   unfold vH at q3
   rw[aP,q1,q2]at q3
   exact(Option.some.inj q3).symm
  subst e3
  refine⟨T,_,rfl,Bi.of hT,rfl,_,_,rfl,_,_,rfl,rfl,rfl,sD ⟨_,rfl,_,rfl,_,_,rfl,rfl,kk H3 (m7.refl _)⟩⟩
theorem Vh{f:ag}{fd:bK}{k:Nat}(F:nQ P w K mg base oG k f fd ["had","row"] wG):nQ P w K mg base oG k f fd ["had","row"] Ck:=
 F.imp λ vs H Q E ⟨a,b,d,e,h1,h2,h3,h4,h5,h6⟩=>⟨a,b,d,e.map λ(n:Nat)=>(n:Int),h1,h2,by rw[<-uq];exact h3,h5,by rw[<-Vg];exact h6⟩
def DC(CS:ag):Sp:=λ vs H Q _=>∃(x dx:ag),vs=[.ref x]/\H x=some (.ins CS dx [])/\∀H' wl hl,sE x H H'->H wl=none->H hl=none->wl≠hl->Aa CS H' x .qA wl hl [] []->Q .qA H'
abbrev OE:List Str:=["self"]
theorem DD:m9 OE ["self"] (m5 zS):=qh
theorem Mt(F:pI K "__init__" "Search.__init__" zS f fd)(S:p6 K CS):nQ P w K mg base oG 1 f fd ["self"] (DC CS):=by
 refine F.ok DD (λ vs H Q E h=>?_) (λ oW A outer s H vs Q E hr h=>?_)
 ·obtain⟨x,dx,rfl,_⟩:=h
  rfl
 ·obtain⟨x,dx,rfl,h1,k⟩:=h
  have nd:=DD.nd
  refine⟨_,(mX (pU (pv 0) zE rfl)
   (mX (pU (pv 0) (nP mY) rfl)
   (m6 (pU (pv 0) (nP mY) rfl)))),?_⟩
  refine⟨_,rfl,x,CS,dx,_,rfl,h1,S.cl,S.n1,(by show 0<1000;decide),aE _,λ wl JK=>?_⟩
  have n1:wl≠x:=λ q=>by rw[q,mZ]at JK;cases JK
  rw[m4 n1]at JK
  refine⟨_,rfl,x,CS,dx,_,rfl,by rw[m4 (Ne.symm n1),mZ],S.cl,S.n2,(by show 1<1000;decide),aE _,λ hl DE=>?_⟩
  have n2:hl≠x:=λ q=>by rw[q,mZ]at DE;cases DE
  rw[m4 n2]at DE
  have n3:wl≠hl:=λ q=>by rw[<-q,mZ]at DE;cases DE
  rw[m4 (Ne.symm n3),m4 n2]at DE
  refine⟨_,rfl,x,CS,dx,_,rfl,by rw[m4 (Ne.symm n2),mZ],S.cl,S.n3,(by show 2<1000;decide),?_⟩
  refine k _ wl hl (λ b o e nb _=>?_) JK DE n3 ⟨⟨dx,?_⟩,?_,?_⟩
  ·rw[m4 nb,m4 (nG e DE),m4 nb,m4 (nG e JK),m4 nb];exact e
  ·rw[mZ];rfl
  ·rw[m4 n1,m4 n3,m4 n1,mZ];rfl
  ·rw[m4 n2,mZ];rfl
def OF(CS:ag):Sp:=λ vs H Q _=>∃(x dx:ag) (v1 v2 v3:V),vs=[.ref x]/\H x=some (.ins CS dx (JZ.zip [v1,v2,v3]))/\∀H' wl hl,sE x H H'->H wl=none->H hl=none->wl≠hl->Aa CS H' x .qA wl hl [] []->Q .qA H'
abbrev J1:List Str:=["self"]
theorem Ah:m9 J1 ["self"] (m5 wV):=qh
theorem IF(F:pI K "forget" "Search.forget" wV f fd)(S:p6 K CS):nQ P w K mg base oG 1 f fd ["self"] (OF CS):=by
 refine F.ok Ah (λ vs H Q E h=>?_) (λ oW A outer s H vs Q E hr h=>?_)
 ·obtain⟨x,dx,v1,v2,v3,rfl,_⟩:=h
  rfl
 ·obtain⟨x,dx,v1,v2,v3,rfl,h1,k⟩:=h
  have nd:=Ah.nd
  refine⟨_,(mX (pU (pv 0) zE rfl)
   (mX (pU (pv 0) (nP mY) rfl)
   (m6 (pU (pv 0) (nP mY) rfl)))),?_⟩
  refine⟨_,rfl,x,CS,dx,_,rfl,h1,S.cl,S.n1,(by show 3<1000;decide),aE _,λ wl JK=>?_⟩
  have n1:wl≠x:=λ q=>by rw[q,mZ]at JK;cases JK
  rw[m4 n1]at JK
  refine⟨_,rfl,x,CS,dx,_,rfl,by rw[m4 (Ne.symm n1),mZ],S.cl,S.n2,(by show 3<1000;decide),aE _,λ hl DE=>?_⟩
  have n2:hl≠x:=λ q=>by rw[q,mZ]at DE;cases DE
  rw[m4 n2]at DE
  have n3:wl≠hl:=λ q=>by rw[<-q,mZ]at DE;cases DE
  rw[m4 (Ne.symm n3),m4 n2]at DE
  refine⟨_,rfl,x,CS,dx,_,rfl,by rw[m4 (Ne.symm n2),mZ],S.cl,S.n3,(by show 3<1000;decide),?_⟩
  refine k _ wl hl (λ b o e nb _=>?_) JK DE n3 ⟨⟨dx,?_⟩,?_,?_⟩
  ·rw[m4 nb,m4 (nG e DE),m4 nb,m4 (nG e JK),m4 nb];exact e
  ·rw[mZ];rfl
  ·rw[m4 n1,m4 n3,m4 n1,mZ];rfl
  ·rw[m4 n2,mZ];rfl
def EW(CS:ag):Sp:=λ vs H Q _=>∃(x wl hl b:ag) (v:V) (ws d:List Nat) (zs:List Int),vs=[.ref x,.ref b]/\Aa CS H x v wl hl ws d/\H b=some (.lst (iL zs))/\d.length<=16/\∀H',m7 H H'->Q (.bl (DB d zs)) H'
abbrev Ai:List Str:=["self","row","efforts"]
theorem zB:m9 Ai ["self","row"] (m5 sM):=qh
theorem GJ(F:pI K "has_room" "Search.has_room" sM f fd)(S:p6 K CS)(zA:mg "all"=none)(vC:rB P w K mg base oG 1 "together" ["had","row"] wG)(nB:oF mg "MOST_EFFORTS" 20):nQ P w K mg base oG 2 f fd ["self","row"] (EW CS):=by
 refine F.ok zB (λ vs H Q E h=>?_) (λ oW A outer s H vs Q E hr h=>?_)
 ·obtain⟨x,wl,hl,b,v,ws,d,zs,rfl,_⟩:=h
  rfl
 ·obtain⟨x,wl,hl,b,v,ws,d,zs,rfl,⟨⟨dx,h1⟩,h2,h3⟩,hb,GH,k⟩:=h
  have nd:=zB.nd
  refine⟨_,(m6 (nj (nM (BG rfl) rfl zA iP (mW (qt (own:=[("efforts",2)]) rfl nd (oM (nv (E:=E0) vC hr (by decide) nr (mW (nq (pv 0) rfl) (mW (pv 1) mY)))) (by exact pC.of (N:=Ai) (sc:=m5 sM) (by decide +kernel)) (λ _ _ _ _ _=>by exact(nA (i:=2) nd rfl (Or.inl rfl))) (λ _ _ _ _ _=>by exact oR) (λ _ _ _ _ _=>by exact(rR p9 (pv 2) (nU nB) (oK _)))) mY)))),?_⟩
  refine⟨_,rfl,x,CS,dx,_,_,rfl,h1,S.cl,S.n3,rfl,_,rfl,hl,b,d,zs,rfl,h3,hb,GH,λ H1 p s1 hp JX=>?_⟩
  refine⟨p,rfl,⟨_,nE.of JX⟩,?_⟩
  refine oY (oS (K:=K) (xs:=iL (vH d zs)) (nE.of JX)) ((vH d zs).map λ z=>V.bl (decide (z<=20))) (by rw[pW,aa]) (by rw[pW,K1,aA];omega) (λ j x y H3 R3 N3 hy pG hF kk=>?_) (λ D H3 hD pG uC=>?_)
  ·obtain⟨z,q,rfl⟩:=EV hF
   rw[ak,q]at hy
   cases hy
   exact⟨rfl,sD ⟨_,rfl,_,_,rfl,rfl,kk H3 (m7.refl _)⟩⟩
  ·refine⟨D,(vH d zs).map λ z=>decide (z<=20),rfl,nE.of (by rw[uC,aW];rfl),?_⟩
   rw[cH]
   exact k H3 (s1.trans pG)
def yB(CS:ag):Sp:=λ vs H Q _=>∃(x wl hl:ag) (v:V) (ws d:List Nat) (z:Int),vs=[.ref x,.int z]/\Aa CS H x v wl hl ws d/\Q (.bl (decide (((aZ d:Nat):Int)+z<=20*((d.length:Nat):Int)))) H
abbrev DF:List Str:=["self","many"]
theorem vI:m9 DF ["self","many"] (m5 sN):=qh
theorem Cq(F:pI K "has_room_for" "Search.has_room_for" sN f fd)(S:p6 K CS)(xH:mg "sum"=none)(nB:oF mg "MOST_EFFORTS" 20)(pd:mg "len"=none):nQ P w K mg base oG 1 f fd ["self","many"] (yB CS):=by
 refine F.ok vI (λ vs H Q E h=>?_) (λ oW A outer s H vs Q E hr h=>?_)
 ·obtain⟨x,wl,hl,v,ws,d,z,rfl,_⟩:=h
  rfl
 ·obtain⟨x,wl,hl,v,ws,d,z,rfl,⟨⟨dx,h1⟩,h2,h3⟩,k⟩:=h
  have nd:=vI.nd
  refine⟨_,(m6 (nj (rR p9 (oj qV (nM (BF rfl) rfl xH iO (mW (nq (pv 0) rfl) mY)) (pv 1)) (oj wQ (nU nB) (nM nN rfl pd aX (mW (nq (pv 0) rfl) mY))) (oK _)))),?_⟩
  rw[<-m_ d,<-tL d]at k
  exact⟨_,rfl,x,CS,dx,_,_,rfl,h1,S.cl,S.n3,rfl,hl,_,rfl,nE.of (by rw[h3,uq];rfl),_,rfl,_,_,rfl,rfl,_,rfl,x,CS,dx,_,_,rfl,h1,S.cl,S.n3,rfl,hl,_,rfl,.inl (nE.of h3),_,_,rfl,rfl,K0 (t:=20) (by decide) _,_,_,rfl,rfl,k⟩
def Mu(CS CF CC CT:ag):Sp:=λ vs H Q _=>∃(x wl hl a:ag) (ws d:List Nat) (f:ae),vs=[.ref x]/\Aa CS H x (.ref a) wl hl ws d/\rF CF CC CT H a f/\f.cells.length<=16/\GG H Q (nX (f.cells.map (·.time)))
abbrev DG:List Str:=["self","cell"]
theorem Br:m9 DG ["self"] (m5 uJ):=qh
theorem J2(F:pI K "times" "Search.times" uJ f fd)(S:p6 K CS)(nI:Rec P w K mg base "Field" CF Ci)(oz:Rec P w K mg base "Cell" CC EH):nQ P w K mg base oG 1 f fd ["self"] (Mu CS CF CC CT):=by
 refine F.ok Br (λ vs H Q E h=>?_) (λ oW A outer s H vs Q E hr h=>?_)
 ·obtain⟨x,wl,hl,a,ws,d,f,rfl,_⟩:=h
  rfl
 ·obtain⟨x,wl,hl,a,ws,d,f,rfl,⟨⟨dx,h1⟩,h2,h3⟩,⟨df,lc,lt,as,bs,f1,f2,f3,f4,f5⟩,wB,k⟩:=h
  have nd:=Br.nd
  refine⟨_,(m6 (nj (qt (own:=[("cell",1)]) rfl nd (oM (nq (nq (pv 0) rfl) rfl)) (by exact pC.of (N:=DG) (sc:=m5 uJ) (by decide +kernel)) (λ _ _ _ _ _=>by exact(nA (i:=1) nd rfl (Or.inl rfl))) (λ _ _ _ _ _=>by exact oR) (λ _ _ _ _ _=>by exact(xV K (pv 1)))))),?_⟩
  refine⟨_,rfl,x,CS,dx,_,_,rfl,h1,S.cl,S.n1,rfl,a,CF,df,_,_,rfl,f1,nI.cl,nI.na "cells" (by simp),rfl,lc,rfl,⟨_,nE.of f2⟩,?_⟩
  refine oY (oS (K:=K) (xs:=as.map V.ref) (nE.of f2)) (nX (f.cells.map (·.time))) (by rw[m_,aa,aa,f3.1]) (by rw[aa,f3.1,aA];omega) (λ j y z H3 R3 N3 hy pG hF kk=>?_) (λ D H3 hD pG uC=>k H3 D pG hD uC)
  obtain⟨c,q,rfl⟩:=ou hy
  rw[ak]at hF q
  cases q1:as[j]? with
  |none=>rw[q1]at hF;cases hF
  |some aj=>
   cases q2:f.cells[j]? with
   |none=>rw[q2]at q;cases q
   |some cj=>
    rw[q1]at hF;rw[q2]at q
    cases hF;cases q
    obtain⟨dc,ec⟩:=f3.2 j aj cj q1 q2
    exact⟨rfl,sD ⟨_,rfl,aj,CC,dc,_,_,rfl,pG _ _ ec,oz.cl,oz.na "time" (by simp),rfl,kk H3 (m7.refl _)⟩⟩
def vJ(l:List Nat):Nat:=l.foldl max 0
theorem foldl_max:∀(l:List Nat) (a:Nat),l.foldl max a=max a (vJ l)
 |[],a=>by show a=max a 0;omega
 |x::l,a=>by
  show l.foldl max (max a x)=max a (l.foldl max (max 0 x))
  rw[foldl_max l,foldl_max l (max 0 x)];omega
theorem xN(x:Nat)(l:List Nat):vJ (x::l)=max x (vJ l):=by
 show l.foldl max (max 0 x)=_
 rw[foldl_max];omega
theorem Mv:∀(l:List Nat),∀y∈l,y<=vJ l
 |[],y,h=>by cases h
 |x::l,y,h=>by
  rw[xN]
  rcases List.mem_cons.mp h with q|q
  ·omega
  ·have:=Mv l y q;omega
theorem DH:∀(l:List Nat),l≠[]->vJ l∈l
 |[],h=>absurd rfl h
 |[x],_=>by rw[xN];show max x 0∈[x];simp
 |x::y::l,_=>by
  rw[xN]
  have ih:=DH (y::l) (by simp)
  by_cases h:vJ (y::l)<=x
  ·rw[Nat.max_eq_left h];simp
  ·rw[Nat.max_eq_right (by omega)];exact aQ _ ih
theorem aan{l:List Nat}{m:Nat}(h1:m∈l)(h2:∀y∈l,y<=m):vJ l=m:=by
 have a:=Mv l m h1
 have b:=h2 _ (DH l (λ q=>by rw[q]at h1;cases h1))
 omega
theorem TB(p:Nat->Prop)[DecidablePred p](v:Nat->Nat):∀(l:List Nat),vJ (l.map λ n=>if p n then v n else 0)=vJ (l.filterMap λ n=>if p n then some (v n)else none)
 |[]=>rfl
 |x::l=>by
  rw[aH,xN,TB p v l,dG]
  by_cases h:p x
  ·rw[if_pos h,if_pos h];show _=vJ (v x::_);rw[xN]
  ·rw[if_neg h,if_neg h];exact Nat.zero_max _
def gl(f:ae)(d:List Nat)(c:Nat):List Nat:=(az (20-d.getD c 0+1)).map λ n=>cY f c (d.getD c 0)-cY f c (d.getD c 0+n)
def TF(g:List Nat)(t:Nat)(bh:List Nat)(b n:Nat):Nat:=g.getD n 0+bh.getD (b-n*t) 0
def Wa(g:List Nat)(t:Nat)(bh:List Nat)(b:Nat):List Nat:=(az g.length).filterMap λ n=>if n*t<=b then some (TF g t bh b n)else none
theorem Bs(p:Nat->Prop)[DecidablePred p](v:Nat->Nat)(M:Nat)(hp:∀n,p n↔n<M):∀N,(az N).filterMap (λ n=>if p n then some (v n)else none)=(az (min N M)).map v
 |0=>by rw[Nat.zero_min];rfl
 |N+1=>by
  rw[eI,g0,Bs p v M hp N]
  by_cases h:N<M
  ·rw[show min (N+1) M=min N M+1 by omega,eI,aF,show min N M=N by omega]
   simp[(hp N).mpr h]
  ·have hn:¬ p N:=λ q=>h ((hp N).mp q)
   rw[show min (N+1) M=min N M by omega]
   simp[hn]
theorem yC{n t b:Nat}(ht:1<=t):n*t<=b↔n<b / t+1:=by
 rw[Nat.lt_succ_iff,Nat.le_div_iff_mul_le (by omega)]
theorem X4{g:List Nat}{t:Nat}(ht:1<=t)(bh:List Nat)(b:Nat):Wa g t bh b=(az (min g.length (b / t+1))).map (TF g t bh b):=by
 unfold Wa
 exact Bs (λ n=>n*t<=b) (TF g t bh b) (b / t+1) (λ n=>yC ht) g.length
theorem EX(f:ae)(d:List Nat)(c:Nat):(gl f d c).length=20-d.getD c 0+1:=by unfold gl;simp
theorem aa9{f:ae}{d:List Nat}{c n:Nat}(h:n<20-d.getD c 0+1):(gl f d c).getD n 0=cY f c (d.getD c 0)-cY f c (d.getD c 0+n):=by
 unfold gl
 rw[aB,ak,bf h];rfl
theorem OG{α β:Type}(f g:α->Option β):∀(l:List α),(∀x∈l,f x=g x)->l.filterMap f=l.filterMap g
 |[],_=>rfl
 |x::l,h=>by rw[dG,dG,h x (by simp),OG f g l λ y hy=>h y (by simp[hy])]
theorem Rm(f:ae)(d:List Nat)(c B:Nat)(later:List Nat):dR f d c B later=(az (B+1)).map λ b=>vJ (Wa (gl f d c) (bx f c).time later b):=by
 unfold dR
 refine bP λ b _=>?_
 show vJ ((az (20-d.getD c 0+1)).map λ n=>if n*(bx f c).time<=b then _ else 0)=_
 rw[TB]
 unfold Wa
 rw[EX]
 congr 1
 refine OG _ _ _ λ n hn=>?_
 unfold TF
 rw[aa9 (List.mem_range.mp hn)]
theorem X5{g:List Nat}{t:Nat}(ht:1<=t)(hg:g≠[])(bh:List Nat)(b:Nat):Wa g t bh b≠[]:=by
 rw[X4 ht]
 intro q
 have h:=congrArg ie q
 rw[aa,aR]at h
 have h2:0<g.length:=by
  cases g with
  |nil=>exact absurd rfl hg
  |cons a l=>exact mz _
 have h3:min g.length (b / t+1)=0:=h
 generalize b / t=z at h3
 omega
theorem vd(f:ae)(d:List Nat)(B:Nat):∀k,(b8 f d B k).length=k+1
 |0=>rfl
 |k+1=>by show(b8 f d B k).length+1=_;rw[vd f d B k]
theorem EY(f:ae)(d:List Nat)(B:Nat):∀k,∀r∈b8 f d B k,r.length=B+1
 |0,r,h=>by
  have e:r=cG (B+1) 0:=by simpa [b8]using h
  rw[e,fm]
 |k+1,r,h=>by
  rcases List.mem_cons.mp h with q|q
  ·rw[q];unfold dR;simp
  ·exact EY f d B k r q
theorem TH{α:Type}[Inhabited α](l:List (List α))(h:0<l.length):l[0]? =some (l.headD []):=by
 cases l with
 |nil=>simp at h
 |cons a l=>rfl
theorem table_at(f:ae)(d:List Nat)(B:Nat):∀(k i:Nat),i<k->k<=f.cells.length->∃s,(b8 f d B k)[i+1]? =some s/\(b8 f d B k)[i]? =some (dR f d (f.cells.length-(k-i)) B s)
 |0,i,h,_=>by omega
 |k+1,0,_,hk=>by
  refine⟨(b8 f d B k).headD [],?_,rfl⟩
  show(b8 f d B k)[0]? =_
  exact TH _ (by rw[vd];omega)
 |k+1,i+1,h,hk=>by
  obtain⟨s,h1,h2⟩:=table_at f d B k i (by omega) (by omega)
  refine⟨s,h1,?_⟩
  show(b8 f d B k)[i]? =_
  rw[h2,show k+1-(i+1)=k-i by omega]
def thN(f:ae)(d:List Nat)(c b:Nat)(r s:List Nat):Nat:=((az (20-d.getD c 0+1)).find? λ n=>decide (n*(bx f c).time<=b) && (cY f c (d.getD c 0)-cY f c (d.getD c 0+n))+s.getD (b-n*(bx f c).time) 0 == r.getD b 0).getD 0
theorem K2(f:ae)(d:List Nat)(c b:Nat)(r s:List Nat)(t:List (List Nat)):gB f d c b (r::s::t)=thN f d c b r s::gB f d (c+1) (b-thN f d c b r s*(bx f c).time) (s::t):=rfl
theorem X6{f:ae}{d:List Nat}{c b B:Nat}{s:List Nat}(ht:1<=(bx f c).time)(hb:b<=B)(L:List Nat)(hL:L=Wa (gl f d c) (bx f c).time s b)(n:Nat)(hn:n=thN f d c b (dR f d c B s) s):
  L[n]? =some (vJ L)/\(∀(m:Nat) (z:Nat),m<n->L[m]? =some z->z≠vJ L)/\n*(bx f c).time<=b/\n<=20-d.getD c 0:=by
 have hr:(dR f d c B s).getD b 0=vJ L:=by
  rw[Rm,aB,ak,bf (by omega),hL];rfl
 have ne:L≠[]:=by
  rw[hL]
  refine X5 ht ?_ s b
  intro q
  have:=congrArg ie q
  rw[EX]at this;simp at this
 have hm:=DH L ne
 have le:∀m,L[m]? =if m<min (20-d.getD c 0+1) (b / (bx f c).time+1)then some (TF (gl f d c) (bx f c).time s b m)else none:=λ m=>by
  rw[hL,X4 ht,EX,ak]
  split
  ·rename_i h;rw[bf h];rfl
  ·rename_i h;rw[aI (by rw[aR];omega)];rfl
 have cv:∀m,m<20-d.getD c 0+1->TF (gl f d c) (bx f c).time s b m=(cY f c (d.getD c 0)-cY f c (d.getD c 0+m))+s.getD (b-m*(bx f c).time) 0:=λ m h=>by
  unfold TF;rw[aa9 h]
 cases q:(az (20-d.getD c 0+1)).find? λ n=>decide (n*(bx f c).time<=b) && (cY f c (d.getD c 0)-cY f c (d.getD c 0+n))+s.getD (b-n*(bx f c).time) 0 == (dR f d c B s).getD b 0 with
 |none=>
  exfalso
  rw[kH]at q
  obtain⟨i,hi,ei⟩:=cw hm
  have e1:L[i]? =some (vJ L):=by rw[af hi,ei]
  rw[le]at e1
  split at e1
  ·rename_i rN
   have e2:=Option.some.inj e1
   refine q i (List.mem_range.mpr (by omega)) ?_
   rw[bj,decide_eq_true_iff,beq_iff_eq,hr,<-e2,cv i (by omega)]
   exact⟨(yC ht).mpr (by omega),rfl⟩
  ·cases e1
 |some j=>
  have ej:n=j:=by rw[hn];unfold thN;rw[q];rfl
  subst ej
  rw[List.find?_range_eq_some]at q
  obtain⟨q1,q2,q3⟩:=q
  rw[bj,decide_eq_true_iff,beq_iff_eq,hr]at q1
  have rN:=List.mem_range.mp q2
  have hM:=(yC ht).mp q1.1
  refine⟨?_,λ m z hmn hz=>?_,q1.1,by omega⟩
  ·rw[le,if_pos (by omega),cv n rN,q1.2]
  ·rw[le,if_pos (by omega)]at hz
   have hz:=Option.some.inj hz
   have h3:=q3 m hmn
   rw[iT,Bool.and_eq_false_iff]at h3
   rcases h3 with h3|h3
   ·exact absurd ((yC ht).mpr (by omega)) (of_decide_eq_false h3)
   ·rw[beq_eq_false_iff_ne,hr,<-cv m (by omega),hz]at h3
    exact h3
theorem IG{l:List Nat}{m:Int}(h1:m∈l.map λ(n:Nat)=>(n:Int))(h2:∀y∈l.map (λ(n:Nat)=>(n:Int)),y<=m):m=((vJ l:Nat):Int):=by
 obtain⟨n,hn,rfl⟩:=List.mem_map.mp h1
 have:=aan hn λ y hy=>by
  have:=h2 _ (c9 hy)
  omega
 rw[this]
theorem Mw{H:Hp}{K:ah}{p:ag}{l:List Nat}(h:H p=some (.lst (nX l))):nE K H p ((l.map λ(n:Nat)=>(n:Int)).map V.int):=nE.of (by rw[h,uq];rfl)
theorem aao{g:List Nat}{t:Nat}{bh:List Nat}{b:Nat}:Wa g t bh b=((az g.length).map λ n=>if n*t<=b then some (TF g t bh b n)else none).filterMap id:=by
 unfold Wa
 rw[List.filterMap_map];rfl
theorem Rn{α β:Type}(g:α->β):∀l:List (Option α),(l.map (j8 g)).filterMap id=(l.filterMap id).map g
 |[]=>rfl
 |none::l=>Rn g l
 |some x::l=>by
  show g x::_=g x::_
  rw[Rn g l]
def FT:Sp:=λ vs H Q _=>∃(a:ag) (t:List Nat) (f:ae) (c e:Nat),vs=[.ref a,.int (e:Nat)]/\H a=some (.lst (nX t))/\(∀n<=20,t[n]? =some (cY f c n))/\c<f.cells.length/\e<=20/\GG H Q (nX ((az (20-e+1)).map λ n=>cY f c e-cY f c (e+n)))
abbrev IH:List Str:=["table","efforts","then"]
theorem FU:m9 IH ["table","efforts"] (m5 ya):=qh
theorem OH(F:pI K "cell_gains" "cell_gains" ya f fd)(qO:mg "range"=none)(nB:oF mg "MOST_EFFORTS" 20):nQ P w K mg base oG 1 f fd ["table","efforts"] FT:=by
 refine F.ok FU (λ vs H Q E h=>?_) (λ oW A outer s H vs Q E hr h=>?_)
 ·obtain⟨a,t,f,c,e,rfl,_⟩:=h
  rfl
 ·obtain⟨a,t,f,c,e,rfl,ha,ht,hc,he,k⟩:=h
  have nd:=FU.nd
  refine⟨_,(m6 (nj (qt (own:=[("then",2)]) rfl nd (Ke rfl qO (mW (pv 1) (mW (oj qV (nU nB) nO) mY))) (by exact pC.of (N:=IH) (sc:=m5 ya) (by decide +kernel)) (λ _ _ _ _ _=>by exact(nA (i:=2) nd rfl (Or.inl rfl))) (λ _ _ _ _ _=>by exact oR) (λ _ _ _ _ _=>by exact(oj sG (tY K (pv 0) (pv 1)) (tY K (pv 0) (pv 2))))))),?_⟩
  refine⟨_,rfl,_,_,rfl,rfl,_,_,rfl,⟨by omega,by omega,by omega,by omega⟩,?_⟩
  have en:((20:Int)+1-(e:Int)).toNat=20-e+1:=by omega
  show ∀D,_
  rw[en]
  refine oY (tN (e:Int) (20-e+1)) (nX ((az (20-e+1)).map λ n=>cY f c e-cY f c (e+n))) (by rw[m_,aa,aR]) (by rw[aA];omega) (λ j x y H3 R3 N3 hy pG hF kk=>?_) (λ D H3 hD pG uC=>k H3 D pG hD uC)
  obtain⟨v,q,rfl⟩:=ou hy
  have hj:j<20-e+1:=by
   have:=(List.getElem?_eq_some_iff.mp q).1
   simpa using this
  rw[ak,bf hj]at q
  have q:cY f c e-cY f c (e+j)=v:=Option.some.inj q
  subst hF
  have le:cY f c (e+j)<=cY f c e:=A3 (by omega) hc
  have kk2:R3 (V.int (((cY f c e:Nat):Int)-((cY f c (e+j):Nat):Int))) H3:=by
   have z:=kk H3 (m7.refl _)
   rw[<-q,Int.ofNat_sub le]at z
   exact z
  exact⟨rfl,sD ⟨_,rfl,_,rfl,a,_,_,_,rfl,rfl,nE.of (pG _ _ ha),ot (oU (ht e he)),_,rfl,_,rfl,a,_,_,_,rfl,rfl,nE.of (pG _ _ ha),at_of (j:=e+j) rfl (oU (ht (e+j) (by omega))),_,_,rfl,rfl,kk2⟩⟩
def EZ:Sp:=λ vs H Q _=>∃(ga ba:ag) (g bh:List Nat) (t b:Nat),vs=[.ref ga,.int (t:Nat),.ref ba,.int (b:Nat)]/\H ga=some (.lst (nX g))/\H ba=some (.lst (nX bh))/\g.length<=21/\t<=20/\b<bh.length/\GG H Q (nX (Wa g t bh b))
abbrev OI:List Str:=["gains","time","behind","spare","many","gain"]
theorem K3:m9 OI ["gains","time","behind","spare"] (m5 Dd):=qh
theorem Vi(F:pI K "choices" "choices" Dd f fd)(qk:mg "enumerate"=none):nQ P w K mg base oG 1 f fd ["gains","time","behind","spare"] EZ:=by
 refine F.ok K3 (λ vs H Q E h=>?_) (λ oW A outer s H vs Q E hr h=>?_)
 ·obtain⟨ga,ba,g,bh,t,b,rfl,_⟩:=h
  rfl
 ·obtain⟨ga,ba,g,bh,t,b,rfl,hg,hb,gl',ht,hbb,k⟩:=h
  have nd:=K3.nd
  refine⟨_,(m6 (nj (qt (own:=[("many",4),("gain",5)]) rfl nd (C4 rfl qk (mW (pv 0) mY)) (by exact pC.of (N:=OI) (sc:=m5 Dd) (by decide +kernel)) (λ _ _ _ _ _=>by exact(A2 K (n:=2) rfl (oJ (nA (i:=4) nd rfl (Or.inl rfl)) (oJ (nA (i:=5) nd rfl (Or.inl rfl)) rC)))) (λ _ _ _ _ _=>by exact(LL (oq p9 (oj wQ (pv 4) (pv 1)) (pv 3) (oK _)))) (λ _ _ _ _ _=>by exact(oj qV (pv 5) (tY K (pv 2) (oj sG (pv 3) (oj wQ (pv 4) (pv 1))))))))),?_⟩
  refine⟨_,rfl,ga,_,rfl,nE.of hg,?_⟩
  refine XR (UG (K:=K) (nE.of hg)) ((az g.length).map λ n=>if n*t<=b then some (V.int (TF g t bh b n:Nat))else none) (by rw[aa,aR,m_]) (by rw[m_,aA];omega) (λ j x y H3 R3 N3 hy pG hF kk kn=>?_) (λ D H3 hD pG uC=>k H3 D pG hD ?_)
  ·obtain⟨T,v,rfl,h1,h2⟩:=hF
   obtain⟨c,q,rfl⟩:=ou h1
   have hj:j<g.length:=(List.getElem?_eq_some_iff.mp q).1
   rw[ak,bf hj]at hy
   have hy:(if j*t<=b then some (V.int (TF g t bh b j:Nat))else none)=y:=Option.some.inj hy
   have cj:Qd (j:Int) (t:Int):=K0 (t:=j) (by omega) _
   refine⟨T,_,rfl,Bi.of h2,rfl,_,_,rfl,_,_,rfl,rfl,rfl,⟨_,rfl,_,rfl,_,_,rfl,rfl,cj,_,rfl,_,_,rfl,rfl,_,rfl,p_ (λ hc=>?_) λ hc=>?_⟩⟩
   ·have hc:(j:Int)*(t:Int)<=(b:Int):=of_decide_eq_true hc
    have VX:j*t<=b:=by
     have:((j*t:Nat):Int)<=(b:Int):=by rw[Int.natCast_mul];exact hc
     omega
    rw[if_pos VX]at hy
    have ez:(b:Int)-(j:Int)*(t:Int)=((b-j*t:Nat):Int):=by rw[Int.ofNat_sub VX,Int.natCast_mul]
    have gb:=getD_at (d:=bh) (c:=b-j*t) (by omega)
    have ec:((TF g t bh b j:Nat):Int)=(c:Int)+((bh.getD (b-j*t) 0:Nat):Int):=by
     unfold TF
     rw[Int.natCast_add,aB,q];rfl
    have z:=kk _ hy.symm H3 (m7.refl _)
    rw[ec]at z
    exact⟨_,rfl,_,rfl,_,rfl,_,rfl,_,rfl,_,_,rfl,rfl,cj,_,_,rfl,rfl,ba,_,_,_,rfl,rfl,nE.of (pG _ _ hb),at_of ez (oU gb),_,_,rfl,rfl,z⟩
   ·have hc:¬ (j:Int)*(t:Int)<=(b:Int):=λ q=>hc (decide_eq_true q)
    have VX:¬ j*t<=b:=λ q=>hc (by
     have:((j*t:Nat):Int)<=(b:Int):=by omega
     rw[Int.natCast_mul]at this;exact this)
    rw[if_neg VX]at hy
    exact kn hy.symm H3 (m7.refl _)
  ·rw[uC,aao]
   unfold nX
   rw[<-Rn,aW]
   congr 2
   congr 1
   refine bP λ n _=>?_
   show(if n*t<=b then some (V.int (TF g t bh b n:Nat))else none)=j8 _ (if n*t<=b then some (TF g t bh b n)else none)
   by_cases h:n*t<=b
   ·rw[if_pos h,if_pos h];rfl
   ·rw[if_neg h,if_neg h];rfl
def FV:Sp:=λ vs H Q _=>∃(ga ta:ag) (gs:List ag) (f:ae) (d:List Nat) (B:Nat),vs=[.ref ga,.ref ta,.int (B:Nat)]/\uo f/\H ga=some (.lst (gs.map V.ref))/\TabsAt H gs ((az f.cells.length).map (gl f d))/\H ta=some (.lst (nX (f.cells.map (·.time))))/\f.cells.length<=16/\B<=100/\∀H' p as,m7 H H'->H p=none->H' p=some (.lst (as.map V.ref))->TabsAt H' as (b8 f d B f.cells.length)->Q (.ref p) H'
abbrev Cr:List Str:=["gains","times","greatest","behind","most","cell","spare"]
theorem FY:m9 Cr ["gains","times","greatest"] (m5 vt):=qh
theorem OJ(F:pI K "most_gains" "most_gains" vt f fd)(qO:mg "range"=none)(pd:mg "len"=none)(OK:mg "max"=none)(ve:rB P w K mg base oG 1 "choices" ["gains","time","behind","spare"] EZ):nQ P w K mg base oG 2 f fd ["gains","times","greatest"] FV:=by
 refine F.ok FY (λ vs H Q E h=>?_) (λ oW A outer s H vs Q E hr h=>?_)
 ·obtain⟨ga,ta,gs,f,d,B,rfl,_⟩:=h
  rfl
 ·obtain⟨ga,ta,gs,f,d,B,rfl,T,hg,hG,ht,GH,hB,k⟩:=h
  have nd:=FY.nd
  refine⟨_,(mX (m8 (i:=3) nd rfl (Or.inr rfl) (qt (own:=[("spare",6)]) rfl nd (xx rfl qO (mW (oj qV (pv 2) nO) mY)) (by exact pC.of (N:=Cr) (sc:=m5 vt) (by decide +kernel)) (λ _ _ _ _ _=>by exact(nA (i:=6) nd rfl (Or.inl rfl))) (λ _ _ _ _ _=>by exact oR) (λ _ _ _ _ _=>by exact nO)))
   (mX (m8 (i:=4) nd rfl (Or.inl rfl) (nP (mW (pv 3) mY)))
   (mX (qB PassesOwn.never rfl (Uv rfl qO (mW (oj sG (nM nN rfl pd aX (mW (pv 0) mY)) nO) (mW (Sx LB nO) (mW (Sx LB nO) mY)))) (nA (i:=5) nd rfl (Or.inr rfl)) (mX (m8 (i:=3) nd rfl (Or.inr rfl) (qt (own:=[("spare",6)]) rfl nd (xx rfl qO (mW (oj qV (pv 2) nO) mY)) (by exact pC.of (N:=Cr) (sc:=m5 vt) (by decide +kernel)) (λ _ _ _ _ _=>by exact(nA (i:=6) nd rfl (Or.inl rfl))) (λ _ _ _ _ _=>by exact oR) (λ _ _ _ _ _=>by exact(aaj K rfl rfl OK (mW (nv (E:=E0) ve hr (by decide) nr (mW (tY K (pv 0) (pv 5)) (mW (tY K (pv 1) (pv 5)) (mW (pv 3) (mW (pv 6) mY))))) mY)))))
   (m6 (n_ (qT aG PySem.F.slot_list_insert PySem.F.type_list_insert Q_ (pv 4) (mW nO (mW (pv 3) mY)))))))
   (m6 (nj (pv 4)))))),?_⟩
  have eB:((B:Int)+1).toNat=B+1:=by omega
  refine⟨_,rfl,_,_,rfl,rfl,_,rfl,by omega,by omega,?_⟩
  refine oY (tN 0 _) (nX (cG (B+1) 0)) (by rw[m_,fm];exact eB.symm) (by rw[aA];show((B:Int)+1).toNat<=_;omega) (λ j x y H3 R3 N3 hy pG hF kk=>?_) (λ b0 H1 X2 s1 hb1=>?_)
  ·obtain⟨v,q,rfl⟩:=ou hy
   have e0:v=0:=by
    rw[gH]at q
    split at q
    ·exact(Option.some.inj q).symm
    ·cases q
   subst e0
   exact⟨rfl,sD (kk H3 (m7.refl _))⟩
  refine⟨_,rfl,(by show 1<=ay;decide),λ ms hms=>?_⟩
  have aap:=none_of s1 hms
  have nbm:b0≠ms:=λ q=>by rw[q,hms]at hb1;cases hb1
  have afj:gs.length=f.cells.length:=by rw[hG.1,aa,aR]
  refine⟨_,rfl,ga,_,rfl,.inl (nE.of (s1.put aap _ _ hg)),_,_,rfl,rfl,_,rfl,_,rfl,_,_,_,_,rfl,RgC.neg (by omega) (by rw[aa];omega) (by omega) (by omega),?_⟩
  have en:(((gs.map V.ref).length:Int)-1-(-1)).toNat=f.cells.length:=by rw[aa];omega
  show ∃W,_
  rw[en]
  refine Qo (n:=f.cells.length) (λ i σ H'=>∃(v5:Option V) (bh:ag) (as:List ag),σ=[some (.ref ga),some (.ref ta),some (.int (B:Nat)),some (.ref bh),some (.ref ms),v5,none]/\m7 H H'/\H' ms=some (.lst (as.map V.ref))/\TabsAt H' as (b8 f d B i)/\(∀a∈as,a≠ms)/\as[0]? =some bh)
   ⟨none,b0,[b0],rfl,s1.put aap,mZ,⟨rfl,λ j a t q1 q2=>?_⟩,λ a ha=>?_,rfl⟩ ?_ ?_
  ·have ej:j=0:=by
    have:=(List.getElem?_eq_some_iff.mp q1).1
    simp at this;exact this
   subst ej
   cases q1
   have:t=cG (B+1) 0:=(Option.some.inj q2).symm
   rw[this,m4 nbm];exact hb1
  ·have:a=b0:=by simpa using ha
   rw[this];exact nbm
  ·rintro i σ H' hi ⟨v5,bh,as,rfl,sm,hM,hA,xD,h0⟩
   have ez:((gs.map V.ref).length:Int)-1+(i:Nat)*(-1)=((f.cells.length-(i+1):Nat):Int):=by rw[aa];omega
   have hc:f.cells.length-(i+1)<f.cells.length:=by omega
   generalize hcc:f.cells.length-(i+1)=c at ez hc
   have t20:=uN T c
   have afo:as.length=i+1:=by rw[hA.1,vd]
   have hd0:=TH (b8 f d B i) (by rw[vd];omega)
   have hbh:=hA.2 0 bh _ h0 hd0
   have lbh:((b8 f d B i).headD []).length=B+1:=EY f d B i _ (aC hd0)
   have g1:gs[c]? =some (gs[c]'(by omega)):=af _
   have g2:((az f.cells.length).map (gl f d))[c]? =some (gl f d c):=by rw[ak,bf hc];rfl
   have g3:=hG.2 c _ _ g1 g2
   have g4:(gs.map V.ref)[c]? =some (V.ref (gs[c]'(by omega))):=by rw[ak,g1];rfl
   have tl:=GZ (f:=f) hc
   refine⟨_,rfl,_,_,rfl,rfl,_,rfl,by omega,by omega,?_⟩
   refine oY (tN 0 _) (nX (dR f d c B ((b8 f d B i).headD []))) (by rw[m_,Rm,aa,aR];exact eB.symm) (by rw[aA];show((B:Int)+1).toNat<=_;omega) (λ j x y H3 R3 N3 hy pG hF kk=>?_) (λ bn H3 hbn s3 hb3=>?_)
   ·obtain⟨v,q,rfl⟩:=ou hy
    rw[Rm,ak]at q
    have hj:j<B+1:=by
     cases z:(az (B+1))[j]? with
     |none=>rw[z]at q;cases q
     |some z'=>have:=(List.getElem?_eq_some_iff.mp z).1;simpa using this
    rw[bf hj]at q
    have q:vJ (Wa (gl f d c) (bx f c).time ((b8 f d B i).headD []) j)=v:=Option.some.inj q
    have e:(0:Int)+(j:Int)=(j:Int):=Int.zero_add _
    rw[e]at hF
    subst hF
    have s3':=sm.trans pG
    refine⟨rfl,sD ⟨_,rfl,_,rfl,ga,_,_,_,rfl,rfl,nE.of (s3' _ _ hg),at_of ez g4,_,rfl,_,rfl,ta,_,_,_,rfl,rfl,nE.of (s3' _ _ ht),at_of ez (oU tl),_,rfl,_,rfl,gs[c]'(by omega),bh,gl f d c,_,(bx f c).time,j,rfl,s3' _ _ g3,pG _ _ hbh,by rw[EX];omega,t20.2,by omega,λ H5 p s5 hp hp5=>?_⟩⟩
    refine⟨p,_,rfl,Mw hp5,?_,λ m hm1 hm2=>?_⟩
    ·rw[aa]
     refine b_ λ z=>X5 t20.1 ?_ _ _ (List.length_eq_zero_iff.mp z)
     intro z
     have:=congrArg ie z
     rw[EX]at this;simp at this
    ·rw[IG hm1 hm2,q]
     exact kk H5 s5
   have hM3:=s3 _ _ hM
   have nbn:bn≠ms:=λ q=>by rw[q,hM]at hbn;cases hbn
   refine⟨_,rfl,.inl ⟨rfl,_,nE.of hM3⟩,_,rfl,ms,_,_,rfl,rfl,hM3,(by rw[aa,aA];omega),?_⟩
   refine⟨_,bn,bn::as,rfl,(sm.trans s3).put aap,by rw[mZ];rfl,⟨by rw[aD,hA.1];rfl,λ j a t q1 q2=>?_⟩,λ a ha=>?_,rfl⟩
   ·cases j with
    |zero=>
     cases q1
     have e2:t=dR f d c B ((b8 f d B i).headD []):=by rw[<-hcc];exact(Option.some.inj q2).symm
     rw[e2,m4 nbn];exact hb3
    |succ j=>
     have q1:as[j]? =some a:=q1
     rw[m4 (xD a (aC q1))]
     exact s3 _ _ (hA.2 j a t q1 q2)
   ·rcases List.mem_cons.mp ha with z|z
    ·rw[z];exact nbn
    ·exact xD a z
  ·rintro σ H' ⟨v5,bh,as,rfl,sm,hM,hA,xD,h0⟩
   exact⟨_,rfl,k H' ms as sm aap hM hA⟩
def FZ:Sp:=λ vs H Q _=>∃(a b c:ag) (as:List ag) (f:ae) (d:List Nat) (B:Nat),vs=[.ref a,.ref b,.ref c,.int (B:Nat)]/\uo f/\H a=some (.lst (as.map V.ref))/\TabsAt H as (n9 f)/\H b=some (.lst (nX d))/\H c=some (.lst (nX (f.cells.map (·.time))))/\d.length=f.cells.length/\(∀n∈d,n<=20)/\f.cells.length<=16/\B<=100/\GG H Q (nX (f_ f d B))
abbrev IJ:List Str:=["tables","had","times","greatest","gains","most","row","spare","cell","time","gained","many","table","efforts"]
theorem F1:m9 IJ ["tables","had","times","greatest"] (m5 yc):=qh
theorem OL(F:pI K "thrift_row" "thrift_row" yc f fd)(xI:mg "zip"=none)(yD:rB P w K mg base oG 1 "cell_gains" ["table","efforts"] FT)(yE:rB P w K mg base oG 2 "most_gains" ["gains","times","greatest"] FV)(qk:mg "enumerate"=none)(ve:rB P w K mg base oG 1 "choices" ["gains","time","behind","spare"] EZ)(OK:mg "max"=none):nQ P w K mg base oG 3 f fd ["tables","had","times","greatest"] FZ:=by
 refine F.ok F1 (λ vs H Q E h=>?_) (λ oW A outer s H vs Q E hr h=>?_)
 ·obtain⟨a,b,c,as,f,d,B,rfl,_⟩:=h
  rfl
 ·obtain⟨a,b,c,as,f,d,B,rfl,T,ha,hT,hb,hc,hd,tu,GH,hB,k⟩:=h
  have nd:=F1.nd
  refine⟨_,(mX (zN (i:=4) (own:=[("table",12),("efforts",13)]) rfl nd rfl rfl rfl (Eo rfl xI (mW (pv 0) (mW (pv 1) mY))) (by exact pC.of (N:=IJ) (sc:=m5 yc) (by decide +kernel)) (λ _ _ _ _ _=>by exact(A2 K (n:=2) rfl (oJ (nA (i:=12) nd rfl (Or.inl rfl)) (oJ (nA (i:=13) nd rfl (Or.inl rfl)) rC)))) (λ _ _ _ _ _=>by exact oR) (λ _ _ _ _ _=>by exact(nv (E:=E0) yD hr (by decide) nr (mW (pv 12) (mW (pv 13) mY)))))
   (mX (m8 (i:=5) nd rfl (Or.inl rfl) (nv (E:=E0) yE hr (by decide) nr (mW (pv 4) (mW (pv 2) (mW (pv 3) mY)))))
   (mX (m8 (i:=6) nd rfl (Or.inl rfl) (nP mY))
   (mX (m8 (i:=7) nd rfl (Or.inl rfl) (pv 3))
   (mX (qB PassesOwn.never rfl (C4 rfl qk (mW (pv 2) mY)) (zF rfl (oJ (nA (i:=8) nd rfl (Or.inl rfl)) (oJ (nA (i:=9) nd rfl (Or.inl rfl)) rC))) (mX (m8 (i:=10) nd rfl (Or.inl rfl) (nv (E:=E0) ve hr (by decide) nr (mW (o_ og (pv 4) (pv 8) (λ _ _=>rfl)) (mW (pv 9) (mW (o_ og (pv 5) (oj qV (pv 8) nO) (λ _ _=>rfl)) (mW (pv 7) mY))))))
   (mX (m8 (i:=11) nd rfl (Or.inl rfl) (qT aG js PySem.F.type_list_index Ws (pv 10) (mW (nM (Ql rfl) rfl OK lx (mW (pv 10) mY)) mY)))
   (mX (n_ (qT aG bc a_ pF (pv 6) (mW (pv 11) mY)))
   (m6 (G7 (i:=7) nd rfl (Or.inl rfl) (oj wQ (pv 11) (pv 9)) P_))))))
   (m6 (nj (pv 6)))))))),?_⟩
  have lA:as.length=f.cells.length:=by rw[hT.1,pO]
  refine⟨_,rfl,_,rfl,a,b,_,_,rfl,nE.of ha,nE.of hb,?_⟩
  refine QS (Hn (K:=K) (nE.of ha) (nE.of hb) (by rw[m_,aa,lA,hd])) (λ j=>.lst (nX (gl f d j))) (by rw[aa,aA];omega) (λ j y H3 R3 N3 hj pG hF kk=>?_) (λ ga H1 gs hga s1 adO hlen hgs=>?_)
  ·obtain⟨TT,x1,y1,rfl,q1,q2,Vf⟩:=hF
   obtain⟨n,e1,rfl⟩:=ou q2
   rw[ak]at q1
   cases e2:as[j]? with
   |none=>rw[e2]at q1;cases q1
   |some aj=>
    rw[e2]at q1;cases q1
    have Y_:j<f.cells.length:=by rw[<-lA];exact(List.getElem?_eq_some_iff.mp e2).1
    have ec:f.cells[j]? =some f.cells[j]:=af Y_
    have q3:(n9 f)[j]? =some (rG f.cells[j].weight f.cells[j].finds f.parts):=by
     unfold n9
     rw[ak,ec];rfl
    have gd:d.getD j 0=n:=by rw[aB,e1];rfl
    refine⟨TT,_,rfl,Bi.of Vf,rfl,_,_,rfl,_,_,rfl,rfl,rfl,sD ⟨_,rfl,_,rfl,aj,_,f,j,n,rfl,pG _ _ (hT.2 j aj _ e2 q3),λ m hm=>by rw[wA ec];exact vB hm,Y_,tu n (aC e1),λ H4 p s4 hp hp4=>kk p H4 s4 hp ?_⟩⟩
    rw[hp4]
    unfold gl
    rw[gd]
  rw[aa,lA]at hlen
  have hG:TabsAt H1 gs ((az f.cells.length).map (gl f d)):=⟨by rw[hlen,aa,aR],λ j a' t q1 q2=>by
   have hj:j<f.cells.length:=by rw[<-hlen];exact(List.getElem?_eq_some_iff.mp q1).1
   rw[ak,bf hj]at q2
   rw[(hgs j a' q1).2,<-Option.some.inj q2]⟩
  refine⟨_,rfl,_,rfl,_,rfl,ga,c,gs,f,d,B,rfl,T,adO,hG,s1 _ _ hc,GH,hB,λ H2 ms ts s2 hms ae1 hts=>?_⟩
  have vD:=s1.trans s2
  refine⟨aE _,λ wb hrw=>?_⟩
  have adP:=none_of vD hrw
  have ae2:=vd f d B f.cells.length
  refine⟨_,rfl,_,rfl,c,_,rfl,nE.of (vD.put adP _ _ hc),Dn (K:=K) (a:=c) (xs:=nX (f.cells.map (·.time))) (λ i σ H'=>∃(v8 v9 v10 v11:Option V) (R:List Nat) (b':Nat),σ=[some (.ref a),some (.ref b),some (.ref c),some (.int (B:Nat)),some (.ref ga),some (.ref ms),some (.ref wb),some (.int (b':Nat)),v8,v9,v10,v11,none,none]/\m7 H2 H'/\H' wb=some (.lst (nX R))/\R.length=i/\b'<=B/\f_ f d B=R++gB f d i b' ((b8 f d B f.cells.length).drop i))
   ⟨none,none,none,none,[],B,rfl,m7.new hrw,mZ,rfl,ax _,rfl⟩ (λ i σ H' _ ⟨_,_,_,_,_,_,_,sm,_⟩=>nE.of (sm _ _ (vD _ _ hc))) ?_ ?_⟩
  ·rintro i x TT σ H' hx ⟨v8,v9,v10,v11,R,b',rfl,sm,hR,hRl,hb',heq⟩ Vf
   obtain⟨tm,q,rfl⟩:=ou hx
   have hi:i<f.cells.length:=by have:=(List.getElem?_eq_some_iff.mp q).1;rw[aa]at this;exact this
   have etm:tm=(bx f i).time:=by rw[GZ hi]at q;exact(Option.some.inj q).symm
   subst etm
   have t20:=uN T i
   have sT:m7 H2 (upd H' TT (.tup [.int (i:Nat),.int ((bx f i).time:Nat)])):=sm.trans (m7.new Vf)
   have nR:wb≠TT:=λ q=>by rw[<-q,hR]at Vf;cases Vf
   obtain⟨s,w1,w2⟩:=table_at f d B f.cells.length i hi (ax _)
   rw[show f.cells.length-(f.cells.length-i)=i by omega]at w2
   have g1:gs[i]? =some (gs[i]'(by omega)):=af _
   have g2:((az f.cells.length).map (gl f d))[i]? =some (gl f d i):=by rw[ak,bf hi];rfl
   have g3:=s2 _ _ (hG.2 i _ _ g1 g2)
   have g4:(gs.map V.ref)[i]? =some (V.ref (gs[i]'(by omega))):=by rw[ak,g1];rfl
   have lts:ts.length=f.cells.length+1:=by rw[hts.1,ae2]
   have m1:ts[i+1]? =some (ts[i+1]'(by omega)):=af _
   have m2:(ts.map V.ref)[i+1]? =some (V.ref (ts[i+1]'(by omega))):=by rw[ak,m1];rfl
   have m3:=hts.2 (i+1) _ _ m1 w1
   have ls:=EY f d B _ s (aC w1)
   refine⟨TT,_,rfl,Bi.of mZ,rfl,_,_,rfl,_,_,rfl,rfl,?_⟩
   refine⟨_,rfl,_,rfl,ga,_,_,_,rfl,rfl,nE.of (sT _ _ (s2 _ _ adO)),ot g4,_,rfl,_,rfl,_,rfl,_,_,rfl,rfl,ms,_,_,_,rfl,rfl,nE.of (sT _ _ ae1),ot m2,_,rfl,gs[i]'(by omega),ts[i+1]'(by omega),gl f d i,s,(bx f i).time,b',rfl,sT _ _ g3,sT _ _ m3,by rw[EX];omega,t20.2,by omega,λ H4 gd s4 hgd acu=>?_⟩
   obtain⟨n1,n2,n3,n4⟩:=X6 (f:=f) (d:=d) (c:=i) (b:=b') (B:=B) (s:=s) t20.1 hb' _ rfl _ rfl
   have neL:Wa (gl f d i) (bx f i).time s b'≠[]:=by
    intro z;rw[z]at n1;simp at n1
   generalize hL:Wa (gl f d i) (bx f i).time s b'=L at *
   generalize hn:thN f d i b' (dR f d i B s) s=n at *
   refine⟨_,rfl,.inl ⟨rfl,_,nE.of acu⟩,_,rfl,gd,_,rfl,Mw acu,?_,λ m hm1 hm2=>?_⟩
   ·rw[aa];exact b_ λ z=>neL (List.length_eq_zero_iff.mp z)
   have em:=IG hm1 hm2
   subst em
   refine⟨gd,_,_,n,_,rfl,rfl,nE.of acu,rfl,?_,oU n1,?_,λ m z' hmn VY=>?_,?_⟩
   ·rw[fz]
    intro z hz
    obtain⟨z0,_,rfl⟩:=List.mem_map.mp hz
    rfl
   ·show((vJ L:Int) == (vJ L:Int))=true
    exact beq_self_eq_true _
   ·obtain⟨z0,q0,rfl⟩:=ou VY
    have:=n2 m z0 hmn q0
    show((z0:Int) == (vJ L:Int))=false
    rw[beq_eq_false_iff_ne];omega
   have Y8:H4 wb=some (.lst (nX R)):=s4 _ _ (by rw[m4 nR];exact hR)
   refine⟨_,rfl,.inl ⟨rfl,_,nE.of Y8⟩,_,rfl,wb,_,_,rfl,rfl,Y8,(by rw[m_,aA];omega),?_⟩
   refine⟨_,rfl,_,rfl,_,rfl,_,_,rfl,rfl,K0 (t:=n) (by omega) _,Mq (z:=((b'-n*(bx f i).time:Nat):Int)) ?_ ?_⟩
   ·rw[Int.ofNat_sub n3,Int.natCast_mul]
   refine⟨_,_,_,_,R++[n],b'-n*(bx f i).time,rfl,(sT.trans s4).put hrw,?_,by rw[aw,hRl];rfl,by omega,?_⟩
   ·rw[mZ];unfold nX;rw[aF];rfl
   ·rw[heq,yw w2,yw w1,K2,hn,bB];rfl
  ·rintro σ H' ⟨v8,v9,v10,v11,R,b',rfl,sm,hR,hRl,hb',heq⟩
   rw[m_,aa]at heq
   have e1:(b8 f d B f.cells.length).drop f.cells.length=[((b8 f d B f.cells.length)[f.cells.length]'(by omega))]:=by
    rw[d9 (by omega),gP (by omega)]
   rw[e1]at heq
   have e2:f_ f d B=R:=by rw[heq];exact bD _
   rw[e2]at k
   exact⟨_,rfl,k H' wb (vD.trans sm) adP hR⟩
def pick(I:Nat->Bool)(k:Nat)(ts:List aL):List aL:=((ts.zipIdx k).filter λ x=>I x.2).map (·.1)
theorem IK(I:Nat->Bool)(k:Nat):pick I k []=[]:=rfl
theorem tR(I:Nat->Bool)(k:Nat)(t:aL)(ts:List aL):pick I k (t::ts)=(if I k=true then[t]else[])++pick I (k+1) ts:=by
 unfold pick
 rw[d8,fq]
 by_cases h:I k=true
 ·rw[if_pos h,if_pos h];rfl
 ·rw[if_neg h,if_neg h];rfl
theorem IL(I:Nat->Bool):∀(ts:List aL) (k:Nat) (t:aL),t∈pick I k ts↔ ∃i,ts[i]? =some t/\I (k+i)=true
 |[],k,t=>by rw[IK];simp
 |a::ts,k,t=>by
  rw[tR,lE,IL I ts (k+1) t]
  constructor
  ·rintro(h|⟨i,h1,h2⟩)
   ·by_cases hk:I k=true
    ·rw[if_pos hk]at h
     have:t=a:=by simpa using h
     exact⟨0,by rw[this];rfl,hk⟩
    ·rw[if_neg hk]at h;cases h
   ·exact⟨i+1,h1,by rw[show k+(i+1)=k+1+i by omega];exact h2⟩
  ·rintro⟨i,h1,h2⟩
   cases i with
   |zero=>
    refine .inl ?_
    have h2:I k=true:=h2
    rw[if_pos h2]
    cases h1;simp
   |succ i=>exact .inr ⟨i,h1,by rw[show k+1+i=k+(i+1) by omega];exact h2⟩
theorem Cs{I J:Nat->Bool}:∀(ts:List aL) (k:Nat),(∀i,k<=i->I i=J i)->pick I k ts=pick J k ts
 |[],_,_=>rfl
 |t::ts,k,h=>by rw[tR,tR,h k (ax _),Cs ts (k+1) λ i hi=>h i (by omega)]
def vK{α:Type}(made:List (List α))(t:α):List (List α):=made++made.map λ L=>L++[t]
def nJ{α:Type}(ts:List α):List (List α):=ts.foldl vK [[]]
theorem OM:∀(ts:List aL) (made:List (List aL)) (k:Nat) (L:List aL),L∈ts.foldl vK made↔ ∃M∈made,∃I,L=M++pick I k ts
 |[],made,k,L=>by
  rw[List.foldl_nil]
  constructor
  ·intro h;exact⟨L,h,λ _=>false,by rw[IK,bD]⟩
  ·rintro⟨M,hM,I,rfl⟩;rw[IK,bD];exact hM
 |t::ts,made,k,L=>by
  rw[ck,OM ts (vK made t) (k+1) L]
  constructor
  ·rintro⟨M,hM,I,rfl⟩
   rcases List.mem_append.mp hM with h|h
   ·refine⟨M,h,λ i=>if i=k then false else I i,?_⟩
    rw[tR]
    simp only[if_true]
    rw[Cs (I:=λ i=>if i=k then false else I i) (J:=I) ts (k+1) λ i hi=>if_neg (by omega)]
    rfl
   ·obtain⟨M0,h0,rfl⟩:=List.mem_map.mp h
    refine⟨M0,h0,λ i=>if i=k then true else I i,?_⟩
    rw[tR]
    simp only[if_true]
    rw[Cs (I:=λ i=>if i=k then true else I i) (J:=I) ts (k+1) λ i hi=>if_neg (by omega),bB]
  ·rintro⟨M,hM,I,rfl⟩
   rw[tR]
   by_cases h:I k=true
   ·rw[if_pos h]
    exact⟨M++[t],cy _ (c9 hM),I,by rw[bB]⟩
   ·rw[if_neg h]
    exact⟨M,ib _ hM,I,rfl⟩
theorem wH(ts:List aL)(L:List aL):L∈nJ ts↔ ∃I,L=pick I 0 ts:=by
 unfold nJ
 rw[OM ts [[]] 0 L]
 constructor
 ·rintro⟨M,hM,I,rfl⟩
  have:M=[]:=by simpa using hM
  exact⟨I,by rw[this];rfl⟩
 ·rintro⟨I,rfl⟩;exact⟨[],by simp,I,rfl⟩
def rQ(ts:List aL):Nat:=aZ (ts.map λ t=>t.efforts)
theorem A8(t:aL)(ts:List aL):rQ (t::ts)=t.efforts+rQ ts:=by unfold rQ;rw[aH,ow]
theorem ON:∀(a b:List aL),rQ (a++b)=rQ a+rQ b
 |[],b=>by show rQ b=0+ _;omega
 |t::a,b=>by rw[jb,A8,A8,ON a b];omega
def ur(L:List aL)(c:Nat):Bool:=L.any λ t=>t.cells.contains c
def reach(f:ae)(I:Nat->Bool)(c:Nat):Bool:=ur (pick I 0 f.teams) c
theorem E1{f:ae}{I:Nat->Bool}{c:Nat}:reach f I c=true↔ ∃i t,f.teams[i]? =some t/\I i=true/\c∈t.cells:=by
 unfold reach ur
 rw[dI]
 constructor
 ·rintro⟨t,h1,h2⟩
  obtain⟨i,h3,h4⟩:=(IL I f.teams 0 t).mp h1
  rw[cW]at h4
  exact⟨i,t,h3,h4,List.contains_iff_mem.mp h2⟩
 ·rintro⟨i,t,h1,h2,h3⟩
  exact⟨t,(IL I f.teams 0 t).mpr ⟨i,h1,by rw[cW];exact h2⟩,List.contains_iff_mem.mpr h3⟩
def Aj(f:ae)(I:Nat->Bool):Nat:=(slots f).countP λ t=> !I t
theorem IM(I:Nat->Bool):∀(ts:List aL) (k:Nat),(((ts.zipIdx k).flatMap λ x=>cG x.1.efforts x.2).countP λ t=> !I t)+rQ (pick I k ts)=rQ ts
 |[],k=>rfl
 |t::ts,k=>by
  rw[d8,eW,List.countP_append,tR,ON,A8,List.countP_replicate]
  have ih:=IM I ts (k+1)
  by_cases h:I k=true
  ·have h1:(!I k)=false:=by rw[h];rfl
   rw[if_pos h,h1,A8]
   have:rQ ([]:List aL)=0:=rfl
   simp only[kJ,if_false]
   omega
  ·have h1:(!I k)=true:=by simp[h]
   rw[if_neg h,h1]
   have:rQ ([]:List aL)=0:=rfl
   simp only[if_true]
   omega
theorem TJ(f:ae)(I:Nat->Bool):Aj f I+rQ (pick I 0 f.teams)=rQ f.teams:=IM I f.teams 0
theorem Vj(f:ae):(slots f).length=rQ f.teams:=by
 have h:=TJ f λ _=>false
 have e1:pick (λ _=>false) 0 f.teams=[]:=by unfold pick;simp
 have e2:Aj f (λ _=>false)=(slots f).length:=by unfold Aj;simp
 rw[e1,e2]at h
 exact h
theorem Mx{f:ae}{s c:Nat}:cD f s c=true↔ ∃i t,(slots f)[s]? =some i/\f.teams[i]? =some t/\c∈t.cells:=by
 unfold cD
 constructor
 ·intro h
  cases q:(slots f)[s]? with
  |none=>rw[q]at h;cases h
  |some i=>
   rw[q,dE]at h
   cases q2:f.teams[i]? with
   |none=>rw[q2]at h;cases h
   |some t=>
    rw[q2]at h
    exact⟨i,t,rfl,q2,List.contains_iff_mem.mp h⟩
 ·rintro⟨i,t,h1,h2,h3⟩
  rw[h1,dE,h2]
  exact List.contains_iff_mem.mpr h3
theorem IP{f:ae}{s c:Nat}(h:cD f s c=true):s<(slots f).length:=by
 obtain⟨i,t,h1,_⟩:=Mx.mp h
 exact(List.getElem?_eq_some_iff.mp h1).1
structure PQ(f:ae)(u:Use):Prop where
 nd:(u.map (·.1)).Nodup
 ok:∀x∈u,cD f x.1 x.2=true
def yF(f:ae)(seen:List Nat):Nat:=(az (slots f).length).countP λ s=> !seen.contains s
theorem K4{α:Type}{p q:α->Bool}:∀{l:List α},(∀x∈l,p x=true->q x=true)->(∃x∈l,q x=true/\p x=false)->l.countP p<l.countP q
 |[],_,⟨x,hx,_⟩=>by cases hx
 |a::l,h,⟨x,hx,h1,h2⟩=>by
  have mono:∀l':List α,(∀y∈l',p y=true->q y=true)->l'.countP p<=l'.countP q:=λ l' g=>List.countP_mono_left g
  rw[fv,fv]
  rcases List.mem_cons.mp hx with e|e
  ·subst e
   rw[h1,h2]
   have:=mono l λ y hy=>h y (by simp[hy])
   simp;omega
  ·have ih:=K4 (l:=l) (λ y hy=>h y (by simp[hy])) ⟨x,e,h1,h2⟩
   have ha:=h a (by simp)
   cases pa:p a with
   |false=>simp;omega
   |true=>rw[ha pa];simp;omega
theorem Vk{f:ae}{seen q:List Nat}{s:Nat}(hs:s<(slots f).length)(h1:s∉q)(h2:∀t∈seen,t∈q):yF f (s::q)<yF f seen:=by
 refine K4 (λ x _ hx=>?_) ⟨s,List.mem_range.mpr hs,?_,?_⟩
 ·rw[iT,<-gI,dk]at hx ⊢
  exact λ z=>hx (aQ _ (h2 x z))
 ·rw[iT,<-gI,dk]
  exact λ z=>h1 (h2 s z)
 ·rw[Bool.not_eq_false',dk];simp
theorem Ro{f:ae}{u:Use}(M:PQ f u)(p:Nat×Nat->Bool):PQ f (u.filter p):=
 ⟨List.Nodup.sublist (List.filter_sublist.map _) M.nd,λ x hx=>M.ok x ((List.mem_filter.mp hx).1)⟩
theorem OO:∀{u:Use} {x:Nat×Nat},(u.map (·.1)).Nodup->x∈u->u.Perm (x::u.filter λ y=>y.1 != x.1)
 |[],x,_,h=>by cases h
 |a::u,x,nd,h=>by
  rw[aH,gT]at nd
  rcases List.mem_cons.mp h with e|e
  ·subst e
   rw[fq,if_neg (by simp)]
   have:u.filter (λ y=>y.1 != x.1)=u:=by
    rw[List.filter_eq_self]
    intro y hy
    rw[bne_iff_ne]
    intro q
    exact nd.1 (by rw[<-q];exact c9 hy)
   rw[this]
  ·have ne:(a.1 != x.1)=true:=by
    rw[bne_iff_ne]
    intro q
    exact nd.1 (by rw[q];exact c9 e)
   rw[fq,if_pos ne]
   exact((OO nd.2 e).cons a).trans (List.Perm.swap x a _)
def My(f:ae)(c:Nat)(seen:List Nat)(u:Use)(pre:List Nat)(r:Option Use×List Nat):Prop:=(∀s∈seen,s∈r.2)/\match r.1 with
 |some v=>PQ f v/\(v.map (·.2)).Perm (c::u.map (·.2))/\∀s∈v.map (·.1),s∈u.map (·.1)\/s∉seen
 |none=>(∀s∈pre,s∈r.2)/\∀s∈r.2,s∉seen->∃c',(s,c')∈u/\∀s',cD f s' c'=true->s'∈r.2
def Mz(f:ae)(k c:Nat)(u:Use)(r:Option Use×List Nat)(s:Nat):Option Use×List Nat:=match r.1 with
  |some _=>r
  |none=>if r.2.contains s=true then r else match u.find? λ x=>x.1 == s with
   |none=>(some ((s,c)::u),s::r.2)
   |some x=>match ip f k x.2 (s::r.2) (u.filter λ y=>y.1 != s)with
    |(some v,q)=>(some ((s,c)::v),q)
    |(none,q)=>(none,q)
theorem MA(f:ae)(k c:Nat)(seen:List Nat)(u:Use):ip f (k+1) c seen u=((az (slots f).length).filter λ s=>cD f s c).foldl (Mz f k c u) (none,seen):=rfl
theorem Rp{f:ae}{k c:Nat}{u:Use}{seen pre:List Nat}{r:Option Use×List Nat}{s:Nat}(M:PQ f u)(hs:cD f s c=true)(hk:yF f seen<k+1)
  (ih:∀(c:Nat) (seen:List Nat) (u:Use),PQ f u->yF f seen<k->My f c seen u ((az (slots f).length).filter λ s=>cD f s c) (ip f k c seen u))(h:My f c seen u pre r):My f c seen u (pre++[s]) (Mz f k c u r s):=by
 obtain⟨o,q⟩:=r
 cases o with
 |some v=>exact h
 |none=>
  obtain⟨h1,h2,h3⟩:=h
  have h1:∀t∈seen,t∈q:=h1
  have h2:∀t∈pre,t∈q:=h2
  have h3:∀t∈q,t∉seen->∃c',(t,c')∈u/\∀s',cD f s' c'=true->s'∈q:=h3
  show My f c seen u (pre++[s]) (if q.contains s=true then(none,q)else _)
  by_cases hc:q.contains s=true
  ·rw[if_pos hc]
   refine⟨h1,λ t ht=>?_,h3⟩
   rcases List.mem_append.mp ht with z|z
   ·exact h2 t z
   ·have:t=s:=by simpa using z
    rw[this];exact List.contains_iff_mem.mp hc
  ·rw[if_neg hc]
   have Zc:s∉q:=λ z=>hc (List.contains_iff_mem.mpr z)
   have hss:s∉seen:=λ z=>Zc (h1 s z)
   cases fd:u.find? (λ x=>x.1 == s)with
   |none=>
    rw[kH]at fd
    have su:s∉u.map (·.1):=λ z=>by
     obtain⟨x,hx,e⟩:=List.mem_map.mp z
     exact fd x hx (by rw[e];exact beq_self_eq_true s)
    refine⟨λ t ht=>aQ _ (h1 t ht),⟨?_,λ x hx=>?_⟩,List.Perm.refl _,λ t ht=>?_⟩
    ·rw[aH,gT];exact⟨su,M.nd⟩
    ·rcases List.mem_cons.mp hx with e|e
     ·rw[e];exact hs
     ·exact M.ok x e
    ·rw[aH]at ht
     rcases List.mem_cons.mp ht with e|e
     ·rw[e];exact .inr hss
     ·exact .inl e
   |some x=>
    have hx:x∈u:=jB fd
    have ex:x.1=s:=eq_of_beq (List.find?_some (p:=λ(x:Nat×Nat)=>x.1 == s) fd)
    have M':=Ro M λ y=>y.1 != s
    have po:=OO M.nd hx
    rw[ex]at po
    have I:=ih x.2 (s::q) _ M' (by have:=Vk (f:=f) (IP hs) Zc h1;omega)
    have nb:s∉(u.filter λ y=>y.1 != s).map (·.1):=λ z=>by
     obtain⟨y,hy,e⟩:=List.mem_map.mp z
     have:=(List.mem_filter.mp hy).2
     rw[bne_iff_ne]at this
     exact this e
    have fu:∀t∈(u.filter λ y=>y.1 != s).map (·.1),t∈u.map (·.1):=λ t ht=>by
     obtain⟨y,hy,e⟩:=List.mem_map.mp ht
     exact List.mem_map.mpr ⟨y,(List.mem_filter.mp hy).1,e⟩
    dsimp only
    generalize ip f k x.2 (s::q) (u.filter λ y=>y.1 != s)=R at I
    obtain⟨o2,q2⟩:=R
    cases o2 with
    |some v=>
     obtain⟨i1,i2,i3,i4⟩:=I
     have i1:∀t∈s::q,t∈q2:=i1
     have sv:s∉v.map (·.1):=λ z=>by
      rcases i4 s z with e|e
      ·exact nb e
      ·exact e (by simp)
     refine⟨λ t ht=>i1 t (by simp[h1 t ht]),⟨?_,λ y hy=>?_⟩,?_,λ t ht=>?_⟩
     ·rw[aH,gT];exact⟨sv,i2.nd⟩
     ·rcases List.mem_cons.mp hy with e|e
      ·rw[e];exact hs
      ·exact i2.ok y e
     ·rw[aH]
      refine List.Perm.cons c (i3.trans ?_)
      have:=(po.map (·.2)).symm
      rw[aH]at this
      exact this
     ·rw[aH]at ht
      rcases List.mem_cons.mp ht with e|e
      ·rw[e];exact .inr hss
      ·rcases i4 t e with z|z
       ·exact .inl (fu t z)
       ·exact .inr λ y=>z (by simp[h1 t y])
    |none=>
     obtain⟨i1,i2,i3⟩:=I
     have i1:∀t∈s::q,t∈q2:=i1
     have i2:∀t∈(az (slots f).length).filter (λ s=>cD f s x.2),t∈q2:=i2
     refine⟨λ t ht=>i1 t (by simp[h1 t ht]),λ t ht=>?_,λ t ht hts=>?_⟩
     ·rcases List.mem_append.mp ht with z|z
      ·exact i1 t (by simp[h2 t z])
      ·have:t=s:=by simpa using z
       rw[this];exact i1 s (by simp)
     ·have ht:t∈q2:=ht
      by_cases htq:t∈q
      ·obtain⟨c',e1,e2⟩:=h3 t htq hts
       exact⟨c',e1,λ s' z=>i1 s' (by simp[e2 s' z])⟩
      ·by_cases adQ:t=s
       ·subst adQ
        refine⟨x.2,by rw[<-ex];exact hx,λ s' z=>i2 s' (List.mem_filter.mpr ⟨List.mem_range.mpr (IP z),z⟩)⟩
       ·obtain⟨c',e1,e2⟩:=i3 t ht (by simp[adQ,htq])
        exact⟨c',(List.mem_filter.mp e1).1,e2⟩
theorem OP{f:ae}{k c:Nat}{u:Use}{seen:List Nat}(M:PQ f u)(hk:yF f seen<k+1)
  (ih:∀(c:Nat) (seen:List Nat) (u:Use),PQ f u->yF f seen<k->My f c seen u ((az (slots f).length).filter λ s=>cD f s c) (ip f k c seen u)):
  ∀(L pre:List Nat) (r:Option Use×List Nat),(∀s∈L,cD f s c=true)->My f c seen u pre r->My f c seen u (pre++L) (L.foldl (Mz f k c u) r)
 |[],pre,r,_,h=>by rw[bD];exact h
 |s::L,pre,r,hL,h=>by
  have h':=Rp M (hL s (by simp)) hk ih h
  have:=OP M hk ih L (pre++[s]) _ (λ t ht=>hL t (by simp[ht])) h'
  rw[bB]at this
  exact this
theorem Ct{f:ae}:∀(k c:Nat) (seen:List Nat) (u:Use),PQ f u->yF f seen<k->My f c seen u ((az (slots f).length).filter λ s=>cD f s c) (ip f k c seen u)
 |0,c,seen,u,_,h=>by omega
 |k+1,c,seen,u,M,h=>by
  rw[MA]
  have h0:My f c seen u [] (none,seen):=And.intro (λ s hs=>hs) (show(∀s∈([]:List Nat),s∈seen)/\∀s∈seen,s∉seen->∃c',(s,c')∈u/\∀s',cD f s' c'=true->s'∈seen from⟨λ s hs=>absurd hs cJ,λ s hs hn=>absurd hs hn⟩)
  have:=OP (c:=c) M h (Ct k) ((az (slots f).length).filter λ s=>cD f s c) [] (none,seen) (λ s hs=>(List.mem_filter.mp hs).2) h0
  rw[gU]at this
  exact this
def qX(f:ae)(I:Nat->Bool)(l:List Nat):Nat:=l.countP λ c=> !reach f I c
def xO(f:ae)(l:List Nat):Prop:=∀I,qX f I l<=Aj f I
theorem OQ{f:ae}{I:Nat->Bool}{l m:List Nat}(h:l.Perm m):qX f I l=qX f I m:=h.countP_eq _
theorem xO.perm{f:ae}{l m:List Nat}(h:l.Perm m)(F:xO f l):xO f m:=λ I=>by rw[<-OQ h];exact F I
theorem xO.sub{f:ae}{l m:List Nat}(h:l.Sublist m)(F:xO f m):xO f l:=λ I=>aT (h.countP_le) (F I)
theorem IQ(f:ae)(I:Nat->Bool):Aj f I=((az (slots f).length).filter λ s=> !I ((slots f).getD s 0)).length:=by
 have e:slots f=(az (slots f).length).map λ s=>(slots f).getD s 0:=by
  apply bO
  intro i
  rw[ak]
  by_cases hi:i<(slots f).length
  ·rw[bf hi];exact getD_at hi
  ·rw[aI (by omega),aI (by rw[aR];omega)];rfl
 unfold Aj
 conv=>lhs;rw[e]
 rw[jh,dS];rfl
theorem IS{f:ae}{u:Use}(M:PQ f u):xO f (u.map (·.2)):=λ I=>by
 unfold qX
 rw[jh,dS,IQ,<-aa (f:=(·.1)) (as:=u.filter _)]
 refine List.Nodup.length_le_of_subset (List.Nodup.sublist (List.filter_sublist.map _) M.nd) λ s hs=>?_
 obtain⟨x,hx,rfl⟩:=List.mem_map.mp hs
 obtain⟨h1,h2⟩:=List.mem_filter.mp hx
 have h2:(!reach f I x.2)=true:=h2
 have can:=M.ok x h1
 obtain⟨i,t,c1,c2,c3⟩:=Mx.mp can
 refine List.mem_filter.mpr ⟨List.mem_range.mpr (IP can),?_⟩
 rw[aB,c1]
 show(!I i)=true
 cases q:I i with
 |false=>rfl
 |true=>
  have:reach f I x.2=true:=E1.mpr ⟨i,t,c2,q,c3⟩
  rw[this]at h2;cases h2
theorem aaq{u:Use}(nd:(u.map (·.1)).Nodup){s a b:Nat}(h1:(s,a)∈u)(h2:(s,b)∈u):a=b:=by
 induction u with
 |nil=>cases h1
 |cons x u ih=>
  rw[aH,gT]at nd
  rcases List.mem_cons.mp h1 with e1|e1
  ·rcases List.mem_cons.mp h2 with e2|e2
   ·have:=e1.trans e2.symm
    exact congrArg Prod.snd this
   ·exact absurd (by rw[<-e1];exact c9 (f:=(·.1)) e2) nd.1
  ·rcases List.mem_cons.mp h2 with e2|e2
   ·exact absurd (by rw[<-e2];exact c9 (f:=(·.1)) e1) nd.1
   ·exact ih nd.2 e1 e2
theorem K5{f:ae}{u v:Use}{c:Nat}(M:PQ f u)(h:eY f c u=some v):PQ f v/\(v.map (·.2)).Perm (c::u.map (·.2)):=by
 have A:=Ct (f:=f) ((slots f).length+1) c [] u M (kZ (by unfold yF;exact aT j5 (by rw[aR];exact ax _)))
 unfold eY at h
 generalize ip f ((slots f).length+1) c [] u=r at A h
 obtain⟨o,q⟩:=r
 cases h
 exact⟨A.2.1,A.2.2.1⟩
theorem K6{f:ae}{u:Use}{c:Nat}(M:PQ f u)(h:eY f c u=none):¬ xO f (c::u.map (·.2)):=by
 have A:=Ct (f:=f) ((slots f).length+1) c [] u M (kZ (by unfold yF;exact aT j5 (by rw[aR];exact ax _)))
 unfold eY at h
 generalize ip f ((slots f).length+1) c [] u=r at A h
 obtain⟨o,q⟩:=r
 have h:o=none:=h
 subst h
 obtain⟨_,a1,a2⟩:=A
 have a1:∀s∈(az (slots f).length).filter (λ s=>cD f s c),s∈q:=a1
 have a2:∀s∈q,s∉([]:List Nat)->∃c',(s,c')∈u/\∀s',cD f s' c'=true->s'∈q:=a2
 have b1:∀s,cD f s c=true->s∈q:=λ s hs=>a1 s (List.mem_filter.mpr ⟨List.mem_range.mpr (IP hs),hs⟩)
 intro F
 let S:Nat->Bool:=λ x=>x == c || u.any λ y=>y.2 == x && q.contains y.1
 let I:Nat->Bool:=λ i=>match f.teams[i]? with
  |none=>true
  |some t=> !(t.cells.any S)
 have sS:∀x,S x=true->∀s,cD f s x=true->s∈q:=λ x hx s hs=>by
  have hx:(x == c || u.any λ y=>y.2 == x && q.contains y.1)=true:=hx
  rw[gX]at hx
  rcases hx with e|e
  ·rw[eq_of_beq e]at hs;exact b1 s hs
  ·rw[dI]at e
   obtain⟨y,hy,e⟩:=e
   rw[bj]at e
   have hq:=List.contains_iff_mem.mp e.2
   obtain⟨c',z1,z2⟩:=a2 y.1 hq (by simp)
   have e3:y.2=c':=aaq M.nd (s:=y.1) hy z1
   have e4:=eq_of_beq e.1
   exact z2 s (by rw[<-e3,e4];exact hs)
 have nS:∀x,S x=true->reach f I x=false:=λ x hx=>by
  cases z:reach f I x with
  |false=>rfl
  |true=>
   obtain⟨i,t,r1,r2,r3⟩:=E1.mp z
   have r2:(match f.teams[i]? with
    |none=>true
    |some t=> !(t.cells.any S))=true:=r2
   rw[r1]at r2
   have:t.cells.any S=true:=List.any_eq_true.mpr ⟨x,r3,hx⟩
   simp only[this]at r2
   cases r2
 have Sc:S c=true:=by show(c == c || _)=true;rw[beq_self_eq_true];rfl
 have le:Aj f I<=qX f I (u.map (·.2)):=by
  unfold qX
  rw[jh,dS,IQ,<-aa (f:=(·.1)) (as:=u.filter _)]
  refine List.Nodup.length_le_of_subset (List.Nodup.sublist iy k7) λ s hs=>?_
  obtain⟨h1,h2⟩:=List.mem_filter.mp hs
  have hl:=List.mem_range.mp h1
  have gs:(slots f)[s]? =some ((slots f).getD s 0):=getD_at hl
  generalize (slots f).getD s 0=i at gs h2
  have h2:(!(match f.teams[i]? with
   |none=>true
   |some t=> !(t.cells.any S)))=true:=h2
  cases ti:f.teams[i]? with
  |none=>rw[ti]at h2;cases h2
  |some t=>
   rw[ti]at h2
   have h2:(!(!(t.cells.any S)))=true:=h2
   rw[Bool.not_not,dI]at h2
   obtain⟨x,hx1,C7⟩:=h2
   have sq:s∈q:=sS x C7 s (Mx.mpr ⟨i,t,gs,ti,hx1⟩)
   obtain⟨c',z1,z2⟩:=a2 s sq (by simp)
   refine List.mem_map.mpr ⟨(s,c'),List.mem_filter.mpr ⟨z1,?_⟩,rfl⟩
   show(!reach f I c')=true
   rw[nS c' ?_];rfl
   show(c' == c || u.any λ y=>y.2 == c' && q.contains y.1)=true
   rw[gX]
   refine .inr (List.any_eq_true.mpr ⟨(s,c'),z1,?_⟩)
   rw[bj]
   exact⟨beq_self_eq_true c',List.contains_iff_mem.mpr sq⟩
 have:=F I
 have e:qX f I (c::u.map (·.2))=qX f I (u.map (·.2))+1:=by
  unfold qX
  rw[fv,nS c Sc];rfl
 omega
theorem TM(f:ae):PQ f []:=⟨eV,λ x hx=>by cases hx⟩
theorem TN{f:ae}{u:Use}(M:PQ f u):u.length<=(slots f).length:=by
 have:=List.Nodup.length_le_of_subset (l₂:=az (slots f).length) M.nd λ s hs=>by
  obtain⟨x,hx,rfl⟩:=List.mem_map.mp hs
  exact List.mem_range.mpr (IP (M.ok x hx))
 rw[aa,aR]at this
 exact this
theorem K7(f:ae):∀l:List Nat,l.foldl (λ(u:Option Use) c=>u.bind (eY f c)) none=none
 |[]=>rfl
 |c::l=>K7 f l
theorem K8{f:ae}:∀(l:List Nat) (u:Use),PQ f u->((l.foldl (λ(u:Option Use) c=>u.bind (eY f c)) (some u)).isSome=true↔xO f (l++u.map (·.2)))
 |[],u,M=>⟨λ _=>IS M,λ _=>rfl⟩
 |c::l,u,M=>by
  rw[ck,dE]
  cases h:eY f c u with
  |some v=>
   obtain⟨M',p⟩:=K5 M h
   rw[K8 l v M']
   have pp:(l++v.map (·.2)).Perm (c::l++u.map (·.2)):=(p.append_left l).trans List.perm_middle
   exact⟨λ F=>F.perm pp,λ F=>F.perm pp.symm⟩
  |none=>
   rw[K7]
   refine⟨λ z=>(by cases z),λ F=>absurd ?_ (K6 M h)⟩
   refine F.sub ?_
   rw[jb]
   exact(List.sublist_append_right l (u.map (·.2))).cons_cons c
def qd(m:Nat)(L:List aL):List Nat:=(az m).filter λ c=> !ur L c
def DI(f:ae)(m:Nat)(L:List aL)(row:List Nat):Int:=((rQ f.teams:Nat):Int)-((rQ L:Nat):Int)-((aZ ((qd m L).map λ c=>row.getD c 0):Nat):Int)
structure DJ(m:Nat)(row l:List Nat):Prop where
 len:row.length=m
 lt:∀c∈l,c<m
 cnt:∀c,c<m->row.getD c 0=l.count c
theorem K9{α:Type}(g h:α->Nat):∀(L:List α),aZ (L.map λ x=>g x+h x)=aZ (L.map g)+aZ (L.map h)
 |[]=>rfl
 |x::L=>by rw[aH,aH,aH,ow,ow,ow,K9 g h L];omega
theorem K_(c:Nat):∀(L:List Nat),L.Nodup->aZ (L.map λ x=>if c == x then 1 else 0)=if c∈L then 1 else 0
 |[],_=>rfl
 |x::L,nd=>by
  obtain⟨h1,h2⟩:=List.nodup_cons.mp nd
  rw[aH,ow,K_ c L h2]
  by_cases e:c=x
  ·subst e
   rw[if_neg h1];simp
  ·have e1:(c == x)=false:=beq_eq_false_iff_ne.mpr e
   rw[e1]
   by_cases h:c∈L
   ·rw[if_pos h,if_pos (aQ _ h)];simp
   ·rw[if_neg h,if_neg (λ z=>(List.mem_cons.mp z).elim e h)];simp
theorem F2(p:Nat->Bool)(m:Nat):∀(l:List Nat),(∀c∈l,c<m)->l.countP p=aZ (((az m).filter p).map λ c=>l.count c)
 |[],_=>by
  have:∀L:List Nat,aZ (L.map λ c=>([]:List Nat).count c)=0:=λ L=>by
   induction L with
   |nil=>rfl
   |cons x L ih=>rw[aH,ow,ih];rfl
  rw[this];rfl
 |a::l,h=>by
  have e:((az m).filter p).map (λ c=>(a::l).count c)=((az m).filter p).map λ c=>l.count c+if a == c then 1 else 0:=by
   refine bP λ c _=>?_
   rw[eM]
  rw[e,K9,<-F2 p m l λ c hc=>h c (by simp[hc]),K_ a _ (List.Nodup.sublist iy k7),fv]
  congr 1
  have ha:=h a (by simp)
  by_cases hp:p a=true
  ·rw[if_pos hp,if_pos (List.mem_filter.mpr ⟨List.mem_range.mpr ha,hp⟩)]
  ·rw[if_neg hp,if_neg (λ z=>hp (List.mem_filter.mp z).2)]
theorem DK{f:ae}{m:Nat}{row l:List Nat}(R:DJ m row l)(I:Nat->Bool):DI f m (pick I 0 f.teams) row=((Aj f I:Nat):Int)-((qX f I l:Nat):Int):=by
 have h1:=TJ f I
 have h2:qX f I l=aZ ((qd m (pick I 0 f.teams)).map λ c=>row.getD c 0):=by
  unfold qX
  rw[F2 _ m l R.lt]
  congr 1
  refine bP λ c hc=>?_
  exact(R.cnt c (List.mem_range.mp (List.mem_filter.mp hc).1)).symm
 unfold DI
 rw[<-h2];omega
theorem X7{f:ae}{m:Nat}{row l:List Nat}(R:DJ m row l):xO f l↔ ∀L∈nJ f.teams,0<=DI f m L row:=by
 constructor
 ·intro F L hL
  obtain⟨I,rfl⟩:=(wH _ _).mp hL
  rw[DK R]
  have:=F I
  omega
 ·intro h I
  have:=h _ ((wH _ _).mpr ⟨I,rfl⟩)
  rw[DK R]at this
  omega
theorem OR{f:ae}{m:Nat}{row l:List Nat}(R:DJ m row l)(F:xO f l){c:Nat}(hc:c<m):xO f (c::l)↔ ∀L∈nJ f.teams,DI f m L row=0->c∉qd m L:=by
 have e:∀I,qX f I (c::l)=qX f I l+if(!reach f I c)=true then 1 else 0:=λ I=>by
  unfold qX;rw[fv]
 constructor
 ·intro G L hL h0 hm
  obtain⟨I,rfl⟩:=(wH _ _).mp hL
  rw[DK R]at h0
  have g:=G I
  have hr:(!reach f I c)=true:=(List.mem_filter.mp hm).2
  rw[e I,if_pos hr]at g
  omega
 ·intro h I
  have f1:=F I
  rw[e I]
  by_cases hr:(!reach f I c)=true
  ·rw[if_pos hr]
   have:=h _ ((wH _ _).mpr ⟨I,rfl⟩)
   rw[DK R]at this
   have hz:¬ ((Aj f I:Nat):Int)-((qX f I l:Nat):Int)=0:=λ z=>this z (List.mem_filter.mpr ⟨List.mem_range.mpr hc,hr⟩)
   omega
  ·rw[if_neg hr];omega
def xP(k:Nat)(e:List Nat):List Nat:=(e.zipIdx k).flatMap λ x=>cG x.1 x.2
theorem yG(k a:Nat)(e:List Nat):xP k (a::e)=cG a k++xP (k+1) e:=by
 unfold xP;rw[d8,eW]
theorem E2:∀(e:List Nat) (k c:Nat),c∈xP k e->k<=c/\c<k+e.length
 |[],k,c,h=>by cases h
 |a::e,k,c,h=>by
  rw[yG]at h
  rcases List.mem_append.mp h with z|z
  ·have:=List.eq_of_mem_replicate z
   rw[aD];omega
  ·have:=E2 e (k+1) c z
   rw[aD];omega
theorem F3:∀(e:List Nat) (k i:Nat),(xP k e).count (k+i)=e.getD i 0
 |[],k,i=>by show 0=_;simp
 |a::e,k,i=>by
  rw[yG,List.count_append,List.count_replicate]
  cases i with
  |zero=>
   have:(xP (k+1) e).count k=0:=List.count_eq_zero.mpr λ z=>by have:=E2 e (k+1) k z;omega
   show(if(k == k)=true then a else 0)+(xP (k+1) e).count k=a
   rw[this,beq_self_eq_true,if_pos rfl];rfl
  |succ i=>
   have h:(k == k+(i+1))=false:=by rw[beq_eq_false_iff_ne];omega
   rw[h,show k+(i+1)=k+1+i by omega,F3 e (k+1) i]
   show 0+ _=e.getD i 0
   omega
theorem La(e:List Nat):DJ e.length e (xP 0 e):=⟨rfl,λ c hc=>by have:=E2 e 0 c hc;omega,λ c _=>by
 have:=F3 e 0 c
 rw[cW]at this;exact this.symm⟩
theorem OS(f:ae)(e:List Nat):jD f e=true↔ ∀L∈nJ f.teams,0<=DI f e.length L e:=by
 rw[<-X7 (La e)]
 have h:=K8 (f:=f) (xP 0 e) [] (TM f)
 rw[fT,bD]at h
 exact h
theorem yH:∀(l:List (Option Nat×Nat)) (b:Option (Nat×Nat)),l.Pairwise (λ x y=>x.2<y.2)->(∀y,b=some y->∀x∈l,y.1<x.2)->∀y,l.foldl FA b=some y->
  (b=some y/\∀n c,(some n,c)∈l->n<=y.2)\/((some y.2,y.1)∈l/\(∀y0,b=some y0->y0.2<y.2)/\∀n c,(some n,c)∈l->n<=y.2/\(c<y.1->n<y.2))
 |[],b,_,_,y,h=>.inl ⟨h,λ n c z=>by cases z⟩
 |(o,c)::l,b,pw,hb,y,h=>by
  rw[ck]at h
  obtain⟨p1,p2⟩:=List.pairwise_cons.mp pw
  cases o with
  |none=>
   rw[yn]at h
   rcases yH l b p2 (λ y0 e x hx=>hb y0 e x (by simp[hx])) y h with⟨z1,z2⟩|⟨z1,z2,z3⟩
   ·refine .inl ⟨z1,λ n c' hm=>?_⟩
    rcases List.mem_cons.mp hm with e|e
    ·cases e
    ·exact z2 n c' e
   ·refine .inr ⟨by simp[z1],z2,λ n c' hm=>?_⟩
    rcases List.mem_cons.mp hm with e|e
    ·cases e
    ·exact z3 n c' e
  |some n0=>
   rw[yo]at h
   by_cases hg:gM b<(n0:Int)
   ·rw[if_pos hg]at h
    have X2:∀y0,b=some y0->y0.2<n0:=λ y0 e=>by
     rw[e]at hg
     have:(y0.2:Int)<n0:=hg
     omega
    rcases yH l (some (c,n0)) p2 (λ y0 e x hx=>by cases e;exact p1 x hx) y h with⟨z1,z2⟩|⟨z1,z2,z3⟩
    ·cases z1
     refine .inr ⟨by simp,X2,λ n c' hm=>?_⟩
     rcases List.mem_cons.mp hm with e|e
     ·cases e;exact⟨ax _,λ q=>absurd q (cX _)⟩
     ·exact⟨z2 n c' e,λ q=>absurd (p1 _ e) (by show ¬ c<c';have q:c'<c:=q;omega)⟩
    ·have zz:=z2 _ rfl
     refine .inr ⟨by simp[z1],λ y0 e=>by have:=X2 y0 e;have zz:n0<y.2:=zz;omega,λ n c' hm=>?_⟩
     rcases List.mem_cons.mp hm with e|e
     ·cases e
      have zz:n0<y.2:=zz
      exact⟨by omega,λ _=>zz⟩
     ·exact z3 n c' e
   ·rw[if_neg hg]at h
    cases b with
    |none=>exact absurd (show(-1:Int)<n0 by omega) hg
    |some y0=>
     have hle:n0<=y0.2:=by
      have:¬ (y0.2:Int)<n0:=hg
      omega
     rcases yH l (some y0) p2 (λ y1 e x hx=>hb y1 e x (by simp[hx])) y h with⟨z1,z2⟩|⟨z1,z2,z3⟩
     ·cases z1
      refine .inl ⟨rfl,λ n c' hm=>?_⟩
      rcases List.mem_cons.mp hm with e|e
      ·cases e;exact hle
      ·exact z2 n c' e
     ·have zz:=z2 y0 rfl
      refine .inr ⟨by simp[z1],z2,λ n c' hm=>?_⟩
      rcases List.mem_cons.mp hm with e|e
      ·cases e;exact⟨by omega,λ _=>by omega⟩
      ·exact z3 n c' e
def Cu(f:ae)(d:List Nat)(S:Nat->Prop)(c:Nat):Prop:=S c/\∀x,S x->c8 f x (d.getD x 0)<=c8 f c (d.getD c 0)/\(x<c->c8 f x (d.getD x 0)<c8 f c (d.getD c 0))
theorem Cu.one{f:ae}{d:List Nat}{S:Nat->Prop}{a b:Nat}(ha:Cu f d S a)(hb:Cu f d S b):a=b:=by
 obtain⟨a1,a2⟩:=ha
 obtain⟨b1,b2⟩:=hb
 have h1:=a2 b b1
 have h2:=b2 a a1
 have n1:¬ b<a:=λ z=>by have:=h1.2 z;omega
 have n2:¬ a<b:=λ z=>by have:=h2.2 z;omega
 omega
theorem Lb{f:ae}{d cs:List Nat}{g:Nat->Option Nat}(hs:cs.Pairwise (· < ·))(hg:∀c∈cs,∀n,g c=some n->n=c8 f c (d.getD c 0)):(∀y,tE (cs.map λ c=>(g c,c))=some y->Cu f d (λ x=>x∈cs/\g x≠none) y.1)/\(tE (cs.map λ c=>(g c,c))=none->∀x∈cs,g x=none):=by
 have pw:(cs.map λ c=>(g c,c)).Pairwise (λ x y=>x.2<y.2):=by rw[iR];exact hs
 refine⟨λ y h=>?_,λ h x hx=>HY _ h (g x,x) (c9 hx)⟩
 rcases yH _ none pw (λ y e=>by cases e) y h with⟨z,_⟩|⟨z1,_,z3⟩
 ·cases z
 ·obtain⟨c,hc,e⟩:=List.mem_map.mp z1
  have e1:g c=some y.2:=congrArg Prod.fst e
  have e2:c=y.1:=congrArg Prod.snd e
  subst e2
  have ey:=hg _ hc _ e1
  refine⟨⟨hc,by rw[e1];intro q;cases q⟩,λ x ⟨hx1,C7⟩=>?_⟩
  cases q:g x with
  |none=>exact absurd q C7
  |some n=>
   have en:=hg x hx1 n q
   have:=z3 n x (List.mem_map.mpr ⟨x,hx1,by rw[q]⟩)
   rw[en,ey]at this
   exact this
theorem DL{f:ae}{d cs:List Nat}(hs:cs.Pairwise (· < ·)):(∀c,bestOf f d cs=some c->Cu f d (λ x=>x∈cs/\d.getD x 0<20) c)/\(bestOf f d cs=none->∀x∈cs,¬ d.getD x 0<20):=by
 have hm:∀x,(if d.getD x 0<20 then some (c8 f x (d.getD x 0))else none)≠none↔d.getD x 0<20:=λ x=>by
  by_cases h:d.getD x 0<20
  ·rw[if_pos h];exact⟨λ _=>h,λ _ q=>by cases q⟩
  ·rw[if_neg h];exact⟨λ q=>absurd rfl q,λ q=>absurd q h⟩
 obtain⟨b1,b2⟩:=Lb (f:=f) (d:=d) (cs:=cs) (g:=λ x=>if d.getD x 0<20 then some (c8 f x (d.getD x 0))else none) hs λ c _ n e=>by
  have e:(if d.getD c 0<20 then some (c8 f c (d.getD c 0))else none)=some n:=e
  by_cases h:d.getD c 0<20
  ·rw[if_pos h]at e;exact(Option.some.inj e).symm
  ·rw[if_neg h]at e;cases e
 constructor
 ·intro c h
  unfold bestOf at h
  cases q:tE (cs.map (Mp f d))with
  |none=>rw[q]at h;cases h
  |some y=>
   rw[q]at h
   cases h
   obtain⟨⟨c1,c2⟩,c3⟩:=b1 y q
   exact⟨⟨c1,(hm _).mp c2⟩,λ x ⟨x1,x2⟩=>c3 x ⟨x1,(hm x).mpr x2⟩⟩
 ·intro h x hx rN
  unfold bestOf at h
  cases q:tE (cs.map (Mp f d))with
  |none=>exact(hm x).mpr rN (b2 q x hx)
  |some y=>rw[q]at h;cases h
def IU(f:ae)(d pN:List Nat):Option Nat:=fW ((fk f d).zipIdx.map λ x=>if pN.contains x.2=true\/x.1=some 0 then none else x.1)
def F4(f:ae)(d pN:List Nat)(c:Nat):Option Nat:=if pN.contains c=true\/(Mp f d c).1=some 0 then none else(Mp f d c).1
theorem MB{f:ae}{d pN:List Nat}:(∀c,IU f d pN=some c->Cu f d (λ x=>x<d.length/\x∉pN/\d.getD x 0<20/\c8 f x (d.getD x 0)≠0) c)/\(IU f d pN=none->∀x,x<d.length->x∉pN->d.getD x 0<20->c8 f x (d.getD x 0)=0):=by
 have e:((fk f d).zipIdx.map λ x=>if pN.contains x.2=true\/x.1=some 0 then none else x.1).zipIdx=(az d.length).map λ c=>(F4 f d pN c,c):=by
  rw[FF,aW]
  apply bO
  intro i
  rw[bQ,ak,ak]
  by_cases hi:i<d.length
  ·rw[bf hi]
   show some (F4 f d pN i,0+i)=some (F4 f d pN i,i)
   rw[cW]
  ·rw[aI (by rw[aR];omega)];rfl
 have hm:∀x,F4 f d pN x≠none↔x∉pN/\d.getD x 0<20/\c8 f x (d.getD x 0)≠0:=λ x=>by
  unfold F4 Mp
  dsimp only
  by_cases hs:x∈pN
  ·rw[if_pos (.inl (List.contains_iff_mem.mpr hs))]
   exact⟨λ q=>absurd rfl q,λ q=>absurd hs q.1⟩
  ·by_cases h:d.getD x 0<20
   ·rw[if_pos h]
    by_cases h0:c8 f x (d.getD x 0)=0
    ·rw[if_pos (.inr (by rw[h0]))]
     exact⟨λ q=>absurd rfl q,λ q=>absurd h0 q.2.2⟩
    ·rw[if_neg (by rintro(z|z);exact hs (List.contains_iff_mem.mp z);exact h0 (Option.some.inj z))]
     exact⟨λ _=>⟨hs,h,h0⟩,λ _ q=>by cases q⟩
   ·rw[if_neg h]
    refine⟨λ q=>absurd ?_ q,λ q=>absurd q.2.1 h⟩
    split <;> rfl
 obtain⟨b1,b2⟩:=Lb (f:=f) (d:=d) (cs:=az d.length) (g:=F4 f d pN) jP λ c _ n e=>by
  have e:(if pN.contains c=true\/(Mp f d c).1=some 0 then none else(Mp f d c).1)=some n:=e
  by_cases h1:pN.contains c=true\/(Mp f d c).1=some 0
  ·rw[if_pos h1]at e;cases e
  ·rw[if_neg h1]at e
   have e:(if d.getD c 0<20 then some (c8 f c (d.getD c 0))else none)=some n:=e
   by_cases h2:d.getD c 0<20
   ·rw[if_pos h2]at e;exact(Option.some.inj e).symm
   ·rw[if_neg h2]at e;cases e
 constructor
 ·intro c h
  unfold IU at h
  rw[wC,e]at h
  cases q:tE ((az d.length).map λ c=>(F4 f d pN c,c))with
  |none=>rw[q]at h;cases h
  |some y=>
   rw[q]at h
   cases h
   obtain⟨⟨c1,c2⟩,c3⟩:=b1 y q
   exact⟨⟨List.mem_range.mp c1,(hm _).mp c2⟩,λ x ⟨x1,x2⟩=>c3 x ⟨List.mem_range.mpr x1,(hm x).mpr x2⟩⟩
 ·intro h x hx h1 h2
  unfold IU at h
  rw[wC,e]at h
  cases q:tE ((az d.length).map λ c=>(F4 f d pN c,c))with
  |none=>
   have:=b2 q x (List.mem_range.mpr hx)
   apply Classical.byContradiction
   intro h3
   exact(hm x).mpr ⟨h1,h2,h3⟩ this
  |some y=>rw[q]at h;cases h
theorem IV(f:ae)(k:Nat)(d:List Nat)(u:Use)(pN:List Nat):eG f (k+1) d u pN=match IU f d pN with
  |none=>d
  |some c=>match eY f c u with
   |some v=>eG f k (bump d c) v pN
   |none=>eG f k d u (c::pN):=rfl
theorem xO.ae3{f:ae}{c c0:Nat}{l m:List Nat}(F:xO f (c::m))(p:m.Perm (c0::l)):xO f (c::l):=
 (F.perm ((p.cons c))).sub ((List.sublist_cons_self c0 l).cons_cons c)
structure acv(f:ae)(d:List Nat)(k:Nat)(u:Use)(pN:List Nat):Prop where
 mat:PQ f u
 sh:∀c∈pN,¬ xO f (c::u.map (·.2))
 nd:pN.Nodup
 lt:∀c∈pN,c<d.length
 fuel:((slots f).length-u.length)+(d.length-pN.length)<=k
theorem IX{f:ae}{d cs:List Nat}{u:Use}(hs:cs.Pairwise (· < ·))(Mg:∀c,c∈cs↔c<d.length/\xO f (c::u.map (·.2))):∀(k:Nat) (pN:List Nat),acv f d k u pN->
  (∀c,bestOf f d cs=some c->0<c8 f c (d.getD c 0)->∃k' v TQ,eG f k d u pN=eG f k' (bump d c) v TQ/\acv f (bump d c) k' v TQ/\(v.map (·.2)).Perm (c::u.map (·.2)))/\
  ((∀c,bestOf f d cs=some c->c8 f c (d.getD c 0)=0)->eG f k d u pN=d)
 |0,pN,T=>by
  refine⟨λ c hb hg=>?_,λ _=>rfl⟩
  exfalso
  obtain⟨⟨c1,c2⟩,_⟩:=(DL hs).1 c hb
  have F:=((Mg c).mp c1).2 λ _=>false
  have e1:Aj f (λ _=>false)=(slots f).length:=by unfold Aj;simp
  have e2:qX f (λ _=>false) (c::u.map (·.2))=u.length+1:=by
   unfold qX
   have:∀x,reach f (λ _=>false) x=false:=λ x=>by
    cases q:reach f (λ _=>false) x with
    |false=>rfl
    |true=>obtain⟨_,_,_,z,_⟩:=E1.mp q;cases z
   rw[List.countP_eq_length.mpr λ x _=>by rw[this x];rfl,aD,aa]
  rw[e1,e2]at F
  have:=T.fuel
  omega
 |k+1,pN,T=>by
  rw[IV]
  cases hn:IU f d pN with
  |none=>
   have h0:=MB.2 hn
   refine⟨λ c hb hg=>?_,λ _=>rfl⟩
   exfalso
   obtain⟨⟨c1,c2⟩,_⟩:=(DL hs).1 c hb
   obtain⟨c3,c4⟩:=(Mg c).mp c1
   have:=h0 c c3 (λ z=>T.sh c z c4) c2
   omega
  |some c0=>
   obtain⟨⟨n1,n2,n3,n4⟩,n5⟩:=MB.1 c0 hn
   dsimp only
   cases hv:eY f c0 u with
   |none=>
    have nf:=K6 T.mat hv
    have nd':(c0::pN).Nodup:=List.nodup_cons.mpr ⟨n2,T.nd⟩
    have lt':∀c∈c0::pN,c<d.length:=λ c hc=>by
     rcases List.mem_cons.mp hc with e|e
     ·rw[e];exact n1
     ·exact T.lt c e
    have len:(c0::pN).length<=d.length:=by
     have:=List.Nodup.length_le_of_subset (l₂:=az d.length) nd' λ c hc=>List.mem_range.mpr (lt' c hc)
     rw[aR]at this;exact this
    rw[aD]at len
    exact IX hs Mg k (c0::pN) ⟨T.mat,λ c hc=>by
     rcases List.mem_cons.mp hc with e|e
     ·rw[e];exact nf
     ·exact T.sh c e,nd',lt',by have:=T.fuel;rw[aD];omega⟩
   |some v=>
    obtain⟨M',p⟩:=K5 T.mat hv
    have F0:xO f (c0::u.map (·.2)):=(IS M').perm p
    have hc0:c0∈cs:=(Mg c0).mpr ⟨n1,F0⟩
    have isb:Cu f d (λ x=>x∈cs/\d.getD x 0<20) c0:=⟨⟨hc0,n3⟩,λ x ⟨x1,x2⟩=>by
     obtain⟨x3,x4⟩:=(Mg x).mp x1
     by_cases hz:c8 f x (d.getD x 0)=0
     ·rw[hz];exact⟨aE _,λ _=>by omega⟩
     ·exact n5 x ⟨x3,λ z=>T.sh x z x4,x2,hz⟩⟩
    have eb:bestOf f d cs=some c0:=by
     cases q:bestOf f d cs with
     |none=>exact absurd n3 ((DL hs).2 q c0 hc0)
     |some c'=>rw[((DL hs).1 c' q).one isb]
    have vl:v.length=u.length+1:=by
     have:=p.length_eq
     rw[aa,aD,aa]at this;exact this
    have vn:=TN M'
    refine⟨λ c hb hg=>?_,λ h=>absurd (h c0 eb) n4⟩
    rw[eb]at hb
    cases hb
    refine⟨k,v,pN,rfl,⟨M',λ c hc F=>T.sh c hc (F.ae3 p),T.nd,λ c hc=>by rw[pX];exact T.lt c hc,by have:=T.fuel;rw[pX];omega⟩,p⟩
theorem MC{α:Type}(l:List α)(t:α):nJ (l++[t])=vK (nJ l) t:=by
 unfold nJ;rw[gu];rfl
theorem F5{α β:Type}(g:α->β):∀(ts:List α) (made:List (List α)),(ts.map g).foldl vK (made.map (ka g))=(ts.foldl vK made).map (ka g)
 |[],_=>rfl
 |t::ts,made=>by
  rw[aH,ck,ck,<-F5 g ts]
  congr 1
  unfold vK
  rw[aF,aW,aW]
  congr 1
  refine bP λ L _=>?_
  show L.map g++[g t]=(L++[t]).map g
  rw[aF];rfl
theorem w_{α β:Type}(g:α->β)(ts:List α):nJ (ts.map g)=(nJ ts).map (ka g):=F5 g ts [[]]
theorem F6{α:Type}:∀(ts:List α) (made:List (List α)) (L:List α),L∈ts.foldl vK made->∃M∈made,∃N,L=M++N/\N.Sublist ts
 |[],made,L,h=>⟨L,h,[],(bD _).symm,List.Sublist.refl _⟩
 |t::ts,made,L,h=>by
  obtain⟨M,hM,N,e,s⟩:=F6 ts (vK made t) L h
  rcases List.mem_append.mp hM with z|z
  ·exact⟨M,z,N,e,s.cons t⟩
  ·obtain⟨M0,h0,rfl⟩:=List.mem_map.mp z
   exact⟨M0,h0,t::N,by rw[e,bB];rfl,s.cons_cons t⟩
theorem Bt{α:Type}{ts L:List α}(h:L∈nJ ts):L.Sublist ts:=by
 obtain⟨M,hM,N,e,s⟩:=F6 ts [[]] L h
 have:M=[]:=by simpa using hM
 rw[e,this];exact s
theorem F7{α:Type}:∀(ts:List α) (made:List (List α)),(ts.foldl vK made).length=2 ^ ts.length*made.length
 |[],made=>by simp
 |t::ts,made=>by
  rw[ck,F7 ts]
  unfold vK
  rw[aw,aa,aD,fY]
  generalize 2 ^ ts.length=a
  rw[fF];congr 1;omega
theorem xb{α:Type}{ts:List α}(h:ts.length<=6):(nJ ts).length<=64:=by
 unfold nJ
 rw[F7]
 have:2 ^ ts.length<=2 ^ 6:=dw (by decide) h
 simpa using this
def TR(H:Hp)(ls:List ag)(cs:List (List ag)):Prop:=ls.length=cs.length/\∀(j:Nat) (l:ag) (c:List ag),ls[j]? =some l->cs[j]? =some c->H l=some (.lst (c.map V.ref))
abbrev OT:List Str:=["cells","most"]
def X8(CB:ag)(H:Hp)(a:ag)(cs:List Nat)(mo:Int):Prop:=∃dx cl,H a=some (.ins CB dx (OT.zip [.ref cl,.int mo]))/\H cl=some (.lst (nX cs))
theorem X8.same{CB:ag}{H H':Hp}{a:ag}{cs:List Nat}{mo:Int}(h:X8 CB H a cs mo)(sm:m7 H H'):X8 CB H' a cs mo:=let⟨d,cl,e1,e2⟩:=h;⟨d,cl,sm _ _ e1,sm _ _ e2⟩
def F8(CB:ag)(H:Hp)(ks:List ag)(E m:Nat)(Ls:List (List aL)):Prop:=ks.length=Ls.length/\∀(j:Nat) (a:ag) (L:List aL),ks[j]? =some a->Ls[j]? =some L->X8 CB H a (qd m L) (((E:Nat):Int)-((rQ L:Nat):Int))
theorem F8.same{CB:ag}{H H':Hp}{ks:List ag}{E m:Nat}{Ls:List (List aL)}(h:F8 CB H ks E m Ls)(sm:m7 H H'):F8 CB H' ks E m Ls:=⟨h.1,λ j a L e1 e2=>(h.2 j a L e1 e2).same sm⟩
def ZAt(CT:ag)(H:Hp)(zs:List (ag×aL)):Prop:=∀z∈zs,sP CT H z.1 z.2
theorem ZAt.same{CT:ag}{H H':Hp}{zs:List (ag×aL)}(h:ZAt CT H zs)(sm:m7 H H'):ZAt CT H' zs:=λ z hz=>(h z hz).same sm
theorem Rq{CT:ag}{H:Hp}{bs:List ag}{ts:List aL}(h:Dq CT H bs ts):ZAt CT H (bs.zip ts)/\(bs.zip ts).map (·.1)=bs/\(bs.zip ts).map (·.2)=ts:=by
 refine⟨λ z hz=>?_,List.map_fst_zip (by rw[h.1];exact ax _),k8 (by rw[h.1];exact ax _)⟩
 obtain⟨i,hi,e⟩:=cw hz
 have e':(bs.zip ts)[i]? =some z:=by rw[af hi,e]
 obtain⟨e1,e2⟩:=List.getElem?_zip_eq_some.mp e'
 exact h.2 i z.1 z.2 e1 e2
theorem J4(L:List aL)(c:Nat):(L.flatMap λ t=>t.cells).contains c=ur L c:=by
 unfold ur
 rw[du,dk,List.mem_flatMap,dI]
 constructor
 ·rintro⟨t,h1,h2⟩;exact⟨t,h1,List.contains_iff_mem.mpr h2⟩
 ·rintro⟨t,h1,h2⟩;exact⟨t,h1,List.contains_iff_mem.mp h2⟩
theorem IY:∀(L:List aL),(∀t∈L,t.cells.length<=16)->(L.flatMap λ t=>t.cells).length<=16*L.length
 |[],_=>ax _
 |t::L,h=>by
  rw[eW,aw,aD]
  have h1:=h t (by simp)
  have h2:=IY L λ x hx=>h x (by simp[hx])
  omega
theorem OU:m9 ["self","cells","most"] ["self","cells","most"] (m5 BU):=qh
theorem OV{f C:ag}{fd:bK}(F:pI K "__init__" "Bound.__init__" BU f fd)(cl:GL K C)(na:∀g∈OT,oC K C g):nQ P w K mg base oG 1 f fd ["self","cells","most"] (Hv C OT):=by
 refine F.ok OU (λ vs H Q E h=>?_) (λ oW A outer s H vs Q E hr h=>?_)
 ·obtain⟨x,dx,args,rfl,hl,_⟩:=h
  rw[aD,hl];rfl
 ·obtain⟨x,dx,args,rfl,hl,hx,k⟩:=h
  match args,hl with
  |[a,b],_=>
   have n1:=na "cells" (by simp)
   have n2:=na "most" (by simp)
   refine⟨_,mX (pU (pv 0) (pv 1) rfl) (m6 (pU (pv 0) (pv 2) rfl)),?_⟩
   refine⟨_,rfl,_,rfl,x,C,dx,_,rfl,hx,cl,n1,(by show 0<1000;decide),_,rfl,_,rfl,x,C,dx,_,rfl,mZ,cl,n2,(by show 1<1000;decide),?_⟩
   refine k _ mZ λ b o e hb=>?_
   rw[m4 hb,m4 hb];exact e
def MD(CB:ag):Sp:=λ vs H Q _=>∃(a b:ag) (cs:List Nat) (mo:Int) (row:List Nat),vs=[.ref a,.ref b]/\X8 CB H a cs mo/\H b=some (.lst (nX row))/\(∀c∈cs,c<row.length)/\cs.length<=16/\∀H',m7 H H'->Q (.int (mo-((aZ (cs.map λ c=>row.getD c 0):Nat):Int))) H'
abbrev F9:List Str:=["self","row","cell"]
theorem DM:m9 F9 ["self","row"] (m5 wt):=qh
theorem ME(F:pI K "spare" "Bound.spare" wt f fd)(qP:Rec P w K mg base "Bound" CB OT)(xH:mg "sum"=none):nQ P w K mg base oG 1 f fd ["self","row"] (MD CB):=by
 refine F.ok DM (λ vs H Q E h=>?_) (λ oW A outer s H vs Q E hr h=>?_)
 ·obtain⟨a,b,cs,mo,row,rfl,_⟩:=h
  rfl
 ·obtain⟨a,b,cs,mo,row,rfl,⟨dx,cl,h1,h2⟩,hb,hc,GH,k⟩:=h
  have nd:=DM.nd
  refine⟨_,(m6 (nj (oj sG (nq (pv 0) rfl) (nM (BF rfl) rfl xH iO (mW (qt (own:=[("cell",2)]) rfl nd (oM (nq (pv 0) rfl)) (by exact pC.of (N:=F9) (sc:=m5 wt) (by decide +kernel)) (λ _ _ _ _ _=>by exact(nA (i:=2) nd rfl (Or.inl rfl))) (λ _ _ _ _ _=>by exact oR) (λ _ _ _ _ _=>by exact(tY K (pv 1) (pv 2)))) mY))))),?_⟩
  refine⟨_,rfl,a,CB,dx,_,_,rfl,h1,qP.cl,qP.na "most" (by simp),rfl,_,rfl,a,CB,dx,_,_,rfl,h1,qP.cl,qP.na "cells" (by simp),rfl,cl,rfl,⟨_,nE.of h2⟩,?_⟩
  refine oY (oS (K:=K) (xs:=nX cs) (nE.of h2)) (nX (cs.map λ c=>row.getD c 0)) (by rw[m_,m_,aa]) (by rw[m_,aA];omega) (λ j x y H3 R3 N3 hy pG hF kk=>?_) (λ D H3 hD pG uC=>?_)
  ·obtain⟨c,q,rfl⟩:=ou hF
   obtain⟨v,q2,rfl⟩:=ou hy
   rw[ak,q]at q2
   have q2:row.getD c 0=v:=Option.some.inj q2
   subst q2
   have gd:=getD_at (hc c (aC q))
   exact⟨rfl,sD ⟨_,rfl,_,rfl,b,_,_,_,rfl,rfl,nE.of (pG _ _ hb),ot (oU gd),kk H3 (m7.refl _)⟩⟩
  ·refine⟨D,(cs.map λ c=>row.getD c 0).map (λ(n:Nat)=>(n:Int)),rfl,nE.of (by rw[uC,uq];rfl),?_⟩
   rw[tL]
   exact⟨_,_,rfl,rfl,k H3 pG⟩
def Bu:Sp:=λ vs H Q _=>∃(p:ag) (bs:List ag),vs=[.ref p]/\H p=some (.lst (bs.map V.ref))/\bs.length<=6/\∀H' D ls,m7 H H'->H D=none->H' D=some (.lst (ls.map V.ref))->TR H' ls (nJ bs)->(∀l∈ls,H l=none)->Q (.ref D) H'
abbrev DN:List Str:=["teams","made","team","choice"]
theorem Bv:m9 DN ["teams"] (m5 uK):=qh
theorem J5(F:pI K "team_choices" "team_choices" uK f fd):nQ P w K mg base oG 1 f fd ["teams"] Bu:=by
 refine F.ok Bv (λ vs H Q E h=>?_) (λ oW A outer s H vs Q E hr h=>?_)
 ·obtain⟨p,bs,rfl,_⟩:=h
  rfl
 ·obtain⟨p,bs,rfl,hp,h6,k⟩:=h
  have nd:=Bv.nd
  refine⟨_,(mX (m8 (i:=1) nd rfl (Or.inl rfl) (nP (mW (nP mY) mY)))
   (mX (qB PassesOwn.never rfl (oM (pv 0)) (nA (i:=2) nd rfl (Or.inr rfl)) (m6 (m8 (i:=1) nd rfl (Or.inl rfl) (oj qW (pv 1) (qt (own:=[("choice",3)]) rfl nd (oM (pv 1)) (by exact pC.of (N:=DN) (sc:=m5 uK) (by decide +kernel)) (λ _ _ _ _ _=>by exact(nA (i:=3) nd rfl (Or.inl rfl))) (λ _ _ _ _ _=>by exact oR) (λ _ _ _ _ _=>by exact(oj qW (pv 3) (nP (mW (pv 2) mY)))))))))
   (m6 (nj (pv 1))))),?_⟩
  refine⟨aE _,λ e0 he0=>⟨(by show 1<=ay;decide),λ D0 hD0=>?_⟩⟩
  have s1:m7 H (upd H e0 (.lst [])):=m7.new he0
  have n0:e0≠D0:=λ q=>by rw[<-q,mZ]at hD0;cases hD0
  have s2:=s1.put (o:=.lst [V.ref e0]) (none_of s1 hD0)
  refine⟨_,rfl,p,rfl,⟨_,nE.of (s2 _ _ hp)⟩,rh (K:=K) (a:=p) (xs:=bs.map V.ref) (λ i σ H'=>∃(v:Option V) (D:ag) (ls:List ag),σ=[some (.ref p),some (.ref D),v,none]/\m7 H H'/\H D=none/\H' D=some (.lst (ls.map V.ref))/\TR H' ls (nJ (bs.take i))/\∀l∈ls,H l=none)
   ⟨none,D0,[e0],rfl,s2,none_of s1 hD0,mZ,⟨rfl,λ j l c q1 q2=>?_⟩,λ l hl=>by rw[show l=e0 by simpa using hl];exact he0⟩ (λ i σ H' _ ⟨_,_,_,_,sm,_⟩=>nE.of (sm _ _ hp)) ?_ ?_⟩
  ·have ej:j=0:=by
    have:=(List.getElem?_eq_some_iff.mp q1).1
    simp at this;exact this
   subst ej
   cases q1
   cases q2
   rw[m4 n0,mZ];rfl
  ·rintro i x σ H' hx ⟨v,D,ls,rfl,sm,hD,Z6,hL,JJ⟩
   rw[ak]at hx
   cases qb:bs[i]? with
   |none=>rw[qb]at hx;cases hx
   |some b=>
    rw[qb]at hx;cases hx
    have hi:i<bs.length:=(List.getElem?_eq_some_iff.mp qb).1
    have ht:(bs.take i).length<=6:=by rw[bW];omega
    have l64:=xb ht
    refine⟨_,rfl,_,rfl,D,rfl,⟨_,nE.of Z6⟩,?_⟩
    refine QS (oS (K:=K) (xs:=ls.map V.ref) (nE.of Z6)) (λ j=>.lst (((nJ (bs.take i)).getD j []++[b]).map V.ref)) (by rw[aa,hL.1,aA];omega) (λ j y H3 R3 N3 hj pG hF kk=>?_) (λ N H3 ns hN pG hN3 hlen SV=>?_)
    ·rw[ak]at hF
     cases ql:ls[j]? with
     |none=>rw[ql]at hF;cases hF
     |some l=>
      rw[ql]at hF;cases hF
      have Y_:j<(nJ (bs.take i)).length:=by rw[<-hL.1];exact(List.getElem?_eq_some_iff.mp ql).1
      have qc:(nJ (bs.take i))[j]? =some ((nJ (bs.take i)).getD j []):=by rw[aB,af Y_];rfl
      have hl:=hL.2 j l _ ql qc
      have cl:((nJ (bs.take i)).getD j []).length<=6:=aT (Bt (aC qc)).length_le ht
      refine⟨rfl,sD ⟨_,rfl,_,rfl,(by show 1<=ay;decide),λ tl htl=>?_⟩⟩
      have s4:m7 H3 (upd H3 tl (.lst [V.ref b])):=m7.new htl
      refine⟨l,tl,_,_,rfl,rfl,s4 _ _ (pG _ _ hl),mZ,(by rw[aa,aA];show _+1<=_;omega),λ q hq=>?_⟩
      refine kk q _ (s4.put (none_of s4 hq)) (none_of s4 hq) ?_
      rw[mZ,aF];rfl
    ·rw[aa]at hlen
     have nDN:D≠N:=λ q=>by rw[<-q,Z6]at hN;cases hN
     refine⟨D,N,_,_,rfl,rfl,pG _ _ Z6,hN3,(by rw[aa,aa,hlen,hL.1,aA];omega),λ M hM=>?_⟩
     have s5:=sm.trans pG
     refine⟨_,M,ls++ns,rfl,s5.put (none_of s5 hM),none_of s5 hM,by rw[mZ,aF],?_,λ l hl=>(List.mem_append.mp hl).elim (JJ l) λ z=>by
      obtain⟨j,hj,e⟩:=cw z
      exact none_of sm (SV j l (by rw[af hj,e])).1⟩
     have ec:nJ (bs.take (i+1))=nJ (bs.take i)++(nJ (bs.take i)).map λ L=>L++[b]:=by
      rw[bZ,qb];exact MC _ _
     rw[ec]
     refine⟨by rw[aw,aw,aa,hlen,hL.1],λ j l c q1 q2=>?_⟩
     have Mn:∀a o,H3 a=some o->a≠M:=λ a o e q=>by rw[q,hM]at e;cases e
     by_cases hj:j<ls.length
     ·rw[bp hj]at q1
      rw[bp (by rw[<-hL.1];exact hj)]at q2
      have z:=pG _ _ (hL.2 j l c q1 q2)
      rw[m4 (Mn _ _ z)];exact z
     ·rw[bg (by omega)]at q1
      rw[bg (by rw[<-hL.1];omega),<-hL.1,ak]at q2
      have z:=(SV _ l q1).2
      rw[m4 (Mn _ _ z),z]
      cases qq:(nJ (bs.take i))[j-ls.length]? with
      |none=>rw[qq]at q2;cases q2
      |some c0=>
       rw[qq]at q2
       have q2:c0++[b]=c:=Option.some.inj q2
       rw[aB,qq,<-q2];rfl
  ·rintro σ H' ⟨v,D,ls,rfl,sm,hD,Z6,hL,JJ⟩
   rw[aa,dj]at hL
   exact⟨_,rfl,k H' D ls sm hD Z6 hL JJ⟩
def Ak(CT:ag):Sp:=λ vs H Q _=>∃(p:ag) (zs:List (ag×aL)),vs=[.ref p]/\H p=some (.lst ((zs.map (·.1)).map V.ref))/\ZAt CT H zs/\zs.length<=6/\∀H',m7 H H'->Q (.int (rQ (zs.map (·.2)):Nat)) H'
abbrev IZ:List Str:=["teams","team"]
theorem F_:m9 IZ ["teams"] (m5 x_):=qh
theorem OW(F:pI K "efforts_of" "efforts_of" x_ f fd)(qp:Rec P w K mg base "Team" CT JY)(xH:mg "sum"=none):nQ P w K mg base oG 1 f fd ["teams"] (Ak CT):=by
 refine F.ok F_ (λ vs H Q E h=>?_) (λ oW A outer s H vs Q E hr h=>?_)
 ·obtain⟨p,zs,rfl,_⟩:=h
  rfl
 ·obtain⟨p,zs,rfl,hp,hz,h6,k⟩:=h
  have nd:=F_.nd
  refine⟨_,(m6 (nj (nM (BF rfl) rfl xH iO (mW (qt (own:=[("team",1)]) rfl nd (oM (pv 0)) (by exact pC.of (N:=IZ) (sc:=m5 x_) (by decide +kernel)) (λ _ _ _ _ _=>by exact(nA (i:=1) nd rfl (Or.inl rfl))) (λ _ _ _ _ _=>by exact oR) (λ _ _ _ _ _=>by exact(xV K (pv 1)))) mY)))),?_⟩
  refine⟨_,rfl,p,rfl,⟨_,nE.of hp⟩,?_⟩
  refine oY (oS (K:=K) (xs:=(zs.map (·.1)).map V.ref) (nE.of hp)) (nX ((zs.map (·.2)).map λ t=>t.efforts)) (by rw[m_,aa,aa,aa,aa]) (by rw[aa,aa,aA];omega) (λ j x y H3 R3 N3 hy pG hF kk=>?_) (λ D H3 hD pG uC=>?_)
  ·obtain⟨v,q2,rfl⟩:=ou hy
   rw[ak,ak]at hF q2
   cases qz:zs[j]? with
   |none=>rw[qz]at hF;cases hF
   |some z=>
    rw[qz]at hF q2
    cases hF;cases q2
    obtain⟨dx,ml,e1,e2,e3⟩:=hz z (aC qz)
    exact⟨rfl,sD ⟨_,rfl,z.1,CT,dx,_,_,rfl,pG _ _ e1,qp.cl,qp.na "efforts" (by simp),rfl,kk H3 (m7.refl _)⟩⟩
  ·refine⟨D,((zs.map (·.2)).map λ t=>t.efforts).map (λ(n:Nat)=>(n:Int)),rfl,nE.of (by rw[uC,uq];rfl),?_⟩
   rw[tL]
   exact k H3 pG
def Cv(CT CB:ag):Sp:=λ vs H Q _=>∃(p:ag) (zs:List (ag×aL)) (m:Nat),vs=[.ref p,.int (m:Nat)]/\H p=some (.lst ((zs.map (·.1)).map V.ref))/\ZAt CT H zs/\zs.length<=6/\m<=16/\(∀z∈zs,z.2.cells.length<=16)/\∀H' q ks,m7 H H'->H q=none->H' q=some (.lst (ks.map V.ref))->F8 CB H' ks (rQ (zs.map (·.2))) m (nJ (zs.map (·.2)))->Q (.ref q) H'
abbrev Lc:List Str:=["teams","many_cells","bounds","left_out","reached","team","cells","cell"]
theorem I_:m9 Lc ["teams","many_cells"] (m5 AX):=qh
theorem Rr(F:pI K "bounds_of" "bounds_of" AX f fd)(qp:Rec P w K mg base "Team" CT JY)(vL:rB P w K mg base oG 1 "team_choices" ["teams"] Bu)(qO:mg "range"=none)(qP:Rec P w K mg base "Bound" CB OT)(qm:rB P w K mg base oG 1 "efforts_of" ["teams"] (Ak CT)):nQ P w K mg base oG 3 f fd ["teams","many_cells"] (Cv CT CB):=by
 refine F.ok I_ (λ vs H Q E h=>?_) (λ oW A outer s H vs Q E hr h=>?_)
 ·obtain⟨p,zs,m,rfl,_⟩:=h
  rfl
 ·obtain⟨p,zs,m,rfl,hp,hz,h6,GH,hzc,k⟩:=h
  have nd:=I_.nd
  refine⟨_,(mX (m8 (i:=2) nd rfl (Or.inl rfl) (nP mY))
   (mX (qB PassesOwn.never rfl (oM (nv (E:=E0) vL hr (by decide) nr (mW (pv 0) mY))) (nA (i:=3) nd rfl (Or.inl rfl)) (mX (m8 (i:=4) nd rfl (Or.inr rfl) (nP mY))
   (mX (qB PassesOwn.never rfl (oM (pv 3)) (nA (i:=5) nd rfl (Or.inl rfl)) (m6 (n_ (qT aG cT cS va (pv 4) (mW (nq (pv 5) rfl) mY)))))
   (mX (zN (i:=6) (own:=[("cell",7)]) rfl nd rfl rfl rfl (xx rfl qO (mW (pv 1) mY)) (by exact pC.of (N:=Lc) (sc:=m5 AX) (by decide +kernel)) (λ _ _ _ _ _=>by exact(nA (i:=7) nd rfl (Or.inl rfl))) (λ _ _ _ _ _=>by exact(LL (oq (Vb K) (pv 7) (pv 4) (by with_unfolding_all rfl)))) (λ _ _ _ _ _=>by exact(pv 7)))
   (m6 (n_ (qT aG bc a_ pF (pv 2) (mW (vw qP hr (by decide) (mW (pv 6) (mW (oj sG (nv (E:=E0) qm hr (by decide) nr (mW (pv 0) mY)) (nv (E:=E0) qm hr (by decide) nr (mW (pv 3) mY))) mY))) mY))))))))
   (m6 (nj (pv 2))))),?_⟩
  have c64:=xb (ts:=zs) h6
  refine⟨aE _,λ bd hbd=>?_⟩
  have s1:m7 H (upd H bd (.lst [])):=m7.new hbd
  refine⟨_,rfl,p,zs.map (·.1),rfl,s1 _ _ hp,by rw[aa];exact h6,λ H2 ch ls s2 PX adR Za JJ=>?_⟩
  have vD:=s1.trans s2
  rw[w_]at Za
  have lls:ls.length=(nJ zs).length:=by rw[Za.1,aa]
  refine⟨ch,rfl,⟨_,nE.of adR⟩,rh (K:=K) (a:=ch) (xs:=ls.map V.ref) (λ i σ H'=>∃(v3 v4 v5 v6:Option V) (ks:List ag),σ=[some (.ref p),some (.int (m:Nat)),some (.ref bd),v3,v4,v5,v6,none]/\m7 H H'/\(∀b o,H2 b=some o->b≠bd->H' b=some o)/\H' bd=some (.lst (ks.map V.ref))/\F8 CB H' ks (rQ (zs.map (·.2))) m ((nJ (zs.map (·.2))).take i)/\ks.length=i)
   ⟨none,none,none,none,[],rfl,vD,λ b o e _=>e,s2 _ _ mZ,⟨rfl,λ j a L q=>by simp at q⟩,rfl⟩ (λ i σ H' _ ⟨_,_,_,_,_,_,_,s',_⟩=>nE.of (s' _ _ adR (λ q=>by rw[q,mZ]at PX;cases PX))) ?_ ?_⟩
  ·rintro i x σ H' hx ⟨v3,v4,v5,v6,ks,rfl,sm,wc,hB,hK,hkl⟩
   rw[ak]at hx
   cases ql:ls[i]? with
   |none=>rw[ql]at hx;cases hx
   |some l=>
    rw[ql]at hx;cases hx
    have hi:i<(nJ zs).length:=by rw[<-lls];exact(List.getElem?_eq_some_iff.mp ql).1
    have qc:(nJ zs)[i]? =some ((nJ zs)[i]):=af hi
    generalize hC:(nJ zs)[i]=C at qc
    have aar:C.Sublist zs:=Bt (aC qc)
    have Cl:C.length<=6:=aT aar.length_le h6
    have Nl:H2 l=some (.lst ((C.map (·.1)).map V.ref)):=Za.2 i l _ ql (by rw[ak,qc];rfl)
    have nlb:l≠bd:=λ q=>by
     have:=JJ l (aC ql)
     rw[q,mZ]at this;cases this
    have GC:=wc _ _ Nl nlb
    have zC:ZAt CT H C:=λ z VY=>hz z (aar.subset VY)
    refine⟨aE _,λ rc hrc=>?_⟩
    refine⟨_,rfl,l,rfl,⟨_,nE.of (m7.new hrc _ _ GC)⟩,rh (K:=K) (a:=l) (xs:=(C.map (·.1)).map V.ref) (λ j σ H''=>∃(v5:Option V),σ=[some (.ref p),some (.int (m:Nat)),some (.ref bd),some (.ref l),some (.ref rc),v5,v6,none]/\m7 H' H''/\H'' rc=some (.lst (nX ((C.take j).flatMap λ z=>z.2.cells))))
     ⟨v5,rfl,m7.new hrc,mZ⟩ (λ i σ H' _ ⟨_,_,s',_⟩=>nE.of (s' _ _ GC)) ?_ ?_⟩
    ·rintro j x σ H3 hx ⟨v5',rfl,s3,h3⟩
     rw[ak,ak]at hx
     cases qz:C[j]? with
     |none=>rw[qz]at hx;cases hx
     |some z=>
      rw[qz]at hx;cases hx
      have zm:=aar.subset (aC qz)
      obtain⟨dx,ml,e1,e2,e3⟩:=hz z zm
      have pG:=sm.trans s3
      have fl:((C.take j).flatMap λ z=>z.2.cells).length<=96:=by
       have:=IY ((C.take j).map (·.2)) λ t ht=>by
        obtain⟨y,hy,rfl⟩:=List.mem_map.mp ht
        exact hzc y (aar.subset (j_ hy))
       rw[aa,bW,lg]at this
       omega
      refine⟨_,rfl,.inl ⟨rfl,_,nE.of h3⟩,_,rfl,z.1,CT,dx,_,_,rfl,pG _ _ e1,qp.cl,qp.na "cells" (by simp),rfl,rc,ml,_,_,rfl,rfl,h3,pG _ _ e2,?_,?_⟩
      ·rw[m_,m_,aA]
       have:=hzc z zm
       omega
      ·refine⟨_,rfl,s3.put hrc,?_⟩
       rw[mZ,bZ,qz,ee]
       unfold nX
       rw[aF];simp
    ·rintro σ H3 ⟨v5',rfl,s3,h3⟩
     rw[aa,aa,dj]at h3
     have eC:(C.flatMap λ z=>z.2.cells)=(C.map (·.2)).flatMap λ t=>t.cells:=by rw[lg]
     rw[eC]at h3
     refine⟨_,rfl,(m:Int),rfl,by omega,by omega,?_⟩
     refine XR (tN 0 _) ((az m).map λ c=>if(!ur (C.map (·.2)) c)=true then some (V.int (c:Nat))else none) (by rw[aa,aR];rfl) (by rw[aA];show m<=_;omega) (λ j x y H4 R4 N4 hy Nm hF kk kn=>?_) (λ cl H4 Ec s4 ae4=>?_)
     ·have hj:j<m:=by
       have:=(List.getElem?_eq_some_iff.mp hy).1
       simpa using this
      rw[ak,bf hj]at hy
      have hy:(if(!ur (C.map (·.2)) j)=true then some (V.int (j:Nat))else none)=y:=Option.some.inj hy
      have e:(0:Int)+(j:Int)=(j:Int):=Int.zero_add _
      rw[e]at hF
      subst hF
      refine⟨rfl,⟨_,rfl,_,rfl,rc,_,rfl,.inl (nE.of (Nm _ _ h3)),rfl,(by rw[cH];exact List.all_eq_true.mpr λ _ _=>rfl),_,rfl,?_⟩⟩
      rw[show(if true=true then !GQ (.int (j:Nat)) (nX ((C.map (·.2)).flatMap λ t=>t.cells))else GQ (.int (j:Nat)) (nX ((C.map (·.2)).flatMap λ t=>t.cells)))= !ur (C.map (·.2)) j from by rw[if_pos rfl,Dl,J4]]
      refine p_ (λ hq=>?_) λ hq=>?_
      ·rw[if_pos hq]at hy
       exact⟨_,rfl,kk _ hy.symm H4 (m7.refl _)⟩
      ·rw[if_neg hq]at hy
       exact kn hy.symm H4 (m7.refl _)
     have ecl:H4 cl=some (.lst (nX (qd m (C.map (·.2))))):=by
      rw[ae4]
      congr 2
      unfold qd nX
      have:∀l:List Nat,(l.map λ c=>if(!ur (C.map (·.2)) c)=true then some (V.int (c:Nat))else none).filterMap id=(l.filter λ c=> !ur (C.map (·.2)) c).map λ(c:Nat)=>V.int (c:Nat):=λ l=>by
       induction l with
       |nil=>rfl
       |cons a l ih=>
        rw[aH,fq]
        by_cases h:(!ur (C.map (·.2)) a)=true
        ·rw[if_pos h,if_pos h,aH,<-ih];rfl
        ·rw[if_neg h,if_neg h,<-ih];rfl
      exact this _
     have Zd:=s3.trans s4
     have sH4:=sm.trans Zd
     have Xk:=Zd _ _ hB
     refine⟨_,rfl,.inl ⟨rfl,_,nE.of Xk⟩,_,rfl,_,rfl,p,zs,rfl,sH4 _ _ hp,hz.same sH4,h6,λ H5 s5=>?_⟩
     refine⟨_,rfl,l,C,rfl,s5 _ _ (Zd _ _ GC),zC.same (sH4.trans s5),Cl,λ H6 s6=>?_⟩
     refine⟨_,_,rfl,rfl,rfl,λ bo dxb H7 hbo ae5 s7=>?_⟩
     have s57:=s5.trans (s6.trans s7)
     have hB7:=s57 _ _ Xk
     have nbb:bo≠bd:=λ q=>by rw[q,s6 _ _ (s5 _ _ Xk)]at hbo;cases hbo
     have ncb:cl≠bd:=λ q=>by rw[q,s3 _ _ hB]at Ec;cases Ec
     refine⟨bd,_,_,rfl,rfl,hB7,(by rw[aa,aA];omega),?_⟩
     refine⟨_,_,_,_,ks++[bo],rfl,(sH4.trans s57).put hbd,λ b o e nb=>?_,by rw[mZ,aF];rfl,?_,by rw[aw,hkl];rfl⟩
     ·rw[m4 nb];exact s57 _ _ (Zd _ _ (wc _ _ e nb))
     ·have ec:(nJ (zs.map (·.2)))[i]? =some (C.map (·.2)):=by rw[w_,ak,qc];rfl
      rw[bZ,ec]
      refine⟨by rw[aw,hK.1,aw];rfl,λ j a L q1 q2=>?_⟩
      by_cases hj:j<ks.length
      ·rw[bp hj]at q1
       rw[bp (by rw[<-hK.1];exact hj)]at q2
       obtain⟨d1,c1,z1,z2⟩:=hK.2 j a L q1 q2
       have na:a≠bd:=λ q=>by rw[q,hB]at z1;cases z1
       by_cases nc:c1=bd
       ·
        rw[nc,hB]at z2
        have z3:ks.map V.ref=nX (qd m L):=by injection z2 with z2;injection z2
        have q0:ks[0]? =some (ks[0]'(by omega)):=af _
        have z4:(nX (qd m L))[0]? =some (V.ref (ks[0]'(by omega))):=by rw[<-z3,ak,q0];rfl
        obtain⟨_,_,z5⟩:=ou z4
        cases z5
       ·exact⟨d1,c1,by rw[m4 na];exact s57 _ _ (Zd _ _ z1),by rw[m4 nc];exact s57 _ _ (Zd _ _ z2)⟩
      ·rw[bg (by omega)]at q1
       rw[bg (by rw[<-hK.1];omega),<-hK.1]at q2
       have ej:j-ks.length=0:=by
        have:=(List.getElem?_eq_some_iff.mp q1).1
        simp at this;omega
       rw[ej]at q1 q2
       cases q1
       have eL:C.map (·.2)=L:=Option.some.inj q2
       rw[<-eL]
       exact⟨dxb,cl,by rw[m4 nbb];exact ae5,by rw[m4 ncb];exact s57 _ _ ecl⟩
  ·rintro σ H' ⟨v3,v4,v5,v6,ks,rfl,sm,wc,hB,hK,hkl⟩
   have e:(nJ (zs.map (·.2))).take (ls.map V.ref).length=nJ (zs.map (·.2)):=cq (by rw[aa,lls,w_,aa];exact ax _)
   rw[e]at hK
   exact⟨_,rfl,k H' bd ks sm hbd hB hK⟩
def spB(E m:Nat)(L:List aL)(row:List Nat):Int:=((E:Nat):Int)-((rQ L:Nat):Int)-((aZ ((qd m L).map λ c=>row.getD c 0):Nat):Int)
def yI(E m:Nat)(row:List Nat)(c:Nat)(L:List aL):Bool:=decide (spB E m L row=0) && (qd m L).contains c
def sR(E m:Nat)(Ls:List (List aL))(row:List Nat)(c:Nat):Bool:=Ls.all λ L=> !yI E m row c L
theorem E3{m:Nat}{L:List aL}{c:Nat}(h:c∈qd m L):c<m:=List.mem_range.mp (List.mem_filter.mp h).1
theorem Ja(m:Nat)(L:List aL):(qd m L).length<=m:=by
 have:=List.length_filter_le (λ c=> !ur L c) (az m)
 rw[aR]at this;exact this
theorem X9{α:Type}(p:α->Bool)(l:List α)(x:α):(l++[x]).all p=(l.all p && p x):=by
 rw[List.all_append];simp
theorem Vl(p:Nat->Bool)(l:List Nat):(l.map λ c=>if p c=true then some (V.int (c:Nat))else none).filterMap id=nX (l.filter p):=by
 unfold nX
 induction l with
 |nil=>rfl
 |cons a l ih=>
  rw[aH,fq]
  by_cases h:p a=true
  ·rw[if_pos h,if_pos h,aH,<-ih];rfl
  ·rw[if_neg h,if_neg h,<-ih];rfl
def Ld(CB:ag):Sp:=λ vs H Q _=>∃(q b:ag) (ks:List ag) (E m:Nat) (Ls:List (List aL)) (row:List Nat),vs=[.ref q,.ref b]/\H q=some (.lst (ks.map V.ref))/\F8 CB H ks E m Ls/\H b=some (.lst (nX row))/\row.length=m/\m<=16/\Ls.length<=64/\∀H',m7 H H'->Q (.bl (Ls.all λ L=>decide (0<=spB E m L row))) H'
abbrev OX:List Str:=["bounds","row","bound"]
theorem Le:m9 OX ["bounds","row"] (m5 Dc):=qh
theorem Vm(F:pI K "can_make" "can_make" Dc f fd)(cb:GL K CB)(zA:mg "all"=none)(A9:um P w K mg base oG 1 CB "spare" ["self","row"] (MD CB)):nQ P w K mg base oG 2 f fd ["bounds","row"] (Ld CB):=by
 refine F.ok Le (λ vs H Q E h=>?_) (λ oW A outer s H vs Q E hr h=>?_)
 ·obtain⟨q,b,ks,E,m,Ls,row,rfl,_⟩:=h
  rfl
 ·obtain⟨q,b,ks,E,m,Ls,row,rfl,hq,hB,hb,hm,GH,h64,k⟩:=h
  have nd:=Le.nd
  have MF:=cb
  refine⟨_,(m6 (nj (nM (BG rfl) rfl zA iP (mW (qt (own:=[("bound",2)]) rfl nd (oM (pv 0)) (by exact pC.of (N:=OX) (sc:=m5 Dc) (by decide +kernel)) (λ _ _ _ _ _=>by exact(nA (i:=2) nd rfl (Or.inl rfl))) (λ _ _ _ _ _=>by exact oR) (λ _ _ _ _ _=>by exact(rR ac_ (pQ (E:=E0) A9 MF hr (by decide) nr (pv 2) (mW (pv 1) mY)) nO (oK _)))) mY)))),?_⟩
  refine⟨_,rfl,q,rfl,⟨_,nE.of hq⟩,?_⟩
  refine oY (oS (K:=K) (xs:=ks.map V.ref) (nE.of hq)) (Ls.map λ L=>V.bl (decide (0<=spB E m L row))) (by rw[aa,aa,hB.1]) (by rw[aa,hB.1,aA];omega) (λ j x y H3 R3 N3 hy pG hF kk=>?_) (λ D H3 hD pG uC=>?_)
  ·rw[ak]at hF hy
   cases q1:ks[j]? with
   |none=>rw[q1]at hF;cases hF
   |some a=>
    cases q2:Ls[j]? with
    |none=>rw[q2]at hy;cases hy
    |some L=>
     rw[q1]at hF;rw[q2]at hy
     cases hF;cases hy
     obtain⟨dx,cl,e1,e2⟩:=(hB.2 j a L q1 q2).same pG
     refine⟨rfl,sD ⟨_,rfl,a,dx,_,rfl,e1,rfl,_,rfl,a,b,_,_,row,rfl,⟨dx,cl,e1,e2⟩,pG _ _ hb,λ c hc=>by rw[hm];exact E3 hc,aT (Ja m L) GH,λ H4 s4=>⟨_,_,rfl,rfl,kk H4 s4⟩⟩⟩
  ·refine⟨D,Ls.map λ L=>decide (0<=spB E m L row),rfl,nE.of (by rw[uC,aW];rfl),?_⟩
   rw[cH]
   exact k H3 pG
def Al(CB:ag):Sp:=λ vs H Q _=>∃(q b:ag) (ks:List ag) (E m:Nat) (Ls:List (List aL)) (row:List Nat),vs=[.ref q,.ref b]/\H q=some (.lst (ks.map V.ref))/\F8 CB H ks E m Ls/\H b=some (.lst (nX row))/\row.length=m/\m<=16/\GG H Q (nX ((az m).filter (sR E m Ls row)))
abbrev Cw:List Str:=["bounds","row","is_free","bound","cell","efforts"]
theorem Ga:m9 Cw ["bounds","row"] (m5 vq):=qh
theorem OY(F:pI K "free_cells" "free_cells" vq f fd)(qP:Rec P w K mg base "Bound" CB OT)(A9:um P w K mg base oG 1 CB "spare" ["self","row"] (MD CB))(qO:mg "range"=none)(pd:mg "len"=none):nQ P w K mg base oG 2 f fd ["bounds","row"] (Al CB):=by
 refine F.ok Ga (λ vs H Q E h=>?_) (λ oW A outer s H vs Q E hr h=>?_)
 ·obtain⟨q,b,ks,E,m,Ls,row,rfl,_⟩:=h
  rfl
 ·obtain⟨q,b,ks,E,m,Ls,row,rfl,hq,hB,hb,hm,GH,k⟩:=h
  have nd:=Ga.nd
  have MF:=qP.cl
  refine⟨_,(mX (m8 (i:=2) nd rfl (Or.inr rfl) (qt (own:=[("efforts",5)]) rfl nd (oM (pv 1)) (by exact pC.of (N:=Cw) (sc:=m5 vq) (by decide +kernel)) (λ _ _ _ _ _=>by exact(nA (i:=5) nd rfl (Or.inl rfl))) (λ _ _ _ _ _=>by exact oR) (λ _ _ _ _ _=>by exact aaX)))
   (mX (qB PassesOwn.never rfl (oM (pv 0)) (nA (i:=3) nd rfl (Or.inl rfl)) (m6 (pj (oq uc (pQ (E:=E0) A9 MF hr (by decide) nr (pv 3) (mW (pv 1) mY)) nO (oK _)) (m6 (qB PassesOwn.never rfl (oM (nq (pv 3) rfl)) (nA (i:=4) nd rfl (Or.inl rfl)) (m6 (abq aaX (abo (pv 2) (pv 4) set_list))))) nZ)))
   (m6 (nj (qt (own:=[("cell",4)]) rfl nd (xx rfl qO (mW (nM nN rfl pd aX (mW (pv 1) mY)) mY)) (by exact pC.of (N:=Cw) (sc:=m5 vq) (by decide +kernel)) (λ _ _ _ _ _=>by exact(nA (i:=4) nd rfl (Or.inl rfl))) (λ _ _ _ _ _=>by exact(LL (tG (tY K (pv 2) (pv 4))))) (λ _ _ _ _ _=>by exact(pv 4))))))),?_⟩
  refine⟨_,rfl,b,rfl,⟨_,nE.of hb⟩,?_⟩
  refine oY (oS (K:=K) (xs:=nX row) (nE.of hb)) ((az m).map λ c=>V.bl (sR E m [] row c)) (by rw[aa,aR,m_,hm]) (by rw[m_,aA];omega) (λ j x y H3 R3 N3 hy pG hF kk=>?_) (λ fr H1 JJ s1 ae6=>?_)
  ·rw[ak]at hy
   cases q1:(az m)[j]? with
   |none=>rw[q1]at hy;cases hy
   |some c=>
    rw[q1]at hy
    cases hy
    exact⟨rfl,sD (kk H3 (m7.refl _))⟩
  refine⟨_,rfl,q,rfl,⟨_,nE.of (s1 _ _ hq)⟩,rh (K:=K) (a:=q) (xs:=ks.map V.ref) (λ i σ H'=>∃(v3 v4:Option V),σ=[some (.ref q),some (.ref b),some (.ref fr),v3,v4,none]/\m7 H H'/\H' fr=some (.lst ((az m).map λ c=>V.bl (sR E m (Ls.take i) row c))))
   ⟨none,none,rfl,s1,ae6⟩ (λ i σ H' _ ⟨_,_,_,sm,_⟩=>nE.of (sm _ _ hq)) ?_ ?_⟩
  ·rintro i x σ H' hx ⟨v3,v4,rfl,sm,hF⟩
   rw[ak]at hx
   cases q1:ks[i]? with
   |none=>rw[q1]at hx;cases hx
   |some a=>
    rw[q1]at hx;cases hx
    have hi:i<Ls.length:=by rw[<-hB.1];exact(List.getElem?_eq_some_iff.mp q1).1
    have q2:Ls[i]? =some Ls[i]:=af hi
    generalize Ls[i]=L at q2
    have et:Ls.take (i+1)=Ls.take i++[L]:=by rw[bZ,q2];rfl
    have ef:∀c,sR E m (Ls.take (i+1)) row c=(sR E m (Ls.take i) row c && !yI E m row c L):=λ c=>by
     unfold sR;rw[et,X9]
    obtain⟨dx,cl,e1,e2⟩:=(hB.2 i a L q1 q2).same sm
    refine⟨_,rfl,a,dx,_,rfl,e1,rfl,_,rfl,a,b,_,_,row,rfl,⟨dx,cl,e1,e2⟩,sm _ _ hb,λ c hc=>by rw[hm];exact E3 hc,aT (Ja m L) GH,λ H4 s4=>?_⟩
    have hF4:=s4 _ _ hF
    refine⟨rfl,_,rfl,p_ (λ hc=>?_) λ hc=>?_⟩
    ·have hc:spB E m L row=0:=V.int.inj (of_decide_eq_true hc)
     have tz:∀c,yI E m row c L=(qd m L).contains c:=λ c=>by unfold yI;rw[decide_eq_true hc,fE]
     refine⟨_,rfl,a,CB,dx,_,_,rfl,s4 _ _ e1,qP.cl,qP.na "cells" (by simp),rfl,cl,rfl,⟨_,nE.of (s4 _ _ e2)⟩,rh (K:=K) (a:=cl) (xs:=nX (qd m L)) (λ j σ H''=>∃(v4:Option V),σ=[some (.ref q),some (.ref b),some (.ref fr),some (.ref a),v4,none]/\m7 H H''/\H'' cl=some (.lst (nX (qd m L)))/\H'' fr=some (.lst ((az m).map λ c=>V.bl (sR E m (Ls.take i) row c && !((qd m L).take j).contains c))))
      ⟨v4,rfl,sm.trans s4,s4 _ _ e2,by rw[hF4];simp⟩ (λ j σ H' _ ⟨_,_,_,z,_⟩=>nE.of z) ?_ ?_⟩
     ·rintro j x σ H5 hx ⟨v4',rfl,s5,aas,h5⟩
      obtain⟨c,qc,rfl⟩:=ou hx
      have ZG:=E3 (aC qc)
      have nfc:cl≠fr:=λ z=>by
       rw[z,h5]at aas
       have z3:((az m).map λ c=>V.bl (sR E m (Ls.take i) row c && !((qd m L).take j).contains c))=nX (qd m L):=by injection aas with z2;injection z2
       have z4:=oU qc
       rw[<-z3,ak]at z4
       cases z5:(az m)[j]? with
       |none=>rw[z5]at z4;cases z4
       |some _=>rw[z5]at z4;cases z4
      refine⟨_,rfl,_,rfl,fr,_,_,c,rfl,rfl,h5,yp (by rw[aa,aR];exact ZG),?_⟩
      refine⟨_,rfl,s5.put JJ,by rw[m4 nfc];exact aas,?_⟩
      rw[mZ]
      congr 2
      apply bO
      intro n
      rw[dY,ak,ak,aa,aR]
      have tk:((qd m L).take (j+1)).contains n=(((qd m L).take j).contains n || n == c):=by
       rw[bZ,qc,du,gX,dk,dk,lE,beq_iff_eq];simp
      by_cases hn:n<m
      ·rw[bf hn]
       show _=some (V.bl (sR E m (Ls.take i) row n && !((qd m L).take (j+1)).contains n))
       rw[tk]
       by_cases e:c=n
       ·subst e
        rw[if_pos rfl,if_pos hn,beq_self_eq_true];simp
       ·rw[if_neg e,show(n == c)=false from beq_eq_false_iff_ne.mpr (Ne.symm e),lZ];rfl
      ·have e:c≠n:=λ z=>hn (by omega)
       rw[if_neg e,aI (by rw[aR];omega)];rfl
     ·rintro σ H5 ⟨v4',rfl,s5,aas,h5⟩
      rw[m_,dj]at h5
      refine⟨_,_,rfl,s5,?_⟩
      rw[h5]
      congr 2
      refine bP λ c _=>?_
      rw[ef,tz]
    ·have hc:¬ spB E m L row=0:=λ z=>hc (decide_eq_true (congrArg V.int z))
     refine⟨_,_,rfl,sm.trans s4,?_⟩
     rw[hF4]
     congr 2
     refine bP λ c _=>?_
     rw[ef]
     unfold yI
     rw[decide_eq_false hc];simp
  ·rintro σ H' ⟨v3,v4,rfl,sm,hF⟩
   have e:Ls.take (ks.map V.ref).length=Ls:=cq (by rw[aa,hB.1];exact ax _)
   rw[e]at hF
   refine⟨_,rfl,b,_,rfl,.inl (nE.of (sm _ _ hb)),_,rfl,by omega,by rw[m_];omega,?_⟩
   have el:((nX row).length:Int).toNat=m:=by rw[m_];omega
   refine XR (tN 0 _) ((az m).map λ c=>if sR E m Ls row c=true then some (V.int (c:Nat))else none) (by rw[aa,aR];exact el.symm) (by rw[el,aA];omega) (λ j x y H3 R3 N3 hy pG hx kk kn=>?_) (λ D H3 hD pG uC=>k H3 D (sm.trans pG) (none_of sm hD) (by rw[uC,Vl]))
   have hj:j<m:=by
    have:=(List.getElem?_eq_some_iff.mp hy).1
    simpa using this
   rw[ak,bf hj]at hy
   have hy:(if sR E m Ls row j=true then some (V.int (j:Nat))else none)=y:=Option.some.inj hy
   have e0:(0:Int)+(j:Int)=(j:Int):=Int.zero_add _
   rw[e0]at hx
   subst hx
   have ae7:((az m).map λ c=>V.bl (sR E m Ls row c))[j]? =some (V.bl (sR E m Ls row j)):=by rw[ak,bf hj];rfl
   refine⟨rfl,⟨_,rfl,_,rfl,fr,_,_,_,rfl,rfl,nE.of (pG _ _ hF),ot ae7,_,rfl,p_ (λ hq=>?_) λ hq=>?_⟩⟩
   ·rw[if_pos hq]at hy
    exact⟨_,rfl,kk _ hy.symm H3 (m7.refl _)⟩
   ·rw[if_neg hq]at hy
    exact kn hy.symm H3 (m7.refl _)
theorem TU(p:Nat->Bool)(m:Nat):((az m).filter p).Pairwise (· < ·):=List.Pairwise.sublist iy jP
theorem X_{f:ae}{m:Nat}{row l:List Nat}(R:DJ m row l)(F:xO f l)(c:Nat):c∈(az m).filter (sR (rQ f.teams) m (nJ f.teams) row)↔c<m/\xO f (c::l):=by
 rw[List.mem_filter,List.mem_range]
 constructor
 ·rintro⟨h1,h2⟩
  refine⟨h1,(OR R F h1).mpr λ L hL h0 hm=>?_⟩
  have:=List.all_eq_true.mp h2 L hL
  unfold yI at this
  rw[decide_eq_true (show spB (rQ f.teams) m L row=0 from h0),List.contains_iff_mem.mpr hm]at this
  cases this
 ·rintro⟨h1,h2⟩
  refine⟨h1,List.all_eq_true.mpr λ L hL=>?_⟩
  have:=(OR R F h1).mp h2 L hL
  unfold yI
  by_cases h0:spB (rQ f.teams) m L row=0
  ·have hn:=this h0
   have:(qd m L).contains c=false:=by
    cases z:(qd m L).contains c with
    |false=>rfl
    |true=>exact absurd (List.contains_iff_mem.mp z) hn
   rw[this];simp
  ·rw[decide_eq_false h0];rfl
theorem Ya{m:Nat}{row l v:List Nat}{c:Nat}(R:DJ m row l)(hc:c<m)(p:v.Perm (c::l)):DJ m (bump row c) v:=by
 refine⟨by rw[pX];exact R.len,λ x hx=>?_,λ x hx=>?_⟩
 ·rcases List.mem_cons.mp (p.mem_iff.mp hx)with e|e
  ·rw[e];exact hc
  ·exact R.lt x e
 ·rw[A5 (by rw[R.len];exact hc),p.count_eq,eM,R.cnt x hx,R.cnt c hc]
  by_cases e:x=c
  ·subst e;rw[if_pos rfl,beq_self_eq_true,if_pos rfl]
  ·rw[if_neg e,show(c == x)=false from beq_eq_false_iff_ne.mpr (Ne.symm e)];simp
theorem Vn{d r:List Nat}{c:Nat}(hl:r.length=d.length)(hc:c<d.length):bC d (bump r c)=bump (bC d r) c:=by
 unfold bump
 exact Xy d r c _ (getD_at (by omega)) hl
def Jb(CB:ag):Sp:=λ vs H Q _=>∃(q a b:ag) (ks as:List ag) (f:ae) (d:List Nat),vs=[.ref q,.ref a,.ref b]/\H q=some (.lst (ks.map V.ref))/\F8 CB H ks (rQ f.teams) d.length (nJ f.teams)/\H a=some (.lst (as.map V.ref))/\TabsAt H as (n9 f)/\H b=some (.lst (nX d))/\d.length=f.cells.length/\d.length<=16/\GG H Q (nX (eN (fU f d) d))
abbrev Lf:List Str:=["bounds","tables","had","row","now","cell","efforts"]
theorem Jc:m9 Lf ["bounds","tables","had"] (m5 AY):=qh
theorem Rt(F:pI K "teams_row" "teams_row" AY f fd)(ES:mg "list"=none)(rq:rB P w K mg base oG 2 "best_cell" ["tables","had","cells"] Co)(uO:rB P w K mg base oG 2 "free_cells" ["bounds","row"] (Al CB))(pJ:Hz7 P w K mg base):nQ P w K mg base oG 3 f fd ["bounds","tables","had"] (Jb CB):=by
 refine F.ok Jc (λ vs H Q E h=>?_) (λ oW A outer s H vs Q E hr h=>?_)
 ·obtain⟨q,a,b,ks,as,f,d,rfl,_⟩:=h
  rfl
 ·obtain⟨q,a,b,ks,as,f,d,rfl,hq,hB,ha,hT,hb,hd,GH,k⟩:=h
  have nd:=Jc.nd
  refine⟨_,(mX (zN (i:=3) (own:=[("efforts",6)]) rfl nd rfl rfl rfl (oM (pv 2)) (by exact pC.of (N:=Lf) (sc:=m5 AY) (by decide +kernel)) (λ _ _ _ _ _=>by exact(nA (i:=6) nd rfl (Or.inl rfl))) (λ _ _ _ _ _=>by exact oR) (λ _ _ _ _ _=>by exact nO))
   (mX (m8 (i:=4) nd rfl (Or.inl rfl) (sr xS rfl ES kD (mW (pv 2) mY)))
   (mX (m8 (i:=5) nd rfl (Or.inl rfl) (nv (E:=E0) rq hr (by decide) nr (mW (pv 1) (mW (pv 4) (mW (nv (E:=E0) uO hr (by decide) nr (mW (pv 0) (mW (pv 3) mY))) mY)))))
   (mX (rM PassesOwn.never (PW.pt (Eg (PY (Zm (pv 5))) (AO (oq Bj (nv (E:=E0) pJ hr (by decide) nr (mW (o_ og (pv 1) (pv 5) (λ _ _=>rfl)) (mW (o_ og (pv 4) (pv 5) (λ _ _=>rfl)) mY))) nO (oK _))))) (mX (AQ (pv 3) (pv 5) xJ nO zG set_list)
   (mX (AQ (pv 4) (pv 5) xJ nO zG set_list)
   (m6 (m8 (i:=5) nd rfl (Or.inl rfl) (nv (E:=E0) rq hr (by decide) nr (mW (pv 1) (mW (pv 4) (mW (nv (E:=E0) uO hr (by decide) nr (mW (pv 0) (mW (pv 3) mY))) mY)))))))))
   (m6 (nj (pv 3))))))),?_⟩
  refine⟨_,rfl,b,rfl,⟨_,nE.of hb⟩,?_⟩
  refine oY (oS (K:=K) (xs:=nX d) (nE.of hb)) (nX (d.map λ _=>0)) (by rw[m_,m_,aa]) (by rw[m_,aA];omega) (λ j x y H3 R3 N3 hy pG hF kk=>?_) (λ wb H1 hrw s1 acw=>?_)
  ·obtain⟨v,qv,rfl⟩:=ou hy
   have e0:v=0:=by
    rw[ak]at qv
    cases z:d[j]? with
    |none=>rw[z]at qv;cases qv
    |some _=>rw[z]at qv;exact(Option.some.inj qv).symm
   subst e0
   exact⟨rfl,sD (kk H3 (m7.refl _))⟩
  refine⟨_,rfl,b,_,rfl,.inl (nE.of (s1 _ _ hb)),λ nw Zb=>?_⟩
  have XX:=none_of s1 Zb
  have nrn:wb≠nw:=λ z=>by rw[<-z,acw]at Zb;cases Zb
  have s2:m7 H (upd H1 nw (.lst (nX d))):=s1.put XX
  have adS:∀(H':Hp) (r:List Nat) (Q':VK),m7 H H'->H' wb=some (.lst (nX r))->r.length=d.length->(∀H2 p,m7 H' H2->H' p=none->H2 p=some (.lst (nX ((az d.length).filter (sR (rQ f.teams) d.length (nJ f.teams) r))))->Q' (.ref p) H2)->Al CB [.ref q,.ref wb] H' Q' E0:=
   λ H' r Q' sm h1 h3 h5=>⟨q,wb,ks,rQ f.teams,d.length,nJ f.teams,r,rfl,sm _ _ hq,hB.same sm,h1,h3,GH,h5⟩
  have inR:∀(p:Nat->Bool) (D:List Nat),D.length=d.length->∀c∈(az d.length).filter p,c<D.length:=λ p D h c hc=>by rw[h];exact List.mem_range.mp (List.mem_filter.mp hc).1
  have e0:eN d d=d.map λ _=>0:=by
   have:=EN d (d.map λ _=>0) (by rw[aa])
   rw[KL]at this;exact this
  have R0:DJ d.length (d.map λ _=>0) []:=⟨by rw[aa],λ c hc=>(by cases hc),λ c hc=>by rw[aB,ak,af hc];rfl⟩
  refine⟨_,rfl,_,rfl,_,rfl,_,rfl,adS _ (d.map λ _=>0) _ s2 (by rw[m4 nrn];exact acw) (by rw[aa]) λ H2 p s3 hp ZA=>?_⟩
  have s2':=s2.trans s3
  have hr2:H2 wb=some (.lst (nX (d.map λ _=>0))):=s3 _ _ (by rw[m4 nrn];exact acw)
  have PJ:H2 nw=some (.lst (nX d)):=s3 _ _ mZ
  refine⟨a,nw,p,as,f,d,_,rfl,s2' _ _ ha,hT.same s2',PJ,ZA,hd,inR _ d rfl,?_⟩
  refine⟨λ mm σ H'=>∃(o6:Option V) (r D pN:List Nat) (u:Vbmrac.Use) (kk:Nat),σ=[some (.ref q),some (.ref a),some (.ref b),some (.ref wb),some (.ref nw),some (acp (bestOf f D ((az d.length).filter (sR (rQ f.teams) d.length (nJ f.teams) r)))),o6]/\m7 H H'/\H' wb=some (.lst (nX r))/\H' nw=some (.lst (nX D))/\DJ d.length r (u.map (·.2))/\D=bC d r/\acv f D kk u pN/\eG f kk D u pN=fU f d/\mm=(slots f).length-u.length,
   ⟨_,none,d.map λ _=>0,d,[],[],_,rfl,s2',hr2,PJ,R0,by rw[KL],⟨TM f,λ c hc=>(by cases hc),eV,λ c hc=>(by cases hc),by rw[<-hd];exact ax _⟩,rfl,rfl⟩,?_⟩
  rintro mm σ H' ⟨o6,r,D,pN,u,kk,rfl,sm,X1,hn',R,eD,T,eq,rfl⟩
  have Ow:D.length=d.length:=by rw[eD];exact Du R.len
  have F:=IS T.mat
  have step:=IX (f:=f) (d:=D) (u:=u) (cs:=(az d.length).filter (sR (rQ f.teams) d.length (nJ f.teams) r)) (TU _ _) (λ c=>by rw[Ow];exact X_ R F c) kk pN T
  have adT:(∀c,bestOf f D ((az d.length).filter (sR (rQ f.teams) d.length (nJ f.teams) r))=some c->c8 f c (D.getD c 0)=0)->Q (.ref wb) H':=λ h=>by
   have e:=step.2 h
   rw[eq,eD]at e
   rw[e,EN d r R.len]at k
   exact k H' wb sm hrw X1
  cases TV:bestOf f D ((az d.length).filter (sR (rQ f.teams) d.length (nJ f.teams) r))with
  |none=>
   refine⟨_,rfl,_,rfl,p_ (λ hc=>absurd hc (by decide)) λ _=>rJ ⟨_,rfl,adT λ c hc=>by rw[TV]at hc;cases hc⟩⟩
  |some c=>
   obtain⟨⟨c1,c2⟩,_⟩:=(DL (TU _ _)).1 c TV
   have hc:c<d.length:=List.mem_range.mp (List.mem_filter.mp c1).1
   have gD:=getD_at (d:=D) (c:=c) (by omega)
   have gr:=getD_at (d:=r) (c:=c) (by rw[R.len];exact hc)
   obtain⟨tb,t,t1,t2,t3,t4,t5⟩:=GY (hT.same sm) (show c<f.cells.length by omega) c2
   refine⟨_,rfl,_,rfl,p_ (λ _=>?_) λ hn=>absurd (show(!decide (V.int (c:Nat)=V.qA))=true by rw[decide_eq_false (by intro z;cases z)];rfl) hn⟩
   refine⟨_,rfl,_,rfl,a,_,_,_,rfl,rfl,nE.of (sm _ _ ha),ot t1,_,rfl,_,rfl,nw,_,_,_,rfl,rfl,nE.of hn',ot (oU gD),tb,t,_,_,_,rfl,t2,t3,t4,_,_,rfl,rfl,_,rfl,?_⟩
   rw[t5]
   refine p_ (λ hg=>?_) λ hg=>?_
   ·have hg:(0:Int)<((c8 f c (D.getD c 0):Nat):Int):=of_decide_eq_true hg
    obtain⟨k',v,TQ,z1,z2,z3⟩:=step.1 c TV (by omega)
    have vl:v.length=u.length+1:=by
     have:=z3.length_eq
     rw[aa,aD,aa]at this;exact this
    have vn:=TN z2.mat
    refine⟨_,λ _ _ z=>z,_,rfl,_,rfl,wb,_,c,_,rfl,rfl,nE.of X1,oU gr,_,_,rfl,rfl,wb,_,_,c,rfl,rfl,X1,yp (by rw[m_,R.len];exact hc),?_⟩
    generalize JM:upd H' wb _=H2
    have hr2:H2 wb=some (.lst (nX (bump r c))):=by rw[<-JM,mZ];unfold nX bump;rw[fS];rfl
    have PJ:H2 nw=some (.lst (nX D)):=by rw[<-JM,m4 (Ne.symm nrn)];exact hn'
    have wc:m7 H H2:=by rw[<-JM];exact sm.put hrw
    refine⟨_,rfl,_,rfl,nw,_,c,_,rfl,rfl,nE.of PJ,oU gD,_,_,rfl,rfl,nw,_,_,c,rfl,rfl,PJ,yp (by rw[m_,Ow];exact hc),?_⟩
    generalize hH3:upd H2 nw _=H3
    have hn3:H3 nw=some (.lst (nX (bump D c))):=by rw[<-hH3,mZ];unfold nX bump;rw[fS];rfl
    have hr3:H3 wb=some (.lst (nX (bump r c))):=by rw[<-hH3,m4 nrn];exact hr2
    have pG:m7 H H3:=by rw[<-hH3];exact wc.put XX
    refine⟨_,rfl,_,rfl,_,rfl,_,rfl,adS H3 (bump r c) _ pG hr3 (by rw[pX,R.len]) λ H4 p Zd hp hp4=>?_⟩
    have s4:=pG.trans Zd
    have hr4:=Zd _ _ hr3
    have hn4:=Zd _ _ hn3
    refine⟨a,nw,p,as,f,bump D c,_,rfl,s4 _ _ ha,hT.same s4,hn4,hp4,by rw[pX,Ow,hd],inR _ _ (by rw[pX,Ow]),?_⟩
    refine⟨(slots f).length-v.length,by omega,_,bump r c,bump D c,TQ,v,k',rfl,s4,hr4,hn4,Ya R hc z3,by rw[Vn R.len hc,eD],z2,by rw[<-z1,eq],rfl⟩
   ·have hg:¬ (0:Int)<((c8 f c (D.getD c 0):Nat):Int):=λ z=>hg (decide_eq_true z)
    refine⟨_,rfl,adT λ c' VX=>?_⟩
    rw[TV]at VX
    cases VX
    omega
end oh
namespace L2
theorem nQ.noX{P:aJ}{w:aY}{K:ah}{mg:Str->Option ao}{base:bz}{C:ag}{k:Nat}{f:ag}{fd:bK}{ps:List Str}{sp:Sp}(F:nQ P w K mg base (BJ P w C) k f fd ps sp):nQ P w K mg base oG k f fd ps (λ vs H Q _=>sp vs H Q E0):=
 ⟨λ vs H Q E h=>F.len vs H Q E0 h,λ A outer s H args us vs Q E hr he hb hv hs=>dX (F.run A outer s H args us vs Q E0 hr he hb hv hs) λ r s' h=>by
  cases r with
  |error e=>
   obtain⟨_,_,_,_,_,_,_,_,_,z⟩:=h
   exact(z:False).elim
  |ok fl=>cases fl <;> exact h⟩
theorem rB.noX{P:aJ}{w:aY}{K:ah}{mg:Str->Option ao}{base:bz}{C:ag}{k:Nat}{x:Str}{ps:List Str}{sp:Sp}(h:rB P w K mg base (BJ P w C) k x ps sp):rB P w K mg base oG k x ps (λ vs H Q _=>sp vs H Q E0):=
 let⟨f,fd,F,r⟩:=h
 ⟨f,fd,F.noX,r⟩
theorem r9{σ:L2.St}{H:Hp}{Kc:List V->Hp->Prop}(h:Kc [] H):Wl σ H Kc:=h
end L2
namespace oh
def Ru(x wl hl:ag)(H H':Hp):Prop:=∀b o,H b=some o->b≠x->b≠wl->b≠hl->(∀φ,o≠ .ext φ)->H' b=some o
theorem Ru.ne{x wl hl:ag}{H H':Hp}(n:NE H H'):Ru x wl hl H H':=λ b o e _ _ _ z=>n b o e z
theorem rF.same{CF CC CT:ag}{H H':Hp}{a:ag}{f:ae}(h:rF CF CC CT H a f)(sm:m7 H H'):rF CF CC CT H' a f:=by
 obtain⟨dx,lc,lt,as,bs,h1,h2,h3,h4,h5⟩:=h
 exact⟨dx,lc,lt,as,bs,sm _ _ h1,sm _ _ h2,⟨h3.1,λ j b c e1 e2=>let⟨d,z⟩:=h3.2 j b c e1 e2;⟨d,sm _ _ z⟩⟩,sm _ _ h4,⟨h5.1,λ j b t e1 e2=>(h5.2 j b t e1 e2).same sm⟩⟩
structure vf(CS CF CC CT:ag)(s:bR)(f0:ae)(ws:List Nat)(a:ag)(H:Hp)(x wl hl:ag):Prop where
 se:Aa CS H x (.ref a) wl hl ws s.done
 ne:wl≠hl
 fa:∃H0:Hp,rF CF CC CT H0 a f0/\m7 H0 H/\H0 x=none/\H0 wl=none/\H0 hl=none/\∀b φ,H0 b≠some (.ext φ)
 ok:Ds f0
 nm:∀c∈f0.cells,c.name.length<=8
 fe:s.field=pL f0 ws
 lw:ws.length=f0.cells.length
 ld:s.done.length=f0.cells.length
 tu:∀n∈s.done,n<=20
 Ze:∀n∈ws,n<=1000000000000
theorem A_{f:ae}{ws:List Nat}{c:bF}(h:c∈(pL f ws).cells):∃c0∈f.cells,c.finds=c0.finds/\c.time=c0.time/\c.weight∈ws:=by
 unfold pL at h
 obtain⟨i,hi,e⟩:=cw h
 rw[c_]at hi
 rw[List.getElem_zipWith]at e
 rw[<-e]
 exact⟨_,cp (show i<f.cells.length by omega),rfl,rfl,cp (show i<ws.length by omega)⟩
section
variable{CS CF CC CT:ag}{s:bR}{f0:ae}{ws:List Nat}{a:ag}{H:Hp}{x wl hl:ag}
theorem vf.field(T:vf CS CF CC CT s f0 ws a H x wl hl):rF CF CC CT H a f0:=by
 obtain⟨H0,h1,h2,_⟩:=T.fa
 exact h1.same h2
theorem vf.len(T:vf CS CF CC CT s f0 ws a H x wl hl):s.field.cells.length=f0.cells.length:=by rw[T.fe];exact qN T.lw
theorem vf.wB(T:vf CS CF CC CT s f0 ws a H x wl hl):f0.cells.length<=16:=T.ok.cells.len
theorem vf.dl(T:vf CS CF CC CT s f0 ws a H x wl hl):s.done.length=s.field.cells.length:=by rw[T.ld,T.len]
theorem vf.fw(T:vf CS CF CC CT s f0 ws a H x wl hl):FW s.field:=by
 have p:=T.ok.parts
 have ep:s.field.parts=f0.parts:=by rw[T.fe];rfl
 refine⟨by rw[ep];omega,by rw[ep];omega,by rw[T.len];exact T.wB,λ q=>?_,λ c hc=>?_,λ c hc=>?_⟩
 ·have h1:=T.len
  rw[q]at h1
  exact T.ok.ne (List.length_eq_zero_iff.mp h1.symm)
 ·rw[T.fe]at hc
  obtain⟨c0,_,_,_,z⟩:=A_ hc
  exact T.Ze _ z
 ·rw[T.fe]at hc
  obtain⟨c0,h0,z,_,_⟩:=A_ hc
  rw[z,ep]
  exact(T.ok.cells.each c0 h0).finds
theorem vf.time(T:vf CS CF CC CT s f0 ws a H x wl hl):uo s.field:=λ c hc=>by
 rw[T.fe]at hc
 obtain⟨c0,h0,_,z,_⟩:=A_ hc
 rw[z]
 exact(T.ok.cells.each c0 h0).time
theorem vf.teams(T:vf CS CF CC CT s f0 ws a H x wl hl):s.field.teams=f0.teams:=by rw[T.fe];rfl
theorem vf.times(T:vf CS CF CC CT s f0 ws a H x wl hl):s.field.cells.map (·.time)=f0.cells.map (·.time):=by
 rw[T.fe]
 apply bO
 intro i
 rw[ak,ak]
 show j8 _ (jO _ _ _)[i]? =_
 rw[aP]
 by_cases hi:i<f0.cells.length
 ·rw[af hi,af (show i<ws.length by rw[T.lw];exact hi)];rfl
 ·rw[aI (show f0.cells.length<=i by omega)]
theorem vf.Vo(T:vf CS CF CC CT s f0 ws a H x wl hl){H':Hp}(n:NE H H'):vf CS CF CC CT s f0 ws a H' x wl hl:=by
 obtain⟨H0,h1,h2,h3⟩:=T.fa
 have e:∀b o,H b=some o->(∀φ,o≠ .ext φ)->H' b=some o:=λ b o e z=>n b o e z
 obtain⟨⟨dx,e1⟩,e2,e3⟩:=T.se
 refine⟨⟨⟨dx,e _ _ e1 (λ φ q=>by cases q)⟩,e _ _ e2 (λ φ q=>by cases q),e _ _ e3 (λ φ q=>by cases q)⟩,T.ne,⟨H0,h1,λ b o eb=>e b o (h2 b o eb) λ φ q=>h3.2.2.2 b φ (by rw[eb,q]),h3⟩,T.ok,T.nm,T.fe,T.lw,T.ld,T.tu,T.Ze⟩
theorem vf.same(T:vf CS CF CC CT s f0 ws a H x wl hl){H':Hp}(sm:m7 H H'):vf CS CF CC CT s f0 ws a H' x wl hl:=T.Vo (NE.of_same sm)
theorem vf.qr(T:vf CS CF CC CT s f0 ws a H x wl hl){Q:VK}{E:XK}(k:∀H' p as,m7 H H'->H p=none->H' p=some (.lst (as.map V.ref))->TabsAt H' as (n9 s.field)->Q (.ref p) H'):Ia CS CF CC CT [.ref x] H Q E:=by
 have W:=T.fw
 rw[T.fe]at k W
 exact⟨x,wl,hl,a,ws,s.done,f0,rfl,T.se,T.field,T.lw,W,k⟩
theorem vf.Am(T:vf CS CF CC CT s f0 ws a H x wl hl){Q:VK}{E:XK}(k:∀H',m7 H H'->Q (.int (left s.field s.done:Nat)) H'):QU CS CF CC CT [.ref x] H Q E:=by
 have W:=T.fw
 rw[T.fe]at k W
 exact⟨x,wl,hl,a,ws,s.done,f0,rfl,T.se,T.field,T.lw,W,T.ld,T.tu,k⟩
theorem vf.E5(T:vf CS CF CC CT s f0 ws a H x wl hl){Q:VK}{E:XK}(k:GG H Q (nX (s.field.cells.map (·.time)))):Mu CS CF CC CT [.ref x] H Q E:=by
 rw[T.times]at k
 exact⟨x,wl,hl,a,ws,s.done,f0,rfl,T.se,T.field,T.wB,k⟩
theorem vf.MG(T:vf CS CF CC CT s f0 ws a H x wl hl){Q:VK}{E:XK}{b:ag}{zs:List Int}(hb:H b=some (.lst (iL zs)))(hz:zs.length<=70)(k:∀H',m7 H H'->Q (.bl (fL s zs)) H'):Mj CS [.ref x,.ref b] H Q E:=by
 refine⟨x,wl,hl,b,_,ws,s.done,zs,rfl,T.se,hb,by omega,λ H' sm=>?_⟩
 have e:(zs.length == s.done.length && zs.all λ z=>bI z 0 20)=fL s zs:=by unfold fL;rw[T.dl];rfl
 rw[e];exact k H' sm
theorem vf.Jd(T:vf CS CF CC CT s f0 ws a H x wl hl){Q:VK}{E:XK}{b:ag}{zs:List Int}(hb:H b=some (.lst (iL zs)))(k:∀H',m7 H H'->Q (.bl (DB s.done zs)) H'):EW CS [.ref x,.ref b] H Q E:=
 ⟨x,wl,hl,b,_,ws,s.done,zs,rfl,T.se,hb,by rw[T.ld];exact T.wB,k⟩
theorem vf.MH(T:vf CS CF CC CT s f0 ws a H x wl hl){Q:VK}{E:XK}{z:Int}(k:Q (.bl (decide (((aZ s.done:Nat):Int)+z<=20*((s.done.length:Nat):Int)))) H):yB CS [.ref x,.int z] H Q E:=
 ⟨x,wl,hl,_,ws,s.done,z,rfl,T.se,k⟩
theorem vf.DO(T:vf CS CF CC CT s f0 ws a H x wl hl){Q:VK}{E:XK}{z:Int}(k:Q (.bl (eR s z)) H):H_ CS [.ref x,.int z] H Q E:=by
 refine⟨x,wl,hl,_,ws,s.done,z,rfl,T.se,?_⟩
 rw[T.dl];exact k
end
def ph(b1 b2:Bool)(l:Nat)(rest:List Int):List Int:=if b1=false then[-1]else if b2=false then[-3]else if l=0 then[-6]else rest
theorem tS{b1 b2:Bool}{l:Nat}(h:ph b1 b2 l []=[]):b1=true/\b2=true/\l≠0:=by
 unfold ph at h
 cases b1 with
 |false=>cases h
 |true=>
  cases b2 with
  |false=>cases h
  |true=>
   refine⟨rfl,rfl,λ z=>?_⟩
   rw[z]at h;cases h
theorem OZ{b1 b2:Bool}{l:Nat}(rest:List Int)(h:ph b1 b2 l []≠[]):ph b1 b2 l rest=ph b1 b2 l []:=by
 unfold ph at h ⊢
 cases b1 with
 |false=>rfl
 |true=>
  cases b2 with
  |false=>rfl
  |true=>
   by_cases z:l=0
   ·rw[z];rfl
   ·rw[if_neg (by simp),if_neg (by simp),if_neg z]at h;exact absurd rfl h
theorem qF{l:Nat}(h:l≠0)(rest:List Int):ph true true l rest=rest:=by
 unfold ph
 rw[if_neg (by simp),if_neg (by simp),if_neg h]
theorem DP{s:bR}{zs:List Int}(h:fL s zs=true):iL zs=nX (bV zs)/\(bV zs).length=s.field.cells.length/\(∀n∈bV zs,n<=20)/\zs=dU (bV zs):=by
 unfold fL at h
 rw[bj,fz]at h
 have e:zs=dU (bV zs):=by
  unfold dU bV
  rw[aW]
  conv=>lhs;rw[<-ic zs]
  refine bP λ z hz=>?_
  have q:=h.2 z hz
  unfold bI at q
  simp at q
  show z=((z.toNat:Nat):Int)
  omega
 refine⟨?_,?_,λ n hn=>?_,e⟩
 ·rw[uq]
  exact congrArg iL e
 ·unfold bV
  rw[aa];exact eq_of_beq h.1
 ·obtain⟨z,hz,rfl⟩:=List.mem_map.mp hn
  have q:=h.2 z hz
  unfold bI at q
  rw[bj,decide_eq_true_iff,decide_eq_true_iff]at q
  have q2:z<=(20:Int):=q.2
  have q1:=q.1
  show z.toNat<=20
  omega
theorem Ba{s:bR}{zs:List Int}(h:fL s zs=true)(d:List Nat):DB d zs= !dr (bC d (bV zs)):=by
 have e:=(DP h).2.2.2
 have e1:vH d zs=(bC d (bV zs)).map λ(n:Nat)=>(n:Int):=by
  conv=>lhs;rw[e]
  unfold vH bC dU
  rw[ja,gO];rfl
 unfold DB dr
 rw[e1,cH,jK]
 congr 1
 funext n
 show decide ((n:Int)<=20)= !decide (20<n)
 by_cases q:n<=20
 ·rw[decide_eq_true (by omega),decide_eq_false (by omega)];rfl
 ·rw[decide_eq_false (by omega),decide_eq_true (by omega)];rfl
theorem MJ{d:List Nat}(h:dr d=false):∀n∈d,n<=20:=λ n hn=>by
 unfold dr at h
 rw[iS]at h
 have:=h n hn
 have h2:¬ 20<n:=λ z=>this (decide_eq_true z)
 omega
theorem Rv(d:List Nat)(wg:∀n∈d,n<=20):room d+aZ d=20*d.length:=by
 unfold Vbmrac.room
 induction d with
 |nil=>rfl
 |cons a d ih=>
  rw[aH,ow,ow,aD]
  have:=ih λ n hn=>wg n (by simp[hn])
  have ha:=wg a (by simp)
  show(20-a)+ _+ _=_
  omega
theorem t8(z:Int)(l:List Int):iL (z::l)=V.int z::iL l:=rfl
theorem An(l m:List Int):iL (l++m)=iL l++iL m:=aF
theorem Bb(l:List Nat):iL (dU l)=nX l:=by rw[uq];rfl
theorem Lg{l:List Int}{A B:Prop}(h1:l≠[]->A)(h2:l=[]->B):if(!(iL l).isEmpty)=true then A else B:=by
 cases l with
 |nil=>exact rJ (h2 rfl)
 |cons a r=>exact tp (h1 (by simp))
theorem Vp{H:Hp}{p:ag}{b1 b2:Bool}{l:Nat}{rest:List Int}(h:ph b1 b2 l []≠[])(hp:H p=some (.lst (iL (ph b1 b2 l [])))):H p=some (.lst (iL (ph b1 b2 l rest))):=by
 rw[hp,OZ rest h]
theorem o9{H H':Hp}{Q:VK}{g:List Int}{ys:List V}(k:GG H Q (iL g))(sm:m7 H H')(e:ys=iL g)(p:ag)(hp:H' p=none):Q (.ref p) (upd H' p (.lst ys)):=
 k _ p (sm.put (none_of sm hp)) (none_of sm hp) (by rw[mZ,e])
theorem Cy{α:Type}(s:α)(b1 b2:Bool)(l:Nat)(r:List Int):(if b1=false then(s,[-1])else if b2=true then(s,[-3])else if l=0 then(s,[-6])else(s,r)).2=ph b1 (!b2) l r:=by
 unfold ph
 cases b1 with
 |false=>rfl
 |true=>
  cases b2 with
  |true=>rfl
  |false=>
   by_cases h:l=0
   ·simp[h]
   ·simp[h]
theorem Cz{α:Type}(s:α)(b1:Bool)(m n:Nat)(l:Nat)(r:List Int):(if b1=false then(s,[-1])else if m<n then(s,[-3])else if l=0 then(s,[-6])else(s,r)).2=ph b1 (decide (n<=m)) l r:=by
 unfold ph
 cases b1 with
 |false=>rfl
 |true=>
  by_cases h1:m<n
  ·rw[decide_eq_false (by omega)];simp[h1]
  ·rw[decide_eq_true (by omega)]
   by_cases h:l=0
   ·simp[h,h1]
   ·simp[h,h1]
theorem rH{b1 b2 b2':Bool}{l:Nat}{r:List Int}(h:b1=true->b2=b2'):ph b1 b2 l r=ph b1 b2' l r:=by
 cases b1 with
 |false=>rfl
 |true=>rw[h rfl]
theorem pq{z lo hi:Int}:bI z lo hi=true↔lo<=z/\z<=hi:=by
 unfold bI;rw[bj,decide_eq_true_iff,decide_eq_true_iff]
theorem Je{d:List Nat}{z:Int}(wg:∀n∈d,n<=20)(hz:0<=z):decide (((aZ d:Nat):Int)+z<=20*((d.length:Nat):Int))=decide (z.toNat<=room d):=by
 have:=Rv d wg
 exact decide_eq_decide.mpr (by omega)
def Lh(CS CF CC CT:ag):Sp:=λ vs H Q _=>∃(x wl hl a:ag) (s:bR) (f0:ae) (ws:List Nat) (b1 b2:Bool),vs=[.ref x,.bl b1,.bl b2]/\vf CS CF CC CT s f0 ws a H x wl hl/\GG H Q (iL (ph b1 b2 (left s.field s.done) []))
abbrev Yb:List Str:=["search","as_told","can_be_made"]
theorem Li:m9 Yb ["search","as_told","can_be_made"] (m5 Hq):=qh
abbrev Yc(P:aJ)(w:aY)(K:ah)(mg:Str->Option ao)(base:bz)(CS:ag)(CF:ag)(CC:ag)(CT:ag):Prop:=um P w K mg base oG 3 CS "left" ["self"] (QU CS CF CC CT)
theorem Vq(F:pI K "refused" "refused" Hq f fd)(S:p6 K CS)(nH:oF mg "NOT_AS_TOLD" (-1))(pz:oF mg "TOO_MANY" (-3))(qQ:Yc P w K mg base CS CF CC CT)(nW:oF mg "NOTHING_LEFT" (-6)):nQ P w K mg base oG 4 f fd ["search","as_told","can_be_made"] (Lh CS CF CC CT):=by
 refine F.ok Li (λ vs H Q E h=>?_) (λ oW A outer s H vs Q E hr h=>?_)
 ·obtain⟨x,wl,hl,a,s',f0,ws,b1,b2,rfl,_⟩:=h
  rfl
 ·obtain⟨x,wl,hl,a,s',f0,ws,b1,b2,rfl,T,k⟩:=h
  have nd:=Li.nd
  have nL:=S.cl
  refine⟨_,(mX (pj (vh (tG (pv 1))) (m6 (nj (nP (mW (nU nH) mY)))) nZ)
   (mX (pj (vh (tG (pv 2))) (m6 (nj (nP (mW (nU pz) mY)))) nZ)
   (mX (pj (oq uc (oV (E:=E0) qQ nL hr (by decide) nr (pv 0)) nO (oK _)) (m6 (nj (nP (mW (nU nW) mY)))) nZ)
   (m6 (nj (nP mY)))))),?_⟩
  obtain⟨dx,hx⟩:=T.se.1
  cases b1 with
  |false=>exact⟨_,rfl,_,rfl,tp ⟨(by show 1<=ay;decide),o9 k (m7.refl _) rfl⟩⟩
  |true=>
   refine⟨_,rfl,_,rfl,rJ ?_⟩
   cases b2 with
   |false=>exact⟨_,rfl,_,rfl,tp ⟨(by show 1<=ay;decide),o9 k (m7.refl _) rfl⟩⟩
   |true=>
    refine⟨_,rfl,_,rfl,rJ ?_⟩
    refine⟨_,rfl,x,dx,_,rfl,hx,rfl,r9 (T.Am λ H1 s1=>⟨rfl,_,rfl,p_ (λ hc=>?_) λ hc=>?_⟩)⟩
    ·have hc:=V.int.inj (of_decide_eq_true hc)
     have e:left s'.field s'.done=0:=by omega
     rw[e]at k
     exact⟨(by show 1<=ay;decide),o9 k s1 rfl⟩
    ·have e:left s'.field s'.done≠0:=λ z=>hc (decide_eq_true (by rw[z];rfl))
     rw[qF e]at k
     exact⟨aE _,o9 k s1 rfl⟩
def Bw(CS CF CC CT:ag)(ar:Nat)(g:bR->ae->List Int->List Int->List Int):Sp:=λ vs H Q _=>∃(x wl hl nl rl a:ag) (s:bR) (f0:ae) (ws:List Nat) (ns zs:List Int),vs=[.ref x,.ref nl,.ref rl]/\vf CS CF CC CT s f0 ws a H x wl hl/\H nl=some (.lst (iL ns))/\H rl=some (.lst (iL zs))/\ns.length=ar/\zs.length<=70/\GG H Q (iL (g s f0 ns zs))
def Rw(s:bR)(f0:ae)(ns zs:List Int):List Int:=(eO s f0 (.would zs)).2
theorem Vr(s:bR)(f0:ae)(ns zs:List Int):Rw s f0 ns zs=ph (fL s zs) (DB s.done zs) (left s.field s.done) (0::jR (dQ s.field s.done (bV zs))):=
 (Cy s (fL s zs) (dr (bC s.done (bV zs))) _ _).trans (rH λ h=>(Ba h _).symm)
abbrev Rx:List Str:=["search","numbers","row","refusal"]
theorem Gb:m9 Rx tq (m5 BX):=qh
abbrev Vs(P:aJ)(w:aY)(K:ah)(mg:Str->Option ao)(base:bz)(CS:ag)(CF:ag)(CC:ag)(CT:ag):Prop:=rB P w K mg base oG 4 "refused" ["search","as_told","can_be_made"] (Lh CS CF CC CT)
abbrev acx(P:aJ)(w:aY)(K:ah)(mg:Str->Option ao)(base:bz)(CS:ag):Prop:=um P w K mg base oG 1 CS "is_row" ["self","row"] (Mj CS)
abbrev acy(P:aJ)(w:aY)(K:ah)(mg:Str->Option ao)(base:bz)(CS:ag):Prop:=um P w K mg base oG 2 CS "has_room" ["self","row"] (EW CS)
abbrev aat(P:aJ)(w:aY)(K:ah)(mg:Str->Option ao)(base:bz):Prop:=rB P w K mg base oG 2 "found" ["tables","had","row"] Tn
theorem Gd(F:pI K "call_would" "call_would" BX f fd)(S:p6 K CS)(oA:Vs P w K mg base CS CF CC CT)(qU:acx P w K mg base CS)(pZ:acy P w K mg base CS)(nF:oF mg "DONE" 0)(qw:aat P w K mg base)(nV:V9 P w K mg base CS CF CC CT):nQ P w K mg base oG 5 f fd tq (Bw CS CF CC CT 0 Rw):=by
 refine F.ok Gb (λ vs H Q E h=>?_) (λ oW A outer s H vs Q E hr h=>?_)
 ·obtain⟨x,wl,hl,nl,rl,a,s',f0,ws,ns,zs,rfl,_⟩:=h
  rfl
 ·obtain⟨x,wl,hl,nl,rl,a,s',f0,ws,ns,zs,rfl,T,hn,hz,ln,lz,k⟩:=h
  have nd:=Gb.nd
  have nL:=S.cl
  refine⟨_,(mX (m8 (i:=3) nd rfl (Or.inl rfl) (nv (E:=E0) oA hr (by decide) nr (mW (pv 0) (mW (pQ (E:=E0) qU nL hr (by decide) nr (pv 0) (mW (pv 2) mY)) (mW (pQ (E:=E0) pZ nL hr (by decide) nr (pv 0) (mW (pv 2) mY)) mY)))))
   (mX (pj (xA (pv 3) (λ _=>rfl)) (m6 (nj (pv 3))) nZ)
   (m6 (nj (oj qW (nP (mW (nU nF) mY)) (nv (E:=E0) qw hr (by decide) nr (mW (oV (E:=E0) nV nL hr (by decide) nr (pv 0)) (mW (nq (pv 0) rfl) (mW (pv 2) mY))))))))),?_⟩
  obtain⟨dx,hx⟩:=T.se.1
  rw[Vr]at k
  refine⟨_,rfl,_,rfl,x,dx,_,rfl,hx,rfl,_,rfl,r9 (T.MG hz lz λ H1 s1=>?_)⟩
  refine⟨_,rfl,x,dx,_,rfl,s1 _ _ hx,rfl,_,rfl,r9 ((T.same s1).Jd (s1 _ _ hz) λ H2 s2=>?_)⟩
  have vD:=s1.trans s2
  have T2:=T.same vD
  refine⟨x,wl,hl,a,s',f0,ws,_,_,rfl,T2,λ H3 p s3 hp NS=>?_⟩
  have wF:=vD.trans s3
  refine⟨_,rfl,_,.inl ⟨_,nE.of NS,rfl⟩,Lg (λ h=>?_) λ h=>?_⟩
  ·exact⟨_,rfl,k H3 p wF (none_of vD hp) (Vp h NS)⟩
  ·obtain⟨c1,c2,c3⟩:=tS h
   rw[c1,c2,qF c3]at k
   obtain⟨r1,r2,r3,r4⟩:=DP c1
   have tm:dr (bC s'.done (bV zs))=false:=by
    rw[Ba c1]at c2
    cases q:dr (bC s'.done (bV zs))with
    |false=>rfl
    |true=>rw[q]at c2;cases c2
   have W:=T.fw
   refine⟨(by show 1<=ay;decide),λ l1 J6=>?_⟩
   have s4:=wF.put (o:=.lst [V.int 0]) (none_of wF J6)
   have T4:=T.same s4
   refine⟨_,rfl,x,dx,_,rfl,s4 _ _ hx,rfl,r9 (T4.qr λ H5 tb ts s5 Yd Ye hT=>?_)⟩
   have J7:=s4.trans s5
   refine⟨_,rfl,x,CS,dx,_,_,rfl,J7 _ _ hx,S.cl,S.n3,rfl,_,rfl,tb,hl,rl,ts,s'.field,s'.done,bV zs,rfl,W,Ye,hT,J7 _ _ T.se.2.2,by rw[J7 _ _ hz,r1],T.dl,by rw[r2,T.dl],MJ tm,b_ c3,λ H6 q s6 hq hq6=>?_⟩
   exact⟨l1,q,_,_,rfl,rfl,s6 _ _ (s5 _ _ mZ),hq6,(by show 3<=ay;decide),o9 k (J7.trans s6) rfl⟩
def Yf(s:bR)(f0:ae)(ns zs:List Int):List Int:=(eO s f0 (.best (ns.getD 0 0))).2
theorem Yg(s:bR)(f0:ae)(ns zs:List Int)(wg:∀n∈s.done,n<=20):Yf s f0 ns zs=ph (bI (ns.getD 0 0) 0 60) (decide (((aZ s.done:Nat):Int)+ns.getD 0 0<=20*((s.done.length:Nat):Int))) (left s.field s.done) (0::(dU (eN (jS s.field (ns.getD 0 0).toNat s.done) s.done)++jR (dQ s.field s.done (eN (jS s.field (ns.getD 0 0).toNat s.done) s.done)))):=
 (Cz s (bI (ns.getD 0 0) 0 60) (room s.done) (ns.getD 0 0).toNat _ _).trans (rH λ h=>(Je wg (pq.mp h).1).symm)
theorem G0{ns:List Int}(h:ns.length=1):(iL ns)[0]? =some (.int (ns.getD 0 0)):=by
 cases ns with
 |nil=>cases h
 |cons z r=>rfl
theorem count_cast(l:List Nat)(c:Nat):(l.map λ(n:Nat)=>(n:Int)).count (c:Int)=l.count c:=by
 induction l with
 |nil=>rfl
 |cons a l ih=>
  rw[aH,eM,eM,ih]
  congr 1
  by_cases e:a=c
  ·subst e;simp
  ·rw[if_neg (by simp;omega),if_neg (by simp[e])]
abbrev Vt:List Str:=["search","numbers","row","many","refusal","tables","best"]
theorem Jf:m9 Vt tq (m5 ED):=qh
abbrev acz(P:aJ)(w:aY)(K:ah)(mg:Str->Option ao)(base:bz)(CS:ag):Prop:=um P w K mg base oG 1 CS "has_room_for" ["self","many"] (yB CS)
theorem Jg(F:pI K "call_best" "call_best" ED f fd)(S:p6 K CS)(oA:Vs P w K mg base CS CF CC CT)(qH:oF mg "MOST_BEST" 60)(oQ:acz P w K mg base CS)(nV:V9 P w K mg base CS CF CC CT)(ug:rB P w K mg base oG 1 "row_of" ["order","many_cells"] Mo)(pT:Hz9 P w K mg base)(pd:mg "len"=none)(nF:oF mg "DONE" 0)(qw:aat P w K mg base):nQ P w K mg base oG 5 f fd tq (Bw CS CF CC CT 1 Yf):=by
 refine F.ok Jf (λ vs H Q E h=>?_) (λ oW A outer s H vs Q E hr h=>?_)
 ·obtain⟨x,wl,hl,nl,rl,a,s',f0,ws,ns,zs,rfl,_⟩:=h
  rfl
 ·obtain⟨x,wl,hl,nl,rl,a,s',f0,ws,ns,zs,rfl,T,hn,hz,ln,lz,k⟩:=h
  have nd:=Jf.nd
  have nL:=S.cl
  refine⟨_,(mX (m8 (i:=3) nd rfl (Or.inl rfl) (o_ og (pv 1) nO (λ _ _=>rfl)))
   (mX (m8 (i:=4) nd rfl (Or.inl rfl) (nv (E:=E0) oA hr (by decide) nr (mW (pv 0) (mW (vj p9 p9 nO (pv 3) (nU qH)) (mW (pQ (E:=E0) oQ nL hr (by decide) nr (pv 0) (mW (pv 3) mY)) mY)))))
   (mX (pj (xA (pv 4) (λ _=>rfl)) (m6 (nj (pv 4))) nZ)
   (mX (m8 (i:=5) nd rfl (Or.inl rfl) (oV (E:=E0) nV nL hr (by decide) nr (pv 0)))
   (mX (m8 (i:=6) nd rfl (Or.inl rfl) (nv (E:=E0) ug hr (by decide) nr (mW (nv (E:=E0) pT hr (by decide) nr (mW (pv 5) (mW (nq (pv 0) rfl) (mW (pv 3) mY)))) (mW (nM nN rfl pd aX (mW (nq (pv 0) rfl) mY)) mY))))
   (m6 (nj (oj qW (oj qW (nP (mW (nU nF) mY)) (pv 6)) (nv (E:=E0) qw hr (by decide) nr (mW (pv 5) (mW (nq (pv 0) rfl) (mW (pv 6) mY)))))))))))),?_⟩
  obtain⟨dx,hx⟩:=T.se.1
  rw[Yg _ _ _ _ T.tu]at k
  have h0:=G0 ln
  generalize hkk:ns.getD 0 0=kk at k h0
  have W:=T.fw
  refine⟨_,rfl,nl,_,_,_,rfl,rfl,nE.of hn,at_of (j:=0) rfl h0,_,rfl,ue gc gv gc ?_⟩
  refine⟨_,rfl,x,dx,_,rfl,hx,rfl,_,rfl,r9 (T.MH ?_)⟩
  refine⟨x,wl,hl,a,s',f0,ws,_,_,rfl,T,λ H3 p s3 hp NS=>?_⟩
  refine⟨_,rfl,_,.inl ⟨_,nE.of NS,rfl⟩,Lg (λ h=>?_) λ h=>?_⟩
  ·exact⟨_,rfl,k H3 p s3 hp (Vp h NS)⟩
  ·obtain⟨c1,c2,c3⟩:=tS h
   rw[c1,c2,qF c3]at k
   obtain⟨i1,i2⟩:=pq.mp c1
   have c2:=of_decide_eq_true c2
   obtain⟨n,rfl⟩:∃n:Nat,kk=(n:Int):=⟨kk.toNat,by omega⟩
   rw[show((n:Int)).toNat=n from rfl]at k
   have rm:aZ s'.done+n<=20*s'.done.length:=by omega
   obtain⟨q1,q2,q3⟩:=tP (f:=s'.field) n s'.done T.tu rm
   have q4:=q3 n (ax _)
   rw[cq (by omega)]at q4
   have q5:=Iw _ _ (A6 _ _ q2)
   rw[q4]at q5
   refine⟨_,rfl,x,dx,_,rfl,s3 _ _ hx,rfl,r9 ((T.same s3).qr λ H4 tb ts s4 Yd Yh hT=>?_)⟩
   have KW:=s3.trans s4
   have T4:=T.same KW
   refine⟨_,rfl,_,rfl,x,CS,dx,_,_,rfl,KW _ _ hx,S.cl,S.n3,rfl,_,rfl,tb,hl,ts,s'.field,s'.done,n,rfl,W,Yh,hT,KW _ _ T.se.2.2,T.dl,T.tu,rm,λ H5 dq s5 hdq ae8=>?_⟩
   have J7:=KW.trans s5
   refine⟨_,rfl,x,CS,dx,_,_,rfl,J7 _ _ hx,S.cl,S.n3,rfl,hl,_,rfl,.inl (nE.of (J7 _ _ T.se.2.2)),dq,(oP s'.field n s'.done).map (λ(n:Nat)=>(n:Int)),s'.done.length,by rw[m_],by rw[ae8,uq],by rw[T.ld];exact T.wB,λ H6 wb s6 hrw acA=>?_⟩
   have V_:=J7.trans s6
   have er:(az s'.done.length).map (λ(c:Nat)=>((oP s'.field n s'.done).map (λ(n:Nat)=>(n:Int))).count (c:Int))=eN (jS s'.field n s'.done) s'.done:=by
    rw[q5]
    refine bP λ c _=>count_cast _ c
   rw[er]at acA
   generalize hB:eN (jS s'.field n s'.done) s'.done=B at *
   have eB:bC s'.done B=jS s'.field n s'.done:=by
    have:=Iy _ _ (A6 _ _ q2)
    rw[q4,hB]at this;exact this
   have lB:B.length=s'.done.length:=by rw[q5,aa,aR]
   refine⟨(by show 1<=ay;decide),λ l1 J6=>?_⟩
   have s7:=m7.new (o:=.lst [V.int 0]) J6
   refine⟨_,rfl,l1,wb,_,_,rfl,rfl,mZ,s7 _ _ acA,(by rw[m_,lB,T.ld,aA];show 1+ _<=_;have:=T.wB;omega),λ l2 Nl=>?_⟩
   have s8:=s7.trans (m7.new (o:=.lst ([V.int 0]++nX B)) Nl)
   have Ry:=V_.trans s8
   refine⟨_,rfl,_,rfl,x,CS,dx,_,_,rfl,Ry _ _ hx,S.cl,S.n3,rfl,_,rfl,tb,hl,wb,ts,s'.field,s'.done,B,rfl,W,s8 _ _ (s6 _ _ (s5 _ _ Yh)),hT.same (s5.trans (s6.trans s8)),Ry _ _ T.se.2.2,s8 _ _ acA,T.dl,lB,by rw[eB,<-q4];exact Ox _ _ T.tu q2,b_ c3,λ H9 q s9 hq hq9=>?_⟩
   refine⟨l2,q,_,_,rfl,rfl,s9 _ _ mZ,hq9,(by rw[aw,m_,lB,T.ld,aA];show 1+ _+2<=_;have:=T.wB;omega),o9 k (Ry.trans s9) ?_⟩
   rw[t8,An,Bb];rfl
end oh
namespace L2
theorem ae9{ta tb:TE}{σ:L2.St}{H:Hp}{Q:VK}{b1 b2:Bool}(ha:∀R:VK,R (.bl b1) H->ta σ H R)(hb:b1=true->∀R:VK,(∀H',m7 H H'->R (.bl b2) H')->tb σ H R)(k:∀H',m7 H H'->Q (.bl (b1 && b2)) H'):aaY ta tb σ H Q:=by
 refine ha _ ⟨_,rfl,?_⟩
 cases b1 with
 |false=>exact rJ (k H (m7.refl _))
 |true=>exact tp (hb rfl _ λ H' sm=>k H' sm)
end L2
namespace oh
theorem acB(f:ae)(d:List Nat)(c b:Nat)(r s:List Nat):thN f d c b r s<=20-d.getD c 0:=by
 unfold thN
 cases q:(az (20-d.getD c 0+1)).find? (λ n=>decide (n*(bx f c).time<=b) && (cY f c (d.getD c 0)-cY f c (d.getD c 0+n))+s.getD (b-n*(bx f c).time) 0 == r.getD b 0)with
 |none=>exact aE _
 |some n=>
  have:=List.mem_range.mp (jB q)
  show n<=_
  omega
theorem TX(f:ae)(d:List Nat):∀(tb:List (List Nat)) (c b:Nat),(gB f d c b tb).length=tb.length-1/\∀i x,(gB f d c b tb)[i]? =some x->x<=20-d.getD (c+i) 0
 |[],c,b=>⟨rfl,λ i x h=>by cases h⟩
 |[r],c,b=>⟨rfl,λ i x h=>by cases h⟩
 |r::s::t,c,b=>by
  obtain⟨h1,h2⟩:=TX f d (s::t) (c+1) (b-thN f d c b r s*(bx f c).time)
  rw[K2]
  refine⟨by rw[aD,h1];simp,λ i x h=>?_⟩
  cases i with
  |zero=>cases h;exact acB f d c b r s
  |succ i=>
   have:=h2 i x h
   rw[show c+(i+1)=c+1+i by omega];exact this
theorem Vu{f:ae}{d:List Nat}{B:Nat}(hd:d.length=f.cells.length)(wg:∀n∈d,n<=20):(f_ f d B).length=d.length/\∀n∈bC d (f_ f d B),n<=20:=by
 obtain⟨h1,h2⟩:=TX f d (b8 f d B f.cells.length) 0 B
 have e:(f_ f d B).length=d.length:=by
  show(gB f d 0 B (b8 f d B f.cells.length)).length=_
  rw[h1,vd,hd];rfl
 refine⟨e,λ n hn=>?_⟩
 obtain⟨i,hi,ei⟩:=cw hn
 rw[Du e]at hi
 have q1:=getD_at hi
 have q2:(f_ f d B)[i]? =some ((f_ f d B)[i]'(by omega)):=af _
 have q3:(bC d (f_ f d B))[i]? =some n:=by rw[af (by rw[Du e];exact hi),ei]
 unfold bC at q3
 rw[aP,q1,q2]at q3
 have q3:d.getD i 0+(f_ f d B)[i]'(by omega)=n:=Option.some.inj q3
 have q4:=h2 i _ q2
 rw[cW]at q4
 have q5:=wg _ (aC q1)
 omega
theorem Jh:∀(l d:List Nat),(∀c∈l,c<d.length)->(∀c∈l,d.getD c 0+l.count c<=20)->uD d l
 |[],_,_,_=>trivial
 |c::l,d,h1,h2=>by
  have hc:=h1 c (by simp)
  have c1:=h2 c (by simp)
  rw[List.count_cons_self]at c1
  refine⟨hc,by omega,Jh l (bump d c) (λ x hx=>by rw[pX];exact h1 x (by simp[hx])) λ x hx=>?_⟩
  have cx:=h2 x (by simp[hx])
  rw[eM]at cx
  rw[A5 hc]
  by_cases e:x=c
  ·subst e
   rw[if_pos rfl]
   rw[beq_self_eq_true,if_pos rfl]at cx
   omega
  ·rw[if_neg e];omega
theorem Ge(f:ae)(d:List Nat):∀(e:List Nat) (k:Nat),((e.zipIdx k).flatMap λ x=>(az x.1).map λ j=>(x.2,c8 f x.2 (d.getD x.2 0+j))).map (·.1)=xP k e
 |[],_=>rfl
 |a::e,k=>by
  rw[d8,eW,aF,yG,Ge f d e (k+1),aW]
  congr 1
  have:∀n,(az n).map (λ _=>k)=cG n k:=λ n=>by
   rw[List.map_const',aR]
  exact this a
theorem DQ(f:ae)(d e:List Nat):(dO f d e).Perm (xP 0 e):=by
 have h:=(EU f (efforts f d e)).map (·.1)
 have e1:(efforts f d e).map (·.1)=xP 0 e:=Ge f d e 0
 rw[e1]at h
 exact h
theorem Rz{f:ae}{d e:List Nat}(he:e.length=d.length)(wg:∀n∈bC d e,n<=20):uD d (dO f d e):=by
 have p:=DQ f d e
 have R:=La e
 have lt:∀c∈dO f d e,c<d.length:=λ c hc=>by
  have:=R.lt c (p.mem_iff.mp hc)
  omega
 refine Jh _ _ lt λ c hc=>?_
 have hl:=lt c hc
 rw[p.count_eq,<-R.cnt c (by omega)]
 refine wg _ (aC (i:=c) ?_)
 unfold bC
 rw[aP,getD_at hl,getD_at (show c<e.length by omega)]
theorem Lj:∀(e:List Nat) (k:Nat),(xP k e).length=aZ e
 |[],_=>rfl
 |a::e,k=>by rw[yG,aw,fm,Lj e (k+1),ow]
theorem O1(f:ae)(d e:List Nat):(dO f d e).length=aZ e:=by rw[(DQ f d e).length_eq,Lj]
theorem RA{d e:List Nat}(he:e.length=d.length)(wg:∀n∈bC d e,n<=20):∀n∈e,n<=20:=λ n hn=>by
 obtain⟨i,hi,ei⟩:=cw hn
 have q1:=getD_at (d:=d) (c:=i) (by omega)
 have q2:e[i]? =some n:=by rw[af hi,ei]
 have:=wg _ (aC (i:=i) (by unfold bC;rw[aP,q1,q2]))
 omega
theorem O8(d e:List Nat):DB d (dU e)= !dr (bC d e):=by
 have e1:vH d (dU e)=(bC d e).map λ(n:Nat)=>(n:Int):=by
  unfold vH bC dU
  rw[ja,gO];rfl
 unfold DB dr
 rw[e1,cH,jK]
 congr 1
 funext n
 show decide ((n:Int)<=20)= !decide (20<n)
 by_cases q:n<=20
 ·rw[decide_eq_true (by omega),decide_eq_false (by omega)];rfl
 ·rw[decide_eq_false (by omega),decide_eq_true (by omega)];rfl
theorem Gf(n:Nat)(zs:List Int):(az n).map (λ(c:Nat)=>zs.count (c:Int))=g8 n zs:=by
 unfold g8
 refine bP λ c _=>?_
 rw[List.count_eq_countP,dS]
theorem Ji{s:bR}{zs:List Int}(h:zs.all (eR s)=true):iL zs=nX (bV zs)/\(∀c∈bV zs,c<s.field.cells.length)/\zs=dU (bV zs):=by
 rw[fz]at h
 have hz:∀z∈zs,0<=z/\z<=(s.field.cells.length:Int)-1:=λ z hz=>pq.mp (h z hz)
 have e:zs=dU (bV zs):=by
  unfold dU bV
  rw[aW]
  conv=>lhs;rw[<-ic zs]
  refine bP λ z VY=>?_
  have:=hz z VY
  show z=((z.toNat:Nat):Int)
  omega
 refine⟨?_,λ c hc=>?_,e⟩
 ·rw[uq];exact congrArg iL e
 ·obtain⟨z,VY,rfl⟩:=List.mem_map.mp hc
  have:=hz z VY
  omega
theorem Yi{d:List Nat}{l:List Nat}(hl:∀c∈l,c<d.length)(h:∀n∈bC d (g8 d.length (dU l)),n<=20):uD d l:=by
 refine Jh _ _ hl λ c hc=>?_
 have Ec:=hl c hc
 refine h _ (aC (i:=c) ?_)
 unfold bC
 rw[aP,getD_at Ec,<-Gf,ak,bf Ec]
 show some (_+(dU l).count (c:Int))=_
 rw[show dU l=l.map (λ(n:Nat)=>(n:Int))from rfl,count_cast]
theorem TZ{α:Type}(l:List α)(g:α->mC):iL (l.flatMap λ j=>jR (g j))=nX (l.flatMap λ j=>qL (g j)):=by
 unfold iL nX
 rw[gF,gF];rfl
def RB(s:bR)(f0:ae)(ns zs:List Int):List Int:=(eO s f0 (.curve (ns.getD 0 0))).2
theorem Vv(s:bR)(f0:ae)(ns zs:List Int)(wg:∀n∈s.done,n<=20):RB s f0 ns zs=ph (bI (ns.getD 0 0) 0 60) (decide (((aZ s.done:Nat):Int)+ns.getD 0 0<=20*((s.done.length:Nat):Int))) (left s.field s.done) (0::(az ((ns.getD 0 0).toNat+1)).flatMap λ j=>jR (dQ s.field s.done (eN (jS s.field j s.done) s.done))):=
 (Cz s (bI (ns.getD 0 0) 0 60) (room s.done) (ns.getD 0 0).toNat _ _).trans (rH λ h=>(Je wg (pq.mp h).1).symm)
abbrev RC:List Str:=["search","numbers","row","many","refusal"]
theorem Gg:m9 RC tq (m5 BY):=qh
theorem Gh(F:pI K "call_curve" "call_curve" BY f fd)(S:p6 K CS)(oA:Vs P w K mg base CS CF CC CT)(qH:oF mg "MOST_BEST" 60)(oQ:acz P w K mg base CS)(nF:oF mg "DONE" 0)(uP:rB P w K mg base oG 4 "best_curve" ["tables","had","many"] FJ)(nV:V9 P w K mg base CS CF CC CT):nQ P w K mg base oG 5 f fd tq (Bw CS CF CC CT 1 RB):=by
 refine F.ok Gg (λ vs H Q E h=>?_) (λ oW A outer s H vs Q E hr h=>?_)
 ·obtain⟨x,wl,hl,nl,rl,a,s',f0,ws,ns,zs,rfl,_⟩:=h
  rfl
 ·obtain⟨x,wl,hl,nl,rl,a,s',f0,ws,ns,zs,rfl,T,hn,hz,ln,lz,k⟩:=h
  have nd:=Gg.nd
  have nL:=S.cl
  refine⟨_,(mX (m8 (i:=3) nd rfl (Or.inl rfl) (o_ og (pv 1) nO (λ _ _=>rfl)))
   (mX (m8 (i:=4) nd rfl (Or.inl rfl) (nv (E:=E0) oA hr (by decide) nr (mW (pv 0) (mW (vj p9 p9 nO (pv 3) (nU qH)) (mW (pQ (E:=E0) oQ nL hr (by decide) nr (pv 0) (mW (pv 3) mY)) mY)))))
   (mX (pj (xA (pv 4) (λ _=>rfl)) (m6 (nj (pv 4))) nZ)
   (m6 (nj (oj qW (nP (mW (nU nF) mY)) (nv (E:=E0) uP hr (by decide) nr (mW (oV (E:=E0) nV nL hr (by decide) nr (pv 0)) (mW (nq (pv 0) rfl) (mW (pv 3) mY)))))))))),?_⟩
  obtain⟨dx,hx⟩:=T.se.1
  rw[Vv _ _ _ _ T.tu]at k
  have h0:=G0 ln
  generalize hkk:ns.getD 0 0=kk at k h0
  have W:=T.fw
  refine⟨_,rfl,nl,_,_,_,rfl,rfl,nE.of hn,at_of (j:=0) rfl h0,_,rfl,ue gc gv gc ?_⟩
  refine⟨_,rfl,x,dx,_,rfl,hx,rfl,_,rfl,r9 (T.MH ?_)⟩
  refine⟨x,wl,hl,a,s',f0,ws,_,_,rfl,T,λ H3 p s3 hp NS=>?_⟩
  refine⟨_,rfl,_,.inl ⟨_,nE.of NS,rfl⟩,Lg (λ h=>?_) λ h=>?_⟩
  ·exact⟨_,rfl,k H3 p s3 hp (Vp h NS)⟩
  ·obtain⟨c1,c2,c3⟩:=tS h
   rw[c1,c2,qF c3]at k
   obtain⟨i1,i2⟩:=pq.mp c1
   have c2:=of_decide_eq_true c2
   obtain⟨n,rfl⟩:∃n:Nat,kk=(n:Int):=⟨kk.toNat,by omega⟩
   rw[show((n:Int)).toNat=n from rfl]at k
   have rm:aZ s'.done+n<=20*s'.done.length:=by omega
   refine⟨(by show 1<=ay;decide),λ l1 J6=>?_⟩
   have s4:=s3.put (o:=.lst [V.int 0]) (none_of s3 J6)
   refine⟨_,rfl,x,dx,_,rfl,s4 _ _ hx,rfl,r9 ((T.same s4).qr λ H5 tb ts s5 Yd Ye hT=>?_)⟩
   have J7:=s4.trans s5
   refine⟨_,rfl,x,CS,dx,_,_,rfl,J7 _ _ hx,S.cl,S.n3,rfl,_,rfl,tb,hl,ts,s'.field,s'.done,n,rfl,W,Ye,hT,J7 _ _ T.se.2.2,T.dl,T.tu,rm,b_ c3,λ H6 q s6 hq hq6=>?_⟩
   refine⟨l1,q,_,_,rfl,rfl,s6 _ _ (s5 _ _ mZ),hq6,(by rw[m_,Af,aA];show 1+ _<=_;omega),o9 k (J7.trans s6) ?_⟩
   rw[t8,TZ];rfl
def RD(s:bR)(f0:ae)(ns zs:List Int):List Int:=(eO s f0 (.price (ns.getD 0 0))).2
theorem Vw(s:bR)(f0:ae)(ns zs:List Int)(wg:∀n∈s.done,n<=20):RD s f0 ns zs=ph (bI (ns.getD 0 0) 1 59) (decide (((aZ s.done:Nat):Int)+(ns.getD 0 0+1)<=20*((s.done.length:Nat):Int))) (left s.field s.done) (0::(jR (gg s.field s.done ((ns.getD 0 0).toNat-1))++jR (gg s.field s.done (ns.getD 0 0).toNat))):=
 (Cz s (bI (ns.getD 0 0) 1 59) (room s.done) ((ns.getD 0 0).toNat+1) _ _).trans (rH λ h=>by
  have i:=(pq.mp h).1
  rw[Je wg (by omega),show(ns.getD 0 0+1).toNat=(ns.getD 0 0).toNat+1 by omega])
abbrev RE:List Str:=["search","numbers","row","many","refusal"]
theorem Gi:m9 RE tq (m5 BZ):=qh
theorem Gj(F:pI K "call_price" "call_price" BZ f fd)(S:p6 K CS)(oA:Vs P w K mg base CS CF CC CT)(uQ:oF mg "MOST_PRICE" 59)(oQ:acz P w K mg base CS)(nF:oF mg "DONE" 0)(uR:rB P w K mg base oG 4 "best_price" ["tables","had","many"] FL)(nV:V9 P w K mg base CS CF CC CT):nQ P w K mg base oG 5 f fd tq (Bw CS CF CC CT 1 RD):=by
 refine F.ok Gi (λ vs H Q E h=>?_) (λ oW A outer s H vs Q E hr h=>?_)
 ·obtain⟨x,wl,hl,nl,rl,a,s',f0,ws,ns,zs,rfl,_⟩:=h
  rfl
 ·obtain⟨x,wl,hl,nl,rl,a,s',f0,ws,ns,zs,rfl,T,hn,hz,ln,lz,k⟩:=h
  have nd:=Gi.nd
  have nL:=S.cl
  refine⟨_,(mX (m8 (i:=3) nd rfl (Or.inl rfl) (o_ og (pv 1) nO (λ _ _=>rfl)))
   (mX (m8 (i:=4) nd rfl (Or.inl rfl) (nv (E:=E0) oA hr (by decide) nr (mW (pv 0) (mW (vj p9 p9 nO (pv 3) (nU uQ)) (mW (pQ (E:=E0) oQ nL hr (by decide) nr (pv 0) (mW (oj qV (pv 3) nO) mY)) mY)))))
   (mX (pj (xA (pv 4) (λ _=>rfl)) (m6 (nj (pv 4))) nZ)
   (m6 (nj (oj qW (nP (mW (nU nF) mY)) (nv (E:=E0) uR hr (by decide) nr (mW (oV (E:=E0) nV nL hr (by decide) nr (pv 0)) (mW (nq (pv 0) rfl) (mW (pv 3) mY)))))))))),?_⟩
  obtain⟨dx,hx⟩:=T.se.1
  rw[Vw _ _ _ _ T.tu]at k
  have h0:=G0 ln
  generalize hkk:ns.getD 0 0=kk at k h0
  have W:=T.fw
  refine⟨_,rfl,nl,_,_,_,rfl,rfl,nE.of hn,at_of (j:=0) rfl h0,_,rfl,ue gc gv gc ?_⟩
  refine⟨_,rfl,x,dx,_,rfl,hx,rfl,_,rfl,_,_,rfl,rfl,r9 (T.MH ?_)⟩
  refine⟨x,wl,hl,a,s',f0,ws,_,_,rfl,T,λ H3 p s3 hp NS=>?_⟩
  refine⟨_,rfl,_,.inl ⟨_,nE.of NS,rfl⟩,Lg (λ h=>?_) λ h=>?_⟩
  ·exact⟨_,rfl,k H3 p s3 hp (Vp h NS)⟩
  ·obtain⟨c1,c2,c3⟩:=tS h
   rw[c1,c2,qF c3]at k
   obtain⟨i1,i2⟩:=pq.mp c1
   have c2:=of_decide_eq_true c2
   obtain⟨n,rfl⟩:∃n:Nat,kk=(n:Int):=⟨kk.toNat,by omega⟩
   rw[show((n:Int)).toNat=n from rfl]at k
   have rm:aZ s'.done+(n+1)<=20*s'.done.length:=by omega
   refine⟨(by show 1<=ay;decide),λ l1 J6=>?_⟩
   have s4:=s3.put (o:=.lst [V.int 0]) (none_of s3 J6)
   refine⟨_,rfl,x,dx,_,rfl,s4 _ _ hx,rfl,r9 ((T.same s4).qr λ H5 tb ts s5 Yd Ye hT=>?_)⟩
   have J7:=s4.trans s5
   refine⟨_,rfl,x,CS,dx,_,_,rfl,J7 _ _ hx,S.cl,S.n3,rfl,_,rfl,tb,hl,ts,s'.field,s'.done,n,rfl,W,Ye,hT,J7 _ _ T.se.2.2,T.dl,T.tu,rm,by omega,b_ c3,λ H6 q s6 hq hq6=>?_⟩
   refine⟨l1,q,_,_,rfl,rfl,s6 _ _ (s5 _ _ mZ),hq6,(by show 5<=ay;decide),o9 k (J7.trans s6) rfl⟩
def MK(s:bR)(f0:ae)(ns zs:List Int):List Int:=(eO s f0 (.thrift_ (ns.getD 0 0))).2
theorem RF(s:bR)(f0:ae)(ns zs:List Int):MK s f0 ns zs=ph (bI (ns.getD 0 0) 0 100) true (left s.field s.done) (0::(dU (f_ s.field s.done (ns.getD 0 0).toNat)++jR (dQ s.field s.done (f_ s.field s.done (ns.getD 0 0).toNat)))):=by
 show(if bI (ns.getD 0 0) 0 100=false then(s,[-1])else if left s.field s.done=0 then(s,[-6])else(s,_)).2=_
 unfold ph
 cases bI (ns.getD 0 0) 0 100 with
 |false=>rfl
 |true=>
  by_cases h:left s.field s.done=0
  ·simp[h]
  ·simp[h]
abbrev O9:List Str:=["search","numbers","row","time","tables","best"]
theorem DR:m9 O9 tq (m5 zU):=qh
abbrev aau(P:aJ)(w:aY)(K:ah)(mg:Str->Option ao)(base:bz)(CS:ag)(CF:ag)(CC:ag)(CT:ag):Prop:=um P w K mg base oG 1 CS "times" ["self"] (Mu CS CF CC CT)
theorem DS(F:pI K "call_thrift" "call_thrift" zU f fd)(S:p6 K CS)(t9:oF mg "MOST_THRIFT" 100)(nH:oF mg "NOT_AS_TOLD" (-1))(qQ:Yc P w K mg base CS CF CC CT)(nW:oF mg "NOTHING_LEFT" (-6))(nV:V9 P w K mg base CS CF CC CT)(uS:rB P w K mg base oG 3 "thrift_row" ["tables","had","times","greatest"] FZ)(rV:aau P w K mg base CS CF CC CT)(nF:oF mg "DONE" 0)(qw:aat P w K mg base):nQ P w K mg base oG 4 f fd tq (Bw CS CF CC CT 1 MK):=by
 refine F.ok DR (λ vs H Q E h=>?_) (λ oW A outer s H vs Q E hr h=>?_)
 ·obtain⟨x,wl,hl,nl,rl,a,s',f0,ws,ns,zs,rfl,_⟩:=h
  rfl
 ·obtain⟨x,wl,hl,nl,rl,a,s',f0,ws,ns,zs,rfl,T,hn,hz,ln,lz,k⟩:=h
  have nd:=DR.nd
  have nL:=S.cl
  refine⟨_,(mX (m8 (i:=3) nd rfl (Or.inl rfl) (o_ og (pv 1) nO (λ _ _=>rfl)))
   (mX (pj (vh (vk p9 p9 nO (pv 3) (nU t9))) (m6 (nj (nP (mW (nU nH) mY)))) nZ)
   (mX (pj (oq uc (oV (E:=E0) qQ nL hr (by decide) nr (pv 0)) nO (oK _)) (m6 (nj (nP (mW (nU nW) mY)))) nZ)
   (mX (m8 (i:=4) nd rfl (Or.inl rfl) (oV (E:=E0) nV nL hr (by decide) nr (pv 0)))
   (mX (m8 (i:=5) nd rfl (Or.inl rfl) (nv (E:=E0) uS hr (by decide) nr (mW (pv 4) (mW (nq (pv 0) rfl) (mW (oV (E:=E0) rV nL hr (by decide) nr (pv 0)) (mW (pv 3) mY))))))
   (m6 (nj (oj qW (oj qW (nP (mW (nU nF) mY)) (pv 5)) (nv (E:=E0) qw hr (by decide) nr (mW (pv 4) (mW (nq (pv 0) rfl) (mW (pv 5) mY)))))))))))),?_⟩
  obtain⟨dx,hx⟩:=T.se.1
  rw[RF]at k
  have h0:=G0 ln
  generalize hkk:ns.getD 0 0=kk at k h0
  have W:=T.fw
  have wB:=T.wB
  refine⟨_,rfl,nl,_,_,_,rfl,rfl,nE.of hn,at_of (j:=0) rfl h0,KA gc gv gc (λ hc=>?_) λ hc=>?_⟩
  ·have e:bI kk 0 100=false:=by
    cases q:bI kk 0 100 with
    |false=>rfl
    |true=>exact absurd (pq.mp q) hc
   rw[e]at k
   exact⟨(by show 1<=ay;decide),o9 k (m7.refl _) rfl⟩
  rw[pq.mpr hc]at k
  refine⟨_,rfl,x,dx,_,rfl,hx,rfl,r9 (T.Am λ H1 s1=>⟨rfl,_,rfl,p_ (λ hc=>?_) λ hc=>?_⟩)⟩
  ·have hc:=V.int.inj (of_decide_eq_true hc)
   have e:left s'.field s'.done=0:=by omega
   rw[e]at k
   exact⟨(by show 1<=ay;decide),o9 k s1 rfl⟩
  have c3:left s'.field s'.done≠0:=λ z=>hc (decide_eq_true (by rw[z];rfl))
  rw[qF c3]at k
  obtain⟨n,rfl⟩:∃n:Nat,kk=(n:Int):=⟨kk.toNat,by omega⟩
  rw[show((n:Int)).toNat=n from rfl]at k
  refine⟨_,rfl,x,dx,_,rfl,s1 _ _ hx,rfl,r9 ((T.same s1).qr λ H2 tb ts s2 Yd Yj hT=>?_)⟩
  have vD:=s1.trans s2
  refine⟨_,rfl,_,rfl,x,CS,dx,_,_,rfl,vD _ _ hx,S.cl,S.n3,rfl,_,rfl,x,dx,_,rfl,vD _ _ hx,rfl,r9 ((T.same vD).E5 λ H3 tm s3 htm ae_=>?_)⟩
  have wF:=vD.trans s3
  obtain⟨t1,t2⟩:=Vu (f:=s'.field) (B:=n) T.dl T.tu
  refine⟨_,rfl,tb,hl,tm,ts,s'.field,s'.done,n,rfl,T.time,s3 _ _ Yj,hT.same s3,wF _ _ T.se.2.2,ae_,T.dl,T.tu,by rw[T.len];exact wB,by omega,λ H4 wb s4 hrw Yk=>?_⟩
  generalize hB:f_ s'.field s'.done n=B at *
  have KW:=wF.trans s4
  refine⟨(by show 1<=ay;decide),λ l1 J6=>?_⟩
  have s7:=m7.new (o:=.lst [V.int 0]) J6
  refine⟨_,rfl,l1,wb,_,_,rfl,rfl,mZ,s7 _ _ Yk,(by rw[m_,t1,T.ld,aA];show 1+ _<=_;omega),λ l2 Nl=>?_⟩
  have s8:=s7.trans (m7.new (o:=.lst ([V.int 0]++nX B)) Nl)
  have Ry:=KW.trans s8
  refine⟨_,rfl,_,rfl,x,CS,dx,_,_,rfl,Ry _ _ hx,S.cl,S.n3,rfl,_,rfl,tb,hl,wb,ts,s'.field,s'.done,B,rfl,W,s8 _ _ (s4 _ _ (s3 _ _ Yj)),hT.same (s3.trans (s4.trans s8)),Ry _ _ T.se.2.2,s8 _ _ Yk,T.dl,t1,t2,b_ c3,λ H9 q s9 hq hq9=>?_⟩
  refine⟨l2,q,_,_,rfl,rfl,s9 _ _ mZ,hq9,(by rw[aw,m_,t1,T.ld,aA];show 1+ _+2<=_;omega),o9 k (Ry.trans s9) ?_⟩
  rw[t8,An,Bb];rfl
def RG(s:bR)(f0:ae)(ns zs:List Int):List Int:=(eO s f0 (.order zs)).2
theorem Vx(s:bR)(f0:ae)(ns zs:List Int):RG s f0 ns zs=ph (fL s zs) (DB s.done zs) (left s.field s.done) (0::(jj (dO s.field s.done (bV zs))++jR (iz s.field s.done (dO s.field s.done (bV zs))))):=
 (Cy s (fL s zs) (dr (bC s.done (bV zs))) _ _).trans (rH λ h=>(Ba h _).symm)
abbrev RH:List Str:=["search","numbers","row","refusal","tables","times","order"]
theorem Gk:m9 RH tq (m5 B0):=qh
theorem Gm(F:pI K "call_order" "call_order" B0 f fd)(S:p6 K CS)(oA:Vs P w K mg base CS CF CC CT)(qU:acx P w K mg base CS)(pZ:acy P w K mg base CS)(nV:V9 P w K mg base CS CF CC CT)(rV:aau P w K mg base CS CF CC CT)(uT:rB P w K mg base oG 2 "best_order" ["tables","had","times","row"] FP)(nF:oF mg "DONE" 0)(pd:mg "len"=none)(pK:rB P w K mg base oG 3 "expected_time" ["tables","had","times","order"] vG):nQ P w K mg base oG 5 f fd tq (Bw CS CF CC CT 0 RG):=by
 refine F.ok Gk (λ vs H Q E h=>?_) (λ oW A outer s H vs Q E hr h=>?_)
 ·obtain⟨x,wl,hl,nl,rl,a,s',f0,ws,ns,zs,rfl,_⟩:=h
  rfl
 ·obtain⟨x,wl,hl,nl,rl,a,s',f0,ws,ns,zs,rfl,T,hn,hz,ln,lz,k⟩:=h
  have nd:=Gk.nd
  have nL:=S.cl
  refine⟨_,(mX (m8 (i:=3) nd rfl (Or.inl rfl) (nv (E:=E0) oA hr (by decide) nr (mW (pv 0) (mW (pQ (E:=E0) qU nL hr (by decide) nr (pv 0) (mW (pv 2) mY)) (mW (pQ (E:=E0) pZ nL hr (by decide) nr (pv 0) (mW (pv 2) mY)) mY)))))
   (mX (pj (xA (pv 3) (λ _=>rfl)) (m6 (nj (pv 3))) nZ)
   (mX (m8 (i:=4) nd rfl (Or.inl rfl) (oV (E:=E0) nV nL hr (by decide) nr (pv 0)))
   (mX (m8 (i:=5) nd rfl (Or.inl rfl) (oV (E:=E0) rV nL hr (by decide) nr (pv 0)))
   (mX (m8 (i:=6) nd rfl (Or.inl rfl) (nv (E:=E0) uT hr (by decide) nr (mW (pv 4) (mW (nq (pv 0) rfl) (mW (pv 5) (mW (pv 2) mY))))))
   (m6 (nj (oj qW (oj qW (nP (mW (nU nF) (mW (nM nN rfl pd aX (mW (pv 6) mY)) mY))) (pv 6)) (nv (E:=E0) pK hr (by decide) nr (mW (pv 4) (mW (nq (pv 0) rfl) (mW (pv 5) (mW (pv 6) mY))))))))))))),?_⟩
  obtain⟨dx,hx⟩:=T.se.1
  rw[Vx]at k
  have wB:=T.wB
  refine⟨_,rfl,_,rfl,x,dx,_,rfl,hx,rfl,_,rfl,r9 (T.MG hz lz λ H1 s1=>?_)⟩
  refine⟨_,rfl,x,dx,_,rfl,s1 _ _ hx,rfl,_,rfl,r9 ((T.same s1).Jd (s1 _ _ hz) λ H2 s2=>?_)⟩
  have vD:=s1.trans s2
  have T2:=T.same vD
  refine⟨x,wl,hl,a,s',f0,ws,_,_,rfl,T2,λ H3 p s3 hp NS=>?_⟩
  have wF:=vD.trans s3
  refine⟨_,rfl,_,.inl ⟨_,nE.of NS,rfl⟩,Lg (λ h=>?_) λ h=>?_⟩
  ·exact⟨_,rfl,k H3 p wF (none_of vD hp) (Vp h NS)⟩
  obtain⟨c1,c2,c3⟩:=tS h
  rw[c1,c2,qF c3]at k
  obtain⟨r1,r2,r3,r4⟩:=DP c1
  have tm:dr (bC s'.done (bV zs))=false:=by
   rw[Ba c1]at c2
   cases q:dr (bC s'.done (bV zs))with
   |false=>rfl
   |true=>rw[q]at c2;cases c2
  have m20:=MJ tm
  have W:=T.fw
  have le:(bV zs).length=s'.done.length:=by rw[r2,T.dl]
  have ok:=Rz (f:=s'.field) le m20
  have ol:(dO s'.field s'.done (bV zs)).length<=320:=by
   rw[O1]
   have:=Dt (B:=20) _ (RA le m20)
   rw[le,T.ld]at this
   omega
  refine⟨_,rfl,x,dx,_,rfl,wF _ _ hx,rfl,r9 ((T.same wF).qr λ H4 tb ts s4 Yd Yh hT=>?_)⟩
  have KW:=wF.trans s4
  refine⟨_,rfl,x,dx,_,rfl,KW _ _ hx,rfl,r9 ((T.same KW).E5 λ H5 tt s5 htt adU=>?_)⟩
  have J7:=KW.trans s5
  refine⟨_,rfl,_,rfl,x,CS,dx,_,_,rfl,J7 _ _ hx,S.cl,S.n3,rfl,_,rfl,_,rfl,tb,hl,tt,rl,ts,s'.field,s'.done,bV zs,rfl,T.time,s5 _ _ Yh,hT.same s5,J7 _ _ T.se.2.2,adU,by rw[J7 _ _ hz,r1],T.dl,le,by rw[T.ld];exact wB,m20,λ H6 od s6 hod acC=>?_⟩
  generalize hB:dO s'.field s'.done (bV zs)=B at *
  have V_:=J7.trans s6
  refine⟨_,rfl,od,_,rfl,.inl (nE.of acC),(by show 2<=ay;decide),λ l1 J6=>?_⟩
  have s7:=m7.new (o:=.lst [V.int 0,V.int ((nX B).length:Nat)]) J6
  refine⟨_,rfl,l1,od,_,_,rfl,rfl,mZ,s7 _ _ acC,(by rw[m_,aA];show 2+ _<=_;omega),λ l2 Nl=>?_⟩
  have s8:=s7.trans (m7.new (o:=.lst ([V.int 0,V.int ((nX B).length:Nat)]++nX B)) Nl)
  have Ry:=V_.trans s8
  refine⟨_,rfl,_,rfl,x,CS,dx,_,_,rfl,Ry _ _ hx,S.cl,S.n3,rfl,_,rfl,_,rfl,tb,hl,tt,od,ts,s'.field,s'.done,B,rfl,W,T.time,s8 _ _ (s6 _ _ (s5 _ _ Yh)),hT.same (s5.trans (s6.trans s8)),Ry _ _ T.se.2.2,s8 _ _ (s6 _ _ adU),s8 _ _ acC,T.dl,T.tu,by omega,ok,b_ c3,λ H9 q s9 hq hq9=>?_⟩
  refine⟨l2,q,_,_,rfl,rfl,s9 _ _ mZ,hq9,(by rw[aw,m_,aA];show 2+ _+2<=_;omega),o9 k (Ry.trans s9) ?_⟩
  rw[t8,An,m_]
  unfold jj
  rw[t8,Bb];rfl
def RI(s:bR)(f0:ae)(ns zs:List Int):List Int:=(eO s f0 (.takes zs)).2
theorem Vy(s:bR)(f0:ae)(ns zs:List Int):RI s f0 ns zs=ph (decide (zs.length<=60) && zs.all (eR s)) (DB s.done (dU (g8 s.field.cells.length zs))) (left s.field s.done) (0::jR (iz s.field s.done (bV zs))):=
 (Cy s (decide (zs.length<=60) && zs.all (eR s)) (dr (bC s.done (g8 s.field.cells.length zs))) _ _).trans (rH λ _=>(O8 _ _).symm)
abbrev Jj:List Str:=["search","numbers","order","as_told","refusal","cell"]
theorem Gn:m9 Jj ["search","numbers","order"] (m5 yf):=qh
abbrev aav(P:aJ)(w:aY)(K:ah)(mg:Str->Option ao)(base:bz)(CS:ag):Prop:=um P w K mg base oG 1 CS "is_cell" ["self","number"] (H_ CS)
theorem Gp(F:pI K "call_takes" "call_takes" yf f fd)(S:p6 K CS)(pd:mg "len"=none)(rW:oF mg "MOST_IN_ORDER" 60)(zA:mg "all"=none)(pH:aav P w K mg base CS)(oA:Vs P w K mg base CS CF CC CT)(pZ:acy P w K mg base CS)(ug:rB P w K mg base oG 1 "row_of" ["order","many_cells"] Mo)(nF:oF mg "DONE" 0)(pK:rB P w K mg base oG 3 "expected_time" ["tables","had","times","order"] vG)(nV:V9 P w K mg base CS CF CC CT)(rV:aau P w K mg base CS CF CC CT):nQ P w K mg base oG 5 f fd ["search","numbers","order"] (Bw CS CF CC CT 0 RI):=by
 refine F.ok Gn (λ vs H Q E h=>?_) (λ oW A outer s H vs Q E hr h=>?_)
 ·obtain⟨x,wl,hl,nl,rl,a,s',f0,ws,ns,zs,rfl,_⟩:=h
  rfl
 ·obtain⟨x,wl,hl,nl,rl,a,s',f0,ws,ns,zs,rfl,T,hn,hz,ln,lz,k⟩:=h
  have nd:=Gn.nd
  have nL:=S.cl
  refine⟨_,(mX (m8 (i:=3) nd rfl (Or.inl rfl) (Lz (rR p9 (nM nN rfl pd aX (mW (pv 2) mY)) (nU rW) (oK _)) (Ly (nM (BG rfl) rfl zA iP (mW (qt (own:=[("cell",5)]) rfl nd (oM (pv 2)) (by exact pC.of (N:=Jj) (sc:=m5 yf) (by decide +kernel)) (λ _ _ _ _ _=>by exact(nA (i:=5) nd rfl (Or.inl rfl))) (λ _ _ _ _ _=>by exact oR) (λ _ _ _ _ _=>by exact(pQ (E:=E0) pH nL hr (by decide) nr (pv 0) (mW (pv 5) mY)))) mY)))))
   (mX (m8 (i:=4) nd rfl (Or.inl rfl) (nv (E:=E0) oA hr (by decide) nr (mW (pv 0) (mW (pv 3) (mW (pQ (E:=E0) pZ nL hr (by decide) nr (pv 0) (mW (nv (E:=E0) ug hr (by decide) nr (mW (pv 2) (mW (nM nN rfl pd aX (mW (nq (pv 0) rfl) mY)) mY))) mY)) mY)))))
   (mX (pj (xA (pv 4) (λ _=>rfl)) (m6 (nj (pv 4))) nZ)
   (m6 (nj (oj qW (nP (mW (nU nF) mY)) (nv (E:=E0) pK hr (by decide) nr (mW (oV (E:=E0) nV nL hr (by decide) nr (pv 0)) (mW (nq (pv 0) rfl) (mW (oV (E:=E0) rV nL hr (by decide) nr (pv 0)) (mW (pv 2) mY))))))))))),?_⟩
  obtain⟨dx,hx⟩:=T.se.1
  rw[Vy]at k
  have wB:=T.wB
  have W:=T.fw
  refine ae9 (b1:=decide (zs.length<=60)) (b2:=zs.all (eR s')) (λ R q=>?_) (λ hb R q=>?_) λ H1 s1=>?_
  ·refine⟨_,rfl,rl,_,rfl,.inl (nE.of hz),_,_,rfl,rfl,?_⟩
   have e:decide (((iL zs).length:Int)<=60)=decide (zs.length<=60):=by rw[pW];exact decide_eq_decide.mpr (by omega)
   show R (V.bl (decide (((iL zs).length:Int)<=60))) H
   rw[e];exact q
  ·refine⟨_,rfl,rl,rfl,⟨_,nE.of hz⟩,?_⟩
   refine oY (oS (K:=K) (xs:=iL zs) (nE.of hz)) (zs.map λ z=>V.bl (eR s' z)) (by rw[pW,aa]) (by rw[pW,aA];omega) (λ j x y H3 R3 N3 hy pG hF kk=>?_) (λ D H3 hD pG uC=>?_)
   ·obtain⟨z,q1,rfl⟩:=EV hF
    rw[ak,q1]at hy
    cases hy
    exact⟨rfl,sD ⟨_,rfl,_,dx,_,rfl,pG _ _ hx,rfl,_,rfl,r9 ((T.same pG).DO (kk H3 (m7.refl _)))⟩⟩
   ·refine⟨D,zs.map (eR s'),rfl,nE.of (by rw[uC,aW];rfl),?_⟩
    rw[cH]
    exact q H3 pG
  have T1:=T.same s1
  refine⟨_,rfl,_,rfl,_,rfl,x,dx,_,rfl,s1 _ _ hx,rfl,_,rfl,_,rfl,x,CS,dx,_,_,rfl,s1 _ _ hx,S.cl,S.n3,rfl,hl,_,rfl,.inl (nE.of (s1 _ _ T.se.2.2)),rl,zs,s'.done.length,by rw[m_],s1 _ _ hz,by rw[T.ld];exact wB,λ H2 ro s2 hro adV=>?_⟩
  have vD:=s1.trans s2
  rw[Gf,T.dl,<-Bb]at adV
  refine r9 ((T.same vD).Jd adV λ H3 s3=>?_)
  have wF:=vD.trans s3
  refine⟨x,wl,hl,a,s',f0,ws,_,_,rfl,T.same wF,λ H4 p s4 hp hp4=>?_⟩
  have KW:=wF.trans s4
  refine⟨_,rfl,_,.inl ⟨_,nE.of hp4,rfl⟩,Lg (λ h=>?_) λ h=>?_⟩
  ·exact⟨_,rfl,k H4 p KW (none_of wF hp) (Vp h hp4)⟩
  obtain⟨c1,c2,c3⟩:=tS h
  rw[c1,c2,qF c3]at k
  rw[bj]at c1
  obtain⟨r1,r2,r3⟩:=Ji c1.2
  have tm:dr (bC s'.done (g8 s'.field.cells.length zs))=false:=by
   rw[O8]at c2
   cases q:dr (bC s'.done (g8 s'.field.cells.length zs))with
   |false=>rfl
   |true=>rw[q]at c2;cases c2
  have m20:=MJ tm
  rw[<-T.dl,r3]at m20
  have ok:=Yi (d:=s'.done) (l:=bV zs) (λ c hc=>by rw[T.dl];exact r2 c hc) m20
  refine⟨(by show 1<=ay;decide),λ l1 J6=>?_⟩
  have s5:=KW.put (o:=.lst [V.int 0]) (none_of KW J6)
  refine⟨_,rfl,x,dx,_,rfl,s5 _ _ hx,rfl,r9 ((T.same s5).qr λ H6 tb ts s6 Yd afa hT=>?_)⟩
  have V_:=s5.trans s6
  refine⟨_,rfl,x,CS,dx,_,_,rfl,V_ _ _ hx,S.cl,S.n3,rfl,_,rfl,x,dx,_,rfl,V_ _ _ hx,rfl,r9 ((T.same V_).E5 λ H7 tt s7 htt afb=>?_)⟩
  have s17:=V_.trans s7
  refine⟨_,rfl,tb,hl,tt,rl,ts,s'.field,s'.done,bV zs,rfl,W,T.time,s7 _ _ afa,hT.same s7,s17 _ _ T.se.2.2,afb,by rw[s17 _ _ hz,r1],T.dl,T.tu,by unfold bV;rw[aa];omega,ok,b_ c3,λ H9 q s9 hq hq9=>?_⟩
  exact⟨l1,q,_,_,rfl,rfl,s9 _ _ (s7 _ _ (s6 _ _ mZ)),hq9,(by show 3<=ay;decide),o9 k (s17.trans s9) rfl⟩
theorem Jk{f:ae}:∀(k:Nat) (d:List Nat) (u:Use) (pN:List Nat),(∀n∈d,n<=20)->(eG f k d u pN).length=d.length/\(∀i,d.getD i 0<=(eG f k d u pN).getD i 0)/\∀n∈eG f k d u pN,n<=20
 |0,d,u,pN,h=>⟨rfl,λ i=>ax _,h⟩
 |k+1,d,u,pN,h=>by
  rw[IV]
  cases hn:IU f d pN with
  |none=>exact⟨rfl,λ i=>ax _,h⟩
  |some c=>
   obtain⟨⟨n1,n2,n3,n4⟩,_⟩:=MB.1 c hn
   dsimp only
   cases eY f c u with
   |none=>exact Jk k d u (c::pN) h
   |some v=>
    obtain⟨a1,a2,a3⟩:=Jk (f:=f) k (bump d c) v pN λ n hn=>Dy h n3 hn
    refine⟨by rw[a1,pX],λ i=>aT ?_ (a2 i),a3⟩
    rw[A5 n1]
    by_cases e:i=c
    ·subst e;rw[if_pos rfl];omega
    ·rw[if_neg e];exact ax _
theorem Vz{d D:List Nat}(hl:D.length=d.length)(h:∀i,d.getD i 0<=D.getD i 0):bC d (eN D d)=D:=by
 unfold bC eN
 apply bO
 intro i
 rw[aP,aP]
 by_cases hi:i<d.length
 ·rw[getD_at hi,getD_at (d:=D) (show i<D.length by omega)]
  show some _=some _
  congr 1
  have:=h i
  omega
 ·rw[aI (show d.length<=i by omega),aI (show D.length<=i by omega)]
theorem Yl{d D:List Nat}(hl:D.length=d.length):(eN D d).length=d.length:=by unfold eN;rw[c_,hl,f7]
theorem VA{f:ae}:aZ ((n9 f).map λ t=>t.getD 0 0)=left f (d7 f):=by
 have h:=tM (f:=f) (d:=d7 f) (by unfold d7;rw[aa]) λ n hn=>by
  obtain⟨_,_,rfl⟩:=List.mem_map.mp hn
  exact aE _
 rw[<-h]
 unfold aad
 congr 1
 apply bO
 intro i
 rw[ak,ak]
 by_cases hi:i<(n9 f).length
 ·have e1:(n9 f)[i]? =some (n9 f)[i]:=af hi
  have e2:(d7 f)[i]? =some 0:=by
   unfold d7
   rw[ak,af (by rw[pO]at hi;exact hi)];rfl
  rw[(gn (z:=((n9 f)[i],0))).mpr ⟨e1,e2⟩,e1];rfl
 ·rw[aI (by omega),aI (by rw[eJ];omega)];rfl
theorem O_{f:ae}(ok:Ds f)(XG:∀c∈f.cells,c.name.length<=8):(iE f).length<=23000:=by
 have XJ:f.parts<=1000:=by have:=ok.parts;omega
 rw[Ik]
 generalize Za:[ik [bX "parts",dB f.parts]]++f.cells.map Cn++f.teams.map (w6 f)=ls
 have h1:ls.flatten.length<=ls.length*1000:=Mm ls λ z hz=>by
  rw[<-Za]at hz
  rcases List.mem_append.mp hz with hz|hz
  ·rcases List.mem_append.mp hz with hz|hz
   ·simp only[dh,cJ,or_false]at hz
    rw[hz]
    refine Dv (by simp) λ z hz=>?_
    have d1:=sQ _ XJ
    have b1:(bX "parts").length<=30:=by decide
    simp only[dh,cJ,or_false]at hz
    rcases hz with rfl|rfl <;> omega
   ·obtain⟨c,hc,rfl⟩:=List.mem_map.mp hz
    have co:=ok.cells.each _ hc
    have pp:=ok.parts
    exact Il (XG c hc) co.weight (by have:=co.finds;omega) (by have:=co.time;omega)
  ·obtain⟨t,ht,rfl⟩:=List.mem_map.mp hz
   exact Im ok.cells.len XG (ok.teams.each t ht)
 have h2:ls.length<=23:=by
  have:=ok.cells.len
  have:=ok.teams.len
  rw[<-Za,aw,aw,aa,aa]
  show 1+ _+ _<=23
  omega
 have h3:ls.length*1000<=23*1000:=c6 _ h2
 omega
theorem acD{f:ae}{m:Nat}{e:List Nat}(hm:e.length=m):((nJ f.teams).all λ L=>decide (0<=spB (rQ f.teams) m L e))=jD f e:=by
 rw[du,OS,fz,hm]
 exact⟨λ h L hL=>of_decide_eq_true (h L hL),λ h L hL=>decide_eq_true (h L hL)⟩
theorem Ym{f0:ae}(ok:Ds f0)(bs:List ag):∀z∈bs.zip f0.teams,z.2.cells.length<=16:=λ z hz=>by
 have t:=ok.teams.each z.2 (gS hz).2
 have:=Ac t.nd t.lt
 have:=ok.cells.len
 omega
def RJ(s:bR)(f0:ae)(ns zs:List Int):List Int:=(eO s f0 .teams).2
theorem VB(s:bR)(f0:ae)(ns zs:List Int):RJ s f0 ns zs=ph true true (left s.field s.done) (0::(dU (eN (fU s.field s.done) s.done)++jR (dQ s.field s.done (eN (fU s.field s.done) s.done)))):=by
 show(if left s.field s.done=0 then(s,[-6])else(s,_)).2=_
 unfold ph
 by_cases h:left s.field s.done=0
 ·simp[h]
 ·simp[h]
abbrev RK:List Str:=["search","numbers","row","tables","best"]
theorem Gq:m9 RK tq (m5 B_):=qh
theorem Gr(F:pI K "call_teams" "call_teams" B_ f fd)(S:p6 K CS)(nI:Rec P w K mg base "Field" CF Ci)(qQ:Yc P w K mg base CS CF CC CT)(nW:oF mg "NOTHING_LEFT" (-6))(nV:V9 P w K mg base CS CF CC CT)(wI:rB P w K mg base oG 3 "teams_row" ["bounds","tables","had"] (Jb CB))(qI:rB P w K mg base oG 3 "bounds_of" ["teams","many_cells"] (Cv CT CB))(pd:mg "len"=none)(nF:oF mg "DONE" 0)(qw:aat P w K mg base):nQ P w K mg base oG 4 f fd tq (Bw CS CF CC CT 0 RJ):=by
 refine F.ok Gq (λ vs H Q E h=>?_) (λ oW A outer s H vs Q E hr h=>?_)
 ·obtain⟨x,wl,hl,nl,rl,a,s',f0,ws,ns,zs,rfl,_⟩:=h
  rfl
 ·obtain⟨x,wl,hl,nl,rl,a,s',f0,ws,ns,zs,rfl,T,hn,hz,ln,lz,k⟩:=h
  have nd:=Gq.nd
  have nL:=S.cl
  refine⟨_,(mX (pj (oq uc (oV (E:=E0) qQ nL hr (by decide) nr (pv 0)) nO (oK _)) (m6 (nj (nP (mW (nU nW) mY)))) nZ)
   (mX (m8 (i:=3) nd rfl (Or.inl rfl) (oV (E:=E0) nV nL hr (by decide) nr (pv 0)))
   (mX (m8 (i:=4) nd rfl (Or.inl rfl) (nv (E:=E0) wI hr (by decide) nr (mW (nv (E:=E0) qI hr (by decide) nr (mW (nq (nq (pv 0) rfl) rfl) (mW (nM nN rfl pd aX (mW (nq (pv 0) rfl) mY)) mY))) (mW (pv 3) (mW (nq (pv 0) rfl) mY)))))
   (m6 (nj (oj qW (oj qW (nP (mW (nU nF) mY)) (pv 4)) (nv (E:=E0) qw hr (by decide) nr (mW (pv 3) (mW (nq (pv 0) rfl) (mW (pv 4) mY)))))))))),?_⟩
  obtain⟨dx,hx⟩:=T.se.1
  rw[VB]at k
  have W:=T.fw
  have wB:=T.wB
  refine⟨_,rfl,x,dx,_,rfl,hx,rfl,r9 (T.Am λ H1 s1=>⟨rfl,_,rfl,p_ (λ hc=>?_) λ hc=>?_⟩)⟩
  ·have hc:=V.int.inj (of_decide_eq_true hc)
   have e:left s'.field s'.done=0:=by omega
   rw[e]at k
   exact⟨(by show 1<=ay;decide),o9 k s1 rfl⟩
  have c3:left s'.field s'.done≠0:=λ z=>hc (decide_eq_true (by rw[z];rfl))
  rw[qF c3]at k
  refine⟨_,rfl,x,dx,_,rfl,s1 _ _ hx,rfl,r9 ((T.same s1).qr λ H2 tb ts s2 Yd Yj hT=>?_)⟩
  have vD:=s1.trans s2
  obtain⟨df,lc,lt,as,bs,f1,f2,f3,f4,f5⟩:=(T.same vD).field
  obtain⟨z1,z2,z3⟩:=Rq f5
  refine⟨_,rfl,x,CS,dx,_,_,rfl,vD _ _ hx,S.cl,S.n1,rfl,a,CF,df,_,_,rfl,f1,nI.cl,nI.na "teams" (by simp),rfl,_,rfl,x,CS,dx,_,_,rfl,vD _ _ hx,S.cl,S.n3,rfl,hl,_,rfl,.inl (nE.of (vD _ _ T.se.2.2)),lt,bs.zip f0.teams,s'.done.length,by rw[m_],by rw[z2];exact f4,z1,by rw[eJ];have:=T.ok.teams.len;omega,by rw[T.ld];exact wB,Ym T.ok bs,λ H3 bq ks s3 hbq acE hks=>?_⟩
  rw[z3,<-T.teams]at hks
  have wF:=vD.trans s3
  refine⟨_,rfl,_,rfl,x,CS,dx,_,_,rfl,wF _ _ hx,S.cl,S.n3,rfl,bq,tb,hl,ks,ts,s'.field,s'.done,rfl,acE,hks,s3 _ _ Yj,hT.same s3,wF _ _ T.se.2.2,T.dl,by rw[T.ld];exact wB,λ H4 wb s4 hrw Yk=>?_⟩
  obtain⟨g1,g2,g3⟩:=Jk (f:=s'.field) ((lF s'.field).length+s'.field.cells.length) s'.done [] [] T.tu
  have ml:bC s'.done (eN (fU s'.field s'.done) s'.done)=fU s'.field s'.done:=Vz g1 g2
  have t1:(eN (fU s'.field s'.done) s'.done).length=s'.done.length:=Yl g1
  have t2:∀n∈bC s'.done (eN (fU s'.field s'.done) s'.done),n<=20:=by rw[ml];exact g3
  generalize hB:eN (fU s'.field s'.done) s'.done=B at *
  have KW:=wF.trans s4
  refine⟨(by show 1<=ay;decide),λ l1 J6=>?_⟩
  have s7:=m7.new (o:=.lst [V.int 0]) J6
  refine⟨_,rfl,l1,wb,_,_,rfl,rfl,mZ,s7 _ _ Yk,(by rw[m_,t1,T.ld,aA];show 1+ _<=_;omega),λ l2 Nl=>?_⟩
  have s8:=s7.trans (m7.new (o:=.lst ([V.int 0]++nX B)) Nl)
  have Ry:=KW.trans s8
  refine⟨_,rfl,_,rfl,x,CS,dx,_,_,rfl,Ry _ _ hx,S.cl,S.n3,rfl,_,rfl,tb,hl,wb,ts,s'.field,s'.done,B,rfl,W,s8 _ _ (s4 _ _ (s3 _ _ Yj)),hT.same (s3.trans (s4.trans s8)),Ry _ _ T.se.2.2,s8 _ _ Yk,T.dl,t1,t2,b_ c3,λ H9 q s9 hq hq9=>?_⟩
  refine⟨l2,q,_,_,rfl,rfl,s9 _ _ mZ,hq9,(by rw[aw,m_,t1,T.ld,aA];show 1+ _+2<=_;omega),o9 k (Ry.trans s9) ?_⟩
  rw[t8,An,Bb];rfl
def aaw(s:bR)(f0:ae)(ns zs:List Int):List Int:=(eO s f0 (.can zs)).2
theorem aax(s:bR)(f0:ae)(ns zs:List Int):aaw s f0 ns zs=if fL s zs=false then[-1]else[0,if jD s.field (bV zs)=true then 1 else 0]:=by
 show(if fL s zs=false then(s,[-1])else(s,_)).2=_
 cases fL s zs <;> rfl
abbrev Yn:List Str:=tq
theorem Lk:m9 Yn tq (m5 Hr):=qh
theorem Ll(F:pI K "call_can" "call_can" Hr f fd)(S:p6 K CS)(nI:Rec P w K mg base "Field" CF Ci)(qU:acx P w K mg base CS)(nH:oF mg "NOT_AS_TOLD" (-1))(nF:oF mg "DONE" 0)(yJ:rB P w K mg base oG 2 "can_make" ["bounds","row"] (Ld CB))(qI:rB P w K mg base oG 3 "bounds_of" ["teams","many_cells"] (Cv CT CB))(pd:mg "len"=none):nQ P w K mg base oG 4 f fd tq (Bw CS CF CC CT 0 aaw):=by
 refine F.ok Lk (λ vs H Q E h=>?_) (λ oW A outer s H vs Q E hr h=>?_)
 ·obtain⟨x,wl,hl,nl,rl,a,s',f0,ws,ns,zs,rfl,_⟩:=h
  rfl
 ·obtain⟨x,wl,hl,nl,rl,a,s',f0,ws,ns,zs,rfl,T,hn,hz,ln,lz,k⟩:=h
  have nd:=Lk.nd
  have nL:=S.cl
  refine⟨_,(mX (pj (vh (tG (pQ (E:=E0) qU nL hr (by decide) nr (pv 0) (mW (pv 2) mY)))) (m6 (nj (nP (mW (nU nH) mY)))) nZ)
   (m6 (nj (nP (mW (nU nF) (mW (Nw (tG (nv (E:=E0) yJ hr (by decide) nr (mW (nv (E:=E0) qI hr (by decide) nr (mW (nq (nq (pv 0) rfl) rfl) (mW (nM nN rfl pd aX (mW (pv 2) mY)) mY))) (mW (pv 2) mY)))) nO nO) mY)))))),?_⟩
  obtain⟨dx,hx⟩:=T.se.1
  rw[aax]at k
  have wB:=T.wB
  refine⟨_,rfl,x,dx,_,rfl,hx,rfl,_,rfl,r9 (T.MG hz lz λ H1 s1=>⟨_,rfl,?_⟩)⟩
  cases X1:fL s' zs with
  |false=>
   rw[X1]at k
   exact tp ⟨(by show 1<=ay;decide),o9 k s1 rfl⟩
  |true=>
   rw[X1,if_neg (by simp)]at k
   obtain⟨r1,r2,r3,r4⟩:=DP X1
   have T1:=T.same s1
   obtain⟨df,lc,lt,as,bs,f1,f2,f3,f4,f5⟩:=T1.field
   obtain⟨z1,z2,z3⟩:=Rq f5
   have len:zs.length=(bV zs).length:=by unfold bV;rw[aa]
   refine rJ ⟨_,rfl,x,CS,dx,_,_,rfl,s1 _ _ hx,S.cl,S.n1,rfl,a,CF,df,_,_,rfl,f1,nI.cl,nI.na "teams" (by simp),rfl,_,rfl,rl,_,rfl,.inl (nE.of (s1 _ _ hz)),lt,bs.zip f0.teams,(bV zs).length,by rw[pW,len],by rw[z2];exact f4,z1,by rw[eJ];have:=T.ok.teams.len;omega,by rw[r2,T.len];exact wB,Ym T.ok bs,λ H3 bq ks s3 hbq acE hks=>?_⟩
   rw[z3,<-T.teams]at hks
   have wF:=s1.trans s3
   have c64:(nJ s'.field.teams).length<=64:=xb (by rw[T.teams];exact T.ok.teams.len)
   refine⟨_,rfl,bq,rl,ks,_,_,_,bV zs,rfl,acE,hks,by rw[wF _ _ hz,r1],rfl,by rw[r2,T.len];exact wB,c64,λ H4 s4=>⟨_,rfl,?_⟩⟩
   rw[acD rfl]
   cases ZG:jD s'.field (bV zs)with
   |true=>
    rw[ZG]at k
    exact tp ⟨(by show 2<=ay;decide),o9 k (wF.trans s4) rfl⟩
   |false=>
    rw[ZG]at k
    exact rJ ⟨(by show 2<=ay;decide),o9 k (wF.trans s4) rfl⟩
def Yo(s:bR)(f0:ae)(ns zs:List Int):List Int:=(eO s f0 .shown).2
abbrev RL:List Str:=tq
theorem Gs:m9 RL tq (m5 BW):=qh
theorem Gu(F:pI K "call_shown" "call_shown" BW f fd)(S:p6 K CS)(nF:oF mg "DONE" 0)(G4:rB P w K mg base oG 3 "shown" ["field"] (Ts CF CC CT)):nQ P w K mg base oG 4 f fd tq (Bw CS CF CC CT 0 Yo):=by
 refine F.ok Gs (λ vs H Q E h=>?_) (λ oW A outer s H vs Q E hr h=>?_)
 ·obtain⟨x,wl,hl,nl,rl,a,s',f0,ws,ns,zs,rfl,_⟩:=h
  rfl
 ·obtain⟨x,wl,hl,nl,rl,a,s',f0,ws,ns,zs,rfl,T,hn,hz,ln,lz,k⟩:=h
  have nd:=Gs.nd
  refine⟨_,(m6 (nj (oj qW (nP (mW (nU nF) mY)) (nv (E:=E0) G4 hr (by decide) nr (mW (nq (pv 0) rfl) mY))))),?_⟩
  obtain⟨dx,hx⟩:=T.se.1
  refine⟨(by show 1<=ay;decide),λ l1 J6=>?_⟩
  have s1:m7 H (upd H l1 (.lst [V.int 0])):=m7.new J6
  refine⟨_,rfl,x,CS,dx,_,_,rfl,s1 _ _ hx,S.cl,S.n1,rfl,a,f0,rfl,(T.same s1).field,T.ok,T.nm,λ H2 q s2 hq hq2=>?_⟩
  refine⟨l1,q,_,_,rfl,rfl,s2 _ _ mZ,hq2,(by rw[m_,aA];have:=O_ T.ok T.nm;show 1+ _<=_;omega),o9 k (s1.trans s2) ?_⟩
  show _=iL (0::dU (iE f0))
  rw[t8,Bb];rfl
def ML(s:bR)(f0:ae)(ns zs:List Int):List Int:=(eO s f0 .counts).2
abbrev Pa:List Str:=["search","numbers","row","field"]
theorem DT:m9 Pa tq (m5 zV):=qh
theorem DU(F:pI K "call_counts" "call_counts" zV f fd)(S:p6 K CS)(nI:Rec P w K mg base "Field" CF Ci)(nF:oF mg "DONE" 0)(pd:mg "len"=none)(qm:rB P w K mg base oG 1 "efforts_of" ["teams"] (Ak CT))(xH:mg "sum"=none):nQ P w K mg base oG 2 f fd tq (Bw CS CF CC CT 0 ML):=by
 refine F.ok DT (λ vs H Q E h=>?_) (λ oW A outer s H vs Q E hr h=>?_)
 ·obtain⟨x,wl,hl,nl,rl,a,s',f0,ws,ns,zs,rfl,_⟩:=h
  rfl
 ·obtain⟨x,wl,hl,nl,rl,a,s',f0,ws,ns,zs,rfl,T,hn,hz,ln,lz,k⟩:=h
  have nd:=DT.nd
  refine⟨_,(mX (m8 (i:=3) nd rfl (Or.inl rfl) (nq (pv 0) rfl))
   (m6 (nj (nP (mW (nU nF) (mW (nM nN rfl pd aX (mW (nq (pv 3) rfl) mY)) (mW (nM nN rfl pd aX (mW (nq (pv 3) rfl) mY)) (mW (nv (E:=E0) qm hr (by decide) nr (mW (nq (pv 3) rfl) mY)) (mW (nq (pv 3) rfl) (mW (nM (BF rfl) rfl xH iO (mW (nq (pv 0) rfl) mY)) mY)))))))))),?_⟩
  obtain⟨dx,hx⟩:=T.se.1
  obtain⟨df,lc,lt,as,bs,f1,f2,f3,f4,f5⟩:=T.field
  obtain⟨z1,z2,z3⟩:=Rq f5
  refine⟨_,rfl,x,CS,dx,_,_,rfl,hx,S.cl,S.n1,rfl,?_⟩
  refine⟨_,rfl,a,CF,df,_,_,rfl,f1,nI.cl,nI.na "cells" (by simp),rfl,lc,_,rfl,.inl (nE.of f2),?_⟩
  refine⟨_,rfl,a,CF,df,_,_,rfl,f1,nI.cl,nI.na "teams" (by simp),rfl,lt,_,rfl,.inl (nE.of f4),?_⟩
  refine⟨_,rfl,a,CF,df,_,_,rfl,f1,nI.cl,nI.na "teams" (by simp),rfl,lt,bs.zip f0.teams,rfl,by rw[z2];exact f4,z1,by rw[eJ];have:=T.ok.teams.len;omega,λ H2 s2=>?_⟩
  refine⟨_,rfl,a,CF,df,_,_,rfl,s2 _ _ f1,nI.cl,nI.na "parts" (by simp),rfl,?_⟩
  refine⟨_,rfl,x,CS,dx,_,_,rfl,s2 _ _ hx,S.cl,S.n3,rfl,hl,s'.done.map (λ(n:Nat)=>(n:Int)),rfl,nE.of (by rw[s2 _ _ T.se.2.2,uq];rfl),?_⟩
  rw[tL]
  refine⟨(by show 6<=ay;decide),o9 k s2 ?_⟩
  show _=iL (0::dU [s'.field.cells.length,s'.field.teams.length,(lF s'.field).length,s'.field.parts,aZ s'.done])
  rw[Vj,T.len,T.teams,z3,aa,aa,f3.1,f5.1,show s'.field.parts=f0.parts by rw[T.fe];rfl]
  rfl
def Yp(s:bR)(f0:ae)(ns zs:List Int):List Int:=(eO s f0 .left_).2
theorem Yq(s:bR)(f0:ae)(ns zs:List Int):Yp s f0 ns zs=ph true true (left s.field (d7 s.field)) (0::jR (mI (left s.field s.done) (left s.field (d7 s.field)))):=by
 show(if left s.field (d7 s.field)=0 then(s,[-6])else(s,_)).2=_
 unfold ph
 by_cases h:left s.field (d7 s.field)=0
 ·simp[h]
 ·simp[h]
theorem Pb(f:ae):(d7 f).length=f.cells.length:=by unfold d7;rw[aa]
theorem T5(f:ae):∀n∈d7 f,n<=20:=λ n hn=>by
 obtain⟨_,_,rfl⟩:=List.mem_map.mp hn
 exact aE _
abbrev Lm:List Str:=["search","numbers","row","untouched","table"]
theorem Jl:m9 Lm tq (m5 AZ):=qh
theorem Jm(F:pI K "call_left" "call_left" AZ f fd)(S:p6 K CS)(xH:mg "sum"=none)(nV:V9 P w K mg base CS CF CC CT)(nW:oF mg "NOTHING_LEFT" (-6))(nF:oF mg "DONE" 0)(oy:Hz4 P w K mg base)(qQ:Yc P w K mg base CS CF CC CT):nQ P w K mg base oG 4 f fd tq (Bw CS CF CC CT 0 Yp):=by
 refine F.ok Jl (λ vs H Q E h=>?_) (λ oW A outer s H vs Q E hr h=>?_)
 ·obtain⟨x,wl,hl,nl,rl,a,s',f0,ws,ns,zs,rfl,_⟩:=h
  rfl
 ·obtain⟨x,wl,hl,nl,rl,a,s',f0,ws,ns,zs,rfl,T,hn,hz,ln,lz,k⟩:=h
  have nd:=Jl.nd
  have nL:=S.cl
  refine⟨_,(mX (m8 (i:=3) nd rfl (Or.inl rfl) (nM (BF rfl) rfl xH iO (mW (qt (own:=[("table",4)]) rfl nd (oM (oV (E:=E0) nV nL hr (by decide) nr (pv 0))) (by exact pC.of (N:=Lm) (sc:=m5 AZ) (by decide +kernel)) (λ _ _ _ _ _=>by exact(nA (i:=4) nd rfl (Or.inl rfl))) (λ _ _ _ _ _=>by exact oR) (λ _ _ _ _ _=>by exact(tY K (pv 4) nO))) mY)))
   (mX (pj (oq uc (pv 3) nO (oK _)) (m6 (nj (nP (mW (nU nW) mY)))) nZ)
   (m6 (nj (oj qW (nP (mW (nU nF) mY)) (nv (E:=E0) oy hr (by decide) nr (mW (oV (E:=E0) qQ nL hr (by decide) nr (pv 0)) (mW (pv 3) mY)))))))),?_⟩
  obtain⟨dx,hx⟩:=T.se.1
  rw[Yq]at k
  have W:=T.fw
  have wB:=T.wB
  refine⟨_,rfl,x,dx,_,rfl,hx,rfl,r9 (T.qr λ H1 tb ts s1 Yd adW hT=>?_)⟩
  refine⟨tb,rfl,⟨_,nE.of adW⟩,?_⟩
  refine oY (oS (K:=K) (xs:=ts.map V.ref) (nE.of adW)) (nX ((n9 s'.field).map λ t=>t.getD 0 0)) (by rw[m_,aa,aa,hT.1]) (by rw[aa,hT.1,pO,T.len,aA];omega) (λ j x y H3 R3 N3 hy pG hF kk=>?_) (λ D H3 hD pG uC=>?_)
  ·obtain⟨v,q,rfl⟩:=ou hy
   rw[ak]at hF q
   cases q1:ts[j]? with
   |none=>rw[q1]at hF;cases hF
   |some tj=>
    cases q2:(n9 s'.field)[j]? with
    |none=>rw[q2]at q;cases q
    |some t=>
     rw[q1]at hF;rw[q2]at q
     cases hF
     have q:t.getD 0 0=v:=Option.some.inj q
     have tl:0<t.length:=by
      have:t∈n9 s'.field:=aC q2
      obtain⟨c,_,rfl⟩:=List.mem_map.mp this
      rw[z_];decide
     have gd:=getD_at tl
     rw[q]at gd
     exact⟨rfl,sD ⟨_,rfl,tj,_,_,_,rfl,rfl,nE.of (pG _ _ (hT.2 j tj t q1 q2)),at_of (j:=0) rfl (oU gd),kk H3 (m7.refl _)⟩⟩
  refine⟨D,((n9 s'.field).map λ t=>t.getD 0 0).map (λ(n:Nat)=>(n:Int)),rfl,nE.of (by rw[uC,uq];rfl),?_⟩
  rw[tL,VA]
  have wF:=s1.trans pG
  refine⟨_,rfl,rfl,_,rfl,p_ (λ hc=>?_) λ hc=>?_⟩
  ·have hc:=V.int.inj (of_decide_eq_true hc)
   have e:left s'.field (d7 s'.field)=0:=by omega
   rw[e]at k
   exact⟨(by show 1<=ay;decide),o9 k wF rfl⟩
  have c3:left s'.field (d7 s'.field)≠0:=λ z=>hc (decide_eq_true (by rw[z];rfl))
  rw[qF c3]at k
  refine⟨(by show 1<=ay;decide),λ l1 J6=>?_⟩
  have s4:=wF.put (o:=.lst [V.int 0]) (none_of wF J6)
  refine⟨_,rfl,x,dx,_,rfl,s4 _ _ hx,rfl,r9 ((T.same s4).Am λ H5 s5=>?_)⟩
  refine⟨_,rfl,left s'.field s'.done,left s'.field (d7 s'.field),rfl,b_ c3,uf W (Pb _) (T5 _),uf W T.dl T.tu,λ H6 q s6 hq hq6=>?_⟩
  exact⟨l1,q,_,_,rfl,rfl,s6 _ _ (s5 _ _ mZ),hq6,(by show 3<=ay;decide),o9 k (s4.trans (s5.trans s6)) rfl⟩
def Jn(s:bR)(f0:ae)(ns zs:List Int):List Int:=(eO s f0 .chances).2
def chL(f:ae)(d:List Nat)(n:Nat):List Nat:=(az n).flatMap λ c=>qL (il f d c)
theorem Pd(f:ae)(d:List Nat)(n:Nat):chL f d (n+1)=chL f d n++qL (il f d n):=by
 unfold chL
 rw[eI,ee];simp
theorem T6(f:ae)(d:List Nat):∀n,(chL f d n).length=2*n
 |0=>rfl
 |n+1=>by rw[Pd,aw,T6 f d n];show 2*n+2=_;omega
theorem Pe(s:bR)(f0:ae)(ns zs:List Int):Jn s f0 ns zs=ph true true (left s.field s.done) (0::(az s.field.cells.length).flatMap λ c=>jR (il s.field s.done c)):=by
 show(if left s.field s.done=0 then(s,[-6])else(s,_)).2=_
 unfold ph
 by_cases h:left s.field s.done=0
 ·simp[h]
 ·simp[h]
abbrev MM:List Str:=["search","numbers","row","left","answer","table","efforts"]
theorem Bx:m9 MM tq (m5 ye):=qh
theorem By(F:pI K "call_chances" "call_chances" ye f fd)(S:p6 K CS)(qQ:Yc P w K mg base CS CF CC CT)(nW:oF mg "NOTHING_LEFT" (-6))(nF:oF mg "DONE" 0)(xI:mg "zip"=none)(nV:V9 P w K mg base CS CF CC CT)(oy:Hz4 P w K mg base):nQ P w K mg base oG 4 f fd tq (Bw CS CF CC CT 0 Jn):=by
 refine F.ok Bx (λ vs H Q E h=>?_) (λ oW A outer s H vs Q E hr h=>?_)
 ·obtain⟨x,wl,hl,nl,rl,a,s',f0,ws,ns,zs,rfl,_⟩:=h
  rfl
 ·obtain⟨x,wl,hl,nl,rl,a,s',f0,ws,ns,zs,rfl,T,hn,hz,ln,lz,k⟩:=h
  have nd:=Bx.nd
  have nL:=S.cl
  refine⟨_,(mX (m8 (i:=3) nd rfl (Or.inl rfl) (oV (E:=E0) qQ nL hr (by decide) nr (pv 0)))
   (mX (pj (oq uc (pv 3) nO (oK _)) (m6 (nj (nP (mW (nU nW) mY)))) nZ)
   (mX (m8 (i:=4) nd rfl (Or.inl rfl) (nP (mW (nU nF) mY)))
   (mX (qB PassesOwn.never rfl (Eo rfl xI (mW (oV (E:=E0) nV nL hr (by decide) nr (pv 0)) (mW (nq (pv 0) rfl) mY))) (zF rfl (oJ (nA (i:=5) nd rfl (Or.inl rfl)) (oJ (nA (i:=6) nd rfl (Or.inl rfl)) rC))) (m6 (n_ (qT aG cT cS va (pv 4) (mW (nv (E:=E0) oy hr (by decide) nr (mW (o_ og (pv 5) (pv 6) (λ _ _=>rfl)) (mW (pv 3) mY))) mY)))))
   (m6 (nj (pv 4))))))),?_⟩
  obtain⟨dx,hx⟩:=T.se.1
  rw[Pe]at k
  have W:=T.fw
  have wB:=T.wB
  have lb:=uf W T.dl T.tu
  refine⟨_,rfl,x,dx,_,rfl,hx,rfl,r9 (T.Am λ H1 s1=>?_)⟩
  refine⟨_,rfl,rfl,_,rfl,p_ (λ hc=>?_) λ hc=>?_⟩
  ·have hc:=V.int.inj (of_decide_eq_true hc)
   have e:left s'.field s'.done=0:=by omega
   rw[e]at k
   exact⟨(by show 1<=ay;decide),o9 k s1 rfl⟩
  have c3:left s'.field s'.done≠0:=λ z=>hc (decide_eq_true (by rw[z];rfl))
  rw[qF c3]at k
  refine⟨(by show 1<=ay;decide),λ an han=>?_⟩
  have acF:=none_of s1 han
  have s2:=s1.put (o:=.lst [V.int 0]) acF
  refine⟨_,rfl,x,dx,_,rfl,s2 _ _ hx,rfl,r9 ((T.same s2).qr λ H3 tb ts s3 Yd adX hT=>?_)⟩
  have wF:=s2.trans s3
  have ntb:tb≠an:=λ q=>by rw[q,mZ]at Yd;cases Yd
  have hd3:=wF _ _ T.se.2.2
  have ltb:(ts.map V.ref).length=(nX s'.done).length:=by rw[aa,m_,hT.1,pO,T.dl]
  have nts:∀j t,ts[j]? =some t->t≠an:=λ j t q z=>by
   have hj:j<(n9 s'.field).length:=by rw[<-hT.1];exact(List.getElem?_eq_some_iff.mp q).1
   have q2:(n9 s'.field)[j]? =some (n9 s'.field)[j]:=af hj
   have z1:=hT.2 j t _ q q2
   have z2:H3 an=some (.lst [V.int 0]):=s3 _ _ mZ
   rw[z,z2]at z1
   have z3:[V.int 0]=nX (n9 s'.field)[j]:=by injection z1 with z1;injection z1
   have z4:=congrArg ie z3
   have:(n9 s'.field)[j]∈n9 s'.field:=cp hj
   obtain⟨c,_,ec⟩:=List.mem_map.mp this
   rw[m_,<-ec,z_]at z4
   cases z4
  refine⟨_,rfl,x,CS,dx,_,_,rfl,wF _ _ hx,S.cl,S.n3,rfl,tb,hl,_,_,rfl,nE.of adX,nE.of hd3,Tj (K:=K) (a:=tb) (b:=hl) (xs:=ts.map V.ref) (ys:=nX s'.done) ltb (λ i σ H'=>∃(v5 v6:Option V),σ=[some (.ref x),some (.ref nl),some (.ref rl),some (.int (left s'.field s'.done:Nat)),some (.ref an),v5,v6]/\i<=s'.done.length/\m7 H H'/\(∀b o,H3 b=some o->b≠an->H' b=some o)/\H' an=some (.lst (V.int 0::nX (chL s'.field s'.done i))))
   ⟨none,none,rfl,aE _,wF,λ b o e _=>e,s3 _ _ mZ⟩ (λ i σ H' _ ⟨_,_,_,_,sm,sk,_⟩=>⟨nE.of (sk _ _ adX ntb),nE.of (sm _ _ T.se.2.2)⟩) ?_ ?_⟩
  ·rintro i y z TT σ H' hy VY ⟨v5,v6,rfl,hi,sm,sk,SU⟩ Vf
   obtain⟨n,q2,rfl⟩:=ou VY
   rw[ak]at hy
   cases q1:ts[i]? with
   |none=>rw[q1]at hy;cases hy
   |some t=>
    rw[q1]at hy;cases hy
    have Wz:i<s'.done.length:=(List.getElem?_eq_some_iff.mp q2).1
    have hic:i<s'.field.cells.length:=by rw[<-T.dl];exact Wz
    have ec:s'.field.cells[i]? =some s'.field.cells[i]:=af hic
    have q3:(n9 s'.field)[i]? =some (rG s'.field.cells[i].weight s'.field.cells[i].finds s'.field.parts):=by
     unfold n9
     rw[ak,ec];rfl
    have n20:=T.tu n (aC q2)
    have gd:s'.done.getD i 0=n:=by rw[aB,q2];rfl
    have tn:=vB (w:=s'.field.cells[i].weight) (fi:=s'.field.cells[i].finds) (p:=s'.field.parts) n20
    rw[<-wA ec]at tn
    have sT:m7 H' (upd H' TT (.tup [.ref t,.int (n:Nat)])):=m7.new Vf
    have ht:=sT _ _ (sk _ _ (hT.2 i t _ q1 q3) (nts i t q1))
    have ha2:=sT _ _ SU
    have mb:cY s'.field i n<Td:=bH (Mi W hic n20) (bH (Nat.le_mul_of_pos_left _ (by decide:0<16)) Xx)
    refine⟨TT,_,rfl,Bi.of mZ,rfl,_,_,rfl,_,_,rfl,rfl,?_⟩
    refine⟨_,rfl,.inl ⟨rfl,_,nE.of ha2⟩,_,rfl,_,rfl,t,_,_,_,rfl,rfl,nE.of ht,ot (oU tn),_,rfl,cY s'.field i n,left s'.field s'.done,rfl,b_ c3,lb,mb,λ H5 fr s5 JJ acs=>?_⟩
    refine⟨an,fr,_,_,rfl,rfl,s5 _ _ ha2,acs,?_,?_⟩
    ·rw[aD,m_,T6,aA];show _+2<=_;have:=T.ld;omega
    ·refine⟨_,_,rfl,Wz,(sm.trans (sT.trans s5)).put acF,λ b o e nb=>?_,?_⟩
     ·rw[m4 nb];exact s5 _ _ (sT _ _ (sk _ _ e nb))
     ·rw[mZ,Pd]
      unfold il nX
      rw[gd,aF];rfl
  ·rintro σ H' ⟨v5,v6,rfl,hi,sm,sk,SU⟩
   refine⟨_,rfl,k H' an sm acF ?_⟩
   rw[SU,ltb,m_,T.dl,t8,TZ];rfl
def DV(CS CF CC CT:ag)(s:bR)(H:Hp)(x wl hl:ag):Prop:=(s=iF/\Aa CS H x .qA wl hl [] []/\wl≠hl)\/∃f0 ws a,s.told=some f0/\vf CS CF CC CT s f0 ws a H x wl hl
theorem Aa.Vo{CS:ag}{H H':Hp}{x wl hl:ag}{v:V}{ws d:List Nat}(h:Aa CS H x v wl hl ws d)(n:NE H H'):Aa CS H' x v wl hl ws d:=by
 obtain⟨⟨dx,e1⟩,e2,e3⟩:=h
 exact⟨⟨dx,n _ _ e1 (λ φ q=>by cases q)⟩,n _ _ e2 (λ φ q=>by cases q),n _ _ e3 (λ φ q=>by cases q)⟩
theorem DV.Vo{CS CF CC CT:ag}{s:bR}{H H':Hp}{x wl hl:ag}(h:DV CS CF CC CT s H x wl hl)(n:NE H H'):DV CS CF CC CT s H' x wl hl:=by
 rcases h with⟨h1,h2,h3⟩|⟨f0,ws,a,h1,h2⟩
 ·exact .inl ⟨h1,h2.Vo n,h3⟩
 ·exact .inr ⟨f0,ws,a,h1,h2.Vo n⟩
theorem Fr.none{H:Hp}{p:ag}(h:H p=none):Fr H p:=λ o e=>by rw[h]at e;cases e
def KN(CS CF CC CT:ag)(x wl hl:ag)(H:Hp)(Q:VK)(r:bR×List Int):Prop:=∀H' p Wb GC,DV CS CF CC CT r.1 H' x Wb GC->(Wb=wl\/Fr H Wb)->(GC=hl\/Fr H GC)->Ru x wl hl H H'->Fr H p->H' p=some (.lst (iL r.2))->Q (.ref p) H'
section
variable{CS CF CC CT:ag}{s:bR}{f0:ae}{ws:List Nat}{a:ag}{H:Hp}{x wl hl:ag}
theorem KN.pure{Q:VK}{r:bR×List Int}(k:KN CS CF CC CT x wl hl H Q r)(h:DV CS CF CC CT r.1 H x wl hl):z9 H Q (iL r.2):=λ H' p n fp hp=>k H' p wl hl (h.Vo n) (.inl rfl) (.inl rfl) (Ru.ne n) fp hp
theorem z9.ret{Q:VK}{xs:List V}(k:z9 H Q xs):GG H Q xs:=λ H' p sm hp hp'=>k H' p (NE.of_same sm) (Fr.none hp) hp'
theorem vf.T7(T:vf CS CF CC CT s f0 ws a H x wl hl){d:List Nat}(hd:d.length=s.done.length)(tu:∀n∈d,n<=20):vf CS CF CC CT { s with done:=d } f0 ws a (upd H hl (.lst (nX d))) x wl hl:=by
 obtain⟨⟨dx,e1⟩,e2,e3⟩:=T.se
 obtain⟨H0,h1,h2,h3,h4,h5,h6⟩:=T.fa
 have nx:x≠hl:=λ q=>by rw[q,e3]at e1;cases e1
 exact⟨⟨⟨dx,by rw[m4 nx];exact e1⟩,by rw[m4 T.ne];exact e2,mZ⟩,T.ne,⟨H0,h1,h2.put h5,h3,h4,h5,h6⟩,T.ok,T.nm,T.fe,T.lw,by show d.length=_;rw[hd];exact T.ld,tu,T.Ze⟩
theorem vf.but(T:vf CS CF CC CT s f0 ws a H x wl hl){o:HO}:Ru x wl hl H (upd H hl o):=λ b u e _ _ n _=>by rw[m4 n];exact e
end
def Zf(CS CF CC CT:ag)(ar:Nat)(g:bR->ae->List Int->List Int->bR×List Int):Sp:=λ vs H Q _=>∃(x wl hl nl rl a:ag) (s:bR) (f0:ae) (ws:List Nat) (ns zs:List Int),vs=[.ref x,.ref nl,.ref rl]/\s.told=some f0/\vf CS CF CC CT s f0 ws a H x wl hl/\H nl=some (.lst (iL ns))/\H rl=some (.lst (iL zs))/\ns.length=ar/\zs.length<=70/\KN CS CF CC CT x wl hl H Q (g s f0 ns zs)
def T8(s:bR)(f0:ae)(ns zs:List Int):bR×List Int:=eO s f0 (.vain (ns.getD 0 0) (ns.getD 1 0))
theorem RN{ns:List Int}(h:ns.length=2):(iL ns)[0]? =some (.int (ns.getD 0 0))/\(iL ns)[1]? =some (.int (ns.getD 1 0)):=by
 match ns,h with
 |[a,b],_=>exact⟨rfl,rfl⟩
theorem Yr(s:bR)(f0:ae)(ns zs:List Int):T8 s f0 ns zs=if(eR s (ns.getD 0 0) && bI (ns.getD 1 0) 0 20)=false then(s,[-1])else if 20<s.done.getD (ns.getD 0 0).toNat 0+(ns.getD 1 0).toNat then(s,[-3])else({ s with done:=s.done.set (ns.getD 0 0).toNat (s.done.getD (ns.getD 0 0).toNat 0+(ns.getD 1 0).toNat) },[0,((s.done.getD (ns.getD 0 0).toNat 0+(ns.getD 1 0).toNat:Nat):Int)]):=rfl
abbrev VC:List Str:=["search","numbers","row","cell","more"]
theorem Jo:m9 VC tq (m5 EA):=qh
theorem Jp(F:pI K "call_vain" "call_vain" EA f fd)(S:p6 K CS)(pH:aav P w K mg base CS)(nB:oF mg "MOST_EFFORTS" 20)(nH:oF mg "NOT_AS_TOLD" (-1))(pz:oF mg "TOO_MANY" (-3))(nF:oF mg "DONE" 0):nQ P w K mg base oG 2 f fd tq (Zf CS CF CC CT 2 T8):=by
 refine F.ok Jo (λ vs H Q E h=>?_) (λ oW A outer s H vs Q E hr h=>?_)
 ·obtain⟨x,wl,hl,nl,rl,a,s',f0,ws,ns,zs,rfl,_⟩:=h
  rfl
 ·obtain⟨x,wl,hl,nl,rl,a,s',f0,ws,ns,zs,rfl,told,T,hn,hz,ln,lz,k⟩:=h
  have nd:=Jo.nd
  have nL:=S.cl
  refine⟨_,(mX (m8 (i:=3) nd rfl (Or.inl rfl) (o_ og (pv 1) nO (λ _ _=>rfl)))
   (mX (m8 (i:=4) nd rfl (Or.inl rfl) (o_ og (pv 1) nO (λ _ _=>rfl)))
   (mX (pj (vh (PW.pt (Eg (tG (pQ (E:=E0) pH nL hr (by decide) nr (pv 0) (mW (pv 3) mY))) (AO (vk p9 p9 nO (pv 4) (nU nB)))))) (m6 (nj (nP (mW (nU nH) mY)))) nZ)
   (mX (pj (oq Bj (oj qV (o_ og (nq (pv 0) rfl) (pv 3) (λ _ _=>rfl)) (pv 4)) (nU nB) (oK _)) (m6 (nj (nP (mW (nU pz) mY)))) nZ)
   (mX (AQ (nq (pv 0) rfl) (pv 3) xJ (pv 4) zG set_list)
   (m6 (nj (nP (mW (nU nF) (mW (o_ og (nq (pv 0) rfl) (pv 3) (λ _ _=>rfl)) mY)))))))))),?_⟩
  obtain⟨dx,hx⟩:=T.se.1
  rw[Yr]at k
  obtain⟨h0,h1⟩:=RN ln
  generalize ns.getD 0 0=c at k h0
  generalize ns.getD 1 0=n at k h1
  have st:DV CS CF CC CT s' H x wl hl:=.inr ⟨f0,ws,a,told,T⟩
  refine⟨_,rfl,nl,_,_,_,rfl,rfl,nE.of hn,at_of (j:=0) rfl h0,_,rfl,nl,_,_,_,rfl,rfl,nE.of hn,at_of (j:=1) rfl h1,?_⟩
  refine⟨_,rfl,x,dx,_,rfl,hx,rfl,_,rfl,r9 (T.DO ⟨_,rfl,?_⟩)⟩
  cases hc:eR s' c with
  |false=>
   rw[hc,ij,if_pos rfl]at k
   exact rJ (tp ⟨(by show 1<=ay;decide),o9 (z9.ret (k.pure st)) (m7.refl _) rfl⟩)
  |true=>
   rw[hc,fE]at k
   refine tp (ue gc gv gc ⟨_,rfl,?_⟩)
   cases hi:bI n 0 20 with
   |false=>
    rw[hi,if_pos rfl]at k
    exact tp ⟨(by show 1<=ay;decide),o9 (z9.ret (k.pure st)) (m7.refl _) rfl⟩
   |true=>
    rw[hi,if_neg (by simp)]at k
    obtain⟨i1,i2⟩:=pq.mp hi
    obtain⟨j1,j2⟩:=pq.mp hc
    obtain⟨cn,rfl⟩:∃m:Nat,c=(m:Int):=⟨c.toNat,by omega⟩
    obtain⟨nn,rfl⟩:∃m:Nat,n=(m:Int):=⟨n.toNat,by omega⟩
    rw[show((cn:Int)).toNat=cn from rfl,show((nn:Int)).toNat=nn from rfl]at k
    have Ec:cn<s'.done.length:=by rw[T.dl];omega
    have gd:=getD_at Ec
    have DE:=T.se.2.2
    refine rJ ⟨_,rfl,x,CS,dx,_,_,rfl,hx,S.cl,S.n3,rfl,_,rfl,hl,_,_,_,rfl,rfl,nE.of DE,ot (oU gd),_,rfl,_,_,rfl,rfl,_,_,rfl,rfl,_,rfl,p_ (λ hq=>?_) λ hq=>?_⟩
    ·have hq:=of_decide_eq_true hq
     rw[if_pos (by omega)]at k
     exact⟨(by show 1<=ay;decide),o9 (z9.ret (k.pure st)) (m7.refl _) rfl⟩
    ·have hq:¬ (20:Int)<((s'.done.getD cn 0:Nat):Int)+(nn:Int):=λ q=>hq (decide_eq_true q)
     rw[if_neg (by omega)]at k
     have T2:=T.T7 (d:=s'.done.set cn (s'.done.getD cn 0+nn)) (by rw[fJ]) λ m hm=>by
      rcases gm hm with q|q
      ·exact T.tu m q
      ·omega
     refine⟨_,rfl,x,CS,dx,_,_,rfl,hx,S.cl,S.n3,rfl,_,rfl,hl,_,cn,_,rfl,rfl,nE.of DE,oU gd,_,rfl,_,_,rfl,rfl,hl,_,_,cn,rfl,rfl,DE,yp (by rw[m_];exact Ec),?_⟩
     have e2:(nX s'.done).set cn (V.int (((s'.done.getD cn 0:Nat):Int)+(nn:Int)))=nX (s'.done.set cn (s'.done.getD cn 0+nn)):=by unfold nX;rw[fS];rfl
     generalize JM:upd H hl (.lst ((nX s'.done).set cn (V.int (((s'.done.getD cn 0:Nat):Int)+(nn:Int)))))=H2
     rw[e2]at JM
     obtain⟨⟨Xd,C7⟩,hw2,hh2⟩:=(JM ▸ T2.se:Aa CS H2 x (.ref a) wl hl ws (s'.done.set cn (s'.done.getD cn 0+nn)))
     have gd2:(s'.done.set cn (s'.done.getD cn 0+nn))[cn]? =some (s'.done.getD cn 0+nn):=cO Ec
     refine⟨_,rfl,x,CS,Xd,_,_,rfl,C7,S.cl,S.n3,rfl,_,rfl,hl,_,_,_,rfl,rfl,nE.of hh2,ot (oU gd2),(by show 2<=ay;decide),λ p hp=>?_⟩
     rw[JM]at T2
     have b3:Ru x wl hl H H2:=JM ▸ T.but
     have n3:NE H2 (upd H2 p (.lst [V.int 0,V.int ((s'.done.getD cn 0+nn:Nat):Int)])):=NE.of_same (m7.new hp)
     refine k _ p wl hl (.inr ⟨f0,ws,a,told,T2.Vo n3⟩) (.inl rfl) (.inl rfl) (λ b o e n1 n2 n4 z=>n3 _ _ (b3 b o e n1 n2 n4 z) z) (λ o e=>?_) mZ
     have np:p≠hl:=λ q=>by rw[q,hh2]at hp;cases hp
     rw[<-JM,m4 np,e]at hp
     cases hp
def T9(s:bR)(f0:ae)(ns zs:List Int):bR×List Int:=eO s f0 (.back (ns.getD 0 0) (ns.getD 1 0))
theorem Ys(s:bR)(f0:ae)(ns zs:List Int):T9 s f0 ns zs=if(eR s (ns.getD 0 0) && bI (ns.getD 1 0) 0 20)=false then(s,[-1])else if s.done.getD (ns.getD 0 0).toNat 0<(ns.getD 1 0).toNat then(s,[-3])else({ s with done:=s.done.set (ns.getD 0 0).toNat (s.done.getD (ns.getD 0 0).toNat 0-(ns.getD 1 0).toNat) },[0,((s.done.getD (ns.getD 0 0).toNat 0-(ns.getD 1 0).toNat:Nat):Int)]):=rfl
abbrev VD:List Str:=["search","numbers","row","cell","fewer"]
theorem Jq:m9 VD tq (m5 EB):=qh
theorem Jr(F:pI K "call_back" "call_back" EB f fd)(S:p6 K CS)(pH:aav P w K mg base CS)(nB:oF mg "MOST_EFFORTS" 20)(nH:oF mg "NOT_AS_TOLD" (-1))(pz:oF mg "TOO_MANY" (-3))(nF:oF mg "DONE" 0):nQ P w K mg base oG 2 f fd tq (Zf CS CF CC CT 2 T9):=by
 refine F.ok Jq (λ vs H Q E h=>?_) (λ oW A outer s H vs Q E hr h=>?_)
 ·obtain⟨x,wl,hl,nl,rl,a,s',f0,ws,ns,zs,rfl,_⟩:=h
  rfl
 ·obtain⟨x,wl,hl,nl,rl,a,s',f0,ws,ns,zs,rfl,told,T,hn,hz,ln,lz,k⟩:=h
  have nd:=Jq.nd
  have nL:=S.cl
  refine⟨_,(mX (m8 (i:=3) nd rfl (Or.inl rfl) (o_ og (pv 1) nO (λ _ _=>rfl)))
   (mX (m8 (i:=4) nd rfl (Or.inl rfl) (o_ og (pv 1) nO (λ _ _=>rfl)))
   (mX (pj (vh (PW.pt (Eg (tG (pQ (E:=E0) pH nL hr (by decide) nr (pv 0) (mW (pv 3) mY))) (AO (vk p9 p9 nO (pv 4) (nU nB)))))) (m6 (nj (nP (mW (nU nH) mY)))) nZ)
   (mX (pj (oq G_ (o_ og (nq (pv 0) rfl) (pv 3) (λ _ _=>rfl)) (pv 4) (oK _)) (m6 (nj (nP (mW (nU pz) mY)))) nZ)
   (mX (AQ (nq (pv 0) rfl) (pv 3) xJ (pv 4) P_ set_list)
   (m6 (nj (nP (mW (nU nF) (mW (o_ og (nq (pv 0) rfl) (pv 3) (λ _ _=>rfl)) mY)))))))))),?_⟩
  obtain⟨dx,hx⟩:=T.se.1
  rw[Ys]at k
  obtain⟨h0,h1⟩:=RN ln
  generalize ns.getD 0 0=c at k h0
  generalize ns.getD 1 0=n at k h1
  have st:DV CS CF CC CT s' H x wl hl:=.inr ⟨f0,ws,a,told,T⟩
  refine⟨_,rfl,nl,_,_,_,rfl,rfl,nE.of hn,at_of (j:=0) rfl h0,_,rfl,nl,_,_,_,rfl,rfl,nE.of hn,at_of (j:=1) rfl h1,?_⟩
  refine⟨_,rfl,x,dx,_,rfl,hx,rfl,_,rfl,r9 (T.DO ⟨_,rfl,?_⟩)⟩
  cases hc:eR s' c with
  |false=>
   rw[hc,ij,if_pos rfl]at k
   exact rJ (tp ⟨(by show 1<=ay;decide),o9 (z9.ret (k.pure st)) (m7.refl _) rfl⟩)
  |true=>
   rw[hc,fE]at k
   refine tp (ue gc gv gc ⟨_,rfl,?_⟩)
   cases hi:bI n 0 20 with
   |false=>
    rw[hi,if_pos rfl]at k
    exact tp ⟨(by show 1<=ay;decide),o9 (z9.ret (k.pure st)) (m7.refl _) rfl⟩
   |true=>
    rw[hi,if_neg (by simp)]at k
    obtain⟨i1,i2⟩:=pq.mp hi
    obtain⟨j1,j2⟩:=pq.mp hc
    obtain⟨cn,rfl⟩:∃m:Nat,c=(m:Int):=⟨c.toNat,by omega⟩
    obtain⟨nn,rfl⟩:∃m:Nat,n=(m:Int):=⟨n.toNat,by omega⟩
    rw[show((cn:Int)).toNat=cn from rfl,show((nn:Int)).toNat=nn from rfl]at k
    have Ec:cn<s'.done.length:=by rw[T.dl];omega
    have gd:=getD_at Ec
    have DE:=T.se.2.2
    have g20:=T.tu _ (aC gd)
    refine rJ ⟨_,rfl,x,CS,dx,_,_,rfl,hx,S.cl,S.n3,rfl,_,rfl,hl,_,_,_,rfl,rfl,nE.of DE,ot (oU gd),_,rfl,_,_,rfl,rfl,_,rfl,p_ (λ hq=>?_) λ hq=>?_⟩
    ·have hq:=of_decide_eq_true hq
     rw[if_pos (by omega)]at k
     exact⟨(by show 1<=ay;decide),o9 (z9.ret (k.pure st)) (m7.refl _) rfl⟩
    ·have hq:¬ ((s'.done.getD cn 0:Nat):Int)<(nn:Int):=λ q=>hq (decide_eq_true q)
     rw[if_neg (by omega)]at k
     have T2:=T.T7 (d:=s'.done.set cn (s'.done.getD cn 0-nn)) (by rw[fJ]) λ m hm=>by
      rcases gm hm with q|q
      ·exact T.tu m q
      ·omega
     refine⟨_,rfl,x,CS,dx,_,_,rfl,hx,S.cl,S.n3,rfl,_,rfl,hl,_,cn,_,rfl,rfl,nE.of DE,oU gd,_,rfl,Mq (z:=((s'.done.getD cn 0-nn:Nat):Int)) (by omega) ⟨hl,_,_,cn,rfl,rfl,DE,yp (by rw[m_];exact Ec),?_⟩⟩
     have e2:(nX s'.done).set cn (V.int ((s'.done.getD cn 0-nn:Nat):Int))=nX (s'.done.set cn (s'.done.getD cn 0-nn)):=by unfold nX;rw[fS]
     generalize JM:upd H hl (.lst ((nX s'.done).set cn (V.int ((s'.done.getD cn 0-nn:Nat):Int))))=H2
     rw[e2]at JM
     obtain⟨⟨Xd,C7⟩,hw2,hh2⟩:=(JM ▸ T2.se:Aa CS H2 x (.ref a) wl hl ws (s'.done.set cn (s'.done.getD cn 0-nn)))
     have gd2:(s'.done.set cn (s'.done.getD cn 0-nn))[cn]? =some (s'.done.getD cn 0-nn):=cO Ec
     refine⟨_,rfl,x,CS,Xd,_,_,rfl,C7,S.cl,S.n3,rfl,_,rfl,hl,_,_,_,rfl,rfl,nE.of hh2,ot (oU gd2),(by show 2<=ay;decide),λ p hp=>?_⟩
     rw[JM]at T2
     have b3:Ru x wl hl H H2:=JM ▸ T.but
     have n3:NE H2 (upd H2 p (.lst [V.int 0,V.int ((s'.done.getD cn 0-nn:Nat):Int)])):=NE.of_same (m7.new hp)
     refine k _ p wl hl (.inr ⟨f0,ws,a,told,T2.Vo n3⟩) (.inl rfl) (.inl rfl) (λ b o e n1 n2 n4 z=>n3 _ _ (b3 b o e n1 n2 n4 z) z) (λ o e=>?_) mZ
     have np:p≠hl:=λ q=>by rw[q,hh2]at hp;cases hp
     rw[<-JM,m4 np,e]at hp
     cases hp
def MN(CS CF CC CT:ag):Sp:=λ vs H Q _=>∃(x wl hl nl rl:ag) (s:bR),vs=[.ref x,.ref nl,.ref rl]/\DV CS CF CC CT s H x wl hl/\KN CS CF CC CT x wl hl H Q (iF,[0])
abbrev RO:List Str:=tq
theorem Gv:m9 RO tq (m5 Cb):=qh
theorem Gw(F:pI K "call_clear" "call_clear" Cb f fd)(S:p6 K CS)(DW:um P w K mg base oG 1 CS "forget" ["self"] (OF CS))(nF:oF mg "DONE" 0):nQ P w K mg base oG 2 f fd tq (MN CS CF CC CT):=by
 refine F.ok Gv (λ vs H Q E h=>?_) (λ oW A outer s H vs Q E hr h=>?_)
 ·obtain⟨x,wl,hl,nl,rl,s',rfl,_⟩:=h
  rfl
 ·obtain⟨x,wl,hl,nl,rl,s',rfl,st,k⟩:=h
  have nd:=Gv.nd
  have nL:=S.cl
  refine⟨_,(mX (n_ (oV (E:=E0) DW nL hr (by decide) nr (pv 0)))
   (m6 (nj (nP (mW (nU nF) mY))))),?_⟩
  have hx:∃dx v1 v2 v3,H x=some (.ins CS dx (JZ.zip [v1,v2,v3])):=by
   rcases st with⟨_,⟨⟨dx,e⟩,_⟩,_⟩|⟨f0,ws,a,_,T⟩
   ·exact⟨dx,_,_,_,e⟩
   ·obtain⟨dx,e⟩:=T.se.1
    exact⟨dx,_,_,_,e⟩
  obtain⟨dx,v1,v2,v3,hx⟩:=hx
  refine⟨_,rfl,x,dx,_,rfl,hx,rfl,x,dx,v1,v2,v3,rfl,hx,λ H2 Wb GC b2 hw hh ne se=>?_⟩
  refine⟨(by show 1<=ay;decide),λ p hp=>?_⟩
  have n3:NE H2 (upd H2 p (.lst [V.int 0])):=NE.of_same (m7.new hp)
  have hp0:∀o,H p=some o->∃φ,o= .ext φ:=λ o e=>by
   apply Classical.byContradiction
   intro z
   have nx:p≠x:=λ q=>by
    obtain⟨⟨d2,e2⟩,_⟩:=se
    rw[q,e2]at hp;cases hp
   have:=b2 p o e nx λ φ q=>z ⟨φ,q⟩
   rw[this]at hp;cases hp
  exact k _ p Wb GC (.inl ⟨rfl,se.Vo n3,ne⟩) (.inr (Fr.none hw)) (.inr (Fr.none hh)) (λ b o e n1 _ _ z=>n3 _ _ (b2 b o e n1 z) z) hp0 mZ
end oh
namespace L2
open Sem (wp)
theorem nz{a b:Nat}(h:a<b\/b<a):a≠b:=by omega
abbrev G5(h:bz)(T:ag)(a b c:ao):Prop:=h.get? T=some { cls:=.type "tuple",data:=.seq #[a,b,c] }
section
variable{prog:aJ}{w:aY}{A:bU}{E:ao->au->Prop}{s:au}
theorem MO{T:ag}{a b c x:ao}{k:Nat}{Q:Unit->au->Prop}(hT:G5 s.heap T a b c)
  (h:∀h',h'.get? T=some { cls:=.type "tuple",data:=.seq ((#[a,b,c]:Array ao).setIfInBounds k x) }->Heap.SameBut T s.heap h'->Q () { s with heap:=h' }):
  aV (aS prog w) A (updateSeq T (·.setIfInBounds k x)) Q E s:=by
 refine wpAny_updateSeq hT rfl (h _ ?_ (Heap.SameBut.update ..))
 rw[Heap.get?_update_self _ hT rfl]
 simp[Obj.mapSeq]
theorem acG{n l1 l2 l3 k:Nat}{xs ys us:Array ao}{x y u a b c:ao}{Q:ao->au->Prop}(g1:l1<n)(g2:l2<n)(g3:l3<n)
  (Z0:gN s.heap (n+5) (n+3) (n+4) .none)(I0:G5 s.heap (n+3) (.ref n) (.ref (n+1)) (.ref (n+2)))(O0:G5 s.heap (n+4) a b c)
  (w1:s.heap.IsListIter n l1 k)(w2:s.heap.IsListIter (n+1) l2 k)(w3:s.heap.IsListIter (n+2) l3 k)(v1:s.heap.IsList l1 xs)(v2:s.heap.IsList l2 ys)(v3:s.heap.IsList l3 us)(e1:xs[k]? =some x)(e2:ys[k]? =some y)(e3:us[k]? =some u)
  (hQ:∀h',gN h' (n+5) (n+3) (n+4) (dM s.heap.objs.size)->G5 h' (n+4) x y u->h'.IsListIter n l1 (k+1)->h'.IsListIter (n+1) l2 (k+1)->h'.IsListIter (n+2) l3 (k+1)->G5 h' s.heap.objs.size x y u->
   (∀c o,c≠n+5->c≠n+4->c≠n->c≠n+1->c≠n+2->s.heap.get? c=some o->h'.get? c=some o)->Q (.ref s.heap.objs.size) { s with heap:=h' }):
  aV (aS prog w) A (jf.«zip.__next__» ⟨[.ref (n+5)],[]⟩) (λ fin s'=>∃v,fin= .done (.ret v)/\Q v s') E s:=by
 show aV _ _ (field (.ref (n+5)) 2 >>= _) _ _ _
 refine aq (cN Z0 rfl (x:=.bool false) rfl ?_)
 show aV _ _ (field (.ref (n+5)) 3 >>= _) _ _ _
 refine aq (cN Z0 rfl (x:=.ref (n+3)) rfl (aq (fA I0 rfl ?_)))
 show aV _ _ (Builtin.SmallTypes.ownedTupleIsFree (.ref (n+5)) >>= _) _ _ _
 refine aq ?_
 unfold Builtin.SmallTypes.ownedTupleIsFree
 refine aq (cN Z0 rfl (x:=.none) rfl (aM ?_))
 simp only[if_true]
 refine aq (wpAny_rule (aq (cN Z0 rfl (x:=.ref (n+4)) rfl ?_)))
 refine aq (e_ Z0 (by simp) λ h1 Z1 b1=>?_)
 replace Z1:gN h1 (n+5) (n+3) (n+4) .ellipsis:=Z1
 have B1:=b1.extBut
 refine aq ?_
 simp only[d8,lD,jg,ig]
 refine aq (aq (i_ ?_))
 show aV _ _ (Builtin.SmallTypes.nextOf (.ref n) >>= _) _ _ _
 refine aq (iq (w1.extBut B1 (nz (by omega))) (v1.extBut B1 (nz (by omega))) e1 λ h2 r1 b2=>aM ?_)
 have B2:=b2.extBut
 have O2:G5 h2 (n+4) a b c:=B2 _ _ (nz (by omega)) (B1 _ _ (nz (by omega)) O0)
 refine aq (fA O2 rfl (aq (MO O2 λ h3 O3 b3=>?_)))
 replace O3:G5 h3 (n+4) x b c:=O3
 have B3:=b3.extBut
 refine aq (jF (aM ?_))
 refine aq (aq (i_ ?_))
 show aV _ _ (Builtin.SmallTypes.nextOf (.ref (n+1)) >>= _) _ _ _
 refine aq (iq (((w2.extBut B1 (nz (by omega))).extBut B2 (nz (by omega))).extBut B3 (nz (by omega))) (((v2.extBut B1 (nz (by omega))).extBut B2 (nz (by omega))).extBut B3 (nz (by omega))) e2 λ h4 r2 b4=>aM ?_)
 have B4:=b4.extBut
 have O4:G5 h4 (n+4) x b c:=B4 _ _ (nz (by omega)) O3
 refine aq (fA O4 rfl (aq (MO O4 λ h5 O5 b5=>?_)))
 replace O5:G5 h5 (n+4) x y c:=O5
 have B5:=b5.extBut
 refine aq (jF (aM ?_))
 refine aq (aq (i_ ?_))
 show aV _ _ (Builtin.SmallTypes.nextOf (.ref (n+2)) >>= _) _ _ _
 refine aq (iq (((((w3.extBut B1 (nz (by omega))).extBut B2 (nz (by omega))).extBut B3 (nz (by omega))).extBut B4 (nz (by omega))).extBut B5 (nz (by omega))) (((((v3.extBut B1 (nz (by omega))).extBut B2 (nz (by omega))).extBut B3 (nz (by omega))).extBut B4 (nz (by omega))).extBut B5 (nz (by omega))) e3 λ h6 r3 b6=>aM ?_)
 have B6:=b6.extBut
 have O6:G5 h6 (n+4) x y c:=B6 _ _ (nz (by omega)) O5
 refine aq (fA O6 rfl (aq (MO O6 λ h7 O7 b7=>?_)))
 replace O7:G5 h7 (n+4) x y u:=O7
 have B7:=b7.extBut
 refine aq (jF (aM (aM ?_)))
 refine aq (fA O7 rfl (aq (wpAny_newTuple ?_)))
 have sz:h7.objs.size=s.heap.objs.size:=by rw[b7.1,b6.1,b5.1,b4.1,b3.1,b2.1,b1.1]
 have Z7:gN h7 (n+5) (n+3) (n+4) .ellipsis:=B7 _ _ (nz (by omega)) (B6 _ _ (nz (by omega)) (B5 _ _ (nz (by omega)) (B4 _ _ (nz (by omega)) (B3 _ _ (nz (by omega)) (B2 _ _ (nz (by omega)) Z1)))))
 have kp:∀c o,c≠n+5->c≠n+4->c≠n->c≠n+1->c≠n+2->s.heap.get? c=some o->h7.get? c=some o:=λ c o c1 c2 c3 c4 c5 e=>
  B7 _ _ c2 (B6 _ _ c5 (B5 _ _ c2 (B4 _ _ c4 (B3 _ _ c2 (B2 _ _ c3 (B1 _ _ c1 e))))))
 have r1':h7.IsListIter n l1 (k+1):=((((r1.extBut B3 (nz (by omega))).extBut B4 (nz (by omega))).extBut B5 (nz (by omega))).extBut B6 (nz (by omega))).extBut B7 (nz (by omega))
 have r2':h7.IsListIter (n+1) l2 (k+1):=((r2.extBut B5 (nz (by omega))).extBut B6 (nz (by omega))).extBut B7 (nz (by omega))
 have r3':h7.IsListIter (n+2) l3 (k+1):=r3.extBut B7 (nz (by omega))
 have zl:n+5<h7.objs.size:=Heap.lt_size Z7
 show aV _ _ (Builtin.SmallTypes.ownedTupleHandOut (.ref (n+5)) (.ref h7.objs.size) >>= _) _ _ _
 refine aq ?_
 unfold Builtin.SmallTypes.ownedTupleHandOut
 have Z8:gN (h7.push { cls:=.type "tuple",data:=.seq #[x,y,u] }) (n+5) (n+3) (n+4) .ellipsis:=Heap.get?_push_of_some _ Z7
 refine aq (e_ Z8 (by simp) λ h9 Z9 b9=>?_)
 replace Z9:gN h9 (n+5) (n+3) (n+4) (dM h7.objs.size):=Z9
 refine e_ Z9 (by simp) λ h10 Z10 b10=>?_
 replace Z10:gN h10 (n+5) (n+3) (n+4) (dM h7.objs.size):=Z10
 have up:∀c o,c≠n+5->h7.get? c=some o->h10.get? c=some o:=λ c o c1 e=>b10.extBut _ _ c1 (b9.extBut _ _ c1 (Heap.get?_push_of_some _ e))
 have T10:G5 h10 h7.objs.size x y u:=b10.extBut _ _ (nz (by omega)) (b9.extBut _ _ (nz (by omega)) (Heap.get?_push_size _ rfl))
 rw[sz]at Z10 T10
 refine aM ⟨_,rfl,?_⟩
 show Q (.ref h7.objs.size) _
 rw[sz]
 exact hQ h10 Z10 (up _ _ (nz (by omega)) O7) (r1'.at λ o e=>up _ o (nz (by omega)) e) (r2'.at λ o e=>up _ o (nz (by omega)) e) (r3'.at λ o e=>up _ o (nz (by omega)) e) T10 λ c o c1 c2 c3 c4 c5 e=>up c o c1 (kp c o c1 c2 c3 c4 c5 e)
theorem adY{n l1 k:Nat}{xs:Array ao}{a b c:ao}{Q:Fin->au->Prop}(hh:A.handled=none)(g1:l1<n)
  (Z0:gN s.heap (n+5) (n+3) (n+4) .none)(I0:G5 s.heap (n+3) (.ref n) (.ref (n+1)) (.ref (n+2)))(O0:G5 s.heap (n+4) a b c)
  (w1:s.heap.IsListIter n l1 k)(v1:s.heap.IsList l1 xs)(e1:xs[k]? =none)
  (hE:∀h' e,(∀c o,c≠n+5->c≠n->s.heap.get? c=some o->h'.get? c=some o)->(∃o,h'.get? e=some o/\o.cls= .type "StopIteration")->E (.ref e) { s with heap:=h' }):
  aV (aS prog w) A (jf.«zip.__next__» ⟨[.ref (n+5)],[]⟩) Q E s:=by
 show aV _ _ (field (.ref (n+5)) 2 >>= _) _ _ _
 refine aq (cN Z0 rfl (x:=.bool false) rfl ?_)
 show aV _ _ (field (.ref (n+5)) 3 >>= _) _ _ _
 refine aq (cN Z0 rfl (x:=.ref (n+3)) rfl (aq (fA I0 rfl ?_)))
 show aV _ _ (Builtin.SmallTypes.ownedTupleIsFree (.ref (n+5)) >>= _) _ _ _
 refine aq ?_
 unfold Builtin.SmallTypes.ownedTupleIsFree
 refine aq (cN Z0 rfl (x:=.none) rfl (aM ?_))
 simp only[if_true]
 refine aq (wpAny_rule (aq (cN Z0 rfl (x:=.ref (n+4)) rfl ?_)))
 refine aq (e_ Z0 (by simp) λ h1 Z1 b1=>?_)
 replace Z1:gN h1 (n+5) (n+3) (n+4) .ellipsis:=Z1
 have B1:=b1.extBut
 refine aq ?_
 simp only[d8,lD,jg,ig]
 refine aq (aq (i_ ?_))
 show aV _ _ (Builtin.SmallTypes.nextOf (.ref n) >>= _) _ _ _
 refine aq (wpAny_nextOf_list_end hh (w1.extBut B1 (nz (by omega))) (v1.extBut B1 (nz (by omega))) e1 λ h2 e B2 he=>?_)
 obtain⟨oe,hoe,hce⟩:=he
 have Z2:gN h2 (n+5) (n+3) (n+4) .ellipsis:=B2 _ _ (nz (by omega)) Z1
 have ne:e≠n+5:=λ q=>by subst q;rw[Z2]at hoe;cases hoe;simp at hce
 exact e_ Z2 (by simp) λ h3 _ b3=>hE h3 e (λ c o c1 c3 q=>b3.extBut _ _ c1 (B2 _ _ c3 (B1 _ _ c1 q))) ⟨oe,b3.extBut _ _ ne hoe,hce⟩
theorem Yt{n l1 l2 l3 k:Nat}{xs ys us:Array ao}{x y u a b c:ao}{Q:Option ao->au->Prop}(g1:l1<n)(g2:l2<n)(g3:l3<n)
  (Z0:gN s.heap (n+5) (n+3) (n+4) .none)(I0:G5 s.heap (n+3) (.ref n) (.ref (n+1)) (.ref (n+2)))(O0:G5 s.heap (n+4) a b c)
  (w1:s.heap.IsListIter n l1 k)(w2:s.heap.IsListIter (n+1) l2 k)(w3:s.heap.IsListIter (n+2) l3 k)(v1:s.heap.IsList l1 xs)(v2:s.heap.IsList l2 ys)(v3:s.heap.IsList l3 us)(e1:xs[k]? =some x)(e2:ys[k]? =some y)(e3:us[k]? =some u)
  (hQ:∀h',gN h' (n+5) (n+3) (n+4) (dM s.heap.objs.size)->G5 h' (n+4) x y u->h'.IsListIter n l1 (k+1)->h'.IsListIter (n+1) l2 (k+1)->h'.IsListIter (n+2) l3 (k+1)->G5 h' s.heap.objs.size x y u->
   (∀c o,c≠n+5->c≠n+4->c≠n->c≠n+1->c≠n+2->s.heap.get? c=some o->h'.get? c=some o)->Q (some (.ref s.heap.objs.size)) { s with heap:=h' }):
  aV (aS prog w) A (jU (.ref (n+5))) Q E s:=by
 have ty:s.TypeIs (.ref (n+5)) "zip":=⟨_,Z0,rfl⟩
 unfold jU
 exact aq (kh (ku (name:=Str.ofString "__next__") ty F.slot_zip_next (mq F.slot_zip_next ty F.entry_zip_next
  (acG g1 g2 g3 Z0 I0 O0 w1 w2 w3 v1 v2 v3 e1 e2 e3 λ h' a1 a2 a3 a4 a5 a6 a7=>aM (hQ h' a1 a2 a3 a4 a5 a6 a7)) (F.args_zip_next_1 _))))
theorem aay{n l1 k:Nat}{xs:Array ao}{a b c:ao}{Q:Option ao->au->Prop}(hh:A.handled=none)(g1:l1<n)
  (Z0:gN s.heap (n+5) (n+3) (n+4) .none)(I0:G5 s.heap (n+3) (.ref n) (.ref (n+1)) (.ref (n+2)))(O0:G5 s.heap (n+4) a b c)
  (w1:s.heap.IsListIter n l1 k)(v1:s.heap.IsList l1 xs)(e1:xs[k]? =none)
  (hQ:∀h',(∀c o,c≠n+5->c≠n->s.heap.get? c=some o->h'.get? c=some o)->Q none { s with heap:=h' }):aV (aS prog w) A (jU (.ref (n+5))) Q E s:=by
 have ty:s.TypeIs (.ref (n+5)) "zip":=⟨_,Z0,rfl⟩
 unfold jU
 refine aq (kh (ku (name:=Str.ofString "__next__") ty F.slot_zip_next (mq F.slot_zip_next ty F.entry_zip_next (adY hh g1 Z0 I0 O0 w1 v1 e1 λ h' e hk he=>?_) (F.args_zip_next_1 _))))
 obtain⟨o,ho,hc⟩:=he
 exact aq (wpAny_isInstance (T:="StopIteration") (b:=true) ⟨o,ho,hc⟩ isSubtype_stop (aM (hQ _ hk)))
end
theorem aaz(a b c:ao):checkTypeCall "zip" ⟨[a,b,c],[]⟩=pure ():=by kernel_rfl
theorem aaA(a b c:ao):checkBuiltinCall "zip.__new__" ⟨[.type "zip",a,b,c],[]⟩=pure ():=by kernel_rfl
theorem aaB(a b c d:ao):argsOk "object.__init__" ⟨[a,b,c,d],[]⟩:=by
 unfold argsOk;rw[signature?_of (id:="object.__init__") (n:=['_','_','t','i','n','i','_','_']) (o:=['t','c','e','j','b','o']) (by kernel_rfl) F.owner_object];kernel_rfl
def RP(l:ag):Obj:={ cls:=.type "list_iterator",data:=.fields #[.ref l,.int 0 0] }
def z3a(h:bz)(l1 l2 l3:ag):bz:=((h.push (RP l1)).push (RP l2)).push (RP l3)
def z3b(h:bz)(l1 l2 l3:ag):bz:=(z3a h l1 l2 l3).push { cls:=.type "tuple",data:=.seq #[.ref h.objs.size,.ref (h.push (RP l1)).objs.size,.ref ((h.push (RP l1)).push (RP l2)).objs.size] }
def z3c(h:bz)(l1 l2 l3:ag):bz:=(z3b h l1 l2 l3).push { cls:=.type "tuple",data:=.seq #[.none,.none,.none] }
def z3d(h:bz)(l1 l2 l3:ag):bz:=(z3c h l1 l2 l3).push { cls:=.type "zip",data:=.fields #[.none,.bool false,.bool false,.ref (z3a h l1 l2 l3).objs.size,.ref (z3b h l1 l2 l3).objs.size] }
theorem adZ(l1 l2 l3:ag)(xs ys us:Array ao):
  Meets (jf.«zip.__new__» ⟨[.type "zip",.ref l1,.ref l2,.ref l3],[]⟩) (λ _ R s=>s.heap.IsList l1 xs/\s.heap.IsList l2 ys/\s.heap.IsList l3 us/\
   R (.ok (.ret (.ref (z3c s.heap l1 l2 l3).objs.size))) { s with heap:=z3d s.heap l1 l2 l3 }):=
 .of_wp λ prog w A R s h=>by
  obtain⟨hp,g,d,tk,os⟩:=s;obtain⟨J6,Nl,hl3,h⟩:=h
  have afp:=sub_zip
  have q1:Heap.IsList (Shared.heap ⟨hp,g,d,tk,os⟩) l1 xs:=J6
  have q2:Heap.IsList (Shared.heap ⟨hp.push { cls:=.type "list_iterator",data:=.fields #[.ref l1,.int 0 0] },g,d,tk,os⟩) l2 ys:=Heap.IsList.push Nl _
  have q3:Heap.IsList (Shared.heap ⟨(hp.push { cls:=.type "list_iterator",data:=.fields #[.ref l1,.int 0 0] }).push { cls:=.type "list_iterator",data:=.fields #[.ref l2,.int 0 0] },g,d,tk,os⟩) l3 us:=Heap.IsList.push (Heap.IsList.push hl3 _) _
  wp_walk using fB q1,fB q2,fB q3
  exact⟨_,rfl,h⟩
end L2
namespace L2
section
variable{prog:aJ}{w:aY}{A:bU}{E:ao->au->Prop}{s:au}
theorem acH{l1 l2 l3:ag}{xs ys us:Array ao}{Q:ao->au->Prop}(v1:s.heap.IsList l1 xs)(v2:s.heap.IsList l2 ys)(v3:s.heap.IsList l3 us)
  (h:∀h',gN h' (s.heap.objs.size+5) (s.heap.objs.size+3) (s.heap.objs.size+4) .none->G5 h' (s.heap.objs.size+3) (.ref s.heap.objs.size) (.ref (s.heap.objs.size+1)) (.ref (s.heap.objs.size+2))->
   G5 h' (s.heap.objs.size+4) .none .none .none->h'.IsListIter s.heap.objs.size l1 0->h'.IsListIter (s.heap.objs.size+1) l2 0->h'.IsListIter (s.heap.objs.size+2) l3 0->
   (∀c o,s.heap.get? c=some o->h'.get? c=some o)->Q (.ref (s.heap.objs.size+5)) { s with heap:=h' }):
  aV (aS prog w) A (call (.type "zip") [.ref l1,.ref l2,.ref l3]) Q E s:=by
 refine callType_new F.called_zip (by decide) (aaz _ _ _) (aaA _ _ _) (λ obj=>aaB obj _ _ _) F.entry_zip_new (adZ l1 l2 l3 xs ys us) ⟨v1,v2,v3,?_⟩
 have p:∀(h:bz) (o:Obj),(h.push o).objs.size=h.objs.size+1:=λ h o=>Heap.size_push ..
 have a1:(s.heap.push (RP l1)).objs.size=s.heap.objs.size+1:=p _ _
 have a2:((s.heap.push (RP l1)).push (RP l2)).objs.size=s.heap.objs.size+2:=by rw[p,p]
 have a3:(z3a s.heap l1 l2 l3).objs.size=s.heap.objs.size+3:=by unfold z3a;rw[p,p,p]
 have a4:(z3b s.heap l1 l2 l3).objs.size=s.heap.objs.size+4:=by unfold z3b;rw[p,a3]
 have a5:(z3c s.heap l1 l2 l3).objs.size=s.heap.objs.size+5:=by unfold z3c;rw[p,a4]
 have up:∀{h:bz} {c:ag} {o:Obj} (x:Obj),h.get? c=some o->(h.push x).get? c=some o:=λ x e=>Heap.get?_push_of_some _ e
 have q6:(z3d s.heap l1 l2 l3).get? (z3c s.heap l1 l2 l3).objs.size=some _:=Heap.get?_push_size _ rfl
 have q5:(z3d s.heap l1 l2 l3).get? (z3b s.heap l1 l2 l3).objs.size=some _:=up _ (Heap.get?_push_size _ rfl)
 have q4:(z3d s.heap l1 l2 l3).get? (z3a s.heap l1 l2 l3).objs.size=some _:=up _ (up _ (Heap.get?_push_size _ rfl))
 have q3:(z3d s.heap l1 l2 l3).get? ((s.heap.push (RP l1)).push (RP l2)).objs.size=some (RP l3):=up _ (up _ (up _ (Heap.get?_push_size _ rfl)))
 have q2:(z3d s.heap l1 l2 l3).get? (s.heap.push (RP l1)).objs.size=some (RP l2):=up _ (up _ (up _ (up _ (Heap.get?_push_size _ rfl))))
 have q1:(z3d s.heap l1 l2 l3).get? s.heap.objs.size=some (RP l1):=up _ (up _ (up _ (up _ (up _ (Heap.get?_push_size _ rfl)))))
 rw[a3,a4,a5]at q6
 rw[a1,a2,a3]at q4
 rw[a4]at q5
 rw[a2]at q3
 rw[a1]at q2
 show _/\_
 rw[a5]
 exact⟨⟨_,q6,rfl⟩,h _ q6 q4 q5 ⟨_,q1,rfl,rfl⟩ ⟨_,q2,rfl,rfl⟩ ⟨_,q3,rfl,rfl⟩ λ c o e=>up _ (up _ (up _ (up _ (up _ (up _ e)))))⟩
end
def It3(K:ah)(a b c:ag):It:=
 ⟨λ i H=>∃(xs ys us:List V) (x y u:V),nE K H a xs/\nE K H b ys/\nE K H c us/\xs[i]? =some x/\ys[i]? =some y/\us[i]? =some u,
  λ i H v H'=>∃T x y u,v= .ref T/\H T=none/\H'=upd H T (.tup [x,y,u])/\(∀xs,nE K H a xs->xs[i]? =some x)/\(∀ys,nE K H b ys->ys[i]? =some y)/\∀us,nE K H c us->us[i]? =some u,
  λ i H=>∃xs:List V,nE K H a xs/\xs.length<=i⟩
theorem ad0{P:aJ}{w:aY}{K:ah}{elts:List bJ}{kk:Nat}{Bg:Pos}{a b c n:Nat}(ga:a<n)(gb:b<n)(gc:c<n):
  Turn P w K (.Tuple elts kk Bg) (It3 K a b c) [n+5,n+4,n+3,n+2,n+1,n] (n+5) (λ i h=>gN h (n+5) (n+3) (n+4) .none/\G5 h (n+3) (.ref n) (.ref (n+1)) (.ref (n+2))/\(∃x y u,G5 h (n+4) x y u)/\h.IsListIter n a i/\h.IsListIter (n+1) b i/\h.IsListIter (n+2) c i) where
 mem:=by simp
 obj:=λ i h st d hd=>by
  obtain⟨Z,I,⟨x,y,u,O⟩,⟨o1,e1,_,d1⟩,⟨o2,e2,_,d2⟩,⟨o3,e3,_,d3⟩⟩:=st
  have q:d=n+5\/d=n+4\/d=n+3\/d=n+2\/d=n+1\/d=n:=by simpa using hd
  rcases q with rfl|rfl|rfl|rfl|rfl|rfl
  ·exact⟨_,Z,λ v q=>nomatch q⟩
  ·exact⟨_,O,λ v q=>nomatch q⟩
  ·exact⟨_,I,λ v q=>nomatch q⟩
  ·exact⟨o3,e3,λ v q=>by rw[d3]at q;cases q⟩
  ·exact⟨o2,e2,λ v q=>by rw[d2]at q;cases q⟩
  ·exact⟨o1,e1,λ v q=>by rw[d1]at q;cases q⟩
 keep:=λ i h h' st k=>by
  obtain⟨Z,I,⟨x,y,u,O⟩,w1,w2,w3⟩:=st
  exact⟨k _ (by simp) _ Z,k _ (by simp) _ I,⟨x,y,u,k _ (by simp) _ O⟩,w1.at λ o q=>k _ (by simp) o q,w2.at λ o q=>k _ (by simp) o q,w3.at λ o q=>k _ (by simp) o q⟩
 item:=by
  intro X hP hw hK hc i pins s σ H E I hf st hg
  subst hP hw hK
  obtain⟨Z,It,⟨x0,y0,u0,O⟩,w1,w2,w3⟩:=st
  obtain⟨xs,ys,us,x,y,u,qx,qy,qu,hx,hy,hu⟩:=hg
  obtain⟨om,rv,p,_⟩:=I.list qx
  obtain⟨Ei,rv2,p2,_⟩:=I.list qy
  obtain⟨afc,rv3,p3,_⟩:=I.list qu
  obtain⟨v1,e1,r1⟩:=rv.get hx
  obtain⟨v2,e2,r2⟩:=rv2.get hy
  obtain⟨v3,e3,r3⟩:=rv3.get hu
  have zl:n+5<s.heap.objs.size:=Heap.lt_size Z
  refine Yt ga gb gc Z It O w1 w2 w3 p.isList p2.isList p3.isList (x:=v1) (y:=v2) (u:=v3) (by simpa using e1) (by simpa using e2) (by simpa using e3) λ h' Z' O' w1' w2' w3' hT hk=>?_
  refine⟨_,rfl,j6 (s:={ s with heap:=h' }) Z' λ VZ Z'' sb=>?_⟩
  have LO:VZ.get? s.heap.objs.size=some { cls:=.type "tuple",data:=.seq #[v1,v2,v3] }:=(sb.2 _ (fZ zl)).trans hT
  have new:pP X.prog X.w (upd H s.heap.objs.size (.tup [x,y,u])) VZ s.heap.objs.size (.tup [x,y,u]):=
   ⟨by show 3<=ay;decide,[v1,v2,v3],.cons r1 (.cons r2 (.cons r3 .nil)),⟨_,LO,rfl,_,rfl⟩⟩
  have I1:Inv X pins σ (upd H s.heap.objs.size (.tup [x,y,u])) { s with heap:=VZ }:=
   I.En (t':=s.toks) (ch:=[n+5,n+4,n+3,n+2,n+1,n]) (λ d o hb q=>(sb.2 d (λ q'=>hb (by simp[q']))).trans (hk d o (λ q'=>hb (by simp[q'])) (λ q'=>hb (by simp[q'])) (λ q'=>hb (by simp[q'])) (λ q'=>hb (by simp[q'])) (λ q'=>hb (by simp[q'])) q)) hf (ax _) new
  refine⟨.ref s.heap.objs.size,_,I1,rfl,⟨_,x,y,u,rfl,I.oX.fresh (ax _),rfl,λ l hl=>by rw[I.vi hl qx];exact hx,λ l hl=>by rw[I.vi hl qy];exact hy,λ l hl=>by rw[I.vi hl qu];exact hu⟩,⟨Z'',?_,⟨v1,v2,v3,?_⟩,?_,?_,?_⟩,λ d hd=>?_⟩
  ·exact(sb.2 _ (nz (by omega))).trans (hk _ _ (nz (by omega)) (nz (by omega)) (nz (by omega)) (nz (by omega)) (nz (by omega)) It)
  ·exact(sb.2 _ (nz (by omega))).trans O'
  ·exact w1'.at λ o q=>(sb.2 _ (nz (by omega))).trans q
  ·exact w2'.at λ o q=>(sb.2 _ (nz (by omega))).trans q
  ·exact w3'.at λ o q=>(sb.2 _ (nz (by omega))).trans q
  ·have lt:d<s.heap.objs.size:=by
    have q:d=n+5\/d=n+4\/d=n+3\/d=n+2\/d=n+1\/d=n:=by simpa using hd
    have zl:(n:Nat)+5<s.heap.objs.size:=zl
    rcases q with rfl|rfl|rfl|rfl|rfl|rfl
    ·exact zl
    ·exact bH (eu (by decide:4<=5) _) zl
    ·exact bH (eu (by decide:3<=5) _) zl
    ·exact bH (eu (by decide:2<=5) _) zl
    ·exact bH (eu (by decide:1<=5) _) zl
    ·exact bH (cB _ 5) zl
   rw[m4 (bL lt)]
   exact(hf d hd).1
 done:=by
  intro X hP hw hK hc i pins s σ H E I hf st hg
  subst hP hw hK
  obtain⟨Z,It,⟨x0,y0,u0,O⟩,w1,w2,w3⟩:=st
  obtain⟨xs,qx,adz⟩:=hg
  obtain⟨om,rv,p,_⟩:=I.list qx
  have l1:=rv.length
  exact aay (I.ok.hd hc) ga Z It O w1 p.isList (by simp;omega) λ h' hk=>⟨rfl,I.SS (t':=s.toks) (ch:=[n+5,n+4,n+3,n+2,n+1,n]) (λ d o hb q=>
   hk d o (λ q'=>hb (by simp[q'])) (λ q'=>hb (by simp[q'])) q) hf⟩
 self:=λ A i s Q E st h=>hJ st.1 h
def ad1(K:ah)(ta:TA):TI:=λ σ H R=>ta σ H λ vs H1=>∃a b c xs ys us,vs=[.ref a,.ref b,.ref c]/\nE K H1 a xs/\nE K H1 b ys/\nE K H1 c us/\R (It3 K a b c) H1
theorem aaC{X:Cx}{e e2 e3:bJ}{ta:TA}{p pos Bg:Pos}{elts:List bJ}{kk:Nat}(hg:Gl X "zip")(hm:X.mg "zip"=none)(ha:PA X [e,e2,e3] ta)
  (hs:aN [e,e2,e3] X.env=(false,cu e X.env)::aN [e2,e3] X.env:=by rfl)(vm:(c7 pos (aN [e2,e3] X.env)).any (·.1)=false:=by rfl):
  PI X (.Tuple elts kk Bg) (.Call (.Name "zip" p) [e,e2,e3] [] pos) (ad1 X.K ta):=by
 intro pins s σ H R I h
 refine ly (vg I hg hm Ko (bS (pM (ha pos pins s σ H _ I h) λ us s1 ⟨vs,H1,I1,r1,q1⟩=>?_) hs vm))
 obtain⟨a,b,c,xs,ys,us',ex,qx,qy,qu,q⟩:=q1
 subst ex
 cases r1 with
 |cons r rr=>
  cases rr with
  |cons r' rr=>
   cases rr with
   |cons r'' rr=>
    cases rr
    cases r
    cases r'
    cases r''
    obtain⟨om,rv,p1,_⟩:=I1.list qx
    obtain⟨Ei,rv2,p2,_⟩:=I1.list qy
    obtain⟨afc,rv3,p3,_⟩:=I1.list qu
    have la:a<s1.heap.objs.size:=p1.lt
    have lb:b<s1.heap.objs.size:=p2.lt
    have lc:c<s1.heap.objs.size:=p3.lt
    refine acH p1.isList p2.isList p3.isList λ h' Z It O w1 w2 w3 hk=>hJ Z ?_
    have I2:Inv X pins σ H1 { s1 with heap:=h' }:=I1.kept (t':=s1.toks) hk
    refine⟨s1.heap.objs.size+5,[s1.heap.objs.size+5,s1.heap.objs.size+4,s1.heap.objs.size+3,s1.heap.objs.size+2,s1.heap.objs.size+1,s1.heap.objs.size],_,_,H1,rfl,I2,ad0 la lb lc,⟨Z,It,⟨_,_,_,O⟩,w1,w2,w3⟩,λ d hd=>?_,q⟩
    have e':d=s1.heap.objs.size+5\/d=s1.heap.objs.size+4\/d=s1.heap.objs.size+3\/d=s1.heap.objs.size+2\/d=s1.heap.objs.size+1\/d=s1.heap.objs.size:=by simpa using hd
    have hle:s1.heap.objs.size<=d:=by
     rcases e' with z|z|z|z|z|z
     ·rw[z];exact cB _ _
     ·rw[z];exact cB _ _
     ·rw[z];exact cB _ _
     ·rw[z];exact cB _ _
     ·rw[z];exact cB _ _
     ·rw[z];exact ax _
    exact I1.Qa hle (I1.oX.fresh hle)
theorem Yu{K:ah}{a b c:ag}{xs ys us:List V}{g:TG}{tb:TS}{D:Ends}{σ:L2.St}{H:Hp}(hxy:xs.length=ys.length)(hxu:xs.length=us.length)(Pv:Nat->L2.St->Hp->Prop)(h0:Pv 0 σ H)(hl:∀i σ H,i<=xs.length->Pv i σ H->nE K H a xs/\nE K H b ys/\nE K H c us)
  (hs:∀i x y u T σ H,xs[i]? =some x->ys[i]? =some y->us[i]? =some u->Pv i σ H->H T=none->g (.ref T) σ (upd H T (.tup [x,y,u])) λ σ2 H2=>tb { D with nx:=Pv (i+1),ct:=Pv (i+1),bk:=D.nx } σ2 H2)(hd:∀σ H,Pv xs.length σ H->D.nx σ H):
  ∃W:Nat->Nat->L2.St->Hp->Prop,(∃m,W 0 m σ H)/\∀i m σ H,W i m σ H->
   ((It3 K a b c).stop i H/\D.nx σ H)\/((It3 K a b c).go i H/\∃N:L2.St->Hp->Prop,(∀σ' H',N σ' H'->∃m',m'<m/\W (i+1) m' σ' H')/\∀x H',(It3 K a b c).G8 i H x H'->g x σ H' λ σ2 H2=>tb { D with nx:=N,ct:=N,bk:=D.nx } σ2 H2):=by
 refine⟨λ i m σ H=>m=xs.length-i/\i<=xs.length/\Pv i σ H,⟨xs.length,by simp,aE _,h0⟩,?_⟩
 rintro i m σ H ⟨rfl,hi,p⟩
 obtain⟨q,q',q''⟩:=hl i σ H hi p
 by_cases rN:i<xs.length
 ·refine .inr ⟨⟨xs,ys,us,xs[i],ys[i],us[i],q,q',q'',by simp[rN],af (by omega),af (by omega)⟩,Pv (i+1),λ σ' H' p'=>⟨xs.length-(i+1),by omega,rfl,rN,p'⟩,λ x H' y=>?_⟩
  obtain⟨T,z,z',z'',rfl,hT,rfl,y,y',y''⟩:=y
  exact hs i z z' z'' T σ H (y xs q) (y' ys q') (y'' us q'') p hT
 ·have e:i=xs.length:=by omega
  subst e
  exact .inl ⟨⟨xs,q,ax _⟩,hd σ H p⟩
end L2
namespace oh
def T_(s:bR)(x:bF×Nat):List Nat:=(x.1.name.length::x.1.name)++[x.1.weight,x.1.finds,x.1.time,s.done.getD x.2 0]
def clL(s:bR)(n:Nat):List Nat:=(s.field.cells.zipIdx.take n).flatMap (T_ s)
theorem Ao{f:ae}{ws:List Nat}{i w:Nat}{c:bF}(h1:f.cells[i]? =some c)(h2:ws[i]? =some w):(pL f ws).cells[i]? =some { c with weight:=w }:=by
 unfold pL
 rw[aP,h1,h2]
def MP(s:bR)(f0:ae)(ns zs:List Int):List Int:=(eO s f0 .cells).2
theorem VE(s:bR)(f0:ae)(ns zs:List Int):iL (MP s f0 ns zs)=V.int 0::V.int (s.field.cells.length:Nat)::nX (clL s s.field.cells.length):=by
 show iL (0::(s.field.cells.length:Int)::s.field.cells.zipIdx.flatMap λ x=>jj x.1.name++dU [x.1.weight,x.1.finds,x.1.time,s.done.getD x.2 0])=_
 rw[t8,t8]
 congr 2
 unfold clL
 rw[cq (by rw[dP];exact ax _)]
 unfold iL nX
 rw[gF,gF]
 congr 1
 funext x
 unfold T_ jj dU
 rw[aF,aF,aH,aH,aW];rfl
abbrev RQ:List Str:=["search","numbers","row","answer","cell","weight","efforts","name"]
theorem Gx:m9 RQ tq (m5 Ca):=qh
theorem Gy(F:pI K "call_cells" "call_cells" Ca f fd)(S:p6 K CS)(nI:Rec P w K mg base "Field" CF Ci)(oz:Rec P w K mg base "Cell" CC EH)(nF:oF mg "DONE" 0)(pd:mg "len"=none)(xI:mg "zip"=none)(r8:rB P w K mg base oG 1 "to_bytes" ["text"] EO):nQ P w K mg base oG 2 f fd tq (Bw CS CF CC CT 0 MP):=by
 refine F.ok Gx (λ vs H Q E h=>?_) (λ oW A outer s H vs Q E hr h=>?_)
 ·obtain⟨x,wl,hl,nl,rl,a,s',f0,ws,ns,zs,rfl,_⟩:=h
  rfl
 ·obtain⟨x,wl,hl,nl,rl,a,s',f0,ws,ns,zs,rfl,T,hn,hz,ln,lz,k⟩:=h
  have nd:=Gx.nd
  refine⟨_,(mX (m8 (i:=3) nd rfl (Or.inl rfl) (nP (mW (nU nF) (mW (nM nN rfl pd aX (mW (nq (pv 0) rfl) mY)) mY))))
   (mX (qB PassesOwn.never rfl (aaC rfl xI (mW (nq (nq (pv 0) rfl) rfl) (mW (nq (pv 0) rfl) (mW (nq (pv 0) rfl) mY)))) (zF rfl (oJ (nA (i:=4) nd rfl (Or.inl rfl)) (oJ (nA (i:=5) nd rfl (Or.inl rfl)) (oJ (nA (i:=6) nd rfl (Or.inl rfl)) rC)))) (mX (m8 (i:=7) nd rfl (Or.inl rfl) (nv (E:=E0) r8 hr (by decide) nr (mW (nq (pv 4) rfl) mY)))
   (mX (n_ (qT aG bc a_ pF (pv 3) (mW (nM nN rfl pd aX (mW (pv 7) mY)) mY)))
   (mX (n_ (qT aG cT cS va (pv 3) (mW (pv 7) mY)))
   (m6 (n_ (qT aG cT cS va (pv 3) (mW (nP (mW (pv 5) (mW (nq (pv 4) rfl) (mW (nq (pv 4) rfl) (mW (pv 6) mY))))) mY))))))))
   (m6 (nj (pv 3))))),?_⟩
  obtain⟨dx,hx⟩:=T.se.1
  rw[VE]at k
  have wB:=T.wB
  obtain⟨df,lc,lt,as,bs,f1,f2,f3,f4,f5⟩:=T.field
  have JK:=T.se.2.1
  have DE:=T.se.2.2
  refine⟨_,rfl,x,CS,dx,_,_,rfl,hx,S.cl,S.n3,rfl,hl,_,rfl,.inl (nE.of DE),(by show 2<=ay;decide),λ an han=>?_⟩
  have s1:m7 H (upd H an (.lst [V.int 0,V.int ((nX s'.done).length:Nat)])):=m7.new han
  refine⟨_,rfl,x,CS,dx,_,_,rfl,s1 _ _ hx,S.cl,S.n1,rfl,a,CF,df,_,_,rfl,s1 _ _ f1,nI.cl,nI.na "cells" (by simp),rfl,_,rfl,x,CS,dx,_,_,rfl,s1 _ _ hx,S.cl,S.n2,rfl,_,rfl,x,CS,dx,_,_,rfl,s1 _ _ hx,S.cl,S.n3,rfl,lc,wl,hl,_,_,_,rfl,nE.of (s1 _ _ f2),nE.of (s1 _ _ JK),nE.of (s1 _ _ DE),?_⟩
  refine Yu (K:=K) (a:=lc) (b:=wl) (c:=hl) (xs:=as.map V.ref) (ys:=nX ws) (us:=nX s'.done) (by rw[aa,m_,f3.1,T.lw]) (by rw[aa,m_,f3.1,T.ld]) (λ i σ H'=>∃(v4 v5 v6 v7:Option V),σ=[some (.ref x),some (.ref nl),some (.ref rl),some (.ref an),v4,v5,v6,v7]/\i<=f0.cells.length/\m7 H H'/\H' an=some (.lst (V.int 0::V.int (s'.field.cells.length:Nat)::nX (clL s' i)))/\(clL s' i).length<=13*i)
   ⟨none,none,none,none,rfl,aE _,s1,by rw[mZ,m_,T.dl];rfl,ax _⟩ (λ i σ H' _ ⟨_,_,_,_,_,_,sm,_⟩=>⟨nE.of (sm _ _ f2),nE.of (sm _ _ JK),nE.of (sm _ _ DE)⟩) ?_ ?_
  ·rintro i y z u TT σ H' hy VY hu ⟨v4,v5,v6,v7,rfl,hi,sm,SU,hlen⟩ Vf
   obtain⟨wi,q2,rfl⟩:=ou VY
   obtain⟨di,q3,rfl⟩:=ou hu
   rw[ak]at hy
   cases q1:as[i]? with
   |none=>rw[q1]at hy;cases hy
   |some ai=>
    rw[q1]at hy;cases hy
    have Wz:i<f0.cells.length:=by rw[<-f3.1];exact(List.getElem?_eq_some_iff.mp q1).1
    have ec:f0.cells[i]? =some f0.cells[i]:=af Wz
    obtain⟨dc,hc⟩:=f3.2 i ai _ q1 ec
    have nm8:=T.nm _ (cp Wz)
    have es:s'.field.cells.zipIdx[i]? =some ({ f0.cells[i]with weight:=wi },i):=by
     rw[bQ,T.fe,Ao ec q2];show some (_,0+i)=_;rw[cW]
    have ed:s'.done.getD i 0=di:=by rw[aB,q3];rfl
    have ecl:clL s' (i+1)=clL s' i++((f0.cells[i].name.length::f0.cells[i].name)++[wi,f0.cells[i].finds,f0.cells[i].time,di]):=by
     unfold clL
     rw[bZ,es,ee]
     show _++(T_ s' _++[])=_
     rw[bD]
     unfold T_
     rw[ed]
    generalize hci:f0.cells[i]=c0 at *
    have sT:m7 H' (upd H' TT (.tup [.ref ai,.int (wi:Nat),.int (di:Nat)])):=m7.new Vf
    have sH:=sm.trans sT
    refine⟨TT,_,rfl,Bi.of mZ,rfl,_,_,rfl,_,_,rfl,_,_,rfl,rfl,?_⟩
    refine⟨_,rfl,ai,CC,dc,_,_,rfl,sH _ _ hc,oz.cl,oz.na "name" (by simp),rfl,c0.name,rfl,by omega,λ H3 nb s3 hnb ad2=>?_⟩
    have sH3:=sH.trans s3
    have ha3:=s3 _ _ (sT _ _ SU)
    refine⟨_,rfl,.inl ⟨rfl,_,nE.of ha3⟩,_,rfl,nb,_,rfl,.inl (nE.of ad2),an,_,_,rfl,rfl,ha3,(by rw[aD,aD,m_,aA];omega),?_⟩
    generalize UW:upd H3 an _=H4
    have s4:m7 H H4:=by rw[<-UW];exact sH3.put han
    have nnb:nb≠an:=λ q=>by rw[q,sT _ _ SU]at hnb;cases hnb
    have ha4:H4 an=some (.lst (V.int 0::V.int (s'.field.cells.length:Nat)::nX (clL s' i++[c0.name.length]))):=by
     rw[<-UW,mZ,m_];unfold nX;rw[aF];rfl
    have afd:H4 nb=some (.lst (nX c0.name)):=by rw[<-UW,m4 nnb];exact ad2
    refine⟨_,rfl,.inl ⟨rfl,_,nE.of ha4⟩,_,rfl,an,nb,_,_,rfl,rfl,ha4,afd,(by rw[aD,aD,m_,m_,aw,aA];show _+1+1+1+ _<=_;omega),?_⟩
    generalize hH5:upd H4 an _=H5
    have s5:m7 H H5:=by rw[<-hH5];exact s4.put han
    have ha5:H5 an=some (.lst (V.int 0::V.int (s'.field.cells.length:Nat)::nX (clL s' i++(c0.name.length::c0.name)))):=by
     rw[<-hH5,mZ];unfold nX;rw[aF,aF,aH];simp
    refine⟨_,rfl,.inl ⟨rfl,_,nE.of ha5⟩,_,rfl,_,rfl,ai,CC,dc,_,_,rfl,s5 _ _ hc,oz.cl,oz.na "finds" (by simp),rfl,_,rfl,ai,CC,dc,_,_,rfl,s5 _ _ hc,oz.cl,oz.na "time" (by simp),rfl,_,rfl,(by show 4<=ay;decide),λ q4 hq4=>?_⟩
    have s6:m7 H5 (upd H5 q4 (.lst [V.int (wi:Nat),V.int (c0.finds:Nat),V.int (c0.time:Nat),V.int (di:Nat)])):=m7.new hq4
    refine⟨an,q4,_,_,rfl,rfl,s6 _ _ ha5,mZ,(by rw[aD,aD,m_,aw,aD,aA];show _+1+1+4<=_;omega),?_⟩
    refine⟨_,_,_,_,rfl,Wz,(s5.trans s6).put han,?_,?_⟩
    ·rw[mZ,ecl,<-bB]
     unfold nX
     rw[aF (l₂:=[wi,c0.finds,c0.time,di])];rfl
    ·rw[ecl,aw,aw,aD]
     show _+(_+1+4)<=_
     omega
  ·rintro σ H' ⟨v4,v5,v6,v7,rfl,hi,sm,SU,hlen⟩
   refine⟨_,rfl,k H' an sm han ?_⟩
   rw[SU,aa,f3.1,T.len]
def RR(ws:List Nat)(a b:Nat)(l:List Nat):List Nat:=ws.zipIdx.map λ x=>x.1*(if l.contains x.2=true then a else b)
theorem Yv{ws:List Nat}{a b:Nat}{l:List Nat}{i w:Nat}(h:ws[i]? =some w):(RR ws a b l)[i]? =some (w*(if l.contains i=true then a else b)):=by
 unfold RR
 rw[ak,bQ,h];simp
theorem DX(ws:List Nat)(a b:Nat)(l:List Nat):(RR ws a b l).length=ws.length:=by unfold RR;rw[aa,dP]
theorem RS{f:ae}{ws:List Nat}(hl:ws.length=f.cells.length)(a b:Nat)(l:List Nat):l_ (pL f ws) a b l=pL f (RR ws a b l):=by
 have e:(pL f ws).cells.zipIdx.map (λ x=>({ x.1 with weight:=x.1.weight*(if l.contains x.2=true then a else b) }:bF))=(pL f (RR ws a b l)).cells:=by
  apply bO
  intro i
  rw[ak,bQ]
  by_cases hi:i<f.cells.length
  ·have e1:ws[i]? =some (ws[i]'(by omega)):=af _
   have e0:f.cells[i]? =some f.cells[i]:=af hi
   rw[Ao e0 e1,Ao e0 (Yv e1)]
   show some _=some _
   simp
  ·rw[aI (show(pL f ws).cells.length<=i by rw[qN hl];omega),aI (show(pL f (RR ws a b l)).cells.length<=i by rw[qN (by rw[DX];exact hl)];omega)];rfl
 exact congrArg (λ c=>(⟨f.parts,c,f.teams⟩:ae)) e
theorem Pf{f:ae}{ws:List Nat}(hl:ws.length=f.cells.length):((pL f ws).cells.any λ c=>decide (1000000000000<c.weight))=ws.any λ n=>decide (1000000000000<n):=by
 rw[du,dI,dI]
 constructor
 ·rintro⟨c,hc,h⟩
  obtain⟨_,_,_,_,z⟩:=A_ hc
  exact⟨_,z,h⟩
 ·rintro⟨n,hn,h⟩
  obtain⟨i,hi,e⟩:=cw hn
  have e1:ws[i]? =some n:=by rw[af hi,e]
  exact⟨_,aC (Ao (af (show i<f.cells.length by omega)) e1),h⟩
def Bc(s:bR)(f0:ae)(ns zs:List Int):bR×List Int:=eO s f0 (.evidence (ns.getD 0 0) (ns.getD 1 0) zs)
theorem MQ(s:bR)(f0:ae)(ns zs:List Int):Bc s f0 ns zs=if(bI (ns.getD 0 0) 0 1000 && (bI (ns.getD 1 0) 0 1000 && zs.all (eR s)))=false then(s,[-1])else if((l_ s.field (ns.getD 0 0).toNat (ns.getD 1 0).toNat (bV zs)).cells.any λ c=>decide (1000000000000<c.weight))=true then(s,[-3])else({ s with field:=l_ s.field (ns.getD 0 0).toNat (ns.getD 1 0).toNat (bV zs) },[0]):=rfl
abbrev xc:List Str:=["search","numbers","cells","changed","cell","weight","times"]
theorem Ap:m9 xc ["search","numbers","cells"] (m5 rO):=qh
theorem Aq(F:pI K "call_evidence" "call_evidence" rO f fd)(S:p6 K CS)(zA:mg "all"=none)(uU:oF mg "MOST_TIMES" 1000)(nH:oF mg "NOT_AS_TOLD" (-1))(pH:aav P w K mg base CS)(qk:mg "enumerate"=none)(OK:mg "max"=none)(q_:oF mg "GREATEST_WEIGHT" 1000000000000)(pz:oF mg "TOO_MANY" (-3))(nF:oF mg "DONE" 0):nQ P w K mg base oG 2 f fd ["search","numbers","cells"] (Zf CS CF CC CT 2 Bc):=by
 refine F.ok Ap (λ vs H Q E h=>?_) (λ oW A outer s H vs Q E hr h=>?_)
 ·obtain⟨x,wl,hl,nl,rl,a,s',f0,ws,ns,zs,rfl,_⟩:=h
  rfl
 ·obtain⟨x,wl,hl,nl,rl,a,s',f0,ws,ns,zs,rfl,told,T,hn,hz,ln,lz,k⟩:=h
  have nd:=Ap.nd
  have nL:=S.cl
  refine⟨_,(mX (pj (vh (tG (nM (BG rfl) rfl zA iP (mW (qt (own:=[("times",6)]) rfl nd (oM (pv 1)) (by exact pC.of (N:=xc) (sc:=m5 rO) (by decide +kernel)) (λ _ _ _ _ _=>by exact(nA (i:=6) nd rfl (Or.inl rfl))) (λ _ _ _ _ _=>by exact oR) (λ _ _ _ _ _=>by exact(vj p9 p9 nO (pv 6) (nU uU)))) mY)))) (m6 (nj (nP (mW (nU nH) mY)))) nZ)
   (mX (pj (vh (tG (nM (BG rfl) rfl zA iP (mW (qt (own:=[("cell",4)]) rfl nd (oM (pv 2)) (by exact pC.of (N:=xc) (sc:=m5 rO) (by decide +kernel)) (λ _ _ _ _ _=>by exact(nA (i:=4) nd rfl (Or.inl rfl))) (λ _ _ _ _ _=>by exact oR) (λ _ _ _ _ _=>by exact(pQ (E:=E0) pH nL hr (by decide) nr (pv 0) (mW (pv 4) mY)))) mY)))) (m6 (nj (nP (mW (nU nH) mY)))) nZ)
   (mX (m8 (i:=3) nd rfl (Or.inl rfl) (nP mY))
   (mX (qB PassesOwn.never rfl (C4 rfl qk (mW (nq (pv 0) rfl) mY)) (zF rfl (oJ (nA (i:=4) nd rfl (Or.inl rfl)) (oJ (nA (i:=5) nd rfl (Or.inl rfl)) rC))) (m6 (n_ (qT aG bc a_ pF (pv 3) (mW (oj wQ (pv 5) (Nw (oq AR (pv 4) (pv 2) (by with_unfolding_all rfl)) (o_ og (pv 1) nO (λ _ _=>rfl)) (o_ og (pv 1) nO (λ _ _=>rfl)))) mY)))))
   (mX (pj (oq Bj (nM (Ql rfl) rfl OK lx (mW (pv 3) mY)) (nU q_) (oK _)) (m6 (nj (nP (mW (nU pz) mY)))) nZ)
   (mX (pU (pv 0) (pv 3) rfl)
   (m6 (nj (nP (mW (nU nF) mY)))))))))),?_⟩
  obtain⟨dx,hx⟩:=T.se.1
  rw[MQ]at k
  have wB:=T.wB
  have st:DV CS CF CC CT s' H x wl hl:=.inr ⟨f0,ws,a,told,T⟩
  obtain⟨h0,h1⟩:=RN ln
  have ens:ns.all (λ z=>bI z 0 1000)=(bI (ns.getD 0 0) 0 1000 && bI (ns.getD 1 0) 0 1000):=by
   match ns,ln with
   |[p,q],_=>show(bI p 0 1000 && (bI q 0 1000 && true))=_;rw[Bool.and_true];rfl
  generalize ns.getD 0 0=pa at k h0 ens
  generalize ns.getD 1 0=pb at k h1 ens
  rw[<-Bool.and_assoc,<-ens]at k
  refine⟨_,rfl,nl,rfl,⟨_,nE.of hn⟩,?_⟩
  refine oY (oS (K:=K) (xs:=iL ns) (nE.of hn)) (ns.map λ z=>V.bl (bI z 0 1000)) (by rw[pW,aa]) (by rw[pW,ln,aA];decide) (λ j x y H3 R3 N3 hy pG hF kk=>?_) (λ D1 H1 hD1 s1 afe=>?_)
  ·obtain⟨z,q1,rfl⟩:=EV hF
   rw[ak,q1]at hy
   cases hy
   exact⟨rfl,sD (ue gc gv gc (kk H3 (m7.refl _)))⟩
  refine⟨D1,ns.map λ z=>bI z 0 1000,rfl,nE.of (by rw[afe,aW];rfl),?_⟩
  rw[cH,show ns.all (id ∘ λ z=>bI z 0 1000)=ns.all (λ z=>bI z 0 1000)from rfl]
  refine⟨_,rfl,?_⟩
  cases ha:ns.all (λ z=>bI z 0 1000)with
  |false=>
   rw[ha,ij,if_pos rfl]at k
   exact tp ⟨(by show 1<=ay;decide),o9 (z9.ret (k.pure st)) s1 rfl⟩
  |true=>
  rw[ha,fE]at k
  refine rJ ⟨_,rfl,rl,rfl,⟨_,nE.of (s1 _ _ hz)⟩,?_⟩
  refine oY (oS (K:=K) (xs:=iL zs) (nE.of (s1 _ _ hz))) (zs.map λ z=>V.bl (eR s' z)) (by rw[pW,aa]) (by rw[pW,aA];omega) (λ j x y H3 R3 N3 hy pG hF kk=>?_) (λ D2 H2 hD2 s2 aff=>?_)
  ·obtain⟨z,q1,rfl⟩:=EV hF
   rw[ak,q1]at hy
   cases hy
   exact⟨rfl,sD ⟨_,rfl,_,dx,_,rfl,pG _ _ (s1 _ _ hx),rfl,_,rfl,r9 ((T.same (s1.trans pG)).DO (kk H3 (m7.refl _)))⟩⟩
  have vD:=s1.trans s2
  refine⟨D2,zs.map (eR s'),rfl,nE.of (by rw[aff,aW];rfl),?_⟩
  rw[cH,show zs.all (id ∘ eR s')=zs.all (eR s')from rfl]
  refine⟨_,rfl,?_⟩
  cases hc:zs.all (eR s')with
  |false=>
   rw[hc,if_pos rfl]at k
   exact tp ⟨(by show 1<=ay;decide),o9 (z9.ret (k.pure st)) vD rfl⟩
  |true=>
  rw[hc,if_neg (by simp),T.fe,RS T.lw,Pf (by rw[DX];exact T.lw)]at k
  obtain⟨r1,r2,r3⟩:=Ji hc
  rw[ens,bj]at ha
  obtain⟨i1,i2⟩:=pq.mp ha.1
  obtain⟨i3,i4⟩:=pq.mp ha.2
  obtain⟨an,rfl⟩:∃m:Nat,pa=(m:Int):=⟨pa.toNat,by omega⟩
  obtain⟨bn,rfl⟩:∃m:Nat,pb=(m:Int):=⟨pb.toNat,by omega⟩
  rw[show((an:Int)).toNat=an from rfl,show((bn:Int)).toNat=bn from rfl]at k
  refine rJ ⟨aE _,λ ch PX=>?_⟩
  have MR:=none_of vD PX
  have s3:=vD.put (o:=.lst []) MR
  refine⟨_,rfl,x,CS,dx,_,_,rfl,s3 _ _ hx,S.cl,S.n2,rfl,wl,_,rfl,nE.of (s3 _ _ T.se.2.1),Dn (K:=K) (a:=wl) (xs:=nX ws) (λ i σ H'=>∃(v4 v5:Option V),σ=[some (.ref x),some (.ref nl),some (.ref rl),some (.ref ch),v4,v5,none]/\i<=ws.length/\m7 H H'/\H' ch=some (.lst (nX ((RR ws an bn (bV zs)).take i))))
   ⟨none,none,rfl,aE _,s3,mZ⟩ (λ i σ H' _ ⟨_,_,_,_,sm,_⟩=>nE.of (sm _ _ T.se.2.1)) ?_ ?_⟩
  ·rintro i y TT σ H' hy ⟨v4,v5,rfl,hi,sm,hcH⟩ Vf
   obtain⟨wi,q1,rfl⟩:=ou hy
   have Wz:i<ws.length:=(List.getElem?_eq_some_iff.mp q1).1
   have Ze:=T.Ze wi (aC q1)
   have sT:m7 H' (upd H' TT (.tup [.int (i:Nat),.int (wi:Nat)])):=m7.new Vf
   have sH:=sm.trans sT
   have hc2:=sT _ _ hcH
   have lt:((RR ws an bn (bV zs)).take i).length<=16:=by rw[bW,DX,T.lw];omega
   have fin:∀v:Nat,v=(if(bV zs).contains i=true then an else bn)->(nX ((RR ws an bn (bV zs)).take i))++[V.int ((wi:Int)*(v:Int))]=nX ((RR ws an bn (bV zs)).take (i+1)):=λ v hv=>by
    rw[bZ,Yv q1,<-hv]
    unfold nX
    rw[aF]
    show _=_++[V.int ((wi*v:Nat):Int)]
    rw[Int.natCast_mul]
   refine⟨TT,_,rfl,Bi.of mZ,rfl,_,_,rfl,_,_,rfl,rfl,?_⟩
   refine⟨_,rfl,.inl ⟨rfl,_,nE.of hc2⟩,_,rfl,_,rfl,_,rfl,rl,_,rfl,.inl (nE.of (by rw[sH _ _ hz,r1])),rfl,(by rw[cH];exact List.all_eq_true.mpr λ _ _=>rfl),_,rfl,?_⟩
   rw[show(if false=true then !GQ (.int (i:Nat)) (nX (bV zs))else GQ (.int (i:Nat)) (nX (bV zs)))=(bV zs).contains i from Dl i (bV zs)]
   refine p_ (λ hm=>?_) λ hm=>?_
   ·have e:=fin an (by rw[if_pos hm])
    refine⟨_,rfl,nl,_,_,_,rfl,rfl,nE.of (sH _ _ hn),at_of (j:=0) rfl h0,_,_,rfl,rfl,K0 Ze _,ch,_,_,rfl,rfl,hc2,(by rw[m_,aA];omega),?_⟩
    exact⟨_,_,rfl,Wz,sH.put MR,by rw[mZ];exact congrArg (λ z=>some (HO.lst z)) e⟩
   ·have e:=fin bn (by rw[if_neg hm])
    refine⟨_,rfl,nl,_,_,_,rfl,rfl,nE.of (sH _ _ hn),at_of (j:=1) rfl h1,_,_,rfl,rfl,K0 Ze _,ch,_,_,rfl,rfl,hc2,(by rw[m_,aA];omega),?_⟩
    exact⟨_,_,rfl,Wz,sH.put MR,by rw[mZ];exact congrArg (λ z=>some (HO.lst z)) e⟩
  ·rintro σ H' ⟨v4,v5,rfl,hi,sm,hcH⟩
   have et:(RR ws an bn (bV zs)).take (nX ws).length=RR ws an bn (bV zs):=cq (by rw[m_,DX];exact ax _)
   rw[et]at hcH
   have lw':(RR ws an bn (bV zs)).length=f0.cells.length:=by rw[DX,T.lw]
   generalize hW:RR ws an bn (bV zs)=W at *
   have neW:W≠[]:=λ q=>by
    rw[q]at lw'
    exact T.ok.ne (List.length_eq_zero_iff.mp lw'.symm)
   refine⟨_,rfl,ch,_,rfl,Mw hcH,?_,λ m hm1 hm2=>?_⟩
   ·rw[aa];exact b_ λ z=>neW (List.length_eq_zero_iff.mp z)
   have em:=IG hm1 hm2
   subst em
   refine⟨_,_,rfl,rfl,_,rfl,p_ (λ hg=>?_) λ hg=>?_⟩
   ·have hg:(1000000000000:Int)<((vJ W:Nat):Int):=of_decide_eq_true hg
    have:(W.any λ n=>decide (1000000000000<n))=true:=List.any_eq_true.mpr ⟨_,DH W neW,decide_eq_true (by omega)⟩
    rw[this,if_pos rfl]at k
    exact⟨(by show 1<=ay;decide),o9 (z9.ret (k.pure st)) sm rfl⟩
   ·have hg:¬ (1000000000000:Int)<((vJ W:Nat):Int):=λ q=>hg (decide_eq_true q)
    have Ze:∀n∈W,n<=1000000000000:=λ n hn=>by have:=Mv W n hn;omega
    have:(W.any λ n=>decide (1000000000000<n))=false:=by
     rw[iS]
     intro n hn q
     have:=of_decide_eq_true q
     have:=Ze n hn
     omega
    rw[this,if_neg (by simp)]at k
    have hx':=sm _ _ hx
    refine⟨_,rfl,_,rfl,x,CS,dx,_,rfl,hx',S.cl,S.n2,(by show 3<1000;decide),?_⟩
    generalize JM:upd H' x _=H2
    have x2:H2 x=some (.ins CS dx (JZ.zip [.ref a,.ref ch,.ref hl])):=by rw[<-JM,mZ];rfl
    have k2:∀b o,b≠x->H' b=some o->H2 b=some o:=λ b o n e=>by rw[<-JM,m4 n];exact e
    have nhx:hl≠x:=λ q=>by have:=T.se.2.2;rw[q,hx]at this;cases this
    have ncx:ch≠x:=λ q=>by rw[q,hx]at MR;cases MR
    have nch:ch≠hl:=λ q=>by rw[q,T.se.2.2]at MR;cases MR
    obtain⟨H0,g1,g2,g3,g4,g5,g6⟩:=T.fa
    have T2:vf CS CF CC CT { s' with field:=pL f0 W } f0 W a H2 x ch hl:=
     ⟨⟨⟨dx,x2⟩,k2 _ _ ncx hcH,k2 _ _ nhx (sm _ _ T.se.2.2)⟩,nch,⟨H0,g1,λ b o e=>k2 b o (λ q=>by rw[q,g3]at e;cases e) (sm _ _ (g2 b o e)),g3,none_of g2 MR,g5,g6⟩,T.ok,T.nm,rfl,lw',T.ld,T.tu,Ze⟩
    refine⟨(by show 1<=ay;decide),λ p hp=>?_⟩
    have n3:NE H2 (upd H2 p (.lst [V.int 0])):=NE.of_same (m7.new hp)
    have npx:p≠x:=λ q=>by rw[q,x2]at hp;cases hp
    refine k _ p ch hl (.inr ⟨f0,W,a,told,T2.Vo n3⟩) (.inr (Fr.none MR)) (.inl rfl) (λ b o e n1 n2 n4 z=>n3 _ _ (k2 b o n1 (sm _ _ e)) z) (λ o e=>?_) mZ
    rw[k2 p o npx (sm _ _ e)]at hp
    cases hp
def Ua(K:ah)(C CF CC CT:ag):Sp:=λ vs H Q _=>z8 K C CF CC CT vs H Q E0
def J8(x:ag)(H:Hp):Hp:=λ b=>if b=x then none else match H b with
 |some (.ext _)=>none
 |o=>o
theorem Bd{x b:ag}{H:Hp}{o:HO}(h:H b=some o)(n:b≠x)(e:∀φ,o≠ .ext φ):J8 x H b=some o:=by
 unfold J8
 rw[if_neg n,h]
 cases o with
 |ext φ=>exact absurd rfl (e φ)
 |_=>rfl
theorem Js{x b:ag}{H:Hp}{o:HO}(h:J8 x H b=some o):H b=some o/\b≠x/\∀φ,o≠ .ext φ:=by
 unfold J8 at h
 by_cases n:b=x
 ·rw[if_pos n]at h;cases h
 ·rw[if_neg n]at h
  cases q:H b with
  |none=>rw[q]at h;cases h
  |some u=>
   rw[q]at h
   cases u with
   |ext φ=>cases h
   |_=>cases h;exact⟨rfl,n,λ φ z=>by cases z⟩
theorem Ln{x b:ag}{H:Hp}(h:H b=none):J8 x H b=none:=by
 cases q:J8 x H b with
 |none=>rfl
 |some o=>rw[(Js q).1]at h;cases h
theorem RT{CS CF CC CT:ag}{H:Hp}{a x dx:ag}{fs:List (Str×V)}{f:ae}(h:rF CF CC CT H a f)(hx:H x=some (.ins CS dx fs))(n1:CS≠CF)(n2:CS≠CC)(n3:CS≠CT):rF CF CC CT (J8 x H) a f:=by
 obtain⟨df,lc,lt,as,bs,h1,h2,h3,h4,h5⟩:=h
 have ni:∀{b D d:ag} {g:List (Str×V)},H b=some (.ins D d g)->CS≠D->b≠x:=λ e n q=>by
  rw[q,hx]at e
  injection e with e
  injection e with e
  exact n e
 have nl:∀{b:ag} {xs:List V},H b=some (.lst xs)->b≠x:=λ e q=>by rw[q,hx]at e;cases e
 refine⟨df,lc,lt,as,bs,Bd h1 (ni h1 n1) (λ φ z=>by cases z),Bd h2 (nl h2) (λ φ z=>by cases z),⟨h3.1,λ j b c e1 e2=>?_⟩,Bd h4 (nl h4) (λ φ z=>by cases z),⟨h5.1,λ j b t e1 e2=>?_⟩⟩
 ·obtain⟨d,z⟩:=h3.2 j b c e1 e2
  exact⟨d,Bd z (ni z n2) (λ φ z=>by cases z)⟩
 ·obtain⟨d,ml,z1,z2,z3⟩:=h5.2 j b t e1 e2
  exact⟨d,ml,Bd z1 (ni z1 n3) (λ φ z=>by cases z),Bd z2 (nl z2) (λ φ z=>by cases z),z3⟩
theorem RU(f:ae):pL f (f.cells.map (·.weight))=f:=by
 have e:(pL f (f.cells.map (·.weight))).cells=f.cells:=by
  apply bO
  intro i
  by_cases hi:i<f.cells.length
  ·have e0:f.cells[i]? =some f.cells[i]:=af hi
   rw[Ao e0 (by rw[ak,e0];rfl),e0]
  ·rw[aI (show f.cells.length<=i by omega),aI (by rw[qN (by rw[aa])];omega)]
 exact congrArg (λ c=>(⟨f.parts,c,f.teams⟩:ae)) e
theorem MT{K:ah}{H:Hp}:∀(l:List Int),Hi K H (iL l) (l.map PyData.int)
 |[]=>.nil
 |z::l=>.cons (.int z) (MT l)
def Yw(s:bR)(zs:List Int):bR×List Int:=bM s (.field zs)
theorem VF(s:bR)(zs:List Int):Yw s zs=if dD zs=false then(s,[-1])else match cV (bV zs)with
  | .error b=>(s,[1,(b.kind:Int),(b.place:Int)])
  | .ok f=>({ told:=some f,field:=f,done:=d7 f },0::dU [f.cells.length,f.teams.length]):=rfl
def Ub(CS CF CC CT:ag):Sp:=λ vs H Q _=>∃(x wl hl nl rl:ag) (s:bR) (zs:List Int),vs=[.ref x,.ref nl,.ref rl]/\DV CS CF CC CT s H x wl hl/\H rl=some (.lst (iL zs))/\zs.length<=1600/\KN CS CF CC CT x wl hl H Q (Yw s zs)
abbrev RV:List Str:=["search","numbers","text","answer"]
theorem Gz:m9 RV ["search","numbers","text"] (m5 BV):=qh
theorem GA(F:pI K "call_field" "call_field" BV f fd)(S:p6 K CS)(n1:CS≠CF)(n2:CS≠CC)(n3:CS≠CT)(nI:Rec P w K mg base "Field" CF Ci)(uV:rB P w K mg base oG 9 "call_where" ["search","numbers","text"] (Mh K))(nF:oF mg "DONE" 0)(G6:um P w K mg base oG 1 CS "begin" ["self","field"] (Ml CS CF CC CT))(qM:rB P w K mg base oG 8 "read_field" ["text"] (Ua K C CF CC CT))(pd:mg "len"=none):nQ P w K mg base oG 10 f fd ["search","numbers","text"] (Ub CS CF CC CT):=by
 refine F.ok Gz (λ vs H Q E h=>?_) (λ oW A outer s H vs Q E hr h=>?_)
 ·obtain⟨x,wl,hl,nl,rl,s',zs,rfl,_⟩:=h
  rfl
 ·obtain⟨x,wl,hl,nl,rl,s',zs,rfl,st,hz,lz,k⟩:=h
  have nd:=Gz.nd
  have nL:=S.cl
  refine⟨_,(mX (m8 (i:=3) nd rfl (Or.inl rfl) (nv (E:=E0) uV hr (by decide) nr (mW (pv 0) (mW (pv 1) (mW (pv 2) mY)))))
   (mX (pj (oq (abM hr.units) (pv 3) (nP (mW (nU nF) mY)) (oK _)) (m6 (nj (pv 3))) nZ)
   (mX (n_ (pQ (E:=E0) G6 nL hr (by decide) nr (pv 0) (mW (nv (E:=E0) qM hr (by decide) nr (mW (pv 2) mY)) mY)))
   (m6 (nj (nP (mW (nU nF) (mW (nM nN rfl pd aX (mW (nq (nq (pv 0) rfl) rfl) mY)) (mW (nM nN rfl pd aX (mW (nq (nq (pv 0) rfl) rfl) mY)) mY))))))))),?_⟩
  rw[VF]at k
  refine⟨_,rfl,_,rfl,_,rfl,_,_,rl,zs,rfl,nE.of hz,lz,λ H1 p e1 fp JX=>?_⟩
  refine⟨_,rfl,(by show 1<=ay;decide),λ l0 hl0=>?_⟩
  have s2:m7 H1 (upd H1 l0 (.lst [V.int 0])):=m7.new hl0
  have e2:NE H (upd H1 l0 (.lst [V.int 0])):=e1.trans (NE.of_same s2)
  refine⟨.list ((qE zs).map PyData.int),.list [.int 0],.lst (nE.of (s2 _ _ JX)) (MT _),.lst (nE.of mZ) (MT [0]),?_,rfl,_,rfl,?_⟩
  ·unfold qE
   cases hi:dD zs with
   |false=>rfl
   |true=>
    rw[if_neg (by simp)]
    cases X1:cV (bV zs)with
    |error b=>rfl
    |ok g=>rfl
  cases hi:dD zs with
  |false=>
   rw[hi,if_pos rfl]at k
   have wa:qE zs=[-1]:=by unfold qE;rw[hi,if_pos rfl]
   rw[wa]at JX ⊢
   exact tp ⟨_,rfl,k.pure st _ p e2 fp (s2 _ _ JX)⟩
  |true=>
  rw[hi,if_neg (by simp)]at k
  cases WC:cV (bV zs)with
  |error b=>
   rw[WC]at k
   have wa:qE zs=[1,(b.kind:Int),(b.place:Int)]:=by unfold qE;rw[hi,if_neg (by simp),WC]
   rw[wa]at JX ⊢
   exact tp ⟨_,rfl,k.pure st _ p e2 fp (s2 _ _ JX)⟩
  |ok g=>
  rw[WC]at k
  have wa:qE zs=[0]:=by unfold qE;rw[hi,if_neg (by simp),WC]
  rw[wa]
  obtain⟨t1,t2⟩:=Fv hi
  have gok:=aab WC
  have gnm:=QW WC
  have hx:∃dx v1 v2 v3,H x=some (.ins CS dx (JZ.zip [v1,v2,v3])):=by
   rcases st with⟨_,⟨⟨dx,e⟩,_⟩,_⟩|⟨f0,ws,a,_,T⟩
   ·exact⟨dx,_,_,_,e⟩
   ·obtain⟨dx,e⟩:=T.se.1
    exact⟨dx,_,_,_,e⟩
  obtain⟨dx,v1,v2,v3,hx⟩:=hx
  have C7:=e2 _ _ hx (λ φ q=>by cases q)
  have hz2:=e2 _ _ hz (λ φ q=>by cases q)
  refine rJ ⟨_,rfl,x,dx,_,rfl,C7,rfl,_,rfl,λ _ _ _ _ _ z=>z,rl,bV zs,rfl,nE.of (by rw[hz2,t1]),by omega,?_⟩
  rw[WC]
  intro H3 v e3 fa
  have e13:=e2.trans e3
  have hx3:=e13 _ _ hx (λ φ q=>by cases q)
  have xv:x≠v:=λ q=>by
   obtain⟨df,lc,lt,as,bs,h1,_⟩:=fa
   rw[<-q,hx3]at h1
   injection h1 with h1
   injection h1 with h1
   exact n1 h1
  refine⟨x,dx,v,v1,v2,v3,g,rfl,hx3,fa,gok.cells.len,xv,λ H4 Wb GC b4 hw hh ne se=>?_⟩
  have fs:=RT fa hx3 n1 n2 n3
  have sm0:m7 (J8 x H3) H4:=λ b o e=>by
   obtain⟨q1,q2,q3⟩:=Js e
   exact b4 b o q1 q2 q3
  have T:vf CS CF CC CT { told:=some g,field:=g,done:=d7 g } g (g.cells.map (·.weight)) v H4 x Wb GC:=
   ⟨se,ne,⟨J8 x H3,fs,sm0,by unfold J8;rw[if_pos rfl],Ln hw,Ln hh,λ b φ e=>(Js e).2.2 φ rfl⟩,gok,gnm,(RU g).symm,by rw[aa],by show(d7 g).length=_;exact Pb g,T5 g,λ n hn=>by
    obtain⟨c,hc,rfl⟩:=List.mem_map.mp hn
    have:=(gok.cells.each c hc).weight
    omega⟩
  obtain⟨dx4,hx4⟩:=T.se.1
  obtain⟨df,lc,lt,as,bs,f1,f2,f3,f4,f5⟩:=T.field
  refine⟨_,rfl,x,CS,dx4,_,_,rfl,hx4,S.cl,S.n1,rfl,v,CF,df,_,_,rfl,f1,nI.cl,nI.na "cells" (by simp),rfl,lc,_,rfl,.inl (nE.of f2),?_⟩
  refine⟨_,rfl,x,CS,dx4,_,_,rfl,hx4,S.cl,S.n1,rfl,v,CF,df,_,_,rfl,f1,nI.cl,nI.na "teams" (by simp),rfl,lt,_,rfl,.inl (nE.of f4),(by show 3<=ay;decide),λ q hq=>?_⟩
  rw[aa,aa,f3.1,f5.1]at *
  have n5:NE H4 (upd H4 q (.lst [V.int 0,V.int (g.cells.length:Nat),V.int (g.teams.length:Nat)])):=NE.of_same (m7.new hq)
  have fr:∀b,H3 b=none->Fr H b:=λ b hb o e=>by
   apply Classical.byContradiction
   intro z
   have:=e13 b o e λ φ q=>z ⟨φ,q⟩
   rw[this]at hb;cases hb
  refine k _ q Wb GC (.inr ⟨g,_,v,rfl,T.Vo n5⟩) (.inr (fr _ hw)) (.inr (fr _ hh)) (λ b o e m1 _ _ z=>n5 _ _ (b4 b o (e13 b o e z) m1 z) z) (λ o e=>?_) mZ
  apply Classical.byContradiction
  intro z
  have z':∀φ,o≠ .ext φ:=λ φ q=>z ⟨φ,q⟩
  have nqx:q≠x:=λ e=>by rw[e,hx4]at hq;cases hq
  have:=b4 q o (e13 q o e z') nqx z'
  rw[this]at hq;cases hq
def MU:List Nat:=[0,0,0,2,2,2,0,0,0,1,1,1,1,0,0,0,0,0,0,0]
def PR:List Nat:=[0,1,5,8,13,14,16]
def sU(i:Nat)(ns zs:List Int):Option de:=match i,ns with
 |0,[]=>some (.field zs)
 |1,[]=>some (.whereIs zs)
 |2,[]=>some .shown
 |3,[a,b]=>some (.vain a b)
 |4,[a,b]=>some (.back a b)
 |5,[a,b]=>some (.evidence a b zs)
 |6,[]=>some .chances
 |7,[]=>some .left_
 |8,[]=>some (.would zs)
 |9,[a]=>some (.best a)
 |10,[a]=>some (.curve a)
 |11,[a]=>some (.price a)
 |12,[a]=>some (.thrift_ a)
 |13,[]=>some (.order zs)
 |14,[]=>some (.takes zs)
 |15,[]=>some .teams
 |16,[]=>some (.can zs)
 |17,[]=>some .cells
 |18,[]=>some .counts
 |19,[]=>some .clear
 |_,_=>none
theorem link{i:Nat}{ns zs:List Int}(hi:i<20)(hn:ns.length=MU.getD i 0):∃vc,sU i ns zs=some vc/\VbmracNeutral.call (eP (((i:Int)::ns)::(if PR.contains i=true then[zs]else[])))=some vc:=by
 match i,hi,ns,hn with
 |0,_,[],_=>exact⟨_,rfl,rfl⟩
 |1,_,[],_=>exact⟨_,rfl,rfl⟩
 |2,_,[],_=>exact⟨_,rfl,rfl⟩
 |3,_,[a,b],_=>exact⟨_,rfl,rfl⟩
 |4,_,[a,b],_=>exact⟨_,rfl,rfl⟩
 |5,_,[a,b],_=>exact⟨_,rfl,rfl⟩
 |6,_,[],_=>exact⟨_,rfl,rfl⟩
 |7,_,[],_=>exact⟨_,rfl,rfl⟩
 |8,_,[],_=>exact⟨_,rfl,rfl⟩
 |9,_,[a],_=>exact⟨_,rfl,rfl⟩
 |10,_,[a],_=>exact⟨_,rfl,rfl⟩
 |11,_,[a],_=>exact⟨_,rfl,rfl⟩
 |12,_,[a],_=>exact⟨_,rfl,rfl⟩
 |13,_,[],_=>exact⟨_,rfl,rfl⟩
 |14,_,[],_=>exact⟨_,rfl,rfl⟩
 |15,_,[],_=>exact⟨_,rfl,rfl⟩
 |16,_,[],_=>exact⟨_,rfl,rfl⟩
 |17,_,[],_=>exact⟨_,rfl,rfl⟩
 |18,_,[],_=>exact⟨_,rfl,rfl⟩
 |19,_,[],_=>exact⟨_,rfl,rfl⟩
 |i+20,h,_,_=>omega
theorem Yx{p:Int}{n k:Nat}(h:cC p=some (n,k)):∃i:Nat,p=(i:Int)/\i<20/\n=MU.getD i 0/\k=if PR.contains i=true then 1 else 0:=by
 unfold cC at h
 by_cases h0:p=0
 ·rw[if_pos h0]at h;cases h;exact⟨0,h0,by decide,rfl,rfl⟩
 rw[if_neg h0]at h
 by_cases h1:p=1
 ·rw[if_pos h1]at h;cases h;exact⟨1,h1,by decide,rfl,rfl⟩
 rw[if_neg h1]at h
 by_cases h2:p=2
 ·rw[if_pos h2]at h;cases h;exact⟨2,h2,by decide,rfl,rfl⟩
 rw[if_neg h2]at h
 by_cases h3:p=3
 ·rw[if_pos h3]at h;cases h;exact⟨3,h3,by decide,rfl,rfl⟩
 rw[if_neg h3]at h
 by_cases h4:p=4
 ·rw[if_pos h4]at h;cases h;exact⟨4,h4,by decide,rfl,rfl⟩
 rw[if_neg h4]at h
 by_cases h5:p=5
 ·rw[if_pos h5]at h;cases h;exact⟨5,h5,by decide,rfl,rfl⟩
 rw[if_neg h5]at h
 by_cases h6:p=6
 ·rw[if_pos h6]at h;cases h;exact⟨6,h6,by decide,rfl,rfl⟩
 rw[if_neg h6]at h
 by_cases h7:p=7
 ·rw[if_pos h7]at h;cases h;exact⟨7,h7,by decide,rfl,rfl⟩
 rw[if_neg h7]at h
 by_cases h8:p=8
 ·rw[if_pos h8]at h;cases h;exact⟨8,h8,by decide,rfl,rfl⟩
 rw[if_neg h8]at h
 by_cases h9:p=9
 ·rw[if_pos h9]at h;cases h;exact⟨9,h9,by decide,rfl,rfl⟩
 rw[if_neg h9]at h
 by_cases h10:p=10
 ·rw[if_pos h10]at h;cases h;exact⟨10,h10,by decide,rfl,rfl⟩
 rw[if_neg h10]at h
 by_cases Y5:p=11
 ·rw[if_pos Y5]at h;cases h;exact⟨11,Y5,by decide,rfl,rfl⟩
 rw[if_neg Y5]at h
 by_cases h12:p=12
 ·rw[if_pos h12]at h;cases h;exact⟨12,h12,by decide,rfl,rfl⟩
 rw[if_neg h12]at h
 by_cases Y7:p=13
 ·rw[if_pos Y7]at h;cases h;exact⟨13,Y7,by decide,rfl,rfl⟩
 rw[if_neg Y7]at h
 by_cases Z5:p=14
 ·rw[if_pos Z5]at h;cases h;exact⟨14,Z5,by decide,rfl,rfl⟩
 rw[if_neg Z5]at h
 by_cases Y9:p=15
 ·rw[if_pos Y9]at h;cases h;exact⟨15,Y9,by decide,rfl,rfl⟩
 rw[if_neg Y9]at h
 by_cases GH:p=16
 ·rw[if_pos GH]at h;cases h;exact⟨16,GH,by decide,rfl,rfl⟩
 rw[if_neg GH]at h
 by_cases h17:p=17
 ·rw[if_pos h17]at h;cases h;exact⟨17,h17,by decide,rfl,rfl⟩
 rw[if_neg h17]at h
 by_cases h18:p=18
 ·rw[if_pos h18]at h;cases h;exact⟨18,h18,by decide,rfl,rfl⟩
 rw[if_neg h18]at h
 by_cases h19:p=19
 ·rw[if_pos h19]at h;cases h;exact⟨19,h19,by decide,rfl,rfl⟩
 rw[if_neg h19]at h
 cases h
theorem CA{lo hi:Int}{B:Nat}{zs:List Int}(h:PyInside.lists [(lo,hi,0,B)] [zs]=true):zs.length<=B:=by
 have h:(decide (0<=zs.length) && decide (zs.length<=B) && zs.all (PyInside.within lo hi) && true)=true:=h
 rw[bj,bj,bj]at h
 exact of_decide_eq_true h.1.1.2
theorem VG{i:Nat}(hi:i<20)(hw:PR.contains i=true){ns zs:List Int}(h:PyInside.call dz (((i:Int)::ns)::[zs])=true):zs.length<=(if i<2 then 1600 else 70):=by
 have h:(PyInside.each (dz (i:Int)).1 ns && PyInside.lists (dz (i:Int)).2 [zs])=true:=h
 rw[bj]at h
 have h2:=h.2
 match i,hi,hw,h2 with
 |0,_,_,h2=>exact CA h2
 |1,_,_,h2=>exact CA h2
 |5,_,_,h2=>exact CA h2
 |8,_,_,h2=>exact CA h2
 |13,_,_,h2=>exact CA h2
 |14,_,_,h2=>exact CA h2
 |16,_,_,h2=>exact CA h2
 |2,_,hw,_=>cases hw
 |3,_,hw,_=>cases hw
 |4,_,hw,_=>cases hw
 |6,_,hw,_=>cases hw
 |7,_,hw,_=>cases hw
 |9,_,hw,_=>cases hw
 |10,_,hw,_=>cases hw
 |11,_,hw,_=>cases hw
 |12,_,hw,_=>cases hw
 |15,_,hw,_=>cases hw
 |17,_,hw,_=>cases hw
 |18,_,hw,_=>cases hw
 |19,_,hw,_=>cases hw
 |i+20,h,_,_=>omega
theorem parse{p:Int}{r t:List Int}{c:List (List Int)}(h:PyFlat.call cC (p::r)=some (c,t))(hb:PyInside.call dz c=true):
  ∃(i:Nat) (ns zs:List Int) (vc:de),p=(i:Int)/\i<20/\MU.getD i 0<=r.length/\ns=r.take (MU.getD i 0)/\ns.length=MU.getD i 0/\sU i ns zs=some vc/\(∀s,VbmracNeutral.step s (eP c)=bM s vc)/\zs.length<=1600/\(2<=i->zs.length<=70)/\
   ((PR.contains i=false/\zs=[]/\t=r.drop (MU.getD i 0))\/(PR.contains i=true/\∃m r',r.drop (MU.getD i 0)=(m:Int)::r'/\0<=m/\m.toNat<=r'.length/\zs=r'.take m.toNat/\t=r'.drop m.toNat)):=by
 unfold PyFlat.call at h
 dsimp only at h
 cases hs:cC p with
 |none=>rw[hs]at h;cases h
 |some nk=>
  obtain⟨n,k⟩:=nk
  rw[hs]at h
  dsimp only at h
  obtain⟨i,rfl,hi,rfl,rfl⟩:=Yx hs
  by_cases hl:r.length<MU.getD i 0
  ·rw[if_pos hl]at h;cases h
  ·rw[if_neg hl]at h
   have ln:(r.take (MU.getD i 0)).length=MU.getD i 0:=by rw[bW];omega
   by_cases hw:PR.contains i=true
   ·rw[if_pos hw]at h
    unfold PyFlat.rows at h
    cases hr:PyFlat.row (r.drop (MU.getD i 0))with
    |none=>rw[hr]at h;cases h
    |some xs=>
     obtain⟨zs,t'⟩:=xs
     rw[hr]at h
     have h:some (((i:Int)::r.take (MU.getD i 0))::[zs],t')=some (c,t):=h
     cases h
     cases hd:r.drop (MU.getD i 0)with
     |nil=>rw[hd]at hr;cases hr
     |cons m r'=>
      rw[hd]at hr
      unfold PyFlat.row at hr
      dsimp only at hr
      by_cases hm:0<=m/\m.toNat<=r'.length
      ·rw[if_pos hm]at hr
       cases hr
       obtain⟨vc,v1,v2⟩:=link (zs:=r'.take m.toNat) hi ln
       rw[if_pos hw]at v2
       have bd:=VG hi hw hb
       refine⟨i,_,r'.take m.toNat,vc,rfl,hi,by omega,rfl,ln,v1,λ s=>?_,?_,λ h2=>?_,.inr ⟨hw,m,r',hd,hm.1,hm.2,rfl,rfl⟩⟩
       ·unfold VbmracNeutral.step;rw[v2]
       ·split at bd <;> omega
       ·rw[if_neg (by omega)]at bd;exact bd
      ·rw[if_neg hm]at hr;cases hr
   ·rw[if_neg hw]at h
    have h:some (((i:Int)::r.take (MU.getD i 0))::[],r.drop (MU.getD i 0))=some (c,t):=h
    cases h
    have hw':PR.contains i=false:=by
     cases q:PR.contains i with
     |false=>rfl
     |true=>exact absurd q hw
    obtain⟨vc,v1,v2⟩:=link (zs:=[]) hi ln
    rw[if_neg hw]at v2
    refine⟨i,_,[],vc,rfl,hi,by omega,rfl,ln,v1,λ s=>?_,aE _,λ _=>aE _,.inl ⟨hw',rfl,rfl⟩⟩
    unfold VbmracNeutral.step;rw[v2]
def acI(K:ah)(CS CF CC CT:ag):Nat->Sp
 |0=>Ub CS CF CC CT
 |1=>Mh K
 |2=>Bw CS CF CC CT 0 Yo
 |3=>Zf CS CF CC CT 2 T8
 |4=>Zf CS CF CC CT 2 T9
 |5=>Zf CS CF CC CT 2 Bc
 |6=>Bw CS CF CC CT 0 Jn
 |7=>Bw CS CF CC CT 0 Yp
 |8=>Bw CS CF CC CT 0 Rw
 |9=>Bw CS CF CC CT 1 Yf
 |10=>Bw CS CF CC CT 1 RB
 |11=>Bw CS CF CC CT 1 RD
 |12=>Bw CS CF CC CT 1 MK
 |13=>Bw CS CF CC CT 0 RG
 |14=>Bw CS CF CC CT 0 RI
 |15=>Bw CS CF CC CT 0 RJ
 |16=>Bw CS CF CC CT 0 aaw
 |17=>Bw CS CF CC CT 0 MP
 |18=>Bw CS CF CC CT 0 ML
 |_=>MN CS CF CC CT
def spU(CS CF CC CT:ag)(i:Nat):Sp:=λ vs H Q _=>∃(x wl hl nl rl:ag) (s:bR) (ns zs:List Int) (vc:de),vs=[.ref x,.ref nl,.ref rl]/\DV CS CF CC CT s H x wl hl/\H nl=some (.lst (iL ns))/\H rl=some (.lst (iL zs))/\sU i ns zs=some vc/\zs.length<=1600/\(2<=i->zs.length<=70)/\(s.told=none->i=0\/i=1\/i=19)/\KN CS CF CC CT x wl hl H Q (bM s vc)
theorem Uc{s:bR}{H:Hp}{x wl hl:ag}{i:Nat}(st:DV CS CF CC CT s H x wl hl)(ht:s.told=none->i=0\/i=1\/i=19)(hi:¬ (i=0\/i=1\/i=19)):∃f0 ws a,s.told=some f0/\vf CS CF CC CT s f0 ws a H x wl hl:=by
 rcases st with⟨h1,_⟩|h
 ·exact absurd (ht (by rw[h1];rfl)) hi
 ·exact h
theorem wJ{ar:Nat}{g:bR->ae->List Int->List Int->List Int}{i:Nat}{c:List Int->List Int->de}{vs:List V}{H:Hp}{Q:VK}{E:XK}(hi:¬ (i=0\/i=1\/i=19))(h2:2<=i)(hc:∀ns zs vc,sU i ns zs=some vc->ns.length=ar/\vc=c ns zs)
  (hs:∀(s:bR) f0 ns zs,s.told=some f0->bM s (c ns zs)=eO s f0 (c ns zs))(hp:∀s f0 ns zs,(eO s f0 (c ns zs)).1=s)(hg:∀s f0 ns zs,g s f0 ns zs=(eO s f0 (c ns zs)).2)(h:spU CS CF CC CT i vs H Q E):Bw CS CF CC CT ar g vs H Q E:=by
 obtain⟨x,wl,hl,nl,rl,s,ns,zs,vc,rfl,st,hn,hz,uE,l1,l2,ht,k⟩:=h
 obtain⟨f0,ws,a,told,T⟩:=Uc st ht hi
 obtain⟨ln,rfl⟩:=hc ns zs vc uE
 refine⟨x,wl,hl,nl,rl,a,s,f0,ws,ns,zs,rfl,T,hn,hz,ln,l2 h2,?_⟩
 rw[hs s f0 ns zs told]at k
 rw[hg]
 exact z9.ret (k.pure (by rw[hp];exact st))
theorem Yy{ar:Nat}{g:bR->ae->List Int->List Int->bR×List Int}{i:Nat}{c:List Int->List Int->de}{vs:List V}{H:Hp}{Q:VK}{E:XK}(hi:¬ (i=0\/i=1\/i=19))(h2:2<=i)(hc:∀ns zs vc,sU i ns zs=some vc->ns.length=ar/\vc=c ns zs)
  (hs:∀(s:bR) f0 ns zs,s.told=some f0->bM s (c ns zs)=g s f0 ns zs)(h:spU CS CF CC CT i vs H Q E):Zf CS CF CC CT ar g vs H Q E:=by
 obtain⟨x,wl,hl,nl,rl,s,ns,zs,vc,rfl,st,hn,hz,uE,l1,l2,ht,k⟩:=h
 obtain⟨f0,ws,a,told,T⟩:=Uc st ht hi
 obtain⟨ln,rfl⟩:=hc ns zs vc uE
 refine⟨x,wl,hl,nl,rl,a,s,f0,ws,ns,zs,rfl,told,T,hn,hz,ln,l2 h2,?_⟩
 rw[hs s f0 ns zs told]at k
 exact k
theorem rb{α β:Type}{c:Prop}[Decidable c]{a b:α×β}{s:α}(h1:a.1=s)(h2:b.1=s):(if c then a else b).1=s:=by
 by_cases h:c
 ·rw[if_pos h];exact h1
 ·rw[if_neg h];exact h2
theorem Pg{i:Nat}(h1:2<=i)(h2:i<19):¬ (i=0\/i=1\/i=19):=by omega
theorem tT{i:Nat}{c:List Int->de}(h:∀(ns zs:List Int),sU i ns zs=match ns with |[]=>some (c zs)|_=>none):∀ns zs vc,sU i ns zs=some vc->ns.length=0/\vc=c zs:=λ ns zs vc e=>by
 rw[h]at e
 cases ns with
 |nil=>cases e;exact⟨rfl,rfl⟩
 |cons a l=>cases e
theorem MV{i:Nat}{c:Int->de}(h:∀(ns zs:List Int),sU i ns zs=match ns with |[a]=>some (c a)|_=>none):∀ns zs vc,sU i ns zs=some vc->ns.length=1/\vc=c (ns.getD 0 0):=λ ns zs vc e=>by
 rw[h]at e
 match ns,e with
 |[a],e=>cases e;exact⟨rfl,rfl⟩
theorem RW{i:Nat}{c:Int->Int->List Int->de}(h:∀(ns zs:List Int),sU i ns zs=match ns with |[a,b]=>some (c a b zs)|_=>none):∀ns zs vc,sU i ns zs=some vc->ns.length=2/\vc=c (ns.getD 0 0) (ns.getD 1 0) zs:=λ ns zs vc e=>by
 rw[h]at e
 match ns,e with
 |[a,b],e=>cases e;exact⟨rfl,rfl⟩
theorem Ph{s:bR}{f0:ae}{c:de}(h:s.told=some f0)(hc:bM s c=match s.told with |none=>(s,[-20])|some f=>eO s f c):bM s c=eO s f0 c:=by rw[hc,h]
theorem uni{vs:List V}{H:Hp}{Q:VK}{E:XK}:∀i,i<20->spU CS CF CC CT i vs H Q E->acI K CS CF CC CT i vs H Q E
 |0,_,⟨x,wl,hl,nl,rl,s,ns,zs,vc,e,st,hn,hz,uE,l1,l2,ht,k⟩=>by
  obtain⟨_,rfl⟩:=tT (i:=0) (c:=λ zs=>.field zs) (λ ns zs=>by cases ns <;> rfl) ns zs vc uE
  exact⟨x,wl,hl,nl,rl,s,zs,e,st,hz,l1,k⟩
 |1,_,⟨x,wl,hl,nl,rl,s,ns,zs,vc,e,st,hn,hz,uE,l1,l2,ht,k⟩=>by
  obtain⟨_,rfl⟩:=tT (i:=1) (c:=λ zs=>.whereIs zs) (λ ns zs=>by cases ns <;> rfl) ns zs vc uE
  have e1:bM s (.whereIs zs)=(s,qE zs):=by
   show(if dD zs=false then(s,[-1])else match cV (bV zs)with | .error b=>(s,[1,(b.kind:Int),(b.place:Int)])| .ok f=>(s,[0]))=_
   unfold qE
   cases dD zs with
   |false=>rfl
   |true=>
    rw[if_neg (by simp),if_neg (by simp)]
    cases cV (bV zs) <;> rfl
  rw[e1]at k
  exact⟨.ref x,.ref nl,rl,zs,e,nE.of hz,l1,k.pure st⟩
 |2,_,h=>wJ (c:=λ _ _=>.shown) (Pg (by decide) (by decide)) (by decide) (tT (c:=λ _=>.shown) λ ns zs=>by cases ns <;> rfl) (λ s f0 ns zs t=>Ph t rfl) (λ s f0 ns zs=>rfl) (λ s f0 ns zs=>rfl) h
 |3,_,h=>Yy (c:=λ ns _=>.vain (ns.getD 0 0) (ns.getD 1 0)) (Pg (by decide) (by decide)) (by decide) (RW (c:=λ a b _=>.vain a b) λ ns zs=>by rcases ns with _|⟨a,_|⟨b,_|_⟩⟩ <;> rfl) (λ s f0 ns zs t=>Ph t rfl) h
 |4,_,h=>Yy (c:=λ ns _=>.back (ns.getD 0 0) (ns.getD 1 0)) (Pg (by decide) (by decide)) (by decide) (RW (c:=λ a b _=>.back a b) λ ns zs=>by rcases ns with _|⟨a,_|⟨b,_|_⟩⟩ <;> rfl) (λ s f0 ns zs t=>Ph t rfl) h
 |5,_,h=>Yy (c:=λ ns zs=>.evidence (ns.getD 0 0) (ns.getD 1 0) zs) (Pg (by decide) (by decide)) (by decide) (RW (c:=λ a b zs=>.evidence a b zs) λ ns zs=>by rcases ns with _|⟨a,_|⟨b,_|_⟩⟩ <;> rfl) (λ s f0 ns zs t=>Ph t rfl) h
 |6,_,h=>wJ (c:=λ _ _=>.chances) (Pg (by decide) (by decide)) (by decide) (tT (c:=λ _=>.chances) λ ns zs=>by cases ns <;> rfl) (λ s f0 ns zs t=>Ph t rfl) (λ s f0 ns zs=>rb rfl rfl) (λ s f0 ns zs=>rfl) h
 |7,_,h=>wJ (c:=λ _ _=>.left_) (Pg (by decide) (by decide)) (by decide) (tT (c:=λ _=>.left_) λ ns zs=>by cases ns <;> rfl) (λ s f0 ns zs t=>Ph t rfl) (λ s f0 ns zs=>rb rfl rfl) (λ s f0 ns zs=>rfl) h
 |8,_,h=>wJ (c:=λ _ zs=>.would zs) (Pg (by decide) (by decide)) (by decide) (tT (c:=λ zs=>.would zs) λ ns zs=>by cases ns <;> rfl) (λ s f0 ns zs t=>Ph t rfl) (λ s f0 ns zs=>rb rfl (rb rfl (rb rfl rfl))) (λ s f0 ns zs=>rfl) h
 |9,_,h=>wJ (c:=λ ns _=>.best (ns.getD 0 0)) (Pg (by decide) (by decide)) (by decide) (MV (c:=λ a=>.best a) λ ns zs=>by rcases ns with _|⟨a,_|_⟩ <;> rfl) (λ s f0 ns zs t=>Ph t rfl) (λ s f0 ns zs=>rb rfl (rb rfl (rb rfl rfl))) (λ s f0 ns zs=>rfl) h
 |10,_,h=>wJ (c:=λ ns _=>.curve (ns.getD 0 0)) (Pg (by decide) (by decide)) (by decide) (MV (c:=λ a=>.curve a) λ ns zs=>by rcases ns with _|⟨a,_|_⟩ <;> rfl) (λ s f0 ns zs t=>Ph t rfl) (λ s f0 ns zs=>rb rfl (rb rfl (rb rfl rfl))) (λ s f0 ns zs=>rfl) h
 |11,_,h=>wJ (c:=λ ns _=>.price (ns.getD 0 0)) (Pg (by decide) (by decide)) (by decide) (MV (c:=λ a=>.price a) λ ns zs=>by rcases ns with _|⟨a,_|_⟩ <;> rfl) (λ s f0 ns zs t=>Ph t rfl) (λ s f0 ns zs=>rb rfl (rb rfl (rb rfl rfl))) (λ s f0 ns zs=>rfl) h
 |12,_,h=>wJ (c:=λ ns _=>.thrift_ (ns.getD 0 0)) (Pg (by decide) (by decide)) (by decide) (MV (c:=λ a=>.thrift_ a) λ ns zs=>by rcases ns with _|⟨a,_|_⟩ <;> rfl) (λ s f0 ns zs t=>Ph t rfl) (λ s f0 ns zs=>rb rfl (rb rfl rfl)) (λ s f0 ns zs=>rfl) h
 |13,_,h=>wJ (c:=λ _ zs=>.order zs) (Pg (by decide) (by decide)) (by decide) (tT (c:=λ zs=>.order zs) λ ns zs=>by cases ns <;> rfl) (λ s f0 ns zs t=>Ph t rfl) (λ s f0 ns zs=>rb rfl (rb rfl (rb rfl rfl))) (λ s f0 ns zs=>rfl) h
 |14,_,h=>wJ (c:=λ _ zs=>.takes zs) (Pg (by decide) (by decide)) (by decide) (tT (c:=λ zs=>.takes zs) λ ns zs=>by cases ns <;> rfl) (λ s f0 ns zs t=>Ph t rfl) (λ s f0 ns zs=>rb rfl (rb rfl (rb rfl rfl))) (λ s f0 ns zs=>rfl) h
 |15,_,h=>wJ (c:=λ _ _=>.teams) (Pg (by decide) (by decide)) (by decide) (tT (c:=λ _=>.teams) λ ns zs=>by cases ns <;> rfl) (λ s f0 ns zs t=>Ph t rfl) (λ s f0 ns zs=>rb rfl rfl) (λ s f0 ns zs=>rfl) h
 |16,_,h=>wJ (c:=λ _ zs=>.can zs) (Pg (by decide) (by decide)) (by decide) (tT (c:=λ zs=>.can zs) λ ns zs=>by cases ns <;> rfl) (λ s f0 ns zs t=>Ph t rfl) (λ s f0 ns zs=>rb rfl rfl) (λ s f0 ns zs=>rfl) h
 |17,_,h=>wJ (c:=λ _ _=>.cells) (Pg (by decide) (by decide)) (by decide) (tT (c:=λ _=>.cells) λ ns zs=>by cases ns <;> rfl) (λ s f0 ns zs t=>Ph t rfl) (λ s f0 ns zs=>rfl) (λ s f0 ns zs=>rfl) h
 |18,_,h=>wJ (c:=λ _ _=>.counts) (Pg (by decide) (by decide)) (by decide) (tT (c:=λ _=>.counts) λ ns zs=>by cases ns <;> rfl) (λ s f0 ns zs t=>Ph t rfl) (λ s f0 ns zs=>rfl) (λ s f0 ns zs=>rfl) h
 |19,_,⟨x,wl,hl,nl,rl,s,ns,zs,vc,e,st,hn,hz,uE,l1,l2,ht,k⟩=>by
  obtain⟨_,rfl⟩:=tT (i:=19) (c:=λ _=>.clear) (λ ns zs=>by cases ns <;> rfl) ns zs vc uE
  exact⟨x,wl,hl,nl,rl,s,e,st,k⟩
 |i+20,h,_=>by omega
def MW(P:aJ)(w:aY)(K:ah)(mg:Str->Option ao)(base:bz)(CS CF CC CT:ag)(gs:List ag):Prop:=gs.length=20/\∀(i:Nat) (g:ag),gs[i]? =some g->∃fd ps,nQ P w K mg base oG 10 g fd ps (acI K CS CF CC CT i)/\bY K (.ref g)=true/\Binds K fd ps []
def Jt(CS CF CC CT:ag):Sp:=λ vs H Q _=>∃(x wl hl nl rl:ag) (s:bR) (i:Nat) (ns zs:List Int) (vc:de),vs=[.ref x,.int (i:Nat),.ref nl,.ref rl]/\i<20/\DV CS CF CC CT s H x wl hl/\H nl=some (.lst (iL ns))/\H rl=some (.lst (iL zs))/\sU i ns zs=some vc/\zs.length<=1600/\(2<=i->zs.length<=70)/\KN CS CF CC CT x wl hl H Q (bM s vc)
theorem VH{s:bR}{i:Nat}{ns zs:List Int}{vc:de}(h:sU i ns zs=some vc)(ht:s.told=none)(hi:¬ (i=0\/i=1\/i=19)):bM s vc=(s,[-20]):=by
 have go:∀c:de,(bM s c=match s.told with |none=>(s,[-20])|some f=>eO s f c)->bM s c=(s,[-20]):=λ c hc=>by rw[hc,ht]
 unfold sU at h
 split at h
 all_goals first
  |(exact absurd (Or.inl rfl) hi)
  |(exact absurd (Or.inr (Or.inl rfl)) hi)
  |(exact absurd (Or.inr (Or.inr rfl)) hi)
  |(cases h;exact go _ rfl)
  |(cases h)
abbrev VI:List Str:=["search","call","numbers","row"]
theorem Ju:m9 VI ["search","call","numbers","row"] (m5 EE):=qh
theorem RX(F:pI K "answer_of" "answer_of" EE f fd){ta tw:ag}{gs:List ag}(S:p6 K CS)(hC:MW P w K mg base CS CF CC CT gs)(rf:N6 K mg "WITHOUT_A_FIELD" tw (nX [0,1,19]))(CD:oF mg "NO_FIELD" (-20))(DY:N6 K mg "CALLS" ta (gs.map V.ref)):nQ P w K mg base oG 11 f fd ["search","call","numbers","row"] (Jt CS CF CC CT):=by
 refine F.ok Ju (λ vs H Q E h=>?_) (λ oW A outer s H vs Q E hr h=>?_)
 ·obtain⟨x,wl,hl,nl,rl,s',i,ns,zs,vc,rfl,_⟩:=h
  rfl
 ·obtain⟨x,wl,hl,nl,rl,s',i,ns,zs,vc,rfl,hi,st,hn,hz,uE,l1,l2,k⟩:=h
  have nd:=Ju.nd
  refine⟨_,(mX (pj (PW.pt (Eg (PY (abl (nq (pv 0) rfl))) (AO (oq uG (pv 1) (Ky rf) (by with_unfolding_all rfl))))) (m6 (nj (nP (mW (nU CD) mY)))) nZ)
   (m6 (nj (WW (o_ Wo (Ky DY) (pv 1) (λ _ _=>rfl)) nr (mW (pv 0) (mW (pv 2) (mW (pv 3) mY))))))),?_⟩
  have hx:∃dx v,H x=some (.ins CS dx (JZ.zip [v,.ref wl,.ref hl]))/\(decide (v=V.qA)=decide (s'.told=none)):=by
   rcases st with⟨h1,⟨⟨dx,e⟩,_⟩,_⟩|⟨f0,ws,a,told,T⟩
   ·exact⟨dx,_,e,by rw[h1];rfl⟩
   ·obtain⟨dx,e⟩:=T.se.1
    exact⟨dx,_,e,by rw[told];rfl⟩
  obtain⟨dx,v,hx,hv⟩:=hx
  have GO:(s'.told=none->i=0\/i=1\/i=19)->spU CS CF CC CT i [.ref x,.ref nl,.ref rl] H Q E0:=λ ht=>⟨x,wl,hl,nl,rl,s',ns,zs,vc,rfl,st,hn,hz,uE,l1,l2,ht,k⟩
  obtain⟨g,hg⟩:∃g,gs[i]? =some g:=⟨_,af (by rw[hC.1];exact hi)⟩
  obtain⟨gd,ps,G1,G2,G3⟩:=hC.2 i g hg
  have ad3:(gs.map V.ref)[i]? =some (V.ref g):=by rw[ak,hg];rfl
  refine⟨_,rfl,x,CS,dx,_,_,rfl,hx,S.cl,S.n1,rfl,_,rfl,?_⟩
  rw[hv]
  refine p_ (λ ht=>?_) λ ht=>?_
  ·have ht:=of_decide_eq_true ht
   refine⟨_,rfl,tw,_,rfl,.inr (rf.2 H),rfl,rfl,_,rfl,?_⟩
   have ei:(if true=true then !GQ (.int (i:Nat)) (nX [0,1,19])else GQ (.int (i:Nat)) (nX [0,1,19]))= !([0,1,19]:List Nat).contains i:=by rw[if_pos rfl,Dl]
   show if(if true=true then !GQ (.int (i:Nat)) (nX [0,1,19])else GQ (.int (i:Nat)) (nX [0,1,19]))=true then _ else _
   rw[ei]
   refine p_ (λ hq=>?_) λ hq=>?_
   ·have nh:¬ (i=0\/i=1\/i=19):=λ z=>by
     rcases z with rfl|rfl|rfl <;> cases hq
    rw[VH uE ht nh]at k
    exact⟨(by show 1<=ay;decide),o9 (z9.ret (k.pure st)) (m7.refl _) rfl⟩
   ·have yh:i=0\/i=1\/i=19:=by
     have:([0,1,19]:List Nat).contains i=true:=by
      cases z:([0,1,19]:List Nat).contains i with
      |true=>rfl
      |false=>rw[z]at hq;exact absurd rfl hq
     have:=List.contains_iff_mem.mp this
     simpa using this
    exact⟨_,rfl,ta,_,_,_,rfl,rfl,DY.2 H,ot ad3,g,spU CS CF CC CT i,rfl,⟨10,gd,ps,G1.imp λ vs H Q E h=>uni i hi h,hr,G2,G3⟩,_,rfl,_,rfl,_,rfl,GO λ _=>yh⟩
  ·have ht:¬ s'.told=none:=λ q=>ht (decide_eq_true q)
   refine rJ ⟨_,rfl,ta,_,_,_,rfl,rfl,DY.2 H,ot ad3,g,spU CS CF CC CT i,rfl,⟨10,gd,ps,G1.imp λ vs H Q E h=>uni i hi h,hr,G2,G3⟩,_,rfl,_,rfl,_,rfl,GO λ q=>absurd q ht⟩
end oh
namespace L2
def del(H:Hp)(y:ag):Hp:=λ b=>if b=y then none else H b
theorem sV(H:Hp)(y:ag):del H y y=none:=by unfold del;rw[if_pos rfl]
theorem qe{H:Hp}{y b:ag}(h:b≠y):del H y b=H b:=by unfold del;rw[if_neg h]
theorem Ud{H:Hp}{y b:ag}{o:HO}(h:del H y b=some o):b≠y/\H b=some o:=by
 by_cases e:b=y
 ·rw[e,sV]at h;cases h
 ·rw[qe e]at h;exact⟨e,h⟩
theorem aaD{H:Hp}{y:ag}{o:HO}:del (upd H y o) y=del H y:=by
 funext b
 by_cases e:b=y
 ·rw[e,sV,sV]
 ·rw[qe e,qe e,m4 e]
theorem Yz{H:Hp}{y:ag}(h:H y=none):del H y=H:=by
 funext b
 by_cases e:b=y
 ·rw[e,sV,h]
 ·rw[qe e]
theorem m7.del{H H':Hp}(sm:m7 H H')(y:ag):m7 (del H y) (del H' y):=λ b o e=>by
 obtain⟨n,e⟩:=Ud e
 rw[qe n];exact sm b o e
theorem nQ.frame{P:aJ}{w:aY}{K:ah}{mg:Str->Option ao}{base:bz}{k:Nat}{f:ag}{fd:bK}{ps:List Str}{sp:Sp}(F:nQ P w K mg base oG k f fd ps sp):
  nQ P w K mg base oG k f fd ps (λ vs H Q _=>∃y ys,H y=some (.lst ys)/\sp vs (del H y) (λ v H2=>H2 y=none->Q v (upd H2 y (.lst ys))) E0):=by
 refine⟨λ vs H Q E ⟨y,ys,_,h⟩=>F.len _ _ _ _ h,λ A outer s H args us vs Q E hr he hb hv ⟨y,ys,hy,hs⟩=>?_⟩
 have he':LD P w K mg base A outer s (del H y):=by
  refine⟨he.frames,he.mod,λ b o e=>⟨(he.bs b o e).1,?_⟩,he.Sq,he.Bf,λ b hb=>?_,λ b o e=>?_,he.bare⟩
  ·by_cases q:b=y
   ·rw[q,sV]
   ·rw[qe q];exact(he.bs b o e).2
  ·by_cases q:b=y
   ·rw[q,sV]
   ·rw[qe q];exact he.VU b hb
  ·obtain⟨n,e⟩:=Ud e
   refine(he.oX b o e).Ef (λ c u _ z=>z) (λ c z=>?_) λ c xs z=>?_
   ·rw[qe (λ q=>by rw[q,hy]at z;cases z)];exact z
   ·rw[qe (λ q=>by rw[q,hy]at z;cases z)];exact z
 refine dX (F.run A outer s (del H y) args us vs _ E0 hr he' hb hv hs) λ r s' h=>?_
 cases r with
 |error e=>exact(h:False).elim
 |ok fl=>
  cases fl with
  |ret u=>
   obtain⟨v,H',h1,h2,un,oX,rv,q⟩:=h
   obtain⟨sz,om,n,r,e⟩:=he.oX y _ hy
   have nf:y∉PU outer:=λ z=>by rw[he.VU y z]at hy;cases hy
   have dn:=sV H y
   have e':=un.keep y _ e dn nf (by simp)
   have fr:=un.free y _ e dn (by simp)
   have ne:∀{b:ag} {o:HO},H' b=some o->b≠y:=λ z q=>by rw[q,fr]at z;cases z
   have ny:∀{b:ag} {o:HO},H b=some o->(∀ys,o≠ .lst ys)->b≠y:=λ z g q=>by
    rw[q,hy]at z
    exact g ys (Option.some.inj z).symm
   refine⟨v,upd H' y (.lst ys),h1,h2,⟨?_,?_,?_,λ b o e x=>un.there b o e x,?_,?_,?_⟩,λ b o z=>?_,rv,q fr⟩
   ·intro b o z1 z2 z3 z4
    have nb:b≠y:=λ q=>by rw[q,hy]at z2;cases z2
    exact un.keep b o z1 (by rw[qe nb];exact z2) z3 z4
   ·intro b o z1 z2 z3 z4
    have nb:b≠y:=λ q=>by rw[q,hy]at z2;cases z2
    exact un.slot b o z1 (by rw[qe nb];exact z2) z3 z4
   ·intro b o z1 z2 z3
    have nb:b≠y:=λ q=>by rw[q,hy]at z2;cases z2
    rw[m4 nb]
    exact un.free b o z1 (by rw[qe nb];exact z2) z3
   ·intro b xs z
    have nb:=ny z (λ ys q=>by cases q)
    rw[m4 nb]
    exact un.JN b xs (by rw[qe nb];exact z)
   ·intro b o u z
    have nb:=ny z (λ ys q=>by cases q)
    rw[m4 nb]
    exact un.GB b o u (by rw[qe nb];exact z)
   ·intro b ps z
    have nb:=ny z (λ ys q=>by cases q)
    rw[m4 nb]
    exact un.JO b ps (by rw[qe nb];exact z)
   ·by_cases eb:b=y
    ·subst eb
     rw[mZ]at z
     cases z
     exact⟨sz,om,n,r,e'⟩
    ·rw[m4 eb]at z
     exact(oX b o z).Ef (λ c u _ z=>z) (λ c z=>by rw[m4 (ne z)];exact z) λ c xs z=>by rw[m4 (ne z)];exact z
  |_=>exact h
theorem NE.seq{K:ah}{H H':Hp}{a:ag}{xs:List V}(n:NE H H')(h:nE K H a xs):nE K H' a xs:=by
 rcases h with (h|⟨o,h⟩)|h
 ·exact .inl (.inl (n _ _ h (λ φ q=>by cases q)))
 ·exact .inl (.inr ⟨o,n _ _ h (λ φ q=>by cases q)⟩)
 ·exact .inr h
end L2
namespace oh
def ad4(CS CF CC CT:ag):Sp:=λ vs H Q _=>∃y ys,H y=some (.lst ys)/\Jt CS CF CC CT vs (del H y) (λ v H2=>H2 y=none->Q v (upd H2 y (.lst ys))) E0
def VJ(s:bR)(cs:List (List (List Int))):List Int:=PyFlat.told (PyFlat.played VbmracNeutral.step s (cs.map eP))
theorem VL(s:bR)(c:List (List Int))(cs:List (List (List Int))):VJ s (c::cs)=((VbmracNeutral.step s (eP c)).2.length:Int)::((VbmracNeutral.step s (eP c)).2++VJ (VbmracNeutral.step s (eP c)).1 cs):=by
 unfold VJ PyFlat.told
 rw[aH]
 show List.flatMap _ (_::PyFlat.played _ _ _)=_
 rw[eW];rfl
theorem YA(l:List Int){i e:Nat}(h1:i<=e)(h2:e<=l.length):BE (iL l) (some (i:Int)) (some (e:Int))=iL ((l.drop i).take (e-i)):=by
 unfold BE
 rw[HT.GN,HT.GN,pW,fO (aT h1 h2),fO h2]
 unfold iL
 rw[<-lY,<-lX]
theorem Fr.back{H H':Hp}{q:ag}(n:NE H H')(f:Fr H' q):Fr H q:=λ o e=>by
 apply Classical.byContradiction
 intro z
 exact z (f o (n q o e λ φ y=>z ⟨φ,y⟩))
theorem RY{f:Nat}{p:Int}{r:List Int}{rest:List (List (List Int))}(h:PyFlat.calls cC f (p::r)=some rest):∃f' c t cs,PyFlat.call cC (p::r)=some (c,t)/\PyFlat.calls cC f' t=some cs/\rest=c::cs:=by
 cases f with
 |zero=>cases h
 |succ f=>
  unfold PyFlat.calls at h
  cases h1:PyFlat.call cC (p::r)with
  |none=>rw[h1]at h;cases h
  |some ct=>
   obtain⟨c,t⟩:=ct
   rw[h1]at h
   dsimp only at h
   cases h2:PyFlat.calls cC f t with
   |none=>rw[h2]at h;cases h
   |some cs=>
    rw[h2]at h
    cases h
    exact⟨f,c,t,cs,rfl,h2,rfl⟩
def E6(K:ah):Sp:=λ vs H Q _=>∃(a:ag) (l:List Int),vs=[.ref a]/\nE K H a (iL l)/\gw l=true/\∀H' p,H' p=some (.lst (iL (dA l)))->Q (.ref p) H'
theorem YB{l:List Int}(h:gw l=true):∃raw,PyFlat.calls cC l.length l=some raw/\PyInside.calls dz raw=true/\(dA l).length<=10000000/\dA l=VJ iF raw:=by
 unfold gw at h
 cases q:PyFlat.calls cC l.length l with
 |none=>rw[q]at h;cases h
 |some raw=>
  rw[q]at h
  dsimp only at h
  rw[bj,bj,bj]at h
  refine⟨raw,rfl,h.1.1.2,of_decide_eq_true h.2,?_⟩
  unfold dA PyVbmrac.calls
  rw[q];rfl
abbrev YC:List Str:=["calls","search","given","at","call","start","numbers","row","answer"]
theorem Lo:m9 YC ["calls"] (m5 Hs):=qh
theorem VM(F:pI K "answers" "answers" Hs f fd){tl tn fI:ag}{fdI:bK}(S:p6 K CS)(YD:Mk K CS fI)(YE:nQ P w K mg base oG 1 fI fdI ["self"] (DC CS))(YF:Binds K fdI ["self"] [])(YG:mg "Search"=some (.ref CS))(pd:mg "len"=none)(qR:N6 K mg "HOW_MANY_NUMBERS" tn (nX MU))(t_:N6 K mg "WITH_A_LIST" tl (nX PR))(Ar:rB P w K mg base oG 11 "answer_of" ["search","call","numbers","row"] (ad4 CS CF CC CT)):nQ P w K mg base oG 12 f fd ["calls"] (E6 K):=by
 refine F.ok Lo (λ vs H Q E h=>?_) (λ oW A outer s H vs Q E hr h=>?_)
 ·obtain⟨a,l,rfl,_⟩:=h
  rfl
 ·obtain⟨a,l,rfl,hs,acJ,k⟩:=h
  have nd:=Lo.nd
  refine⟨_,(mX (m8 (i:=1) nd rfl (Or.inl rfl) (Wn (E:=E0) YD YE (hr.mono (by decide)) rfl YG YF .nil nr))
   (mX (m8 (i:=2) nd rfl (Or.inl rfl) (nP mY))
   (mX (m8 (i:=3) nd rfl (Or.inl rfl) nO)
   (mX (rM PassesOwn.never (oq G_ (pv 3) (nM nN rfl pd aX (mW (pv 0) mY)) (oK _)) (mX (m8 (i:=4) nd rfl (Or.inl rfl) (o_ og (pv 0) (pv 3) (λ _ _=>rfl)))
   (mX (m8 (i:=5) nd rfl (Or.inl rfl) (oj qV (pv 3) nO))
   (mX (m8 (i:=3) nd rfl (Or.inl rfl) (oj qV (pv 5) (o_ Wo (Ky qR) (pv 4) (λ _ _=>rfl))))
   (mX (m8 (i:=6) nd rfl (Or.inl rfl) (C0 GP (pv 0) (wm (pv 5)) (wm (pv 3))))
   (mX (m8 (i:=7) nd rfl (Or.inl rfl) (nP mY))
   (mX (pj (oq AR (pv 4) (Ky t_) (by with_unfolding_all rfl)) (mX (m8 (i:=5) nd rfl (Or.inl rfl) (oj qV (pv 3) nO))
   (mX (m8 (i:=3) nd rfl (Or.inl rfl) (oj qV (pv 5) (o_ og (pv 0) (pv 3) (λ _ _=>rfl))))
   (m6 (m8 (i:=7) nd rfl (Or.inl rfl) (C0 GP (pv 0) (wm (pv 5)) (wm (pv 3))))))) nZ)
   (mX (m8 (i:=8) nd rfl (Or.inl rfl) (nv (E:=E0) Ar hr (by decide) nr (mW (pv 1) (mW (pv 4) (mW (pv 6) (mW (pv 7) mY))))))
   (mX (n_ (qT aG bc a_ pF (pv 2) (mW (nM nN rfl pd aX (mW (pv 8) mY)) mY)))
   (m6 (n_ (qT aG cT cS va (pv 2) (mW (pv 8) mY)))))))))))))
   (m6 (nj (pv 2))))))),?_⟩
  obtain⟨raw,afg,afh,acK,afi⟩:=YB acJ
  intro x dx nx ndx nex
  refine⟨x,dx,rfl,mZ,λ H1 wl hl b1 hw hh ne se=>⟨rfl,?_⟩⟩
  have n1:NE H H1:=λ b o e z=>by
   have e1:b≠x:=λ q=>by rw[q,nx]at e;cases e
   have e2:b≠dx:=λ q=>by rw[q,ndx]at e;cases e
   exact b1 b o (by rw[m4 e1,m4 e2];exact e) e1 z
  have up0:∀b o,H b=some o->(upd (upd H dx (.own x)) x (.ins CS dx [])) b=some o:=λ b o e=>by
   have e1:b≠x:=λ q=>by rw[q,nx]at e;cases e
   have e2:b≠dx:=λ q=>by rw[q,ndx]at e;cases e
   rw[m4 e1,m4 e2];exact e
  have fw0:H wl=none:=none_of up0 hw
  have fh0:H hl=none:=none_of up0 hh
  refine⟨aE _,λ gv hgv=>?_⟩
  have aaE:Fr H gv:=Fr.of n1 hgv
  have s1:m7 H1 (upd H1 gv (.lst [])):=m7.new hgv
  refine⟨λ m σ H'=>∃(o4 o5 o6 o7 o8:Option V) (x wl hl:ag) (s':bR) (gi:List Int) (uF fu:Nat) (rest:List (List (List Int))),σ=[some (.ref a),some (.ref x),some (.ref gv),some (.int (uF:Nat)),o4,o5,o6,o7,o8]/\NE H H'/\Fr H x/\Fr H wl/\Fr H hl/\H' gv=some (.lst (iL gi))/\DV CS CF CC CT s' (del H' gv) x wl hl/\uF<=l.length/\m=l.length-uF/\l.drop uF=l.drop uF/\PyFlat.calls cC fu (l.drop uF)=some rest/\PyInside.calls dz rest=true/\dA l=gi++VJ s' rest,
   ⟨l.length,none,none,none,none,none,x,wl,hl,iF,[],0,l.length,raw,rfl,n1.trans (NE.of_same s1),Fr.none nx,Fr.none fw0,Fr.none fh0,mZ,.inl ⟨rfl,by rw[aaD,Yz hgv];exact se,ne⟩,aE _,rfl,rfl,afg,afh,by rw[afi];rfl⟩,?_⟩
  rintro m σ H' ⟨o4,o5,o6,o7,o8,x,wl,hl,s',gi,uF,fu,rest,rfl,keep,fx,fw,fh,VN,st,EF,rfl,_,MX,YH,heq⟩
  have Zc:=keep.seq hs
  refine⟨_,rfl,_,rfl,a,_,rfl,.inl Zc,_,_,rfl,rfl,_,rfl,?_⟩
  rw[pW]
  refine p_ (λ hc=>?_) λ hc=>?_
  ·have hc:(uF:Int)<(l.length:Int):=of_decide_eq_true hc
   have rN:uF<l.length:=by omega
   obtain⟨pp,hpp⟩:∃pp,l[uF]? =some pp:=⟨_,af rN⟩
   have Bn:=yw hpp
   rw[Bn]at MX
   obtain⟨f',c,t,cs,acL,Mg,rfl⟩:=RY MX
   have hb1:PyInside.call dz c=true/\PyInside.calls dz cs=true:=by
    unfold PyInside.calls at YH
    rw[gA,bj]at YH
    exact YH
   obtain⟨hbc,hbs⟩:=hb1
   obtain⟨i,ns,zs,vc,rfl,hi,hle,SV,lns,uE,ad5,l1,l2,ad6⟩:=parse acL hbc
   generalize hn:MU.getD i 0=n at hle SV lns ad6
   have hr:(l.drop (uF+1)).length=l.length-(uF+1):=gG
   rw[hr]at hle
   have hmn:MU[i]? =some n:=by rw[<-hn];exact getD_at hi
   have eo:dA l=gi++(((bM s' vc).2.length:Int)::((bM s' vc).2++VJ (bM s' vc).1 cs)):=by rw[heq,VL,ad5]
   have tot:gi.length+1+(bM s' vc).2.length<=10000000:=by
    rw[eo,aw,aD,aw]at acK
    omega
   refine⟨_,λ _ _ z=>z,_,rfl,_,rfl,a,_,_,_,rfl,rfl,Zc,ot (aa8 hpp),_,rfl,_,_,rfl,rfl,_,rfl,_,rfl,tn,_,_,_,rfl,rfl,qR.2 H',ot (oU hmn),_,_,rfl,rfl,?_⟩
   refine⟨_,rfl,_,rfl,_,rfl,_,rfl,_,rfl,a,_,rfl,Zc,λ nl hnl=>?_⟩
   have e1:BE (iL l) (some ((uF:Int)+1)) (some ((uF:Int)+1+(n:Int)))=iL ns:=by
    have:=YA l (i:=uF+1) (e:=uF+1+n) (by omega) (by omega)
    rw[show uF+1+n-(uF+1)=n by omega,<-SV]at this
    exact this
   have nlg:nl≠gv:=λ q=>by rw[q,VN]at hnl;cases hnl
   have sA:m7 H' (upd H' nl (.lst (BE (iL l) (some ((uF:Int)+1)) (some ((uF:Int)+1+(n:Int)))))):=m7.new hnl
   have HNA:(upd H' nl (.lst (BE (iL l) (some ((uF:Int)+1)) (some ((uF:Int)+1+(n:Int)))))) nl=some (.lst (iL ns)):=by rw[mZ,e1]
   generalize hHA:upd H' nl (.lst (BE (iL l) (some ((uF:Int)+1)) (some ((uF:Int)+1+(n:Int)))))=HA at sA HNA
   refine⟨aE _,λ r0 WY=>?_⟩
   have sB:m7 HA (upd HA r0 (.lst [])):=m7.new WY
   have r0g:r0≠gv:=λ q=>by rw[q,sA _ _ VN]at WY;cases WY
   refine⟨_,rfl,tl,_,rfl,.inr (t_.2 _),rfl,rfl,_,rfl,?_⟩
   have ew:(if false=true then !GQ (.int (i:Nat)) (nX PR)else GQ (.int (i:Nat)) (nX PR))=PR.contains i:=Dl i PR
   show if(if false=true then !GQ (.int (i:Nat)) (nX PR)else GQ (.int (i:Nat)) (nX PR))=true then _ else _
   rw[ew]
   rcases ad6 with⟨hwf,rfl,rfl⟩|⟨hwt,mm,r',hd2,hm0,hml,rfl,rfl⟩
   ·rw[hwf]
    refine rJ ?_
    generalize JM:upd HA r0 (.lst [])=H2 at sB
    have s2:m7 H' H2:=sA.trans sB
    have HN:H2 nl=some (.lst (iL ns)):=sB _ _ HNA
    have HZ:H2 r0=some (.lst (iL [])):=by rw[<-JM,mZ];rfl
    have hg2:=s2 _ _ VN
    have hdr:l.drop (uF+1+n)=(l.drop (uF+1)).drop n:=by rw[eX]
    rw[<-hdr]at Mg
    refine⟨_,rfl,_,rfl,_,rfl,_,rfl,gv,_,hg2,x,wl,hl,nl,r0,s',i,ns,_,vc,rfl,hi,st.Vo (NE.of_same (s2.del gv)),by rw[qe nlg];exact HN,by rw[qe r0g];exact HZ,uE,l1,l2,λ H3 p Wb GC D_ hw hh b3 fp hp h3=>?_⟩
    have pg:p≠gv:=λ q=>by rw[q,h3]at hp;cases hp
    refine⟨_,rfl,.inl ⟨rfl,_,nE.of mZ⟩,_,rfl,p,_,rfl,.inl (nE.of (by rw[m4 pg];exact hp)),gv,_,_,rfl,rfl,mZ,(by rw[pW,aA];omega),?_⟩
    generalize UW:upd (upd H3 gv (.lst (iL gi))) gv _=H4
    have g4:H4 gv=some (.lst (iL (gi++[((bM s' vc).2.length:Int)]))):=by rw[<-UW,mZ,An,pW];rfl
    have k4:∀b,b≠gv->H4 b=H3 b:=λ b n=>by rw[<-UW,m4 n,m4 n]
    refine⟨_,rfl,.inl ⟨rfl,_,nE.of g4⟩,_,rfl,gv,p,_,_,rfl,rfl,g4,by rw[k4 p pg];exact hp,(by rw[pW,pW,aw,aA];show _+1+ _<=_;omega),?_⟩
    generalize hH5:upd H4 gv _=H5
    have g5:H5 gv=some (.lst (iL (gi++((bM s' vc).2.length:Int)::(bM s' vc).2))):=by rw[<-hH5,mZ,<-An,bB];rfl
    have k5:∀b,b≠gv->H5 b=H3 b:=λ b n=>by rw[<-hH5,m4 n,k4 b n]
    have d5:del H5 gv=H3:=by
     funext b
     by_cases e:b=gv
     ·rw[e,sV,h3]
     ·rw[qe e,k5 b e]
    have nD:NE H (del H2 gv):=λ b o e z=>by
     rw[qe (aaE.ne e z)]
     exact s2 _ _ (keep b o e z)
    have n5:NE H H5:=λ b o e z=>by
     have nb:b≠gv:=aaE.ne e z
     rw[k5 b nb]
     exact b3 b o (nD b o e z) (fx.ne e z) (fw.ne e z) (fh.ne e z) z
    refine⟨l.length-(uF+1+n),by omega,_,_,_,_,_,x,Wb,GC,_,gi++((bM s' vc).2.length:Int)::(bM s' vc).2,(uF+1+n),_,cs,rfl,n5,fx,?_,?_,g5,by rw[d5];exact D_,(by omega),rfl,rfl,Mg,hbs,?_⟩
    ·rcases hw with rfl|hw
     ·exact fw
     ·exact Fr.back nD hw
    ·rcases hh with rfl|hh
     ·exact fh
     ·exact Fr.back nD hh
    ·rw[eo,bB];rfl
   ·rw[hwt]
    obtain⟨mn,rfl⟩:∃q:Nat,mm=(q:Int):=⟨mm.toNat,by omega⟩
    rw[show((mn:Int)).toNat=mn from rfl]at hml Mg l1 l2 uE
    have hd3:l.drop (uF+1+n)=(mn:Int)::r':=by rw[<-eX];exact hd2
    have acM:l[uF+1+n]? =some (mn:Int):=by
     have z:=kG (xs:=l) (i:=uF+1+n) (j:=0)
     rw[hd3]at z
     simpa using z.symm
    have hr2:r'=l.drop (uF+1+n+1):=by
     have:=yw acM
     rw[hd3]at this
     exact(List.cons.inj this).2
    have hrl:r'.length=l.length-(uF+1+n+1):=by rw[hr2,gG]
    have afq:uF+1+n<l.length:=(List.getElem?_eq_some_iff.mp acM).1
    refine tp ⟨_,rfl,_,_,rfl,rfl,_,rfl,_,rfl,_,rfl,a,_,_,_,rfl,rfl,(NE.of_same (sA.trans sB)).seq Zc,at_of (j:=uF+1+n) rfl (aa8 acM),_,_,rfl,rfl,?_⟩
    refine⟨_,rfl,_,rfl,_,rfl,_,rfl,_,rfl,a,_,rfl,(NE.of_same (sA.trans sB)).seq Zc,λ rl acN=>?_⟩
    have e3:BE (iL l) (some ((uF:Int)+1+(n:Int)+1)) (some ((uF:Int)+1+(n:Int)+1+(mn:Int)))=iL (r'.take mn):=by
     have:=YA l (i:=uF+1+n+1) (e:=uF+1+n+1+mn) (by omega) (by omega)
     rw[show uF+1+n+1+mn-(uF+1+n+1)=mn by omega,<-hr2]at this
     exact this
    have sC:m7 (upd HA r0 (.lst [])) (upd (upd HA r0 (.lst [])) rl (.lst (BE (iL l) (some ((uF:Int)+1+(n:Int)+1)) (some ((uF:Int)+1+(n:Int)+1+(mn:Int)))))):=m7.new acN
    generalize JM:upd (upd HA r0 (.lst [])) rl (.lst (BE (iL l) (some ((uF:Int)+1+(n:Int)+1)) (some ((uF:Int)+1+(n:Int)+1+(mn:Int)))))=H2 at sC
    have s2:m7 H' H2:=sA.trans (sB.trans sC)
    have HN:H2 nl=some (.lst (iL ns)):=sC _ _ (sB _ _ HNA)
    have HZ:H2 rl=some (.lst (iL (r'.take mn))):=by rw[<-JM,mZ,e3]
    have rlg:rl≠gv:=λ q=>by rw[q,sB _ _ (sA _ _ VN)]at acN;cases acN
    have hg2:=s2 _ _ VN
    have hdr:l.drop (uF+1+n+1+mn)=r'.drop mn:=by rw[hr2,eX]
    rw[<-hdr]at Mg
    refine⟨_,rfl,_,rfl,_,rfl,_,rfl,gv,_,hg2,x,wl,hl,nl,rl,s',i,ns,_,vc,rfl,hi,st.Vo (NE.of_same (s2.del gv)),by rw[qe nlg];exact HN,by rw[qe rlg];exact HZ,uE,l1,l2,λ H3 p Wb GC D_ hw hh b3 fp hp h3=>?_⟩
    have pg:p≠gv:=λ q=>by rw[q,h3]at hp;cases hp
    refine⟨_,rfl,.inl ⟨rfl,_,nE.of mZ⟩,_,rfl,p,_,rfl,.inl (nE.of (by rw[m4 pg];exact hp)),gv,_,_,rfl,rfl,mZ,(by rw[pW,aA];omega),?_⟩
    generalize UW:upd (upd H3 gv (.lst (iL gi))) gv _=H4
    have g4:H4 gv=some (.lst (iL (gi++[((bM s' vc).2.length:Int)]))):=by rw[<-UW,mZ,An,pW];rfl
    have k4:∀b,b≠gv->H4 b=H3 b:=λ b n=>by rw[<-UW,m4 n,m4 n]
    refine⟨_,rfl,.inl ⟨rfl,_,nE.of g4⟩,_,rfl,gv,p,_,_,rfl,rfl,g4,by rw[k4 p pg];exact hp,(by rw[pW,pW,aw,aA];show _+1+ _<=_;omega),?_⟩
    generalize hH5:upd H4 gv _=H5
    have g5:H5 gv=some (.lst (iL (gi++((bM s' vc).2.length:Int)::(bM s' vc).2))):=by rw[<-hH5,mZ,<-An,bB];rfl
    have k5:∀b,b≠gv->H5 b=H3 b:=λ b n=>by rw[<-hH5,m4 n,k4 b n]
    have d5:del H5 gv=H3:=by
     funext b
     by_cases e:b=gv
     ·rw[e,sV,h3]
     ·rw[qe e,k5 b e]
    have nD:NE H (del H2 gv):=λ b o e z=>by
     rw[qe (aaE.ne e z)]
     exact s2 _ _ (keep b o e z)
    have n5:NE H H5:=λ b o e z=>by
     have nb:b≠gv:=aaE.ne e z
     rw[k5 b nb]
     exact b3 b o (nD b o e z) (fx.ne e z) (fw.ne e z) (fh.ne e z) z
    refine⟨l.length-(uF+1+n+1+mn),by omega,_,_,_,_,_,x,Wb,GC,_,gi++((bM s' vc).2.length:Int)::(bM s' vc).2,(uF+1+n+1+mn),_,cs,rfl,n5,fx,?_,?_,g5,by rw[d5];exact D_,(by omega),rfl,rfl,Mg,hbs,?_⟩
    ·rcases hw with rfl|hw
     ·exact fw
     ·exact Fr.back nD hw
    ·rcases hh with rfl|hh
     ·exact fh
     ·exact Fr.back nD hh
    ·rw[eo,bB];rfl
  ·have hc:¬ (uF:Int)<(l.length:Int):=λ q=>hc (decide_eq_true q)
   have e:l.drop uF=[]:=gP (by omega)
   rw[e]at MX
   have er:rest=[]:=by
    cases fu <;> exact(Option.some.inj MX).symm
   rw[er]at heq
   have e2:dA l=gi:=by rw[heq];exact bD _
   rw[e2]at k
   exact⟨_,rfl,k H' gv VN⟩
section
variable{P:aJ}{w:aY}{K:ah}{mg:Str->Option ao}{base hp:bz}
def FI(K:ah)(x:Str)(st:bA)(f:ag):Prop:=bt K aO x=some (some (.ref f))/\∃fd,pI K x x st f fd
def MI(K:ah)(C:ag)(m q:Str)(st:bA):Prop:=∃f fd,Meth K C m f/\pI K m q st f fd
structure CI(K:ah)(x q:Str)(st:bA)(C:ag)(fl:List Str):Prop where
 ns:bt K aO x=some (some (.ref C))
 cl:GL K C
 na:∀g∈fl,oC K C g
 mi:∃f fd,Mk K C f/\pI K "__init__" q st f fd
theorem oo{x:Str}{st:bA}{f:ag}{oc:ao}{od an:Option ag}{Kl:Array (Option ao)}{kV doc pm oW ct:ao}(a:bt K aO x=some (some (.ref f)))(l:K.lookup f=some ⟨oc,od,.func (cz x x (rD st) (qJ st) (m5 st) .none kV doc pm an oW ct),Kl⟩)
  (c:dW K oW x=true)(k:bY K (.ref f)=true):FI K x st f:=⟨a,_,LQ l c k⟩
theorem tF{C:ag}{m q:Str}{st:bA}{f:ag}{oc:ao}{od an:Option ag}{Kl:Array (Option ao)}{kV doc pm oW ct:ao}(a:bw K (.ref C) m=some (some (.ref f)))(i:gC K (.ref f)=true)(l:K.lookup f=some ⟨oc,od,.func (cz m q (rD st) (qJ st) (m5 st) .none kV doc pm an oW ct),Kl⟩)
  (c:dW K oW q=true)(k:bY K (.ref f)=true):MI K C m q st:=⟨f,_,⟨a,i,k⟩,LQ l c k⟩
theorem Jv{x q:Str}{st:bA}{C:ag}{fl:List Str}{f:ag}{oc:ao}{od an:Option ag}{Kl:Array (Option ao)}{kV doc pm oW ct:ao}(n:bt K aO x=some (some (.ref C)))(pg:eZ K C Str.empty=true)(hd:f9 K C=true)(po:iA K C=true)(sa:bw K (.ref C) "__setattr__"=some (some (.builtin "object.__setattr__")))
  (mk:iV K C=true)(kc:bY K (.ref C)=true)(a:bw K (.ref C) "__init__"=some (some (.ref f)))(i:gC K (.ref f)=true)(l:K.lookup f=some ⟨oc,od,.func (cz "__init__" q (rD st) (qJ st) (m5 st) .none kV doc pm an oW ct),Kl⟩)
  (c:dW K oW q=true)(k:bY K (.ref f)=true)(na:∀g∈fl,oC K C g):CI K x q st C fl:=⟨n,⟨pg,hd,po,sa⟩,na,f,_,⟨mk,a,i,kc⟩,LQ l c k⟩
theorem CG{C:ag}:∀g∈([]:List Str),oC K C g:=λ g h=>by cases h
theorem p8{C:ag}{x:Str}{l:List Str}(h:bw K (.ref C) x=some none)(t:∀g∈l,oC K C g):∀g∈x::l,oC K C g:=λ g hg=>by
 rcases List.mem_cons.mp hg with rfl|hg
 ·exact h
 ·exact t g hg
theorem b1{x q:Str}{st:bA}{f:ag}{fd:bK}{p1:Str}(F:pI K x q st f fd)(h:∀(kV doc pm:ao) (an:Option ag) (oW ct a:ao),iK (cz x q (rD st) (qJ st) (m5 st) .none kV doc pm an oW ct) ⟨[a],[]⟩=pure ([p1].zip [a]):=by intros;rfl):Binds K fd [p1] []:=F.binds λ _ _ _ _ _ _ us hl=>match us,hl with |[_],_=>h ..
theorem b2{x q:Str}{st:bA}{f:ag}{fd:bK}{p1 p2:Str}(F:pI K x q st f fd)(h:∀(kV doc pm:ao) (an:Option ag) (oW ct a b:ao),iK (cz x q (rD st) (qJ st) (m5 st) .none kV doc pm an oW ct) ⟨[a,b],[]⟩=pure ([p1,p2].zip [a,b]):=by intros;rfl):Binds K fd [p1,p2] []:=F.binds λ _ _ _ _ _ _ us hl=>match us,hl with |[_,_],_=>h ..
theorem b3{x q:Str}{st:bA}{f:ag}{fd:bK}{p1 p2 p3:Str}(F:pI K x q st f fd)(h:∀(kV doc pm:ao) (an:Option ag) (oW ct a b c:ao),iK (cz x q (rD st) (qJ st) (m5 st) .none kV doc pm an oW ct) ⟨[a,b,c],[]⟩=pure ([p1,p2,p3].zip [a,b,c]):=by intros;rfl):Binds K fd [p1,p2,p3] []:=F.binds λ _ _ _ _ _ _ us hl=>match us,hl with |[_,_,_],_=>h ..
theorem b4{x q:Str}{st:bA}{f:ag}{fd:bK}{p1 p2 p3 p4:Str}(F:pI K x q st f fd)(h:∀(kV doc pm:ao) (an:Option ag) (oW ct a b c d:ao),iK (cz x q (rD st) (qJ st) (m5 st) .none kV doc pm an oW ct) ⟨[a,b,c,d],[]⟩=pure ([p1,p2,p3,p4].zip [a,b,c,d]):=by intros;rfl):Binds K fd [p1,p2,p3,p4] []:=F.binds λ _ _ _ _ _ _ us hl=>match us,hl with |[_,_,_,_],_=>h ..
theorem b5{x q:Str}{st:bA}{f:ag}{fd:bK}{p1 p2 p3 p4 p5:Str}(F:pI K x q st f fd)(h:∀(kV doc pm:ao) (an:Option ag) (oW ct a b c d e:ao),iK (cz x q (rD st) (qJ st) (m5 st) .none kV doc pm an oW ct) ⟨[a,b,c,d,e],[]⟩=pure ([p1,p2,p3,p4,p5].zip [a,b,c,d,e]):=by intros;rfl):Binds K fd [p1,p2,p3,p4,p5] []:=F.binds λ _ _ _ _ _ _ us hl=>match us,hl with |[_,_,_,_,_],_=>h ..
theorem FI.has{CX:CV}{k:Nat}{x:Str}{st:bA}{f:ag}{ps:List Str}{sp:Sp}(h:FI K x st f)(X:K.In hp)(G:hp.Ns aO mg)(ok:∀fd,pI K x x st f fd->nQ P w K mg base CX k f fd ps sp)(b:∀fd,pI K x x st f fd->Binds K fd ps []):rB P w K mg base CX k x ps sp:=by
 obtain⟨n,fd,F⟩:=h
 exact⟨f,fd,ok fd F,dt X G n,F.kp,b fd F⟩
theorem FI.hs{CX:CV}{k:Nat}{x:Str}{st:bA}{f:ag}{ps:List Str}{sp:Sp}(h:FI K x st f)(P:aJ)(w:aY)(base:bz)(X:K.In hp)(G:hp.Ns aO mg)(ok:∀fd,pI K x x st f fd->nQ P w K mg base CX k f fd ps sp)(b:∀fd,pI K x x st f fd->Binds K fd ps []):rB P w K mg base CX k x ps sp:=h.has X G ok b
theorem MI.hs{CX:CV}{k:Nat}{C:ag}{m q:Str}{st:bA}{ps:List Str}{sp:Sp}(h:MI K C m q st)(P:aJ)(w:aY)(base:bz)(mg:Str->Option ao)(ok:∀f fd,pI K m q st f fd->nQ P w K mg base CX k f fd ps sp)(b:∀f fd,pI K m q st f fd->Binds K fd ps []):um P w K mg base CX k C m ps sp:=by
 obtain⟨f,fd,M,F⟩:=h
 exact⟨f,fd,M,ok f fd F,b f fd F⟩
theorem MI.aaF{CX:CV}{k:Nat}{C:ag}{m q:Str}{st:bA}{ps:List Str}{sp:Sp}(h:MI K C m q st)(ok:∀f fd,pI K m q st f fd->nQ P w K mg base CX k f fd ps sp)(b:∀f fd,pI K m q st f fd->Binds K fd ps []):um P w K mg base CX k C m ps sp:=by
 obtain⟨f,fd,M,F⟩:=h
 exact⟨f,fd,M,ok f fd F,b f fd F⟩
theorem CI.rc{C:ag}{x q:Str}{st:bA}{fl:List Str}(h:CI K x q st C fl)(X:K.In hp)(G:hp.Ns aO mg)(ok:∀f fd,pI K "__init__" q st f fd->nQ P w K mg base oG 1 f fd ("self"::fl) (Hv C fl))(b:∀f fd,pI K "__init__" q st f fd->Binds K fd ("self"::fl) []):Rec P w K mg base x C fl:=by
 obtain⟨f,fd,M,F⟩:=h.mi
 exact⟨h.cl,dt X G h.ns,h.na,f,fd,M,ok f fd F,b f fd F⟩
def acO:V->ao->Bool
 | .int i,.int j _=>decide (i=j)
 | .str s,.str t _=>decide (s=t)
 | .ref a,.ref b=>decide (a=b)
 |_,_=>false
def Ue:List V->List ao->Bool
 |[],[]=>true
 |x::xs,u::us=>acO x u && Ue xs us
 |_,_=>false
theorem aaG{x:V}{u:ao}(h:acO x u=true):RelV x u:=by
 unfold acO at h
 split at h
 ·cases of_decide_eq_true h;exact⟨_,rfl⟩
 ·cases of_decide_eq_true h;exact⟨_,rfl⟩
 ·cases of_decide_eq_true h;exact rfl
 ·cases h
theorem Pj:∀{xs:List V} {us:List ao},Ue xs us=true->Vals xs us
 |[],[],_=>.nil
 |x::xs,u::us,h=>by
  unfold Ue at h
  rw[bj]at h
  exact .cons (aaG h.1) (Pj h.2)
 |[],_::_,h=>by cases h
 |_::_,[],h=>by cases h
theorem E7{x:Str}{a:ag}{xs:List V}{od:Option ag}{om:Array ao}{n:Nat}{Kl:Array (Option ao)}(e:bt K aO x=some (some (.ref a)))(l:K.lookup a=some ⟨.type "tuple",od,.seq om n,Kl⟩)(z:Nat.ble om.size 1000=true)(v:Ue xs om.toList=true):
  bt K aO x=some (some (.ref a))/\∀H:Hp,Bi K H a xs:=⟨e,λ H=>.inr ⟨_,om,n,l,rfl,rfl,aT (Nat.le_of_ble_eq_true z) (by decide),Pj v⟩⟩
def TI(K:ah)(x:Str)(a:ag)(xs:List V):Prop:=bt K aO x=some (some (.ref a))/\∀H:Hp,Bi K H a xs
def II(K:ah)(x:Str)(n:Int):Prop:=∃t,bt K aO x=some (some (.int n t))
def SI(K:ah)(x z:Str):Prop:=∃t,bt K aO x=some (some (.str z t))
theorem pY{x:Str}{n:Int}{t:Tok}(a:bt K aO x=some (some (.int n t))):II K x n:=⟨t,a⟩
theorem Lp{x z:Str}{t:Tok}(a:bt K aO x=some (some (.str z t))):SI K x z:=⟨t,a⟩
theorem TI.g{x:Str}{a:ag}{xs:List V}(h:TI K x a xs)(X:K.In hp)(G:hp.Ns aO mg):N6 K mg x a xs:=⟨dt X G h.1,h.2⟩
theorem II.g{x:Str}{n:Int}(h:II K x n)(X:K.In hp)(G:hp.Ns aO mg):oF mg x n:=let⟨t,e⟩:=h;⟨t,dt X G e⟩
theorem SI.g{x z:Str}(h:SI K x z)(X:K.In hp)(G:hp.Ns aO mg):Bh mg x z:=let⟨t,e⟩:=h;⟨t,dt X G e⟩
structure WI(K:ah)(C:ag):Prop where
 ns:bt K aO "Wrong"=some (some (.ref C))
 ec:tH K C
 ty:fM K (.ref C)=some (.type "type")
 ng:oC K C "__getattr__"
 n1:oC K C "kind"
 n2:oC K C "place"
 mi:∃f fd,ZR K C f/\pI K "__init__" "Wrong.__init__" tI f fd
theorem ad7{C f N:ag}{nm q:Str}{bs:List ao}{LW:Bool}{sn:List Str}{sub:List ao}{ab:Bool}{col:Option Bool}{dd:Option ag}{k0 k1 k2 k3 k5:Option ao}{oN:Obj}{cd:ClassData}{oc:ao}{od an:Option ag}{Kl:Array (Option ao)}{kV doc pm oW ct:ao}
  (ns:bt K aO "Wrong"=some (some (.ref C)))(c:jk K C=some cd)(m:cd.mro=[.ref C,.type "Exception",.type "BaseException",.type "object"])(hd:cd.hasDict=true)
  (sa:bw K (.ref C) "__setattr__"=some (some (.builtin "object.__setattr__")))(ga:bw K (.ref C) "__getattribute__"=some (some (.builtin "BaseException.__getattribute__")))
  (ty:fM K (.ref C)=some (.type "type"))(ng:bw K (.ref C) "__getattr__"=some none)(n1:bw K (.ref C) "kind"=some none)(n2:bw K (.ref C) "place"=some none)
  (lC:K.lookup C=some (lu nm q C N bs WN LW sn sub ab col dd k0 k1 k2 k3 k5 "Exception.__new__"))(lN:K.lookup N=some oN)(hN:LZ oN=true)(hi:bt K N "__init__"=some (some (.ref f)))
  (l:K.lookup f=some ⟨oc,od,.func (cz "__init__" "Wrong.__init__" (rD tI) (qJ tI) (m5 tI) .none kV doc pm an oW ct),Kl⟩)(cI:oc= .type "function")(kp:bY K (.ref C)=true)(d:dW K oW "Wrong.__init__"=true)(k:bY K (.ref f)=true):WI K C:=
 ⟨ns,UH c m hd sa ga,ty,ng,n1,n2,f,_,ab7 lC lN hN hi l cI kp,LQ l d k⟩
theorem WI.ok{C:ag}(h:WI K C)(X:K.In hp)(G:hp.Ns aO mg)(hm:mg "Exception"=none):t6 P w K mg base C:=by
 obtain⟨f,fd,M,F⟩:=h.mi
 exact⟨dt X G h.ns,h.ec,h.ty,h.ng,h.n1,h.n2,f,fd,M,NU F M h.ec hm h.n1 h.n2,F.binds (ps:=["self","kind","place"]) λ _ _ _ _ _ _ us hl=>match us,hl with |[_,_,_],_=>rfl⟩
theorem YI{CS CF CC CT:ag}{gs:List ag}{hp:bz}(l:gs.length=20)(h:∀(i:Nat) (g:ag),gs[i]? =some g->∃k fd ps,k<=10/\nQ P w K mg base oG k g fd ps (acI K CS CF CC CT i)/\bY K (.ref g)=true/\Binds K fd ps []):MW P w K mg base CS CF CC CT gs:=⟨l,λ i g e=>let⟨k,fd,ps,hk,F,kp,b⟩:=h i g e;⟨fd,ps,F.mono hk,kp,b⟩⟩
set_option maxHeartbeats 0 in
theorem all_mk{P:aJ}{w:aY}{K:ah}{h:bz}{mg:Str->Option ao}{fa CS CF CC CT CB CP CR C aBL aRS aWF aCA aHM aWL:ag}{RZ VO MY Jw Pk R_ ad8 Pl MZ J9 Pn M1 M3 yK M4 Sa aaH acP Po Pp Sb aaI Pq M5 YJ Pr M6 M7 M8 GK M9 Sd M_ VP Na Nb Jx Nc Pt Se Nd Pu VQ yL As yM yN xf yO yP yQ CH yR xg Au vM Av Aw yS yT uu yU Pw VR:ag}(X:K.In h)(G:h.Ns aO mg)(hfa:mg "answers"=some (.ref fa))
  (Jy:CI K "Cell" "Cell.__init__" Eu CC EH)
  (Jz:CI K "Team" "Team.__init__" Ew CT JY)
  (DZ:CI K "Field" "Field.__init__" BP CF Ci)
  (D3:CI K "Piece" "Piece.__init__" BQ CP JV)
  (D5:CI K "Bound" "Bound.__init__" BU CB OT)
  (vN:CI K "Reader" "Reader.__init__" zP CR ["pieces","at"])
  (uh:CI K "Search" "Search.__init__" zS CS JZ)
  (Nf:WI K C)
  (vO:MI K CR "ahead" "Reader.ahead" xZ)
  (tU:MI K CR "is_word" "Reader.is_word" wU)
  (xh:MI K CR "take" "Reader.take" zQ)
  (r_:MI K CR "take_word" "Reader.take_word" ui)
  (sf:MI K CR "take_stop" "Reader.take_stop" uj)
  (sW:MI K CR "take_end" "Reader.take_end" vp)
  (sg:MI K CR "take_name" "Reader.take_name" uk)
  (rA:MI K CR "take_number" "Reader.take_number" sJ)
  (tV:MI K CS "is_cell" "Search.is_cell" wW)
  (uv:MI K CS "tables" "Search.tables" tZ)
  (xi:MI K CS "left" "Search.left" zT)
  (uw:MI K CS "is_row" "Search.is_row" uI)
  (vP:MI K CS "begin" "Search.begin" sL)
  (ux:MI K CS "forget" "Search.forget" wV)
  (sX:MI K CS "has_room" "Search.has_room" sM)
  (qY:MI K CS "has_room_for" "Search.has_room_for" sN)
  (vQ:MI K CS "times" "Search.times" uJ)
  (xj:MI K CB "spare" "Bound.spare" wt)
  (CJ:FI K "fraction" Er RZ)
  (E8:FI K "run_end" LY VO)
  (yV:FI K "word_piece" xX MY)
  (vR:FI K "number_piece" xY Jw)
  (Ax:FI K "piece_end" Ex Pk)
  (CK:FI K "piece_at" Ho R_)
  (YK:FI K "cut" ab6 ad8)
  (Ay:FI K "read_cell" AV Pl)
  (yW:FI K "read_cells" BR MZ)
  (xk:FI K "read_member" zR J9)
  (Az:FI K "read_team" Ey Pn)
  (yX:FI K "read_teams" x9 M1)
  (yY:FI K "read_field" BS M3)
  (uW:FI K "call_where" yd yK)
  (yZ:FI K "mass_table" BK M4)
  (CL:FI K "mass_sum" C9 Sa)
  (Ng:FI K "found" Qs aaH)
  (Sf:FI K "line" WX acP)
  (AA:FI K "cell_line" Ez Po)
  (AB:FI K "team_line" AW Pp)
  (CM:FI K "to_bytes" C_ Sb)
  (Nh:FI K "shown" Qt aaI)
  (AD:FI K "next_adds" Es Pq)
  (y4:FI K "order_adds" BL M5)
  (JA:FI K "row_of" LX YJ)
  (AE:FI K "best_cell" Et Pr)
  (y6:FI K "best_cells" BM M6)
  (y8:FI K "best_curve" BN M7)
  (y9:FI K "best_price" BO M8)
  (uz:FI K "expected_time" wR GK)
  (y_:FI K "best_order" xW M9)
  (za:FI K "together" AU Sd)
  (zb:FI K "cell_gains" ya M_)
  (E9:FI K "choices" Dd VP)
  (zc:FI K "most_gains" vt Na)
  (zd:FI K "thrift_row" yc Nb)
  (vS:FI K "team_choices" uK Jx)
  (zf:FI K "efforts_of" x_ Nc)
  (AF:FI K "bounds_of" AX Pt)
  (CN:FI K "can_make" Dc Se)
  (zg:FI K "free_cells" vq Nd)
  (AG:FI K "teams_row" AY Pu)
  (E_:FI K "refused" Hq VQ)
  (uX:FI K "call_would" BX yL)
  (wK:FI K "call_best" ED As)
  (uY:FI K "call_curve" BY yM)
  (uZ:FI K "call_price" BZ yN)
  (ua:FI K "call_thrift" zU xf)
  (u1:FI K "call_order" B0 yO)
  (u4:FI K "call_takes" yf yP)
  (u5:FI K "call_teams" B_ yQ)
  (zh:FI K "call_can" Hr CH)
  (u6:FI K "call_shown" BW yR)
  (ub:FI K "call_counts" zV xg)
  (wL:FI K "call_left" AZ Au)
  (sY:FI K "call_chances" ye vM)
  (wM:FI K "call_vain" EA Av)
  (wN:FI K "call_back" EB Aw)
  (u7:FI K "call_clear" Cb yS)
  (u9:FI K "call_cells" Ca yT)
  (rX:FI K "call_evidence" rO uu)
  (u_:FI K "call_field" BV yU)
  (AH:FI K "answer_of" EE Pw)
  (Be:FI K "answers" Hs VR)
  (vT:II K "LONGEST_WORD" 8)
  (vU:II K "FIRST_LETTER" 97)
  (tW:II K "LONGEST_NUMBER" 4)
  (xl:II K "FIRST_DIGIT" 48)
  (xm:II K "LAST_LETTER" 122)
  (zi:II K "LAST_DIGIT" 57)
  (AI:II K "SEMICOLON" 59)
  (AJ:II K "MISPLACED" 1)
  (vV:II K "OUT_OF_RANGE" 4)
  (zj:II K "MOST_CELLS" 16)
  (vW:II K "TOLD_OR_FULL" 3)
  (xn:II K "MOST_WEIGHT" 1000)
  (AK:II K "MOST_TIME" 20)
  (Fb:II K "NO_CELL" 2)
  (rL:II K "MOST_TEAM_EFFORTS" 12)
  (si:II K "TOO_MANY_EFFORTS" 5)
  (zk:II K "MOST_TEAMS" 6)
  (qG:II K "MOST_EFFORTS_TOGETHER" 24)
  (xo:II K "LEAST_PARTS" 2)
  (zo:II K "MOST_PARTS" 100)
  (zp:II K "MOST_BYTES" 1500)
  (xq:II K "NOT_AS_TOLD" (-1))
  (zq:II K "TEXT_WRONG" 1)
  (Sg:II K "DONE" 0)
  (vX:II K "MOST_EFFORTS" 20)
  (xr:II K "COMMON_TIME" 232792560)
  (CO:II K "TOO_MANY" (-3))
  (vY:II K "NOTHING_LEFT" (-6))
  (AL:II K "MOST_BEST" 60)
  (zr:II K "MOST_PRICE" 59)
  (xt:II K "MOST_THRIFT" 100)
  (uA:II K "MOST_IN_ORDER" 60)
  (zt:II K "MOST_TIMES" 1000)
  (sZ:II K "GREATEST_WEIGHT" 1000000000000)
  (CQ:II K "NO_FIELD" (-20))
  (YL:SI K "BAD" "bad")
  (Sh:SI K "WORD" "word")
  (Fc:SI K "LETTERS" "abcdefghijklmnopqrstuvwxyz")
  (JB:SI K "NUMBER" "number")
  (Si:SI K "STOP" "stop")
  (YM:SI K "END" "end")
  (JC:TI K "BLANKS" aBL [.int 32,.int 10])
  (CU:TI K "RESERVED" aRS Xg)
  (s_:TI K "WITHOUT_A_FIELD" aWF (nX [0,1,19]))
  (Ni:TI K "CALLS" aCA ([yU,yK,yR,Av,Aw,uu,vM,Au,yL,As,yM,yN,xf,yO,yP,yQ,CH,yT,xg,yS].map V.ref))
  (sj:TI K "HOW_MANY_NUMBERS" aHM (nX MU))
  (xu:TI K "WITH_A_LIST" aWL (nX PR))
  (AM:bt K aO "Exception"=some none)
  (YN:bt K aO "all"=some none)
  (AN:bt K aO "enumerate"=some none)
  (YO:bt K aO "len"=some none)
  (Sj:bt K aO "list"=some none)
  (YQ:bt K aO "max"=some none)
  (YR:bt K aO "ord"=some none)
  (Nj:bt K aO "range"=some none)
  (JD:bt K aO "sorted"=some none)
  (YS:bt K aO "str"=some none)
  (YT:bt K aO "sum"=some none)
  (YU:bt K aO "zip"=some none)
  (aaJ:CS≠CF)
  (YV:CS≠CC)
  (aaK:CS≠CT)
  :∃fd:bK,(∀(s:au) (us:List ao),us.length=(["calls"]:List Str).length->iQ s fd ⟨us,[]⟩ ((["calls"]:List Str).zip us))/\∀base:bz,K.In base->base.Ns aO mg->nQ P w K mg base oG 12 fa fd ["calls"] (E6 K):=by
 have e:=hfa.symm.trans (dt X G Be.1)
 cases e
 obtain⟨_,fdA,F_A⟩:=Be
 refine⟨fdA,?_,λ base _ _=>?_⟩
 ·obtain⟨oc,od,kV,doc,pm,an,oW,ct,Kl,rfl,lk,Lw⟩:=F_A.ex
  exact λ s us hu=>match us,hu with |[_],_=>.of_eq rfl
 have Px:=cg X G AM
 have D6:=cg X G YN
 have sx:=cg X G AN
 have qg:=cg X G YO
 have Sk:=cg X G Sj
 have Py:=cg X G YQ
 have ad9:=cg X G YR
 have zu:=cg X G Nj
 have YW:=cg X G JD
 have YX:=cg X G YS
 have D7:=cg X G YT
 have Bz:=cg X G YU
 have JE:=vT.g X G
 have vZ:=vU.g X G
 have Fd:=tW.g X G
 have xw:=xl.g X G
 have BB:=xm.g X G
 have D8:=zi.g X G
 have Pz:=AI.g X G
 have PB:=AJ.g X G
 have JF:=vV.g X G
 have yg:=zj.g X G
 have pD:=vW.g X G
 have wY:=xn.g X G
 have zX:=AK.g X G
 have EI:=Fb.g X G
 have rK:=rL.g X G
 have rZ:=si.g X G
 have yj:=zk.g X G
 have qD:=qG.g X G
 have wZ:=xo.g X G
 have ym:=zo.g X G
 have uL:=zp.g X G
 have nH:=xq.g X G
 have uM:=zq.g X G
 have nF:=Sg.g X G
 have nB:=vX.g X G
 have w9:=xr.g X G
 have pz:=CO.g X G
 have nW:=vY.g X G
 have qH:=AL.g X G
 have uQ:=zr.g X G
 have t9:=xt.g X G
 have rW:=uA.g X G
 have uU:=zt.g X G
 have q_:=sZ.g X G
 have CD:=CQ.g X G
 have YY:=YL.g X G
 have Sl:=Sh.g X G
 have VS:=Fc.g X G
 have PD:=JB.g X G
 have HQ:=Si.g X G
 have aa_:=YM.g X G
 have YZ:=JC.g X G
 have Sm:=CU.g X G
 have rf:=s_.g X G
 have DY:=Ni.g X G
 have qR:=sj.g X G
 have t_:=xu.g X G
 have oz:Rec P w K mg base "Cell" CC EH:=Jy.rc X G (λ f fd F=>QJ F Jy.cl Jy.na) (λ f fd F=>b5 F)
 have qp:Rec P w K mg base "Team" CT JY:=Jz.rc X G (λ f fd F=>QL F Jz.cl Jz.na) (λ f fd F=>b3 F)
 have nI:Rec P w K mg base "Field" CF Ci:=DZ.rc X G (λ f fd F=>Oh F DZ.cl DZ.na) (λ f fd F=>b4 F)
 have D9:Rec P w K mg base "Piece" CP JV:=D3.rc X G (λ f fd F=>NZ F D3.cl D3.na) (λ f fd F=>b4 F)
 have qP:Rec P w K mg base "Bound" CB OT:=D5.rc X G (λ f fd F=>OV F D5.cl D5.na) (λ f fd F=>b3 F)
 have W:t6 P w K mg base C:=Nf.ok X G Px
 have T:vz P w K mg base CR CP:=⟨vN.cl,vN.na _ (by simp),vN.na _ (by simp),D9⟩
 have S:p6 K CS:=⟨uh.cl,uh.na _ (by simp),uh.na _ (by simp),uh.na _ (by simp)⟩
 have oy:=CJ.hs P w base X G (λ _ F=>Qu F ) (λ _ F=>b2 F)
 have VT:=E8.hs P w base X G (λ _ F=>WZ F qg) (λ _ F=>b4 F)
 have Nk:=yV.hs P w base X G (λ _ F=>N1 F D9 JE YY Sl VS vZ) (λ _ F=>b3 F)
 have JG:=vR.hs P w base X G (λ _ F=>JW F D9 Fd xw YY PD) (λ _ F=>b3 F)
 have PF:=Ax.hs P w base X G (λ _ F=>Qy F VT vZ BB xw D8 Py) (λ _ F=>b2 F)
 have Sn:=CK.hs P w base X G (λ _ F=>UJ F D9 Nk JG vZ BB xw D8 Pz HQ YY) (λ _ F=>b3 F)
 have Xq:=YK.hs P w base X G (λ _ F=>adF F D9 PF Sn YZ aa_ qg) (λ _ F=>b1 F)
 have rS:Hz1 P w K mg base CR CP:=vO.aaF (λ f fd F=>ZX F T.cl T.n1 T.n2) (λ f fd F=>b1 F)
 have vb:=tU.hs P w base mg (λ _ _ F=>Xb F T rS Sl) (λ _ _ F=>b2 F)
 have JH:=xh.hs P w base mg (λ _ _ F=>ab_ F T W rS PB) (λ _ _ F=>b2 F)
 have pV:=r_.hs P w base mg (λ _ _ F=>QB F T JH vb) (λ _ _ F=>b2 F)
 have rp:=sf.hs P w base mg (λ _ _ F=>QD F T JH rS HQ) (λ _ _ F=>b1 F)
 have Cj:=sW.hs P w base mg (λ _ _ F=>UM F T JH rS aa_) (λ _ _ F=>b1 F)
 have ud:=sg.hs P w base mg (λ _ _ F=>QE F T JH rS Sl Sm) (λ _ _ F=>b1 F)
 have pS:=rA.hs P w base mg (λ _ _ F=>L8 F T W JH rS PD JF) (λ _ _ F=>b3 F)
 have M:RdM P w K mg base CR CP C:=⟨rS,vb,pV,rp,ud,pS,Cj⟩
 have RM:Xu P w K mg base CR CP:=by
  obtain⟨f,fd,Mk0,F⟩:=vN.mi
  exact⟨dt X G vN.ns,f,fd,Mk0,Mb F T Xq,b2 F⟩
 have wy:=Ay.hs P w base X G (λ _ F=>QF F T W M oz qg yg pD wY zX) (λ _ F=>b3 F)
 have yk:=yW.hs P w base X G (λ _ F=>Oc F T M wy) (λ _ F=>b2 F)
 have t7:=xk.hs P w base X G (λ _ F=>L_ F T W M EI pD) (λ _ F=>b3 F)
 have z6:=Az.hs P w base X G (λ _ F=>QH F T W M qp t7 rK rZ HQ) (λ _ F=>b3 F)
 have yl:=yX.hs P w base X G (λ _ F=>Oe F T W M oz qp z6 sx qg D7 yj pD qD) (λ _ F=>b2 F)
 have qM:=yY.hs P w base X G (λ _ F=>Oj F T RM M nI yk yl wZ ym) (λ _ F=>b1 F)
 have uV:=uW.hs P w base X G (λ _ F=>Fx F W qM qg D6 uL nH uM nF) (λ _ F=>b3 F)
 have yq:=yZ.hs P w base X G (λ _ F=>Om F qg nB) (λ _ F=>b3 F)
 have oZ:=CL.hs P w base X G (λ _ F=>UQ F Bz D7) (λ _ F=>b2 F)
 have vC:rB P w K mg base oG 1 "together" ["had","row"] wG:=za.has X G (λ fd F=>FR F Bz) (λ fd F=>b2 F)
 have PH:rB P w K mg base oG 1 "together" ["had","row"] Ck:=za.has X G (λ fd F=>Vh (FR F Bz)) (λ fd F=>b2 F)
 have qw:=Ng.hs P w base X G (λ _ F=>aae F oZ PH oy) (λ _ F=>b3 F)
 have pH:=tV.hs P w base mg (λ _ _ F=>XA F S qg) (λ _ _ F=>b2 F)
 have nV:V9 P w K mg base CS CF CC CT:=uv.aaF (λ f fd F=>XB F S nI oz Bz yq) (λ f fd F=>b1 F)
 have qQ:=xi.hs P w base mg (λ _ _ F=>ach F S nV oZ) (λ _ _ F=>b1 F)
 have qU:=uw.hs P w base mg (λ _ _ F=>aaf F S qg D6 nB) (λ _ _ F=>b2 F)
 have G6:um P w K mg base oG 1 CS "begin" ["self","field"] (Ml CS CF CC CT):=vP.aaF (λ f fd F=>aag F S nI oz YV) (λ f fd F=>b2 F)
 have yu:=Sf.hs P w base X G (λ _ F=>acj F ) (λ _ F=>b1 F)
 have Ad:=AA.hs P w base X G (λ _ F=>QY F oz yu YX) (λ _ F=>b1 F)
 have Ae:=AB.hs P w base X G (λ _ F=>QZ F oz qp yu YX) (λ _ F=>b2 F)
 have r8:=CM.hs P w base X G (λ _ F=>U8 F ad9) (λ _ F=>b1 F)
 have G4:=Nh.hs P w base X G (λ _ F=>aai F nI yu YX Ad Ae r8) (λ _ F=>b1 F)
 have pJ:=AD.hs P w base X G (λ _ F=>Ra F ) (λ _ F=>b2 F)
 have p7:=y4.hs P w base X G (λ _ F=>Ov F Sk pJ) (λ _ F=>b3 F)
 have ug:=JA.hs P w base X G (λ _ F=>aak F zu) (λ _ F=>b2 F)
 have rq:=AE.hs P w base X G (λ _ F=>Rc F nB pJ) (λ _ F=>b3 F)
 have pT:=y6.hs P w base X G (λ _ F=>Oy F Sk zu qg rq) (λ _ F=>b3 F)
 have uP:=y8.hs P w base X G (λ _ F=>Oz F oZ oy p7 pT) (λ _ F=>b3 F)
 have uR:=y9.hs P w base X G (λ _ F=>OA F oZ p7 pT oy) (λ _ F=>b3 F)
 have pK:=uz.hs P w base X G (λ _ F=>ID F oZ Bz p7 oy) (λ _ F=>b4 F)
 have uT:=y_.hs P w base X G (λ _ F=>OD F sx zu pJ w9 YW) (λ _ F=>b4 F)
 have DW:=ux.hs P w base mg (λ _ _ F=>IF F S) (λ _ _ F=>b1 F)
 have pZ:=sX.hs P w base mg (λ _ _ F=>GJ F S D6 vC nB) (λ _ _ F=>b2 F)
 have oQ:=qY.hs P w base mg (λ _ _ F=>Cq F S D7 nB qg) (λ _ _ F=>b2 F)
 have rV:aau P w K mg base CS CF CC CT:=vQ.aaF (λ f fd F=>J2 F S nI oz) (λ f fd F=>b1 F)
 have yD:=zb.hs P w base X G (λ _ F=>OH F zu nB) (λ _ F=>b2 F)
 have ve:=E9.hs P w base X G (λ _ F=>Vi F sx) (λ _ F=>b4 F)
 have yE:=zc.hs P w base X G (λ _ F=>OJ F zu qg Py ve) (λ _ F=>b3 F)
 have uS:=zd.hs P w base X G (λ _ F=>OL F Bz yD yE sx ve Py) (λ _ F=>b4 F)
 have A9:=xj.hs P w base mg (λ _ _ F=>ME F qP D7) (λ _ _ F=>b2 F)
 have vL:=vS.hs P w base X G (λ _ F=>J5 F ) (λ _ F=>b1 F)
 have qm:=zf.hs P w base X G (λ _ F=>OW F qp D7) (λ _ F=>b1 F)
 have qI:=AF.hs P w base X G (λ _ F=>Rr F qp vL zu qP qm) (λ _ F=>b2 F)
 have yJ:=CN.hs P w base X G (λ _ F=>Vm F qP.cl D6 A9) (λ _ F=>b2 F)
 have uO:=zg.hs P w base X G (λ _ F=>OY F qP A9 zu qg) (λ _ F=>b2 F)
 have wI:=AG.hs P w base X G (λ _ F=>Rt F Sk rq uO pJ) (λ _ F=>b3 F)
 have oA:=E_.hs P w base X G (λ _ F=>Vq F S nH pz qQ nW) (λ _ F=>b3 F)
 have aaL:=uX.hs P w base X G (λ _ F=>Gd F S oA qU pZ nF qw nV) (λ _ F=>b3 F)
 have aba:=wK.hs P w base X G (λ _ F=>Jg F S oA qH oQ nV ug pT qg nF qw) (λ _ F=>b3 F)
 have aaM:=uY.hs P w base X G (λ _ F=>Gh F S oA qH oQ nF uP nV) (λ _ F=>b3 F)
 have aaN:=uZ.hs P w base X G (λ _ F=>Gj F S oA uQ oQ nF uR nV) (λ _ F=>b3 F)
 have Zg:=ua.hs P w base X G (λ _ F=>DS F S t9 nH qQ nW nV uS rV nF qw) (λ _ F=>b3 F)
 have aaO:=u1.hs P w base X G (λ _ F=>Gm F S oA qU pZ nV rV uT nF qg pK) (λ _ F=>b3 F)
 have aaP:=u4.hs P w base X G (λ _ F=>Gp F S qg rW D6 pH oA pZ ug nF pK nV rV) (λ _ F=>b3 F)
 have aaQ:=u5.hs P w base X G (λ _ F=>Gr F S nI qQ nW nV wI qI qg nF qw) (λ _ F=>b3 F)
 have acQ:rB P w K mg base oG 4 "call_can" tq (Bw CS CF CC CT 0 aaw):=zh.has X G (λ fd F=>Ll F S nI qU nH nF yJ qI qg) (λ fd F=>b3 F)
 have aaR:=u6.hs P w base X G (λ _ F=>Gu F S nF G4) (λ _ F=>b3 F)
 have Zh:rB P w K mg base oG 2 "call_counts" tq (Bw CS CF CC CT 0 ML):=ub.has X G (λ fd F=>DU F S nI nF qg qm D7) (λ fd F=>b3 F)
 have abb:=wL.hs P w base X G (λ _ F=>Jm F S D7 nV nW nF oy qQ) (λ _ F=>b3 F)
 have Y0:=sY.hs P w base X G (λ _ F=>By F S qQ nW nF Bz nV oy) (λ _ F=>b3 F)
 have abc:rB P w K mg base oG 2 "call_vain" tq (Zf CS CF CC CT 2 T8):=wM.has X G (λ fd F=>Jp F S pH nB nH pz nF) (λ fd F=>b3 F)
 have abd:rB P w K mg base oG 2 "call_back" tq (Zf CS CF CC CT 2 T9):=wN.has X G (λ fd F=>Jr F S pH nB nH pz nF) (λ fd F=>b3 F)
 have aaS:rB P w K mg base oG 2 "call_clear" tq (MN CS CF CC CT):=u7.has X G (λ fd F=>Gw F S DW nF) (λ fd F=>b3 F)
 have aaT:rB P w K mg base oG 2 "call_cells" tq (Bw CS CF CC CT 0 MP):=u9.has X G (λ fd F=>Gy F S nI oz nF qg Bz r8) (λ fd F=>b3 F)
 have Wc:rB P w K mg base oG 2 "call_evidence" ["search","numbers","cells"] (Zf CS CF CC CT 2 Bc):=rX.has X G (λ fd F=>Aq F S D6 uU nH pH sx Py q_ pz nF) (λ fd F=>b3 F)
 have Ug:rB P w K mg base oG 8 "read_field" ["text"] (Ua K C CF CC CT):=qM.noX
 have aaU:=u_.hs P w base X G (λ _ F=>GA F S aaJ YV aaK nI uV nF G6 Ug qg) (λ _ F=>b3 F)
 have hC:MW P w K mg base CS CF CC CT [yU,yK,yR,Av,Aw,uu,vM,Au,yL,As,yM,yN,xf,yO,yP,yQ,CH,yT,xg,yS]:=by
  refine YI (hp:=h) rfl λ i g e=>?_
  match i,e with
  |0,e=>obtain⟨_,fd,F⟩:=u_;cases e;exact⟨10,fd,["search","numbers","text"],by decide,GA F S aaJ YV aaK nI uV nF G6 Ug qg,F.kp,b3 F⟩
  |1,e=>obtain⟨_,fd,F⟩:=uW;cases e;exact⟨9,fd,["search","numbers","text"],by decide,Fx F W qM qg D6 uL nH uM nF,F.kp,b3 F⟩
  |2,e=>obtain⟨_,fd,F⟩:=u6;cases e;exact⟨4,fd,tq,by decide,Gu F S nF G4,F.kp,b3 F⟩
  |3,e=>obtain⟨_,fd,F⟩:=wM;cases e;exact⟨2,fd,tq,by decide,Jp F S pH nB nH pz nF,F.kp,b3 F⟩
  |4,e=>obtain⟨_,fd,F⟩:=wN;cases e;exact⟨2,fd,tq,by decide,Jr F S pH nB nH pz nF,F.kp,b3 F⟩
  |5,e=>obtain⟨_,fd,F⟩:=rX;cases e;exact⟨2,fd,["search","numbers","cells"],by decide,Aq F S D6 uU nH pH sx Py q_ pz nF,F.kp,b3 F⟩
  |6,e=>obtain⟨_,fd,F⟩:=sY;cases e;exact⟨4,fd,tq,by decide,By F S qQ nW nF Bz nV oy,F.kp,b3 F⟩
  |7,e=>obtain⟨_,fd,F⟩:=wL;cases e;exact⟨4,fd,tq,by decide,Jm F S D7 nV nW nF oy qQ,F.kp,b3 F⟩
  |8,e=>obtain⟨_,fd,F⟩:=uX;cases e;exact⟨5,fd,tq,by decide,Gd F S oA qU pZ nF qw nV,F.kp,b3 F⟩
  |9,e=>obtain⟨_,fd,F⟩:=wK;cases e;exact⟨5,fd,tq,by decide,Jg F S oA qH oQ nV ug pT qg nF qw,F.kp,b3 F⟩
  |10,e=>obtain⟨_,fd,F⟩:=uY;cases e;exact⟨5,fd,tq,by decide,Gh F S oA qH oQ nF uP nV,F.kp,b3 F⟩
  |11,e=>obtain⟨_,fd,F⟩:=uZ;cases e;exact⟨5,fd,tq,by decide,Gj F S oA uQ oQ nF uR nV,F.kp,b3 F⟩
  |12,e=>obtain⟨_,fd,F⟩:=ua;cases e;exact⟨4,fd,tq,by decide,DS F S t9 nH qQ nW nV uS rV nF qw,F.kp,b3 F⟩
  |13,e=>obtain⟨_,fd,F⟩:=u1;cases e;exact⟨5,fd,tq,by decide,Gm F S oA qU pZ nV rV uT nF qg pK,F.kp,b3 F⟩
  |14,e=>obtain⟨_,fd,F⟩:=u4;cases e;exact⟨5,fd,["search","numbers","order"],by decide,Gp F S qg rW D6 pH oA pZ ug nF pK nV rV,F.kp,b3 F⟩
  |15,e=>obtain⟨_,fd,F⟩:=u5;cases e;exact⟨4,fd,tq,by decide,Gr F S nI qQ nW nV wI qI qg nF qw,F.kp,b3 F⟩
  |16,e=>obtain⟨_,fd,F⟩:=zh;cases e;exact⟨4,fd,tq,by decide,Ll F S nI qU nH nF yJ qI qg,F.kp,b3 F⟩
  |17,e=>obtain⟨_,fd,F⟩:=u9;cases e;exact⟨2,fd,tq,by decide,Gy F S nI oz nF qg Bz r8,F.kp,b3 F⟩
  |18,e=>obtain⟨_,fd,F⟩:=ub;cases e;exact⟨2,fd,tq,by decide,DU F S nI nF qg qm D7,F.kp,b3 F⟩
  |19,e=>obtain⟨_,fd,F⟩:=u7;cases e;exact⟨2,fd,tq,by decide,Gw F S DW nF,F.kp,b3 F⟩
  |i+20,e=>cases e
 have Ar:rB P w K mg base oG 11 "answer_of" ["search","call","numbers","row"] (ad4 CS CF CC CT):=AH.has X G (λ fd F=>nQ.frame (RX F S hC rf CD DY)) (λ fd F=>b4 F)
 obtain⟨fI,fdI,MS,FS⟩:=uh.mi
 exact VM F_A S MS (Mt FS S) (b1 FS) (dt X G uh.ns) qg qR t_ Ar
end
end oh
open PySem PySem.W PyProof.Rows
set_option maxRecDepth 100000 in
set_option maxHeartbeats 0 in
theorem PySem.Challenge.cw_searchefforts_s01_answers_holds : PySem.Challenge.rw_searchefforts_s01_answers.Holds := by
 w_on;k_headS;(case hw=>exact⟨[.list [.int 2]],by decide +kernel,by decide +kernel⟩)
 k_fillS
 refine L2.Qq (r:=PySem.Challenge.rw_searchefforts_s01_answers) (k:=12) (CX:=L2.oG) (ps:=["calls"]) (sp:=oh.E6) (by decide +kernel) rfl rfl ⟨rfl,by decide,by decide⟩ (λ w h Y=>PySem.W.kIn_of Y) ?F ?S (λ _ _ _ _ z=>z)
 case F=>
  intro w mg fa h Y KX G hmg
  refine' oh.all_mk KX G hmg ?Jy ?Jz ?DZ ?D3 ?D5 ?vN ?uh ?Nf ?vO ?tU ?xh ?r_ ?sf ?sW ?sg ?rA ?tV ?uv ?xi ?uw ?vP ?ux ?sX ?qY ?vQ ?xj ?CJ ?E8 ?yV ?vR ?Ax ?CK ?YK ?Ay ?yW ?xk ?Az ?yX ?yY ?uW ?yZ ?CL ?Ng ?Sf ?AA ?AB ?CM ?Nh ?AD ?y4 ?JA ?AE ?y6 ?y8 ?y9 ?uz ?y_ ?za ?zb ?E9 ?zc ?zd ?vS ?zf ?AF ?CN ?zg ?AG ?E_ ?uX ?wK ?uY ?uZ ?ua ?u1 ?u4 ?u5 ?zh ?u6 ?ub ?wL ?sY ?wM ?wN ?u7 ?u9 ?rX ?u_ ?AH ?Be ?vT ?vU ?tW ?xl ?xm ?zi ?AI ?AJ ?vV ?zj ?vW ?xn ?AK ?Fb ?rL ?si ?zk ?qG ?xo ?zo ?zp ?xq ?zq ?Sg ?vX ?xr ?CO ?vY ?AL ?zr ?xt ?uA ?zt ?sZ ?CQ ?YL ?Sh ?Fc ?JB ?Si ?YM ?JC ?CU ?s_ ?Ni ?sj ?xu ?AM ?YN ?AN ?YO ?Sj ?YQ ?YR ?Nj ?JD ?YS ?YT ?YU ?aaJ ?YV ?aaK
  (case Jy=>refine' oh.Jv ?n ?pg ?hd ?po ?sa ?mk ?kc ?a ?i ?l ?c ?k (oh.p8 ?x0 (oh.p8 ?x1 (oh.p8 ?x2 (oh.p8 ?x3 (oh.CG)))));(case n=>k_is);(case pg=>k_is);(case hd=>k_is);(case po=>k_is);(case sa=>k_is);(case mk=>k_is);(case kc=>k_is);(case a=>k_is);(case i=>k_is);(case l=>k_is);(case c=>k_is);(case k=>k_is);(case x0=>k_is);(case x1=>k_is);(case x2=>k_is);(case x3=>k_is))
  (case Jz=>refine' oh.Jv ?n ?pg ?hd ?po ?sa ?mk ?kc ?a ?i ?l ?c ?k (oh.p8 ?x0 (oh.p8 ?x1 (oh.CG)));(case n=>k_is);(case pg=>k_is);(case hd=>k_is);(case po=>k_is);(case sa=>k_is);(case mk=>k_is);(case kc=>k_is);(case a=>k_is);(case i=>k_is);(case l=>k_is);(case c=>k_is);(case k=>k_is);(case x0=>k_is);(case x1=>k_is))
  (case DZ=>refine' oh.Jv ?n ?pg ?hd ?po ?sa ?mk ?kc ?a ?i ?l ?c ?k (oh.p8 ?x0 (oh.p8 ?x1 (oh.p8 ?x2 (oh.CG))));(case n=>k_is);(case pg=>k_is);(case hd=>k_is);(case po=>k_is);(case sa=>k_is);(case mk=>k_is);(case kc=>k_is);(case a=>k_is);(case i=>k_is);(case l=>k_is);(case c=>k_is);(case k=>k_is);(case x0=>k_is);(case x1=>k_is);(case x2=>k_is))
  (case D3=>refine' oh.Jv ?n ?pg ?hd ?po ?sa ?mk ?kc ?a ?i ?l ?c ?k (oh.p8 ?x0 (oh.p8 ?x1 (oh.p8 ?x2 (oh.CG))));(case n=>k_is);(case pg=>k_is);(case hd=>k_is);(case po=>k_is);(case sa=>k_is);(case mk=>k_is);(case kc=>k_is);(case a=>k_is);(case i=>k_is);(case l=>k_is);(case c=>k_is);(case k=>k_is);(case x0=>k_is);(case x1=>k_is);(case x2=>k_is))
  (case D5=>refine' oh.Jv ?n ?pg ?hd ?po ?sa ?mk ?kc ?a ?i ?l ?c ?k (oh.p8 ?x0 (oh.p8 ?x1 (oh.CG)));(case n=>k_is);(case pg=>k_is);(case hd=>k_is);(case po=>k_is);(case sa=>k_is);(case mk=>k_is);(case kc=>k_is);(case a=>k_is);(case i=>k_is);(case l=>k_is);(case c=>k_is);(case k=>k_is);(case x0=>k_is);(case x1=>k_is))
  (case vN=>refine' oh.Jv ?n ?pg ?hd ?po ?sa ?mk ?kc ?a ?i ?l ?c ?k (oh.p8 ?x0 (oh.p8 ?x1 (oh.CG)));(case n=>k_is);(case pg=>k_is);(case hd=>k_is);(case po=>k_is);(case sa=>k_is);(case mk=>k_is);(case kc=>k_is);(case a=>k_is);(case i=>k_is);(case l=>k_is);(case c=>k_is);(case k=>k_is);(case x0=>k_is);(case x1=>k_is))
  (case uh=>refine' oh.Jv ?n ?pg ?hd ?po ?sa ?mk ?kc ?a ?i ?l ?c ?k (oh.p8 ?x0 (oh.p8 ?x1 (oh.p8 ?x2 (oh.CG))));(case n=>k_is);(case pg=>k_is);(case hd=>k_is);(case po=>k_is);(case sa=>k_is);(case mk=>k_is);(case kc=>k_is);(case a=>k_is);(case i=>k_is);(case l=>k_is);(case c=>k_is);(case k=>k_is);(case x0=>k_is);(case x1=>k_is);(case x2=>k_is))
  (case Nf=>refine' oh.ad7 ?ns ?c ?m ?hd ?sa ?ga ?ty ?ng ?n1 ?n2 ?lC ?lN ?hN ?hi ?l ?cI ?kp ?d ?k;(case ns=>k_is);(case c=>k_is);(case m=>rfl);(case hd=>rfl);(case sa=>k_is);(case ga=>k_is);(case ty=>k_is);(case ng=>k_is);(case n1=>k_is);(case n2=>k_is);(case lC=>k_is);(case lN=>k_is);(case hN=>rfl);(case hi=>k_is);(case l=>k_is);(case cI=>rfl);(case kp=>k_is);(case d=>k_is);(case k=>k_is))
  (case vO=>refine' oh.tF ?a ?i ?l ?c ?k;(case a=>k_is);(case i=>k_is);(case l=>k_is);(case c=>k_is);(case k=>k_is))
  (case tU=>refine' oh.tF ?a ?i ?l ?c ?k;(case a=>k_is);(case i=>k_is);(case l=>k_is);(case c=>k_is);(case k=>k_is))
  (case xh=>refine' oh.tF ?a ?i ?l ?c ?k;(case a=>k_is);(case i=>k_is);(case l=>k_is);(case c=>k_is);(case k=>k_is))
  (case r_=>refine' oh.tF ?a ?i ?l ?c ?k;(case a=>k_is);(case i=>k_is);(case l=>k_is);(case c=>k_is);(case k=>k_is))
  (case sf=>refine' oh.tF ?a ?i ?l ?c ?k;(case a=>k_is);(case i=>k_is);(case l=>k_is);(case c=>k_is);(case k=>k_is))
  (case sW=>refine' oh.tF ?a ?i ?l ?c ?k;(case a=>k_is);(case i=>k_is);(case l=>k_is);(case c=>k_is);(case k=>k_is))
  (case sg=>refine' oh.tF ?a ?i ?l ?c ?k;(case a=>k_is);(case i=>k_is);(case l=>k_is);(case c=>k_is);(case k=>k_is))
  (case rA=>refine' oh.tF ?a ?i ?l ?c ?k;(case a=>k_is);(case i=>k_is);(case l=>k_is);(case c=>k_is);(case k=>k_is))
  (case tV=>refine' oh.tF ?a ?i ?l ?c ?k;(case a=>k_is);(case i=>k_is);(case l=>k_is);(case c=>k_is);(case k=>k_is))
  (case uv=>refine' oh.tF ?a ?i ?l ?c ?k;(case a=>k_is);(case i=>k_is);(case l=>k_is);(case c=>k_is);(case k=>k_is))
  (case xi=>refine' oh.tF ?a ?i ?l ?c ?k;(case a=>k_is);(case i=>k_is);(case l=>k_is);(case c=>k_is);(case k=>k_is))
  (case uw=>refine' oh.tF ?a ?i ?l ?c ?k;(case a=>k_is);(case i=>k_is);(case l=>k_is);(case c=>k_is);(case k=>k_is))
  (case vP=>refine' oh.tF ?a ?i ?l ?c ?k;(case a=>k_is);(case i=>k_is);(case l=>k_is);(case c=>k_is);(case k=>k_is))
  (case ux=>refine' oh.tF ?a ?i ?l ?c ?k;(case a=>k_is);(case i=>k_is);(case l=>k_is);(case c=>k_is);(case k=>k_is))
  (case sX=>refine' oh.tF ?a ?i ?l ?c ?k;(case a=>k_is);(case i=>k_is);(case l=>k_is);(case c=>k_is);(case k=>k_is))
  (case qY=>refine' oh.tF ?a ?i ?l ?c ?k;(case a=>k_is);(case i=>k_is);(case l=>k_is);(case c=>k_is);(case k=>k_is))
  (case vQ=>refine' oh.tF ?a ?i ?l ?c ?k;(case a=>k_is);(case i=>k_is);(case l=>k_is);(case c=>k_is);(case k=>k_is))
  (case xj=>refine' oh.tF ?a ?i ?l ?c ?k;(case a=>k_is);(case i=>k_is);(case l=>k_is);(case c=>k_is);(case k=>k_is))
  (case CJ=>refine' oh.oo ?a ?l ?c ?k;(case a=>k_is);(case l=>k_is);(case c=>k_is);(case k=>k_is))
  (case E8=>refine' oh.oo ?a ?l ?c ?k;(case a=>k_is);(case l=>k_is);(case c=>k_is);(case k=>k_is))
  (case yV=>refine' oh.oo ?a ?l ?c ?k;(case a=>k_is);(case l=>k_is);(case c=>k_is);(case k=>k_is))
  (case vR=>refine' oh.oo ?a ?l ?c ?k;(case a=>k_is);(case l=>k_is);(case c=>k_is);(case k=>k_is))
  (case Ax=>refine' oh.oo ?a ?l ?c ?k;(case a=>k_is);(case l=>k_is);(case c=>k_is);(case k=>k_is))
  (case CK=>refine' oh.oo ?a ?l ?c ?k;(case a=>k_is);(case l=>k_is);(case c=>k_is);(case k=>k_is))
  (case YK=>refine' oh.oo ?a ?l ?c ?k;(case a=>k_is);(case l=>k_is);(case c=>k_is);(case k=>k_is))
  (case Ay=>refine' oh.oo ?a ?l ?c ?k;(case a=>k_is);(case l=>k_is);(case c=>k_is);(case k=>k_is))
  (case yW=>refine' oh.oo ?a ?l ?c ?k;(case a=>k_is);(case l=>k_is);(case c=>k_is);(case k=>k_is))
  (case xk=>refine' oh.oo ?a ?l ?c ?k;(case a=>k_is);(case l=>k_is);(case c=>k_is);(case k=>k_is))
  (case Az=>refine' oh.oo ?a ?l ?c ?k;(case a=>k_is);(case l=>k_is);(case c=>k_is);(case k=>k_is))
  (case yX=>refine' oh.oo ?a ?l ?c ?k;(case a=>k_is);(case l=>k_is);(case c=>k_is);(case k=>k_is))
  (case yY=>refine' oh.oo ?a ?l ?c ?k;(case a=>k_is);(case l=>k_is);(case c=>k_is);(case k=>k_is))
  (case uW=>refine' oh.oo ?a ?l ?c ?k;(case a=>k_is);(case l=>k_is);(case c=>k_is);(case k=>k_is))
  (case yZ=>refine' oh.oo ?a ?l ?c ?k;(case a=>k_is);(case l=>k_is);(case c=>k_is);(case k=>k_is))
  (case CL=>refine' oh.oo ?a ?l ?c ?k;(case a=>k_is);(case l=>k_is);(case c=>k_is);(case k=>k_is))
  (case Ng=>refine' oh.oo ?a ?l ?c ?k;(case a=>k_is);(case l=>k_is);(case c=>k_is);(case k=>k_is))
  (case Sf=>refine' oh.oo ?a ?l ?c ?k;(case a=>k_is);(case l=>k_is);(case c=>k_is);(case k=>k_is))
  (case AA=>refine' oh.oo ?a ?l ?c ?k;(case a=>k_is);(case l=>k_is);(case c=>k_is);(case k=>k_is))
  (case AB=>refine' oh.oo ?a ?l ?c ?k;(case a=>k_is);(case l=>k_is);(case c=>k_is);(case k=>k_is))
  (case CM=>refine' oh.oo ?a ?l ?c ?k;(case a=>k_is);(case l=>k_is);(case c=>k_is);(case k=>k_is))
  (case Nh=>refine' oh.oo ?a ?l ?c ?k;(case a=>k_is);(case l=>k_is);(case c=>k_is);(case k=>k_is))
  (case AD=>refine' oh.oo ?a ?l ?c ?k;(case a=>k_is);(case l=>k_is);(case c=>k_is);(case k=>k_is))
  (case y4=>refine' oh.oo ?a ?l ?c ?k;(case a=>k_is);(case l=>k_is);(case c=>k_is);(case k=>k_is))
  (case JA=>refine' oh.oo ?a ?l ?c ?k;(case a=>k_is);(case l=>k_is);(case c=>k_is);(case k=>k_is))
  (case AE=>refine' oh.oo ?a ?l ?c ?k;(case a=>k_is);(case l=>k_is);(case c=>k_is);(case k=>k_is))
  (case y6=>refine' oh.oo ?a ?l ?c ?k;(case a=>k_is);(case l=>k_is);(case c=>k_is);(case k=>k_is))
  (case y8=>refine' oh.oo ?a ?l ?c ?k;(case a=>k_is);(case l=>k_is);(case c=>k_is);(case k=>k_is))
  (case y9=>refine' oh.oo ?a ?l ?c ?k;(case a=>k_is);(case l=>k_is);(case c=>k_is);(case k=>k_is))
  (case uz=>refine' oh.oo ?a ?l ?c ?k;(case a=>k_is);(case l=>k_is);(case c=>k_is);(case k=>k_is))
  (case y_=>refine' oh.oo ?a ?l ?c ?k;(case a=>k_is);(case l=>k_is);(case c=>k_is);(case k=>k_is))
  (case za=>refine' oh.oo ?a ?l ?c ?k;(case a=>k_is);(case l=>k_is);(case c=>k_is);(case k=>k_is))
  (case zb=>refine' oh.oo ?a ?l ?c ?k;(case a=>k_is);(case l=>k_is);(case c=>k_is);(case k=>k_is))
  (case E9=>refine' oh.oo ?a ?l ?c ?k;(case a=>k_is);(case l=>k_is);(case c=>k_is);(case k=>k_is))
  (case zc=>refine' oh.oo ?a ?l ?c ?k;(case a=>k_is);(case l=>k_is);(case c=>k_is);(case k=>k_is))
  (case zd=>refine' oh.oo ?a ?l ?c ?k;(case a=>k_is);(case l=>k_is);(case c=>k_is);(case k=>k_is))
  (case vS=>refine' oh.oo ?a ?l ?c ?k;(case a=>k_is);(case l=>k_is);(case c=>k_is);(case k=>k_is))
  (case zf=>refine' oh.oo ?a ?l ?c ?k;(case a=>k_is);(case l=>k_is);(case c=>k_is);(case k=>k_is))
  (case AF=>refine' oh.oo ?a ?l ?c ?k;(case a=>k_is);(case l=>k_is);(case c=>k_is);(case k=>k_is))
  (case CN=>refine' oh.oo ?a ?l ?c ?k;(case a=>k_is);(case l=>k_is);(case c=>k_is);(case k=>k_is))
  (case zg=>refine' oh.oo ?a ?l ?c ?k;(case a=>k_is);(case l=>k_is);(case c=>k_is);(case k=>k_is))
  (case AG=>refine' oh.oo ?a ?l ?c ?k;(case a=>k_is);(case l=>k_is);(case c=>k_is);(case k=>k_is))
  (case E_=>refine' oh.oo ?a ?l ?c ?k;(case a=>k_is);(case l=>k_is);(case c=>k_is);(case k=>k_is))
  (case uX=>refine' oh.oo ?a ?l ?c ?k;(case a=>k_is);(case l=>k_is);(case c=>k_is);(case k=>k_is))
  (case wK=>refine' oh.oo ?a ?l ?c ?k;(case a=>k_is);(case l=>k_is);(case c=>k_is);(case k=>k_is))
  (case uY=>refine' oh.oo ?a ?l ?c ?k;(case a=>k_is);(case l=>k_is);(case c=>k_is);(case k=>k_is))
  (case uZ=>refine' oh.oo ?a ?l ?c ?k;(case a=>k_is);(case l=>k_is);(case c=>k_is);(case k=>k_is))
  (case ua=>refine' oh.oo ?a ?l ?c ?k;(case a=>k_is);(case l=>k_is);(case c=>k_is);(case k=>k_is))
  (case u1=>refine' oh.oo ?a ?l ?c ?k;(case a=>k_is);(case l=>k_is);(case c=>k_is);(case k=>k_is))
  (case u4=>refine' oh.oo ?a ?l ?c ?k;(case a=>k_is);(case l=>k_is);(case c=>k_is);(case k=>k_is))
  (case u5=>refine' oh.oo ?a ?l ?c ?k;(case a=>k_is);(case l=>k_is);(case c=>k_is);(case k=>k_is))
  (case zh=>refine' oh.oo ?a ?l ?c ?k;(case a=>k_is);(case l=>k_is);(case c=>k_is);(case k=>k_is))
  (case u6=>refine' oh.oo ?a ?l ?c ?k;(case a=>k_is);(case l=>k_is);(case c=>k_is);(case k=>k_is))
  (case ub=>refine' oh.oo ?a ?l ?c ?k;(case a=>k_is);(case l=>k_is);(case c=>k_is);(case k=>k_is))
  (case wL=>refine' oh.oo ?a ?l ?c ?k;(case a=>k_is);(case l=>k_is);(case c=>k_is);(case k=>k_is))
  (case sY=>refine' oh.oo ?a ?l ?c ?k;(case a=>k_is);(case l=>k_is);(case c=>k_is);(case k=>k_is))
  (case wM=>refine' oh.oo ?a ?l ?c ?k;(case a=>k_is);(case l=>k_is);(case c=>k_is);(case k=>k_is))
  (case wN=>refine' oh.oo ?a ?l ?c ?k;(case a=>k_is);(case l=>k_is);(case c=>k_is);(case k=>k_is))
  (case u7=>refine' oh.oo ?a ?l ?c ?k;(case a=>k_is);(case l=>k_is);(case c=>k_is);(case k=>k_is))
  (case u9=>refine' oh.oo ?a ?l ?c ?k;(case a=>k_is);(case l=>k_is);(case c=>k_is);(case k=>k_is))
  (case rX=>refine' oh.oo ?a ?l ?c ?k;(case a=>k_is);(case l=>k_is);(case c=>k_is);(case k=>k_is))
  (case u_=>refine' oh.oo ?a ?l ?c ?k;(case a=>k_is);(case l=>k_is);(case c=>k_is);(case k=>k_is))
  (case AH=>refine' oh.oo ?a ?l ?c ?k;(case a=>k_is);(case l=>k_is);(case c=>k_is);(case k=>k_is))
  (case Be=>refine' oh.oo ?a ?l ?c ?k;(case a=>k_is);(case l=>k_is);(case c=>k_is);(case k=>k_is))
  (case vT=>refine' oh.pY ?a;(case a=>k_is))
  (case vU=>refine' oh.pY ?a;(case a=>k_is))
  (case tW=>refine' oh.pY ?a;(case a=>k_is))
  (case xl=>refine' oh.pY ?a;(case a=>k_is))
  (case xm=>refine' oh.pY ?a;(case a=>k_is))
  (case zi=>refine' oh.pY ?a;(case a=>k_is))
  (case AI=>refine' oh.pY ?a;(case a=>k_is))
  (case AJ=>refine' oh.pY ?a;(case a=>k_is))
  (case vV=>refine' oh.pY ?a;(case a=>k_is))
  (case zj=>refine' oh.pY ?a;(case a=>k_is))
  (case vW=>refine' oh.pY ?a;(case a=>k_is))
  (case xn=>refine' oh.pY ?a;(case a=>k_is))
  (case AK=>refine' oh.pY ?a;(case a=>k_is))
  (case Fb=>refine' oh.pY ?a;(case a=>k_is))
  (case rL=>refine' oh.pY ?a;(case a=>k_is))
  (case si=>refine' oh.pY ?a;(case a=>k_is))
  (case zk=>refine' oh.pY ?a;(case a=>k_is))
  (case qG=>refine' oh.pY ?a;(case a=>k_is))
  (case xo=>refine' oh.pY ?a;(case a=>k_is))
  (case zo=>refine' oh.pY ?a;(case a=>k_is))
  (case zp=>refine' oh.pY ?a;(case a=>k_is))
  (case xq=>refine' oh.pY ?a;(case a=>k_is))
  (case zq=>refine' oh.pY ?a;(case a=>k_is))
  (case Sg=>refine' oh.pY ?a;(case a=>k_is))
  (case vX=>refine' oh.pY ?a;(case a=>k_is))
  (case xr=>refine' oh.pY ?a;(case a=>k_is))
  (case CO=>refine' oh.pY ?a;(case a=>k_is))
  (case vY=>refine' oh.pY ?a;(case a=>k_is))
  (case AL=>refine' oh.pY ?a;(case a=>k_is))
  (case zr=>refine' oh.pY ?a;(case a=>k_is))
  (case xt=>refine' oh.pY ?a;(case a=>k_is))
  (case uA=>refine' oh.pY ?a;(case a=>k_is))
  (case zt=>refine' oh.pY ?a;(case a=>k_is))
  (case sZ=>refine' oh.pY ?a;(case a=>k_is))
  (case CQ=>refine' oh.pY ?a;(case a=>k_is))
  (case YL=>refine' oh.Lp ?a;(case a=>k_is))
  (case Sh=>refine' oh.Lp ?a;(case a=>k_is))
  (case Fc=>refine' oh.Lp ?a;(case a=>k_is))
  (case JB=>refine' oh.Lp ?a;(case a=>k_is))
  (case Si=>refine' oh.Lp ?a;(case a=>k_is))
  (case YM=>refine' oh.Lp ?a;(case a=>k_is))
  (case JC=>refine' oh.E7 ?a ?l ?z ?v;(case a=>k_is);(case l=>k_is);(case z=>rfl);(case v=>decide +kernel))
  (case CU=>refine' oh.E7 ?a ?l ?z ?v;(case a=>k_is);(case l=>k_is);(case z=>rfl);(case v=>decide +kernel))
  (case s_=>refine' oh.E7 ?a ?l ?z ?v;(case a=>k_is);(case l=>k_is);(case z=>rfl);(case v=>decide +kernel))
  (case Ni=>refine' oh.E7 ?a ?l ?z ?v;(case a=>k_is);(case l=>k_is);(case z=>rfl);(case v=>decide +kernel))
  (case sj=>refine' oh.E7 ?a ?l ?z ?v;(case a=>k_is);(case l=>k_is);(case z=>rfl);(case v=>decide +kernel))
  (case xu=>refine' oh.E7 ?a ?l ?z ?v;(case a=>k_is);(case l=>k_is);(case z=>rfl);(case v=>decide +kernel))
  (case AM=>k_is)
  (case YN=>k_is)
  (case AN=>k_is)
  (case YO=>k_is)
  (case Sj=>k_is)
  (case YQ=>k_is)
  (case YR=>k_is)
  (case Nj=>k_is)
  (case JD=>k_is)
  (case YS=>k_is)
  (case YT=>k_is)
  (case YU=>k_is)
  (case aaJ=>decide)
  (case YV=>decide)
  (case aaK=>decide)
 case S=>
  intro K H xs a hO hwi acJ hx
  cases hx with
  |cons h1 h2=>
   cases h2
   cases h1 with
   |lst hs ha=>
    have e:=L2.SY a.1 _ ha
    subst e
    exact⟨_,a.1,rfl,hs,acJ,λ H' p hp=>.lst (L2.nE.of hp) (L2.SX _)⟩
