import PyProof.Rows.All
import Wide.All
import OpenK.AllK
import Wide.FinOn
import PyProof.EqAt
import PyProof.EqKinds
import PyProof.TupleCall
import KE.BitLaws
import Open.SpecLaws
import KE.OsHead
import KE.OsGo
import PyProof.ExcInit
import PyProof.ExcBaseAll.Exception
import PyProof.RulesAs
import PyProof.NsDelKeeps
import KE.LcSums
import PySem.Challenge.RW_searchefforts_s01_answers
import PyProof.MaxThree
import PyProof.ListRange
import PyProof.Rows.SeqMore
import KE.KSortTupG
import PyProof.ZipIter
import PyVbmrac
set_option Elab.async false
set_option linter.all false
set_option maxRecDepth 100000
set_option maxHeartbeats 4000000
set_option genSizeOfSpec false
set_option bootstrap.genMatcherCode false
set_option compiler.extract_closed false
open PySem.W renaming Frag->ah,nsIn->bt,findIn->bw,keepIn->bZ,mg_none_of->ck,fnOf->cA,emptyDict->cN,instObj->dm,mg_of->dt,callWith_K->dJ,codeIn->dW,lookIn->eR,plainGet->eY,typeIn->fK,hasDictIn->fZ,isFn->gz,methodCall_KW->gG,plainGet_of->gY,looks_clsIn->gZ,Looks->hJ,plainOver->iw,methodObj->iy,takerIn->iQ,makesIn->iR,length_le_weightAllW->iS,clsIn->ji,cellsFrom_some->js,callWith_K0->jI,handedIn->j_,WRecords->ka,WalkOS->kH,InstAt->kI
open List renaming length_map->aa,getElem?_eq_getElem->af,getElem?_map->ak,length_append->aw,range->az,getD_eq_getElem?_getD->aB,mem_of_getElem?->aC,length_cons->aD,map_append->aF,map_cons->aH,getElem?_eq_none->aI,size_toArray->aL,getElem?_zipWith->aO,mem_cons_of_mem->aP,length_range->aQ,map_map->aW,getElem?_range->bc,getElem?_append_right->bf,getElem?_append_left->bp,append_assoc->bA,append_nil->bC,ext_getElem?->bN,map_congr_left->bO,getElem?_zipIdx->bQ,mem_cons_self->bU,length_take->bX,take_succ->b8,foldl_cons->cp,getElem_mem->cq,take_of_length_le->cu,getElem_of_mem->cy,mem_append_right->cz,replicate->cH,all_map->cJ,not_mem_nil->cK,getElem?_set_self->cP,mem_map_of_mem->c_,length_zipWith->de,mem_cons->dh,take_length->dj,contains_iff_mem->dk,lookup->dv,filterMap_cons->dG,lookup_cons->dH,any_eq_true->dI,length_zipIdx->dP,countP_eq_length_filter->dS,getElem?_set->dX,flatten_cons->dY,zipIdx_cons->d7,drop_eq_getElem_cons->d8,flatMap_append->d_,any_cons->eu,range_succ->eG,length_zip->eI,find?_cons->eJ,count_cons->eK,nodup_nil->eU,flatMap_cons->eV,drop_drop->eW,length_replicate->fk,filter_cons->fo,drop_length->fq,countP_cons->ft,all_eq_true->fv,getElem?_set_ne->fE,length_set->fG,map_set->fP,map_nil->fQ,mem_or_eq_of_mem_set->gh,getElem?_zip_eq_some->gj,foldl_append->gn,all_cons->gx,map_flatMap->gB,length_drop->gC,getElem?_replicate->gE,zipWith_map_right->gK,drop_eq_nil_of_le->gL,of_mem_zip->gO,nodup_cons->gP,nil_append->gQ,mem_zipIdx->gR,takeWhile_prefix->gU,filterMap_append->gW,mem_append_left->hX,map_id->hZ,length->h_,forIn_nil->ia,filter_sublist->ir,take_nil->iz,sum_cons->iA,pairwise_map->iN,any_eq_false->iO,map_zipWith->iY,cons_append->iZ,forIn_cons->je,countP_map->jf,mem_of_find?_eq_some->jy,not_any_eq_all_not->jH,zipWith->jM,pairwise_lt_range->jN,any_map->jO,countP_le_length->j0,mem_of_mem_take->j7,map->j8,findIdx?_isSome->j9,toList_toArray->kj,flatten_append->kl,getElem?_drop->kD,find?_eq_none->kE,contains_cons->kF,nodup_append->kS,nodup_range->kY,map_snd_zip->kZ,getElem_map->k6,getElem_inj->k7,flatMap_map->k8,flatMap_def->k9,zipIdx_nil->lu,mem_append->lx,map_take->lV,map_drop->lW
open Nat renaming le_refl->ax,zero_le->aE,lt_of_lt_of_le->aS,le_trans->aV,lt_of_le_of_lt->bH,ne_of_lt->bK,pos_of_ne_zero->cf,le_add_right->cC,lt_succ_self->cM,zero_add->cX,lt_irrefl->cY,mul_le_mul_right->c7,mul_le_mul_left->dg,pow_le_pow_right->dw,add_le_add_left->eh,le_of_lt->e_,mul_assoc->fD,min_eq_left->fM,pow_succ->fV,ne_of_gt->fW,mul_comm->fX,min_self->fY,mul_left_comm->gu,le_of_succ_le->gw,lt_trans->iU,lt_succ_of_lt->iV,le_of_eq->iW,mul_lt_mul_of_pos_right->jr,lt_of_mul_lt_mul_right->jx,succ_mul->jY,gcd_comm->jZ,le_succ->ki,pow_le_pow_left->kC,sub_le->kR,lt_succ_of_le->kW,gcd->kX,mul_le_mul->lU,succ_pos->mx,log2_lt->mG,mod_lt->mO
open Option renaming bind_some->dE,map_some->gH,none->iT,toList_some->j4,map->j5,isSome_some->j6,isSome_map->kh,getD_none->kz
open PySem.F renaming plainAttrs_list->aG,type_list_append->a0,slot_list_append->a_,type_list_extend->cT,slot_list_extend->cU,excBase_Exception->jc,slot_list_index->jo
open Bool renaming false_ne_true->aZ,and_eq_true->bg,noConfusion->cg,eq_iff_iff->du,true_and->fC,not_eq_true->gF,or_eq_true->gS,false_and->ib,not_eq_true'->iP,false_eq_true->kG,and_false->lG,or_false->lX
open Vbmrac renaming Field->ae,Team->aJ,total->aY,cellAt->bx,more->bB,Cell->bD,inside->bI,step->bL,mustWord->bM,Call->bR,State->bS,nats->bW,bytesOf->bY,thriftTable->b_,Toks->cB,canSearch->cE,cellOf->cG,value->cV,read->cW,mass->cZ,gain->c9,tooMany->dr,decimal->dB,wordAhead->dC,isText->dD,ordered->dO,wouldFind->dQ,thriftRow->dR,nums->dU,none_->d6,WEIGHT->d9,teamsFrom->eF,less->eM,doing->eN,isCell->eQ,slotFor->eX,isLetter->ff,gains->fj,TIME->fm,membersAt->fH,isRow->fJ,cellsAt->fN,teamDeal->fR,isDigit->fS,greatest->fT,thrift->f6,adds->f7,thriftFrom->gy,efforts->gT,timesOf->gX,line->ic,chance->ie,augment->ig,expected->iu,written->iB,start->iC,CELLS->iD,tokens->iE,timeSum->jg,listed->jh,numAt->jz,canMake->jA,TEAMS->jB,qRow->jP,deal->jQ,goesAhead->km,nameAt->k_,slots->ly,putIn->lD,SLOTS->lE,semi->lH,left->lJ,TEXT->lK,weighed->lY,Bad->lZ,Q->my,lowest->mH
open PySem renaming Addr->ag,Value->ao,wpAny_bind->aq,Shared->au,sizeLine->ay,sizeLine_eq->aA,Program->aK,wpAny_pure->aM,starEach->aN,mainGlobals->aR,wpAny->aT,model->aU,boot_len->aX,World->bj,Spec->bu,Stmt->bz,Heap->bF,mem_of_lookup->bG,Expr->bJ,FuncData->bP,Around->bV,eval->cw,cellsFrom->cF,wpAny_field->cO,wpAny_truthy_bool->cQ,wpAny_mono->cR,compareOp->cS,wpAny_Call_Name_kw->c6,backTo->c8,NameKind->dF,rawInt->dM,attributeBase->dN,wpAny_passesOwn->dZ,sysModules->ee,compEnvC->eg,Scope->eP,behindInMarks->eS,Within->eT,wpAny_setField_rec->eZ,keywordEach->fb,wpAny_seqItems->fz,wpAny_pyIter_list->fA,codeAny_mono->fB,plainObj_wpAny_Assign_Attribute->fF,assignEach->fL,wpAny_holding->fO,sliceBounds->fU,wpAny_execs_nil->f9,holding->gk,bootBuiltins->gm,pushCells->gq,binaryOp->gA,foldedSetIterable->gI,IsZip->gJ,wpAny_standAt->gN,wpAny_pyIter_zip->g0,swapsWith->g8,getMethod->g9,backToKw->g_,wpAny_nextOf_list_item->ij,standAt->ik,codeAny->il,pushCells_keeps->ip,letOwnedTupleGo->iq,wpAny_setField->iF,codeAny_call_builtin->iG,bindArgs->iH,wpAny_onRaise->iX,wpAny_call->i_,tupleKind_room_in1->ja,Params->jb,Builtin->jd,wpAny_newObj_type->jj,valueAt->jk,getItem->jl,callWith->jm,Operator->jn,wpAny_lookBehind->jt,tupleKind->ju,pastItsLine_dict->jv,PyData->jw,wpAny_letGo->jC,subscripted->jD,cLine->jE,Model->jF,IsRangeIter->jG,notedBy->jJ,callerA->jK,BindsTo->jL,wpAny_loadPart->jR,pyNext->jS,call_meets->jT,atKey->jU,assign->jV,wpAny_letOwnedTupleGo_zip->j3,wpAny_attempt->kb,wpAny_callSpecial?_slot->ko,setFlight->kq,bindL->kr,bindC->ku,CmpOp->kx,wpAny_pyNext_range_end->kJ,wpAny_pyIter_rangeiter->kK,wpAny_nsSet1->kL,seqIndex_neg->kM,isTrue->kN,getAttr->kO,Keyword->kP,wpAny_isTrue_Compare1->kT,wpAny_loadName_local->lg,seqIndex_of->lh,rule->lj,excClassObj->ll,wpAny_loadName_cell->lF,wpAny_pyIter_range->lL,wpAny_Name->lM,typeOf->lO,typeIs_str->lP,isInstance->lQ,builtinsNs->lR,Result->lS,wpAny_pyIter_enum->l_,wpAny_assign_Name->ma,setItem->md,setAttr->me,wpAny_execs_cons->mf,wpAny_call_entry->mh,storeName->mj,noteFrame->mq,inplaceOp->mr,call->mv,PassesOwn->mw,Tok->mz,recursionLimit->mI,pyIter->mJ,nsFind->mK,newFunctionEnv->mL,compPost->mM,rangeSize_one->mP,nums_intItems->mQ,intBits_le_64->mR,comprehension->mS,call_list_seq->mT
open PyVbmrac renaming shape->cD,bound->dz,answers->dA,whole->eO,answers_asked->gp
open PyProof.Rows renaming callWith_type1->bT,kindOf->f_,arrOf->gg,callWith_builtin1->hU,envOfC->iI,boot_sum->iJ,boot_all->iK,AllBare->iM,lexLt->jq,boot_str->jW,boot_range->jX,subscriptTail->ke,Constant_none->kg,boot_list->ky,subscriptTail_builtinR->kQ,iadd_int->kU,boot_max->lq,Call_->lr,Subscript_->lT,sortedAll_old->mC,sortedAll_at->mD,join_tuple->mE,join_list->mF
namespace L2
open PySem PySem.Spec PyProof.Rows
abbrev Key:=Sum Int Str
def Kj:Key->ao->Bool
 | .inl k,v=>Value.isInt k v
 | .inr x,v=>Value.isStrOf x v
def aeb(w:bj):Key->Int
 | .inl k=>hashInt k
 | .inr x=>hashStr w x
theorem qg:∀{k:Key} {v:ao},Kj k v=true->(∃i t,k=Sum.inl i/\v=Value.int i t)\/(∃x t,k=Sum.inr x/\v=Value.str x t)
 | .inl i,v,h=>by
  obtain⟨t,e⟩:=Value.isInt_shape (k:=i) (v:=v) h
  exact .inl ⟨i,t,rfl,e⟩
 | .inr x,v,h=>by
  obtain⟨t,e⟩:=Value.isStrOf_shape (x:=x) (v:=v) h
  exact .inr ⟨x,t,rfl,e⟩
theorem T_(i:Int)(t:Tok):Kj (.inl i) (.int i t)=true:=by simp[Kj,Value.isInt]
theorem Ua(x:Str)(t:Tok):Kj (.inr x) (.str x t)=true:=by simp[Kj,Value.isStrOf]
theorem abd(a b:Int):decide ((Sum.inl a:Key)=Sum.inl b)=(a == b):=by
 by_cases e:a=b
 ·subst e;simp
 ·have h:¬ (Sum.inl a:Key)=Sum.inl b:=λ q=>e (Sum.inl.inj q)
  rw[decide_eq_false h]
  exact(beq_eq_false_iff_ne.mpr e).symm
theorem abe(a b:Str):decide ((Sum.inr a:Key)=Sum.inr b)=decide (a=b):=by
 by_cases e:a=b
 ·subst e;simp
 ·have h:¬ (Sum.inr a:Key)=Sum.inr b:=λ q=>e (Sum.inr.inj q)
  rw[decide_eq_false h,decide_eq_false e]
theorem abf(a:Int)(b:Str):decide ((Sum.inl a:Key)=Sum.inr b)=false:=decide_eq_false (λ q=>nomatch q)
theorem abg(a:Str)(b:Int):decide ((Sum.inr a:Key)=Sum.inl b)=false:=decide_eq_false (λ q=>nomatch q)
def qW(prog:aK)(w:bj):PySem.KeyKind prog w Key where
 is:=Kj
 hash:=aeb w
 inj:=λ v a b ha hb=>by
  rcases qg ha with⟨i,t,rfl,rfl⟩|⟨x,t,rfl,rfl⟩
  ·rcases qg hb with⟨j,u,rfl,e⟩|⟨y,u,rfl,e⟩
   ·injection e with e1 _;rw[e1]
   ·exact nomatch e
  ·rcases qg hb with⟨j,u,rfl,e⟩|⟨y,u,rfl,e⟩
   ·exact nomatch e
   ·injection e with e1 _;rw[e1]
 byValue:=λ k v h=>by
  rcases qg h with⟨i,t,rfl,rfl⟩|⟨x,t,rfl,rfl⟩ <;> rfl
 pyHash:=λ hv h=>by
  rcases qg hv with⟨i,t,rfl,rfl⟩|⟨x,t,rfl,rfl⟩
  ·exact wpAny_pyHash_int h
  ·exact wpAny_pyHash_str h
 eqBool:=λ hu hv h=>by
  rcases qg hu with⟨i,t,rfl,rfl⟩|⟨x,t,rfl,rfl⟩
  ·rcases qg hv with⟨j,u,rfl,rfl⟩|⟨y,u,rfl,rfl⟩
   ·rw[abd]at h;exact wpAny_eqBool_int h
   ·rw[abf]at h;exact SeqAt.EqAt.int_str i t y u _ _ _ _ h
  ·rcases qg hv with⟨j,u,rfl,rfl⟩|⟨y,u,rfl,rfl⟩
   ·rw[abg]at h;exact SeqAt.EqAt.str_int x t j u _ _ _ _ h
   ·rw[abe]at h;exact wpAny_eqBool_str h
 «strs» :=λ k x t v h=>by
  rcases qg h with⟨i,u,rfl,e⟩|⟨y,u,rfl,e⟩
  ·exact nomatch e
  ·injection e with e1 _
   subst e1
   cases v <;> rfl
theorem Nq(prog:aK)(w:bj)(i:Int)(t:Tok):(qW prog w).is (.inl i) (.int i t)=true:=T_ i t
theorem Nr(prog:aK)(w:bj)(x:Str)(t:Tok):(qW prog w).is (.inr x) (.str x t)=true:=Ua x t
end L2
namespace L2
open PySem PySem.Spec PyProof.Rows
inductive V where
 |qt|bl (b:Bool)|int (i:Int)|str (x:Str)|Lx (b:Array UInt8)|flt (b:UInt64)|ref (a:ag)|ty (n:String)
 deriving DecidableEq
def RelV:V->ao->Prop
 | .qt,u=>u=Value.none
 | .bl b,u=>u=Value.bool b
 | .int i,u=>∃t,u=Value.int i t
 | .str x,u=>∃t,u=Value.str x t
 | .Lx b,u=>∃t,u=Value.bytes b t
 | .flt b,u=>∃t,u=Value.float b t
 | .ref a,u=>u=Value.ref a
 | .ty n,u=>u=Value.type n
abbrev Vals:List V->List ao->Prop:=Paired RelV
theorem Vals.length{xs:List V}{us:List ao}(r:Vals xs us):xs.length=us.length:=Paired.length r
theorem Vals.get:∀{xs:List V} {us:List ao} {i:Nat} {x:V},Vals xs us->xs[i]? =some x->∃u,us[i]? =some u/\RelV x u
 |_,_,_,_,.nil,e=>by simp at e
 |_,_,0,_,.cons r _,e=>by simp at e;subst e;exact⟨_,rfl,r⟩
 |_,_,i+1,x,.cons _ t,e=>by
  obtain⟨u,h1,h2⟩:=Vals.get (i:=i) (x:=x) t (by simpa using e)
  exact⟨u,by simpa using h1,h2⟩
theorem Vals.set{x:V}{u:ao}(r:RelV x u):∀{xs:List V} {us:List ao} (i:Nat),Vals xs us->Vals (xs.set i x) (us.set i u)
 |_,_,_,.nil=>.nil
 |_,_,0,.cons _ t=>.cons r t
 |_,_,i+1,.cons q t=>.cons q (Vals.set r i t)
theorem Vals.append:∀{xs ys:List V} {us ws:List ao},Vals xs us->Vals ys ws->Vals (xs++ys) (us++ws)
 |_,_,_,_,.nil,s=>s
 |_,_,_,_,.cons r t,s=>.cons r (Vals.append t s)
theorem Vals.take:∀{xs:List V} {us:List ao} (n:Nat),Vals xs us->Vals (xs.take n) (us.take n)
 |_,_,0,_=>.nil
 |_,_,_+1,.nil=>.nil
 |_,_,n+1,.cons r t=>.cons r (Vals.take n t)
theorem Vals.drop:∀{xs:List V} {us:List ao} (n:Nat),Vals xs us->Vals (xs.drop n) (us.drop n)
 |_,_,0,r=>r
 |_,_,_+1,.nil=>.nil
 |_,_,n+1,.cons _ t=>Vals.drop n t
def wQ:Option V->Option ao->Prop
 |some v,some u=>RelV v u
 |none,none=>True
 |_,_=>False
def KV{κ:Type}:List (κ×V)->List (κ×ao)->Prop:=Paired λ(p:κ×V) (q:κ×ao)=>p.1=q.1/\RelV p.2 q.2
def kV:Key->V
 | .inl i=>.int i
 | .inr x=>.str x
inductive HO where
 |lst (xs:List V)
 |tup (xs:List V)
 |dK (oF:List (Key×V))|dT (oF:List (List Key×V))
 |set (S:Int->Bool) (n:Nat)
 |ins (C dx:ag) (fs:List (Str×V))
 |own (x:ag)
 |xd (fs:List (Str×V))
 |met (f x:ag)
 |rng (lo hi:Int)
 |Kk (o:Obj) (u:HO)
 |tbl (ps:Array ao)
 |ext (φ:bF->Prop)
abbrev Hp:=ag->Option HO
def upd(H:Hp)(a:ag)(o:HO):Hp:=λ b=>if b=a then some o else H b
theorem mX{H:Hp}{a:ag}{o:HO}:upd H a o a=some o:=by unfold upd;rw[if_pos rfl]
theorem mY{H:Hp}{a b:ag}{o:HO}(h:b≠a):upd H a o b=H b:=by unfold upd;rw[if_neg h]
theorem acM{H:Hp}{a b:ag}{o u:HO}(h:H a=some o)(h':H b=some u)(d:o≠u):a≠b:=by
 intro e;subst e;rw[h]at h';exact d (Option.some.inj h')
theorem nE{H:Hp}{a b:ag}{o:HO}(h:H a=some o)(h':H b=none):a≠b:=by
 intro e;subst e;rw[h]at h';cases h'
section
variable(P:aK)(w:bj)
def pN(H:Hp)(h:bF)(a:ag):HO->Prop
 | .lst xs=>xs.length<=ay/\∃(oh:List ao) (n:Nat),Vals xs oh/\h.get? a=some { cls:=.type "list",data:=.seq oh.toArray n }
 | .tup xs=>xs.length<=ay/\∃oh:List ao,Vals xs oh/\IsTup h a oh.toArray
 | .dK oF=>oF.length<=ay/\(a == ee)=false/\∃vs,KV oF vs/\h.DictOf (qW P w) a vs
 | .dT oF=>oF.length<=ay/\(a == ee)=false/\∃xs:List (List Key×ag×ao),
   Paired (λ(p:List Key×V) (q:List Key×ag×ao)=>p.1=q.1/\H q.2.1=some (.tup (p.1.map kV))/\RelV p.2 q.2.2) oF xs/\
   ∃o es ep,h.get? a=some o/\o.ExactDict/\o.data= .dict es ep/\es.toList=xs.map (entryOfKey (ju (qW P w)))/\(xs.map (·.1)).Nodup
 | .set S n=>h.SetOf (intKind P w) a S n
 | .ins C dx fs=>H dx=some (.own a)/\fs.length<=1000/\dx≠a/\h.get? a=some (dm C dx)/\
   ∃mA,h.Ns1 dx mA/\(∀f,wQ (fs.lookup f) (mA f))/\eT mA (fs.map (·.1))
 | .own _=>∃o,h.get? a=some o
 | .xd fs=>∃mA,h.Ns1 a mA/\∀f,wQ (fs.lookup f) (mA f)
 | .rng lo hi=>∃t u v,h.get? a=some { cls:=.type "range",data:=.fields #[.int lo t,.int hi u,.int 1 v] }
 | .Kk o u=>h.get? a=some o/\pN H h a u
 | .tbl ps=>h.get? a=some { cls:=.none,data:=.fields ps }
 | .met f x=>h.get? a=some (iy (.ref f) (.ref x))
 | .ext φ=>φ h/\(∃o,h.get? a=some o)/\∀h1 h2:bF,φ h1->(∀o,h1.get? a=some o->h2.get? a=some o)->φ h2
def zL(H:Hp)(h:bF):Prop:=∀a o,H a=some o->pN P w H h a o
end
section
variable{P:aK}{w:bj}{H H':Hp}{h h':bF}{a:ag}{o:HO}
theorem pN.lt(x:pN P w H h a o):a<h.objs.size:=by
 cases o with
 |lst xs=>obtain⟨_,_,_,_,e⟩:=x;exact Heap.lt_size e
 |tup xs=>obtain⟨_,_,_,p⟩:=x;exact p.lt
 |dK oF=>obtain⟨_,_,_,_,o,_,_,e,_⟩:=x;exact Heap.lt_size e
 |dT oF=>obtain⟨_,_,_,_,o,_,_,e,_⟩:=x;exact Heap.lt_size e
 |set S n=>obtain⟨o,_,_,_,e,_⟩:=x;exact Heap.lt_size e
 |ins C dx fs=>obtain⟨_,_,_,e,_⟩:=x;exact Heap.lt_size e
 |own y=>obtain⟨_,e⟩:=x;exact Heap.lt_size e
 |xd fs=>obtain⟨_,⟨_,_,_,e,_⟩,_⟩:=x;exact Heap.lt_size e
 |rng lo hi=>obtain⟨_,_,_,e⟩:=x;exact Heap.lt_size e
 |Kk ob u=>obtain⟨e,_⟩:=x;exact Heap.lt_size e
 |tbl ps=>exact Heap.lt_size (show h.get? a=some _ from x)
 |met f y=>exact Heap.lt_size (show h.get? a=some _ from x)
 |ext φ=>obtain⟨_,⟨_,e⟩,_⟩:=x;exact Heap.lt_size e
theorem Paired.abh{α β:Type}{F G:α->β->Prop}:∀{l₁:List α} {l₂:List β},Paired F l₁ l₂->(∀a b,F a b->G a b)->Paired G l₁ l₂
 |_,_,.nil,_=>.nil
 |_,_,.cons r t,f=>.cons (f _ _ r) (Paired.abh t f)
theorem pN.EH(x:pN P w H h a o)(k:∀b u,(b=a\/H b=some (.own a))->h.get? b=some u->h'.get? b=some u)
  (ho:∀b,H b=some (.own a)->H' b=some (.own a))(ht:∀b xs,H b=some (.tup xs)->H' b=some (.tup xs)):pN P w H' h' a o:=by
 induction o with
 |lst xs=>obtain⟨z,oh,n,r,e⟩:=x;exact⟨z,oh,n,r,k _ _ (.inl rfl) e⟩
 |tup xs=>obtain⟨z,oh,r,ob,e,c⟩:=x;exact⟨z,oh,r,ob,k _ _ (.inl rfl) e,c⟩
 |dK oF=>obtain⟨z,y,vs,r,ob,es,ep,e,c⟩:=x;exact⟨z,y,vs,r,ob,es,ep,k _ _ (.inl rfl) e,c⟩
 |dT oF=>
  obtain⟨z,y,xs,r,ob,es,ep,e,c⟩:=x
  exact⟨z,y,xs,Paired.abh r λ p q z=>⟨z.1,ht _ _ z.2.1,z.2.2⟩,ob,es,ep,k _ _ (.inl rfl) e,c⟩
 |set S n=>obtain⟨ob,es,ep,t,e,c⟩:=x;exact⟨ob,es,ep,t,k _ _ (.inl rfl) e,c⟩
 |ins C dx fs=>
  obtain⟨d,z,ne,e,mA,⟨od,es,ep,e2,c⟩,r⟩:=x
  exact⟨ho _ d,z,ne,k _ _ (.inl rfl) e,mA,⟨od,es,ep,k _ _ (.inr d) e2,c⟩,r⟩
 |own y=>obtain⟨ob,e⟩:=x;exact⟨ob,k _ _ (.inl rfl) e⟩
 |xd fs=>obtain⟨mA,⟨od,es,ep,e,c⟩,r⟩:=x;exact⟨mA,⟨od,es,ep,k _ _ (.inl rfl) e,c⟩,r⟩
 |rng lo hi=>obtain⟨t,u,v,e⟩:=x;exact⟨t,u,v,k _ _ (.inl rfl) e⟩
 |Kk ob u ih=>obtain⟨e,q⟩:=x;exact⟨k _ _ (.inl rfl) e,ih q⟩
 |tbl ps=>
  have e:h.get? a=some { cls:=.none,data:=.fields ps }:=x
  show h'.get? a=some { cls:=.none,data:=.fields ps }
  exact k a _ (.inl rfl) e
 |met f y=>
  have e:h.get? a=some (iy (.ref f) (.ref y)):=x
  show h'.get? a=some (iy (.ref f) (.ref y))
  exact k a _ (.inl rfl) e
 |ext φ=>obtain⟨p,⟨o,e⟩,st⟩:=x;exact⟨st _ _ p λ o q=>k _ _ (.inl rfl) q,⟨o,k _ _ (.inl rfl) e⟩,st⟩
theorem zL.lt(x:zL P w H h)(e:H a=some o):a<h.objs.size:=(x a o e).lt
theorem zL.fresh(x:zL P w H h)(e:h.objs.size<=a):H a=none:=by
 cases q:H a with
 |none=>rfl
 |some u=>exact absurd (aS (x.lt q) e) (cY _)
theorem zL.kept(x:zL P w H h)(k:∀b u,h.get? b=some u->h'.get? b=some u):zL P w H h':=λ a o e=>
 (x a o e).EH (λ b u _ q=>k b u q) (λ _ q=>q) λ _ _ q=>q
theorem zL.laid(x:zL P w H h)(k:∀b u,h.get? b=some u->h'.get? b=some u)(hp:h.objs.size<=a)(new:pN P w (upd H a o) h' a o):zL P w (upd H a o) h':=λ b u e=>by
 have hn:=x.fresh hp
 by_cases hb:b=a
 ·subst hb;rw[mX]at e;cases e;exact new
 ·rw[mY hb]at e
  exact(x b u e).EH (λ c v _ q=>k c v q) (λ c q=>by rw[mY (nE q hn)];exact q) λ c xs q=>by rw[mY (nE q hn)];exact q
end
def Rd(H:Hp)(a:ag)(u:HO):Prop:=H a=some u\/∃o,H a=some (.Kk o u)
theorem Rd.ok{P:aK}{w:bj}{H:Hp}{h:bF}{a:ag}{u:HO}(r:Rd H a u)(x:zL P w H h):pN P w H h a u:=by
 rcases r with r|⟨o,r⟩
 ·exact x a u r
 ·obtain⟨_,q⟩:=x a _ r
  exact q
def Mut:Option HO->Prop
 |some (.lst _)=>True
 |some (.dK _)=>True
 |some (.dT _)=>True
 |some (.set _ _)=>True
 |some (.ins _ _ _)=>True
 |some (.ext _)=>True
 |_=>False
section
variable{P:aK}{w:bj}{H:Hp}{h h':bF}{x e:ag}{o':HO}
theorem zL.write(ok:zL P w H h)(mu:Mut (H x))(he:e=x\/H e=some (.own x))(k:∀b u,b≠e->h.get? b=some u->h'.get? b=some u)(heo:∃u,h'.get? e=some u)
  (new:pN P w (upd H x o') h' x o'):zL P w (upd H x o') h':=λ b u q=>by
 have acN:∀c y,H c=some (.own y)->c≠x:=λ c y r z=>by subst z;rw[r]at mu;exact mu
 have aec:∀c xs,H c=some (.tup xs)->c≠x:=λ c xs r z=>by subst z;rw[r]at mu;exact mu
 by_cases hb:b=x
 ·subst hb;rw[mX]at q;cases q;exact new
 ·rw[mY hb]at q
  by_cases V_:b=e
  ·have q':H b=some (.own x):=by
    rcases he with z|z
    ·exact absurd (V_.trans z) hb
    ·rw[V_];exact z
   rw[q]at q';cases q'
   obtain⟨v,hv⟩:=heo
   exact⟨v,by rw[V_];exact hv⟩
  ·refine(ok b u q).EH (λ c v hc r=>k c v ?_ r) (λ c r=>by rw[mY (acN c b r)];exact r) λ c xs r=>by rw[mY (aec c xs r)];exact r
   rcases hc with rfl|hc
   ·exact V_
   ·rintro rfl
    rcases he with z|z
    ·exact acN c b hc z
    ·rw[hc]at z;cases z;exact hb rfl
end
structure Un(fs ex:List ag)(H H':Hp)(h h':bF):Prop where
 keep:∀b o,h.get? b=some o->H b=none->b∉fs->b∉ex->h'.get? b=some o
 slot:∀b o,h.get? b=some o->H b=none->b∈fs->b∉ex->∃sl,h'.get? b=some { o with slots:=sl }
 free:∀b o,h.get? b=some o->H b=none->b∉ex->H' b=none
 there:∀b o,h.get? b=some o->b∉ex->∃o',h'.get? b=some o'
 JW:∀b xs,H b=some (.tup xs)->H' b=some (.tup xs)
 Hr:∀b o u,H b=some (.Kk o u)->H' b=some (.Kk o u)
 JX:∀b ps,H b=some (.tbl ps)->∃bB,H' b=some (.tbl (ps++bB))
section
variable{fs fs' ex ex':List ag}{H H1 H2:Hp}{h h1 h2 h':bF}{a x e:ag}{o:HO}
theorem Un.any(u:Un fs ex H H1 h h1){b:ag}{ob:Obj}(q:h.get? b=some ob)(n:H b=none)(hx:b∉ex):∃sl,h1.get? b=some { ob with slots:=sl }:=by
 by_cases hb:b∈fs
 ·exact u.slot b ob q n hb hx
 ·exact⟨ob.slots,u.keep b ob q n hb hx⟩
theorem Un.kept(k:∀b u,h.get? b=some u->h'.get? b=some u):Un fs ex H H h h':=
 ⟨λ b ob q _ _ _=>k b ob q,λ b ob q _ _ _=>⟨ob.slots,k b ob q⟩,λ _ _ _ n _=>n,λ b ob q _=>⟨ob,k b ob q⟩,λ _ _ q=>q,λ _ _ _ q=>q,λ _ ps q=>⟨#[],by rw[q];simp⟩⟩
theorem Un.refl:Un fs ex H H h h:=Un.kept λ _ _ q=>q
theorem Un.laid(k:∀b u,h.get? b=some u->h'.get? b=some u)(hp:h.objs.size<=a)(hn:H a=none):Un fs ex H (upd H a o) h h' where
 keep:=λ b u q _ _ _=>k b u q
 slot:=λ b u q _ _ _=>⟨u.slots,k b u q⟩
 free:=λ b u q n _=>by rw[mY (bK (aS (Heap.lt_size q) hp))];exact n
 there:=λ b u q _=>⟨u,k b u q⟩
 JW:=λ b xs q=>by rw[mY (nE q hn)];exact q
 Hr:=λ b u xs q=>by rw[mY (nE q hn)];exact q
 JX:=λ b ps q=>⟨#[],by rw[mY (nE q hn),q];simp⟩
theorem Un.write(mu:Mut (H x))(he:e=x\/H e=some (.own x))(k:∀b u,b≠e->h.get? b=some u->h'.get? b=some u)(heo:∃u,h'.get? e=some u):Un fs ex H (upd H x o) h h':=by
 have hx:∀b,H b=none->b≠x:=λ b n z=>by subst z;rw[n]at mu;exact mu
 have hb:∀b,H b=none->b≠e:=λ b n z=>by
  subst z
  rcases he with r|r
  ·exact hx b n r
  ·rw[n]at r;cases r
 have hm:∀b u,H b=some u->¬ Mut (some u)->b≠x:=λ b u q nm z=>by subst z;rw[q]at mu;exact nm mu
 refine⟨λ b u q n _ _=>k b u (hb b n) q,λ b u q n _ _=>⟨u.slots,k b u (hb b n) q⟩,λ b u q n _=>by rw[mY (hx b n)];exact n,λ b u q _=>?_,
  λ b xs q=>by rw[mY (hm b _ q λ z=>z)];exact q,λ b u xs q=>by rw[mY (hm b _ q λ z=>z)];exact q,λ b ps q=>⟨#[],by rw[mY (hm b _ q λ z=>z),q];simp⟩⟩
 by_cases V_:b=e
 ·subst V_;exact heo
 ·exact⟨u,k b u V_ q⟩
end
def trk(h:bF)(H:Hp):List ag:=(az h.objs.size).filter λ a=>(H a).isSome
def Ly(h:bF)(H:Hp):bF:=PySem.W.hideAll h (trk h H)
theorem Ub(h:bF)(H:Hp):(Ly h H).objs.size=h.objs.size:=PySem.W.hideAll_size _ _
theorem Wa{h:bF}{H:Hp}{b:ag}{o:Obj}(e:h.get? b=some o)(n:H b=none):(Ly h H).get? b=some o:=
 PySem.W.hideAll_get _ e λ hm=>by
  have q:(H b).isSome=true:=(List.mem_filter.mp hm).2
  rw[n]at q;simp at q
theorem Ze{h:bF}{H:Hp}{b:ag}{o:Obj}(e:(Ly h H).get? b=some o):h.get? b=some o/\H b=none:=by
 have e':h.get? b=some o:=PySem.W.of_hideAll (trk h H) e
 refine⟨e',?_⟩
 cases q:H b with
 |none=>rfl
 |some x=>
  have hm:b∈trk h H:=List.mem_filter.mpr ⟨List.mem_range.mpr (Heap.lt_size e'),by simp[q]⟩
  have z:(Ly h H).get? b=none:=PySem.W.hideAll_none (trk h H) hm
  rw[z]at e;cases e
def Zf(g h:bF)(L:ag):List (ag×Obj):=(az h.objs.size).filterMap λ a=>if a=L\/(g.get? a).isSome=true then none else(h.get? a).map λ o=>(a,o)
def rest(g h:bF)(L d:ag):List (ag×Obj):=(Zf g h L).filter λ p=>decide (p.1≠d)
end L2
namespace L2
open PySem PySem.Spec PyProof.Rows
structure Mod(K:ah)(mg:Str->Option ao)(base:bF):Prop where
 Zg:K.In base
 glob:base.Ns aR mg
 blt:∃mb,base.Ns lR mb/\∀x:Str,x≠"__name__"->mb x=gm x
 nolimit:base.NoLimit
structure Cx where
 prog:aK
 w:bj
 K:ah
 mg:Str->Option ao
 base:bF
 A:bV
 N:List Str
 JY:au
 H_0:Hp
 env:Env
 outer:List Env
 stack:List Env
 ex:List ag
 fn:Str->Bool
 calm:Bool
 pn:List (ag×Obj)
 xe:ao->au->Prop
def PQ(l:List Env):List ag:=l.filterMap (·.frame)
abbrev Cx.fs(X:Cx):List ag:=PQ X.outer
def Vis(sc:eP)(x:Str):Prop:=sc.names.lookup x=some .local\/sc.names.lookup x=some .cell\/sc.names.lookup x=some .free
def Loc(sc:eP)(x:Str):Prop:=sc.names.lookup x=some .local\/sc.names.lookup x=some .cell
def Look(env:Env)(h:bF)(m:Str->Option ao)(x:Str)(u:ao):Prop:=
 (env.kindOf x=some .local/\m x=some u)\/((env.kindOf x=some .cell\/env.kindOf x=some .free)/\∃c,env.cells.lookup x=some c/\h.IsCell c (some u))
structure Cx.Ok(X:Cx):Prop where
 mod:Mod X.K X.mg X.base
 kind:X.env.scope.kind= .function
 glob:X.env.globals=aR
 blt:X.env.builtins=lR
 above:X.JY.heap.objs.size<=X.env.locals
 inj:∀x y c,X.env.cells.lookup x=some c->X.env.cells.lookup y=some c->x=y
 has:∀x,(X.env.kindOf x=some .cell\/X.env.kindOf x=some .free)->∃c,X.env.cells.lookup x=some c
 cab:∀x c,X.fn x=true->X.env.cells.lookup x=some c->X.JY.heap.objs.size<=c
 hd:X.calm=true->X.A.handled=none
 frames:X.A.frames=some X.stack
 stk:X.stack=X.outer\/(X.stack=X.env::X.outer/\X.env.frame=some X.env.locals)
 exf:∀b∈X.ex,b≠X.env.locals/\∀x c,X.env.cells.lookup x=some c->c≠b
 bs:∀b o,X.base.get? b=some o->X.JY.heap.get? b=some o/\X.H_0 b=none
 Sl:X.base.objs.size<=X.JY.heap.objs.size
 Nt:∀b o,X.base.get? b=some o->b∉X.ex
 Nu:∀b∈X.ex,b∉X.fs
 BC:X.JY.heap.FunFrames X.base X.outer
 VQ:∀b∈X.fs,X.H_0 b=none
structure Inv(X:Cx)(pins:List (ag×Obj))(σ:List (Option V))(H:Hp)(s:au):Prop where
 ok:X.Ok
 os:s.os=X.JY.os
 bare:iM s.gens
 base:Un X.fs X.ex X.H_0 H X.JY.heap s.heap
 loc:∃m,s.heap.Ns X.env.locals m/\∀(i:Nat) (x:Str) (v:V),X.N[i]? =some x->σ[i]? =some (some v)->Vis X.env.scope x->∃u,RelV v u/\Look X.env s.heap m x u
 cell:∀x c,X.env.cells.lookup x=some c->∃v,s.heap.IsCell c v
 free:H X.env.locals=none
 uB:∀x c,X.env.cells.lookup x=some c->H c=none
 pin:∀p∈X.pn++pins,s.heap.get? p.1=some p.2/\H p.1=none/\p.1≠X.env.locals/\p.1∉X.fs/\∀v,p.2.data≠ .cell v
 oW:zL X.prog X.w H s.heap
 len:σ.length=X.N.length
section
variable{X:Cx}{pins:List (ag×Obj)}{σ:List (Option V)}{H H':Hp}{s:au}{h':bF}
theorem Cx.Ok.aed(ok:X.Ok){b:ag}{o:Obj}(e:X.base.get? b=some o):b∉X.fs:=λ hb=>by
 have:=(ok.BC.mem hb).1
 rw[e]at this;cases this
theorem Inv.bs(I:Inv X pins σ H s):∀b o,X.base.get? b=some o->s.heap.get? b=some o/\H b=none:=λ b o e=>
 ⟨I.base.keep b o (I.ok.bs b o e).1 (I.ok.bs b o e).2 (I.ok.aed e) (I.ok.Nt b o e),I.base.free b o (I.ok.bs b o e).1 (I.ok.bs b o e).2 (I.ok.Nt b o e)⟩
theorem Inv.bk(I:Inv X pins σ H s):∀b o,X.base.get? b=some o->s.heap.get? b=some o:=λ b o e=>(I.bs b o e).1
theorem Inv.mod(I:Inv X pins σ H s):Mod X.K X.mg X.base:=I.ok.mod
theorem Inv.FH(I:Inv X pins σ H s):X.K.In s.heap:=I.ok.mod.Zg.keeps I.bk
theorem Inv.fr(I:Inv X pins σ H s):∃m,Fr X.base X.env.locals s.heap m:=
 let⟨m,hn,_⟩:=I.loc
 ⟨m,hn,I.bk,aV I.ok.Sl I.ok.above⟩
theorem Inv.lt(I:Inv X pins σ H s):X.env.locals<s.heap.objs.size:=let⟨_,hn,_⟩:=I.loc;hn.lt
theorem Inv.sz(I:Inv X pins σ H s):X.JY.heap.objs.size<=s.heap.objs.size:=aV I.ok.above (e_ I.lt)
theorem Inv.aee(I:Inv X pins σ H s){a:ag}(h:s.heap.objs.size<=a):a∉X.fs:=λ hb=>by
 obtain⟨_,o,ho,_⟩:=I.ok.BC.mem hb
 exact absurd (aS (Heap.lt_size ho) (aV I.sz h)) (cY _)
theorem Inv.Zh(I:Inv X pins σ H s):∀x c,X.env.cells.lookup x=some c->c≠X.env.locals:=λ x c e z=>by
 obtain⟨v,o,ho,hd⟩:=I.cell x c e
 obtain⟨m,⟨o',es,ep,Sm,VR,_⟩,_⟩:=I.loc
 rw[z,Sm]at ho;cases ho;rw[VR]at hd;cases hd
theorem Inv.BC(I:Inv X pins σ H s):s.heap.FunFrames X.base X.outer:=by
 have all:∀(l:List Env),(∀b∈PQ l,b∈X.fs)->X.JY.heap.FunFrames X.base l->s.heap.FunFrames X.base l:=by
  intro l
  induction l with
  |nil=>intro _ _;trivial
  |cons env r ih=>
   intro hs hl
   obtain⟨hk,⟨L,o,hf,hn,ho,hd⟩,hr⟩:=hl
   have hL:L∈X.fs:=hs L (by unfold PQ;rw[dG,hf];exact bU)
   obtain⟨sl,e⟩:=I.base.slot L o ho (I.ok.VQ L hL) hL λ z=>I.ok.Nu L z hL
   exact⟨hk,⟨L,_,hf,hn,e,hd⟩,ih (λ b hb=>hs b (by unfold PQ;rw[dG,hf];exact aP _ hb)) hr⟩
 exact all X.outer (λ _ hb=>hb) I.ok.BC
theorem Inv.stack(I:Inv X pins σ H s):s.heap.FunFrames X.base X.stack:=by
 rcases I.ok.stk with e|⟨e,hf⟩
 ·rw[e];exact I.BC
 ·rw[e]
  obtain⟨m,hn,_⟩:=I.loc
  refine .cons (by rw[I.ok.kind];decide) hf hn ?_ I.BC
  exact Heap.get?_none_of_le (aV I.ok.Sl I.ok.above)
theorem Inv.PR(I:Inv X pins σ H s):∀b∈PQ X.stack,b∈X.env.locals::X.fs:=λ b hb=>by
 rcases I.ok.stk with e|⟨e,hf⟩
 ·rw[e]at hb;exact aP _ hb
 ·rw[e]at hb
  unfold PQ at hb
  rw[dG,hf]at hb
  exact hb
theorem Inv.Lz(I:Inv X pins σ H s):∀b∈PQ X.stack,H b=none:=λ b hb=>by
 rcases List.mem_cons.mp (I.PR b hb)with e|hb
 ·rw[e];exact I.free
 ·obtain⟨_,o,ho,_⟩:=I.ok.BC.mem hb
  exact I.base.free b o ho (I.ok.VQ b hb) λ z=>I.ok.Nu b z hb
theorem Inv.step{g':Array GenState}{t':Nat}{d':Drawn}{ch:List ag}(I:Inv X pins σ H s)
  (PU:∀b∈ch,(b∈X.ex\/X.JY.heap.objs.size<=b)/\b≠X.env.locals/\(∀x c,X.env.cells.lookup x=some c->c≠b)/\∀p∈X.pn++pins,p.1≠b)
  (keep:∀b o,b≠X.env.locals->b∉X.fs->b∉ch->s.heap.get? b=some o->H b=none->h'.get? b=some o)
  (slot:∀b o,b≠X.env.locals->b∈X.fs->b∉ch->s.heap.get? b=some o->H b=none->∃sl,h'.get? b=some { o with slots:=sl })(free:∀b o,b∉ch->s.heap.get? b=some o->H b=none->H' b=none)
  (there:∀b o,b∉ch->s.heap.get? b=some o->∃o',h'.get? b=some o')
  (JW:∀b xs,H b=some (.tup xs)->H' b=some (.tup xs))(Hr:∀b o u,H b=some (.Kk o u)->H' b=some (.Kk o u))(JX:∀b ps,H b=some (.tbl ps)->∃bB,H' b=some (.tbl (ps++bB)))
  (ns:∀m,s.heap.Ns X.env.locals m->h'.Ns X.env.locals m)(oW:zL X.prog X.w H' h')(hg:iM g'):
  Inv X pins σ H' { s with heap:=h',gens:=g',drawn:=d',toks:=t' }:=by
 have neL:∀b o,X.JY.heap.get? b=some o->b≠X.env.locals:=λ b o e=>bK (aS (Heap.lt_size e) I.ok.above)
 have neC:∀b o,X.JY.heap.get? b=some o->b∉X.ex->b∉ch:=λ b o e hx hb=>by
  rcases(PU b hb).1 with z|z
  ·exact hx z
  ·exact absurd (aS (Heap.lt_size e) z) (cY _)
 have cellK:∀x c,X.env.cells.lookup x=some c->∀v,s.heap.IsCell c v->h'.IsCell c v:=λ x c e v ⟨o,ho,hd⟩=>by
  have nch:c∉ch:=λ z=>(PU c z).2.2.1 x c e rfl
  by_cases hc:c∈X.fs
  ·obtain⟨sl,q⟩:=slot c o (I.Zh x c e) hc nch ho (I.uB x c e)
   exact⟨_,q,hd⟩
  ·exact⟨o,keep c o (I.Zh x c e) hc nch ho (I.uB x c e),hd⟩
 refine⟨I.ok,I.os,hg,⟨λ b o e n hb hx=>?_,λ b o e n hb hx=>?_,λ b o e n hx=>?_,λ b o e hx=>?_,λ b xs e=>JW b xs (I.base.JW b xs e),λ b o xs e=>Hr b o xs (I.base.Hr b o xs e),λ b ps e=>?_⟩,?_,λ x c e=>?_,?_,λ x c e=>?_,λ p hp=>?_,oW,I.len⟩
 ·exact keep b o (neL b o e) hb (neC b o e hx) (I.base.keep b o e n hb hx) (I.base.free b o e n hx)
 ·obtain⟨sl,e1⟩:=I.base.slot b o e n hb hx
  obtain⟨sl',e2⟩:=slot b _ (neL b o e) hb (neC b o e hx) e1 (I.base.free b o e n hx)
  exact⟨sl',e2⟩
 ·obtain⟨o',e1⟩:=I.base.there b o e hx
  exact free b o' (neC b o e hx) e1 (I.base.free b o e n hx)
 ·obtain⟨o',e1⟩:=I.base.there b o e hx
  exact there b o' (neC b o e hx) e1
 ·obtain⟨m1,e1⟩:=I.base.JX b ps e
  obtain⟨m2,e2⟩:=JX b _ e1
  exact⟨m1++m2,by rw[e2,Array.append_assoc]⟩
 ·obtain⟨m,hn,hl⟩:=I.loc
  refine⟨m,ns m hn,λ i x v e1 e2 e3=>?_⟩
  obtain⟨u,r,l⟩:=hl i x v e1 e2 e3
  refine⟨u,r,?_⟩
  rcases l with l|⟨k,c,e,z⟩
  ·exact .inl l
  ·exact .inr ⟨k,c,e,cellK x c e _ z⟩
 ·obtain⟨v,z⟩:=I.cell x c e
  exact⟨v,cellK x c e v z⟩
 ·obtain⟨m,⟨o,_,_,ho,_⟩,_⟩:=I.loc
  exact free _ o (λ z=>(PU _ z).2.1 rfl) ho I.free
 ·obtain⟨v,o,ho,hd⟩:=I.cell x c e
  exact free c o (λ z=>(PU c z).2.2.1 x c e rfl) ho (I.uB x c e)
 ·obtain⟨e,n,ne,nf,d⟩:=I.pin p hp
  have nch:p.1∉ch:=λ z=>(PU p.1 z).2.2.2 p hp rfl
  exact⟨keep p.1 p.2 ne nf nch e n,free p.1 p.2 nch e n,ne,nf,d⟩
theorem Inv.un{t':Nat}(I:Inv X pins σ H s)(u:Un X.fs [] H H' s.heap h')(oW:zL X.prog X.w H' h'):Inv X pins σ H' { s with heap:=h',toks:=t' }:=by
 obtain⟨m,⟨o,es,ep,ho,r⟩,_⟩:=id I.loc
 obtain⟨sl,hL⟩:=u.any ho I.free (by simp)
 exact I.step (g':=s.gens) (d':=s.drawn) (ch:=[]) (λ _ z=>nomatch z) (λ b o _ hb _ e n=>u.keep b o e n hb (by simp)) (λ b o _ hb _ e n=>u.slot b o e n hb (by simp)) (λ b o _ e n=>u.free b o e n (by simp)) (λ b o _ e=>u.there b o e (by simp)) u.JW u.Hr u.JX (λ m' hm=>by
  obtain⟨o',VS,ep',Sm,r'⟩:=hm
  rw[ho]at Sm;cases Sm
  exact⟨_,VS,ep',hL,r'⟩) oW I.bare
theorem Inv.call{g':Array GenState}{t':Nat}{d':Drawn}{ch:List ag}(I:Inv X pins σ H s)(u:Un (PQ X.stack) ch H H' s.heap h')(oW:zL X.prog X.w H' h')(hg:iM g')
  (PU:∀b∈ch,(b∈X.ex\/X.JY.heap.objs.size<=b)/\b≠X.env.locals/\(∀x c,X.env.cells.lookup x=some c->c≠b)/\∀p∈X.pn++pins,p.1≠b):
  Inv X pins σ H' { s with heap:=h',gens:=g',drawn:=d',toks:=t' }:=by
 obtain⟨m,⟨o,es,ep,ho,r⟩,_⟩:=id I.loc
 obtain⟨sl,hL⟩:=u.any ho I.free λ z=>(PU _ z).2.1 rfl
 exact I.step (ch:=ch) PU (λ b o hL hb hc e n=>u.keep b o e n (λ z=>(List.mem_cons.mp (I.PR b z)).elim hL hb) hc) (λ b o _ _ hc e n=>u.any e n hc) (λ b o hc e n=>u.free b o e n hc) (λ b o hc e=>u.there b o e hc) u.JW u.Hr u.JX (λ m' hm=>by
  obtain⟨o',VS,ep',Sm,r'⟩:=hm
  rw[ho]at Sm;cases Sm
  exact⟨_,VS,ep',hL,r'⟩) oW hg
theorem Inv.turned{t':Nat}{it:ag}(I:Inv X pins σ H s)(k:∀b o,b≠it->s.heap.get? b=some o->h'.get? b=some o)(hn:H it=none)(hL:it≠X.env.locals)
  (h1:it∈X.ex\/X.JY.heap.objs.size<=it)(h2:∀x c,X.env.cells.lookup x=some c->c≠it)(h3:∀p∈X.pn++pins,p.1≠it):Inv X pins σ H { s with heap:=h',toks:=t' }:=by
 have nit:∀b u,H b=some u->b≠it:=λ b u e z=>by rw[z,hn]at e;cases e
 refine I.step (g':=s.gens) (d':=s.drawn) (ch:=[it]) (λ b hb=>?_) (λ b o _ _ hc e _=>k b o (λ z=>hc (by simp[z])) e) (λ b o _ _ hc e _=>⟨o.slots,k b o (λ z=>hc (by simp[z])) e⟩) (λ _ _ _ _ n=>n)
  (λ b o hc e=>⟨o,k b o (λ z=>hc (by simp[z])) e⟩) (λ _ _ e=>e) (λ _ _ _ e=>e) (λ b ps e=>⟨#[],by rw[e];simp⟩) (λ m hm=>?_) (λ b u e=>?_) I.bare
 ·have e:b=it:=by simpa using hb
  subst e
  exact⟨h1,hL,h2,h3⟩
 ·obtain⟨o,es,ep,ho,r⟩:=hm
  exact⟨o,es,ep,k _ o (Ne.symm hL) ho,r⟩
 ·refine(I.oW b u e).EH (λ c v hc q=>k c v ?_ q) (λ _ q=>q) λ _ _ q=>q
  rcases hc with z|z
  ·rw[z];exact nit b u e
  ·exact nit c _ z
theorem Inv.tok(I:Inv X pins σ H s)(t:Nat):Inv X pins σ H { s with toks:=t }:=I.un (h':=s.heap) (t':=t) Un.refl I.oW
theorem Inv.kept{t':Nat}(I:Inv X pins σ H s)(k:∀b u,s.heap.get? b=some u->h'.get? b=some u):Inv X pins σ H { s with heap:=h',toks:=t' }:=I.un (Un.kept k) (I.oW.kept k)
theorem Inv.laid{a:ag}{o:HO}{t':Nat}(I:Inv X pins σ H s)(k:∀b u,s.heap.get? b=some u->h'.get? b=some u)(hp:s.heap.objs.size<=a)(new:pN X.prog X.w (upd H a o) h' a o):
  Inv X pins σ (upd H a o) { s with heap:=h',toks:=t' }:=I.un (Un.laid k hp (I.oW.fresh hp)) (I.oW.laid k hp new)
theorem Inv.write{x e:ag}{o:HO}{t':Nat}(I:Inv X pins σ H s)(mu:Mut (H x))(he:e=x\/H e=some (.own x))(k:∀b u,b≠e->s.heap.get? b=some u->h'.get? b=some u)(heo:∃u,h'.get? e=some u)
  (new:pN X.prog X.w (upd H x o) h' x o):Inv X pins σ (upd H x o) { s with heap:=h',toks:=t' }:=I.un (Un.write mu he k heo) (I.oW.write mu he k heo new)
theorem Inv.weak{σ':List (Option V)}(I:Inv X pins σ H s)(hl:σ'.length=σ.length)(w:∀(i:Nat) v,σ'[i]? =some (some v)->σ[i]? =some (some v)):Inv X pins σ' H s:=
 ⟨I.ok,I.os,I.bare,I.base,let⟨m,hn,GS⟩:=I.loc;⟨m,hn,λ i x v e1 e2 e3=>GS i x v e1 (w i v e2) e3⟩,I.cell,I.free,I.uB,I.pin,I.oW,hl.trans I.len⟩
theorem Inv.LA{aaS:List (ag×Obj)}(I:Inv X pins σ H s)(h:∀p∈aaS,s.heap.get? p.1=some p.2/\H p.1=none/\p.1≠X.env.locals/\p.1∉X.fs/\∀v,p.2.data≠ .cell v):Inv X aaS σ H s:=
 ⟨I.ok,I.os,I.bare,I.base,I.loc,I.cell,I.free,I.uB,λ p hp=>(List.mem_append.mp hp).elim (λ z=>I.pin p (hX _ z)) (h p),I.oW,I.len⟩
theorem Dn{N:List Str}(hN:N.Nodup){i j:Nat}{x:Str}(a:N[i]? =some x)(b:N[j]? =some x):i=j:=by
 obtain⟨h1,e1⟩:=List.getElem?_eq_some_iff.mp a
 obtain⟨h2,e2⟩:=List.getElem?_eq_some_iff.mp b
 exact(k7 hN).mp (e1.trans e2.symm)
theorem Kl{M:jF}{A:bV}{E:ao->au->Prop}{i:Nat}{x:Str}{v:V}{u:ao}{Q:Unit->au->Prop}(I:Inv X pins σ H s)(hN:X.N.Nodup)(hi:X.N[i]? =some x)(hx:Loc X.env.scope x)(r:RelV v u)
  (h:∀s',Inv X pins (σ.set i (some v)) H s'->(∃a,Heap.SameBut a s.heap s'.heap/\(a=X.env.locals\/X.env.cells.lookup x=some a))->Q () s')(hf:X.fn x=true\/X.env.scope.names.lookup x=some .local:=by first|exact .inl rfl|exact .inr rfl|assumption):aT M A (mj X.env x u) Q E s:=by
 obtain⟨m,hn,hl⟩:=id I.loc
 have abi:(X.env.scope.kind == .class || (X.env.scope.kind == .module && X.env.locals != X.env.globals))=false:=by rw[I.ok.kind];rfl
 have hiσ:i<σ.length:=by rw[I.len];exact(List.getElem?_eq_some_iff.mp hi).1
 have Zh:=I.Zh
 have tracked:∀{a:ag} {h':bF},(∃o,s.heap.get? a=some o/\H a=none)->Heap.SameBut a s.heap h'->zL X.prog X.w H h':=λ{a h'} ha hs b ob e=>by
  obtain⟨_,_,Km⟩:=ha
  refine(I.oW b ob e).EH (λ c w' hc q=>(hs.2 c ?_).trans q) (λ _ q=>q) λ _ _ q=>q
  rintro rfl
  rcases hc with rfl|hc
  ·rw[Km]at e;cases e
  ·rw[Km]at hc;cases hc
 rcases hx with hk|hk
 ·refine wpAny_storeName_local hk hn (λ h' hn' hs=>?_) abi
  obtain⟨oL,_,_,hoL,_⟩:=id hn
  refine h _ ⟨I.ok,I.os,I.bare,⟨λ b o e n hb hx=>?_,λ b o e n hb hx=>?_,I.base.free,λ b o e hx=>?_,I.base.JW,I.base.Hr,I.base.JX⟩,⟨_,hn',λ j y v' e1 e2 e3=>?_⟩,λ y c e=>?_,I.free,I.uB,λ p hp=>?_,tracked ⟨oL,hoL,I.free⟩ hs,by simpa using I.len⟩ ⟨_,hs,.inl rfl⟩
  ·exact(hs.2 b (bK (aS (Heap.lt_size e) I.ok.above))).trans (I.base.keep b o e n hb hx)
  ·obtain⟨sl,e1⟩:=I.base.slot b o e n hb hx
   exact⟨sl,(hs.2 b (bK (aS (Heap.lt_size e) I.ok.above))).trans e1⟩
  ·obtain⟨o',e1⟩:=I.base.there b o e hx
   exact⟨o',(hs.2 b (bK (aS (Heap.lt_size e) I.ok.above))).trans e1⟩
  ·by_cases hj:j=i
   ·subst hj
    rw[hi]at e1;cases e1
    rw[cP hiσ]at e2
    cases e2
    exact⟨u,r,.inl ⟨hk,by simp⟩⟩
   ·rw[fE (Ne.symm hj)]at e2
    obtain⟨u',r',q⟩:=hl j y v' e1 e2 e3
    refine⟨u',r',?_⟩
    rcases q with⟨k,e⟩|⟨k,c,e,z⟩
    ·refine .inl ⟨k,?_⟩
     have:y≠x:=λ e=>hj (Dn hN e1 (e ▸ hi))
     simp[this,e]
    ·exact .inr ⟨k,c,e,z.sameBut hs (Zh y c e)⟩
  ·obtain⟨w',z⟩:=I.cell y c e
   exact⟨w',z.sameBut hs (Zh y c e)⟩
  ·obtain⟨e,n,ne,nf,d⟩:=I.pin p hp
   exact⟨(hs.2 p.1 ne).trans e,n,ne,nf,d⟩
 ·have hfn:X.fn x=true:=by
   rcases hf with z|z
   ·exact z
   ·rw[z]at hk;cases hk
  obtain⟨c,hc⟩:=I.ok.has x (.inl hk)
  obtain⟨w',z⟩:=I.cell x c hc
  refine wpAny_storeName_cell I.ok.kind hk hc z (λ h' VT hs=>?_)
  obtain⟨oc,hoc,aef⟩:=id z
  refine h { s with heap:=h' } ⟨I.ok,I.os,I.bare,⟨λ b o e n hb hx=>?_,λ b o e n hb hx=>?_,I.base.free,λ b o e hx=>?_,I.base.JW,I.base.Hr,I.base.JX⟩,⟨m,hn.sameBut hs (Ne.symm (Zh x c hc)),λ j y v' e1 e2 e3=>?_⟩,λ y c' e=>?_,I.free,I.uB,λ p hp=>?_,tracked ⟨oc,hoc,I.uB x c hc⟩ hs,by simpa using I.len⟩ ⟨c,hs,.inr hc⟩
  ·exact(hs.2 b (bK (aS (Heap.lt_size e) (I.ok.cab x c hfn hc)))).trans (I.base.keep b o e n hb hx)
  ·obtain⟨sl,e1⟩:=I.base.slot b o e n hb hx
   exact⟨sl,(hs.2 b (bK (aS (Heap.lt_size e) (I.ok.cab x c hfn hc)))).trans e1⟩
  ·obtain⟨o',e1⟩:=I.base.there b o e hx
   exact⟨o',(hs.2 b (bK (aS (Heap.lt_size e) (I.ok.cab x c hfn hc)))).trans e1⟩
  ·by_cases hj:j=i
   ·subst hj
    rw[hi]at e1;cases e1
    rw[cP hiσ]at e2
    cases e2
    exact⟨u,r,.inr ⟨.inl hk,c,hc,VT⟩⟩
   ·rw[fE (Ne.symm hj)]at e2
    obtain⟨u',r',q⟩:=hl j y v' e1 e2 e3
    refine⟨u',r',?_⟩
    rcases q with q|⟨k,c',e,z'⟩
    ·exact .inl q
    ·refine .inr ⟨k,c',e,z'.sameBut hs ?_⟩
     rintro rfl
     exact hj (Dn hN e1 (I.ok.inj _ _ _ e hc ▸ hi))
  ·by_cases hcc:c'=c
   ·subst hcc;exact⟨_,VT⟩
   ·obtain⟨w2,z2⟩:=I.cell y c' e
    exact⟨w2,z2.sameBut hs hcc⟩
  ·obtain⟨e,n,ne,nf,d⟩:=I.pin p hp
   refine⟨(hs.2 p.1 ?_).trans e,n,ne,nf,d⟩
   intro q
   rw[q,hoc]at e
   have q':oc=p.2:=Option.some.inj e
   exact d w' (by rw[<-q'];exact aef)
theorem Dq{M:jF}{A:bV}{E:ao->au->Prop}{i:Nat}{x:Str}{v:V}{u:ao}{Q:Unit->au->Prop}(I:Inv X pins σ H s)(hN:X.N.Nodup)(hi:X.N[i]? =some x)(hx:Loc X.env.scope x)(r:RelV v u)
  (h:∀s',Inv X pins (σ.set i (some v)) H s'->Q () s')(hf:X.fn x=true\/X.env.scope.names.lookup x=some .local:=by first|exact .inl rfl|exact .inr rfl|assumption):aT M A (mj X.env x u) Q E s:=
 Kl I hN hi hx r (λ s' I' _=>h s' I') hf
theorem Inv.aaT{s':au}{ch:List ag}(I:Inv X pins σ H s)(ho:s'.os=s.os)(u:Un (PQ X.stack) ch H H' s.heap s'.heap)(oW:zL X.prog X.w H' s'.heap)(hg:iM s'.gens)
  (PU:∀b∈ch,(b∈X.ex\/X.JY.heap.objs.size<=b)/\b≠X.env.locals/\(∀x c,X.env.cells.lookup x=some c->c≠b)/\∀p∈X.pn++pins,p.1≠b):Inv X pins σ H' s':=by
 obtain⟨h',g',d',t',o'⟩:=s'
 have e:o'=s.os:=ho
 subst e
 exact I.call (g':=g') (t':=t') (d':=d') u oW hg PU
end
abbrev XK:=ao->Option ag->Hp->Prop
abbrev St:=List (Option V)
abbrev VK:=V->Hp->Prop
abbrev TE:=St->Hp->VK->Prop
abbrev TT:=St->Hp->(Bool->Hp->Prop)->Prop
abbrev TA:=St->Hp->(List V->Hp->Prop)->Prop
structure Ends where
 nx:St->Hp->Prop
 rt:VK
 bk:St->Hp->Prop:=λ _ _=>False
 ct:St->Hp->Prop:=λ _ _=>False
abbrev TS:=Ends->St->Hp->Prop
def EP(X:Cx)(pins:List (ag×Obj))(σ:St)(Q:VK)(u:ao)(s':au):Prop:=∃v H',Inv X pins σ H' s'/\RelV v u/\Q v H'
def TP(X:Cx)(pins:List (ag×Obj))(σ:St)(Q:Bool->Hp->Prop)(b:Bool)(s':au):Prop:=∃H',Inv X pins σ H' s'/\Q b H'
def AP(X:Cx)(pins:List (ag×Obj))(σ:St)(Q:List V->Hp->Prop)(us:List ao)(s':au):Prop:=∃vs H',Inv X pins σ H' s'/\Vals vs us/\Q vs H'
def SP(X:Cx)(pins:List (ag×Obj))(D:Ends)(f:Flow)(s':au):Prop:=
 match f with
 | .next=>∃σ' H',Inv X pins σ' H' s'/\D.nx σ' H'
 | .brk=>∃σ' H',Inv X pins σ' H' s'/\D.bk σ' H'
 | .cont=>∃σ' H',Inv X pins σ' H' s'/\D.ct σ' H'
 | .ret u=>∃v σ' H',Inv X pins σ' H' s'/\RelV v u/\D.rt v H'
def PE(X:Cx)(e:bJ)(t:TE):Prop:=
 ∀(pins:List (ag×Obj)) (s:au) (σ:St) (H:Hp) (Q:VK),Inv X pins σ H s->t σ H Q->aT (aU X.prog X.w) X.A (cw e X.env) (EP X pins σ Q) X.xe s
def PT(X:Cx)(e:bJ)(t:TT):Prop:=
 ∀(pins:List (ag×Obj)) (s:au) (σ:St) (H:Hp) (Q:Bool->Hp->Prop),Inv X pins σ H s->t σ H Q->aT (aU X.prog X.w) X.A (kN e X.env (cw e X.env)) (TP X pins σ Q) X.xe s
def PW(X:Cx)(e:bJ)(t:TT):Prop:=
 ∀(whole:Sem ao) (pins:List (ag×Obj)) (s:au) (σ:St) (H:Hp) (Q:Bool->Hp->Prop),Inv X pins σ H s->t σ H Q->aT (aU X.prog X.w) X.A (kN e X.env whole) (TP X pins σ Q) X.xe s
theorem PW.pt{X:Cx}{e:bJ}{t:TT}(h:PW X e t):PT X e t:=h _
def PA(X:Cx)(es:List bJ)(t:TA):Prop:=
 ∀(pos:Pos) (pins:List (ag×Obj)) (s:au) (σ:St) (H:Hp) (Q:List V->Hp->Prop),Inv X pins σ H s->t σ H Q->aT (aU X.prog X.w) X.A (spliced (c8 pos (aN es X.env))) (AP X pins σ Q) X.xe s
def PS(X:Cx)(st:bz)(t:TS):Prop:=
 ∀(pins:List (ag×Obj)) (s:au) (σ:St) (H:Hp) (D:Ends),Inv X pins σ H s->t D σ H->aT (aU X.prog X.w) X.A (exec st X.env) (SP X pins D) X.xe s
def LB(X:Cx)(st:List bz)(t:TS):Prop:=
 ∀(pins:List (ag×Obj)) (s:au) (σ:St) (H:Hp) (D:Ends),Inv X pins σ H s->t D σ H->aT (aU X.prog X.w) X.A (execs st X.env) (SP X pins D) X.xe s
theorem pK{α:Type}{t:Sem α}{Q Q':α->au->Prop}{M:jF}{A:bV}{E:ao->au->Prop}{s:au}(h:aT M A t Q E s)(hQ:∀a s,Q a s->Q' a s):aT M A t Q' E s:=cR h hQ λ _ _ x=>x
end L2
namespace L2
open PySem PySem.Spec PyProof.Rows
section
variable{X:Cx}
inductive acO (o:Option (Option V)) (H:Hp) (Q:VK):Prop
 |mk (v:V):o=some (some v)->Q v H->acO o H Q
def Zi(i:Nat):TE:=λ σ H Q=>acO σ[i]? H Q
def tC(v:V):TE:=λ _ H Q=>Q v H
theorem abj{i:Nat}{x:Str}{pos:Pos}(hN:X.N[i]? =some x)(hv:Vis X.env.scope x)(hd:(x == ("__debug__":Str))=false:=by decide)(PF:(x == ("__classdict__":Str))=false:=by decide):PE X (.Name x pos) (Zi i):=by
 intro pins s σ H Q I h
 obtain⟨v,e,h⟩:=h
 obtain⟨m,hn,hl⟩:=I.loc
 obtain⟨u,r,l⟩:=hl i x v hN e hv
 have fin:EP X pins σ Q u s:=⟨v,H,I,r,h⟩
 rcases l with⟨hk,hm⟩|⟨hk,c,hc,Sn⟩
 ·exact lM (lg I.ok.kind hk hn hm fin) hd
 ·rcases hk with hk|hk
  ·exact lM (lF I.ok.kind hk hc Sn fin) hd
  ·exact lM (wpAny_loadName_free I.ok.kind hk hc Sn fin PF) hd
theorem nM{i j pos}:PE X (.Constant (.int i) j pos) (tC (.int i)):=λ _ _ _ H _ I h=>wpAny_Constant_int ⟨.int i,H,I.tok _,⟨_,rfl⟩,h⟩
theorem aaU{b j pos}:PE X (.Constant (.bool b) j pos) (tC (.bl b)):=λ _ _ _ H _ I h=>Constant_bool ⟨.bl b,H,I,rfl,h⟩
theorem zM{j pos}:PE X (.Constant .none j pos) (tC .qt):=λ _ _ _ H _ I h=>kg ⟨.qt,H,I,rfl,h⟩
theorem qk{x j pos}:PE X (.Constant (.str x) j pos) (tC (.str x)):=λ _ _ _ H _ I h=>Calls.Constant_str ⟨.str x,H,I.tok _,⟨_,rfl⟩,h⟩
def Gl(X:Cx)(x:Str):Prop:=X.env.kindOf x=some .globalImplicit
theorem xT{E:ao->au->Prop}{pins:List (ag×Obj)}{s:au}{σ:St}{H:Hp}{x:Str}{u:ao}{pos:Pos}{Q:ao->au->Prop}(I:Inv X pins σ H s)(hg:Gl X x)(hm:X.mg x=some u)(h:Q u s)
  (hd:(x == ("__debug__":Str))=false:=by decide):aT (aU X.prog X.w) X.A (cw (.Name x pos) X.env) Q E s:=
 Calls.Name_function_global I.ok.kind hg (Calls.loadGlobal_global (by rw[I.ok.glob];exact I.mod.glob.keeps I.bk) hm h) hd
theorem vh{E:ao->au->Prop}{pins:List (ag×Obj)}{s:au}{σ:St}{H:Hp}{x:Str}{u:ao}{pos:Pos}{Q:ao->au->Prop}(I:Inv X pins σ H s)(hg:Gl X x)(hm:X.mg x=none)(hv:gm x=some u)(h:Q u s)
  (hn:x≠"__name__":=by decide)(hd:(x == ("__debug__":Str))=false:=by decide):aT (aU X.prog X.w) X.A (cw (.Name x pos) X.env) Q E s:=by
 obtain⟨mb,h1,h2⟩:=I.mod.blt
 exact Calls.Name_function_global I.ok.kind hg (Calls.loadGlobal_builtin (by rw[I.ok.glob];exact I.mod.glob.keeps I.bk) hm (by rw[I.ok.blt];exact h1.keeps I.bk) ((h2 x hn).trans hv) h) hd
theorem LC{x:Str}{v:V}{u:ao}{pos:Pos}(hg:Gl X x)(hm:X.mg x=some u)(r:RelV v u)(hd:(x == ("__debug__":Str))=false:=by decide):PE X (.Name x pos) (tC v):=
 λ _ _ _ H _ I h=>xT I hg hm ⟨v,H,I,r,h⟩ hd
variable{a b:bJ}{ta tb:TE}{pos:Pos}
def PC(X:Cx)(op:kx)(a b:bJ)(t:TE):Prop:=
 ∀(pins:List (ag×Obj)) (s:au) (σ:St) (H:Hp) (Q:VK),Inv X pins σ H s->t σ H Q->
  aT (aU X.prog X.w) X.A (cw a X.env) (λ v s₁=>aT (aU X.prog X.w) X.A (cw b X.env) (λ u s₂=>aT (aU X.prog X.w) X.A (cS op v u) (EP X pins σ Q) X.xe s₂) X.xe s₁) X.xe s
theorem Wb(b:bJ){op:kx}(h:op≠ .In)(h2:op≠ .NotIn):eS op b=false:=by
 have e1:(op == CmpOp.In)=false:=by cases op <;> first|rfl|exact absurd rfl h
 have e2:(op == CmpOp.NotIn)=false:=by cases op <;> first|rfl|exact absurd rfl h2
 cases b <;> simp[eS,e1,e2]
def aeg(ta:TE):TE:=λ σ H Q=>ta σ H λ x H1=>Q (.bl (decide (x= .qt))) H1
def acP(ta:TE):TE:=λ σ H Q=>ta σ H λ x H1=>Q (.bl (!decide (x= .qt))) H1
theorem RelV.Nv{x:V}{v:ao}(r:RelV x v):(v == Value.none)=decide (x= .qt):=by
 cases x with
 |qt=>cases r;rfl
 |bl _=>cases r;rfl
 |int _=>obtain⟨t,rfl⟩:=r;rfl
 |str _=>obtain⟨t,rfl⟩:=r;rfl
 |Lx _=>obtain⟨t,rfl⟩:=r;rfl
 |flt _=>obtain⟨t,rfl⟩:=r;rfl
 |ref _=>cases r;rfl
 |ty _=>cases r;rfl
theorem abk{j pos'}(ha:PE X a ta):PC X .Is a (.Constant .none j pos') (aeg ta):=by
 intro pins s σ H Q I h
 refine pK (ha pins s σ H _ I h) λ v s1 ⟨x,H1,I1,r1,q1⟩=>?_
 exact kg (is_none_gen ⟨.bl _,H1,I1,by rw[r1.Nv];rfl,q1⟩)
theorem Zj{j pos'}(ha:PE X a ta):PC X .IsNot a (.Constant .none j pos') (acP ta):=by
 intro pins s σ H Q I h
 refine pK (ha pins s σ H _ I h) λ v s1 ⟨x,H1,I1,r1,q1⟩=>?_
 exact kg (isnot_none_gen ⟨.bl _,H1,I1,by rw[r1.Nv];rfl,q1⟩)
inductive RBl (x:V) (H:Hp) (Q:Bool->Hp->Prop):Prop
 |mk (c:Bool):x= .bl c->Q c H->RBl x H Q
def tB(t:TE):TT:=λ σ H Q=>t σ H λ x H1=>RBl x H1 Q
theorem PV{op:kx}{t:TE}(h:PC X op a b t)(h1:eS op b=false:=by first|exact Wb _ (by decide) (by decide)|rfl):PT X (.Compare a [op] [b] pos) (tB t):=by
 intro pins s σ H Q I hw
 refine kT (pK (h pins s σ H _ I hw) λ v s1 h1=>pK h1 λ u s2 h2=>pK h2 λ c s3 ⟨x,H1,I1,r1,q1⟩=>?_) h1
 obtain⟨d,rfl,q⟩:=q1
 cases r1
 exact cQ ⟨H1,I1,q⟩
theorem tF{e:bJ}{t:TE}(h:PE X e t)(he:∀whole,kN e X.env whole=(do let v <-whole;ik e.pos;gk [v] (truthy v)):=by intro _;rfl):PT X e (tB t):=by
 intro pins s σ H Q I hw
 refine isTrue_plain (pK (h pins s σ H _ I hw) λ v s1 ⟨x,H1,I1,r1,q1⟩=>?_) (he _)
 obtain⟨d,rfl,q⟩:=q1
 cases r1
 exact cQ ⟨H1,I1,q⟩
variable{tA tB':TT}{rest:List bJ}
def aeh(t u:TT):TT:=λ σ H Q=>t σ H λ c H1=>if c=true then u σ H1 Q else Q false H1
def tOr(t u:TT):TT:=λ σ H Q=>t σ H λ c H1=>if c=true then Q true H1 else u σ H1 Q
def acQ(t:TT):TT:=λ σ H Q=>t σ H λ c H1=>Q (!c) H1
theorem A_(ha:PT X a tA):PW X (.BoolOp .And [a] pos) tA:=by
 intro wh pins s σ H Q I h
 refine isTrue_and (pK (ha pins s σ H Q I h) λ c s1 e=>?_)
 cases c with
 |true=>exact isTrue_and_nil e
 |false=>exact e
theorem PX(ha:PT X a tA):PW X (.BoolOp .Or [a] pos) tA:=by
 intro wh pins s σ H Q I h
 refine isTrue_or (pK (ha pins s σ H Q I h) λ c s1 e=>?_)
 cases c with
 |false=>exact isTrue_or_nil e
 |true=>exact e
theorem EI(ha:PT X a tA)(hb:PW X (.BoolOp .And (b::rest) pos) tB'):PW X (.BoolOp .And (a::b::rest) pos) (aeh tA tB'):=by
 intro wh pins s σ H Q I h
 refine isTrue_and (pK (ha pins s σ H _ I h) λ c s1 ⟨H1,I1,q1⟩=>?_)
 cases c with
 |true=>exact hb wh pins s1 σ H1 Q I1 q1
 |false=>exact⟨H1,I1,q1⟩
theorem Wc(ha:PT X a tA)(hb:PW X (.BoolOp .Or (b::rest) pos) tB'):PW X (.BoolOp .Or (a::b::rest) pos) (tOr tA tB'):=by
 intro wh pins s σ H Q I h
 refine isTrue_or (pK (ha pins s σ H _ I h) λ c s1 ⟨H1,I1,q1⟩=>?_)
 cases c with
 |true=>exact⟨H1,I1,q1⟩
 |false=>exact hb wh pins s1 σ H1 Q I1 q1
theorem vi(ha:PT X a tA):PT X (.UnaryOp .Not a pos) (acQ tA):=by
 intro pins s σ H Q I h
 exact isTrue_not (ha pins s σ H (λ c H1=>Q (!c) H1) I h)
def aaV(ta tb:TE):TE:=λ σ H Q=>ta σ H λ x H1=>∃c,x= .bl c/\if c=true then tb σ H1 Q else Q (.bl false) H1
theorem LD{op}{t:TE}(h:PE X a t):PE X (.BoolOp op [a] pos) t:=λ pins s σ H Q I hw=>BoolOp_one (h pins s σ H Q I hw)
theorem LF(ha:PE X a ta)(hb:PE X (.BoolOp .And (b::rest) pos) tb):PE X (.BoolOp .And (a::b::rest) pos) (aaV ta tb):=by
 intro pins s σ H Q I h
 refine BoolOp_and (pK (ha pins s σ H _ I h) λ v s1 ⟨x,H1,I1,r1,q1⟩=>?_)
 obtain⟨c,rfl,q1⟩:=q1
 cases r1
 refine cQ ?_
 cases c with
 |true=>exact hb pins s1 σ H1 Q I1 q1
 |false=>exact⟨.bl false,H1,I1,rfl,q1⟩
def tIf(t:TT)(ta tb:TE):TE:=λ σ H Q=>t σ H λ c H1=>if c=true then ta σ H1 Q else tb σ H1 Q
theorem Nw{c:bJ}(hc:PT X c tA)(ha:PE X a ta)(hb:PE X b tb):PE X (.IfExp c a b pos) (tIf tA ta tb):=by
 intro pins s σ H Q I h
 refine wpAny_IfExp (pK (hc pins s σ H _ I h) λ d s1 ⟨H1,I1,q1⟩=>?_)
 cases d with
 |true=>exact ha pins s1 σ H1 Q I1 q1
 |false=>exact hb pins s1 σ H1 Q I1 q1
end
end L2
namespace L2
open PySem PySem.Spec PyProof.Rows
def nA(K:ah)(H:Hp)(a:ag)(xs:List V):Prop:=
 Rd H a (.lst xs)\/
  ∃(o:Obj) (oh:Array ao) (n:Nat),K.lookup a=some o/\o.cls= .type "list"/\o.dict=none/\o.data= .seq oh n/\oh.size<=ay/\Vals xs oh.toList
def BG(K:ah)(H:Hp)(a:ag)(xs:List V):Prop:=
 Rd H a (.tup xs)\/
  ∃(o:Obj) (oh:Array ao) (n:Nat),K.lookup a=some o/\o.cls= .type "tuple"/\o.data= .seq oh n/\oh.size<=ay/\Vals xs oh.toList
def aei:ao->Option V
 | .none=>some .qt
 | .bool b=>some (.bl b)
 | .int i _=>some (.int i)
 | .str x _=>some (.str x)
 | .bytes b _=>some (.Lx b)
 | .float b _=>some (.flt b)
 | .ref a=>some (.ref a)
 | .type n=>some (.ty n)
 |_=>none
theorem RelV.abs{x:V}{u:ao}(r:RelV x u):aei u=some x:=by
 cases x with
 |qt=>cases r;rfl
 |bl _=>cases r;rfl
 |int _=>obtain⟨t,rfl⟩:=r;rfl
 |str _=>obtain⟨t,rfl⟩:=r;rfl
 |Lx _=>obtain⟨t,rfl⟩:=r;rfl
 |flt _=>obtain⟨t,rfl⟩:=r;rfl
 |ref _=>cases r;rfl
 |ty _=>cases r;rfl
theorem RelV.inj{x y:V}{u:ao}(r:RelV x u)(q:RelV y u):x=y:=Option.some.inj (r.abs.symm.trans q.abs)
theorem Vals.inj:∀{xs ys:List V} {us:List ao},Vals xs us->Vals ys us->xs=ys
 |_,_,_,.nil,.nil=>rfl
 |_,_,_,.cons r t,.cons r' t'=>by rw[r.inj r',Vals.inj t t']
section
variable{X:Cx}{pins:List (ag×Obj)}{σ:St}{H:Hp}{s:au}{a:ag}{xs ys:List V}
theorem nA.of{K:ah}(h:H a=some (.lst xs)):nA K H a xs:=.inl (.inl h)
theorem BG.of{K:ah}(h:H a=some (.tup xs)):BG K H a xs:=.inl (.inl h)
theorem Inv.list(I:Inv X pins σ H s)(h:nA X.K H a xs):∃oh:List ao,Vals xs oh/\PlainL s.heap a oh.toArray/\xs.length<=ay:=by
 rcases h with h|⟨o,oh,n,hk,hc,hd,hs,hz,r⟩
 ·obtain⟨z,oh,n,r,e⟩:=h.ok I.oW
  exact⟨oh,r,⟨_,n,e,rfl,rfl,rfl⟩,z⟩
 ·refine⟨oh.toList,r,⟨o,n,I.FH a o hk,hc,hd,by simpa using hs⟩,?_⟩
  have e:=r.length
  simp only[Array.length_toList]at e
  omega
theorem Inv.tuple(I:Inv X pins σ H s)(h:BG X.K H a xs):∃oh:List ao,Vals xs oh/\IsTup s.heap a oh.toArray/\xs.length<=ay:=by
 rcases h with h|⟨o,oh,n,hk,hc,hs,hz,r⟩
 ·obtain⟨z,oh,r,p⟩:=h.ok I.oW
  exact⟨oh,r,p,z⟩
 ·refine⟨oh.toList,r,⟨o,I.FH a o hk,hc,n,by simpa using hs⟩,?_⟩
  have e:=r.length
  simp only[Array.length_toList]at e
  omega
theorem Inv.vj(I:Inv X pins σ H s)(h:nA X.K H a xs)(h':nA X.K H a ys):xs=ys:=by
 obtain⟨oh,r,⟨o,n,e,_,_,d⟩,_⟩:=I.list h
 obtain⟨its',r',⟨o',n',e',_,_,d'⟩,_⟩:=I.list h'
 rw[e]at e';cases e'
 rw[d]at d'
 injection d' with d1 _
 have:oh=its':=by simpa using congrArg Array.toList d1
 subst this
 exact r.inj r'
end
abbrev Cx.xU(X:Cx)(E:ao->au->Prop):Cx:={ X with xe:=E }
abbrev Cx.nox(X:Cx):Cx:=X.xU λ _ _=>False
theorem Cx.Ok.xU{X:Cx}(ok:X.Ok)(E:ao->au->Prop):(X.xU E).Ok:=
 ⟨ok.mod,ok.kind,ok.glob,ok.blt,ok.above,ok.inj,ok.has,ok.cab,ok.hd,ok.frames,ok.stk,ok.exf,ok.bs,ok.Sl,ok.Nt,ok.Nu,ok.BC,ok.VQ⟩
theorem Cx.Ok.sE{X:Cx}{E:ao->au->Prop}(ok:(X.xU E).Ok):X.Ok:=
 ⟨ok.mod,ok.kind,ok.glob,ok.blt,ok.above,ok.inj,ok.has,ok.cab,ok.hd,ok.frames,ok.stk,ok.exf,ok.bs,ok.Sl,ok.Nt,ok.Nu,ok.BC,ok.VQ⟩
section
variable{X:Cx}{pins:List (ag×Obj)}{σ:St}{H:Hp}{s:au}{E:ao->au->Prop}
theorem Inv.xU(I:Inv X pins σ H s)(E:ao->au->Prop):Inv (X.xU E) pins σ H s:=⟨I.ok.xU E,I.os,I.bare,I.base,I.loc,I.cell,I.free,I.uB,I.pin,I.oW,I.len⟩
theorem Inv.sE(I:Inv (X.xU E) pins σ H s):Inv X pins σ H s:=⟨I.ok.sE,I.os,I.bare,I.base,I.loc,I.cell,I.free,I.uB,I.pin,I.oW,I.len⟩
theorem SP.sE{D:Ends}{f:Flow}{s':au}(h:SP (X.xU E) pins D f s'):SP X pins D f s':=by
 cases f with
 |next=>obtain⟨σ',H',I,q⟩:=h;exact⟨σ',H',I.sE,q⟩
 |brk=>obtain⟨σ',H',I,q⟩:=h;exact⟨σ',H',I.sE,q⟩
 |cont=>obtain⟨σ',H',I,q⟩:=h;exact⟨σ',H',I.sE,q⟩
 |ret u=>obtain⟨v,σ',H',I,r,q⟩:=h;exact⟨v,σ',H',I.sE,r,q⟩
theorem LB.nox{st:List bz}{t:TS}(h:LB X.nox st t):LB X st t:=λ pins s σ H D I hw=>
 cR (h pins s σ H D (I.xU _) hw) (λ _ _ q=>q.sE) λ _ _ z=>False.elim z
end
section
variable{X:Cx}{st:bz}{rest:List bz}{t u:TS}{e:bJ}{te:TE}{pos:Pos}
def acR:TS:=λ D σ H=>D.nx σ H
def aej(t u:TS):TS:=λ D σ H=>t { D with nx:=u D } σ H
theorem nX:LB X [] acR:=λ _ _ σ H _ I h=>f9 ⟨σ,H,I,h⟩
theorem mV(h1:PS X st t)(h2:LB X rest u):LB X (st::rest) (aej t u):=by
 intro pins s σ H D I h
 refine mf (pK (h1 pins s σ H { D with nx:=u D } I h) λ f s1 q=>?_)
 cases f with
 |next=>
  obtain⟨σ',H',I',q⟩:=q
  exact h2 pins s1 σ' H' D I' q
 |ret v=>exact q
 |brk=>exact q
 |cont=>exact q
theorem m4(h1:PS X st t):LB X [st] t:=by
 intro pins s σ H D I h
 refine mf (pK (h1 pins s σ H D I h) λ f s1 q=>?_)
 cases f with
 |next=>exact f9 q
 |ret v=>exact q
 |brk=>exact q
 |cont=>exact q
theorem Inv.quiet{pins:List (ag×Obj)}{σ:St}{H:Hp}{s:au}(I:Inv X pins σ H s):interactive X.env=false:=by simp[interactive,I.ok.kind]
def acS(te:TE):TS:=λ D σ H=>te σ H λ _ H1=>D.nx σ H1
theorem nZ(he:PE X e te)(hs:g8 e none pos.line X.env=pure false:=by rfl):PS X (.Expr e pos) (acS te):=by
 intro pins s σ H D I h
 exact wpAny_Expr_any (pK (he pins s σ H _ I h) λ v s1 ⟨x,H1,I1,r1,q1⟩=>⟨σ,H1,I1,q1⟩) I.quiet hs
def acT(te:TE):TS:=λ D σ H=>te σ H D.rt
theorem m9(he:PE X e te):PS X (.Return (some e) pos) (acT te):=by
 intro pins s σ H D I h
 exact wpAny_Return_some (pK (he pins s σ H _ I h) λ v s1 ⟨x,H1,I1,r1,q1⟩=>⟨x,σ,H1,I1,r1,q1⟩)
def abl(c:TT)(t u:TS):TS:=λ D σ H=>c σ H λ b H1=>if b=true then t D σ H1 else u D σ H1
theorem pf{c:bJ}{a b:List bz}{tc:TT}(hc:PT X c tc)(ha:LB X a t)(hb:LB X b u):PS X (.If c a b pos) (abl tc t u):=by
 intro pins s σ H D I h
 refine wpAny_If (pK (hc pins s σ H _ I h) λ d s1 ⟨H1,I1,q1⟩=>?_)
 cases d with
 |true=>exact ha pins s1 σ H1 D I1 q1
 |false=>exact hb pins s1 σ H1 D I1 q1
end
abbrev TG:=V->St->Hp->(St->Hp->Prop)->Prop
abbrev YW:=List V->St->Hp->(St->Hp->Prop)->Prop
def PG(X:Cx)(target:bJ)(t:TG):Prop:=
 ∀(pins:List (ag×Obj)) (s:au) (σ:St) (H:Hp) (v:V) (u:ao) (Q:St->Hp->Prop),Inv X pins σ H s->RelV v u->t v σ H Q->
  aT (aU X.prog X.w) X.A (jV target X.env u) (λ _ s'=>∃σ' H',Inv X pins σ' H' s'/\Q σ' H') X.xe s
def PGs(X:Cx)(ts:List bJ)(t:YW):Prop:=
 ∀(pins:List (ag×Obj)) (s:au) (σ:St) (H:Hp) (vs:List V) (us:List ao) (Q:St->Hp->Prop),Inv X pins σ H s->Vals vs us->t vs σ H Q->
  aT (aU X.prog X.w) X.A (assignInOrder ((fL ts X.env).map (·.2)) us) (λ _ s'=>∃σ' H',Inv X pins σ' H' s'/\Q σ' H') X.xe s
abbrev Wd:=V->V->V->Hp->(Hp->Prop)->Prop
def abm(X:Cx)(t:Wd):Prop:=
 ∀(pins:List (ag×Obj)) (s:au) (σ:St) (H:Hp) (o i v:V) (ov iv u:ao) (Q:Hp->Prop),Inv X pins σ H s->RelV o ov->RelV i iv->RelV v u->t o i v H Q->
  aT (aU X.prog X.w) X.A (md ov iv u) (λ _ s'=>∃H',Inv X pins σ H' s'/\Q H') X.xe s
abbrev TIp:=V->V->Hp->VK->Prop
def PIp(X:Cx)(op:jn)(t:TIp):Prop:=
 ∀(pins:List (ag×Obj)) (s:au) (σ:St) (H:Hp) (x y:V) (v u:ao) (Q:VK),Inv X pins σ H s->RelV x v->RelV y u->t x y H Q->
  aT (aU X.prog X.w) X.A (mr op v u) (EP X pins σ Q) X.xe s
section
variable{X:Cx}{pos:Pos}
def So(i:Nat):TG:=λ v σ H Q=>Q (σ.set i (some v)) H
theorem nr{i:Nat}{x:Str}(hN:X.N.Nodup)(hi:X.N[i]? =some x)(hx:Loc X.env.scope x)(hf:X.fn x=true\/X.env.scope.names.lookup x=some .local:=by first|exact .inl rfl|exact .inr rfl|assumption):PG X (.Name x pos) (So i):=by
 intro pins s σ H v u Q I r h
 exact ma (Dq I hN hi hx r (λ s' I'=>⟨_,H,I',h⟩) hf)
def aek:YW:=λ vs σ H Q=>vs=[]/\Q σ H
inductive aaW (t:TG) (u:YW) (vs:List V) (σ:St) (H:Hp) (Q:St->Hp->Prop):Prop
 |mk (v:V) (r:List V):vs=v::r->(t v σ H λ σ' H'=>u r σ' H' Q)->aaW t u vs σ H Q
def acU(t:TG)(u:YW):YW:=λ vs σ H Q=>aaW t u vs σ H Q
theorem rB:PGs X [] aek:=by
 intro pins s σ H vs us Q I r h
 obtain⟨e,h⟩:=h
 subst e
 cases r
 exact assignInOrder_nil ⟨σ,H,I,h⟩
theorem oG{e:bJ}{es:List bJ}{t:TG}{u:YW}(h1:PG X e t)(h2:PGs X es u)
  (hs:(fL (e::es) X.env).map (·.2)=jV e X.env::(fL es X.env).map (·.2):=by rfl):PGs X (e::es) (acU t u):=by
 intro pins s σ H vs us Q I r h
 obtain⟨v,vr,e1,h⟩:=h
 subst e1
 cases r with
 |cons r rr=>
  rw[hs]
  refine assignInOrder_cons (pK (h1 pins s σ H _ _ _ I r h) λ _ s1 ⟨σ1,H1,I1,q1⟩=>?_)
  exact h2 pins s1 σ1 H1 _ _ Q I1 rr q1
inductive acV (K:ah) (n:Nat) (t:YW) (v:V) (σ:St) (H:Hp) (Q:St->Hp->Prop):Prop
 |mk (a:ag) (xs:List V):v= .ref a->BG K H a xs->xs.length=n->t xs σ H Q->acV K n t v σ H Q
def acW(K:ah)(n:Nat)(t:YW):TG:=λ v σ H Q=>acV K n t v σ H Q
theorem zN{es:List bJ}{k:Nat}{t:YW}{n:Nat}(hc:X.calm=true)(h:PGs X es t)
  (hn:(fL es X.env).length=n:=by rfl)(LG:(fL es X.env).findIdx? (·.1)=none:=by rfl):PG X (.Tuple es k pos) (acW X.K n t):=by
 intro pins s σ H v u Q I r hw
 obtain⟨a,xs,e1,hq,hl,hw⟩:=hw
 subst e1
 cases r
 obtain⟨oh,rv,ht,hz⟩:=I.tuple hq
 refine assign_Tuple_tuple (I.ok.hd hc) ht (by simp[hn,<-hl,rv.length]) LG λ h' hx=>?_
 have I1:Inv X pins σ H { s with heap:=h' }:=I.kept (t':=s.toks) λ b o e=>hx b o (bK (Heap.lt_size e)) e
 exact h pins _ σ H xs _ Q I1 (by simpa using rv) hw
def ael(to ti:TE)(t:Wd):TG:=λ v σ H Q=>to σ H λ o H1=>ti σ H1 λ i H2=>t o i v H2 λ H3=>Q σ H3
theorem abn{o i:bJ}{to ti:TE}{t:Wd}(ho:PE X o to)(hi:PE X i ti)(hs:abm X t)
  (ha:∀v,jV (.Subscript o i pos) X.env v=(do
   let ov <-gk [v] (cw o X.env)
   let iv <-gk [v,ov] (cw i X.env)
   ik pos
   gk [v,ov,iv] (md ov iv v)
   release [v,ov,iv] []):=by intro _;rfl):PG X (.Subscript o i pos) (ael to ti t):=by
 intro pins s σ H v u Q I r h
 rw[ha]
 refine aq (fO (pK (ho pins s σ H _ I h) λ ov s1 ⟨x,H1,I1,r1,q1⟩=>?_))
 refine aq (fO (pK (hi pins s1 σ H1 _ I1 q1) λ iv s2 ⟨y,H2,I2,r2,q2⟩=>?_))
 refine aq (gN (aq (fO (pK (hs pins s2 σ H2 x y v ov iv u _ I2 r1 r2 r q2) λ _ s3 ⟨H3,I3,q3⟩=>?_))))
 exact wpAny_release ⟨σ,H3,I3,q3⟩
def abo(te:TE)(g:TG):TS:=λ D σ H=>te σ H λ x H1=>g x σ H1 D.nx
theorem abp{tg e:bJ}{te:TE}{g:TG}(he:PE X e te)(hg:PG X tg g)(hs:swapsWithSole [tg] e pos.line X.env=pure false:=by rfl)(hw:swappedStores [tg] e X.env=pure none:=by rfl)
  (h1:(fL [tg] X.env).map (·.2)=[jV tg X.env]:=by rfl):PS X (.Assign [tg] e pos) (abo te g):=by
 intro pins s σ H D I h
 refine wpAny_Assign_stores (pK (he pins s σ H _ I h) λ v s1 ⟨x,H1,I1,r1,q1⟩=>?_) hs hw
 rw[h1]
 exact pK (hg pins s1 σ H1 x v _ I1 r1 q1) λ _ s2 q=>q
theorem m6{i:Nat}{x:Str}{e:bJ}{te:TE}{pos':Pos}(hN:X.N.Nodup)(hi:X.N[i]? =some x)(hx:Loc X.env.scope x)(he:PE X e te)(hs:g8 e (some (.Name x pos')) pos.line X.env=pure false:=by rfl)(hf:X.fn x=true\/X.env.scope.names.lookup x=some .local:=by first|exact .inl rfl|exact .inr rfl|assumption):
  PS X (.Assign [.Name x pos'] e pos) (abo te (So i)):=by
 intro pins s σ H D I h
 refine wpAny_Assign_Name (pK (he pins s σ H _ I h) λ v s1 ⟨y,H1,I1,r1,q1⟩=>?_) hs
 exact Dq I1 hN hi hx r1 (λ s2 I2=>⟨_,H1,I2,q1⟩) hf
def aem(i:Nat)(te:TE)(ti:TIp):TS:=λ D σ H=>∃x,σ[i]? =some (some x)/\te σ H λ y H1=>ti x y H1 λ z H2=>D.nx (σ.set i (some z)) H2
theorem Hs{i:Nat}{x:Str}{e:bJ}{te:TE}{op:jn}{ti:TIp}{pos':Pos}(hN:X.N.Nodup)(hi:X.N[i]? =some x)(hx:Loc X.env.scope x)(he:PE X e te)(ho:PIp X op ti)(hf:X.fn x=true\/X.env.scope.names.lookup x=some .local:=by first|exact .inl rfl|exact .inr rfl|assumption):
  PS X (.AugAssign (.Name x pos') op e pos) (aem i te ti):=by
 intro pins s σ H D I h
 obtain⟨v,e1,h⟩:=h
 obtain⟨m,hn,hl⟩:=I.loc
 have vis:Vis X.env.scope x:=by rcases hx with k|k;exact .inl k;exact .inr (.inl k)
 obtain⟨u,r,l⟩:=hl i x v hi e1 vis
 refine wpAny_AugAssign_Name ?_
 have go:aT (aU X.prog X.w) X.A (cw e X.env) (λ w s₂=>aT (aU X.prog X.w) X.A (mr op u w) (λ r s₃=>aT (aU X.prog X.w) X.A (mj X.env x r) (λ _=>SP X pins D .next) X.xe s₃) X.xe s₂) X.xe s:=by
  refine pK (he pins s σ H _ I h) λ w s1 ⟨y,H1,I1,r1,q1⟩=>?_
  refine pK (ho pins s1 σ H1 v y u w _ I1 r r1 q1) λ z s2 ⟨zv,H2,I2,r2,q2⟩=>?_
  exact Dq I2 hN hi hx r2 (λ s3 I3=>⟨_,H2,I3,q2⟩) hf
 rcases l with⟨hk,hm⟩|⟨hk,c,hc,Sn⟩
 ·exact lg I.ok.kind hk hn hm go
 ·rcases hk with hk|hk
  ·exact lF I.ok.kind hk hc Sn go
  ·rcases hx with k|k
   ·have:X.env.scope.names.lookup x=some .free:=hk
    rw[k]at this;cases this
   ·have:X.env.scope.names.lookup x=some .free:=hk
    rw[k]at this;cases this
def acX(to ti te:TE)(Zk:V->V->Hp->VK->Prop)(tip:TIp)(Zl:Wd):TS:=λ D σ H=>to σ H λ o H1=>ti σ H1 λ i H2=>Zk o i H2 λ x H3=>te σ H3 λ y H4=>tip x y H4 λ z H5=>Zl o i z H5 λ H6=>D.nx σ H6
def acY(X:Cx)(t:V->V->Hp->VK->Prop):Prop:=
 ∀(pins:List (ag×Obj)) (s:au) (σ:St) (H:Hp) (o i:V) (ov iv:ao) (Q:VK),Inv X pins σ H s->RelV o ov->RelV i iv->t o i H Q->
  aT (aU X.prog X.w) X.A (jl ov iv) (EP X pins σ Q) X.xe s
theorem Ba{o i e:bJ}{to ti te:TE}{Zk:V->V->Hp->VK->Prop}{tip:TIp}{Zl:Wd}{op:jn}{BD:Pos}(ho:PE X o to)(hi:PE X i ti)(hg:acY X Zk)(he:PE X e te)(hp:PIp X op tip)(hs:abm X Zl)
  (ha:∀ov iv new,augStore i ov iv new=(do gk [new,ov,iv] (md ov iv new);release [new,ov,iv] [];pure .next):=by intros;rfl):PS X (.AugAssign (.Subscript o i BD) op e pos) (acX to ti te Zk tip Zl):=by
 intro pins s σ H D I h
 refine wpAny_AugAssign_SubscriptAny (pK (ho pins s σ H _ I h) λ ov s1 ⟨x1,H1,I1,r1,q1⟩=>?_) ha
 refine pK (hi pins s1 σ H1 _ I1 q1) λ iv s2 ⟨x2,H2,I2,r2,q2⟩=>?_
 refine pK (hg pins s2 σ H2 x1 x2 ov iv _ I2 r1 r2 q2) λ old s3 ⟨x3,H3,I3,r3,q3⟩=>?_
 refine pK (he pins s3 σ H3 _ I3 q3) λ v s4 ⟨x4,H4,I4,r4,q4⟩=>?_
 refine pK (hp pins s4 σ H4 x3 x4 old v _ I4 r3 r4 q4) λ new s5 ⟨x5,H5,I5,r5,q5⟩=>?_
 exact pK (hs pins s5 σ H5 x1 x2 x5 ov iv new _ I5 r1 r2 r5 q5) λ _ s6 ⟨H6,I6,q6⟩=>⟨σ,H6,I6,q6⟩
def ipI(f:Int->Int->Int):TIp:=λ x y H Q=>∃i j,x= .int i/\y= .int j/\Q (.int (f i j)) H
theorem zO:PIp X .Add (ipI λ i j=>i+j):=by
 intro pins s σ H x y v u Q I r1 r2 h
 obtain⟨i,j,e1,e2,q⟩:=h
 subst e1;subst e2
 obtain⟨t,rfl⟩:=r1
 obtain⟨t',rfl⟩:=r2
 exact kU ⟨.int _,H,I.tok _,⟨_,rfl⟩,q⟩
theorem PY:PIp X .Sub (ipI λ i j=>i-j):=by
 intro pins s σ H x y v u Q I r1 r2 h
 obtain⟨i,j,e1,e2,q⟩:=h
 subst e1;subst e2
 obtain⟨t,rfl⟩:=r1
 obtain⟨t',rfl⟩:=r2
 exact isub_int ⟨.int _,H,I.tok _,⟨_,rfl⟩,q⟩
end
section
variable{X:Cx}{pos:Pos}
def abq(c:TT)(tb:TS):TS:=λ D σ H=>∃W:Nat->St->Hp->Prop,(∃m,W m σ H)/\∀m σ H,W m σ H->
 c σ H λ b H1=>if b=true then ∃N:St->Hp->Prop,(∀σ' H',N σ' H'->∃m',m'<m/\W m' σ' H')/\tb { D with nx:=N,ct:=N,bk:=D.nx } σ H1 else D.nx σ H1
theorem rK{c:bJ}{body:List bz}{tc:TT}{tb:TS}(hp:mw (aU X.prog X.w) X.A X.env X.xe)(hc:PT X c tc)(hb:LB X body tb):PS X (.While c body [] pos) (abq tc tb):=by
 intro pins s σ H D I h
 obtain⟨W,⟨m0,w0⟩,turn⟩:=h
 refine wpAny_While (codeAny_whileLoop (λ n s'=>∃σ' H',Inv X pins σ' H' s'/\W n σ' H') ?_ m0 ⟨σ,H,I,w0⟩)
 rintro n s1 ⟨σ1,H1,I1,w1⟩
 refine dZ hp (pK (hc pins s1 σ1 H1 _ I1 (turn n σ1 H1 w1)) λ b s2 ⟨H2,I2,q2⟩=>?_)
 cases b with
 |true=>
  obtain⟨N,hN,q2⟩:=q2
  rw[if_pos rfl]
  refine dZ hp (pK (hb pins s2 σ1 H2 _ I2 q2) λ f s3 q3=>?_)
  cases f with
  |next=>
   obtain⟨σ3,H3,I3,n3⟩:=q3
   obtain⟨m',hm,w3⟩:=hN σ3 H3 n3
   exact⟨m',hm,σ3,H3,I3,w3⟩
  |cont=>
   obtain⟨σ3,H3,I3,n3⟩:=q3
   obtain⟨m',hm,w3⟩:=hN σ3 H3 n3
   exact⟨m',hm,σ3,H3,I3,w3⟩
  |brk=>exact q3
  |ret v=>exact q3
 |false=>
  rw[if_neg aZ]
  exact f9 ⟨σ1,H2,I2,q2⟩
end
structure It where
 go:Nat->Hp->Prop
 Ht:Nat->Hp->V->Hp->Prop
 stop:Nat->Hp->Prop
def GU(X:Cx)(pins:List (ag×Obj))(H:Hp)(b:ag):Prop:=
 H b=none/\b≠X.env.locals/\b∉X.fs/\(b∈X.ex\/X.JY.heap.objs.size<=b)/\(∀x c,X.env.cells.lookup x=some c->c≠b)/\∀p∈X.pn++pins,p.1≠b
theorem Inv.PZ{X:Cx}{pins:List (ag×Obj)}{σ:St}{H H':Hp}{s:au}{b:ag}(I:Inv X pins σ H s)(hb:s.heap.objs.size<=b)(hn:H' b=none):GU X pins H' b:=by
 refine⟨hn,fW (aS I.lt hb),I.aee hb,.inr (aV I.sz hb),λ x c e z=>?_,λ p hp z=>?_⟩
 ·obtain⟨v,q⟩:=I.cell x c e
  exact absurd (aS q.lt (by rw[z];exact hb)) (cY _)
 ·exact absurd (aS (Heap.lt_size (I.pin p hp).1) (by rw[z];exact hb)) (cY _)
structure Turn(P:aK)(w:bj)(K:ah)(tg:bJ)(J:It)(fp:List ag)(it:ag)(tn:Nat->bF->Prop):Prop where
 mem:it∈fp
 obj:∀i h,tn i h->∀b∈fp,∃o,h.get? b=some o/\∀v,o.data≠ .cell v
 keep:∀i h h',tn i h->(∀b∈fp,∀o,h.get? b=some o->h'.get? b=some o)->tn i h'
 item:∀(X:Cx),X.prog=P->X.w=w->X.K=K->X.calm=true->∀(i:Nat) (pins:List (ag×Obj)) (s:au) (σ:St) (H:Hp) (E:ao->au->Prop),Inv X pins σ H s->(∀b∈fp,GU X pins H b)->tn i s.heap->J.go i H->
  aT (aU P w) X.A (jS (.ref it)) (λ r s1=>∃u,r=some u/\
   aT (aU P w) X.A (iq tg (.ref it) u) (λ _ s2=>∃x H',Inv X pins σ H' s2/\RelV x u/\J.Ht i H x H'/\tn (i+1) s2.heap/\∀b∈fp,H' b=none) E s1) E s
 done:∀(X:Cx),X.prog=P->X.w=w->X.K=K->X.calm=true->∀(i:Nat) (pins:List (ag×Obj)) (s:au) (σ:St) (H:Hp) (E:ao->au->Prop),Inv X pins σ H s->(∀b∈fp,GU X pins H b)->tn i s.heap->J.stop i H->
  aT (aU P w) X.A (jS (.ref it)) (λ r s1=>r=none/\Inv X pins σ H s1) E s
 self:∀(A:bV) (i:Nat) (s:au) (Q:ao->au->Prop) (E:ao->au->Prop),tn i s.heap->Q (.ref it) s->aT (aU P w) A (mJ (.ref it)) Q E s
abbrev TI:=St->Hp->(It->Hp->Prop)->Prop
def PIE(X:Cx)(pins:List (ag×Obj))(σ:St)(tg:bJ)(R:It->Hp->Prop)(itv:ao)(s2:au):Prop:=
 ∃(it:ag) (fp:List ag) (tn:Nat->bF->Prop) (J:It) (H':Hp),itv= .ref it/\Inv X pins σ H' s2/\Turn X.prog X.w X.K tg J fp it tn/\tn 0 s2.heap/\(∀b∈fp,GU X pins H' b)/\R J H'
def PI(X:Cx)(tg iter:bJ)(wi:TI):Prop:=
 ∀(pins:List (ag×Obj)) (s:au) (σ:St) (H:Hp) (R:It->Hp->Prop),Inv X pins σ H s->wi σ H R->
  aT (aU X.prog X.w) X.A (cw iter X.env) (λ v s1=>aT (aU X.prog X.w) X.A (mJ v) (PIE X pins σ tg R) X.xe s1) X.xe s
theorem Sq{M:jF}{A:bV}{E:ao->au->Prop}{s:au}{tg:bJ}{it:ag}{u:ao}{o:Obj}{n:String}{vs:Array ao}{Q:Unit->au->Prop}(ho:s.heap.get? it=some o)(hc:o.cls= .type n)(hd:o.data= .fields vs)
  (hn:["enumerate","zip","dict_itemiterator","dict_reverseitemiterator","odict_iterator","itertools.zip_longest","itertools.pairwise"].contains n=false)(hQ:Q () s):aT M A (iq tg (.ref it) u) Q E s:=by
 unfold iq
 cases tg <;> first
  |exact aM hQ
  |(cases u <;> first
    |exact aM hQ
    |(refine aq (wpAny_load ho ?_)
      rw[hc,hd]
      show aT M A (if(["enumerate","zip","dict_itemiterator","dict_reverseitemiterator","odict_iterator","itertools.zip_longest","itertools.pairwise"].contains n && vs[0]? == some (dM _))=true then _ else _) Q E s
      rw[if_neg (by intro h;rw[hn,ib]at h;cases h)]
      exact aM hQ))
def Itl(K:ah)(a:ag):It:=
 ⟨λ i H=>∃xs x,nA K H a xs/\xs[i]? =some x,λ i H x H'=>H'=H/\∀xs,nA K H a xs->xs[i]? =some x,λ i H=>∃xs,nA K H a xs/\xs.length<=i⟩
def Itr(lo:Int)(n:Nat):It:=⟨λ i _=>i<n,λ i H x H'=>H'=H/\x= .int (lo+i),λ i _=>n<=i⟩
theorem Uc{P:aK}{w:bj}{K:ah}{tg:bJ}(a it:ag):Turn P w K tg (Itl K a) [it] it (λ i h=>h.IsListIter it a i) where
 mem:=by simp
 obj:=λ i h st b hb=>by
  have e:b=it:=by simpa using hb
  subst e
  obtain⟨o,e,c,d⟩:=st
  exact⟨o,e,λ v z=>by rw[d]at z;cases z⟩
 keep:=λ i h h' st k=>st.at λ o e=>k it (by simp) o e
 item:=by
  intro X hP hw hK hc i pins s σ H E I hf st hg
  subst hP hw hK
  obtain⟨xs,x,hq,hx⟩:=hg
  obtain⟨oh,rv,p,hz⟩:=I.list hq
  obtain⟨u,hu,ru⟩:=rv.get hx
  obtain⟨f0,f1,f2,f3,f4,f5⟩:=hf it (by simp)
  refine wpAny_pyNext_list_item st p.isList (x:=u) (by simpa using hu) λ h' EA sb=>?_
  have I1:Inv X pins σ H { s with heap:=h' }:=I.turned (t':=s.toks) (λ b o hb e=>(sb.2 b hb).trans e) f0 f1 f3 f4 f5
  obtain⟨o,e,c,d⟩:=id EA
  exact⟨u,rfl,Sq (s:={ s with heap:=h' }) e c d (by decide) ⟨x,H,I1,ru,⟨rfl,λ ys hy=>by rw[I.vj hy hq];exact hx⟩,EA,λ b hb=>(hf b hb).1⟩⟩
 done:=by
  intro X hP hw hK hc i pins s σ H E I hf st hg
  subst hP hw hK
  obtain⟨xs,hq,hx⟩:=hg
  obtain⟨oh,rv,p,hz⟩:=I.list hq
  obtain⟨f0,f1,f2,f3,f4,f5⟩:=hf it (by simp)
  have hl:=rv.length
  exact wpAny_pyNext_list_end (I.ok.hd hc) st p.isList (by simp;omega) λ h' eb=>⟨rfl,I.turned (t':=s.toks) (λ b o hb e=>eb b o hb e) f0 f1 f3 f4 f5⟩
 self:=λ _ _ _ _ _ st h=>wpAny_pyIter_listiter st h
theorem P_{P:aK}{w:bj}{K:ah}{tg:bJ}(it:ag)(lo:Int)(n:Nat):Turn P w K tg (Itr lo n) [it] it (λ i h=>jG h it (lo+(i:Nat)*1) ((n:Int)-(i:Nat)) 1) where
 mem:=by simp
 obj:=λ i h st b hb=>by
  have e:b=it:=by simpa using hb
  subst e
  exact⟨_,st,λ v z=>by
   have z':Data.fields _=Data.cell v:=z
   cases z'⟩
 keep:=λ i h h' st k=>k it (by simp) _ st
 item:=by
  intro X hP hw hK hc i pins s σ H E I hf st hg
  subst hP hw hK
  obtain⟨f0,f1,f2,f3,f4,f5⟩:=hf it (by simp)
  have W:=Walks.range (prog:=X.prog) (w:=X.w) (I.ok.hd hc) it lo 1 n
  refine W.item i s _ _ hg st λ v h' tk hv EA kk=>?_
  obtain⟨t,rfl⟩:=hv
  have I1:Inv X pins σ H { s with heap:=h',toks:=tk }:=I.turned (λ b o hb e=>kk b o (by simpa using hb) e) f0 f1 f3 f4 f5
  refine⟨_,rfl,Sq (s:={ s with heap:=h',toks:=tk }) (n:="range_iterator") EA rfl rfl (by decide) ⟨.int (lo+i),H,I1,⟨t,?_⟩,⟨rfl,rfl⟩,EA,λ b hb=>(hf b hb).1⟩⟩
  rw[Int.mul_one]
 done:=by
  intro X hP hw hK hc i pins s σ H E I hf st hg
  subst hP hw hK
  obtain⟨f0,f1,f2,f3,f4,f5⟩:=hf it (by simp)
  exact kJ (I.ok.hd hc) st (by have:n<=i:=hg;omega) λ h' eb=>⟨rfl,I.turned (t':=s.toks) (λ b o hb e=>eb b o hb e) f0 f1 f3 f4 f5⟩
 self:=λ _ _ _ _ _ st h=>kK st h
end L2
namespace L2
open PySem PySem.Spec PyProof.Rows
section
variable{X:Cx}{tg:bJ}
inductive RIl (K:ah) (x:V) (H:Hp) (R:It->Hp->Prop):Prop
 |mk (a:ag):x= .ref a->(∃xs,nA K H a xs)->R (Itl K a) H->RIl K x H R
def acZ(K:ah)(tl:TE):TI:=λ σ H R=>tl σ H λ x H1=>RIl K x H1 R
theorem oJ{l:bJ}{tl:TE}(hl:PE X l tl):PI X tg l (acZ X.K tl):=by
 intro pins s σ H R I h
 refine pK (hl pins s σ H _ I h) λ v s1 ⟨x,H1,I1,r1,q1⟩=>?_
 obtain⟨a,e,⟨xs,hq⟩,q⟩:=q1
 subst e
 cases r1
 obtain⟨oh,rv,p,hz⟩:=I1.list hq
 refine fA p.isList ?_
 refine⟨s1.heap.objs.size,[s1.heap.objs.size],_,_,H1,rfl,I1.kept (t':=s1.toks) λ b o e=>Heap.get?_push_of_some _ e,Uc a _,⟨_,Heap.get?_push_size _ rfl,rfl,rfl⟩,λ b hb=>?_,q⟩
 have e:b=s1.heap.objs.size:=by simpa using hb
 subst e
 exact I1.PZ (ax _) (I1.oW.fresh (ax _))
theorem Ny{pins:List (ag×Obj)}{σ:St}{H:Hp}{s:au}{R:It->Hp->Prop}{E:ao->au->Prop}{lo hi:Int}{t u v:Tok}{tk:Nat}(I:Inv X pins σ H s)(h1: -(2 ^ 62)<=lo)(h2:lo<2 ^ 62)(h3: -(2 ^ 62)<=hi)(h4:hi<2 ^ 62)
  (q:R (Itr lo (hi-lo).toNat) H):aT (aU X.prog X.w) X.A (mJ (.ref s.heap.objs.size)) (PIE X pins σ tg R) E { s with heap:=s.heap.push { cls:=.type "range",data:=.fields #[.int lo t,.int hi u,.int 1 v] },toks:=tk }:=by
 refine lL (IsRange.new ..) (small_one h1 h2 h3 h4) ?_
 have I1:Inv X pins σ H { s with heap:=s.heap.push { cls:=.type "range",data:=.fields #[.int lo t,.int hi u,.int 1 v] },toks:=tk }:=I.kept λ b o e=>Heap.get?_push_of_some _ e
 refine⟨(s.heap.push { cls:=.type "range",data:=.fields #[.int lo t,.int hi u,.int 1 v] }).objs.size,[(s.heap.push { cls:=.type "range",data:=.fields #[.int lo t,.int hi u,.int 1 v] }).objs.size],_,_,H,rfl,
  I1.kept (t':=tk) λ b o e=>Heap.get?_push_of_some _ e,P_ _ lo (hi-lo).toNat,?_,λ b hb=>?_,q⟩
 ·have e1:lo+((0:Nat):Int)*1=lo:=by simp
  have e2:(((hi-lo).toNat:Nat):Int)-((0:Nat):Int)=Builtin.Range.rangeSize lo hi 1:=by rw[mP];split <;> omega
  show jG _ _ (lo+((0:Nat):Int)*1) ((((hi-lo).toNat:Nat):Int)-((0:Nat):Int)) 1
  rw[e1,e2]
  exact Heap.get?_push_size _ rfl
 ·have e:b=(s.heap.push { cls:=.type "range",data:=.fields #[.int lo t,.int hi u,.int 1 v] }).objs.size:=by simpa using hb
  subst e
  exact I1.PZ (ax _) (I1.oW.fresh (ax _))
def ac0(ta:TA):TI:=λ σ H R=>ta σ H λ vs H1=>∃j:Int,vs=[.int j]/\ -(2 ^ 62)<=j/\j<2 ^ 62/\R (Itr 0 j.toNat) H1
def ac1(ta:TA):TI:=λ σ H R=>ta σ H λ vs H1=>∃i j:Int,vs=[.int i,.int j]/\(-(2 ^ 62)<=i/\i<2 ^ 62/\ -(2 ^ 62)<=j/\j<2 ^ 62)/\R (Itr i (j-i).toNat) H1
theorem xB{a:bJ}{ta:TA}{p pos:Pos}(hg:Gl X "range")(hm:X.mg "range"=none)(ha:PA X [a] ta)(hs:aN [a] X.env=[(false,cw a X.env)]:=by rfl):PI X tg (.Call (.Name "range" p) [a] [] pos) (ac0 ta):=by
 intro pins s σ H R I h
 refine lr (vh I hg hm jX (bT (pK (ha pos pins s σ H _ I h) λ us s1 ⟨vs,H1,I1,r1,q1⟩=>?_) hs rfl))
 obtain⟨j,e,q1,q2,q⟩:=q1
 subst e
 cases r1 with
 |cons r rr=>
  cases rr
  obtain⟨t,rfl⟩:=r
  exact call_range_1 (Ny I1 (by omega) (by omega) q1 q2 (by simpa using q))
theorem Kn{a b:bJ}{ta:TA}{p pos:Pos}(hg:Gl X "range")(hm:X.mg "range"=none)(ha:PA X [a,b] ta)(hs:aN [a,b] X.env=[(false,cw a X.env),(false,cw b X.env)]:=by rfl)(Ud:aN [b] X.env=[(false,cw b X.env)]:=by rfl):
  PI X tg (.Call (.Name "range" p) [a,b] [] pos) (ac1 ta):=by
 intro pins s σ H R I h
 refine lr (vh I hg hm jX (bT (pK (ha pos pins s σ H _ I h) λ us s1 ⟨vs,H1,I1,r1,q1⟩=>?_) (by rw[hs,Ud]) (by rw[Ud];rfl)))
 obtain⟨i,j,e,⟨q1,q2,q3,q4⟩,q⟩:=q1
 subst e
 cases r1 with
 |cons r rr=>
  cases rr with
  |cons r' rr=>
   cases rr
   obtain⟨t,rfl⟩:=r
   obtain⟨t',rfl⟩:=r'
   exact call_range_2 (Ny I1 q1 q2 q3 q4 q)
def aen(wi:TI)(g:TG)(tb:TS):TS:=λ D σ H=>wi σ H λ J H1=>∃W:Nat->Nat->St->Hp->Prop,(∃m,W 0 m σ H1)/\∀i m σ H,W i m σ H->
 (J.stop i H/\D.nx σ H)\/(J.go i H/\∃N:St->Hp->Prop,(∀σ' H',N σ' H'->∃m',m'<m/\W (i+1) m' σ' H')/\∀x H',J.Ht i H x H'->g x σ H' λ σ2 H2=>tb { D with nx:=N,ct:=N,bk:=D.nx } σ2 H2)
def Hu(fp:List ag)(h:bF):List (ag×Obj):=fp.filterMap λ b=>(h.get? b).map λ o=>(b,o)
theorem BX{fp:List ag}{h:bF}{b:ag}{o:Obj}(hb:b∈fp)(e:h.get? b=some o):(b,o)∈Hu fp h:=List.mem_filterMap.mpr ⟨b,hb,by rw[e];rfl⟩
theorem Ue{fp:List ag}{h:bF}{p:ag×Obj}(hp:p∈Hu fp h):p.1∈fp/\h.get? p.1=some p.2:=by
 obtain⟨b,hb,e⟩:=List.mem_filterMap.mp hp
 cases q:h.get? b with
 |none=>rw[q]at e;cases e
 |some o=>
  rw[q]at e
  have e':(b,o)=p:=Option.some.inj e
  subst e'
  exact⟨hb,q⟩
theorem Inv.pinned{pins:List (ag×Obj)}{σ:St}{H:Hp}{s:au}{fp:List ag}(I:Inv X pins σ H s)(hf:∀b∈fp,GU X pins H b)(ho:∀b∈fp,∃o,s.heap.get? b=some o/\∀v,o.data≠ .cell v):Inv X (pins++Hu fp s.heap) σ H s:=
 I.LA λ p hp=>(List.mem_append.mp hp).elim (λ z=>I.pin p (cz _ z)) λ z=>by
  obtain⟨hb,e⟩:=Ue z
  obtain⟨f0,f1,f2,_⟩:=hf p.1 hb
  obtain⟨o,e',d⟩:=ho p.1 hb
  rw[e]at e';cases e'
  exact⟨e,f0,f1,f2,d⟩
theorem Inv.xC{pins pl:List (ag×Obj)}{σ:St}{H:Hp}{s:au}(I:Inv X (pins++pl) σ H s):Inv X pins σ H s:=I.LA λ p hp=>I.pin p (cz _ (hX _ hp))
theorem qw{iter:bJ}{body:List bz}{wi:TI}{g:TG}{tb:TS}{pos:Pos}(hp:mw (aU X.prog X.w) X.A X.env X.xe)(hc:X.calm=true)(hi:PI X tg iter wi)(hg:PG X tg g)(hb:LB X body tb)
  (hs:∀x,gI iter X.env x=pure x:=by intro _;rfl):PS X (.For tg iter body [] pos) (aen wi g tb):=by
 intro pins s σ H D I h
 refine wpAny_For (pK (hi pins s σ H _ I h) λ v s1 h1=>pK h1 λ itv s2 h2=>?_) hs
 obtain⟨it,fp,tn,J,H2,e,I2,T,st2,f2,W,⟨m0,w0⟩,turn⟩:=h2
 subst e
 have Qa:∀{H':Hp},(∀b∈fp,H' b=none)->∀b∈fp,GU X pins H' b:=λ hn b hb=>⟨hn b hb,(f2 b hb).2⟩
 refine codeAny_forLoop_any (λ n s'=>∃i σ' H',Inv X pins σ' H' s'/\tn i s'.heap/\(∀b∈fp,H' b=none)/\W i n σ' H') ?_ m0 ⟨0,σ,H2,I2,st2,λ b hb=>(f2 b hb).1,w0⟩
 rintro n s3 ⟨i,σ3,H3,I3,st3,fr3,w3⟩
 rcases turn i n σ3 H3 w3 with⟨stop,qn⟩|⟨go,N,hN,step⟩
 ·refine dZ hp (pK (T.done X rfl rfl rfl hc i pins s3 σ3 H3 X.xe I3 (Qa fr3) st3 stop) λ r s4 ⟨hr,I4⟩=>?_)
  subst hr
  exact f9 ⟨σ3,H3,I4,qn⟩
 ·refine dZ hp (pK (T.item X rfl rfl rfl hc i pins s3 σ3 H3 X.xe I3 (Qa fr3) st3 go) λ r s4 ⟨u,hr,h4⟩=>?_)
  subst hr
  refine dZ hp (pK h4 λ _ s5 ⟨x,H5,I5,r5,y5,st5,fr5⟩=>?_)
  have I5':=I5.pinned (Qa fr5) (T.obj _ _ st5)
  refine dZ hp (pK (hg _ s5 σ3 H5 x u _ I5' r5 (step x H5 y5)) λ _ s6 ⟨σ6,H6,I6,q6⟩=>?_)
  refine dZ hp (pK (hb _ s6 σ6 H6 _ I6 q6) λ f s7 q7=>?_)
  have again:∀{σ7:St} {H7:Hp},Inv X (pins++Hu fp s5.heap) σ7 H7 s7->N σ7 H7->∃m,m<n/\∃i σ' H',Inv X pins σ' H' s7/\tn i s7.heap/\(∀b∈fp,H' b=none)/\W i m σ' H':=λ{σ7 H7} I7 n7=>by
   obtain⟨m',hm,w7⟩:=hN σ7 H7 n7
   refine⟨m',hm,i+1,σ7,H7,I7.xC,T.keep _ _ _ st5 λ b hb o e=>(I7.pin (b,o) (cz _ (cz _ (BX hb e)))).1,λ b hb=>?_,w7⟩
   obtain⟨o,e,d⟩:=T.obj _ _ st5 b hb
   exact(I7.pin (b,o) (cz _ (cz _ (BX hb e)))).2.1
  cases f with
  |next=>obtain⟨σ7,H7,I7,n7⟩:=q7;exact again I7 n7
  |cont=>obtain⟨σ7,H7,I7,n7⟩:=q7;exact again I7 n7
  |brk=>obtain⟨σ7,H7,I7,q7⟩:=q7;exact⟨σ7,H7,I7.xC,q7⟩
  |ret v=>obtain⟨x7,σ7,H7,I7,r7,q7⟩:=q7;exact⟨x7,σ7,H7,I7.xC,r7,q7⟩
end
theorem rg{K:ah}{a:ag}{xs:List V}{g:TG}{tb:TS}{D:Ends}{σ:St}{H:Hp}(Pv:Nat->St->Hp->Prop)(h0:Pv 0 σ H)(hl:∀i σ H,i<=xs.length->Pv i σ H->nA K H a xs)
  (hs:∀i x σ H,xs[i]? =some x->Pv i σ H->g x σ H λ σ2 H2=>tb { D with nx:=Pv (i+1),ct:=Pv (i+1),bk:=D.nx } σ2 H2)(hd:∀σ H,Pv xs.length σ H->D.nx σ H):
  ∃W:Nat->Nat->St->Hp->Prop,(∃m,W 0 m σ H)/\∀i m σ H,W i m σ H->
   ((Itl K a).stop i H/\D.nx σ H)\/((Itl K a).go i H/\∃N:St->Hp->Prop,(∀σ' H',N σ' H'->∃m',m'<m/\W (i+1) m' σ' H')/\∀x H',(Itl K a).Ht i H x H'->g x σ H' λ σ2 H2=>tb { D with nx:=N,ct:=N,bk:=D.nx } σ2 H2):=by
 refine⟨λ i m σ H=>m=xs.length-i/\i<=xs.length/\Pv i σ H,⟨xs.length,by simp,aE _,h0⟩,?_⟩
 rintro i m σ H ⟨rfl,hi,p⟩
 have q:=hl i σ H hi p
 by_cases rL:i<xs.length
 ·refine .inr ⟨⟨xs,xs[i],q,by simp[rL]⟩,Pv (i+1),λ σ' H' p'=>⟨xs.length-(i+1),by omega,rfl,rL,p'⟩,λ x H' y=>?_⟩
  obtain⟨e,y⟩:=y
  subst e
  exact hs i x σ _ (y xs q) p
 ·have e:i=xs.length:=by omega
  subst e
  exact .inl ⟨⟨xs,q,ax _⟩,hd σ H p⟩
theorem Ug{lo:Int}{n:Nat}{g:TG}{tb:TS}{D:Ends}{σ:St}{H:Hp}(Pv:Nat->St->Hp->Prop)(h0:Pv 0 σ H)
  (hs:∀i σ H,i<n->Pv i σ H->g (.int (lo+i)) σ H λ σ2 H2=>tb { D with nx:=Pv (i+1),ct:=Pv (i+1),bk:=D.nx } σ2 H2)(hd:∀σ H,Pv n σ H->D.nx σ H):
  ∃W:Nat->Nat->St->Hp->Prop,(∃m,W 0 m σ H)/\∀i m σ H,W i m σ H->
   ((Itr lo n).stop i H/\D.nx σ H)\/((Itr lo n).go i H/\∃N:St->Hp->Prop,(∀σ' H',N σ' H'->∃m',m'<m/\W (i+1) m' σ' H')/\∀x H',(Itr lo n).Ht i H x H'->g x σ H' λ σ2 H2=>tb { D with nx:=N,ct:=N,bk:=D.nx } σ2 H2):=by
 refine⟨λ i m σ H=>m=n-i/\i<=n/\Pv i σ H,⟨n,by simp,aE _,h0⟩,?_⟩
 rintro i m σ H ⟨rfl,hi,p⟩
 by_cases rL:i<n
 ·refine .inr ⟨rL,Pv (i+1),λ σ' H' p'=>⟨n-(i+1),by omega,rfl,rL,p'⟩,λ x H' y=>?_⟩
  obtain⟨e,y⟩:=y
  subst e y
  exact hs i σ _ rL p
 ·have e:i=n:=by omega
  subst e
  exact .inl ⟨ax _,hd σ H p⟩
end L2
namespace L2
open PySem PySem.Spec PyProof.Rows
abbrev R2:=V->V->Hp->VK->Prop
def EB(X:Cx)(f:ao->ao->Sem ao)(r:R2):Prop:=
 ∀(pins:List (ag×Obj)) (s:au) (σ:St) (H:Hp) (x y:V) (v u:ao) (Q:VK),Inv X pins σ H s->RelV x v->RelV y u->r x y H Q->
  aT (aU X.prog X.w) X.A (f v u) (EP X pins σ Q) X.xe s
def UnR(X:Cx)(f:ao->Sem ao)(r:V->Hp->VK->Prop):Prop:=
 ∀(pins:List (ag×Obj)) (s:au) (σ:St) (H:Hp) (x:V) (v:ao) (Q:VK),Inv X pins σ H s->RelV x v->r x H Q->
  aT (aU X.prog X.w) X.A (f v) (EP X pins σ Q) X.xe s
def zP(X:Cx)(f:ao)(r:List V->Hp->VK->Prop):Prop:=
 ∀(pins:List (ag×Obj)) (s:au) (σ:St) (H:Hp) (xs:List V) (us:List ao) (Q:VK),Inv X pins σ H s->Vals xs us->r xs H Q->
  aT (aU X.prog X.w) X.A (call f us) (EP X pins σ Q) X.xe s
def aeo(X:Cx)(r:V->Hp->(Bool->Hp->Prop)->Prop):Prop:=
 ∀(pins:List (ag×Obj)) (s:au) (σ:St) (H:Hp) (x:V) (v:ao) (Q:Bool->Hp->Prop),Inv X pins σ H s->RelV x v->r x H Q->
  aT (aU X.prog X.w) X.A (truthy v) (TP X pins σ Q) X.xe s
def tOp(r:R2)(ta tb:TE):TE:=λ σ H Q=>ta σ H λ x H1=>tb σ H1 λ y H2=>r x y H2 Q
def tUn(r:V->Hp->VK->Prop)(ta:TE):TE:=λ σ H Q=>ta σ H λ x H1=>r x H1 Q
inductive RI1 (C:Int->Int->Prop) (g:Int->Int->V) (x y:V) (H:Hp) (Q:VK):Prop
 |mk (i j:Int):x= .int i->y= .int j->C i j->Q (g i j) H->RI1 C g x y H Q
inductive RI0 (g:Int->Int->V) (x y:V) (H:Hp) (Q:VK):Prop
 |mk (i j:Int):x= .int i->y= .int j->Q (g i j) H->RI0 g x y H Q
def rI(C:Int->Int->Prop)(g:Int->Int->V):R2:=λ x y H Q=>RI1 C g x y H Q
def Sr(g:Int->Int->V):R2:=λ x y H Q=>RI0 g x y H Q
def rU(g:Int->V):V->Hp->VK->Prop:=λ x H Q=>∃i,x= .int i/\Q (g i) H
section
variable{X:Cx}{a b c:bJ}{ta tb tc:TE}{pos:Pos}
theorem abr(ha:PE X a ta)(hb:PE X b tb){pins:List (ag×Obj)}{s:au}{σ:St}{H:Hp}{R:V->V->Hp->Prop}(I:Inv X pins σ H s)
  (h:ta σ H λ x H1=>tb σ H1 λ y H2=>R x y H2){Q:ao->au->Prop}{f:ao->ao->Sem ao}
  (hf:∀v u s2 x y H2,Inv X pins σ H2 s2->RelV x v->RelV y u->R x y H2->aT (aU X.prog X.w) X.A (f v u) Q X.xe s2):
  aT (aU X.prog X.w) X.A (cw a X.env) (λ v s₁=>aT (aU X.prog X.w) X.A (cw b X.env) (λ u s₂=>aT (aU X.prog X.w) X.A (f v u) Q X.xe s₂) X.xe s₁) X.xe s:=by
 refine pK (ha pins s σ H _ I h) λ v s1 ⟨x,H1,I1,r1,q1⟩=>?_
 refine pK (hb pins s1 σ H1 _ I1 q1) λ u s2 ⟨y,H2,I2,r2,q2⟩=>?_
 exact hf v u s2 x y H2 I2 r1 r2 q2
theorem og{op:jn}{r:R2}(ho:EB X (gA op) r)(ha:PE X a ta)(hb:PE X b tb):PE X (.BinOp a op b pos) (tOp r ta tb):=by
 intro pins s σ H Q I h
 exact wpAny_BinOp (abr ha hb I h λ v u s2 x y H2 I2 rx ry q=>ho pins s2 σ H2 x y v u Q I2 rx ry q)
theorem Ss{op:UnaryOp}{r:V->Hp->VK->Prop}(ho:UnR X (unaryOp op) r)(ha:PE X a ta):PE X (.UnaryOp op a pos) (tUn r ta):=by
 intro pins s σ H Q I h
 exact UnaryOp_ (pK (ha pins s σ H _ I h) λ v s1 ⟨x,H1,I1,r1,q1⟩=>ho pins s1 σ H1 x v Q I1 r1 q1)
theorem opI{f:ao->ao->Sem ao}{C:Int->Int->Prop}{g:Int->Int->Int}
  (lj:∀(i j:Int) (t u:Tok) (s:au) (Q:ao->au->Prop) (E:ao->au->Prop),C i j->Q (.int (g i j) s.toks) { s with toks:=s.toks+1 }->aT (aU X.prog X.w) X.A (f (.int i t) (.int j u)) Q E s):
  EB X f (rI C λ i j=>.int (g i j)):=by
 intro pins s σ H x y v u Q I rx ry h
 obtain⟨i,j,rfl,rfl,hc,q⟩:=h
 obtain⟨t,rfl⟩:=rx
 obtain⟨t',rfl⟩:=ry
 exact lj i j t t' s _ _ hc ⟨.int (g i j),H,I.tok _,⟨_,rfl⟩,q⟩
theorem ac2{f:ao->ao->Sem ao}{g:Int->Int->Int}
  (lj:∀(i j:Int) (t u:Tok) (s:au) (Q:ao->au->Prop) (E:ao->au->Prop),Q (.int (g i j) s.toks) { s with toks:=s.toks+1 }->aT (aU X.prog X.w) X.A (f (.int i t) (.int j u)) Q E s):
  EB X f (Sr λ i j=>.int (g i j)):=by
 intro pins s σ H x y v u Q I rx ry h
 obtain⟨i,j,rfl,rfl,q⟩:=h
 obtain⟨t,rfl⟩:=rx
 obtain⟨t',rfl⟩:=ry
 exact lj i j t t' s _ _ ⟨.int (g i j),H,I.tok _,⟨_,rfl⟩,q⟩
theorem Zm{f:ao->ao->Sem ao}{g:Int->Int->Bool}
  (lj:∀(i j:Int) (t u:Tok) (s:au) (Q:ao->au->Prop) (E:ao->au->Prop),Q (.bool (g i j)) s->aT (aU X.prog X.w) X.A (f (.int i t) (.int j u)) Q E s):
  EB X f (Sr λ i j=>.bl (g i j)):=by
 intro pins s σ H x y v u Q I rx ry h
 obtain⟨i,j,rfl,rfl,q⟩:=h
 obtain⟨t,rfl⟩:=rx
 obtain⟨t',rfl⟩:=ry
 exact lj i j t t' s _ _ ⟨.bl (g i j),H,I,rfl,q⟩
def ac3(i j:Int):Prop:=0<=j/\j<=1000000/\i.natAbs<2 ^ 64
def Qb(i j:Int):Prop:=(-(2 ^ 64)<i/\i<2 ^ 64)\/(-(2 ^ 64)<j/\j<2 ^ 64)
theorem Qb.ok{i j:Int}(h:Qb i j):IntMulOk i j:=by
 rcases h with⟨h1,h2⟩|⟨h1,h2⟩
 ·exact .of_left (mR h1 h2)
 ·exact .of_right (mR h1 h2)
theorem qS:EB X (gA .Add) (Sr λ i j=>.int (i+j)):=ac2 λ _ _ _ _ _ _ _ q=>add_int q
theorem sF:EB X (gA .Sub) (Sr λ i j=>.int (i-j)):=ac2 λ _ _ _ _ _ _ _ q=>sub_int q
theorem wR:EB X (gA .Mult) (rI Qb λ i j=>.int (i*j)):=opI λ _ _ _ _ _ _ _ hc q=>mul_int q hc.ok
theorem abt:EB X (gA .Mod) (rI (λ _ j=>0<j) λ i j=>.int (i % j)):=opI λ i j _ _ _ _ _ hc q=>by
 have h1:(0:Int)<j:=hc
 exact mod_int' (by omega) (by rw[Int.fmod_eq_emod_of_nonneg i (by omega)];exact q)
theorem abu:EB X (gA .Pow) (rI ac3 λ i j=>.int (i ^ j.toNat)):=opI λ _ _ _ _ _ _ _ hc q=>pow_int_small hc.1 hc.2.1 hc.2.2 q
theorem unI{f:ao->Sem ao}{g:Int->Int}
  (lj:∀(i:Int) (t:Tok) (s:au) (Q:ao->au->Prop) (E:ao->au->Prop),Q (.int (g i) s.toks) { s with toks:=s.toks+1 }->aT (aU X.prog X.w) X.A (f (.int i t)) Q E s):
  UnR X f (rU λ i=>.int (g i)):=by
 intro pins s σ H x v Q I rx h
 obtain⟨i,rfl,q⟩:=h
 obtain⟨t,rfl⟩:=rx
 exact lj i t s _ _ ⟨.int (g i),H,I.tok _,⟨_,rfl⟩,q⟩
theorem LH:UnR X (unaryOp .USub) (rU λ i=>.int (-i)):=unI λ _ _ _ _ _ q=>neg_int q
end
def abv:V->V->Bool
 | .qt,.qt=>true| .qt,.int _=>true| .int _,.qt=>true| .qt,.bl _=>true| .bl _,.qt=>true| .qt,.str _=>true| .str _,.qt=>true
 | .int _,.int _=>true| .bl _,.bl _=>true| .str _,.str _=>true| .Lx _,.Lx _=>true
 | .int _,.str _=>true| .str _,.int _=>true| .bl _,.str _=>true| .str _,.bl _=>true
 |_,_=>false
def rEq:R2:=λ x y H Q=>abv x y=true/\Q (.bl (decide (x=y))) H
def rNe:R2:=λ x y H Q=>abv x y=true/\Q (.bl (!decide (x=y))) H
theorem Su{i j:Int}:decide (V.int i=V.int j)=(i == j):=by
 rw[du]
 simp
theorem We{i j:Bool}:decide (V.bl i=V.bl j)=(i == j):=by
 rw[du]
 simp
theorem wk{i j:Str}:decide (V.str i=V.str j)=(i == j):=by
 rw[du]
 simp
theorem Sv{i j:Array UInt8}:decide (V.Lx i=V.Lx j)=(i.toList == j.toList):=by
 rw[du]
 cases i
 cases j
 simp
section
variable{X:Cx}{a b c:bJ}{ta tb tc:TE}{pos:Pos}
theorem pq{pins:List (ag×Obj)}{σ:St}{H:Hp}{s:au}{Q:VK}{k k':Bool}(I:Inv X pins σ H s)(q:Q (.bl k) H)(e:k=k'):EP X pins σ Q (.bool k') s:=by
 subst e
 exact⟨.bl k,H,I,rfl,q⟩
theorem ub:EB X (cS .Eq) rEq:=by
 intro pins s σ H x y v u Q I rx ry h
 obtain⟨hs,q⟩:=h
 cases x with
 |qt=>
  cases rx
  cases y with
  |qt=>cases ry;exact PySem.EqNone.eq_none_none (pq I q (by simp))
  |bl j=>cases ry;exact PySem.EqNone.eq_none_bool (pq I q (by simp))
  |int j=>obtain⟨t',rfl⟩:=ry;exact PySem.EqNone.eq_none_int (pq I q (by simp))
  |str j=>obtain⟨t',rfl⟩:=ry;exact PySem.EqNone.eq_none_str (pq I q (by simp))
  |_=>exact absurd (show false=true from hs) aZ
 |bl i=>
  cases rx
  cases y with
  |qt=>cases ry;exact PySem.EqNone.eq_bool_none (pq I q (by simp))
  |bl j=>cases ry;exact eq_bool (pq I q We)
  |str j=>obtain⟨t',rfl⟩:=ry;exact PySem.EqMixed.eq_bool_str (pq I q (by simp))
  |_=>exact absurd (show false=true from hs) aZ
 |int i=>
  obtain⟨t,rfl⟩:=rx
  cases y with
  |qt=>cases ry;exact PySem.EqNone.eq_int_none (pq I q (by simp))
  |int j=>obtain⟨t',rfl⟩:=ry;exact eq_int (pq I q Su)
  |str j=>obtain⟨t',rfl⟩:=ry;exact PySem.EqMixed.eq_int_str (pq I q (by simp))
  |_=>exact absurd (show false=true from hs) aZ
 |str i=>
  obtain⟨t,rfl⟩:=rx
  cases y with
  |qt=>cases ry;exact PySem.EqNone.eq_str_none (pq I q (by simp))
  |bl j=>cases ry;exact PySem.EqMixed.eq_str_bool (pq I q (by simp))
  |int j=>obtain⟨t',rfl⟩:=ry;exact PySem.EqMixed.eq_str_int (pq I q (by simp))
  |str j=>obtain⟨t',rfl⟩:=ry;exact eq_str (pq I q wk)
  |_=>exact absurd (show false=true from hs) aZ
 |Lx i=>
  obtain⟨t,rfl⟩:=rx
  cases y with
  |Lx j=>obtain⟨t',rfl⟩:=ry;exact PySem.W.eq_bytes (pq I q Sv)
  |_=>exact absurd (show false=true from hs) aZ
 |_=>cases y <;> exact absurd (show false=true from hs) aZ
theorem ac4:EB X (cS .NotEq) rNe:=by
 intro pins s σ H x y v u Q I rx ry h
 obtain⟨hs,q⟩:=h
 cases x with
 |qt=>
  cases rx
  cases y with
  |qt=>cases ry;exact PySem.EqNone.ne_none_none (pq I q (by simp))
  |bl j=>cases ry;exact PySem.EqNone.ne_none_bool (pq I q (by simp))
  |int j=>obtain⟨t',rfl⟩:=ry;exact PySem.EqNone.ne_none_int (pq I q (by simp))
  |str j=>obtain⟨t',rfl⟩:=ry;exact PySem.EqNone.ne_none_str (pq I q (by simp))
  |_=>exact absurd (show false=true from hs) aZ
 |bl i=>
  cases rx
  cases y with
  |qt=>cases ry;exact PySem.EqNone.ne_bool_none (pq I q (by simp))
  |bl j=>cases ry;exact ne_bool (pq I q (congrArg not We))
  |str j=>obtain⟨t',rfl⟩:=ry;exact PySem.EqMixed.ne_bool_str (pq I q (by simp))
  |_=>exact absurd (show false=true from hs) aZ
 |int i=>
  obtain⟨t,rfl⟩:=rx
  cases y with
  |qt=>cases ry;exact PySem.EqNone.ne_int_none (pq I q (by simp))
  |int j=>obtain⟨t',rfl⟩:=ry;exact ne_int (pq I q (congrArg not Su))
  |str j=>obtain⟨t',rfl⟩:=ry;exact PySem.EqMixed.ne_int_str (pq I q (by simp))
  |_=>exact absurd (show false=true from hs) aZ
 |str i=>
  obtain⟨t,rfl⟩:=rx
  cases y with
  |qt=>cases ry;exact PySem.EqNone.ne_str_none (pq I q (by simp))
  |bl j=>cases ry;exact PySem.EqMixed.ne_str_bool (pq I q (by simp))
  |int j=>obtain⟨t',rfl⟩:=ry;exact PySem.EqMixed.ne_str_int (pq I q (by simp))
  |str j=>obtain⟨t',rfl⟩:=ry;exact ne_str (pq I q (congrArg not wk))
  |_=>exact absurd (show false=true from hs) aZ
 |Lx i=>
  obtain⟨t,rfl⟩:=rx
  cases y with
  |Lx j=>obtain⟨t',rfl⟩:=ry;exact PySem.W.ne_bytes (pq I q (congrArg not Sv))
  |_=>exact absurd (show false=true from hs) aZ
 |_=>cases y <;> exact absurd (show false=true from hs) aZ
theorem Hv:EB X (cS .Lt) (Sr λ i j=>.bl (decide (i<j))):=Zm λ _ _ _ _ _ _ _ q=>lt_int q
theorem p7:EB X (cS .LtE) (Sr λ i j=>.bl (decide (i<=j))):=Zm λ _ _ _ _ _ _ _ q=>le_int q
theorem BH:EB X (cS .Gt) (Sr λ i j=>.bl (decide (j<i))):=Zm λ _ _ _ _ _ _ _ q=>gt_int q
theorem ac5:EB X (cS .GtE) (Sr λ i j=>.bl (decide (j<=i))):=Zm λ _ _ _ _ _ _ _ q=>ge_int q
theorem oH(b:bJ){op:kx}(h:op≠ .In:=by decide)(h2:op≠ .NotIn:=by decide):eS op b=false:=by
 have e1:(op == CmpOp.In)=false:=by cases op <;> first|rfl|exact absurd rfl h
 have e2:(op == CmpOp.NotIn)=false:=by cases op <;> first|rfl|exact absurd rfl h2
 cases b <;> simp[eS,e1,e2]
theorem rP{op:kx}{r:R2}(ho:EB X (cS op) r)(ha:PE X a ta)(hb:PE X b tb)(hm:eS op b=false):PE X (.Compare a [op] [b] pos) (tOp r ta tb):=by
 intro pins s σ H Q I h
 exact wpAny_Compare1 (abr ha hb I h λ v u s2 x y H2 I2 rx ry q=>ho pins s2 σ H2 x y v u Q I2 rx ry q) hm
def Sw(t:TE):TT:=λ σ H Q=>t σ H λ x H'=>RBl x H' Q
theorem om{op:kx}{r:R2}(ho:EB X (cS op) r)(ha:PE X a ta)(hb:PE X b tb)(hm:eS op b=false):PT X (.Compare a [op] [b] pos) (Sw (tOp r ta tb)):=by
 intro pins s σ H Q I h
 refine kT (pK (ha pins s σ H _ I h) λ v s1 ⟨x,H1,I1,r1,q1⟩=>pK (hb pins s1 σ H1 _ I1 q1) λ u s2 ⟨y,H2,I2,r2,q2⟩=>
  pK (ho pins s2 σ H2 x y v u _ I2 r1 r2 q2) λ c s3 ⟨z,H3,I3,r3,k,e,q3⟩=>?_) hm
 subst e
 cases r3
 exact cQ ⟨H3,I3,q3⟩
def Hw(r r':R2)(ta tb tc:TE):TE:=λ σ H Q=>ta σ H λ x H1=>tb σ H1 λ y H2=>r x y H2 λ z H3=>∃k,z= .bl k/\
 (if k=true then tc σ H3 λ w' H4=>r' y w' H4 Q else Q (.bl false) H3)
theorem vk{op op':kx}{r r':R2}(ho:EB X (cS op) r)(Sm:EB X (cS op') r')(ha:PE X a ta)(hb:PE X b tb)(hc:PE X c tc)
  (hm:lastMarks [op,op'] [b,c]=false:=by with_unfolding_all rfl):PE X (.Compare a [op,op'] [b,c] pos) (Hw r r' ta tb tc):=by
 intro pins s σ H Q I h
 refine Compare_chain (pK (ha pins s σ H _ I h) λ v s1 ⟨x,H1,I1,r1,q1⟩=>chain_link (pK (hb pins s1 σ H1 _ I1 q1) λ u s2 ⟨y,H2,I2,r2,q2⟩=>
  pK (ho pins s2 σ H2 x y v u _ I2 r1 r2 q2) λ d s3 ⟨z,H3,I3,r3,k,e,q3⟩=>?_)) hm
 subst e
 cases r3
 refine cQ ?_
 cases k with
 |false=>exact ite_ff ⟨.bl false,H3,I3,rfl,q3⟩
 |true=>exact ite_tt (chain_last (pK (hc pins s3 σ H3 _ I3 q3) λ w' s4 ⟨z',H4,I4,r4,q4⟩=>Sm pins s4 σ H4 y z' u w' Q I4 r2 r4 q4))
theorem vm{op op':kx}{r r':R2}(ho:EB X (cS op) r)(Sm:EB X (cS op') r')(ha:PE X a ta)(hb:PE X b tb)(hc:PE X c tc)
  (hm:lastMarks [op,op'] [b,c]=false:=by with_unfolding_all rfl):PT X (.Compare a [op,op'] [b,c] pos) (Sw (Hw r r' ta tb tc)):=by
 intro pins s σ H Q I h
 refine isTrue_chain (pK (ha pins s σ H _ I h) λ v s1 ⟨x,H1,I1,r1,q1⟩=>test_link (pK (hb pins s1 σ H1 _ I1 q1) λ u s2 ⟨y,H2,I2,r2,q2⟩=>
  pK (ho pins s2 σ H2 x y v u _ I2 r1 r2 q2) λ d s3 ⟨z,H3,I3,r3,k,e,q3⟩=>?_)) hm
 subst e
 cases r3
 refine cQ ?_
 cases k with
 |false=>
  obtain⟨k',e',q'⟩:=q3
  cases e'
  exact ite_ff ⟨H3,I3,q'⟩
 |true=>
  refine ite_tt (test_last (pK (hc pins s3 σ H3 _ I3 q3) λ w' s4 ⟨z',H4,I4,r4,q4⟩=>pK (Sm pins s4 σ H4 y z' u w' _ I4 r2 r4 q4) λ d' s5 ⟨z2,H5,I5,r5,k2,e2,q5⟩=>?_))
  subst e2
  cases r5
  exact cQ ⟨H5,I5,q5⟩
def ac6(K:ah)(x:V)(H:Hp)(k:Bool):Prop:=
 match x with
 | .qt=>k=false
 | .bl b=>k=b
 | .int i=>k=(i != 0)
 | .str y=>y.length<=ay/\k=((y.length:Int) != 0)
 | .Lx y=>y.size<=ay/\k=((y.size:Int) != 0)
 | .ref p=>(∃xs,nA K H p xs/\k= !xs.isEmpty)\/(∃xs,BG K H p xs/\k= !xs.isEmpty)\/∃oF,H p=some (.dK oF)/\k= !oF.isEmpty
 |_=>False
theorem Qc{κ:Type}{oF:List (κ×V)}{vs:List (κ×ao)}(r:KV oF vs):(!vs.isEmpty)= !oF.isEmpty:=by
 cases r <;> rfl
theorem Hx{xs:List V}{oh:List ao}(r:Vals xs oh):(!oh.toArray.isEmpty)= !xs.isEmpty:=by
 cases r <;> simp
theorem BY:(ay:Nat)<2 ^ 63:=by rw[aA];decide
theorem abw:aeo X (λ x H Q=>∃k,ac6 X.K x H k/\Q k H):=by
 intro pins s σ H x v Q I rx h
 obtain⟨k,e,q⟩:=h
 have hl:=BY
 have hs:ay=16777216:=aA
 cases x with
 |qt=>
  cases rx
  have e':k=false:=e
  subst e'
  exact truthy_none ⟨H,I,q⟩
 |bl b=>
  cases rx
  have e':k=b:=e
  subst e'
  exact cQ ⟨H,I,q⟩
 |int i=>
  obtain⟨t,rfl⟩:=rx
  have e':k=(i != 0):=e
  subst e'
  exact PySem.P.truthy_int ⟨H,I,q⟩
 |str y=>
  obtain⟨t,rfl⟩:=rx
  obtain⟨hy,e'⟩:y.length<=ay/\k=((y.length:Int) != 0):=e
  subst e'
  exact PySem.P.truthy_str (by omega) ⟨H,I.tok _,q⟩
 |Lx y=>
  obtain⟨t,rfl⟩:=rx
  obtain⟨hy,e'⟩:y.size<=ay/\k=((y.size:Int) != 0):=e
  subst e'
  exact PySem.W.truthy_bytes (by omega) ⟨H,I.tok _,q⟩
 |ref p=>
  cases rx
  have e':(∃xs,nA X.K H p xs/\k= !xs.isEmpty)\/(∃xs,BG X.K H p xs/\k= !xs.isEmpty)\/∃oF,H p=some (.dK oF)/\k= !oF.isEmpty:=e
  rcases e' with⟨xs,hx,e'⟩|⟨xs,hx,e'⟩|⟨oF,hx,e'⟩
  ·subst e'
   obtain⟨oh,r,pl,hz⟩:=I.list hx
   have hlen:=r.length
   exact wpAny_truthy_list pl.isList (by simp only[aL];omega) ⟨H,I.tok _,by rw[Hx r];exact q⟩
  ·subst e'
   obtain⟨oh,r,pl,hz⟩:=I.tuple hx
   have hlen:=r.length
   exact truthy_tuple pl (by simp only[aL];omega) ⟨H,I.tok _,by rw[Hx r];exact q⟩
  ·subst e'
   obtain⟨hz,hS,vs,r,m⟩:oF.length<=ay/\(p == ee)=false/\∃vs,KV oF vs/\s.heap.DictOf (qW X.prog X.w) p vs:=I.oW p _ hx
   have hlen:oF.length=vs.length:=Paired.length r
   exact wpAny_truthy_dict hS m (by omega) ⟨H,I.tok _,by rw[Qc r];exact q⟩
 |_=>exact(show False from e).elim
theorem xD(ha:PE X a ta)(he:∀whole,kN a X.env whole=(do let v <-whole;ik a.pos;gk [v] (truthy v))):
  PT X a (λ σ H Q=>ta σ H λ x H'=>∃k,ac6 X.K x H' k/\Q k H'):=by
 intro pins s σ H Q I h
 exact isTrue_plain (pK (ha pins s σ H _ I h) λ v s1 ⟨x,H1,I1,r1,q1⟩=>abw pins s1 σ H1 x v Q I1 r1 q1) (he _)
theorem Qd:EB X (gA .Add) (λ x y H Q=>∃i j,x= .str i/\y= .str j/\i.length+j.length<=ay/\Q (.str (i++j)) H):=by
 intro pins s σ H x y v u Q I rx ry h
 obtain⟨i,j,rfl,rfl,hz,q⟩:=h
 obtain⟨t,rfl⟩:=rx
 obtain⟨t',rfl⟩:=ry
 exact add_str (λ t' tk=>⟨.str (i++j),H,I.tok _,⟨_,rfl⟩,q⟩) hz
theorem vals1{x:V}{us:List ao}(r:Vals [x] us):∃u,us=[u]/\RelV x u:=by
 cases r with
 |cons r1 r2=>cases r2;exact⟨_,rfl,r1⟩
theorem sG:zP X (.type "str") (λ xs H Q=>∃i,xs=[.int i]/\i.natAbs.log2<1920/\Q (.str (toString i)) H):=by
 intro pins s σ H xs us Q I r h
 obtain⟨i,rfl,hz,q⟩:=h
 obtain⟨u,rfl,t,rfl⟩:=vals1 r
 exact PySem.P.str_of_int hz ⟨.str _,H,I.tok _,⟨_,rfl⟩,q⟩
theorem Wf:zP X (.builtin "ord") (λ xs H Q=>∃x,xs=[.str x]/\x.length=1/\Q (.int (x.cps.getD 0 0:Nat)) H):=by
 intro pins s σ H xs us Q I r h
 obtain⟨x,rfl,hz,q⟩:=h
 obtain⟨u,rfl,t,rfl⟩:=vals1 r
 exact ord_of_one hz ⟨.int _,H,I.tok _,⟨_,rfl⟩,q⟩
end
end L2
namespace L2
open PySem PySem.Spec PyProof.Rows
structure Qe(h:bF)(x dx C:ag)(mA:Str->Option ao):Prop where
 obj:h.get? x=some (dm C dx)
 ns:h.Ns1 dx mA
 ne:dx≠x
theorem Ko{h:bF}{dx:ag}{mA:Str->Option ao}(n:h.Ns1 dx mA):∃od,h.get? dx=some od/\∀name,eR name od=some (mA name):=by
 obtain⟨o,es,ep,ho,hd,hk,_,hm⟩:=n
 refine⟨o,ho,λ name=>?_⟩
 have e:=hm name
 unfold mK findBy at e
 rw[<-Array.find?_toList]at e
 unfold eR
 rw[hd]
 dsimp only
 split
 ·rename_i y q
  rw[q]at e
  exact congrArg some e
 ·rename_i q
  rw[q]at e
  have a:es.toList.any (·.refKey)=false:=by
   rw[iO]
   intro y hy
   obtain⟨z,t,aep⟩:=hk y (Array.mem_toList_iff.mp hy)
   simp[DictEntry.refKey,aep]
  have a':¬ es.toList.any (·.refKey)=true:=by rw[a];exact aZ
  rw[if_neg a']
  exact congrArg some e
theorem Qe.look{h:bF}{x dx C:ag}{mA:Str->Option ao}(I:Qe h x dx C mA):∃od,kI h x (dm C dx) C (some od)/\∀name,eR name od=some (mA name):=
 let⟨od,ho,hl⟩:=Ko I.ns
 ⟨od,⟨I.obj,rfl,rfl,ho⟩,hl⟩
section
variable{prog:aK}{w:bj}{A:bV}{E:ao->au->Prop}{s:au}{K:ah}{x dx C f:ag}{mA:Str->Option ao}{name:Str}{v:ao}
theorem get_map{expr:Bool}{Q:ao->au->Prop}(X:K.In s.heap)(I:Qe s.heap x dx C mA)(hg:eY K C name=true)(hh:fZ K C=true)
  (ha:bw K (.ref C) name=some none)(hv:mA name=some v)(hv':j_ v=true)(h:Q v { s with toks:=s.toks+1 }):
  aT (aU prog w) A (kO (.ref x) name expr) Q E s:=by
 obtain⟨od,J,hl⟩:=I.look
 exact PySem.W.get_value X J (gY hg).1 (PySem.W.findObj_own hh ha rfl (by rw[hl,hv])) hv' h
theorem Wg{pl:Sem Bool}{Q:ao×List ao->au->Prop}(X:K.In s.heap)(I:Qe s.heap x dx C mA)(hg:eY K C name=true)
  (hf:bw K (.ref C) name=some (some (.ref f)))(ht:gz K (.ref f)=true)(hv:mA name=none)(h:Q (.ref f,[.ref x]) s):
  aT (aU prog w) A (g9 (.ref x) name pl) Q E s:=by
 obtain⟨od,J,hl⟩:=I.look
 exact PySem.W.method_fn X J (gY hg).1 (gY hg).2 hf (beq_iff_eq.mp ht) (by show(eR name od).map (·.isSome)=some false;rw[hl,hv];rfl) h
theorem Zn{ns:List Str}{Q:Unit->au->Prop}(X:K.In s.heap)(I:Qe s.heap x dx C mA)
  (hs:bw K (.ref C) "__setattr__"=some (some (.builtin "object.__setattr__")))(hp:iw K C=true)(ht:iQ K C name=some none)(hh:fZ K C=true)
  (hw:eT mA ns)(hsz:ns.length<=ay)
  (h:∀h',Qe h' x dx C (λ y=>if y=name then some v else mA y)->Heap.SameBut dx s.heap h'->Q () { s with heap:=h',toks:=s.toks+2 }):
  aT (aU prog w) A (me (.ref x) name v) Q E s:=by
 obtain⟨od,J,hl⟩:=I.look
 refine PySem.W.set_plain X J hs (PySem.W.osa_open (s:={ s with toks:=s.toks+1 }) (r:=none) X J hp ht λ b=>?_)
 obtain⟨cd,hc,VR⟩:=PySem.W.any_some hh
 have hx:s.heap.get? x=some ⟨.ref C,some dx,.plain,#[]⟩:=I.obj
 refine aq (aM (aq (aq (jR hx (aq (PySem.W.Looks.here (s:={ s with toks:=s.toks+1 }) (gZ X hc) ?_))))))
 rw[VR]
 refine aM (a:=some dx) (aq (aM (aq ?_)))
 refine kL (s:={ s with toks:=s.toks+1 }) I.ns λ h' Sx Ud=>?_
 obtain⟨oD,esD,epD,hoD,hdD,hcD⟩:=Sx.count (PySem.Within.cons name v hw)
 refine aq (jt hoD (by rw[hdD];exact jv (aV hcD (by rw[aD];omega))) ?_)
 exact aM (h _ ⟨(Ud.2 _ (Ne.symm I.ne)).trans I.obj,Sx,I.ne⟩ Ud)
theorem Wh{R:lS->au->Prop}{vs:List ao}{kw:List (Str×ao)}(X:K.In s.heap)(hm:iR K C=true)
  (hi:bw K (.ref C) "__init__"=some (some (.ref f)))(hf:fK K (.ref f)=some (.type "function"))
  (h:il (aU prog w) (A.under (.builtin "type.__call__" ⟨.ref C::vs,kw⟩)) (.call (.ref f) ⟨.ref (s.heap.objs.size+1)::vs,kw⟩) (PySem.W.InitBack (s.heap.objs.size+1) R)
   { s with heap:=(s.heap.push cN).push (dm C s.heap.objs.size) }):
  il (aU prog w) A (.call (.ref C) ⟨vs,kw⟩) R s:=by
 obtain⟨hh,g,d,t,os⟩:=s
 exact PySem.W.make_core (PySem.W.makes_of X hm) (PySem.W.looks_findIn X hi) (λ self=>PySem.W.bind_fn X self hf) (.inl rfl) h
end
def v_(f:Str)(v:V):List (Str×V)->List (Str×V)
 |[]=>[(f,v)]
 |(g,x)::r=>if g=f then(g,v)::r else(g,x)::v_ f v r
theorem zQ(f g:Str)(v:V):∀fs:List (Str×V),(v_ f v fs).lookup g=if g=f then some v else fs.lookup g
 |[]=>by
  show dv g [(f,v)]=_
  by_cases h:g=f
  ·have hb:(g == f)=true:=beq_iff_eq.mpr h
   simp only[dv,hb,if_pos h]
  ·have hb:(g == f)=false:=beq_eq_false_iff_ne.mpr h
   simp only[dv,hb,if_neg h]
 |(k,x)::r=>by
  have ih:=zQ f g v r
  rw[show v_ f v ((k,x)::r)=(if k=f then(k,v)::r else(k,x)::v_ f v r)from rfl]
  by_cases hk:k=f
  ·rw[if_pos hk]
   by_cases h:g=k
   ·have hb:(g == k)=true:=beq_iff_eq.mpr h
    simp only[dv,hb,if_pos (h.trans hk)]
   ·have hb:(g == k)=false:=beq_eq_false_iff_ne.mpr h
    simp only[dv,hb,if_neg (λ e:g=f=>h (e.trans hk.symm))]
  ·rw[if_neg hk]
   by_cases h:g=k
   ·have hb:(g == k)=true:=beq_iff_eq.mpr h
    simp only[dv,hb,if_neg (λ e:g=f=>hk (h.symm.trans e))]
   ·have hb:(g == k)=false:=beq_eq_false_iff_ne.mpr h
    simp only[dv,hb]
    exact ih
theorem EJ(f:Str)(v:V):∀fs:List (Str×V),f∈(v_ f v fs).map (·.1)/\∀g,g∈fs.map (·.1)->g∈(v_ f v fs).map (·.1)
 |[]=>⟨by simp[v_],λ g h=>by simp at h⟩
 |(k,x)::r=>by
  obtain⟨i1,i2⟩:=EJ f v r
  rw[show v_ f v ((k,x)::r)=(if k=f then(k,v)::r else(k,x)::v_ f v r)from rfl]
  by_cases hk:k=f
  ·rw[if_pos hk]
   subst hk
   exact⟨by simp,λ g h=>by simpa using h⟩
  ·rw[if_neg hk]
   refine⟨?_,λ g h=>?_⟩
   ·rw[aH]
    exact aP _ i1
   ·rw[aH]at h ⊢
    rcases List.mem_cons.mp h with e|e
    ·exact List.mem_cons.mpr (.inl e)
    ·exact aP _ (i2 g e)
theorem FJ(f:Str)(v:V):∀fs:List (Str×V),(v_ f v fs).length<=fs.length+1
 |[]=>by simp[v_]
 |(k,x)::r=>by
  have ih:=FJ f v r
  rw[show v_ f v ((k,x)::r)=(if k=f then(k,v)::r else(k,x)::v_ f v r)from rfl]
  by_cases hk:k=f
  ·rw[if_pos hk,aD,aD];omega
  ·rw[if_neg hk,aD,aD];omega
theorem wQ.some_of{v:V}{o:Option ao}(r:wQ (some v) o):∃u,o=some u/\RelV v u:=by
 cases o with
 |none=>exact(show False from r).elim
 |some u=>exact⟨u,rfl,r⟩
theorem wQ.none_of{o:Option ao}(r:wQ none o):o=none:=by
 cases o with
 |none=>rfl
 |some u=>exact(show False from r).elim
theorem Kp{v:V}{u:ao}(r:RelV v u):j_ u=true:=by
 cases v with
 |qt=>cases(show u=Value.none from r);rfl
 |bl b=>cases(show u=Value.bool b from r);rfl
 |int i=>obtain⟨t,e⟩:=(show ∃t,u=Value.int i t from r);cases e;rfl
 |str x=>obtain⟨t,e⟩:=(show ∃t,u=Value.str x t from r);cases e;rfl
 |Lx b=>obtain⟨t,e⟩:=(show ∃t,u=Value.bytes b t from r);cases e;rfl
 |flt b=>obtain⟨t,e⟩:=(show ∃t,u=Value.float b t from r);cases e;rfl
 |ref a=>cases(show u=Value.ref a from r);rfl
 |ty n=>cases(show u=Value.type n from r);rfl
section
variable{P:aK}{w:bj}{H H':Hp}{h h':bF}{a C dx:ag}{fs fs':List (Str×V)}
theorem LI(oW:zL P w H h)(e:H a=some (.ins C dx fs)):∃mA,Qe h a dx C mA/\(∀f,wQ (fs.lookup f) (mA f))/\eT mA (fs.map (·.1))/\fs.length<=1000/\H dx=some (.own a):=by
 obtain⟨d,z,ne,ob,mA,n,r,q⟩:=(show pN P w H h a (.ins C dx fs)from oW a _ e)
 exact⟨mA,⟨ob,n,ne⟩,r,q,z,d⟩
end
structure G4(K:ah)(C:ag):Prop where
 pg:eY K C Str.empty=true
 hd:fZ K C=true
 po:iw K C=true
 sa:bw K (.ref C) "__setattr__"=some (some (.builtin "object.__setattr__"))
theorem G4.get{K:ah}{C:ag}(c:G4 K C)(f:Str):eY K C f=true:=c.pg
def oA(K:ah)(C:ag)(f:Str):Prop:=bw K (.ref C) f=some none
theorem oA.ac7{K:ah}{C:ag}{f:Str}(n:oA K C f):iQ K C f=some none:=by
 unfold iQ
 rw[show bw K (.ref C) f=some none from n]
 rfl
structure Meth(K:ah)(C:ag)(m:Str)(f:ag):Prop where
 at_:bw K (.ref C) m=some (some (.ref f))
 fn:gz K (.ref f)=true
 kp:bZ K (.ref f)=true
section
variable{X:Cx}{pins:List (ag×Obj)}{σ:St}{H:Hp}{s:au}{a C dx:ag}{fs:List (Str×V)}{f:Str}{v:V}{A:bV}{E:ao->au->Prop}
theorem Hy{b:Bool}{Q:ao->au->Prop}(I:Inv X pins σ H s)(e:H a=some (.ins C dx fs))(c:G4 X.K C)(n:oA X.K C f)(l:fs.lookup f=some v)
  (h:∀u s',Inv X pins σ H s'->RelV v u->Q u s'):aT (aU X.prog X.w) A (kO (.ref a) f b) Q E s:=by
 obtain⟨mA,O,r,_,_,_⟩:=LI I.oW e
 obtain⟨u,hu,ru⟩:=wQ.some_of (v:=v) (o:=mA f) (by rw[<-l];exact r f)
 exact get_map I.FH O (c.get f) c.hd n hu (Kp ru) (h u _ (I.tok _) ru)
theorem Hz{m:Str}{g:ag}{pl:Sem Bool}{Q:ao×List ao->au->Prop}(I:Inv X pins σ H s)(e:H a=some (.ins C dx fs))(c:G4 X.K C)(k:Meth X.K C m g)(l:fs.lookup m=none)
  (h:Q (.ref g,[.ref a]) s):aT (aU X.prog X.w) A (g9 (.ref a) m pl) Q E s:=by
 obtain⟨mA,O,r,_,_,_⟩:=LI I.oW e
 have hn:mA m=none:=wQ.none_of (by rw[<-l];exact r m)
 exact Wg I.FH O (c.get m) k.at_ k.fn hn h
theorem HC{y:V}{u:ao}{Q:Unit->au->Prop}(I:Inv X pins σ H s)(e:H a=some (.ins C dx fs))(c:G4 X.K C)(n:oA X.K C f)(hl:fs.length<1000)(ry:RelV y u)
  (h:∀s',Inv X pins σ (upd H a (.ins C dx (v_ f y fs))) s'->Q () s'):aT (aU X.prog X.w) A (me (.ref a) f u) Q E s:=by
 obtain⟨mA,O,r,wi,_,ho⟩:=LI I.oW e
 have hz:(fs.map (·.1)).length<=ay:=by rw[aa,aA];omega
 refine Zn I.FH O c.sa c.po n.ac7 c.hd wi hz λ h' O' sb=>h _ ?_
 have hd:∃o,h'.get? dx=some o:=let⟨o,_,_,e',_⟩:=O'.ns;⟨o,e'⟩
 refine I.write (x:=a) (e:=dx) (by rw[e];exact True.intro) (.inr ho) (λ b q hb z=>(sb.2 b hb).trans z) hd ?_
 refine⟨by rw[mY O.ne];exact ho,?_,O.ne,O'.obj,_,O'.ns,λ g=>?_,λ g hg=>?_⟩
 ·have:=FJ f y fs;omega
 ·show wQ ((v_ f y fs).lookup g) (if g=f then some u else mA g)
  rw[zQ]
  by_cases q:g=f
  ·rw[if_pos q,if_pos q];exact ry
  ·rw[if_neg q,if_neg q];exact r g
 ·by_cases q:g=f
  ·rw[q];exact(EJ f y fs).1
  ·refine(EJ f y fs).2 g (wi g λ z=>hg ?_)
   show(if g=f then some u else mA g)=none
   rw[if_neg q];exact z
theorem Inv.made(I:Inv X pins σ H s):Inv X pins σ (upd (upd H s.heap.objs.size (.own (s.heap.objs.size+1))) (s.heap.objs.size+1) (.ins C s.heap.objs.size []))
  { s with heap:=(s.heap.push cN).push (dm C s.heap.objs.size) }:=by
 have e1:(s.heap.push cN).get? s.heap.objs.size=some cN:=Heap.get?_push_size s.heap rfl
 have e2:((s.heap.push cN).push (dm C s.heap.objs.size)).get? (s.heap.objs.size+1)=some (dm C s.heap.objs.size):=by
  have:=Heap.get?_push_size (s.heap.push cN) (o:=dm C s.heap.objs.size) rfl
  rwa [Heap.size_push]at this
 have e3:(s.heap.push cN).Ns s.heap.objs.size (λ _=>none):=⟨cN,#[],_,e1,rfl,(λ e he=>absurd he (by simp)),λ _=>rfl⟩
 have I1:=I.laid (a:=s.heap.objs.size) (o:=.own (s.heap.objs.size+1)) (h':=s.heap.push cN) (t':=s.toks) (λ b u q=>Heap.get?_push_of_some _ q) (ax _) ⟨_,e1⟩
 refine I1.laid (a:=s.heap.objs.size+1) (o:=.ins C s.heap.objs.size []) (t':=s.toks) (λ b u q=>Heap.get?_push_of_some _ q) (iW (Heap.size_push _ _)) ?_
 have ne:s.heap.objs.size≠s.heap.objs.size+1:=bK (cM _)
 refine⟨by rw[mY ne,mX],aE _,ne,e2,λ _=>none,(Heap.Ns1.of_empty e3).at λ o q=>Heap.get?_push_of_some _ q,λ _=>True.intro,λ y hy=>absurd rfl hy⟩
theorem Sy{prog:aK}{w:bj}{env:Env}{e:bJ}{f:Str}{pos:Pos}{s:au}{Q:ao->au->Prop}(hb:dN e f env (cw e env)=cw e env)
  (h:aT (aU prog w) A (cw e env) (λ o s₁=>aT (aU prog w) A (kO o f true) Q E s₁) E s):aT (aU prog w) A (cw (.Attribute e f pos) env) Q E s:=
 Attribute_any_ h (by rw[arm_eval_Attribute,hb])
end
inductive RFl (K:ah) (f:Str) (x:V) (H:Hp) (Q:VK):Prop
 |mk (a C dx:ag) (fs:List (Str×V)) (v:V):x= .ref a->H a=some (.ins C dx fs)->G4 K C->oA K C f->fs.lookup f=some v->Q v H->RFl K f x H Q
def abx(K:ah)(ta:TE)(f:Str):TE:=λ σ H Q=>ta σ H λ x H1=>RFl K f x H1 Q
inductive RSf (K:ah) (f:Str) (y x:V) (H:Hp) (Q:Hp->Prop):Prop
 |mk (a C dx:ag) (fs:List (Str×V)):x= .ref a->H a=some (.ins C dx fs)->G4 K C->oA K C f->fs.length<1000->Q (upd H a (.ins C dx (v_ f y fs)))->RSf K f y x H Q
def aeq(K:ah)(ta tv:TE)(f:Str):TS:=λ D σ H=>tv σ H λ y H1=>ta σ H1 λ x H2=>RSf K f y x H2 (D.nx σ)
def ac8(X:Cx)(op:jn)(rd:V->V->Hp->VK->Prop):Prop:=
 ∀(pins:List (ag×Obj)) (s:au) (σ:St) (H:Hp) (x y:V) (u v:ao) (Q:VK),Inv X pins σ H s->RelV x u->RelV y v->rd x y H Q->aT (aU X.prog X.w) X.A (mr op u v) (EP X pins σ Q) X.xe s
def Zo(K:ah)(ta tv:TE)(rd:V->V->Hp->VK->Prop)(f:Str):TS:=λ D σ H=>ta σ H λ x H1=>∃a C dx fs v,x= .ref a/\H1 a=some (.ins C dx fs)/\G4 K C/\oA K C f/\fs.lookup f=some v/\
 tv σ H1 λ y H2=>rd v y H2 λ z H3=>∃dx' fs',H3 a=some (.ins C dx' fs')/\fs'.length<1000/\D.nx σ (upd H3 a (.ins C dx' (v_ f z fs')))
section
variable{X:Cx}{o e value:bJ}{f:Str}{pos pos' BD:Pos}{ta tv:TE}
theorem m_(he:PE X e ta)(hb:dN e f X.env (cw e X.env)=cw e X.env):PE X (.Attribute e f pos) (abx X.K ta f):=by
 intro pins s σ H Q I h
 refine Sy hb (pK (he pins s σ H _ I h) λ u s1 ⟨x,H1,I1,rx,a,C,dx,fs,v,ex,ea,c,n,l,q⟩=>?_)
 subst ex
 obtain rfl:u=Value.ref a:=rx
 exact Hy I1 ea c n l λ u' s2 I2 ru=>⟨v,H1,I2,ru,q⟩
theorem pS(ha:PE X o ta)(hv:PE X value tv)(hs:g8 value (some (.Attribute o f pos')) pos.line X.env=pure false):PS X (.Assign [.Attribute o f pos'] value pos) (aeq X.K ta tv f):=by
 intro pins s σ H D I h
 refine fF (pK (hv pins s σ H _ I h) λ u s1 ⟨y,H1,I1,ry,q⟩=>pK (ha pins s1 σ H1 _ I1 q) λ ov s2 ⟨x,H2,I2,rx,a,C,dx,fs,ex,ea,c,n,l,q2⟩=>?_) hs
 subst ex
 obtain rfl:ov=Value.ref a:=rx
 exact HC I2 ea c n l ry λ s3 I3=>⟨σ,_,I3,q2⟩
theorem Uh{op:jn}{rd:V->V->Hp->VK->Prop}(ha:PE X o ta)(hv:PE X value tv)(hop:ac8 X op rd):PS X (.AugAssign (.Attribute o f BD) op value pos) (Zo X.K ta tv rd f):=by
 intro pins s σ H D I h
 refine wpAny_AugAssign_AttributeAny (pK (ha pins s σ H _ I h) λ ov s1 ⟨x,H1,I1,rx,a,C,dx,fs,v,ex,ea,c,n,l,q⟩=>?_)
 subst ex
 obtain rfl:ov=Value.ref a:=rx
 refine Hy I1 ea c n l λ u s2 I2 ru=>pK (hv pins s2 σ H1 _ I2 q) λ w3 s3 ⟨y,H2,I3,ry,q3⟩=>pK (hop pins s3 σ H2 v y u w3 _ I3 ru ry q3) λ w4 s4 ⟨z,H3,I4,rz,dx',fs',ea',l',q4⟩=>?_
 exact HC I4 ea' c n l' rz λ s5 I5=>⟨σ,_,I5,q4⟩
def aer:V->V->Hp->VK->Prop:=λ x y H Q=>∃i j,x= .int i/\y= .int j/\Q (.int (i+j)) H
theorem aby:ac8 X .Add aer:=by
 rintro pins s σ H x y u v Q I rx ry ⟨i,j,rfl,rfl,q⟩
 obtain⟨t,rfl⟩:=(show ∃t,u=Value.int i t from rx)
 obtain⟨t',rfl⟩:=(show ∃t',v=Value.int j t' from ry)
 exact kU ⟨.int (i+j),H,I.tok _,⟨_,rfl⟩,q⟩
end
section
variable{X:Cx}{pins:List (ag×Obj)}{σ:St}{H:Hp}{s:au}{A:bV}{E:ao->au->Prop}{Q:ao->au->Prop}{c:ao}{b:Bool}
end
end L2
namespace L2
open PySem PySem.Spec PyProof.Rows
structure rb(k:Nat)(A:bV):Prop where
 hd:A.handled=none
 dp:A.depth+3*k+5<mI
 un:A.units+16*k+200<jE
theorem rb.mono{j k:Nat}{A:bV}(r:rb k A)(h:j<=k):rb j A:=⟨r.hd,by have:=r.dp;omega,by have:=r.un;omega⟩
theorem rb.deeper{k:Nat}{A:bV}(r:rb (k+1) A)(env:Env):rb k (A.deeper env):=
 ⟨r.hd,by have:=r.dp;show A.depth+1+3*k+5< _;omega,by have:=r.un;show A.units+3+16*k+200< _;omega⟩
theorem Qg{A:bV}{C:ag}{us:List ao}{kw:List (Str×ao)}:(A.under (.builtin "type.__call__" ⟨.ref C::us,kw⟩)).depth=A.depth+1:=by
 first|rfl|simp[Around.under,Code.weight,Code.isCreation,Code.isGuard,Code.isCaller,Code.frames,Code.isFrame,guardIds]
theorem Qh{A:bV}{C:ag}{us:List ao}{kw:List (Str×ao)}:(A.under (.builtin "type.__call__" ⟨.ref C::us,kw⟩)).units=A.units+1:=by
 first|rfl|simp[Around.under,Code.cUnits,Code.frames,Code.isFrame]
theorem rb.make{k:Nat}{A:bV}(r:rb (k+1) A)(C:ag)(us:List ao)(kw:List (Str×ao)):rb k (A.under (.builtin "type.__call__" ⟨.ref C::us,kw⟩)):=
 ⟨r.hd,by have:=r.dp;rw[Qg];omega,by have:=r.un;rw[Qh];omega⟩
theorem rb.depth{k:Nat}{A:bV}(r:rb k A):A.depth<mI:=by have:=r.dp;omega
theorem rb.units{k:Nat}{A:bV}(r:rb k A):A.units+64<jE:=by have:=r.un;omega
def Wi:TA:=λ _ H Q=>Q [] H
def ac9(ta:TE)(tr:TA):TA:=λ σ H Q=>ta σ H λ x H1=>tr σ H1 λ xs H2=>Q (x::xs) H2
section
variable{X:Cx}{e:bJ}{es:List bJ}{te:TE}{t:TA}{pos:Pos}
theorem mW:PA X [] Wi:=λ _ _ _ _ H Q I h=>Calls.spliced_nil ⟨[],H,I,.nil,h⟩
theorem mU(ha:PE X e te)(hr:PA X es t)(hs:aN (e::es) X.env=(false,cw e X.env)::aN es X.env:=by rfl):PA X (e::es) (ac9 te t):=by
 intro pos pins s σ H Q I h
 rw[hs]
 show aT _ _ (spliced ((false,cw e X.env)::c8 pos (aN es X.env))) _ _ s
 refine Calls.spliced_cons (pK (ha pins s σ H _ I h) λ u s1 ⟨x,H1,I1,r1,q1⟩=>?_)
 exact pK (hr pos pins s1 σ H1 _ I1 q1) λ us s2 ⟨xs,H2,I2,r2,q2⟩=>⟨x::xs,H2,I2,.cons r1 r2,q2⟩
def aes(t:TA):TE:=λ σ H Q=>t σ H λ xs H1=>xs.length<=ay/\∀p,H1 p=none->Q (.ref p) (upd H1 p (.tup xs))
def aet(t:TA):TE:=λ σ H Q=>t σ H λ xs H1=>xs.length<=ay/\∀p,H1 p=none->Q (.ref p) (upd H1 p (.lst xs))
theorem abz{x1}(h:PA X es t):PE X (.Tuple es x1 pos) (aes t):=by
 intro pins s σ H Q I hq
 refine wpAny_Tuple_spliced (pK (h pos pins s σ H _ I hq) λ us s1 ⟨xs,H1,I1,r,z,q⟩=>⟨by rw[<-r.length];exact z,?_⟩)
 have hf:H1 s1.heap.objs.size=none:=I1.oW.fresh (ax _)
 refine⟨.ref s1.heap.objs.size,upd H1 s1.heap.objs.size (.tup xs),I1.laid (t':=s1.toks) (λ b u e=>Heap.get?_push_of_some _ e) (ax _) ?_,rfl,q _ hf⟩
 exact⟨z,us,r,⟨_,Heap.get?_push_size _ rfl,rfl,_,rfl⟩⟩
theorem nN(h:PA X es t):PE X (.List es pos) (aet t):=by
 intro pins s σ H Q I hq
 refine wpAny_List_spliced (pK (h pos pins s σ H _ I hq) λ us s1 ⟨xs,H1,I1,r,z,q⟩=>⟨by rw[<-r.length];exact z,?_⟩)
 have hf:H1 s1.heap.objs.size=none:=I1.oW.fresh (ax _)
 refine⟨.ref s1.heap.objs.size,upd H1 s1.heap.objs.size (.lst xs),I1.laid (t':=s1.toks) (λ b u e=>Heap.get?_push_of_some _ e) (ax _) ?_,rfl,q _ hf⟩
 exact⟨z,us,0,r,Heap.get?_push_size _ rfl⟩
end
abbrev Sp:=List V->Hp->VK->XK->Prop
abbrev ED:=List Env->Hp->au->XK->ao->au->Prop
structure Nz(P:aK)(w:bj)(K:ah)(mg:Str->Option ao)(base:bF)(A:bV)(outer:List Env)(s:au)(H:Hp):Prop where
 frames:A.frames=some outer
 mod:Mod K mg base
 bs:∀b o,base.get? b=some o->s.heap.get? b=some o/\H b=none
 Sl:base.objs.size<=s.heap.objs.size
 BC:s.heap.FunFrames base outer
 VQ:∀b∈PQ outer,H b=none
 oW:zL P w H s.heap
 bare:iM s.gens
def CE(outer:List Env)(P:aK)(w:bj)(H:Hp)(s:au)(Q:VK)(u:ao)(s':au):Prop:=
 ∃v H',s'.os=s.os/\iM s'.gens/\Un (PQ outer) [] H H' s.heap s'.heap/\zL P w H' s'.heap/\RelV v u/\Q v H'
def CR(CX:ED)(outer:List Env)(P:aK)(w:bj)(H:Hp)(s:au)(Q:VK)(E:XK)(r:lS)(s':au):Prop:=
 match r with
 | .ok (.ret u)=>CE outer P w H s Q u s'
 | .ok _=>False
 | .error e=>CX outer H s E e s'
structure nO(P:aK)(w:bj)(K:ah)(mg:Str->Option ao)(base:bF)(CX:ED)(k:Nat)(f:ag)(fd:bP)(ps:List Str)(sp:Sp):Prop where
 len:∀vs H Q E,sp vs H Q E->vs.length=ps.length
 run:∀(A:bV) (outer:List Env) (s:au) (H:Hp) (args:Args) (us:List ao) (vs:List V) (Q:VK) (E:XK),rb k A->Nz P w K mg base A outer s H->jL s fd args (ps.zip us)->Vals vs us->sp vs H Q E->
  il (aU P w) A (.call (.ref f) args) (CR CX outer P w H s Q E) s
theorem nO.mono{P:aK}{w:bj}{K:ah}{mg:Str->Option ao}{base:bF}{CX:ED}{j k:Nat}{f:ag}{fd:bP}{ps:List Str}{sp:Sp}(F:nO P w K mg base CX j f fd ps sp)(h:j<=k):
  nO P w K mg base CX k f fd ps sp:=⟨F.len,λ A outer s H args us vs Q E hr=>F.run A outer s H args us vs Q E (hr.mono h)⟩
theorem nO.imp{P:aK}{w:bj}{K:ah}{mg:Str->Option ao}{base:bF}{CX:ED}{k:Nat}{f:ag}{fd:bP}{ps:List Str}{sp sp':Sp}(F:nO P w K mg base CX k f fd ps sp)
  (h:∀vs H Q E,sp' vs H Q E->sp vs H Q E):nO P w K mg base CX k f fd ps sp':=
 ⟨λ vs H Q E q=>F.len vs H Q E (h _ _ _ _ q),λ A outer s H args us vs Q E hr he hb hv hs=>F.run A outer s H args us vs Q E hr he hb hv (h _ _ _ _ hs)⟩
theorem Nz.make{P:aK}{w:bj}{K:ah}{mg:Str->Option ao}{base:bF}{A:bV}{outer:List Env}{s:au}{H:Hp}(e:Nz P w K mg base A outer s H)(C:ag)(us:List ao)(kw:List (Str×ao)):
  Nz P w K mg base (A.under (.builtin "type.__call__" ⟨.ref C::us,kw⟩)) outer s H:=⟨by first|exact e.frames|(simpa [Around.under,Code.envs,Code.isFrame,pushEnvs]using e.frames),e.mod,e.bs,e.Sl,e.BC,e.VQ,e.oW,e.bare⟩
section
variable{X:Cx}{pins:List (ag×Obj)}{σ:St}{H:Hp}{s s':au}
theorem Inv.abA(I:Inv X pins σ H s):Nz X.prog X.w X.K X.mg X.base X.A X.stack s H:=
 ⟨I.ok.frames,I.ok.mod,I.bs,aV I.ok.Sl I.sz,I.stack,I.Lz,I.oW,I.bare⟩
theorem Inv.after{Q:VK}{u:ao}(I:Inv X pins σ H s)(h:CE X.stack X.prog X.w H s Q u s'):EP X pins σ Q u s':=by
 obtain⟨v,H',os,bare,un,oW,r,q⟩:=h
 obtain⟨hh,g,d,t,os'⟩:=s'
 obtain rfl:os'=s.os:=os
 exact⟨v,H',I.call (h':=hh) (g':=g) (d':=d) (t':=t) (ch:=[]) un oW bare (λ b z=>absurd z (by simp)),r,q⟩
end
def ac_(sp:Sp)(JZ:List V)(E:XK)(t:TA):TE:=λ σ H Q=>t σ H λ vs H1=>sp (vs++JZ) H1 Q E
inductive RHm (C:ag) (m:Str) (x:V) (H1:Hp) (Z:Prop):Prop
 |mk (a dx:ag) (fs:List (Str×V)):x= .ref a->H1 a=some (.ins C dx fs)->fs.lookup m=none->Z->RHm C m x H1 Z
def aaX(C:ag)(m:Str)(sp:Sp)(JZ:List V)(E:XK)(ta:TE)(t:TA):TE:=λ σ H Q=>ta σ H λ x H1=>RHm C m x H1 (t σ H1 λ vs H2=>sp (x::(vs++JZ)) H2 Q E)
def ada(C:ag)(sp:Sp)(JZ:List V)(E:XK)(t:TA):TE:=λ σ H Q=>t σ H λ vs H1=>∀x dx,H1 x=none->H1 dx=none->dx≠x->
 sp (.ref x::(vs++JZ)) (upd (upd H1 dx (.own x)) x (.ins C dx [])) (λ v H2=>v= .qt/\Q (.ref x) H2) E
def Binds(K:ah)(fd:bP)(ps:List Str)(ds:List ao):Prop:=
 ∀(s:au) (us:List ao),K.In s.heap->(us++ds).length=ps.length->jL s fd ⟨us,[]⟩ (ps.zip (us++ds))
theorem Binds.all{K:ah}{fd:bP}{ps:List Str}(h:∀us:List ao,us.length=ps.length->iH fd ⟨us,[]⟩=pure (ps.zip us)):Binds K fd ps []:=λ s us _ hl=>by
 rw[bC]at hl ⊢
 exact .of_eq (h us hl)
def Passes(CX:ED)(X:Cx)(E:XK):Prop:=∀(pins:List (ag×Obj)) (σ:St) (H:Hp) (s:au) (e:ao) (s':au),Inv X pins σ H s->CX X.stack H s E e s'->X.xe e s'
section
variable{X:Cx}{CX:ED}{k:Nat}{f C:ag}{fd:bP}{ps:List Str}{sp:Sp}{JZ:List V}{ds:List ao}{E:XK}{x m:Str}{p pos apos:Pos}{e o:bJ}{es:List bJ}{ta:TE}{t:TA}
theorem LJ{pins:List (ag×Obj)}{σ:St}{H:Hp}{s:au}{Q:VK}{us:List ao}{vs:List V}(F:nO X.prog X.w X.K X.mg X.base CX k f fd ps sp)(hr:rb k X.A)(hb:Binds X.K fd ps ds)(hd:Vals JZ ds)(hx:Passes CX X E)
  (I:Inv X pins σ H s)(r:Vals vs us)(h:sp (vs++JZ) H Q E):aT (aU X.prog X.w) X.A (call (.ref f) us) (EP X pins σ Q) X.xe s:=by
 have r2:Vals (vs++JZ) (us++ds):=r.append hd
 have hl:(us++ds).length=ps.length:=by rw[<-r2.length];exact F.len _ _ _ _ h
 refine i_ (fB (F.run X.A X.stack s H ⟨us,[]⟩ (us++ds) (vs++JZ) Q E hr I.abA (hb s us I.FH hl) r2 h) λ r s' hq=>?_)
 cases r with
 |error e=>exact hx pins σ H s e s' I hq
 |ok fl=>
  cases fl with
  |ret u=>exact I.after hq
  |next=>exact False.elim hq
  |brk=>exact False.elim hq
  |cont=>exact False.elim hq
theorem Zp(F:nO X.prog X.w X.K X.mg X.base CX k f fd ps sp)(hr:rb k X.A)(hg:Gl X x)(hm:X.mg x=some (.ref f))(hk:bZ X.K (.ref f)=true)(hb:Binds X.K fd ps ds)(hd:Vals JZ ds)(hx:Passes CX X E)
  (ha:PA X (e::es) t)(PH:(x == ("__debug__":Str))=false:=by decide)(he:aN (e::es) X.env=(false,cw e X.env)::aN es X.env:=by rfl)(vo:(c8 pos (aN es X.env)).any (·.1)=false:=by rfl):
  PE X (.Call (.Name x p) (e::es) [] pos) (ac_ sp JZ E t):=by
 intro pins s σ H Q I h
 refine c6 (xT I hg hm ?_ PH)
 refine dJ (h₀:=X.base) I.ok.mod.Zg hk (pK (ha pos pins s σ H _ I h) λ us s1 ⟨vs,H1,I1,r,q⟩=>⟨I1.FH,?_⟩) he vo
 exact LJ F hr hb hd hx I1 r q
theorem Zq{pl:Sem Bool}(he:PE X o ta)(c:G4 X.K C)(hm:Meth X.K C m f)(F:nO X.prog X.w X.K X.mg X.base CX k f fd ps sp)(hr:rb k X.A)(hb:Binds X.K fd ps ds)(hd:Vals JZ ds)(hx:Passes CX X E)(ha:PA X (e::es) t)
  (LG:aN (e::es) X.env=(false,cw e X.env)::aN es X.env:=by rfl)(vo:(c8 pos (aN es X.env)).any (·.1)=false:=by rfl)
  (ht:cw (.Call (.Attribute o m apos) (e::es) [] pos) X.env=(do
   let ov <-cw o X.env
   ik apos.atName
   let(f,first) <-gk [ov] (g9 ov m pl)
   jm pos f first (c8 pos (aN (e::es) X.env)) (g_ pos (fb [] X.env))):=by rfl):
  PE X (.Call (.Attribute o m apos) (e::es) [] pos) (aaX C m sp JZ E ta t):=by
 intro pins s σ H Q I h
 refine gG (pl:=pl) (pK (he pins s σ H _ I h) λ u s1 ⟨x,H1,I1,rx,a,dx,fs,ex,ea,l,q⟩=>?_) ht
 subst ex
 obtain rfl:u=Value.ref a:=rx
 refine Hz I1 ea c hm l ?_
 refine dJ (first:=[.ref a]) (h₀:=X.base) I.ok.mod.Zg hm.kp (pK (ha pos pins s1 σ H1 _ I1 q) λ us s2 ⟨vs,H2,I2,r,q2⟩=>⟨I2.FH,?_⟩) LG vo
 exact LJ (us:=.ref a::us) (vs:=.ref a::vs) F hr hb hd hx I2 (.cons rfl r) q2
theorem Wj{pl:Sem Bool}(he:PE X o ta)(c:G4 X.K C)(hm:Meth X.K C m f)(F:nO X.prog X.w X.K X.mg X.base CX k f fd ps sp)(hr:rb k X.A)(hb:Binds X.K fd ps ds)(hd:Vals JZ ds)(hx:Passes CX X E)
  (ht:cw (.Call (.Attribute o m apos) [] [] pos) X.env=(do
   let ov <-cw o X.env
   ik apos.atName
   let(f,first) <-gk [ov] (g9 ov m pl)
   jm pos f first (c8 pos (aN [] X.env)) (g_ pos (fb [] X.env))):=by rfl):
  PE X (.Call (.Attribute o m apos) [] [] pos) (aaX C m sp JZ E ta Wi):=by
 intro pins s σ H Q I h
 refine gG (pl:=pl) (pK (he pins s σ H _ I h) λ u s1 ⟨x,H1,I1,rx,a,dx,fs,ex,ea,l,q⟩=>?_) ht
 subst ex
 obtain rfl:u=Value.ref a:=rx
 refine Hz I1 ea c hm l ?_
 exact jI (first:=[.ref a]) I1.FH hm.kp (LJ (us:=[.ref a]) (vs:=[.ref a]) F hr hb hd hx I1 (.cons rfl .nil) q)
structure Mk(K:ah)(C f:ag):Prop where
 makes:iR K C=true
 init:bw K (.ref C) "__init__"=some (some (.ref f))
 fn:gz K (.ref f)=true
 kp:bZ K (.ref C)=true
theorem HD{pins:List (ag×Obj)}{σ:St}{H:Hp}{s:au}{Q:VK}{us:List ao}{vs:List V}(M:Mk X.K C f)(F:nO X.prog X.w X.K X.mg X.base CX k f fd ps sp)(hr:rb (k+1) X.A)(hb:Binds X.K fd ps ds)(hd:Vals JZ ds)
  (hx:Passes CX X E)(I:Inv X pins σ H s)(r:Vals vs us)
  (h:∀x dx,H x=none->H dx=none->dx≠x->sp (.ref x::(vs++JZ)) (upd (upd H dx (.own x)) x (.ins C dx [])) (λ v H2=>v= .qt/\Q (.ref x) H2) E):
  aT (aU X.prog X.w) X.A (call (.ref C) us) (EP X pins σ Q) X.xe s:=by
 have hq:=h (s.heap.objs.size+1) s.heap.objs.size (I.oW.fresh (ki _)) (I.oW.fresh (ax _)) (bK (cM _))
 have I2:=Inv.made (C:=C) I
 have r2:Vals (V.ref (s.heap.objs.size+1)::(vs++JZ)) (Value.ref (s.heap.objs.size+1)::(us++ds)):=.cons rfl (r.append hd)
 have hl:(Value.ref (s.heap.objs.size+1)::us++ds).length=ps.length:=by
  have e:=r2.length
  rw[F.len _ _ _ _ hq]at e
  exact e.symm
 refine i_ (Wh (f:=f) I.FH M.makes M.init (beq_iff_eq.mp M.fn) (fB (F.run _ X.stack _ _ ⟨Value.ref (s.heap.objs.size+1)::us,[]⟩ (Value.ref (s.heap.objs.size+1)::(us++ds)) _ _ E (hr.make C us [])
  (I2.abA.make C us []) (hb _ (Value.ref (s.heap.objs.size+1)::us) I2.FH hl) r2 hq) λ r s' Sz=>?_))
 cases r with
 |error e=>exact hx pins σ _ _ e s' I2 Sz
 |ok fl=>
  cases fl with
  |ret u=>
   obtain⟨v,H',I3,rv,ev,q3⟩:=I2.after Sz
   subst ev
   exact⟨rv,⟨V.ref (s.heap.objs.size+1),H',I3,rfl,q3⟩⟩
  |next=>exact False.elim Sz
  |brk=>exact False.elim Sz
  |cont=>exact False.elim Sz
theorem Wk(M:Mk X.K C f)(F:nO X.prog X.w X.K X.mg X.base CX k f fd ps sp)(hr:rb (k+1) X.A)(hg:Gl X x)(hm:X.mg x=some (.ref C))(hb:Binds X.K fd ps ds)(hd:Vals JZ ds)(hx:Passes CX X E)
  (PH:(x == ("__debug__":Str))=false:=by decide):PE X (.Call (.Name x p) [] [] pos) (ada C sp JZ E Wi):=by
 intro pins s σ H Q I h
 refine c6 (xT I hg hm ?_ PH)
 exact jI I.FH M.kp (HD (us:=[]) M F hr hb hd hx I .nil h)
end
section
variable{X:Cx}{CX:ED}{k:Nat}{f C:ag}{fd:bP}{ps ks:List Str}{sp:Sp}{E:XK}{x m:Str}{p pos apos afk:Pos}{e o:bJ}{es:List bJ}{kws:List kP}{te ta:TE}{t tk:TA}{nm:Option Str}
variable{g:List ao->List ao->List ao}{gV:List V->List V->List V}
end
structure m7(N P:List Str)(sc:eP):Prop where
 kind:sc.kind= .function
 co:sc.isCoroutine=false
 gen:sc.isGenerator=false
 nd:N.Nodup
 pre:N.take P.length=P
 par:∀x∈P,sc.names.lookup x=some .local\/sc.names.lookup x=some .cell
 abB:∀y∈sc.names,y.2≠ .free
theorem Kq{f_:Str->Option dF}{x:Str}:∀{binds:List (Str×ao)} {m:Str->Option ao},(∀v,(x,v)∉binds)->kr f_ binds m x=m x
 |[],_,_=>rfl
 |(n,v)::r,m,h=>by
  unfold kr
  rw[Kq λ w hw=>h w (aP _ hw)]
  split
  ·have:x≠n:=by rintro rfl;exact h v bU
   simp[this]
  ·rfl
theorem Kr{f_:Str->Option dF}{x:Str}:∀{binds:List (Str×ao)} {m:Str->Option ao},(∀v,(x,v)∉binds)->ku f_ binds m x=m x
 |[],_,_=>rfl
 |(n,v)::r,m,h=>by
  unfold ku
  rw[Kr λ w hw=>h w (aP _ hw)]
  split
  ·rfl
  ·have:x≠n:=by rintro rfl;exact h v bU
   simp[this]
theorem Ks{f_:Str->Option dF}{x:Str}{v:ao}:∀{P:List Str} {vs:List ao} {i:Nat} {m:Str->Option ao},P.Nodup->P[i]? =some x->vs[i]? =some v->f_ x=some .local->
  kr f_ (P.zip vs) m x=some v
 |[],_,_,_,_,h,_,_=>by simp at h
 |_::_,[],_,_,_,_,h,_=>by simp at h
 |p::P,w::vs,0,m,nd,h1,h2,hk=>by
  simp at h1 h2;subst h1;subst h2
  show kr f_ ((p,w)::P.zip vs) m p=_
  unfold kr
  rw[Kq λ v hv=>(List.nodup_cons.mp nd).1 (gO hv).1,if_pos hk]
  simp
 |p::P,w::vs,i+1,m,nd,h1,h2,hk=>by
  show kr f_ ((p,w)::P.zip vs) m x=_
  unfold kr
  exact Ks (i:=i) (List.nodup_cons.mp nd).2 (by simpa using h1) (by simpa using h2) hk
theorem Kt{f_:Str->Option dF}{x:Str}{v:ao}:∀{P:List Str} {vs:List ao} {i:Nat} {m:Str->Option ao},P.Nodup->P[i]? =some x->vs[i]? =some v->f_ x≠some .local->
  ku f_ (P.zip vs) m x=some v
 |[],_,_,_,_,h,_,_=>by simp at h
 |_::_,[],_,_,_,_,h,_=>by simp at h
 |p::P,w::vs,0,m,nd,h1,h2,hk=>by
  simp at h1 h2;subst h1;subst h2
  show ku f_ ((p,w)::P.zip vs) m p=_
  unfold ku
  rw[Kr λ v hv=>(List.nodup_cons.mp nd).1 (gO hv).1,if_neg hk]
  simp
 |p::P,w::vs,i+1,m,nd,h1,h2,hk=>by
  show ku f_ ((p,w)::P.zip vs) m x=_
  unfold ku
  exact Kt (i:=i) (List.nodup_cons.mp nd).2 (by simpa using h1) (by simpa using h2) hk
def start(N:List Str)(vs:List V):St:=vs.map some++cH (N.length-vs.length) none
def LK(CX:ED)(P:aK)(w:bj)(K:ah)(mg:Str->Option ao)(base:bF)(N:List Str)(qual:Str)(scope:eP)(f:ag)(cd:ao)(A:bV)(outer:List Env)(s:au)(H:Hp)(E:XK):Cx where
 prog:=P
 w:=w
 K:=K
 mg:=mg
 base:=base
 A:=A.deeper (iI qual scope s.heap.objs.size f cd)
 N:=N
 JY:=s
 H_0:=H
 env:=iI qual scope s.heap.objs.size f cd
 outer:=outer
 stack:=iI qual scope s.heap.objs.size f cd::outer
 ex:=[]
 calm:=true
 fn:=λ _=>true
 pn:=[]
 xe:=λ e s'=>aT (aU P w) (A.deeper (iI qual scope s.heap.objs.size f cd)) (leaving (iI qual scope s.heap.objs.size f cd) e) (λ _ s''=>CX outer H s E e s'') (λ e' s''=>CX outer H s E e' s'') s'
theorem NA{sc:eP}{n:Nat}{x:Str}(h:sc.names.lookup x=some .cell):∃c,(cF n sc.names []).lookup x=some c:=by
 have q:=js sc.names n [] (.inl h)
 exact Option.isSome_iff_exists.mp q
theorem Ui{CX:ED}{P:aK}{w:bj}{K:ah}{mg:Str->Option ao}{base:bF}{N ps:List Str}{qual:Str}{scope:eP}{f:ag}{cd:ao}{A:bV}{outer:List Env}{s s1:au}{H:Hp}{E:XK}{us:List ao}{vs:List V}
  (S:m7 N ps scope)(hd:A.handled=none)(e0:Nz P w K mg base A outer s H)(hl:vs.length=ps.length)(r:Vals vs us)
  (x:InCallC s s.heap.objs.size (kr (iI qual scope s.heap.objs.size f cd).kindOf (ps.zip us) λ _=>none) (cF (s.heap.objs.size+1) scope.names []) (ku (iI qual scope s.heap.objs.size f cd).kindOf (ps.zip us) λ _=>none) s1):
  Inv (LK CX P w K mg base N qual scope f cd A outer s H E) [] (start N vs) H s1:=by
 have vo:ps.length<=N.length:=by have:=congrArg h_ S.pre;rw[bX]at this;omega
 obtain⟨h1,tk,rfl,hk⟩:=x.done
 have noA:∀b:ag,b∉(LK CX P w K mg base N qual scope f cd A outer s H E).ex:=λ b z=>absurd (show b∈([]:List ag)from z) (by simp)
 refine⟨⟨e0.mod,S.kind,rfl,rfl,ax _,λ y z c h1 h2=>?_,λ y hy=>?_,λ y c _ h=>?_,λ _=>hd,Around.frames_deeper e0.frames,.inr ⟨rfl,rfl⟩,λ b z=>absurd z (noA b),e0.bs,e0.Sl,λ b _ _=>noA b,λ b z=>absurd z (noA b),e0.BC,e0.VQ⟩,
  rfl,e0.bare,Un.kept hk,⟨_,x.toInCall.ns,λ i y v h1 h2 h3=>?_⟩,λ y c h=>⟨_,x.cell y c h⟩,e0.oW.fresh (ax _),λ y c h=>?_,λ p hp=>absurd (show p∈([]:List (ag×Obj))from hp) (by simp),e0.oW.kept hk,?_⟩
 ·exact name_of_addr x.apart (bG h1) (bG h2)
 ·have hy:scope.names.lookup y=some .cell\/scope.names.lookup y=some .free:=hy
  rcases hy with hy|hy
  ·exact NA hy
  ·exact absurd rfl (S.abB _ (bG hy))
 ·exact e_ (x.above y c (bG h))
 ·have hi:i<vs.length:=by
   unfold start at h2
   by_cases hi:i<vs.length
   ·exact hi
   ·rw[bf (by simpa using hi)]at h2
    rw[gE]at h2
    split at h2 <;> cases h2
  have ha:vs[i]? =some v:=by
   unfold start at h2
   rw[bp (by simpa using hi),ak]at h2
   cases e:vs[i]? with
   |none=>rw[e]at h2;cases h2
   |some a=>rw[e]at h2;cases h2;rfl
  obtain⟨u,hu,rv⟩:=r.get ha
  have hp:ps[i]? =some y:=by
   rw[<-S.pre,List.getElem?_take_of_lt (by omega)];exact h1
  have ndP:ps.Nodup:=by rw[<-S.pre];exact S.nd.sublist (List.take_sublist _ _)
  refine⟨u,rv,?_⟩
  rcases S.par y (aC hp)with k|k
  ·exact .inl ⟨k,Ks ndP hp hu k⟩
  ·obtain⟨c,e⟩:=NA (n:=s.heap.objs.size+1) k
   refine .inr ⟨.inl k,c,e,?_⟩
   have q:=x.cell y c e
   rw[Kt ndP hp hu (by show scope.names.lookup y≠_;rw[k];decide)]at q
   exact q
 ·exact e0.oW.fresh (e_ (x.above y c (bG h)))
 ·unfold start
  show _=N.length
  rw[aw,aa,fk]
  omega
theorem aaY{CX:ED}{P:aK}{w:bj}{K:ah}{mg:Str->Option ao}{base:bF}{k:Nat}{f:ag}{name qual:Str}{params:Arguments}{body:List bz}{scope:eP}{dV kV doc pm oU ct oc:ao}{an od:Option ag}
  {Ku:Array (Option ao)}{N ps:List Str}{sp:Sp}(lk:K.lookup f=some ⟨oc,od,.func (cA name qual params body scope dV kV doc pm an oU ct),Ku⟩)(PF:dW K oU qual=true)(S:m7 N ps scope)
  (len:∀vs H Q E,sp vs H Q E->vs.length=ps.length)
  (NB:∀(A:bV) (outer:List Env) (s:au) (H:Hp) (vs:List V) (Q:VK) (E:XK),rb k (A.deeper (iI qual scope s.heap.objs.size f oU))->sp vs H Q E->
   ∃t,LB (LK CX P w K mg base N qual scope f oU A outer s H E) body t/\t { nx:=λ _ H'=>Q .qt H',rt:=Q } (start N vs) H):
  nO P w K mg base CX (k+1) f (cA name qual params body scope dV kV doc pm an oU ct) ps sp:=by
 refine⟨len,λ A outer s H args us vs Q E hr e0 hb r Uj=>?_⟩
 have hl:=len _ _ _ _ Uj
 have KX:K.In s.heap:=e0.mod.Zg.keeps λ b o e=>(e0.bs b o e).1
 have lim:s.heap.NoLimit:=e0.mod.nolimit.keeps λ b o e=>(e0.bs b o e).1
 have adb:∀y∈ps.zip us,scope.names.lookup y.1=some .local\/(scope.names.lookup y.1=some .cell/\((cF (s.heap.objs.size+1) scope.names []).lookup y.1).isSome=true):=λ⟨n,v⟩ hy=>by
  rcases S.par n (gO hy).1 with q|q
  ·exact .inl q
  ·exact .inr ⟨q,js _ _ _ (.inl q)⟩
 refine codeAny_call_function hr.depth (KX _ _ lk) rfl S.co S.gen rfl (PySem.W.codeRec_of KX PF) (hb _ _ _ _ ?_)
 refine wpAny_newFunctionEnv_cells S.kind adb λ env he s1 x=>?_
 subst he
 refine⟨lim.keeps x.toInCall.keep,codeAny_func ?_⟩
 obtain⟨t,ht,hq⟩:=NB A outer s H vs Q E (hr.deeper _) Uj
 have I:Inv (LK CX P w K mg base N qual scope f oU A outer s H E) [] (start N vs) H s1:=Ui S hr.hd e0 hl r x
 refine cR (ht [] s1 (start N vs) H _ I hq) (λ fl s' hs=>?_) λ e s' hs=>hs
 have fin:∀{σ':St} {H':Hp} {v:V} {u:ao},Inv (LK CX P w K mg base N qual scope f oU A outer s H E) [] σ' H' s'->RelV v u->Q v H'->CE outer P w H s Q u s':=
  λ{σ' H' v u} J rv q=>⟨v,H',J.os,J.bare,J.base,J.oW,rv,q⟩
 cases fl with
 |ret u=>
  obtain⟨v,σ',H',J,rv,q⟩:=hs
  exact fin J rv q
 |next=>
  obtain⟨σ',H',J,q⟩:=hs
  exact fin (v:=V.qt) (u:=Value.none) J rfl q
 |brk=>
  obtain⟨_,_,_,q⟩:=hs
  exact False.elim q
 |cont=>
  obtain⟨_,_,_,q⟩:=hs
  exact False.elim q
end L2
namespace L2
open PySem PySem.Spec PyProof.Rows
section
variable{X:Cx}{x:Str}{p pos:Pos}{e:bJ}{es:List bJ}{t:TA}{id T:String}{r:List V->Hp->VK->Prop}
def tCB(r:List V->Hp->VK->Prop)(t:TA):TE:=λ σ H Q=>t σ H λ vs H1=>r vs H1 Q
theorem nJ(hc:zP X (.builtin id) r)(hg:Gl X x)(hm:X.mg x=none)(hv:gm x=some (.builtin id))(ha:PA X (e::es) t)(hn:x≠"__name__":=by decide)(PH:(x == ("__debug__":Str))=false:=by decide)
  (he:aN (e::es) X.env=(false,cw e X.env)::aN es X.env:=by rfl)(vo:(c8 pos (aN es X.env)).any (·.1)=false:=by rfl):PE X (.Call (.Name x p) (e::es) [] pos) (tCB r t):=by
 intro pins s σ H Q I h
 refine c6 (vh I hg hm hv ?_ hn PH)
 exact hU (pK (ha pos pins s σ H _ I h) λ us s1 ⟨vs,H1,I1,r1,q1⟩=>hc pins s1 σ H1 vs us Q I1 r1 q1) he vo
theorem sj(hc:zP X (.type T) r)(hg:Gl X x)(hm:X.mg x=none)(hv:gm x=some (.type T))(ha:PA X (e::es) t)(hn:x≠"__name__":=by decide)(PH:(x == ("__debug__":Str))=false:=by decide)
  (he:aN (e::es) X.env=(false,cw e X.env)::aN es X.env:=by rfl)(vo:(c8 pos (aN es X.env)).any (·.1)=false:=by rfl):PE X (.Call (.Name x p) (e::es) [] pos) (tCB r t):=by
 intro pins s σ H Q I h
 refine c6 (vh I hg hm hv ?_ hn PH)
 exact bT (pK (ha pos pins s σ H _ I h) λ us s1 ⟨vs,H1,I1,r1,q1⟩=>hc pins s1 σ H1 vs us Q I1 r1 q1) he vo
end
end L2
namespace HT
open PySem PyProof.Rows
section
open PySem.SeqAt
open PySem.AutoSeq1 (wpAny_loadPart')
open PySem.MeetsSeq PySem.MeetsSeq2 PySem.MeetsSeq3
end
section
variable{prog:aK}{w:bj}{A:bV}{E:ao->au->Prop}{s:au}
def PJ(n d:Nat):Option Int->Nat
 |none=>d
 |some v=>if v<0 then(v+(n:Int)).toNat else min v.toNat n
theorem G5(n d k:Nat):PJ n d (some (k:Int))=min k n:=by
 show(if(k:Int)<0 then((k:Int)+(n:Int)).toNat else min (k:Int).toNat n)=min k n
 rw[if_neg (by omega),Int.toNat_natCast]
end
end HT
namespace L2
open PySem PySem.Spec PyProof.Rows
abbrev TO:=St->Hp->(Option Int->Hp->Prop)->Prop
def PO(X:Cx)(e:Option bJ)(t:TO):Prop:=
 ∀(pins:List (ag×Obj)) (s:au) (σ:St) (H:Hp) (Q:Option Int->Hp->Prop),Inv X pins σ H s->t σ H Q->
  aT (aU X.prog X.w) X.A (evalPart e X.env) (λ u s'=>∃o H',Inv X pins σ H' s'/\IsPart u o/\Q o H') X.xe s
inductive RPt (x:V) (H:Hp) (Q:Option Int->Hp->Prop):Prop
 |mk (i:Int):x= .int i->Q (some i) H->RPt x H Q
def ade(t:TE):TO:=λ σ H Q=>t σ H λ x H1=>RPt x H1 Q
section
variable{X:Cx}{e:bJ}{te:TE}{lo hi:Option bJ}{tl th:TO}{pos p2:Pos}
theorem wm(h:PE X e te):PO X (some e) (ade te):=by
 intro pins s σ H Q I hw
 rw[evalPart_some]
 refine pK (h pins s σ H _ I hw) λ u s1 ⟨x,H1,I1,r1,q1⟩=>?_
 obtain⟨i,rfl,q⟩:=q1
 obtain⟨t,rfl⟩:=r1
 exact⟨some i,H1,I1,.int i t,q⟩
def SlR(X:Cx)(r:V->Option Int->Option Int->Hp->VK->Prop):Prop:=
 ∀(pins:List (ag×Obj)) (s:au) (σ:St) (H:Hp) (x:V) (v vl vu:ao) (lo hi:Option Int) (sl:ag) (Q:VK),Inv X pins σ H s->RelV x v->s.heap.IsSliceOf sl vl vu .none->IsPart vl lo->IsPart vu hi->r x lo hi H Q->
  ∃T id,typeLookup (.type T) "__getitem__"=pure (some (.builtin id))/\s.TypeIs v T/\aT (aU X.prog X.w) X.A (jl v (.ref sl)) (EP X pins σ Q) X.xe s
def tSl(r:V->Option Int->Option Int->Hp->VK->Prop)(te:TE)(tl th:TO):TE:=λ σ H Q=>te σ H λ x H1=>tl σ H1 λ l H2=>th σ H2 λ u H3=>r x l u H3 Q
theorem Dr{r:V->Option Int->Option Int->Hp->VK->Prop}(hr:SlR X r)(he:PE X e te)(hl:PO X lo tl)(hu:PO X hi th):PE X (.Subscript e (.Slice lo hi none p2) pos) (tSl r te tl th):=by
 intro pins s σ H Q I h
 refine lT (pK (he pins s σ H _ I h) λ v s1 ⟨x,H1,I1,r1,q1⟩=>?_)
 refine wpAny_Slice (pK (hl pins s1 σ H1 _ I1 q1) λ vl s2 ⟨l,H2,I2,pl,q2⟩=>pK (hu pins s2 σ H2 _ I2 q2) λ vu s3 ⟨u,H3,I3,pu,q3⟩=>?_)
 rw[evalPart_none]
 refine aM ?_
 have I4:Inv X pins σ H3 { s3 with heap:=s3.heap.push { cls:=.type "slice",data:=.fields #[vl,vu,.none] } }:=I3.kept (t':=s3.toks) λ b ob q=>Heap.get?_push_of_some _ q
 obtain⟨T,id,hT,ht,hg⟩:=hr pins { s3 with heap:=s3.heap.push { cls:=.type "slice",data:=.fields #[vl,vu,.none] } } σ H3 x v vl vu l u s3.heap.objs.size Q I4 r1 (Heap.IsSliceOf.new ..) pl pu q3
 show aT (aU X.prog X.w) X.A (ke e (.Slice lo hi none p2) v (.ref s3.heap.objs.size)) (EP X pins σ Q) X.xe { s3 with heap:=s3.heap.push { cls:=.type "slice",data:=.fields #[vl,vu,.none] } }
 exact tail_any (ops:=[.ref s3.heap.objs.size,v]) ht hT hg (by with_unfolding_all rfl)
def BZ(xs:List V)(lo hi:Option Int):List V:=(xs.drop (HT.PJ xs.length 0 lo)).take (HT.PJ xs.length xs.length hi-HT.PJ xs.length 0 lo)
theorem NC(xs:List V)(lo hi:Option Int):(BZ xs lo hi).length<=xs.length:=by
 unfold BZ
 rw[bX,gC]
 omega
end
end L2
namespace L2
open PySem PySem.Spec PyProof.Rows
def Zr(n:Nat)(i:Int):Option Nat:=if 0<=i then(if i<n then some i.toNat else none)else if -(n:Int)<=i then some (i+n).toNat else none
def YX{α:Type}(xs:List α)(i:Int):Option α:=(Zr xs.length i).bind λ j=>xs[j]?
theorem SA{n:Nat}{i:Int}{j:Nat}(h:Zr n i=some j):seqIndex? i n=some j/\j<n/\ -(n:Int)<=i/\i<n:=by
 unfold Zr at h
 by_cases h0:0<=i
 ·rw[if_pos h0]at h
  by_cases h1:i<n
  ·rw[if_pos h1]at h
   have e:i.toNat=j:=Option.some.inj h
   exact⟨by rw[lh h0 h1,e],by omega,by omega,h1⟩
  ·rw[if_neg h1]at h;cases h
 ·rw[if_neg h0]at h
  by_cases h1: -(n:Int)<=i
  ·rw[if_pos h1]at h
   have e:(i+n).toNat=j:=Option.some.inj h
   exact⟨by rw[kM (by omega) h1,e],by omega,h1,by omega⟩
  ·rw[if_neg h1]at h;cases h
theorem LL{α:Type}{xs:List α}{i:Int}{v:α}(h:YX xs i=some v):∃j,seqIndex? i xs.length=some j/\xs[j]? =some v/\j<xs.length/\ -(xs.length:Int)<=i/\i<xs.length:=by
 unfold YX at h
 cases e:Zr xs.length i with
 |none=>rw[e]at h;cases h
 |some j=>
  rw[e]at h
  obtain⟨h1,h2,h3,h4⟩:=SA e
  exact⟨j,h1,h,h2,h3,h4⟩
theorem oo{α:Type}{xs:List α}{j:Nat}{v:α}(h:xs[j]? =some v):YX xs (j:Int)=some v:=by
 have hj:j<xs.length:=(List.getElem?_eq_some_iff.mp h).1
 have e:Zr xs.length (j:Int)=some j:=by
  unfold Zr
  rw[if_pos (by omega),if_pos (by omega)];simp
 unfold YX;rw[e];exact h
def SD(b:bJ):Prop:=∀o i,jD b false o i=operate [o,i] (jl o i)
def IxR(X:Cx)(r:R2):Prop:=
 ∀(value slice:bJ) (pins:List (ag×Obj)) (s:au) (σ:St) (H:Hp) (x y:V) (v u:ao) (Q:VK),Inv X pins σ H s->RelV x v->RelV y u->r x y H Q->
  jD slice false v u=operate [v,u] (jl v u)->aT (aU X.prog X.w) X.A (ke value slice v u) (EP X pins σ Q) X.xe s
def MtR(X:Cx)(id:String)(r:V->List V->Hp->VK->Prop):Prop:=
 ∀(pins:List (ag×Obj)) (s:au) (σ:St) (H:Hp) (x:V) (xs:List V) (v:ao) (us:List ao) (Q:VK),Inv X pins σ H s->RelV x v->Vals xs us->r x xs H Q->
  aT (aU X.prog X.w) X.A (call (.builtin id) (v::us)) (EP X pins σ Q) X.xe s
section
variable{X:Cx}{a b:bJ}{ta tb:TE}{pos:Pos}
theorem oZ{r:R2}(hr:IxR X r)(ha:PE X a ta)(hb:PE X b tb)(hs:SD b):PE X (.Subscript a b pos) (tOp r ta tb):=by
 intro pins s σ H Q I h
 exact lT (abr ha hb I h λ v u s2 x y H2 I2 rx ry q=>hr a b pins s2 σ H2 x y v u Q I2 rx ry q (hs _ _))
inductive adf (K:ah) (x y:V) (H:Hp) (Q:VK):Prop
 |mk (p:ag) (xs:List V) (i:Int) (v:V):x= .ref p->y= .int i->nA K H p xs->YX xs i=some v->Q v H->adf K x y H Q
def adg(K:ah):R2:=λ x y H Q=>adf K x y H Q
def aeu(K:ah):R2:=λ x y H Q=>∃p xs i v,x= .ref p/\y= .int i/\BG K H p xs/\YX xs i=some v/\Q v H
def aev:R2:=λ x y H Q=>∃z i c,x= .str z/\y= .int i/\z.length<=ay/\YX z.cps.toList i=some c/\Q (.str ⟨#[c]⟩) H
theorem n9:IxR X (adg X.K):=by
 intro value slice pins s σ H x y v u Q I rx ry h hs
 obtain⟨p,xs,i,z,rfl,rfl,hq,he,q⟩:=h
 cases rx
 obtain⟨t,rfl⟩:=ry
 obtain⟨oh,r,pl,hz⟩:=I.list hq
 obtain⟨j,h1,h2,h3,h4,h5⟩:=LL he
 obtain⟨w,ew,wb⟩:=r.get h2
 have hl:=r.length
 have hn:=BY
 have fin:EP X pins σ Q w s:=⟨z,H,I,wb,q⟩
 by_cases h0:0<=i
 ·have hj:i.toNat=j:=by
   rw[lh h0 h5]at h1
   exact Option.some.inj h1
  exact item_listR pl.isList h0 (by omega) (by rw[hj];simpa using ew) fin hs
 ·have hj:(i+(oh.toArray.size:Int)).toNat=j:=by
   rw[kM (by omega) h4]at h1
   rw[aL,<-hl]
   exact Option.some.inj h1
  exact kQ (x:=w) pl.isList.typeIs slot_list_getitem.lookup
   (wpAny_getItem_list_neg (Q:=λ r s'=>r=w/\EP X pins σ Q r s') pl.isList (by omega) (by rw[aL] <;> omega) (by omega) (by rw[hj];simpa using ew) ⟨rfl,fin⟩) hs
theorem Wl:IxR X (aeu X.K):=by
 intro value slice pins s σ H x y v u Q I rx ry h hs
 obtain⟨p,xs,i,z,rfl,rfl,hq,he,q⟩:=h
 cases rx
 obtain⟨t,rfl⟩:=ry
 obtain⟨oh,r,pl,hz⟩:=I.tuple hq
 obtain⟨j,h1,h2,h3,h4,h5⟩:=LL he
 obtain⟨w,ew,wb⟩:=r.get h2
 have hl:=r.length
 have hn:=BY
 have fin:EP X pins σ Q w s:=⟨z,H,I,wb,q⟩
 exact kQ (x:=w) pl.typeIs slot_tuple_getitem.lookup
  (getItem_tuple (j:=j) (Q:=λ r s'=>r=w/\EP X pins σ Q r s') pl (by omega) (by omega) (by rw[aL,<-hl];exact h1) (by simpa using ew) ⟨rfl,fin⟩) hs
theorem abC:IxR X aev:=by
 intro value slice pins s σ H x y v u Q I rx ry h hs
 obtain⟨z,i,c,rfl,rfl,hz,he,q⟩:=h
 obtain⟨t,rfl⟩:=rx
 obtain⟨t',rfl⟩:=ry
 obtain⟨j,h1,h2,h3,h4,h5⟩:=LL he
 have hl:z.cps.toList.length=z.length:=by simp[Str.length]
 rw[hl]at h1 h4 h5
 have hn:=BY
 exact tail_any (lP s z t) slot_str_getitem.lookup (getItem_str (c:=c) (by
  have e1:decide (i< -(2 ^ 63:Int))=false:=decide_eq_false (by omega)
  have e2:decide (i ≥ 2 ^ 63)=false:=decide_eq_false (by omega)
  rw[e1,e2,lX]) (by rw[h1];simpa using h2) ⟨.str ⟨#[c]⟩,H,I.tok _,⟨_,rfl⟩,q⟩) hs
theorem Qi(oh:List ao)(n j:Nat)(u:ao):Obj.mapSeq (·.setIfInBounds j u) { cls:=.type "list",data:=.seq oh.toArray n }={ cls:=.type "list",data:=.seq (oh.set j u).toArray n }:=by
 simp[Obj.mapSeq]
theorem Inv.lst{pins:List (ag×Obj)}{σ:St}{H:Hp}{s:au}{p:ag}{xs:List V}(I:Inv X pins σ H s)(h:H p=some (.lst xs)):
  ∃(oh:List ao) (n:Nat),Vals xs oh/\s.heap.get? p=some { cls:=.type "list",data:=.seq oh.toArray n }/\xs.length<=ay:=by
 obtain⟨z,oh,n,r,e⟩:=I.oW p _ h
 exact⟨oh,n,r,e,z⟩
theorem Inv.abD{pins:List (ag×Obj)}{σ:St}{H:Hp}{s:au}{p:ag}{xs ys:List V}{oh its':List ao}{n n':Nat}{f:Obj->Obj}(I:Inv X pins σ H s)(h:H p=some (.lst xs))
  (ho:s.heap.get? p=some { cls:=.type "list",data:=.seq oh.toArray n })(hf:f { cls:=.type "list",data:=.seq oh.toArray n }={ cls:=.type "list",data:=.seq its'.toArray n' })(r:Vals ys its')(hz:ys.length<=ay)(t:Nat):
  Inv X pins σ (upd H p (.lst ys)) { s with heap:=s.heap.update p f,toks:=t }:=by
 have e:(s.heap.update p f).get? p=some { cls:=.type "list",data:=.seq its'.toArray n' }:=by
  rw[Heap.get?_update_self f ho (by rw[hf] <;> rfl),hf]
 refine I.write (x:=p) (e:=p) (by rw[h];trivial) (.inl rfl) (λ b u hb q=>(Heap.get?_update_other _ _ (Ne.symm hb)).trans q) ⟨_,e⟩ ?_
 exact⟨hz,its',n',r,e⟩
inductive aaZ (o i v:V) (H:Hp) (Q:Hp->Prop):Prop
 |mk (p:ag) (xs:List V) (k:Int) (j:Nat):o= .ref p->i= .int k->H p=some (.lst xs)->Zr xs.length k=some j->Q (upd H p (.lst (xs.set j v)))->aaZ o i v H Q
def adh:V->V->V->Hp->(Hp->Prop)->Prop:=λ o i v H Q=>aaZ o i v H Q
theorem set_list:abm X adh:=by
 intro pins s σ H o i v ov iv u Q I ro ri rv h
 obtain⟨p,xs,k,j,rfl,rfl,hp,hj,q⟩:=h
 cases ro
 obtain⟨t,rfl⟩:=ri
 obtain⟨oh,n,r,ho,hz⟩:=I.lst hp
 obtain⟨h1,h2,h3,h4⟩:=SA hj
 have hl:=r.length
 have hn:=BY
 have I':Inv X pins σ (upd H p (.lst (xs.set j v))) { s with heap:=s.heap.update p (Obj.mapSeq (·.setIfInBounds j u)) }:=
  I.abD hp ho (Qi oh n j u) (r.set rv j) (by rw[fG];exact hz) s.toks
 by_cases h0:0<=k
 ·have hk:k.toNat=j:=by
   rw[lh h0 h4]at h1
   exact Option.some.inj h1
  exact PySem.W.ki_setAt ho h0 (by omega) (by rw[aL,<-hl];exact h4) (by rw[hk];exact⟨_,I',q⟩)
 ·have hk:(k+(oh.toArray.size:Int)).toNat=j:=by
   rw[kM (by omega) h3]at h1
   rw[aL,<-hl]
   exact Option.some.inj h1
  exact PySem.W.ki_setBack ho (by omega) (by rw[aL,<-hl];exact h3) (by omega) (by rw[hk];exact⟨_,I',q⟩)
theorem LM(lo hi:Option Int)(n:Nat):(fU lo hi none n).1=((HT.PJ n 0 lo:Nat):Int)/\(fU lo hi none n).2.1=((HT.PJ n n hi:Nat):Int)/\(fU lo hi none n).2.2=1:=by
 refine⟨?_,?_,rfl⟩
 ·cases lo with
  |none=>simp[fU,HT.PJ]
  |some i=>
   simp only[fU,HT.PJ,kz,show(1:Int) > 0 by decide,if_true]
   by_cases h:i<0
   ·simp only[h,if_true] <;> omega
   ·simp only[h,if_false] <;> omega
 ·cases hi with
  |none=>simp[fU,HT.PJ]
  |some i=>
   simp only[fU,HT.PJ,kz,show(1:Int) > 0 by decide,if_true]
   by_cases h:i<0
   ·simp only[h,if_true] <;> omega
   ·simp only[h,if_false] <;> omega
theorem J0(oh:List ao)(lo hi:Option Int):slicePick oh.toArray lo hi none=((oh.drop (HT.PJ oh.length 0 lo)).take (HT.PJ oh.length oh.length hi-HT.PJ oh.length 0 lo)).toArray:=by
 obtain⟨h1,h2,h3⟩:=LM lo hi oh.toArray.size
 unfold slicePick
 rw[h1,h2,h3]
 simp only[sliceRange_one,pick_run,aL] <;> rfl
inductive adi (K:ah) (x:V) (lo hi:Option Int) (H:Hp) (Q:VK):Prop
 |mk (a:ag) (xs:List V):x= .ref a->nA K H a xs->(∀p,H p=none->Q (.ref p) (upd H p (.lst (BZ xs lo hi))))->adi K x lo hi H Q
theorem G6:SlR X (adi X.K):=by
 intro pins s σ H x v vl vu lo hi sl Q I rx hs pl pu h
 obtain⟨a,xs,rfl,hx,q⟩:=h
 cases rx
 obtain⟨oh,r,ht,hz⟩:=I.list hx
 have hlen:=r.length
 refine⟨"list",_,slot_list_getitem.lookup,ht.isList.typeIs,?_⟩
 refine wpAny_getItem_list_slice ht.isList hs pl pu .none (by simp) ?_ (by rw[aL] <;> omega)
 rw[J0,<-hlen]
 refine⟨.ref s.heap.objs.size,_,I.laid (t':=s.toks) (o:=.lst (BZ xs lo hi)) (λ b ob q=>Heap.get?_push_of_some _ q) (ax _) ?_,rfl,q _ (I.oW.fresh (ax _))⟩
 exact⟨aV (NC xs lo hi) hz,_,0,(r.drop (HT.PJ xs.length 0 lo)).take (HT.PJ xs.length xs.length hi-HT.PJ xs.length 0 lo),Heap.get?_push_size _ rfl⟩
def zG:V->Bool
 | .qt=>true
 | .bl _=>true
 | .int _=>true
 | .str _=>true
 |_=>false
def YY:V->V->Bool
 | .qt,.qt=>true
 | .bl a,.bl b=>a == b
 | .bl a,.int b=>(if a then 1 else 0) == b
 | .int a,.bl b=>a == (if b then 1 else 0)
 | .int a,.int b=>a == b
 | .str a,.str b=>a == b
 |_,_=>false
theorem abE{A:bV}{s:au}{y x:V}{u v:ao}(ry:RelV y u)(rx:RelV x v)(fy:zG y=true)(fx:zG x=true):SeqAt.EqAt A s u v (YY y x):=by
 cases y with
 |qt=>
  cases ry
  cases x with
  |qt=>cases rx;exact SeqAt.EqAt.same _
  |bl b=>cases rx;exact SeqAt.EqAt.none_bool b
  |int b=>obtain⟨t,rfl⟩:=rx;exact SeqAt.EqAt.none_int b t
  |str b=>obtain⟨t,rfl⟩:=rx;exact SeqAt.EqAt.none_str b t
  |_=>exact absurd (show false=true from fx) aZ
 |bl a=>
  cases ry
  cases x with
  |qt=>cases rx;exact SeqAt.EqAt.bool_none a
  |bl b=>cases rx;exact SeqAt.EqAt.bool_bool a b
  |int b=>obtain⟨t,rfl⟩:=rx;exact SeqAt.EqAt.bool_int a b t
  |str b=>obtain⟨t,rfl⟩:=rx;exact SeqAt.EqAt.bool_str a b t
  |_=>exact absurd (show false=true from fx) aZ
 |int a=>
  obtain⟨t',rfl⟩:=ry
  cases x with
  |qt=>cases rx;exact SeqAt.EqAt.int_none a t'
  |bl b=>cases rx;exact SeqAt.EqAt.int_bool a t' b
  |int b=>obtain⟨t,rfl⟩:=rx;exact SeqAt.EqAt.int_int a t' b t
  |str b=>obtain⟨t,rfl⟩:=rx;exact SeqAt.EqAt.int_str a t' b t
  |_=>exact absurd (show false=true from fx) aZ
 |str a=>
  obtain⟨t',rfl⟩:=ry
  cases x with
  |qt=>cases rx;exact SeqAt.EqAt.str_none a t'
  |bl b=>cases rx;exact SeqAt.EqAt.str_bool a t' b
  |int b=>obtain⟨t,rfl⟩:=rx;exact SeqAt.EqAt.str_int a t' b t
  |str b=>obtain⟨t,rfl⟩:=rx;exact SeqAt.EqAt.str_str a t' b t
  |_=>exact absurd (show false=true from fx) aZ
 |_=>exact absurd (show false=true from fy) aZ
def PK(x:V)(u:ao):Bool:=match u with
 | .none=>YY .qt x
 | .bool b=>YY (.bl b) x
 | .int i _=>YY (.int i) x
 | .str z _=>YY (.str z) x
 |_=>false
theorem LN{x y:V}{u:ao}(r:RelV y u)(f:zG y=true):PK x u=YY y x:=by
 cases y with
 |qt=>cases r;rfl
 |bl b=>cases r;rfl
 |int i=>obtain⟨t,rfl⟩:=r;rfl
 |str z=>obtain⟨t,rfl⟩:=r;rfl
 |_=>exact absurd (show false=true from f) aZ
theorem Ds{x:V}:∀{xs:List V} {us:List ao},Vals xs us->xs.all zG=true->us.any (PK x)=xs.any λ y=>YY y x
 |_,_,.nil,_=>rfl
 |y::xs,u::us,.cons r t,f=>by
  rw[gx,bg]at f
  rw[eu,eu,LN r f.1,Ds t f.2]
theorem xE{A:bV}{s:au}{x:V}{v:ao}(rx:RelV x v)(fx:zG x=true):∀{xs:List V} {us:List ao},Vals xs us->xs.all zG=true->∀u∈us,SeqAt.EqAt A s u v (PK x u)
 |_,_,.nil,_=>λ u hu=>by cases hu
 |y::xs,u::us,.cons r t,f=>λ u' hu=>by
  rw[gx,bg]at f
  rcases List.mem_cons.mp hu with rfl|hu
  ·rw[LN r f.1];exact abE r rx f.1 fx
  ·exact xE rx fx t f.2 u' hu
def G7(x:V)(xs:List V):Bool:=xs.any λ y=>YY y x
def rIn(K:ah)(neg:Bool):R2:=λ x y H Q=>∃p xs,y= .ref p/\(nA K H p xs\/BG K H p xs)/\zG x=true/\xs.all zG=true/\Q (.bl (if neg then !G7 x xs else G7 x xs)) H
theorem Bb:EB X (cS .In) (rIn X.K false):=by
 intro pins s σ H x y v u Q I rx ry h
 obtain⟨p,xs,rfl,hq,fx,fs,q⟩:=h
 cases ry
 rcases hq with hq|hq
 ·obtain⟨oh,r,pl,hz⟩:=I.list hq
  refine SeqAt.in_listAt (PK x) pl.isList (λ w hw=>xE rx fx r fs w (by simpa using hw)) ⟨.bl _,H,I,rfl,?_⟩
  rw[show oh.toArray.any (PK x)=oh.any (PK x) by simp,Ds r fs]
  exact q
 ·obtain⟨oh,r,pl,hz⟩:=I.tuple hq
  refine SeqAt.in_tupleAt (PK x) pl (λ w hw=>xE rx fx r fs w (by simpa using hw)) ⟨.bl _,H,I,rfl,?_⟩
  rw[show oh.toArray.any (PK x)=oh.any (PK x) by simp,Ds r fs]
  exact q
theorem uG:EB X (cS .NotIn) (rIn X.K true):=by
 intro pins s σ H x y v u Q I rx ry h
 obtain⟨p,xs,rfl,hq,fx,fs,q⟩:=h
 cases ry
 rcases hq with hq|hq
 ·obtain⟨oh,r,pl,hz⟩:=I.list hq
  refine SeqAt.notIn_listAt (PK x) pl.isList (λ w hw=>xE rx fx r fs w (by simpa using hw)) ⟨.bl _,H,I,rfl,?_⟩
  rw[show oh.toArray.any (PK x)=oh.any (PK x) by simp,Ds r fs]
  exact q
 ·obtain⟨oh,r,pl,hz⟩:=I.tuple hq
  refine SeqAt.notIn_tupleAt (PK x) pl (λ w hw=>xE rx fx r fs w (by simpa using hw)) ⟨.bl _,H,I,rfl,?_⟩
  rw[show oh.toArray.any (PK x)=oh.any (PK x) by simp,Ds r fs]
  exact q
inductive adj (K:ah) (xs:List V) (H:Hp) (Q:VK):Prop
 |mk (p:ag) (ys:List V):xs=[.ref p]->(nA K H p ys\/BG K H p ys)->Q (.int ys.length) H->adj K xs H Q
theorem nL:zP X (.builtin "len") (λ xs H Q=>adj X.K xs H Q):=by
 intro pins s σ H xs us Q I r h
 obtain⟨p,ys,rfl,hq,q⟩:=h
 obtain⟨u,rfl,rx⟩:=vals1 r
 cases rx
 have hn:=BY
 rcases hq with hq|hq
 ·obtain⟨oh,r',pl,hz⟩:=I.list hq
  have hlen:=r'.length
  exact Calls.call_len_list pl.isList (by simp only[aL] <;> omega) ⟨.int ys.length,H,I.tok _,⟨s.toks+1,by rw[aL,hlen]⟩,q⟩
 ·obtain⟨oh,r',pl,hz⟩:=I.tuple hq
  have hlen:=r'.length
  exact len_tuple pl (by simp only[aL] <;> omega) ⟨.int ys.length,H,I.tok _,⟨s.toks+1,by rw[aL,hlen]⟩,q⟩
theorem xV:zP X (.type "list") (λ xs H Q=>∃p ys,xs=[.ref p]/\(nA X.K H p ys\/BG X.K H p ys)/\∀l,H l=none->Q (.ref l) (upd H l (.lst ys))):=by
 intro pins s σ H xs us Q I r h
 obtain⟨p,ys,rfl,hq,q⟩:=h
 obtain⟨u,rfl,rx⟩:=vals1 r
 cases rx
 have fin:∀(oh:List ao),Vals ys oh->ys.length<=ay->∀(h':bF) (c':Nat),(∀b o',s.heap.get? b=some o'->h'.get? b=some o')->
   h'.get? s.heap.objs.size=some { cls:=.type "list",dict:=none,data:=.seq oh.toArray c',slots:= #[] }->EP X pins σ Q (.ref s.heap.objs.size) { s with heap:=h' }:=λ oh r' hz h' c' kp e=>
  ⟨.ref s.heap.objs.size,_,I.laid (t':=s.toks) kp (ax _) (show pN X.prog X.w _ h' _ (.lst ys)from⟨hz,oh,c',r',e⟩),rfl,q _ (I.oW.fresh (ax _))⟩
 rcases hq with hq|hq
 ·obtain⟨oh,r',pl,hz⟩:=I.list hq
  have hlen:=r'.length
  obtain⟨o,ho,hc,n,hd⟩:=pl.isList
  exact mT p (.inl rfl) ho hc hd (λ h' c' kp e=>fin oh r' hz h' c' kp e) (by simp only[aL] <;> omega)
 ·obtain⟨oh,r',pl,hz⟩:=I.tuple hq
  have hlen:=r'.length
  obtain⟨o,ho,hc,n,hd⟩:=pl
  exact mT p (.inr rfl) ho hc hd (λ h' c' kp e=>fin oh r' hz h' c' kp e) (by simp only[aL] <;> omega)
def tyV(K:ah)(T:String)(x:V)(H:Hp):Prop:=match x with
 | .str _=>T="str"
 | .int _=>T="int"
 | .ref p=>(T="list"/\∃xs,nA K H p xs)\/(T="tuple"/\∃o,K.lookup p=some o/\o.cls= .type "tuple"/\o.dict=none)\/
   (T="dict"/\((∃oF,H p=some (.dK oF))\/∃oF,H p=some (.dT oF)))\/(T="set"/\∃S n,H p=some (.set S n))
 |_=>False
theorem abF{pins:List (ag×Obj)}{σ:St}{H:Hp}{s:au}{T:String}{x:V}{v:ao}(I:Inv X pins σ H s)(r:RelV x v)(ty:tyV X.K T x H):
  s.TypeIs v T/\∀a,v= .ref a->∃ob,s.heap.get? a=some ob/\ob.dict=none:=by
 cases x with
 |str z=>
  obtain⟨t,rfl⟩:=r
  cases(show T="str" from ty)
  exact⟨lP s z t,λ _ e=>nomatch e⟩
 |int i=>
  obtain⟨t,rfl⟩:=r
  cases(show T="int" from ty)
  exact⟨typeIs_int s i t,λ _ e=>nomatch e⟩
 |ref p=>
  cases r
  rcases ty with⟨rfl,xs,hq⟩|⟨rfl,o,hk,hc,hd⟩|⟨rfl,hk⟩|⟨rfl,S,n,hk⟩
  ·obtain⟨oh,_,pl,_⟩:=I.list hq
   refine⟨pl.isList.typeIs,λ a e=>?_⟩
   cases e
   obtain⟨o,n,e,c,hd,_⟩:=pl
   exact⟨o,e,hd⟩
  ·refine⟨⟨o,I.FH p o hk,hc⟩,λ a e=>?_⟩
   cases e
   exact⟨o,I.FH _ o hk,hd⟩
  ·have z:∃o,s.heap.get? p=some o/\o.ExactDict:=by
    rcases hk with⟨oF,hk⟩|⟨oF,hk⟩
    ·obtain⟨_,_,_,_,o,_,_,e,ex,_⟩:=I.oW p _ hk
     exact⟨o,e,ex⟩
    ·obtain⟨_,_,_,_,o,_,_,e,ex,_⟩:=I.oW p _ hk
     exact⟨o,e,ex⟩
   obtain⟨o,e,ex⟩:=z
   refine⟨⟨o,e,ex.1⟩,λ a e2=>?_⟩
   cases e2
   exact⟨o,e,ex.2.1⟩
  ·obtain⟨o,_,_,_,e,ex,_⟩:=I.oW p _ hk
   refine⟨⟨o,e,ex.1⟩,λ a e2=>?_⟩
   cases e2
   exact⟨o,e,ex.2.1⟩
 |_=>exact False.elim ty
def tBM(K:ah)(T:String)(r:V->List V->Hp->VK->Prop)(to:TE)(t:TA):TE:=λ σ H Q=>to σ H λ x H1=>tyV K T x H1/\t σ H1 λ xs H2=>r x xs H2 Q
variable{o e:bJ}{es:List bJ}{to:TE}{t:TA}{name:Str}{apos xF:Pos}{T id:String}{r:V->List V->Hp->VK->Prop}
theorem qQ(pa:PlainAttrs T)(slot:Slot T name id)(hty:lO (.builtin id)=pure (.type "method_descriptor"))(hm:MtR X id r)(ho:PE X o to)(ha:PA X (e::es) t)
  (HE:dN o name X.env (cw o X.env)=cw o X.env:=by rfl)
  (abG:((c8 xF (aN (e::es) X.env)).all (λ x=> !x.1) && (g_ xF (fb [] X.env)).all (λ x=>x.1.isSome)
   && decide ((e::es).length+([]:List kP).length+(if([]:List kP).isEmpty then 0 else 1)<30))=true:=by rfl)
  (HF:(apos.endLine == xF.line)=true:=by rfl)(hs:aN (e::es) X.env=(false,cw e X.env)::aN es X.env:=by rfl)(abH:(c8 xF (aN es X.env)).any (·.1)=false:=by rfl):
  PE X (.Call (.Attribute o name apos) (e::es) [] xF) (tBM X.K T r to t):=by
 intro pins s σ H Q I h
 refine wpAny_Call_method_late HE abG HF rfl (pK (ho pins s σ H _ I h) λ v s1 ⟨x,H1,I1,r1,ty,q1⟩=>?_)
 obtain⟨h1,h2⟩:=abF I1 r1 ty
 refine⟨T,id,pa,slot,hty,h1,h2,?_⟩
 have hA:=ha xF pins s1 σ H1 _ I1 q1
 rw[hs]at hA ⊢
 refine Calls.callWith_builtin (by show(false || (c8 xF (aN es X.env)).any (·.1))=false;rw[abH] <;> rfl) (Calls.evalArgs_plain ?_)
 exact pK hA λ us s2 ⟨vs,H2,I2,r2,q2⟩=>hm pins s2 σ H2 x vs v us Q I2 r1 r2 q2
end
end L2
namespace L2
open PySem PySem.Spec PyProof.Rows
def MtM(X:Cx)(id:String)(r:V->List V->Hp->VK->Prop):Prop:=
 ∀(pins:List (ag×Obj)) (s:au) (σ:St) (H:Hp) (x:V) (xs:List V) (v:ao) (us:List ao) (Q:VK),Inv X pins σ H s->RelV x v->Vals xs us->r x xs H Q->
  aT (aU X.prog X.w) X.A (call (.builtin id) (v::us)) (EP X pins σ Q) X.xe s
theorem Vals.one:∀{x:V} {us:List ao},Vals [x] us->∃u,us=[u]/\RelV x u
 |_,_,.cons r .nil=>⟨_,rfl,r⟩
section
variable{X:Cx}{pins:List (ag×Obj)}{σ:St}{H:Hp}{s:au}{l b:ag}{xs ys zs:List V}
theorem Inv.abI{oh its':List ao}{n:Nat}{f:Array ao->Array ao}{t':Nat}(I:Inv X pins σ H s)(hH:H l=some (.lst xs))
  (e:s.heap.get? l=some { cls:=.type "list",data:=.seq oh.toArray n })(hf:f oh.toArray=its'.toArray)(hv:Vals ys its')(hz:ys.length<=ay):
  Inv X pins σ (upd H l (.lst ys)) { s with heap:=s.heap.update l (Obj.mapSeq f),toks:=t' }:=by
 have q:=PySem.IsL.update e f
 rw[hf]at q
 refine I.write (x:=l) (e:=l) (by rw[hH];exact trivial) (.inl rfl) (λ b' u hb hu=>(Heap.get?_update_other s.heap (Obj.mapSeq f) (Ne.symm hb)).trans hu) ⟨_,q⟩ ?_
 exact⟨hz,its',_,hv,q⟩
theorem Inv.aew{oh:List ao}{t':Nat}(I:Inv X pins σ H s)(hv:Vals ys oh)(hz:ys.length<=ay):
  Inv X pins σ (upd H s.heap.objs.size (.lst ys)) { s with heap:=s.heap.push { cls:=.type "list",data:=.seq oh.toArray },toks:=t' }:=
 I.laid (λ _ _ q=>Heap.get?_push_of_some _ q) (ax _) ⟨hz,oh,0,hv,Heap.get?_push_size _ rfl⟩
theorem Inv.fresh(I:Inv X pins σ H s):H s.heap.objs.size=none:=I.oW.fresh (ax _)
theorem Inv.Uk(I:Inv X pins σ H s)(hH:H l=some (.lst xs)):xs.length<=ay/\∃(oh:List ao) (n:Nat),Vals xs oh/\xs.length=oh.length/\s.heap.get? l=some { cls:=.type "list",data:=.seq oh.toArray n }:=by
 obtain⟨z,oh,n,r,e⟩:=I.oW l _ hH
 exact⟨z,oh,n,r,r.length,e⟩
theorem Wm{n:Nat}(h:n<=ay):Builtin.List.listTooLong n=false:=by
 unfold Builtin.List.listTooLong
 exact decide_eq_false (by omega)
end
section
variable{X:Cx}
inductive adk (x:V) (vs:List V) (H:Hp) (Q:VK):Prop
 |mk (l:ag) (xs:List V) (y:V):x= .ref l->vs=[y]->H l=some (.lst xs)->xs.length<ay->Q .qt (upd H l (.lst (xs++[y])))->adk x vs H Q
def Zs:V->List V->Hp->VK->Prop:=λ x vs H Q=>adk x vs H Q
theorem pD:MtM X "list.append" Zs:=by
 intro pins s σ H x vs v us Q I rx rv h
 obtain⟨l,xs,y,rfl,rfl,hH,hz,q⟩:=h
 cases rx
 obtain⟨u,rfl,ru⟩:=rv.one
 obtain⟨z,oh,n,r,hl,e⟩:=I.Uk hH
 refine jT F.slot_list_append ⟨_,e,rfl⟩ F.entry_list_append (F.args_list_append_2 _ _) (PySem.list_append l oh.toArray n u (by rw[aL];omega)) ⟨e,?_⟩
 refine⟨.qt,_,I.abI (its':=oh++[u]) hH e (by simp) (r.append (.cons ru .nil)) ?_,rfl,q⟩
 rw[aw,List.length_singleton]
 omega
def Zt:V->List V->Hp->VK->Prop:=λ x vs H Q=>∃l b xs zs,x= .ref l/\vs=[.ref b]/\H l=some (.lst xs)/\H b=some (.lst zs)/\xs.length+zs.length<=ay/\Q .qt (upd H l (.lst (xs++zs)))
theorem vb:MtM X "list.extend" Zt:=by
 intro pins s σ H x vs v us Q I rx rv h
 obtain⟨l,b,xs,zs,rfl,rfl,hH,hB,hz,q⟩:=h
 cases rx
 obtain⟨u,rfl,ru⟩:=rv.one
 cases ru
 obtain⟨z,oh,n,r,hl,e⟩:=I.Uk hH
 obtain⟨z2,EK,n2,r2,Nm,e2⟩:=I.Uk hB
 have hsz:oh.toArray.size+EK.toArray.size<=ay:=by rw[aL,aL];omega
 have adl:¬ (!oh.toArray.isEmpty && Builtin.List.listTooLong (oh.toArray.size+EK.toArray.size))=true:=by
  rw[Wm hsz,lG]
  exact aZ
 refine jT F.slot_list_extend ⟨_,e,rfl⟩ F.entry_list_extend (F.args_list_extend_2 _ _)
  (AutoSeq1.list_extend_list_list_0 l oh.toArray n b EK.toArray n2 adl (by rw[aL];omega) (by omega)) ⟨e,e2,?_⟩
 refine⟨.qt,_,I.abI (its':=oh++EK) hH e (by simp) (r.append r2) ?_,rfl,q⟩
 rw[aw]
 omega
inductive adm (x y:V) (H:Hp) (Q:VK):Prop
 |mk (l b:ag) (xs zs:List V):x= .ref l->y= .ref b->H l=some (.lst xs)->H b=some (.lst zs)->xs.length+zs.length<=ay->(∀p,H p=none->Q (.ref p) (upd H p (.lst (xs++zs))))->adm x y H Q
theorem qT:EB X (gA .Add) adm:=by
 intro pins s σ H x y v u Q I rx ry h
 obtain⟨l,b,xs,zs,rfl,rfl,hH,hB,hz,q⟩:=h
 cases rx
 cases ry
 obtain⟨z,oh,n,r,hl,e⟩:=I.Uk hH
 obtain⟨z2,EK,n2,r2,Nm,e2⟩:=I.Uk hB
 refine PySem.P.add_list e e2 ?_ (by rw[aL,aL];omega)
 have ea:oh.toArray++EK.toArray=(oh++EK).toArray:=by simp
 rw[ea]
 exact⟨.ref _,_,I.aew (t':=s.toks) (r.append r2) (by rw[aw];omega),rfl,q _ I.fresh⟩
end
section
variable{prog:aK}{w:bj}{A:bV}{E:ao->au->Prop}{s:au}
set_option maxRecDepth 100000 in
end
section
variable{X:Cx}
end
end L2
namespace L2
open PySem PySem.Spec PyProof.Rows
theorem Vals.ints:∀{ns:List Int} {us:List ao},Vals (ns.map V.int) us->IntsAre us ns
 |[],us,h=>by
  rw[fQ]at h
  cases h
  exact IntsAre.nil
 |n::ns,us,h=>by
  rw[aH]at h
  cases h with
  |cons r t=>
   obtain⟨k,rfl⟩:=r
   exact IntsAre.cons n k (Vals.ints t)
theorem Vals.bls:∀{bs:List Bool} {us:List ao},Vals (bs.map V.bl) us->us=bs.map Value.bool
 |[],us,h=>by
  rw[fQ]at h
  cases h
  rfl
 |b::bs,us,h=>by
  rw[aH]at h
  cases h with
  |cons r t=>
   cases r
   rw[Vals.bls t,aH]
theorem Vals.Zu{a:ag}{us:List ao}(r:Vals [V.ref a] us):us=[Value.ref a]:=by
 cases r with
 |cons r t=>
  cases t
  cases r
  rfl
section
variable{prog:aK}{w:bj}{A:bV}{E:ao->au->Prop}{s:au}{l:ag}{oh:List ao}{ns:List Int}{Q:ao->au->Prop}
theorem Zv(hh:A.handled=none)(hl:s.heap.IsList l oh.toArray)(hi:IntsAre oh ns)
  (h:∀h' tk t',(∀b o,s.heap.get? b=some o->h'.get? b=some o)->Q (.int ns.sum t') { s with heap:=h',toks:=tk }):aT (aU prog w) A (call (.builtin "sum") [.ref l]) Q E s:=by
 obtain⟨xs,e⟩:=hi.allInts.items
 have hn:numsOf (intItems xs).toList=ns:=by rw[<-e];exact hi.numsOf
 rw[mQ]at hn
 rw[e]at hl
 refine PySem.sum_intListG hh hl λ h' tk t' hk=>?_
 have:=h h' tk t' hk
 rw[preSum_eq,cu (by simp),hn];exact this
theorem Zw(hh:A.handled=none)(hl:s.heap.IsList l oh.toArray)(hi:IntsAre oh ns)(xG:0<ns.length)
  (h:∀h' tk M t',(∀b o,s.heap.get? b=some o->h'.get? b=some o)->M∈ns->(∀a,a∈ns->a<=M)->Q (.int M t') { s with heap:=h',toks:=tk }):aT (aU prog w) A (call (.builtin "max") [.ref l]) Q E s:=by
 obtain⟨xs,e⟩:=hi.allInts.items
 have hn:numsOf (intItems xs).toList=ns:=by rw[<-e];exact hi.numsOf
 rw[mQ]at hn
 subst hn
 rw[e]at hl
 have hsz:0<xs.size:=by simpa using xG
 refine PySem.max_intList hh hl hsz λ v h' tk hv hk=>?_
 obtain⟨t,rfl⟩:=intItems_at hv
 obtain⟨h1,h2⟩:=argBest_gt (numAt xs) (xs.size-1)
 refine h h' tk _ t hk ?_ λ a ha=>?_
 ·rw[numAt_eq];exact PySem.getD_mem (by rw[aa,Array.length_toList];omega)
 ·obtain⟨j,hj,rfl⟩:=mem_getD ha
  rw[aa,Array.length_toList]at hj
  rw[<-numAt_eq];exact h2 j (by omega)
end
section
variable{X:Cx}
def aex(K:ah):List V->Hp->VK->Prop:=λ vs H Q=>∃(a:ag) (ns:List Int),vs=[V.ref a]/\nA K H a (ns.map V.int)/\Q (.int ns.sum) H
def adn(K:ah):List V->Hp->VK->Prop:=λ vs H Q=>∃(a:ag) (ns:List Int),vs=[V.ref a]/\nA K H a (ns.map V.int)/\0<ns.length/\∀m,m∈ns->(∀y,y∈ns->y<=m)->Q (.int m) H
theorem B0(hc:X.calm=true):zP X (.builtin "sum") (aex X.K):=by
 intro pins s σ H vs us Q I r h
 obtain⟨a,ns,rfl,hs,q⟩:=h
 obtain⟨oh,rv,hl,_⟩:=I.list hs
 rw[Vals.Zu r]
 exact Zv (I.ok.hd hc) hl.isList rv.ints λ h' tk t' hk=>⟨.int _,H,I.kept hk,⟨_,rfl⟩,q⟩
theorem Qj(hc:X.calm=true):zP X (.builtin "max") (adn X.K):=by
 intro pins s σ H vs us Q I r h
 obtain⟨a,ns,rfl,hs,xG,q⟩:=h
 obtain⟨oh,rv,hl,_⟩:=I.list hs
 rw[Vals.Zu r]
 exact Zw (I.ok.hd hc) hl.isList rv.ints xG λ h' tk m t' hk h1 h2=>⟨.int _,H,I.kept hk,⟨_,rfl⟩,q m h1 h2⟩
end
section
variable{X:Cx}
def abJ(K:ah):V->List V->Hp->VK->Prop:=λ x xs H Q=>∃(a:ag) (ys:List V) (y:V) (j:Nat) (z:V),x=V.ref a/\xs=[y]/\nA K H a ys/\zG y=true/\ys.all zG=true/\ys[j]? =some z/\YY z y=true/\
 (∀(m:Nat) (z':V),m<j->ys[m]? =some z'->YY z' y=false)/\Q (.int (j:Nat)) H
theorem SE{ys:List V}(f:ys.all zG=true){j:Nat}{z:V}(h:ys[j]? =some z):zG z=true:=List.all_eq_true.mp f z (aC h)
theorem Wn:MtR X "list.index" (abJ X.K):=by
 intro pins s σ H x xs v us Q I rx rxs h
 obtain⟨a,ys,y,j,z,rfl,rfl,hs,fy,fys,hz,hzj,hno,q⟩:=h
 cases rx
 cases rxs with
 |cons ry rt=>
  rename_i uy ut
  cases rt
  obtain⟨oh,rv,⟨⟨cls,dd,data,sl⟩,n,ho,hc,hdn,hd⟩,hlen⟩:=I.list hs
  simp only at hc hd
  subst hc hd
  obtain⟨u,hu,ru⟩:=rv.get hz
  obtain⟨hjl,hje⟩:=List.getElem?_eq_some_iff.mp hu
  have hvl:=rv.length
  have hj:j<oh.toArray.size:=by simpa using hjl
  have hsl:=aA
  refine jT jo ⟨_,ho,rfl⟩ PySem.F.entry_list_index (PySem.F.args_list_index_2 _ _)
   (SeqAt.list_indexAt a oh.toArray n dd sl uy (PK y) j hj (by omega) ?_ ?_) ⟨ho,λ u' hu'=>xE ry fy rv fys u' (by simpa using hu'),?_⟩
  ·have e1:oh.toArray[j]=u:=by simpa using hje
   rw[e1,LN ru (SE fys hz)]
   exact hzj
  ·intro m hm hmj
   have hml:m<oh.length:=by simpa using hm
   have hmy:m<ys.length:=by omega
   have hy':ys[m]? =some ys[m]:=af hmy
   obtain⟨u2,hu2,ru2⟩:=rv.get hy'
   obtain⟨_,hme⟩:=List.getElem?_eq_some_iff.mp hu2
   have e1:oh.toArray[m]=u2:=by simpa using hme
   rw[e1,LN ru2 (SE fys hy')]
   exact hno m _ hmj hy'
  ·exact⟨.int (j:Nat),H,I.tok _,⟨_,rfl⟩,q⟩
end
section
variable{X:Cx}
end
theorem Wo{prog:aK}{w:bj}{A:bV}{E:ao->au->Prop}{s:au}{l:ag}{items:Array ao}{Q:ao->au->Prop}(hl:s.heap.IsList l items)
  (h:∀s₂:au,s₂={ s with heap:=s.heap.push { cls:=.type "list_iterator",data:=.fields #[.ref l,.int 0 0] } }->
   (s₂.heap.IsListIter s.heap.objs.size l 0/\s₂.heap.IsList l items)->l≠s.heap.objs.size->Q (.ref s.heap.objs.size) s₂):aT (aU prog w) A (mJ (.ref l)) Q E s:=by
 have rL:l<s.heap.objs.size:=by obtain⟨_,e,_⟩:=hl;exact Heap.lt_size e
 exact fA hl (h _ rfl ⟨⟨_,Heap.get?_push_size _ rfl,rfl,rfl⟩,hl.push _⟩ (bK rL))
theorem ND{prog:aK}{w:bj}{A:bV}{bs:List Bool}{oh:List ao}(e:oh=bs.map Value.bool):
  TruthOf prog w A (λ i v=>oh.toArray[i]? =some v) (λ i=>bs.getD i false):=λ i v s Q E hv hq=>by
 have hv':oh[i]? =some v:=by simpa using hv
 rw[e,ak]at hv'
 obtain⟨b,hb,rfl⟩:=Option.map_eq_some_iff.mp hv'
 have hg:bs.getD i false=b:=by rw[aB,hb] <;> rfl
 have Sz:Q (bs.getD i false) s:=hq
 rw[hg]at Sz
 exact cQ Sz
theorem all_range:∀bs:List Bool,(az bs.length).all (λ i=>bs.getD i false)=bs.all id
 |[]=>rfl
 |b::bs=>by
  rw[aD,List.range_succ_eq_map,gx,cJ,gx,<-all_range bs]
  all_goals rfl
section
variable{X:Cx}
def aey(K:ah):List V->Hp->VK->Prop:=λ vs H Q=>∃(a:ag) (bs:List Bool),vs=[V.ref a]/\nA K H a (bs.map V.bl)/\Q (.bl (bs.all id)) H
theorem B_(hc:X.calm=true):zP X (.builtin "all") (aey X.K):=by
 intro pins s σ H vs us Q I r h
 obtain⟨a,bs,rfl,hs,q⟩:=h
 obtain⟨oh,rv,hl,_⟩:=I.list hs
 rw[Vals.Zu r]
 have hb:=rv.bls
 refine call_all_walk (Wo hl.isList λ s₂ e2 st xG=>?_)
 subst e2
 refine⟨_,_,_,_,_,_,_,rfl,Walks.list (A:=X.A.in1) (I.ok.hd hc) _ a xG oh.toArray,st,ND hb,λ h' tk hk=>?_⟩
 refine⟨.bl _,H,I.kept λ b o eo=>hk b o (λ abK=>?_) (Heap.get?_push_of_some _ eo),?_,q⟩
 ·rcases List.mem_cons.mp abK with e1|abK
  ·exact absurd (e1 ▸ Heap.lt_size eo) (cY _)
  ·cases abK
 ·show Value.bool _=Value.bool _
  rw[<-all_range,hb,aL,aa]
end
mutual
inductive Dp (K:ah) (H:Hp):V->jw->Prop
 |qt:Dp K H .qt .none
 |bl (b:Bool):Dp K H (.bl b) (.bool b)
 |int (i:Int):Dp K H (.int i) (.int i)
 |str (x:Str):Dp K H (.str x) (.str x)
 |lst {a:ag} {xs:List V} {ds:List jw}:nA K H a xs->HG K H xs ds->Dp K H (.ref a) (.list ds)
 |tup {a:ag} {xs:List V} {ds:List jw}:BG K H a xs->HG K H xs ds->Dp K H (.ref a) (.tuple ds)
inductive HG (K:ah) (H:Hp):List V->List jw->Prop
 |nil:HG K H [] []
 |cons {v:V} {vs:List V} {d:jw} {ds:List jw}:Dp K H v d->HG K H vs ds->HG K H (v::vs) (d::ds)
end
section
variable{X:Cx}{pins:List (ag×Obj)}{σ:St}{H:Hp}{s:au}
mutual
theorem Dp.reads(I:Inv X pins σ H s):∀(d:jw) (v:V) (u:ao),Dp X.K H v d->RelV v u->∃as,Reads s.heap u d as
 | .none,_,_,h,r=>by
  cases h
  cases r
  exact⟨_,Reads.none⟩
 | .bool b,_,_,h,r=>by
  cases h
  cases r
  exact⟨_,Reads.bool b⟩
 | .int i,_,_,h,r=>by
  cases h
  obtain⟨t,rfl⟩:=r
  exact⟨_,Reads.int i t⟩
 | .str x,_,_,h,r=>by
  cases h
  obtain⟨t,rfl⟩:=r
  exact⟨_,Reads.str x t⟩
 | .list ds,_,_,h,r=>by
  cases h with
  |lst hs ha=>
   cases r
   obtain⟨oh,rv,⟨o,n,ho,hc,_,hd⟩,_⟩:=I.list hs
   obtain⟨as,hr⟩:=Dp.readsAll I ds _ oh ha rv
   exact⟨_,Reads.list ho hc hd hr⟩
 | .tuple ds,_,_,h,r=>by
  cases h with
  |tup hs ha=>
   cases r
   obtain⟨oh,rv,⟨o,ho,hc,n,hd⟩,_⟩:=I.tuple hs
   obtain⟨as,hr⟩:=Dp.readsAll I ds _ oh ha rv
   exact⟨_,Reads.tuple ho hc hd hr⟩
 | .dict _,_,_,h,_=>by cases h
theorem Dp.readsAll(I:Inv X pins σ H s):∀(ds:List jw) (vs:List V) (us:List ao),HG X.K H vs ds->Vals vs us->∃as,ReadsAll s.heap us ds as
 |[],_,_,h,r=>by
  cases h
  cases r
  exact⟨_,ReadsAll.nil⟩
 |d::ds,_,_,h,r=>by
  cases h with
  |cons h1 h2=>
   cases r with
   |cons r1 r2=>
    obtain⟨as,q1⟩:=Dp.reads I d _ _ h1 r1
    obtain⟨bs,q2⟩:=Dp.readsAll I ds _ _ h2 r2
    exact⟨_,ReadsAll.cons q1 q2⟩
end
end
section
variable{X:Cx}
def aez(K:ah):R2:=λ x y H Q=>∃d e,Dp K H x d/\Dp K H y e/\SeqAt.shaped d=true/\SeqAt.shaped e=true/\Q (.bl (!PyData.eqv d e)) H
theorem abL(hu:X.A.units+64<jE):EB X (cS .NotEq) (aez X.K):=by
 intro pins s σ H x y v u Q I rx ry h
 obtain⟨d,e,hd,he,sd,se,q⟩:=h
 obtain⟨as,r1⟩:=Dp.reads I d x v hd rx
 obtain⟨bs,r2⟩:=Dp.reads I e y u he ry
 exact SeqAt.compareNe_shaped r1 r2 sd se hu ⟨.bl _,H,I,rfl,q⟩
end
end L2
namespace L2
open PySem PySem.Spec PyProof.Rows
abbrev Ca(h:bF)(c:ag)(v:Option ao):Prop:=h.IsCell c v
def aeA(scope sc:eP):eP:=
 { scope with names:=scope.names.map λ(n,k)=>if(k == .free && sc.kind == .function && sc.names.lookup n == some .cell)then(n,.cell)else(n,k) }
def pP(cells:List (Str×ag)):List (Str×dF)->List (Str×ag)->List (Str×ag)
 |[],acc=>acc
 |(n,k)::r,acc=>if k == .free then pP cells r ((n,(cells.lookup n).getD 0)::acc)else pP cells r acc
theorem Dt(env:Env)(f:Str×dF->List (Str×ag)->Sem (ForInStep (List (Str×ag))))
  (hf:∀n k c,f (n,k) c=if k == .free then(do let a <-cellOf env n;pure (.yield ((n,a)::c)))else pure (.yield c)):
  ∀(names:List (Str×dF)) (acc:List (Str×ag)),(∀y∈names,y.2= .free->∃c,env.cells.lookup y.1=some c)->forIn names acc f=pure (pP env.cells names acc)
 |[],acc,_=>by rw[ia];rfl
 |(n,k)::r,acc,h=>by
  rw[je,hf]
  have ih:=λ acc=>Dt env f hf r acc λ y hy=>h y (aP _ hy)
  unfold pP
  by_cases hk:(k == NameKind.free)=true
  ·rw[if_pos hk,if_pos hk]
   obtain⟨c,hc⟩:=h (n,k) bU (by simpa using hk)
   have e:cellOf env n=pure c:=by unfold cellOf;rw[hc]
   rw[e]
   have e2:(env.cells.lookup n).getD 0=c:=by rw[hc];rfl
   rw[e2]
   exact ih _
  ·rw[if_neg hk,if_neg hk]
   exact ih _
theorem Qk{scope:eP}{env:Env}(h:∀y∈scope.names,y.2= .free->∃c,env.cells.lookup y.1=some c):closureFor scope env=pure (pP env.cells scope.names []):=by
 simp only[closureFor]
 rw[Dt env _ (λ n k c=>rfl) scope.names [] h]
 rfl
theorem mem_lookup{α:Type}:∀{l:List (Str×α)} {n:Str} {c:α},(n,c)∈l->∃c',l.lookup n=some c'
 |(k,v)::r,n,c,h=>by
  rw[dH]
  cases hb:n == k with
  |true=>exact⟨_,rfl⟩
  |false=>
   rcases List.mem_cons.mp h with e|h
   ·cases e;simp at hb
   ·exact mem_lookup h
theorem wo{cells:List (Str×ag)}:∀{names:List (Str×dF)} {acc:List (Str×ag)} {n:Str} {c:ag},(n,c)∈pP cells names acc->(n,c)∈acc\/((n,.free)∈names/\c=(cells.lookup n).getD 0)
 |[],_,_,_,h=>.inl h
 |(m,k)::r,acc,n,c,h=>by
  unfold pP at h
  split at h
  ·rename_i hk
   have hk:k= .free:=by simpa using hk
   rcases wo h with h|⟨h1,h2⟩
   ·rcases List.mem_cons.mp h with e|h
    ·cases e;exact .inr ⟨hk ▸ bU,rfl⟩
    ·exact .inl h
   ·exact .inr ⟨aP _ h1,h2⟩
  ·rcases wo h with h|⟨h1,h2⟩
   ·exact .inl h
   ·exact .inr ⟨aP _ h1,h2⟩
theorem zR{cells:List (Str×ag)}:∀{names:List (Str×dF)} {acc:List (Str×ag)} {p:Str×ag},p∈acc->p∈pP cells names acc
 |[],_,_,h=>h
 |(m,k)::r,acc,p,h=>by
  unfold pP
  split
  ·exact zR (aP _ h)
  ·exact zR h
theorem zS{cells:List (Str×ag)}:∀{names:List (Str×dF)} {acc:List (Str×ag)} {n:Str},(n,.free)∈names->(n,(cells.lookup n).getD 0)∈pP cells names acc
 |(m,k)::r,acc,n,h=>by
  unfold pP
  rcases List.mem_cons.mp h with e|h
  ·cases e
   exact zR bU
  ·split
   ·exact zS h
   ·exact zS h
theorem xH:∀{names:List (Str×dF)} {h:bF} {acc:List (Str×ag)} {x:Str} {c:ag},(x,c)∈cF h.objs.size names acc->
  (x,c)∈acc\/((x,.cell)∈names/\h.objs.size<=c/\Ca (gq h names) c none)
 |[],_,_,_,_,h=>.inl h
 |(n,k)::r,h,acc,x,c,hm=>by
  unfold cF at hm
  unfold gq
  split at hm
  ·rename_i hk
   rw[if_pos hk]
   have hk:k= .cell:=by simpa using hk
   rw[<-Heap.size_push h { cls:=.type "cell",data:=.cell none }]at hm
   rcases xH hm with hm|⟨h1,h2,h3⟩
   ·rcases List.mem_cons.mp hm with e|hm
    ·cases e
     exact .inr ⟨hk ▸ bU,ax _,_,ip r _ _ _ (Heap.get?_push_size _ rfl),rfl⟩
    ·exact .inl hm
   ·rw[Heap.size_push]at h2
    exact .inr ⟨aP _ h1,gw h2,h3⟩
  ·rename_i hk
   rw[if_neg hk]
   rcases xH hm with hm|⟨h1,h2,h3⟩
   ·exact .inl hm
   ·exact .inr ⟨aP _ h1,h2,h3⟩
theorem Bc:∀{names:List (Str×dF)} {n:Nat} {acc:List (Str×ag)} {p:Str×ag},p∈acc->p∈cF n names acc
 |[],_,_,_,h=>h
 |(m,k)::r,n,acc,p,h=>by
  unfold cF
  split
  ·exact Bc (aP _ h)
  ·exact Bc h
theorem EL:∀{names:List (Str×dF)} {n:Nat} {acc:List (Str×ag)} {x:Str},(x,.cell)∈names->∃c,(x,c)∈cF n names acc
 |(m,k)::r,n,acc,x,h=>by
  unfold cF
  rcases List.mem_cons.mp h with e|h
  ·cases e
   exact⟨n,Bc bU⟩
  ·split
   ·exact EL h
   ·exact EL h
theorem EM:∀{names:List (Str×dF)} {h:bF} {acc:List (Str×ag)} {x y:Str} {c:ag},(∀p∈acc,p.2<h.objs.size)->(∀x y c,(x,c)∈acc->(y,c)∈acc->x=y)->
  (x,c)∈cF h.objs.size names acc->(y,c)∈cF h.objs.size names acc->x=y
 |[],_,_,_,_,_,_,hi,h1,h2=>hi _ _ _ h1 h2
 |(n,k)::r,h,acc,x,y,c,hl,hi,h1,h2=>by
  unfold cF at h1 h2
  split at h1
  ·rename_i hk
   rw[if_pos hk]at h2
   rw[<-Heap.size_push h { cls:=.type "cell",data:=.cell none }]at h1 h2
   refine EM (h:=h.push _) (λ p hp=>?_) (λ x y c a b=>?_) h1 h2
   ·rw[Heap.size_push]
    rcases List.mem_cons.mp hp with rfl|hp
    ·exact cM _
    ·exact iV (hl p hp)
   ·rcases List.mem_cons.mp a with e|a <;> rcases List.mem_cons.mp b with e'|b
    ·cases e;cases e';rfl
    ·cases e;exact absurd (hl _ b) (cY _)
    ·cases e';exact absurd (hl _ a) (cY _)
    ·exact hi _ _ _ a b
  ·rename_i hk
   rw[if_neg hk]at h2
   exact EM hl hi h1 h2
theorem NF{M:jF}{A:bV}{E:ao->au->Prop}{s:au}{scope:eP}{globals:ag}{closure:List (Str×ag)}{qual:Str}{func:Option ag}{code:ao}{around:Env}{builtins:ag}{Q:Env->au->Prop}
  (h:Q (newEnv scope s.heap.objs.size globals (cF (s.heap.objs.size+1) scope.names closure) qual func code (some around) builtins)
   { s with heap:=gq (s.heap.push { cls:=.type "dict",data:=.dict #[] }) scope.names }):
  aT M A (mL scope globals closure [] qual func code (some around) builtins) Q E s:=by
 simp only[mL,j6,if_true]
 refine aq (wpAny_alloc ?_)
 refine aq (wpAny_layCells _ (λ n k c=>rfl) scope.names closure _ _ ?_)
 rw[show({ s with heap:=s.heap.push { cls:=.type "dict",data:=.dict #[] } }:au).heap.objs.size=s.heap.objs.size+1 from Heap.size_push ..]
 rw[ia]
 exact aq (aM (aM h))
theorem zT{sc:eP}:∀{names:List (Str×dF)} {x:Str} {k:dF},
  (names.map λ(n,k)=>if(k == NameKind.free && sc.kind == .function && sc.names.lookup n == some .cell)then(n,NameKind.cell)else(n,k)).lookup x=some k->
  ∃k',names.lookup x=some k'/\(k=k'\/(k'= .free/\k= .cell))
 |[],_,_,h=>by simp at h
 |(n,k₀)::r,x,k,h=>by
  have ih:=@zT sc r x k
  have h':dv x ((if(k₀ == NameKind.free && sc.kind == .function && sc.names.lookup n == some .cell)=true then(n,NameKind.cell)else(n,k₀))::(r.map _))=some k:=h
  cases hx:x == n with
  |true=>
   simp only[dH,hx]
   by_cases hc:(k₀ == NameKind.free && sc.kind == .function && sc.names.lookup n == some .cell)=true
   ·rw[if_pos hc]at h'
    simp only[dH,hx]at h'
    cases h'
    simp only[bg,beq_iff_eq]at hc
    exact⟨k₀,rfl,.inr ⟨hc.1.1,rfl⟩⟩
   ·rw[if_neg hc]at h'
    simp only[dH,hx]at h'
    cases h'
    exact⟨_,rfl,.inl rfl⟩
  |false=>
   simp only[dH,hx]
   by_cases hc:(k₀ == NameKind.free && sc.kind == .function && sc.names.lookup n == some .cell)=true
   ·rw[if_pos hc]at h'
    simp only[dH,hx]at h'
    exact ih h'
   ·rw[if_neg hc]at h'
    simp only[dH,hx]at h'
    exact ih h'
structure pz(N:List Str)(sc scope:eP)(own:List (Str×Nat)):Prop where
 kind:scope.kind= .function
 uniq:∀y∈scope.names,scope.names.lookup y.1=some y.2
 ix:∀p∈own,N[p.2]? =some p.1
 free:∀y∈scope.names,y.2= .free->sc.names.lookup y.1=some .cell\/sc.names.lookup y.1=some .free
 own:∀y∈scope.names,y.2= .local\/y.2= .cell->y.1∈own.map (·.1)\/y.1∉N
def wipe(σ:St):List Nat->St
 |[]=>σ
 |v::vs=>(wipe σ vs).set v none
theorem zU(σ:St):∀vs:List Nat,(wipe σ vs).length=σ.length
 |[]=>rfl
 |v::vs=>by unfold wipe;rw[fG,zU σ vs]
theorem EN{σ:St}{i:Nat}{x:V}:∀{vs:List Nat},(wipe σ vs)[i]? =some (some x)->σ[i]? =some (some x)/\i∉vs
 |[],h=>⟨h,by simp⟩
 |v::vs,h=>by
  unfold wipe at h
  by_cases hi:v=i
  ·subst hi
   by_cases hv:v<(wipe σ vs).length
   ·rw[cP hv]at h;cases h
   ·rw[aI (by simpa using hv)]at h;cases h
  ·rw[fE hi]at h
   obtain⟨h1,h2⟩:=EN h
   exact⟨h1,by simp only[dh,not_or];exact⟨λ e=>hi e.symm,h2⟩⟩
abbrev Cx.LO(X:Cx)(s:au)(H:Hp)(scope:eP)(sx:Env)(fp:List ag):Cx:={ X with JY:=s,H_0:=H,env:=sx,outer:=X.stack,ex:=fp,fn:=λ x=>scope.names.lookup x == some .cell,pn:=[],xe:=λ _ _=>False }
section
variable{X:Cx}{pins:List (ag×Obj)}{σ:St}{H:Hp}{s:au}
theorem NG{scope:eP}{own:List (Str×Nat)}{fp:List ag}(I:Inv X pins σ H s)(ok:pz X.N X.env.scope scope own)(hN:X.N.Nodup)(hfp:∀b∈fp,GU X pins H b/\b<s.heap.objs.size):
  Inv (X.LO s H scope (eg scope (cF (s.heap.objs.size+1) scope.names (pP X.env.cells scope.names [])) s.heap.objs.size X.env) fp) [] (wipe σ (own.map (·.2))) H { s with heap:=gq (s.heap.push { cls:=.type "dict",data:=.dict #[] }) scope.names }:=by
 have Km:∀y∈scope.names,y.2= .free->∃c,X.env.cells.lookup y.1=some c:=λ y hy e=>by
  rcases ok.free y hy e with k|k
  ·exact I.ok.has _ (.inl k)
  ·exact I.ok.has _ (.inr k)
 generalize NH:eg scope (cF (s.heap.objs.size+1) scope.names (pP X.env.cells scope.names [])) s.heap.objs.size X.env=sx
 have kp:∀b o,s.heap.get? b=some o->(gq (s.heap.push { cls:=.type "dict",data:=.dict #[] }) scope.names).get? b=some o:=λ b o e=>ip _ _ _ _ (Heap.get?_push_of_some _ e)
 have hL:sx.locals=s.heap.objs.size:=by rw[<-NH];rfl
 have EE:sx.cells=cF (s.heap.objs.size+1) scope.names (pP X.env.cells scope.names []):=by rw[<-NH];rfl
 have hsc:sx.scope=aeA scope X.env.scope:=by rw[<-NH];rfl
 rw[<-Heap.size_push s.heap { cls:=.type "dict",data:=.dict #[] }]at EE
 have cm:∀{y c},(y,c)∈pP X.env.cells scope.names []->X.env.cells.lookup y=some c/\c<s.heap.objs.size:=λ{y c} hm=>by
  rcases wo hm with hm|⟨h1,rfl⟩
  ·cases hm
  ·obtain⟨c,hc⟩:=Km _ h1 rfl
   rw[hc]
   obtain⟨w,z⟩:=I.cell _ _ hc
   exact⟨rfl,z.lt⟩
 have mem:∀{y c},sx.cells.lookup y=some c->(X.env.cells.lookup y=some c/\c<s.heap.objs.size)\/(s.heap.objs.size+1<=c/\Ca (gq (s.heap.push { cls:=.type "dict",data:=.dict #[] }) scope.names) c none):=λ{y c} e=>by
  rw[EE]at e
  rcases xH (bG e)with hm|⟨_,h2,h3⟩
  ·exact .inl (cm hm)
  ·rw[Heap.size_push]at h2;exact .inr ⟨h2,h3⟩
 have look:∀{y},scope.names.lookup y=some .free->∃c,sx.cells.lookup y=some c/\X.env.cells.lookup y=some c:=λ{y} hl=>by
  have hy:(y,NameKind.free)∈scope.names:=bG hl
  obtain⟨c',e'⟩:=mem_lookup (Bc (names:=scope.names) (n:=(s.heap.push { cls:=.type "dict",data:=.dict #[] }).objs.size) (zS (cells:=X.env.cells) (acc:=[]) hy))
  rw[<-EE]at e'
  refine⟨c',e',?_⟩
  rw[EE]at e'
  rcases xH (bG e')with hm|⟨h1,_,_⟩
  ·exact(cm hm).1
  ·have:=ok.uniq _ h1
   rw[hl]at this;cases this
 have okB:(X.LO s H scope sx fp).Ok:=by
  refine⟨I.ok.mod,by show sx.scope.kind=_;rw[hsc];exact ok.kind,by show sx.globals=_;rw[<-NH];exact I.ok.glob,by show sx.builtins=_;rw[<-NH];exact I.ok.blt,by show s.heap.objs.size<=sx.locals;rw[hL];exact ax _,
   λ y z c e1 e2=>?_,λ y hy=>?_,λ y c z e=>?_,I.ok.hd,I.ok.frames,.inl rfl,λ b hb=>⟨?_,λ y c e z=>?_⟩,I.bs,aV I.ok.Sl I.sz,λ b o e hb=>?_,λ b hb z=>?_,I.stack,I.Lz⟩
  ·have e1:sx.cells.lookup y=some c:=e1
   have e2:sx.cells.lookup z=some c:=e2
   rw[EE]at e1 e2
   refine EM (λ p hp=>?_) (λ y z c a b=>I.ok.inj y z c (cm a).1 (cm b).1) (bG e1) (bG e2)
   rw[Heap.size_push]
   exact iV (cm (y:=p.1) (c:=p.2) hp).2
  ·show ∃c,sx.cells.lookup y=some c
   have key:∀k,sx.kindOf y=some k->(k= .cell\/k= .free)->∃c,sx.cells.lookup y=some c:=λ k hk hk'=>by
    unfold Env.kindOf at hk
    rw[hsc]at hk
    obtain⟨k',e,r⟩:=zT hk
    have:k'= .cell\/k'= .free:=by
     rcases r with rfl|⟨rfl,_⟩
     ·exact hk'
     ·exact .inr rfl
    rcases this with rfl|rfl
    ·obtain⟨c,hm⟩:=EL (n:=(s.heap.push { cls:=.type "dict",data:=.dict #[] }).objs.size) (acc:=pP X.env.cells scope.names []) (bG e)
     obtain⟨c',e'⟩:=mem_lookup hm
     exact⟨c',by rw[EE];exact e'⟩
    ·obtain⟨c,h1,_⟩:=look e
     exact⟨c,h1⟩
   rcases hy with hy|hy
   ·exact key _ hy (.inl rfl)
   ·exact key _ hy (.inr rfl)
  ·have z:(scope.names.lookup y == some NameKind.cell)=true:=z
   have z:scope.names.lookup y=some .cell:=by simpa using z
   have e:sx.cells.lookup y=some c:=e
   rw[EE]at e
   rcases xH (bG e)with hm|⟨_,h2,_⟩
   ·rcases wo hm with hm|⟨h1,_⟩
    ·cases hm
    ·have q:=ok.uniq _ h1
     rw[z]at q;cases q
   ·rw[Heap.size_push]at h2
    exact gw h2
  ·show b≠sx.locals
   rw[hL];exact bK (hfp b hb).2
  ·have e:sx.cells.lookup y=some c:=e
   rcases mem e with⟨h1,_⟩|⟨h1,_⟩
   ·exact(hfp b hb).1.2.2.2.2.1 y c h1 z
   ·have h2:s.heap.objs.size+1<=b:=by rw[<-z];exact h1
    exact absurd (aS (hfp b hb).2 (gw h2)) (cY _)
  ·rcases(hfp b hb).1.2.2.2.1 with z|z
   ·exact I.ok.Nt b o e z
   ·exact absurd (aS (Heap.lt_size e) (aV I.ok.Sl z)) (cY _)
  ·rcases List.mem_cons.mp (I.PR b z)with z|z
   ·exact(hfp b hb).1.2.1 z
   ·exact(hfp b hb).1.2.2.1 z
 refine⟨okB,rfl,I.bare,Un.kept kp,⟨λ _=>none,?_,λ i y av e1 e2 e3=>?_⟩,λ y c e=>?_,?_,λ y c e=>?_,λ p hp=>?_,I.oW.kept kp,by rw[zU];exact I.len⟩
 ·show Heap.Ns _ sx.locals _
  rw[hL]
  exact Heap.Ns.keeps (Heap.Ns.new ..) λ b o e=>ip _ _ _ _ e
 ·obtain⟨e2,xG⟩:=EN e2
  have JT:scope.names.lookup y=some .free/\(sx.kindOf y=some .cell\/sx.kindOf y=some .free):=by
   have key:∀k,sx.scope.names.lookup y=some k->k= .local\/k= .cell\/k= .free->scope.names.lookup y=some .free/\(sx.kindOf y=some .cell\/sx.kindOf y=some .free):=λ k hk hk'=>by
    have hk0:=hk
    rw[hsc]at hk
    obtain⟨k',e,r⟩:=zT hk
    have no:¬ (k'= .local\/k'= .cell):=λ hh=>by
     rcases ok.own _ (bG e) hh with e'|e'
     ·obtain⟨p,hp,hpy⟩:=List.mem_map.mp e'
      have e3:=ok.ix p hp
      have:p.1=y:=hpy
      rw[this]at e3
      exact xG (List.mem_map.mpr ⟨p,hp,Dn hN e3 e1⟩)
     ·exact e' (aC e1)
    rcases r with rfl|⟨rfl,rfl⟩
    ·rcases hk' with rfl|rfl|rfl
     ·exact absurd (.inl rfl) no
     ·exact absurd (.inr rfl) no
     ·exact⟨e,.inr hk0⟩
    ·exact⟨e,.inl hk0⟩
   have e3:Vis sx.scope y:=e3
   rcases e3 with e3|e3|e3
   ·exact key _ e3 (.inl rfl)
   ·exact key _ e3 (.inr (.inl rfl))
   ·exact key _ e3 (.inr (.inr rfl))
  obtain⟨m,hn,hl⟩:=I.loc
  have aeB:Vis X.env.scope y:=(ok.free _ (bG JT.1) rfl).elim (λ k=>.inr (.inl k)) (λ k=>.inr (.inr k))
  obtain⟨w,r,q⟩:=hl i y av e1 e2 aeB
  refine⟨w,r,.inr ⟨JT.2,?_⟩⟩
  obtain⟨c,h1,h2⟩:=look JT.1
  rcases q with⟨k,_⟩|⟨_,c',e',z⟩
  ·have k:X.env.scope.names.lookup y=some .local:=k
   rcases ok.free _ (bG JT.1) rfl with k'|k' <;> rw[show X.env.scope.names.lookup y=_ from k']at k <;> cases k
  ·rw[h2]at e';cases e'
   exact⟨c,h1,z.keeps kp⟩
 ·have e:sx.cells.lookup y=some c:=e
  rcases mem e with⟨h1,_⟩|⟨_,z⟩
  ·obtain⟨w,z⟩:=I.cell y c h1
   exact⟨w,z.keeps kp⟩
  ·exact⟨_,z⟩
 ·show H sx.locals=none
  rw[hL];exact I.oW.fresh (ax _)
 ·have e:sx.cells.lookup y=some c:=e
  rcases mem e with⟨h1,_⟩|⟨h1,_⟩
  ·exact I.uB y c h1
  ·exact I.oW.fresh (gw h1)
 ·exact absurd (show p∈([]:List (ag×Obj))++[]from hp) (by simp)
theorem abM{E:ao->au->Prop}{D:ag}{xs:List V}{y:V}{v:ao}{Q:ao->au->Prop}(I:Inv X pins σ H s)(hD:H D=some (.lst xs))(hz:xs.length<ay)(r:RelV y v)
  (h:∀s',Inv X pins σ (upd H D (.lst (xs++[y]))) s'->Q .none s'):aT (aU X.prog X.w) X.A (call (.builtin "list.append") [.ref D,v]) Q E s:=by
 obtain⟨VU,oh,n,ri,e⟩:=I.oW D _ hD
 have hl:=ri.length
 refine append_at (hsz:=by rw[aL];omega) e λ h' sb Sm=>?_
 refine h { s with heap:=h' } (I.write (t':=s.toks) (by rw[hD];trivial) (.inl rfl) (λ b u hb q=>(sb.2 b hb).trans q) ⟨_,Sm⟩ ⟨by rw[aw];exact hz,oh++[v],n+1,ri.append (.cons r .nil),?_⟩)
 rw[Sm]
 simp
def PTs(X:Cx)(ifs:List bJ)(t:TT):Prop:=
 ∀(pins:List (ag×Obj)) (s:au) (σ:St) (H:Hp) (Q:Bool->Hp->Prop),Inv X pins σ H s->t σ H Q->
  aT (aU X.prog X.w) X.A (forIn ifs true λ c r=>if r=true then do let ok <-kN c X.env (cw c X.env);pure (ForInStep.yield ok)else pure (ForInStep.yield r)) (TP X pins σ Q) X.xe s
def ado:TT:=λ _ H Q=>Q true H
theorem oP:PTs X [] ado:=λ _ _ _ H _ I h=>wpAny_tests_nil ⟨H,I,h⟩
theorem LP{c:bJ}{t:TT}(h:PT X c t):PTs X [c] t:=λ pins s σ H Q I hw=>wpAny_tests_one (h pins s σ H Q I hw)
end
theorem Ul{α:Type}{t:Sem α}{Q Q':α->au->Prop}{M:jF}{A:bV}{E:ao->au->Prop}{s:au}(h:aT M A t Q (λ _ _=>False) s)(hQ:∀a s,Q a s->Q' a s):aT M A t Q' E s:=cR h hQ λ _ _ z=>False.elim z
theorem LQ{prog:aK}{w:bj}{A:bV}{R:lS->au->Prop}{s:au}{elt target iter:bJ}{ifs:List bJ}{scope:eP}{pos:Pos}{it acc:ao}{env:Env}(I:Nat->au->Prop)
  (turn:∀n s,I n s->aT (aU prog w) A (jS it) (λ r s₁=>match r with
   |none=>R (.ok .next) s₁
   |some v=>aT (aU prog w) A (iq target it v) (λ _ s₁'=>aT (aU prog w) A (jV target env v) (λ _ s₂=>
     aT (aU prog w) A (forIn ifs true λ c r=>if r=true then do let ok <-kN c env (cw c env);pure (ForInStep.yield ok)else pure (ForInStep.yield r)) (λ ok s₃=>
      if ok=true then aT (aU prog w) A (cw elt env) (λ x s₄=>
       aT (aU prog w) A (call (.builtin "list.append") [acc,x]) (λ _ s₅=>∃m,m<n/\I m s₅) (jJ (aU prog w) A env λ e s'=>R (.error e) s') s₄) (jJ (aU prog w) A env λ e s'=>R (.error e) s') s₃
      else ∃m,m<n/\I m s₃) (jJ (aU prog w) A env λ e s'=>R (.error e) s') s₂) (jJ (aU prog w) A env λ e s'=>R (.error e) s') s₁') (jJ (aU prog w) A env λ e s'=>R (.error e) s') s₁) (jJ (aU prog w) A env λ e s'=>R (.error e) s') s)
  (n:Nat)(h:I n s):
  il (aU prog w) A (.compLoop (.ListComp elt [⟨target,iter,ifs,0⟩] scope pos) 0 it acc env) R s:=by
 refine codeAny_loop rfl I (λ n s hI=>?_) n h
 show aT _ A ((compTurn (.ListComp elt [⟨target,iter,ifs,0⟩] scope pos) 0 it acc env).onRaise (λ x=>do mq x env;theTreesLotGoes x)) _ _ s
 refine wpAny_noted ?_
 rw[compTurn_list]
 refine aq (gN (aq (cR (turn n s hI) (λ r s₁ h₁=>?_) λ _ _ h'=>h')))
 cases r with
 |none=>exact aM h₁
 |some v=>
  refine aq (cR h₁ (λ _ s₁' h₁'=>?_) λ _ _ h'=>h')
  refine aq (cR h₁' (λ _ s₂ h₂=>aq (cR h₂ (λ ok s₃ h₃=>?_) λ _ _ h'=>h')) λ _ _ h'=>h')
  cases ok with
  |false=>exact aM ⟨rfl,h₃⟩
  |true=>
   exact aq (aq (cR h₃ (λ x s₄ h₄=>aq (cR h₄ (λ _ s₅ h₅=>aM (aM ⟨rfl,h₅⟩)) λ _ _ h'=>h')) λ _ _ h'=>h'))
section
variable{X:Cx}
def tLc(wi:TI)(g:TG)(tt:TT)(te:TE)(vs:List Nat):TE:=λ σ H Q=>wi σ H λ J H1=>∀D,H1 D=none->∃W:Nat->Nat->Hp->Prop,(∃m,W 0 m (upd H1 D (.lst [])))/\∀i m H,W i m H->
 (J.stop i H/\Q (.ref D) H)\/(J.go i H/\∃Nx:Hp->Prop,(∀H',Nx H'->∃m',m'<m/\W (i+1) m' H')/\∀x H',J.Ht i H x H'->g x (wipe σ vs) H' λ σ2 H2=>wipe σ2 vs=wipe σ vs/\tt σ2 H2 λ b H3=>
  if b=true then te σ2 H3 λ y H4=>∃acc,H4 D=some (.lst acc)/\acc.length<ay/\Nx (upd H4 D (.lst (acc++[y])))else Nx H3)
theorem SG{pins:List (ag×Obj)}{s:au}{σ:St}{H:Hp}{Q:VK}{elt tg iter:bJ}{ifs:List bJ}{scope:eP}{own:List (Str×Nat)}{pos pos':Pos}{wi:TI}{g:TG}{tt:TT}{te:TE}{use:Option (ao->Sem Unit)}{Qf:ao->au->Prop}
  (hc:X.calm=true)(hN:X.N.Nodup)(I:Inv X pins σ H s)(hi:PI X tg iter wi)(ok:pz X.N X.env.scope scope own)
  (hg:∀(s:au) (H:Hp) (C:ag) (cl:List (Str×ag)) (fp:List ag),PG (X.LO s H scope (eg scope cl C X.env) fp) tg g)(ht:∀(s:au) (H:Hp) (C:ag) (cl:List (Str×ag)) (fp:List ag),PTs (X.LO s H scope (eg scope cl C X.env) fp) ifs tt)
  (he:∀(s:au) (H:Hp) (C:ag) (cl:List (Str×ag)) (fp:List ag),PE (X.LO s H scope (eg scope cl C X.env) fp) elt te)(hs:∀x,gI iter X.env x=pure x)
  (h:tLc wi g tt te (own.map (·.2)) σ H Q)
  (hRR:∀D C s' m H',Inv X pins σ H' s'->Q (.ref D) H'->s'.heap.Ns C m->GU X pins H' C->mM (aU X.prog X.w) X.A X.xe use Qf (.ref D) C (.ok .next) s'):
  aT (aU X.prog X.w) X.A (mS (.ListComp elt [⟨tg,iter,ifs,0⟩] scope pos) scope X.env pos' (newList []) false (cw iter X.env) use) Qf X.xe s:=by
 have Km:∀y∈scope.names,y.2= .free->∃c,X.env.cells.lookup y.1=some c:=λ y hy e=>by
  rcases ok.free y hy e with k|k
  ·exact I.ok.has _ (.inl k)
  ·exact I.ok.has _ (.inr k)
 refine wpAny_comprehension_free (use:=use) rfl hs (Qk Km) ok.kind (λ y hy e=>by rw[ok.uniq y hy,e])
  (pK (hi pins s σ H _ I h) λ xv s1 hx=>pK hx λ itv s2 h2=>?_)
 obtain⟨it,fp,tn,J,H2,e,I2,T,st2,f2,q⟩:=h2
 subst e
 refine jj (NF ?_) (by show 0<=ay;decide)
 generalize hD:s2.heap.objs.size=D
 have hDn:H2 D=none:=I2.oW.fresh (iW hD)
 obtain⟨W,⟨m0,w0⟩,turn⟩:=q D hDn
 generalize hs3:({ s2 with heap:=s2.heap.push { cls:=.type "list",data:=.seq ([]:List ao).toArray } }:au)=s3
 have I3:Inv X pins σ (upd H2 D (.lst [])) s3:=by
  rw[<-hs3]
  refine I2.laid (t':=s2.toks) (λ b o e=>Heap.get?_push_of_some _ e) (iW hD) ⟨aE _,[],0,.nil,?_⟩
  rw[<-hD]
  exact Heap.get?_push_size _ rfl
 have h3:s3.heap=s2.heap.push { cls:=.type "list",data:=.seq ([]:List ao).toArray }:=by rw[<-hs3]
 have sz:∀b∈fp,b<s2.heap.objs.size:=λ b hb=>by
  obtain⟨o,e,_⟩:=T.obj _ _ st2 b hb
  exact Heap.lt_size e
 have f3:∀b∈fp,GU X pins (upd H2 D (.lst [])) b/\b<s3.heap.objs.size:=λ b hb=>by
  have rL:=sz b hb
  refine⟨⟨?_,(f2 b hb).2⟩,by rw[h3,Heap.size_push];exact iV rL⟩
  rw[mY (by rw[<-hD];exact bK rL)]
  exact(f2 b hb).1
 have st3:tn 0 s3.heap:=T.keep _ _ _ st2 λ b _ o e=>by rw[h3];exact Heap.get?_push_of_some _ e
 have I4:=NG I3 ok hN f3
 have pg:=hg s3 (upd H2 D (.lst [])) s3.heap.objs.size (cF (s3.heap.objs.size+1) scope.names (pP X.env.cells scope.names [])) fp
 have pt:=ht s3 (upd H2 D (.lst [])) s3.heap.objs.size (cF (s3.heap.objs.size+1) scope.names (pP X.env.cells scope.names [])) fp
 have pe:=he s3 (upd H2 D (.lst [])) s3.heap.objs.size (cF (s3.heap.objs.size+1) scope.names (pP X.env.cells scope.names [])) fp
 show il _ _ (.compStart (.ListComp elt [⟨tg,iter,ifs,0⟩] scope pos) 0 (.ref it) (.ref D) (eg scope (cF (s3.heap.objs.size+1) scope.names (pP X.env.cells scope.names [])) s3.heap.objs.size X.env)) (mM (aU X.prog X.w) X.A X.xe use Qf (.ref D) s3.heap.objs.size) { s3 with heap:=gq (s3.heap.push { cls:=.type "dict",data:=.dict #[] }) scope.names }
 have nfp:∀b∈fp,(upd H2 D (.lst [])) b=none:=λ b hb=>(f3 b hb).1.1
 generalize hce:eg scope (cF (s3.heap.objs.size+1) scope.names (pP X.env.cells scope.names [])) s3.heap.objs.size X.env=ce at I4 pg pt pe ⊢
 have cL:ce.locals=s3.heap.objs.size:=by subst hce;rfl
 generalize hH3:upd H2 D (.lst [])=H3 at I3 I4 pg pt pe w0 nfp f3
 generalize hs4:({ s3 with heap:=gq (s3.heap.push { cls:=.type "dict",data:=.dict #[] }) scope.names }:au)=s4 at I4 ⊢
 have st4:tn 0 s4.heap:=T.keep _ _ _ st3 λ b _ o e=>by rw[<-hs4];exact ip _ _ _ _ (Heap.get?_push_of_some _ e)
 have Qa:∀{σ':St} {H':Hp} {s':au},Inv (X.LO s3 H3 scope ce fp) [] σ' H' s'->(∀b∈fp,H' b=none)->∀b∈fp,GU (X.LO s3 H3 scope ce fp) [] H' b:=λ{σ' H' s'} I' hn b hb=>
  ⟨hn b hb,(I'.ok.exf b hb).1,I'.ok.Nu b hb,.inl hb,λ x c e=>(I'.ok.exf b hb).2 x c e,λ p hp=>absurd (show p∈([]:List (ag×Obj))++[]from hp) (by simp)⟩
 have loop:il (aU X.prog X.w) X.A (.compLoop (.ListComp elt [⟨tg,iter,ifs,0⟩] scope pos) 0 (.ref it) (.ref D) ce) (mM (aU X.prog X.w) X.A X.xe use Qf (.ref D) s3.heap.objs.size) s4:=by
  refine LQ (λ n s'=>∃i H',Inv (X.LO s3 H3 scope ce fp) [] (wipe σ (own.map (·.2))) H' s'/\tn i s'.heap/\(∀b∈fp,H' b=none)/\W i n H') ?_ m0 ⟨0,H3,I4,st4,nfp,w0⟩
  rintro n s5 ⟨i,H5,I5,st5,n5,w5⟩
  rcases turn i n H5 w5 with⟨stop,qq⟩|⟨go,Nx,hNx,step⟩
  ·have td:=T.done (X.LO s3 H3 scope ce fp) rfl rfl rfl hc i [] s5 _ H5 (λ _ _=>False) I5 (Qa I5 n5) st5 stop
   refine Ul td λ r s6 ⟨hr,I6⟩=>?_
   subst hr
   have I7:Inv X pins σ H5 s6:=I3.aaT (ch:=fp) I6.os I6.base I6.oW I6.bare λ b hb=>⟨(f3 b hb).1.2.2.2.1,(f3 b hb).1.2.1,(f3 b hb).1.2.2.2.2.1,(f3 b hb).1.2.2.2.2.2⟩
   have nC:H5 s3.heap.objs.size=none:=by
    have z:H5 ce.locals=none:=I6.free
    rw[cL]at z
    exact z
   obtain⟨m,hn,_⟩:=I6.loc
   have hn:s6.heap.Ns ce.locals m:=hn
   rw[cL]at hn
   exact hRR D s3.heap.objs.size s6 m H5 I7 qq hn (I3.PZ (ax _) nC)
  ·have ti:=T.item (X.LO s3 H3 scope ce fp) rfl rfl rfl hc i [] s5 _ H5 (λ _ _=>False) I5 (Qa I5 n5) st5 go
   refine Ul ti λ r s6 ⟨u,hr,h6⟩=>?_
   subst hr
   refine Ul h6 λ _ s7 ⟨x,H7,I7,r7,y7,st7,n7⟩=>?_
   have I7':=I7.pinned (Qa I7 n7) (T.obj _ _ st7)
   refine Ul (pg _ s7 _ H7 x u _ I7' r7 (step x H7 y7)) λ _ s8 ⟨σ8,H8,I8,hw8,q8⟩=>?_
   refine Ul (pt _ s8 σ8 H8 _ I8 q8) λ b s9 ⟨H9,I9,q9⟩=>?_
   have fin:∀{s':au} {H':Hp},Inv (X.LO s3 H3 scope ce fp) ([]++Hu fp s7.heap) σ8 H' s'->Nx H'->∃m,m<n/\∃i H',Inv (X.LO s3 H3 scope ce fp) [] (wipe σ (own.map (·.2))) H' s'/\tn i s'.heap/\(∀b∈fp,H' b=none)/\W i m H':=λ{s' H'} I' nx=>by
    obtain⟨m',hm,w'⟩:=hNx H' nx
    have adp:∀b∈fp,∀o,s7.heap.get? b=some o->s'.heap.get? b=some o/\H' b=none:=λ b hb o e=>
     let z:=I'.pin (b,o) (cz _ (cz _ (BX hb e)))
     ⟨z.1,z.2.1⟩
    have hl:(wipe σ (own.map (·.2))).length=σ8.length:=by rw[<-hw8,zU]
    refine⟨m',hm,i+1,H',(I'.xC (pins:=[])).weak hl (λ j v e=>?_),T.keep _ _ _ st7 λ b hb o e=>(adp b hb o e).1,λ b hb=>?_,w'⟩
    ·rw[<-hw8]at e
     exact(EN e).1
    ·obtain⟨o,e,_⟩:=T.obj _ _ st7 b hb
     exact(adp b hb o e).2
   cases b with
   |false=>
    simp only[kG,if_false]at q9 ⊢
    exact fin I9 q9
   |true=>
    simp only[if_true]at q9 ⊢
    refine Ul (pe _ s9 σ8 H9 _ I9 q9) λ z s10 ⟨yv,H10,I10,r10,acc,aeC,aeD,nx⟩=>?_
    exact abM (X:=X.LO s3 H3 scope ce fp) I10 aeC aeD r10 λ s11 I11=>fin I11 nx
 exact codeAny_compStart_list loop (T.self X.A 0 _ _ _ st4 loop)
theorem qp{elt tg iter:bJ}{ifs:List bJ}{scope:eP}{own:List (Str×Nat)}{pos:Pos}{wi:TI}{g:TG}{tt:TT}{te:TE}(hc:X.calm=true)(hN:X.N.Nodup)(hi:PI X tg iter wi)(ok:pz X.N X.env.scope scope own)
  (hg:∀(s:au) (H:Hp) (C:ag) (cl:List (Str×ag)) (fp:List ag),PG (X.LO s H scope (eg scope cl C X.env) fp) tg g)(ht:∀(s:au) (H:Hp) (C:ag) (cl:List (Str×ag)) (fp:List ag),PTs (X.LO s H scope (eg scope cl C X.env) fp) ifs tt)
  (he:∀(s:au) (H:Hp) (C:ag) (cl:List (Str×ag)) (fp:List ag),PE (X.LO s H scope (eg scope cl C X.env) fp) elt te)(hs:∀x,gI iter X.env x=pure x:=by intro _;rfl):
  PE X (.ListComp elt [⟨tg,iter,ifs,0⟩] scope pos) (tLc wi g tt te (own.map (·.2))):=by
 intro pins s σ H Q I h
 rw[eval_ListComp]
 refine SG hc hN I hi ok hg ht he hs h λ D C s' m H' I' q hn f=>⟨m,hn,λ VV sb=>?_⟩
 obtain⟨f0,f1,f2,f3,f4,f5⟩:=f
 exact⟨.ref D,H',I'.turned (t':=s'.toks) (λ b o hb e=>(sb.2 b hb).trans e) f0 f1 f3 f4 f5,rfl,q⟩
theorem zV{i:Nat}{y:Str}{py:Pos}{elt tg iter:bJ}{ifs:List bJ}{scope:eP}{own:List (Str×Nat)}{pos adq:Pos}{wi:TI}{g:TG}{tt:TT}{te:TE}(hc:X.calm=true)(hN:X.N.Nodup)(hy:X.N[i]? =some y)(hyl:X.env.scope.names.lookup y=some .local)
  (hsw:g8 (.ListComp elt [⟨tg,iter,ifs,0⟩] scope pos) (some (.Name y py)) adq.line X.env=pure true)(hi:PI X tg iter wi)(ok:pz X.N X.env.scope scope own)
  (hg:∀(s:au) (H:Hp) (C:ag) (cl:List (Str×ag)) (fp:List ag),PG (X.LO s H scope (eg scope cl C X.env) fp) tg g)(ht:∀(s:au) (H:Hp) (C:ag) (cl:List (Str×ag)) (fp:List ag),PTs (X.LO s H scope (eg scope cl C X.env) fp) ifs tt)
  (he:∀(s:au) (H:Hp) (C:ag) (cl:List (Str×ag)) (fp:List ag),PE (X.LO s H scope (eg scope cl C X.env) fp) elt te)(hs:∀x,gI iter X.env x=pure x:=by intro _;rfl):
  PS X (.Assign [.Name y py] (.ListComp elt [⟨tg,iter,ifs,0⟩] scope pos) adq) (abo (tLc wi g tt te (own.map (·.2))) (So i)):=by
 intro pins s σ H D I h
 rw[exec_Assign_Name_used _ _ _ _ hsw]
 refine aq (gN (aq ?_))
 show aT _ X.A (do let _ <-mS (.ListComp elt [⟨tg,iter,ifs,0⟩] scope pos) scope X.env (firstIterPos [⟨tg,iter,ifs,0⟩] pos) (newList []) false (cw iter X.env) (some (jV (.Name y py) X.env))) _ _ s
 have h:tLc wi g tt te (own.map (·.2)) σ H (λ x H1=>So i x σ H1 D.nx):=h
 refine aq (pK (SG (Qf:=λ _ s'=>SP X pins D .next s') hc hN I hi ok hg ht he hs h λ L C s' m H' I' q hn f=>?_) λ _ s' hq=>aM (aM hq))
 show aT _ _ (jV (.Name y py) X.env (.ref L)) _ _ _
 refine ma (Kl (v:=V.ref L) I' hN hy (.inl hyl) rfl (λ s2 I2 ⟨a,sb,ha⟩=>?_) (.inr hyl))
 obtain⟨f0,f1,f2,f3,f4,f5⟩:=f
 have haC:C≠a:=by
  rcases ha with z|z
  ·rw[z];exact f1
  ·exact λ e=>f4 y a z e.symm
 refine⟨m,hn.sameBut sb haC,λ h3 sb3=>?_⟩
 exact⟨_,H',I2.turned (t':=s2.toks) (λ b o hb e=>(sb3.2 b hb).trans e) f0 f1 f3 f4 f5,q⟩
end
end L2
namespace L2
open PySem PySem.Spec PyProof.Rows
section
variable{prog:aK}{w:bj}{A:bV}{R:lS->au->Prop}{s:au}{elt t0 i0 t1 i1:bJ}{afl afm:List bJ}{scope:eP}{pos:Pos}{it acc:ao}{env:Env}
end
section
variable{X:Cx}
end
end L2
namespace L2
open PySem PySem.Spec PyProof.Rows
section
variable{κ:Type}[DecidableEq κ]
def vp(oF:List (κ×V))(k:κ):Option V:=(oF.find? λ kv=>decide (kv.1=k)).map (·.2)
def putK(oF:List (κ×V))(k:κ)(v:V):List (κ×V):=
 if(oF.any λ kv=>decide (kv.1=k))=true then oF.map (λ kv=>if kv.1=k then(kv.1,v)else kv)else oF++[(k,v)]
theorem Wq{k:κ}:vp ([]:List (κ×V)) k=none:=rfl
theorem rh{p:κ×V}{r:List (κ×V)}{k:κ}(e:p.1=k):vp (p::r) k=some p.2:=by simp[vp,eJ,e]
theorem rj{p:κ×V}{r:List (κ×V)}{k:κ}(e:¬ p.1=k):vp (p::r) k=vp r k:=by simp[vp,eJ,e]
theorem Du(k:κ):∀oF:List (κ×V),(oF.any λ kv=>decide (kv.1=k))=(vp oF k).isSome
 |[]=>rfl
 |p::r=>by
  rw[eu]
  by_cases e:p.1=k
  ·simp only[rh e,decide_eq_true e,Bool.true_or,j6]
  ·rw[rj e,decide_eq_false e,Bool.false_or];exact Du k r
theorem NI(k j:κ)(y:V):∀oF:List (κ×V),vp (oF.map λ kv=>if kv.1=k then(kv.1,y)else kv) j=(vp oF j).map λ x=>if j=k then y else x
 |[]=>rfl
 |p::r=>by
  have ih:=NI k j y r
  rw[aH]
  by_cases h:p.1=k
  ·rw[if_pos h]
   by_cases e:p.1=j
   ·rw[rh (p:=(p.1,y)) e,rh e,gH,if_pos (e.symm.trans h)]
   ·rw[rj (p:=(p.1,y)) e,rj e,ih]
  ·rw[if_neg h]
   by_cases e:p.1=j
   ·rw[rh (p:=p) e,rh e,gH,if_neg (λ z=>h (e.trans z))]
   ·rw[rj (p:=p) e,rj e,ih]
theorem Kv(k j:κ)(y:V):∀oF:List (κ×V),vp oF k=none->vp (oF++[(k,y)]) j=if j=k then some y else vp oF j
 |[],_=>by
  by_cases e:k=j
  ·rw[if_pos e.symm];exact rh (p:=(k,y)) e
  ·rw[if_neg (λ z=>e z.symm)];exact rj (p:=(k,y)) e
 |p::r,hn=>by
  rw[iZ]
  have hk:¬ p.1=k:=λ z=>by rw[rh z]at hn;cases hn
  rw[rj hk]at hn
  have ih:=Kv k j y r hn
  by_cases e:p.1=j
  ·rw[rh e,rh e,if_neg (λ z=>hk (e.trans z))]
  ·rw[rj e,rj e,ih]
theorem Ws(oF:List (κ×V))(k j:κ)(y:V):vp (putK oF k y) j=if j=k then some y else vp oF j:=by
 unfold putK
 by_cases a:(oF.any λ kv=>decide (kv.1=k))=true
 ·rw[if_pos a,NI]
  rw[Du]at a
  by_cases e:j=k
  ·obtain⟨x,hx⟩:=Option.isSome_iff_exists.mp a
   rw[if_pos e,e,hx,gH,if_pos rfl]
  ·rw[if_neg e]
   cases vp oF j with
   |none=>rfl
   |some x=>rw[gH,if_neg e]
 ·rw[if_neg a]
  refine Kv k j y oF ?_
  rw[Du]at a
  cases q:vp oF k with
  |none=>rfl
  |some x=>rw[q]at a;exact(a rfl).elim
theorem FK(oF:List (κ×V))(k:κ)(v:V):(putK oF k v).length<=oF.length+1:=by
 unfold putK
 split
 ·rw[aa];omega
 ·rw[aw,aD,List.length_nil];omega
theorem wQ.EO{o:Option V}{u:Option ao}(r:wQ o u):o.isSome=u.isSome:=by
 cases o with
 |none=>cases u with
  |none=>rfl
  |some _=>exact(show False from r).elim
 |some _=>cases u with
  |none=>exact(show False from r).elim
  |some _=>rfl
theorem KV.val{oF:List (κ×V)}{vs:List (κ×ao)}(r:KV oF vs)(k:κ):wQ (vp oF k) (jk vs k):=by
 unfold KV at r
 induction r with
 |nil=>exact True.intro
 | @cons p q ps qs h t ih=>
  obtain⟨h1,h2⟩:=h
  by_cases e:p.1=k
  ·have e':q.1=k:=h1.symm.trans e
   have b:jk (q::qs) k=some q.2:=by simp[jk,eJ,e']
   rw[rh e,b];exact h2
  ·have e':¬ q.1=k:=λ z=>e (h1.trans z)
   have b:jk (q::qs) k=jk qs k:=by simp[jk,eJ,e']
   rw[rj e,b];exact ih
theorem KV.any{oF:List (κ×V)}{vs:List (κ×ao)}(r:KV oF vs)(k:κ):(oF.any λ kv=>decide (kv.1=k))=vs.any λ kv=>decide (kv.1=k):=by
 unfold KV at r
 induction r with
 |nil=>rfl
 |cons h t ih=>rw[eu,eu,ih,h.1]
theorem KV.abN{oF:List (κ×V)}{vs:List (κ×ao)}(r:KV oF vs)(k:κ){y:V}{u:ao}(ry:RelV y u):
  KV (oF.map λ kv=>if kv.1=k then(kv.1,y)else kv) (vs.map λ kv=>if kv.1=k then(kv.1,u)else kv):=by
 unfold KV at r ⊢
 induction r with
 |nil=>exact .nil
 | @cons p q ps qs h t ih=>
  rw[aH,aH]
  refine .cons ?_ ih
  obtain⟨h1,h2⟩:=h
  by_cases e:p.1=k
  ·rw[if_pos e,if_pos (h1.symm.trans e)];exact⟨h1,ry⟩
  ·rw[if_neg e,if_neg (λ z=>e (h1.trans z))];exact⟨h1,h2⟩
theorem KV.put{oF:List (κ×V)}{vs:List (κ×ao)}(r:KV oF vs)(k:κ){y:V}{u:ao}(ry:RelV y u):KV (putK oF k y) (stored vs k u):=by
 unfold putK stored
 rw[r.any k]
 by_cases e:(vs.any λ kv=>decide (kv.1=k))=true
 ·rw[if_pos e,if_pos e];exact r.abN k ry
 ·rw[if_neg e,if_neg e];exact Paired.snoc r ⟨rfl,ry⟩
theorem KV.length{oF:List (κ×V)}{vs:List (κ×ao)}(r:KV oF vs):oF.length=vs.length:=Paired.length r
end
theorem SH{P:aK}{w:bj}{k:Key}{u:ao}(r:RelV (kV k) u):(qW P w).is k u=true:=by
 cases k with
 |inl i=>obtain⟨t,e⟩:=(show ∃t,u=Value.int i t from r);subst e;exact Nq P w i t
 |inr x=>obtain⟨t,e⟩:=(show ∃t,u=Value.str x t from r);subst e;exact Nr P w x t
theorem Kw{P:aK}{w:bj}:∀{ks:List Key} {us:List ao},Vals (ks.map kV) us->ItemsAre (qW P w) ks us
 |[],_,r=>by rw[fQ]at r;cases r;exact .nil
 |k::ks,_,r=>by
  rw[aH]at r
  cases r with
  |cons h t=>exact .cons (SH h) (Kw t)
abbrev KT(H:Hp):List (List Key×V)->List (List Key×ag×ao)->Prop:=Paired λ p q=>p.1=q.1/\H q.2.1=some (.tup (p.1.map kV))/\RelV p.2 q.2.2
theorem KT.val{H:Hp}{oF:List (List Key×V)}{xs:List (List Key×ag×ao)}(r:KT H oF xs)(k:List Key):wQ (vp oF k) ((jU xs k).map (·.2)):=by
 induction r with
 |nil=>exact True.intro
 | @cons p q ps qs h t ih=>
  obtain⟨h1,_,h2⟩:=h
  by_cases e:p.1=k
  ·have e':q.1=k:=h1.symm.trans e
   have b:jU (q::qs) k=some q.2:=by simp[jU,eJ,e']
   rw[rh e,b];exact h2
  ·have e':¬ q.1=k:=λ z=>e (h1.trans z)
   have b:jU (q::qs) k=jU qs k:=by simp[jU,eJ,e']
   rw[rj e,b];exact ih
theorem KT.abN{H:Hp}{oF:List (List Key×V)}{xs:List (List Key×ag×ao)}(r:KT H oF xs)(k:List Key){y:V}{u:ao}(ry:RelV y u):
  KT H (oF.map λ kv=>if kv.1=k then(kv.1,y)else kv) (xs.map (putAt k u)):=by
 induction r with
 |nil=>exact .nil
 | @cons p q ps qs h t ih=>
  rw[aH,aH]
  refine .cons ?_ ih
  obtain⟨h1,h2,h3⟩:=h
  unfold putAt
  by_cases e:p.1=k
  ·rw[if_pos e,if_pos (h1.symm.trans e)];exact⟨h1,h2,ry⟩
  ·rw[if_neg e,if_neg (λ z=>e (h1.trans z))];exact⟨h1,h2,h3⟩
theorem KT.put{H:Hp}{oF:List (List Key×V)}{xs:List (List Key×ag×ao)}(r:KT H oF xs)(k:List Key){b:ag}{y:V}{u:ao}(hb:H b=some (.tup (k.map kV)))(ry:RelV y u):
  KT H (putK oF k y) (storedH xs k b u):=by
 have e:(oF.any λ kv=>decide (kv.1=k))=(jU xs k).isSome:=by
  rw[Du,(r.val k).EO,kh]
 unfold putK storedH
 rw[e]
 by_cases q:(jU xs k).isSome=true
 ·rw[if_pos q,if_pos q];exact r.abN k ry
 ·rw[if_neg q,if_neg q];exact Paired.snoc r ⟨rfl,hb,ry⟩
theorem KT.keeps{H H':Hp}{oF:List (List Key×V)}{xs:List (List Key×ag×ao)}(r:KT H oF xs)(ht:∀b ys,H b=some (.tup ys)->H' b=some (.tup ys)):KT H' oF xs:=
 Paired.abh r λ _ _ z=>⟨z.1,ht _ _ z.2.1,z.2.2⟩
section
variable{P:aK}{w:bj}{H:Hp}{h:bF}{a:ag}
theorem aa0{u:HO}(ok:zL P w H h)(e:Rd H a u):pN P w H h a u:=e.ok ok
theorem SJ{oF:List (Key×V)}(ok:zL P w H h)(e:Rd H a (.dK oF)):oF.length<=ay/\(a == ee)=false/\∃vs,KV oF vs/\h.DictOf (qW P w) a vs:=
 show pN P w H h a (.dK oF)from aa0 ok e
theorem ads{oF:List (Key×V)}(ok:zL P w H h)(e:H a=some (.dK oF)):oF.length<=ay/\(a == ee)=false/\∃vs,KV oF vs/\h.DictOf (qW P w) a vs:=SJ ok (.inl e)
theorem LR{ks:List Key}(ok:zL P w H h)(e:H a=some (.tup (ks.map kV))):(ju (qW P w)).is h ks a:=by
 obtain⟨_,oh,r,o,h1,h2,n,h3⟩:=(show pN P w H h a (.tup (ks.map kV))from ok a _ e)
 exact⟨o,oh.toArray,n,h1,h2,h3,by simpa using Kw r⟩
theorem SK{oF:List (List Key×V)}(ok:zL P w H h)(e:Rd H a (.dT oF)):oF.length<=ay/\(a == ee)=false/\
  ∃xs,KT H oF xs/\h.DictOfH (ju (qW P w)) a xs:=by
 obtain⟨z,y,xs,r,o,es,ep,h1,h2,h3,h4,h5⟩:=(show pN P w H h a (.dT oF)from aa0 ok e)
 refine⟨z,y,xs,r,o,es,ep,h1,h2,h3,h4,λ x hx=>?_,h5⟩
 have all:∀{l:List (List Key×V)} {m:List (List Key×ag×ao)},KT H l m->∀x∈m,(ju (qW P w)).is h x.1 x.2.1:=by
  intro l m q
  induction q with
  |nil=>intro x hx;exact nomatch hx
  | @cons p q ps qs hq t ih=>
   intro x hx
   rcases List.mem_cons.mp hx with e|hx
   ·subst e
    exact LR ok (by rw[<-hq.1];exact hq.2.1)
   ·exact ih x hx
 exact all r x hx
theorem adt{oF:List (List Key×V)}(ok:zL P w H h)(e:H a=some (.dT oF)):oF.length<=ay/\(a == ee)=false/\
  ∃xs,KT H oF xs/\h.DictOfH (ju (qW P w)) a xs:=SK ok (.inl e)
end
def J1(H:Hp)(a:ag)(y:V)(r:Option V):Prop:=
 (∃oF k,Rd H a (.dK oF)/\y=kV k/\r=vp oF k)\/∃oF k b,Rd H a (.dT oF)/\y= .ref b/\H b=some (.tup (k.map kV))/\r=vp oF k
def Wt(H:Hp)(a:ag)(y v:V)(H':Hp):Prop:=
 (∃oF k,H a=some (.dK oF)/\y=kV k/\oF.length<ay/\H'=upd H a (.dK (putK oF k v)))\/
 ∃oF k b,H a=some (.dT oF)/\y= .ref b/\H b=some (.tup (k.map kV))/\oF.length<ay/\H'=upd H a (.dT (putK oF k v))
theorem J1.k{H:Hp}{a:ag}{oF:List (Key×V)}{k:Key}(e:H a=some (.dK oF)):J1 H a (kV k) (vp oF k):=.inl ⟨oF,k,.inl e,rfl,rfl⟩
theorem Wt.k{H:Hp}{a:ag}{oF:List (Key×V)}{k:Key}{v:V}(e:H a=some (.dK oF))(hl:oF.length<ay):Wt H a (kV k) v (upd H a (.dK (putK oF k v))):=.inl ⟨oF,k,e,rfl,hl,rfl⟩
section
variable{X:Cx}{pins:List (ag×Obj)}{σ:St}{H:Hp}{s:au}{a:ag}{y v:V}{u r:ao}{o:Option V}{A:bV}{E:ao->au->Prop}
theorem Inv.big(I:Inv X pins σ H s):ee<s.heap.objs.size:=by
 have h:aR<s.heap.objs.size:=(I.mod.glob.keeps I.bk).lt
 exact iU (by decide) h
theorem Um{Q:ao->au->Prop}(hu:A.units+1<jE)(I:Inv X pins σ H s)(g:J1 H a y (some v))(ry:RelV y u)(h:∀w' s',Inv X pins σ H s'->RelV v w'->Q w' s'):
  aT (aU X.prog X.w) A (jl (.ref a) u) Q E s:=by
 rcases g with⟨oF,k,e,ey,l⟩|⟨oF,k,b,e,ey,eb,l⟩
 ·subst ey
  obtain⟨z,hd,vs,rel,dd⟩:=SJ I.oW e
  obtain⟨w',hw,wb⟩:=wQ.some_of (v:=v) (o:=jk vs k) (by rw[l];exact rel.val k)
  exact wpAny_getItem_of (SH ry) dd.mapOf hw (h w' _ (I.tok _) wb)
 ·subst ey
  cases(show u=Value.ref b from ry)
  obtain⟨z,hd,xs,rel,dd⟩:=SK I.oW e
  obtain⟨w',hw,wb⟩:=wQ.some_of (v:=v) (o:=(jU xs k).map (·.2)) (by rw[l];exact rel.val k)
  obtain⟨p,hp,Zx⟩:=Option.map_eq_some_iff.mp hw
  refine wpAny_getItem_heap (ja hu) (LR I.oW eb) dd hp ?_
  rw[Zx]
  exact h w' _ (I.tok _) wb
theorem Zy{Q:ao->au->Prop}(hu:A.units+1<jE)(I:Inv X pins σ H s)(g:J1 H a y o)(ry:RelV y u)(h:∀s',Inv X pins σ H s'->Q (.bool (!o.isSome)) s'):
  aT (aU X.prog X.w) A (cS .NotIn u (.ref a)) Q E s:=by
 rcases g with⟨oF,k,e,ey,l⟩|⟨oF,k,b,e,ey,eb,l⟩
 ·subst ey
  obtain⟨z,hd,vs,rel,dd⟩:=SJ I.oW e
  refine wpAny_notIn_of (SH ry) hd dd.mapOf ?_
  rw[<-(rel.val k).EO,<-l]
  exact h _ (I.tok _)
 ·subst ey
  cases(show u=Value.ref b from ry)
  obtain⟨z,hd,xs,rel,dd⟩:=SK I.oW e
  refine wpAny_notIn_heap (ja hu) (LR I.oW eb) hd dd ?_
  have q:=(rel.val k).EO
  rw[kh]at q
  rw[<-q,<-l]
  exact h _ (I.tok _)
theorem SM{h':bF}{t':Nat}{ob:HO}(I:Inv X pins σ H s)(mu:Mut (H a))(hs:Heap.SameBut a s.heap h')(he:∃q,h'.get? a=some q)(new:pN X.prog X.w (upd H a ob) h' a ob):
  Inv X pins σ (upd H a ob) { s with heap:=h',toks:=t' }:=
 I.write (x:=a) (e:=a) mu (.inl rfl) (λ b q hb z=>(hs.2 b hb).trans z) he new
theorem abO{P:aK}{w:bj}{H':Hp}{h':bF}{oF:List (Key×V)}{vs:List (Key×ao)}(z:oF.length<=ay)(hd:(a == ee)=false)(rel:KV oF vs)(dd:h'.DictOf (qW P w) a vs):
  pN P w H' h' a (.dK oF):=⟨z,hd,vs,rel,dd⟩
theorem Uo{H':Hp}{Q:Unit->au->Prop}(hu:A.units+1<jE)(I:Inv X pins σ H s)(g:Wt H a y v H')(ry:RelV y u)(rv:RelV v r)(h:∀s',Inv X pins σ H' s'->Q () s'):
  aT (aU X.prog X.w) A (md (.ref a) u r) Q E s:=by
 rcases g with⟨oF,k,e,ey,l,eH⟩|⟨oF,k,b,e,ey,eb,l,eH⟩
 ·subst ey eH
  obtain⟨z,hd,vs,rel,dd⟩:=ads I.oW e
  have hz:vs.length<=ay:=by rw[<-rel.length];exact z
  have hl:(putK oF k v).length<=ay:=by have:=FK oF k v;omega
  refine wpAny_setItem_pairs (hsz:=hz) (SH ry) dd λ h' dd' hs=>h _ ?_
  have he:∃q,h'.get? a=some q:=let⟨q,_,_,hq,_⟩:=dd';⟨q,hq⟩
  exact SM I (by rw[e];exact True.intro) hs he (abO hl hd (rel.put k rv) dd')
 ·subst ey eH
  cases(show u=Value.ref b from ry)
  obtain⟨z,hd,xs,rel,dd⟩:=adt I.oW e
  have hz:xs.length<=ay:=by rw[<-Paired.length rel];exact z
  have hl:(putK oF k v).length<=ay:=by have:=FK oF k v;omega
  refine wpAny_setItem_heap (hsz:=hz) (ja hu) (LR I.oW eb) dd λ h' dd' hs=>h _ ?_
  obtain⟨q,es,ep,hq,h2,h3,h4,_,h5⟩:=dd'
  refine SM I (by rw[e];exact True.intro) hs ⟨q,hq⟩ ⟨hl,hd,_,(rel.put k eb rv).keeps λ c ys ec=>?_,q,es,ep,hq,h2,h3,h4,h5⟩
  rw[mY (acM ec e (λ z=>nomatch z))]
  exact ec
end
section
variable{X:Cx}{pins:List (ag×Obj)}{σ:St}{H:Hp}{s:au}{a:ag}{oF:List (Key×V)}{k:Key}{u:ao}{A:bV}{E:ao->au->Prop}
end
def adu(i:bJ):Prop:=∀ov iv,jD i false ov iv=operate [ov,iv] (jl ov iv)
theorem Zz{prog:aK}{w:bj}{A:bV}{E:ao->au->Prop}{s:au}{env:Env}{value slice:bJ}{pos:Pos}{T id:String}{Q:ao->au->Prop}
  (hl:typeLookup (.type T) "__getitem__"=pure (some (.builtin id)))(hs:adu slice)
  (h:aT (aU prog w) A (cw value env) (λ o s₁=>aT (aU prog w) A (cw slice env) (λ i s₂=>s₂.TypeIs o T/\aT (aU prog w) A (jl o i) Q E s₂) E s₁) E s):
  aT (aU prog w) A (cw (.Subscript value slice pos) env) Q E s:=by
 refine lT (cR h (λ o s₁ h₁=>cR h₁ (λ i s₂ h₂=>?_) λ _ _ x=>x) λ _ _ x=>x)
 obtain⟨hT,h₂⟩:=h₂
 unfold ke
 refine aq ?_
 rw[getitemInPython_of_ne hT.not_modules]
 refine aq (wpAny_specialOf hT hl ?_)
 have fin:aT (aU prog w) A (jD slice false o i) (λ r s₃=>aT (aU prog w) A (letTemporaryGo value o r >>= λ _=>pure r) Q E s₃) E s₂:=by
  rw[hs o i]
  exact wpAny_operating (cR h₂ (λ r s₃ h₃=>aq (wpAny_letTemporaryGo (aM h₃))) λ _ _ x=>x)
 first
  |exact aM (aq fin)
  |exact aq (aM (aq fin))
  |exact aq fin
theorem NJ{X:Cx}{pins:List (ag×Obj)}{σ:St}{H:Hp}{s:au}{a:ag}{y:V}{o:Option V}(I:Inv X pins σ H s)(g:J1 H a y o):s.TypeIs (.ref a) "dict":=by
 rcases g with⟨oF,k,e,_,_⟩|⟨oF,k,b,e,_,_,_⟩
 ·obtain⟨_,_,vs,_,dd⟩:=SJ I.oW e
  exact dd.typeIs
 ·obtain⟨_,_,xs,_,dd⟩:=SK I.oW e
  exact dd.typeIs
def adv(td ty:TE):TE:=λ σ H Q=>td σ H λ x H1=>ty σ H1 λ y H2=>∃a v,x= .ref a/\J1 H2 a y (some v)/\Q v H2
def ZA(ty td:TE):TE:=λ σ H Q=>ty σ H λ y H1=>td σ H1 λ x H2=>∃a o,x= .ref a/\J1 H2 a y o/\Q (.bl (!o.isSome)) H2
def adw(td ty tv:TE):TS:=λ D σ H=>tv σ H λ v H1=>td σ H1 λ x H2=>ty σ H2 λ y H3=>∃a H4,x= .ref a/\Wt H3 a y v H4/\D.nx σ H4
section
variable{X:Cx}{o i e value:bJ}{pos pos' BD:Pos}{td ty tv:TE}
theorem SN(hu:X.A.units+1<jE)(ho:PE X o td)(hi:PE X i ty)(hs:adu i):PE X (.Subscript o i pos) (adv td ty):=by
 intro pins s σ H Q I h
 refine Zz PySem.F.slot_dict_getitem.lookup hs (pK (ho pins s σ H _ I h) λ u s1 ⟨x,H1,I1,rx,q1⟩=>pK (hi pins s1 σ H1 _ I1 q1) λ iv s2 ⟨y,H2,I2,ry,a,v,ex,g,q2⟩=>?_)
 subst ex
 obtain rfl:u=Value.ref a:=rx
 exact⟨NJ I2 g,Um hu I2 g ry λ w' s3 I3 wb=>⟨v,H2,I3,wb,q2⟩⟩
theorem Up(hu:X.A.units+1<jE)(hi:PE X i ty)(ho:PE X o td):PC X .NotIn i o (ZA ty td):=by
 intro pins s σ H Q I h
 refine pK (hi pins s σ H _ I h) λ iv s1 ⟨y,H1,I1,ry,q1⟩=>pK (ho pins s1 σ H1 _ I1 q1) λ u s2 ⟨x,H2,I2,rx,a,ov,ex,g,q2⟩=>?_
 subst ex
 obtain rfl:u=Value.ref a:=rx
 exact Zy hu I2 g ry λ s3 I3=>⟨.bl (!ov.isSome),H2,I3,rfl,q2⟩
theorem ZC(hu:X.A.units+1<jE)(ho:PE X o td)(hi:PE X i ty)(hv:PE X value tv)(hs:g8 value (some (.Subscript o i pos')) pos.line X.env=pure false):
  PS X (.Assign [.Subscript o i pos'] value pos) (adw td ty tv):=by
 intro pins s σ H D I h
 refine wpAny_Assign_Subscript (pK (hv pins s σ H _ I h) λ r s1 ⟨v,H1,I1,rv,q1⟩=>pK (ho pins s1 σ H1 _ I1 q1) λ u s2 ⟨x,H2,I2,rx,q2⟩=>pK (hi pins s2 σ H2 _ I2 q2) λ iv s3 ⟨y,H3,I3,ry,a,H4,ex,g,q3⟩=>?_) hs
 subst ex
 obtain rfl:u=Value.ref a:=rx
 exact Uo hu I3 g ry rv λ s4 I4=>⟨σ,H4,I4,q3⟩
end
theorem Wu{P:aK}{w:bj}{H:Hp}(h:bF)(hb:ee<h.objs.size):pN P w H (h.push { cls:=.type "dict",data:=.dict #[] }) h.objs.size (.dK []):=
 ⟨aE _,beq_eq_false_iff_ne.mpr (Ne.symm (bK hb)),[],.nil,Heap.DictOf.new h⟩
def abP:TE:=λ _ H Q=>∀p,H p=none->Q (.ref p) (upd H p (.dK []))
section
variable{X:Cx}{pos:Pos}
theorem Wv:PE X (.Dict [] [] pos) abP:=λ pins s σ H Q I h=>
 wpAny_Dict_empty ⟨.ref s.heap.objs.size,_,I.laid (a:=s.heap.objs.size) (o:=.dK []) (t':=s.toks) (λ _ _ q=>Heap.get?_push_of_some _ q) (ax _) (Wu s.heap I.big),rfl,h _ (I.oW.fresh (ax _))⟩
end
section
variable{X:Cx}{pins:List (ag×Obj)}{σ:St}{H:Hp}{s:au}{a:ag}{y d:V}{u r:ao}{o:Option V}{A:bV}{E:ao->au->Prop}
end
section
variable{X:Cx}{o e f:bJ}{apos xF:Pos}{td ty tx:TE}
end
section
variable{X:Cx}{pins:List (ag×Obj)}{σ:St}{H:Hp}{s:au}{a:ag}{oF:List (Key×V)}{A:bV}{E:ao->au->Prop}
end
section
variable{X:Cx}{pins:List (ag×Obj)}{σ:St}{H:Hp}{s:au}{a:ag}{y:V}{u:ao}{A:bV}{E:ao->au->Prop}
end
end L2
namespace L2
open PySem PySem.Spec PyProof.Rows
section
variable{prog:aK}{w:bj}{A:bV}{E:ao->au->Prop}
end
section
variable{X:Cx}
end
end L2
namespace L2
open PySem PySem.Spec PyProof.Rows
section
variable{X:Cx}{pins:List (ag×Obj)}{σ:St}{H:Hp}{s:au}{h':bF}
theorem Inv.SO{t':Nat}{ch:List ag}(I:Inv X pins σ H s)(k:∀b o,b∉ch->s.heap.get? b=some o->h'.get? b=some o)(hf:∀b∈ch,GU X pins H b):Inv X pins σ H { s with heap:=h',toks:=t' }:=by
 have nit:∀b u,H b=some u->b∉ch:=λ b u e z=>by
  have q:=(hf b z).1
  rw[q]at e;cases e
 refine I.step (g':=s.gens) (d':=s.drawn) (ch:=ch) (λ b hb=>⟨(hf b hb).2.2.2.1,(hf b hb).2.1,(hf b hb).2.2.2.2.1,(hf b hb).2.2.2.2.2⟩) (λ b o _ _ hc e _=>k b o hc e) (λ b o _ _ hc e _=>⟨o.slots,k b o hc e⟩)
  (λ _ _ _ _ n=>n) (λ b o hc e=>⟨o,k b o hc e⟩) (λ _ _ e=>e) (λ _ _ _ e=>e) (λ b ps e=>⟨#[],by rw[e];simp⟩) (λ m hm=>?_) (λ b u e=>?_) I.bare
 ·obtain⟨o,es,ep,ho,r⟩:=hm
  exact⟨o,es,ep,k _ o (λ z=>(hf _ z).2.1 rfl) ho,r⟩
 ·refine(I.oW b u e).EH (λ c v hc q=>k c v ?_ q) (λ _ q=>q) λ _ _ q=>q
  rcases hc with z|z
  ·rw[z];exact nit b u e
  ·exact nit c _ z
theorem Inv.ER{t':Nat}{ch:List ag}{T:ag}{ob:HO}(I:Inv X pins σ H s)(k:∀b o,b∉ch->s.heap.get? b=some o->h'.get? b=some o)(hf:∀b∈ch,GU X pins H b)(hT:s.heap.objs.size<=T)
  (new:pN X.prog X.w (upd H T ob) h' T ob):Inv X pins σ (upd H T ob) { s with heap:=h',toks:=t' }:=by
 have hn:H T=none:=I.oW.fresh hT
 have nit:∀b u,H b=some u->b∉ch:=λ b u e z=>by
  have q:=(hf b z).1
  rw[q]at e;cases e
 refine I.step (g':=s.gens) (d':=s.drawn) (ch:=ch) (λ b hb=>⟨(hf b hb).2.2.2.1,(hf b hb).2.1,(hf b hb).2.2.2.2.1,(hf b hb).2.2.2.2.2⟩) (λ b o _ _ hc e _=>k b o hc e) (λ b o _ _ hc e _=>⟨o.slots,k b o hc e⟩)
  (λ b o _ e n=>?_) (λ b o hc e=>⟨o,k b o hc e⟩) (λ b xs e=>?_) (λ b o u e=>?_) (λ b ps e=>⟨#[],?_⟩) (λ m hm=>?_) (λ b u e=>?_) I.bare
 ·rw[mY (bK (aS (Heap.lt_size e) hT))];exact n
 ·rw[mY (nE e hn)];exact e
 ·rw[mY (nE e hn)];exact e
 ·rw[mY (nE e hn),e];simp
 ·obtain⟨o,es,ep,ho,r⟩:=hm
  exact⟨o,es,ep,k _ o (λ z=>(hf _ z).2.1 rfl) ho,r⟩
 ·by_cases hb:b=T
  ·subst hb
   rw[mX]at e
   cases e
   exact new
  ·rw[mY hb]at e
   refine(I.oW b u e).EH (λ c v hc q=>k c v ?_ q) (λ c q=>by rw[mY (nE q hn)];exact q) λ c xs q=>by rw[mY (nE q hn)];exact q
   rcases hc with z|z
   ·rw[z];exact nit b u e
   ·exact nit c _ z
end
section
variable{X:Cx}
theorem Ql{tg:bJ}{pins:List (ag×Obj)}{σ:St}{H:Hp}{s:au}{R:It->Hp->Prop}{J:It}{tn:Nat->bF->Prop}{tk:Nat}(I:Inv X pins σ H s)(o:Obj)
  (T:Turn X.prog X.w X.K tg J [s.heap.objs.size] s.heap.objs.size tn)(st:tn 0 (s.heap.push o))(q:R J H):PIE X pins σ tg R (.ref s.heap.objs.size) { s with heap:=s.heap.push o,toks:=tk }:=by
 refine⟨s.heap.objs.size,[s.heap.objs.size],tn,J,H,rfl,I.kept λ b ob e=>Heap.get?_push_of_some _ e,T,st,λ b hb=>?_,q⟩
 have e:b=s.heap.objs.size:=by simpa using hb
 subst e
 exact I.PZ (ax _) (I.oW.fresh (ax _))
end
def Itc(lo c:Int)(n:Nat):It:=⟨λ i _=>i<n,λ i H x H'=>H'=H/\x= .int (lo+(i:Nat)*c),λ i _=>n<=i⟩
theorem NK{P:aK}{w:bj}{K:ah}{tg:bJ}(it:ag)(lo c:Int)(n:Nat):Turn P w K tg (Itc lo c n) [it] it (λ i h=>jG h it (lo+(i:Nat)*c) ((n:Int)-(i:Nat)) c) where
 mem:=by simp
 obj:=λ i h st b hb=>by
  have e:b=it:=by simpa using hb
  subst e
  exact⟨_,st,λ v z=>nomatch z⟩
 keep:=λ i h h' st k=>k it (by simp) _ st
 item:=by
  intro X hP hw hK hc i pins s σ H E I hf st hg
  subst hP hw hK
  obtain⟨f0,f1,f2,f3,f4,f5⟩:=hf it (by simp)
  have W:=Walks.range (prog:=X.prog) (w:=X.w) (I.ok.hd hc) it lo c n
  refine W.item i s _ _ hg st λ v h' tk hv EA kk=>?_
  obtain⟨t,rfl⟩:=hv
  have I1:Inv X pins σ H { s with heap:=h',toks:=tk }:=I.turned (λ b o hb e=>kk b o (by simpa using hb) e) f0 f1 f3 f4 f5
  exact⟨_,rfl,Sq (s:={ s with heap:=h',toks:=tk }) (n:="range_iterator") EA rfl rfl (by decide) ⟨.int (lo+(i:Nat)*c),H,I1,⟨t,rfl⟩,⟨rfl,rfl⟩,EA,λ b hb=>(hf b hb).1⟩⟩
 done:=by
  intro X hP hw hK hc i pins s σ H E I hf st hg
  subst hP hw hK
  obtain⟨f0,f1,f2,f3,f4,f5⟩:=hf it (by simp)
  exact kJ (I.ok.hd hc) st (by have:n<=i:=hg;omega) λ h' eb=>⟨rfl,I.turned (t':=s.toks) (λ b o hb e=>eb b o hb e) f0 f1 f3 f4 f5⟩
 self:=λ A i s Q E st h=>kK st h
def RgC(i j c:Int)(n:Nat):Prop:=c≠0/\c.natAbs<1073741824/\Builtin.Range.small i j c=true/\Builtin.Range.rangeSize i j c=n
theorem RgC.neg{i j:Int}(ha: -(2 ^ 62)<=i)(SQ:i<2 ^ 62)(hb: -(2 ^ 62)<=j)(hb':j<2 ^ 62):RgC i j (-1) (i-j).toNat:=
 ⟨by decide,by decide,PySem.W.small_down ha SQ hb hb',PySem.W.rangeSize_downNat i j⟩
def adx(ta:TA):TI:=λ σ H R=>ta σ H λ vs H1=>∃(i j c:Int) (n:Nat),vs=[.int i,.int j,.int c]/\RgC i j c n/\R (Itc i c n) H1
section
variable{X:Cx}{tg:bJ}
theorem Uq{a b c:bJ}{ta:TA}{p pos:Pos}(hg:Gl X "range")(hm:X.mg "range"=none)(ha:PA X [a,b,c] ta)
  (hs:aN [a,b,c] X.env=(false,cw a X.env)::aN [b,c] X.env:=by rfl)(vo:(c8 pos (aN [b,c] X.env)).any (·.1)=false:=by rfl):
  PI X tg (.Call (.Name "range" p) [a,b,c] [] pos) (adx ta):=by
 intro pins s σ H R I h
 refine lr (vh I hg hm jX (bT (pK (ha pos pins s σ H _ I h) λ us s1 ⟨vs,H1,I1,r1,q1⟩=>?_) hs vo))
 obtain⟨i,j,k,n,e,⟨c0,c1,c2,c3⟩,q⟩:=q1
 subst e
 cases r1 with
 |cons r rr=>
  cases rr with
  |cons r' rr=>
   cases rr with
   |cons r'' rr=>
    cases rr
    obtain⟨t,rfl⟩:=r
    obtain⟨t',rfl⟩:=r'
    obtain⟨t'',rfl⟩:=r''
    refine call_range_3 c0 ?_ (.inl (PyProof.noPylong_small c1))
    refine lL (IsRange.new ..) c2 ?_
    have I2:Inv X pins σ H1 { s1 with heap:=s1.heap.push { cls:=.type "range",data:=.fields #[.int i t,.int j t',.int k t''] } }:=I1.kept (t':=s1.toks) λ b o e=>Heap.get?_push_of_some _ e
    refine Ql (tk:=s1.toks) I2 _ (NK _ i k n) ?_ q
    have e1:i+((0:Nat):Int)*k=i:=by simp
    have e2:(n:Int)-((0:Nat):Int)=Builtin.Range.rangeSize i j k:=by rw[c3];simp
    show jG _ _ (i+((0:Nat):Int)*k) ((n:Int)-((0:Nat):Int)) k
    rw[e1,e2]
    exact Heap.get?_push_size _ rfl
end
theorem Qm{lo c:Int}{n:Nat}{g:TG}{tb:TS}{D:Ends}{σ:St}{H:Hp}(Pv:Nat->St->Hp->Prop)(h0:Pv 0 σ H)
  (hs:∀i σ H,i<n->Pv i σ H->g (.int (lo+(i:Nat)*c)) σ H λ σ2 H2=>tb { D with nx:=Pv (i+1),ct:=Pv (i+1),bk:=D.nx } σ2 H2)(hd:∀σ H,Pv n σ H->D.nx σ H):
  ∃W:Nat->Nat->St->Hp->Prop,(∃m,W 0 m σ H)/\∀i m σ H,W i m σ H->
   ((Itc lo c n).stop i H/\D.nx σ H)\/((Itc lo c n).go i H/\∃N:St->Hp->Prop,(∀σ' H',N σ' H'->∃m',m'<m/\W (i+1) m' σ' H')/\∀x H',(Itc lo c n).Ht i H x H'->g x σ H' λ σ2 H2=>tb { D with nx:=N,ct:=N,bk:=D.nx } σ2 H2):=by
 refine⟨λ i m σ H=>m=n-i/\i<=n/\Pv i σ H,⟨n,by simp,aE _,h0⟩,?_⟩
 rintro i m σ H ⟨rfl,hi,p⟩
 by_cases rL:i<n
 ·refine .inr ⟨rL,Pv (i+1),λ σ' H' p'=>⟨n-(i+1),by omega,rfl,rL,p'⟩,λ x H' y=>?_⟩
  obtain⟨e,y⟩:=y
  subst e y
  exact hs i σ _ rL p
 ·have e:i=n:=by omega
  subst e
  exact .inl ⟨ax _,hd σ H p⟩
section
variable{X:Cx}{tg:bJ}
end
def Its(x:Str):It:=⟨λ i _=>i<x.cps.size,λ i H v H'=>H'=H/\∃c,x.cps[i]? =some c/\v= .str ⟨#[c]⟩,λ i _=>x.cps.size<=i⟩
theorem NL{P:aK}{w:bj}{K:ah}{tg:bJ}(it:ag)(x:Str)(t:Tok)(ty:String)(hty:ty="str_ascii_iterator"\/ty="str_iterator"):
  Turn P w K tg (Its x) [it] it (λ i h=>h.IsStrIter it ty x t i) where
 mem:=by simp
 obj:=λ i h st b hb=>by
  have e:b=it:=by simpa using hb
  subst e
  obtain⟨o,e,c,d⟩:=st
  exact⟨o,e,λ v z=>by rw[d]at z;cases z⟩
 keep:=λ i h h' st k=>let⟨o,ho,r⟩:=st;⟨o,k it (by simp) o ho,r⟩
 item:=by
  intro X hP hw hK hc i pins s σ H E I hf st hg
  subst hP hw hK
  obtain⟨f0,f1,f2,f3,f4,f5⟩:=hf it (by simp)
  have W:Walks X.prog X.w X.A it [it] [it] x.cps.size (SignAt x) (λ i h=>h.IsStrIter it ty x t i):=by
   rcases hty with e|e
   ·rw[e];exact Walks.strAscii (I.ok.hd hc) it x t
   ·rw[e];exact Walks.strWide (I.ok.hd hc) it x t
  have hno:["enumerate","zip","dict_itemiterator","dict_reverseitemiterator","odict_iterator","itertools.zip_longest","itertools.pairwise"].contains ty=false:=by
   rcases hty with e|e
   ·rw[e];decide
   ·rw[e];decide
  refine W.item i s _ _ hg st λ v h' tk hv EA kk=>?_
  obtain⟨c,u,hcx,rfl⟩:=hv
  have I1:Inv X pins σ H { s with heap:=h',toks:=tk }:=I.turned (λ b o hb e=>kk b o (by simpa using hb) e) f0 f1 f3 f4 f5
  obtain⟨oi,e,cc,dd⟩:=id EA
  exact⟨_,rfl,Sq (s:={ s with heap:=h',toks:=tk }) e cc dd hno ⟨.str ⟨#[c]⟩,H,I1,⟨u,rfl⟩,⟨rfl,c,hcx,rfl⟩,EA,λ b hb=>(hf b hb).1⟩⟩
 done:=by
  intro X hP hw hK hc i pins s σ H E I hf st hg
  subst hP hw hK
  obtain⟨f0,f1,f2,f3,f4,f5⟩:=hf it (by simp)
  have hx:x.cps[i]? =none:=Array.getElem?_eq_none hg
  rcases hty with e|e
  ·rw[e]at st
   exact wpAny_pyNext_ascii_end (I.ok.hd hc) st hx λ h' eb=>⟨rfl,I.turned (t':=s.toks) (λ b o hb e=>eb b o hb e) f0 f1 f3 f4 f5⟩
  ·rw[e]at st
   exact wpAny_pyNext_wide_end (I.ok.hd hc) st hx λ h' eb=>⟨rfl,I.turned (t':=s.toks) (λ b o hb e=>eb b o hb e) f0 f1 f3 f4 f5⟩
 self:=λ A i s Q E st h=>by
  rcases hty with e|e
  ·rw[e]at st;exact wpAny_pyIter_striter_ascii st h
  ·rw[e]at st;exact wpAny_pyIter_striter_wide st h
def aeE(te:TE):TI:=λ σ H R=>te σ H λ v H1=>∃x,v= .str x/\R (Its x) H1
theorem abQ{X:Cx}{tg e:bJ}{te:TE}(he:PE X e te):PI X tg e (aeE te):=by
 intro pins s σ H R I h
 refine pK (he pins s σ H _ I h) λ v s1 ⟨y,H1,I1,r1,x,ex,q⟩=>?_
 subst ex
 obtain⟨t,rfl⟩:=r1
 cases ha:x.cps.all (· <128)
 ·exact wpAny_pyIter_wide ha (Ql (tk:=s1.toks) I1 _ (NL _ x t "str_iterator" (.inr rfl)) ⟨_,Heap.get?_push_size _ rfl,rfl,rfl⟩ q)
 ·exact wpAny_pyIter_ascii ha (Ql (tk:=s1.toks) I1 _ (NL _ x t "str_ascii_iterator" (.inl rfl)) ⟨_,Heap.get?_push_size _ rfl,rfl,rfl⟩ q)
section
variable{prog:aK}{w:bj}{A:bV}{E:ao->au->Prop}{s:au}
end
section
variable{X:Cx}{pins:List (ag×Obj)}{σ:St}{H:Hp}{s:au}{d:ag}{o:Obj}
end
section
variable{P:aK}{w:bj}{K:ah}{tg:bJ}{d:ag}{o:Obj}{es:Array DictEntry}{ep:Nat}
end
section
variable{X:Cx}{tg e:bJ}{td:TE}{apos xF:Pos}
end
def Ite(K:ah)(a:ag):It:=
 ⟨λ i H=>∃(xs:List V) (x:V),nA K H a xs/\xs[i]? =some x,λ i H v H'=>∃T x,v= .ref T/\H T=none/\H'=upd H T (.tup [.int (i:Nat),x])/\∀xs,nA K H a xs->xs[i]? =some x,λ i H=>∃xs:List V,nA K H a xs/\xs.length<=i⟩
theorem Ur{P:aK}{w:bj}{K:ah}{elts:List bJ}{kk:Nat}{BD:Pos}(a e it:ag):
  Turn P w K (.Tuple elts kk BD) (Ite K a) [e,it] e (λ i h=>(∃old,IsEnum h e it ((i:Nat):Int) old)/\h.IsListIter it a i/\e≠it) where
 mem:=by simp
 obj:=λ i h st b hb=>by
  obtain⟨⟨old,he⟩,⟨o,ho,hc,hd⟩,_⟩:=st
  have e':b=e\/b=it:=by simpa using hb
  rcases e' with z|z
  ·rw[z];exact⟨_,he,λ v q=>nomatch q⟩
  ·rw[z];exact⟨o,ho,λ v q=>by rw[hd]at q;cases q⟩
 keep:=λ i h h' st k=>let⟨⟨old,he⟩,hi,xG⟩:=st;⟨⟨old,k e (by simp) _ he⟩,hi.at λ o q=>k it (by simp) o q,xG⟩
 item:=by
  intro X hP hw hK hc i pins s σ H E I hf st hg
  subst hP hw hK
  obtain⟨⟨old,he⟩,hit,xG⟩:=st
  obtain⟨xs,x,hq,hx⟩:=hg
  obtain⟨oh,rv,p,hz⟩:=I.list hq
  obtain⟨u,hu,ru⟩:=rv.get hx
  have hel:e<s.heap.objs.size:=Heap.lt_size he
  have Ww:it<s.heap.objs.size:=by obtain⟨_,q,_⟩:=hit;exact Heap.lt_size q
  refine wpAny_pyNext_enum_item he hit p.isList (x:=u) (by simpa using hu) xG λ h' ho aeF hT hsz hk=>?_
  refine⟨_,rfl,wpAny_letOwnedTupleGo_enum (s:={ s with heap:=h',toks:=s.toks+1 }) ho λ VV he' sb=>?_⟩
  have LS:VV.get? s.heap.objs.size=some { cls:=.type "tuple",data:=.seq #[.int i s.toks,u] }:=(sb.2 _ (fW hel)).trans hT
  have new:pN X.prog X.w (upd H s.heap.objs.size (.tup [.int (i:Nat),x])) VV s.heap.objs.size (.tup [.int (i:Nat),x]):=
   ⟨by show 2<=ay;decide,[.int i s.toks,u],.cons ⟨_,rfl⟩ (.cons ru .nil),⟨_,LS,rfl,_,rfl⟩⟩
  have I1:Inv X pins σ (upd H s.heap.objs.size (.tup [.int (i:Nat),x])) { s with heap:=VV,toks:=s.toks+1 }:=
   I.ER (ch:=[e,it]) (λ b ob hb q=>(sb.2 b (λ z=>hb (by simp[z]))).trans (hk b ob (λ z=>hb (by simp[z])) (λ z=>hb (by simp[z])) q)) hf (ax _) new
  refine⟨.ref s.heap.objs.size,_,I1,rfl,⟨_,x,rfl,I.oW.fresh (ax _),rfl,λ ys hy=>by rw[I.vj hy hq];exact hx⟩,⟨⟨u,?_⟩,aeF.at λ o q=>(sb.2 it (Ne.symm xG)).trans q,xG⟩,λ b hb=>?_⟩
  ·have e1:((i+1:Nat):Int)=(i:Int)+1:=by omega
   rw[e1];exact he'
  ·have hb':b<s.heap.objs.size:=by
    have e':b=e\/b=it:=by simpa using hb
    rcases e' with z|z
    ·rw[z];exact hel
    ·rw[z];exact Ww
   rw[mY (bK hb')]
   exact(hf b hb).1
 done:=by
  intro X hP hw hK hc i pins s σ H E I hf st hg
  subst hP hw hK
  obtain⟨⟨old,he⟩,hit,xG⟩:=st
  obtain⟨xs,hq,hx⟩:=hg
  obtain⟨oh,rv,p,hz⟩:=I.list hq
  obtain⟨f0,f1,f2,f3,f4,f5⟩:=hf it (by simp)
  have hl:=rv.length
  exact wpAny_pyNext_enum_end (I.ok.hd hc) he hit p.isList (by simp;omega) λ h' eb=>⟨rfl,I.turned (t':=s.toks) (λ b o hb q=>eb b o hb q) f0 f1 f3 f4 f5⟩
 self:=λ A i s Q E st h=>let⟨⟨_,he⟩,_⟩:=st;l_ he h
def ady(K:ah)(ta:TA):TI:=λ σ H R=>ta σ H λ vs H1=>∃a xs,vs=[.ref a]/\nA K H1 a xs/\R (Ite K a) H1
theorem Dv{X:Cx}{e:bJ}{ta:TA}{p pos BD:Pos}{elts:List bJ}{kk:Nat}(hg:Gl X "enumerate")(hm:X.mg "enumerate"=none)(ha:PA X [e] ta)(hs:aN [e] X.env=[(false,cw e X.env)]:=by rfl):
  PI X (.Tuple elts kk BD) (.Call (.Name "enumerate" p) [e] [] pos) (ady X.K ta):=by
 intro pins s σ H R I h
 refine lr (vh I hg hm boot_enumerate (bT (pK (ha pos pins s σ H _ I h) λ us s1 ⟨vs,H1,I1,r1,q1⟩=>?_) hs rfl))
 obtain⟨a,xs,ex,hq,q⟩:=q1
 subst ex
 cases r1 with
 |cons r rr=>
  cases rr
  cases r
  obtain⟨oh,rv,p',hz⟩:=I1.list hq
  refine call_enumerate_list p'.isList λ h' he hit hsz hk=>l_ he ?_
  have I2:Inv X pins σ H1 { s1 with heap:=h' }:=I1.kept (t':=s1.toks) hk
  refine⟨s1.heap.objs.size+1,[s1.heap.objs.size+1,s1.heap.objs.size],_,_,H1,rfl,I2,Ur a (s1.heap.objs.size+1) s1.heap.objs.size,⟨⟨.none,he⟩,hit,Nat.succ_ne_self _⟩,λ b hb=>?_,q⟩
  have e':b=s1.heap.objs.size+1\/b=s1.heap.objs.size:=by simpa using hb
  have hle:s1.heap.objs.size<=b:=by
   rcases e' with z|z
   ·rw[z];exact cC _ _
   ·rw[z];exact ax _
  exact I1.PZ hle (I1.oW.fresh hle)
theorem Kx:gm "zip"=some (.type "zip"):=by decide +kernel
def Itz(K:ah)(a b:ag):It:=
 ⟨λ i H=>∃(xs ys:List V) (x y:V),nA K H a xs/\nA K H b ys/\xs[i]? =some x/\ys[i]? =some y,
  λ i H v H'=>∃T x y,v= .ref T/\H T=none/\H'=upd H T (.tup [x,y])/\(∀xs,nA K H a xs->xs[i]? =some x)/\∀ys,nA K H b ys->ys[i]? =some y,
  λ i H=>∃xs ys:List V,nA K H a xs/\nA K H b ys/\(xs.length<=i\/ys.length<=i)⟩
theorem Wx{P:aK}{w:bj}{K:ah}{elts:List bJ}{kk:Nat}{BD:Pos}{a b z TI TO i1 i2:ag}(D:ZipApart z TI TO i1 i2 a b):
  Turn P w K (.Tuple elts kk BD) (Itz K a b) [z,TI,TO,i1,i2] z (λ i h=>gJ h z TI TO .none/\IsPair h TI (.ref i1) (.ref i2)/\(∃x y,IsPair h TO x y)/\h.IsListIter i1 a i/\h.IsListIter i2 b i) where
 mem:=by simp
 obj:=λ i h st c hc=>by
  obtain⟨hz,Wy,⟨x,y,YZ⟩,⟨o1,e1,_,d1⟩,⟨o2,e2,_,d2⟩⟩:=st
  have e':c=z\/c=TI\/c=TO\/c=i1\/c=i2:=by simpa using hc
  rcases e' with q|q|q|q|q
  ·rw[q];exact⟨_,hz,λ v q=>nomatch q⟩
  ·rw[q];exact⟨_,Wy,λ v q=>nomatch q⟩
  ·rw[q];exact⟨_,YZ,λ v q=>nomatch q⟩
  ·rw[q];exact⟨o1,e1,λ v q=>by rw[d1]at q;cases q⟩
  ·rw[q];exact⟨o2,e2,λ v q=>by rw[d2]at q;cases q⟩
 keep:=λ i h h' st k=>by
  obtain⟨hz,Wy,⟨x,y,YZ⟩,h1,h2⟩:=st
  exact⟨k z (by simp) _ hz,k TI (by simp) _ Wy,⟨x,y,k TO (by simp) _ YZ⟩,h1.at λ o q=>k i1 (by simp) o q,h2.at λ o q=>k i2 (by simp) o q⟩
 item:=by
  intro X hP hw hK hc i pins s σ H E I hf st hg
  subst hP hw hK
  obtain⟨hz,Wy,⟨x0,y0,YZ⟩,h1,h2⟩:=st
  obtain⟨xs,ys,x,y,hqx,hqy,hx,hy⟩:=hg
  obtain⟨oh,rv,p,_⟩:=I.list hqx
  obtain⟨EK,rv2,p2,_⟩:=I.list hqy
  obtain⟨u,hu,ru⟩:=rv.get hx
  obtain⟨u2,hu2,ru2⟩:=rv2.get hy
  have hzl:z<s.heap.objs.size:=Heap.lt_size hz
  refine wpAny_pyNext_zip_item D hz Wy YZ h1 h2 p.isList p2.isList (x:=u) (y:=u2) (by simpa using hu) (by simpa using hu2) λ h' z' TO' h1' h2' hT hsz hk=>?_
  refine⟨_,rfl,j3 (s:={ s with heap:=h' }) z' λ VV z'' sb=>?_⟩
  have LS:VV.get? s.heap.objs.size=some { cls:=.type "tuple",data:=.seq #[u,u2] }:=(sb.2 _ (fW hzl)).trans hT
  have new:pN X.prog X.w (upd H s.heap.objs.size (.tup [x,y])) VV s.heap.objs.size (.tup [x,y]):=
   ⟨by show 2<=ay;decide,[u,u2],.cons ru (.cons ru2 .nil),⟨_,LS,rfl,_,rfl⟩⟩
  have I1:Inv X pins σ (upd H s.heap.objs.size (.tup [x,y])) { s with heap:=VV }:=
   I.ER (t':=s.toks) (ch:=[z,TI,TO,i1,i2]) (λ c o hb q=>(sb.2 c (λ q'=>hb (by simp[q']))).trans (hk c o (λ q'=>hb (by simp[q'])) (λ q'=>hb (by simp[q'])) (λ q'=>hb (by simp[q'])) (λ q'=>hb (by simp[q'])) q)) hf (ax _) new
  refine⟨.ref s.heap.objs.size,_,I1,rfl,⟨_,x,y,rfl,I.oW.fresh (ax _),rfl,λ l hl=>by rw[I.vj hl hqx];exact hx,λ l hl=>by rw[I.vj hl hqy];exact hy⟩,⟨z'',?_,⟨u,u2,?_⟩,?_,?_⟩,λ c ZD=>?_⟩
  ·exact(sb.2 _ D.TIz).trans (hk _ _ D.TIz D.TITO D.TIi1 D.TIi2 Wy)
  ·exact(sb.2 _ D.TOz).trans TO'
  ·exact h1'.at λ o q=>(sb.2 _ D.i1z).trans q
  ·exact h2'.at λ o q=>(sb.2 _ D.i2z).trans q
  ·have rL:c<s.heap.objs.size:=by
    have e':c=z\/c=TI\/c=TO\/c=i1\/c=i2:=by simpa using ZD
    rcases e' with q|q|q|q|q
    ·rw[q];exact hzl
    ·rw[q];exact Heap.lt_size Wy
    ·rw[q];exact Heap.lt_size YZ
    ·rw[q];obtain⟨_,e1,_⟩:=h1;exact Heap.lt_size e1
    ·rw[q];obtain⟨_,e2,_⟩:=h2;exact Heap.lt_size e2
   rw[mY (bK rL)]
   exact(hf c ZD).1
 done:=by
  intro X hP hw hK hc i pins s σ H E I hf st hg
  subst hP hw hK
  obtain⟨hz,Wy,⟨x0,y0,YZ⟩,h1,h2⟩:=st
  obtain⟨xs,ys,hqx,hqy,adz⟩:=hg
  obtain⟨oh,rv,p,_⟩:=I.list hqx
  obtain⟨EK,rv2,p2,_⟩:=I.list hqy
  have l1:=rv.length
  have l2:=rv2.length
  have he:oh.toArray[i]? =none\/EK.toArray[i]? =none:=by
   rcases adz with q|q
   ·exact .inl (by simp;omega)
   ·exact .inr (by simp;omega)
  exact wpAny_pyNext_zip_end (I.ok.hd hc) D hz Wy YZ h1 h2 p.isList p2.isList he λ h' hk=>⟨rfl,I.SO (t':=s.toks) (ch:=[z,TI,TO,i1,i2]) (λ c o hb q=>
   hk c o (λ q'=>hb (by simp[q'])) (λ q'=>hb (by simp[q'])) (λ q'=>hb (by simp[q'])) (λ q'=>hb (by simp[q'])) q) hf⟩
 self:=λ A i s Q E st h=>g0 st.1 h
def aeG(K:ah)(ta:TA):TI:=λ σ H R=>ta σ H λ vs H1=>∃a b xs ys,vs=[.ref a,.ref b]/\nA K H1 a xs/\nA K H1 b ys/\R (Itz K a b) H1
theorem ES{X:Cx}{e e2:bJ}{ta:TA}{p pos BD:Pos}{elts:List bJ}{kk:Nat}(hg:Gl X "zip")(hm:X.mg "zip"=none)(ha:PA X [e,e2] ta)
  (hs:aN [e,e2] X.env=(false,cw e X.env)::aN [e2] X.env:=by rfl)(vo:(c8 pos (aN [e2] X.env)).any (·.1)=false:=by rfl):
  PI X (.Tuple elts kk BD) (.Call (.Name "zip" p) [e,e2] [] pos) (aeG X.K ta):=by
 intro pins s σ H R I h
 refine lr (vh I hg hm Kx (bT (pK (ha pos pins s σ H _ I h) λ us s1 ⟨vs,H1,I1,r1,q1⟩=>?_) hs vo))
 obtain⟨a,b,xs,ys,ex,hqx,hqy,q⟩:=q1
 subst ex
 cases r1 with
 |cons r rr=>
  cases rr with
  |cons r' rr=>
   cases rr
   cases r
   cases r'
   obtain⟨oh,rv,p1,_⟩:=I1.list hqx
   obtain⟨EK,rv2,p2,_⟩:=I1.list hqy
   have la:a<s1.heap.objs.size:=p1.lt
   have lb:b<s1.heap.objs.size:=p2.lt
   refine call_zip_2 p1.isList p2.isList λ h' hz Wy YZ h1 h2 hsz hk=>g0 hz ?_
   have I2:Inv X pins σ H1 { s1 with heap:=h' }:=I1.kept (t':=s1.toks) hk
   refine⟨s1.heap.objs.size+4,[s1.heap.objs.size+4,s1.heap.objs.size+2,s1.heap.objs.size+3,s1.heap.objs.size,s1.heap.objs.size+1],_,_,H1,rfl,I2,Wx (PySem.W.ktu_apart s1.heap.objs.size a b la lb),⟨hz,Wy,⟨_,_,YZ⟩,h1,h2⟩,λ c ZD=>?_,q⟩
   have e':c=s1.heap.objs.size+4\/c=s1.heap.objs.size+2\/c=s1.heap.objs.size+3\/c=s1.heap.objs.size\/c=s1.heap.objs.size+1:=by simpa using ZD
   have hle:s1.heap.objs.size<=c:=by
    rcases e' with z|z|z|z|z
    ·rw[z];exact cC _ _
    ·rw[z];exact cC _ _
    ·rw[z];exact cC _ _
    ·rw[z];exact ax _
    ·rw[z];exact cC _ _
   exact I1.PZ hle (I1.oW.fresh hle)
end L2
namespace aeH
open PySem PyProof.Rows
end aeH
namespace TL
open PySem PySem.Builtin PySem.Builtin.Str PySem.StrLaws
abbrev tl(x:Str):List Nat:=x.cps.toList
theorem Qn{x y:Str}(h:tl x=tl y):x=y:=Str.ext' (Array.toList_inj.mp h)
theorem Ky(x y:Str):tl (x++y)=tl x++tl y:=by
 show(x++y).cps.toList=_
 rw[Str.cps_append,Array.toList_append]
def FL(S:List Nat):List (List Nat)->List Nat
 |[]=>[]
 |[p]=>p
 |p::q::r=>p++(S++FL S (q::r))
theorem G8(y:Str):∀parts:List Str,tl (Str.join y parts)=FL (tl y) (parts.map tl)
 |[]=>rfl
 |[_]=>rfl
 |x::z::r=>by
  show tl (x++y++Str.join y (z::r))=tl x++(tl y++FL (tl y) ((z::r).map tl))
  rw[Ky,Ky,G8 y (z::r),bA]
theorem join_eq(y:Str)(parts:List Str):Txt.join y parts=Str.join y parts:=glued_eq_join y parts
end TL
namespace L2
open PySem PySem.Spec PyProof.Rows
theorem xW:∀{ys:List Str} {us:List ao},Vals (ys.map V.str) us->StrsAre us ys
 |[],_,.nil=>.nil
 |y::ys,_,.cons r t=>by
  obtain⟨k,rfl⟩:=r
  exact .cons y k (xW t)
section
variable{X:Cx}{pins:List (ag×Obj)}{σ:St}{H:Hp}{s:au}{Q:VK}
end
section
variable{X:Cx}
theorem ZE:MtR X "str.join" (λ x xs H Q=>∃a p,∃ys:List Str,x= .str a/\xs=[.ref p]/\(nA X.K H p (ys.map V.str)\/BG X.K H p (ys.map V.str))/\
  (ys.map (·.length)).sum+ys.length*a.length<=16777216/\Q (.str (Txt.join a ys)) H):=by
 intro pins s σ H x xs v us Q I rx rs h
 obtain⟨a,p,ys,rfl,rfl,hp,hz,h⟩:=h
 obtain⟨t,rfl⟩:=rx
 cases rs with
 |cons r1 rs=>
  cases rs
  cases r1
  rcases hp with hp|hp
  ·obtain⟨oh,r,⟨o,n,ho,hc,_,hd⟩,_⟩:=I.list hp
   exact mF (items:=oh.toArray) ⟨o,ho,hc,n,hd⟩ (by rw[kj];exact xW r) hz λ t' k=>⟨.str _,H,I.tok k,⟨t',rfl⟩,h⟩
  ·obtain⟨oh,r,ht,_⟩:=I.tuple hp
   exact mE (items:=oh.toArray) ht (by rw[kj];exact xW r) hz λ t' k=>⟨.str _,H,I.tok k,⟨t',rfl⟩,h⟩
end
section
variable{X:Cx}{o e:bJ}{to te:TE}
def tM1(r:V->List V->Hp->VK->Prop)(to te:TE):TE:=λ σ H Q=>to σ H λ x H1=>(∃a,x= .str a)/\te σ H1 λ y H2=>r x [y] H2 Q
theorem adA{id:String}{name:Str}{apos pos:Pos}{r:V->List V->Hp->VK->Prop}(slot:Slot "str" name id)(ty:lO (.builtin id)=pure (.type "method_descriptor"))(lj:MtR X id r)(ho:PE X o to)(he:PE X e te)
  (hs:aN [e] X.env=[(false,cw e X.env)]:=by rfl)(HE:dN o name X.env (cw o X.env)=cw o X.env:=by rfl)(HF:(apos.endLine == pos.line)=true:=by rfl):
  PE X (.Call (.Attribute o name apos) [e] [] pos) (tM1 r to te):=by
 intro pins s σ H Q I h
 refine PySem.Call_method1 HE hs HF (pK (ho pins s σ H _ I h) λ v s1 ⟨x,H1,I1,r1,q1⟩=>?_)
 obtain⟨⟨a,rfl⟩,q1⟩:=q1
 obtain⟨t,rfl⟩:=_root_.id r1
 refine⟨"str",_,F.plainAttrs_str,slot,ty,lP _ _ _,(λ _ e=>nomatch e),Calls.callWith_builtin rfl (Calls.evalArgs_plain (Calls.spliced_cons ?_))⟩
 exact pK (he pins s1 σ H1 _ I1 q1) λ u s2 ⟨y,H2,I2,r2,q2⟩=>Calls.spliced_nil (lj pins s2 σ H2 _ [y] _ [u] Q I2 r1 (.cons r2 .nil) q2)
theorem LU{apos pos:Pos}(ho:PE X o to)(he:PE X e te)(hs:aN [e] X.env=[(false,cw e X.env)]:=by rfl)(HE:dN o "join" X.env (cw o X.env)=cw o X.env:=by rfl)(HF:(apos.endLine == pos.line)=true:=by rfl):
  PE X (.Call (.Attribute o "join" apos) [e] [] pos) (tM1 (λ x xs H Q=>∃a p,∃ys:List Str,x= .str a/\xs=[.ref p]/\(nA X.K H p (ys.map V.str)\/BG X.K H p (ys.map V.str))/\
   (ys.map (·.length)).sum+ys.length*a.length<=16777216/\Q (.str (Txt.join a ys)) H) to te):=
 adA F.slot_str_join F.type_str_join ZE ho he hs HE HF
end
end L2
namespace L2
open PySem PySem.Spec PyProof.Rows
section
variable{X:Cx}
end
end L2
namespace Att
open PySem PySem.W PySem.Calls PyProof.Rows
section
variable{prog:aK}{w:bj}{A:bV}{E:ao->au->Prop}{s:au}{K:Frag}
end
end Att
namespace L2
open PySem PySem.Spec PyProof.Rows
end L2
namespace L2
open PySem PySem.Spec PyProof.Rows
end L2
namespace L2
open PySem PySem.Spec PyProof.Rows
def inClass(s:bz)(j:Nat):bz:=match s with
 | .ClassDef _ _ _ body _ _ _ _ _ _ _=>body.getD j (.Pass ⟨0,0,0,0⟩)
 |_=>.Pass ⟨0,0,0,0⟩
def rC(s:bz):Arguments:=match s with
 | .FunctionDef _ a _ _ _ _ _ _ _ _=>a
 |_=>{ posonlyargs:=[],args:=[],vararg:=none,kwonlyargs:=[],kw_defaults:=[],kwarg:=none,defaults:=[] }
def qH(s:bz):List bz:=match s with
 | .FunctionDef _ _ b _ _ _ _ _ _ _=>b
 |_=>[]
def mZ(s:bz):eP:=match s with
 | .FunctionDef _ _ _ _ _ _ sc _ _ _=>sc
 |_=>{ kind:=.function,names:=[],isGenerator:=false,isCoroutine:=false }
abbrev oE:ED:=λ _ _ _ _ _ _=>False
abbrev E0:XK:=λ _ _ _=>False
theorem nj{X:Cx}:Passes oE X E0:=λ _ _ _ _ _ _ _ h=>h.elim
structure pG(K:ah)(x qual:Str)(st:bz)(f:ag)(fd:bP):Prop where
 ex:∃(oc:ao) (od:Option ag) (kV doc pm:ao) (an:Option ag) (oU ct:ao) (Ku:Array (Option ao)),
  fd=cA x qual (rC st) (qH st) (mZ st) .none kV doc pm an oU ct/\K.lookup f=some ⟨oc,od,.func fd,Ku⟩/\dW K oU qual=true
 kp:bZ K (.ref f)=true
section
variable{P:aK}{w:bj}{K:ah}{mg:Str->Option ao}{base:bF}
theorem pG.ok{x qual:Str}{st:bz}{f:ag}{fd:bP}{N ps:List Str}{k:Nat}{sp:Sp}(F:pG K x qual st f fd)(S:m7 N ps (mZ st))(len:∀vs H Q E,sp vs H Q E->vs.length=ps.length)
  (NB:∀(oU:ao) (A:bV) (outer:List Env) (s:au) (H:Hp) (vs:List V) (Q:VK) (E:XK),rb k (A.deeper (iI qual (mZ st) s.heap.objs.size f oU))->sp vs H Q E->
   ∃t,LB (LK oE P w K mg base N qual (mZ st) f oU A outer s H E).nox (qH st) t/\t { nx:=λ _ H'=>Q .qt H',rt:=Q } (start N vs) H):nO P w K mg base oE (k+1) f fd ps sp:=by
 obtain⟨oc,od,kV,doc,pm,an,oU,ct,Ku,rfl,lk,PF⟩:=F.ex
 refine aaY lk PF S len λ A outer s H vs Q E hr Uj=>?_
 obtain⟨t,h,q⟩:=NB oU A outer s H vs Q E hr Uj
 exact⟨t,h.nox,q⟩
theorem pG.binds{x qual:Str}{st:bz}{f:ag}{fd:bP}{ps:List Str}(F:pG K x qual st f fd)
  (h:∀(kV doc pm:ao) (an:Option ag) (oU ct:ao) (us:List ao),us.length=ps.length->iH (cA x qual (rC st) (qH st) (mZ st) .none kV doc pm an oU ct) ⟨us,[]⟩=pure (ps.zip us)):Binds K fd ps []:=by
 obtain⟨oc,od,kV,doc,pm,an,oU,ct,Ku,rfl,lk,PF⟩:=F.ex
 exact .all (h kV doc pm an oU ct)
theorem LV{x qual:Str}{st:bz}{f:ag}{oc:ao}{od an:Option ag}{Ku:Array (Option ao)}{kV doc pm oU ct:ao}(l:K.lookup f=some ⟨oc,od,.func (cA x qual (rC st) (qH st) (mZ st) .none kV doc pm an oU ct),Ku⟩)
  (c:dW K oU qual=true)(k:bZ K (.ref f)=true):pG K x qual st f (cA x qual (rC st) (qH st) (mZ st) .none kV doc pm an oU ct):=⟨⟨oc,od,kV,doc,pm,an,oU,ct,Ku,rfl,l,c⟩,k⟩
end
theorem SR{A:bV}{k:Nat}(hr:rb k A):A.units+1<jE:=bH (eh (by decide:1<=64) _) hr.units
section
variable{X:Cx}
theorem pv(i:Nat){x:Str}{pos:Pos}(hN:X.N[i]? =some x:=by rfl)(hv:Vis X.env.scope x:=by first|exact Or.inl rfl|exact Or.inr (Or.inl rfl)|exact Or.inr (Or.inr rfl))(hd:(x == ("__debug__":Str))=false:=by decide)
  (PF:(x == ("__classdict__":Str))=false:=by decide):PE X (.Name x pos) (Zi i):=abj hN hv hd PF
end
theorem rG{A B:Prop}(h:B):if false=true then A else B:=by
 rw[if_neg aZ]
 exact h
theorem s_{A B:Prop}(h:A):if true=true then A else B:=by
 rw[if_pos rfl]
 exact h
theorem p8{c A B:Prop}[Decidable c](h1:c->A)(h2:¬ c->B):if c then A else B:=by
 by_cases h:c
 ·rw[if_pos h]
  exact h1 h
 ·rw[if_neg h]
  exact h2 h
def m5(H H':Hp):Prop:=∀b o,H b=some o->H' b=some o
theorem m5.refl(H:Hp):m5 H H:=λ _ _ h=>h
theorem m5.trans{H H1 H2:Hp}(a:m5 H H1)(b:m5 H1 H2):m5 H H2:=λ c o h=>b c o (a c o h)
theorem m5.free{H H':Hp}(e:m5 H H'){l:ag}(h:H' l=iT):H l=iT:=by
 cases q:H l with
 |none=>rfl
 |some o=>
  rw[e l o q]at h
  cases h
theorem m5.seq{K:ah}{H H':Hp}{a:ag}{xs:List V}(e:m5 H H')(h:nA K H a xs):nA K H' a xs:=by
 rcases h with (h|⟨o,h⟩)|h
 ·exact .inl (.inl (e _ _ h))
 ·exact .inl (.inr ⟨o,e _ _ h⟩)
 ·exact .inr h
section
variable{κ:Type}[DecidableEq κ]
end
theorem at_of{xs:List V}{z:Int}{j:Nat}{v:V}(e:z=(j:Int))(h:xs[j]? =some v):YX xs z=some v:=by
 rw[e]
 exact oo h
theorem adB{α:Type}{l:List α}(hN:l.Nodup){i j:Nat}{x:α}(a:l[i]? =some x)(b:l[j]? =some x):i=j:=by
 obtain⟨h1,e1⟩:=List.getElem?_eq_some_iff.mp a
 obtain⟨h2,e2⟩:=List.getElem?_eq_some_iff.mp b
 exact(k7 hN).mp (e1.trans e2.symm)
theorem m5.made{H H1:Hp}{x dx C:ag}(nx:H x=iT)(nd:H dx=iT)(k:∀b o,(upd (upd H dx (.own x)) x (.ins C dx [])) b=some o->b≠x->H1 b=some o):m5 H H1:=λ b o e=>
 k b o (by rw[mY (nE e nx),mY (nE e nd)];exact e) (nE e nx)
end L2
section
set_option maxHeartbeats 2000000
namespace L2
open PySem PySem.Spec PyProof.Rows
open PySem.W (WData Codec OpenSpec Well WellAll ReadsW ReadsAllW)
mutual
inductive Dw (K:ah) (H:Hp):V->WData->Prop
 |qt:Dw K H .qt .none
 |bl (b:Bool):Dw K H (.bl b) (.bool b)
 |int (i:Int):Dw K H (.int i) (.int i)
 |str (x:Str):Dw K H (.str x) (.str x)
 |Lx (b:Array UInt8):Dw K H (.Lx b) (.bytes b.toList)
 |lst {a:ag} {xs:List V} {ds:List WData}:nA K H a xs->zH K H xs ds->Dw K H (.ref a) (.list ds)
 |tup {a:ag} {xs:List V} {ds:List WData}:BG K H a xs->zH K H xs ds->Dw K H (.ref a) (.tuple ds)
inductive zH (K:ah) (H:Hp):List V->List WData->Prop
 |nil:zH K H [] []
 |cons {v:V} {vs:List V} {d:WData} {ds:List WData}:Dw K H v d->zH K H vs ds->zH K H (v::vs) (d::ds)
end
theorem SS{K:ah}{H:Hp}:∀ns:List Int,zH K H (ns.map V.int) (ns.map WData.int)
 |[]=>.nil
 |n::r=>.cons (.int n) (SS r)
theorem SU{K:ah}{H:Hp}:∀(ns:List Int) (xs:List V),zH K H xs (ns.map WData.int)->xs=ns.map V.int
 |[],xs,h=>by
  cases h
  rfl
 |n::r,xs,h=>by
  cases h with
  |cons h1 h2=>
   cases h1
   rw[SU r _ h2] <;> rfl
section
variable{P:aK}{w:bj}{K:ah}{H:Hp}{h:bF}{R:ka}{cl:Str->Option ag}
theorem abR{a:ag}{xs:List V}(oW:zL P w H h)(KX:K.In h)(q:nA K H a xs):∃(oh:List ao) (o:Obj) (n:Nat),Vals xs oh/\h.get? a=some o/\o.cls= .type "list"/\o.data= .seq oh.toArray n:=by
 rcases q with q|⟨o,oh,n,e,hc,_,hd,_,hv⟩
 ·obtain⟨_,oh,n,hv,e⟩:=(show pN P w H h a (.lst xs)from q.ok oW)
  exact⟨oh,_,n,hv,e,rfl,rfl⟩
 ·exact⟨oh.toList,o,n,hv,KX _ _ e,hc,by simp[hd]⟩
theorem abS{a:ag}{xs:List V}(oW:zL P w H h)(KX:K.In h)(q:BG K H a xs):∃(oh:List ao) (o:Obj) (n:Nat),Vals xs oh/\h.get? a=some o/\o.cls= .type "tuple"/\o.data= .seq oh.toArray n:=by
 rcases q with q|⟨o,oh,n,e,hc,hd,_,hv⟩
 ·obtain⟨_,oh,hv,o,e,hc,n,hd⟩:=(show pN P w H h a (.tup xs)from q.ok oW)
  exact⟨oh,o,n,hv,e,hc,hd⟩
 ·exact⟨oh.toList,o,n,hv,KX _ _ e,hc,by simp[hd]⟩
mutual
theorem Dw.reads(oW:zL P w H h)(KX:K.In h):∀(d:WData) (v:V) (u:ao),Dw K H v d->RelV v u->∃as,ReadsW R cl h u d as
 | .none,_,_,x,r=>by
  cases x
  cases r
  exact⟨_,ReadsW.none⟩
 | .bool b,_,_,x,r=>by
  cases x
  cases r
  exact⟨_,ReadsW.bool b⟩
 | .int i,_,_,x,r=>by
  cases x
  obtain⟨t,rfl⟩:=r
  exact⟨_,ReadsW.int i t⟩
 | .str s,_,_,x,r=>by
  cases x
  obtain⟨t,rfl⟩:=r
  exact⟨_,ReadsW.str s t⟩
 | .bytes b,_,_,x,r=>by
  cases x
  obtain⟨t,rfl⟩:=r
  exact⟨_,ReadsW.bytes _ t⟩
 | .list ds,_,_,x,r=>by
  cases x with
  |lst hs ha=>
   cases r
   obtain⟨oh,o,n,rv,ho,hc,hd⟩:=abR oW KX hs
   obtain⟨as,hr⟩:=Dw.readsAll oW KX ds _ oh ha rv
   exact⟨_,ReadsW.list ho hc hd hr⟩
 | .tuple ds,_,_,x,r=>by
  cases x with
  |tup hs ha=>
   cases r
   obtain⟨oh,o,n,rv,ho,hc,hd⟩:=abS oW KX hs
   obtain⟨as,hr⟩:=Dw.readsAll oW KX ds _ oh ha rv
   exact⟨_,ReadsW.tuple ho hc hd hr⟩
 | .float _,_,_,x,_=>by cases x
 | .dict _,_,_,x,_=>by cases x
 | .bytearray _,_,_,x,_=>by cases x
 | .set _,_,_,x,_=>by cases x
 | .frozenset _,_,_,x,_=>by cases x
 | .obj _ _,_,_,x,_=>by cases x
theorem Dw.readsAll(oW:zL P w H h)(KX:K.In h):∀(ds:List WData) (vs:List V) (us:List ao),zH K H vs ds->Vals vs us->∃as,ReadsAllW R cl h us ds as
 |[],_,_,x,r=>by
  cases x
  cases r
  exact⟨_,ReadsAllW.nil⟩
 |d::ds,_,_,x,r=>by
  cases x with
  |cons h1 h2=>
   cases r with
   |cons r1 r2=>
    obtain⟨as,q1⟩:=Dw.reads oW KX d _ _ h1 r1
    obtain⟨bs,q2⟩:=Dw.readsAll oW KX ds _ _ h2 r2
    exact⟨_,ReadsAllW.cons q1 q2⟩
end
end
mutual
def SV:WData->Bool
 | .none=>true
 | .bool _=>true
 | .int _=>true
 | .str _=>true
 | .bytes _=>true
 | .list xs=>GV xs
 | .tuple xs=>GV xs
 |_=>false
def GV:List WData->Bool
 |[]=>true
 |x::r=>SV x && GV r
end
theorem NM{α:Type}{f:α->WData}(h:∀a,SV (f a)=true):∀l:List α,GV (l.map f)=true
 |[]=>rfl
 |x::r=>by
  show(SV (f x) && GV (r.map f))=true
  rw[h x,NM h r] <;> rfl
theorem zW:∀(c:Codec) (a:c.denote),SV (c.enc a)=true
 | .unit,_=>rfl
 | .bool,_=>rfl
 | .int _ _,_=>rfl
 | .nat _ _,_=>rfl
 | .u8,_=>rfl
 | .bytes _ _,_=>rfl
 | .text _ _ _ _,_=>rfl
 | .list _ _ c,a=>NM (λ x=>zW c x) a
 | .pair c d,a=>by
  show(SV (c.enc a.1) && (SV (d.enc a.2) && true))=true
  rw[zW c a.1,zW d a.2] <;> rfl
 | .triple c d e,a=>by
  show(SV (c.enc a.1) && (SV (d.enc a.2.1) && (SV (e.enc a.2.2) && true)))=true
  rw[zW c a.1,zW d a.2.1,zW e a.2.2] <;> rfl
 | .option c,none=>rfl
 | .option c,some x=>zW c x
theorem Kz:∀(cs:List Codec) (a:Codec.denoteAll cs),GV (Codec.encAll cs a)=true
 |[],_=>rfl
 |c::cs,a=>by
  show(SV (c.enc a.1) && GV (Codec.encAll cs a.2))=true
  rw[zW c a.1,Kz cs a.2] <;> rfl
theorem Cb:∀{xs:List WData} {d:WData},d∈xs->d.weight<=WData.weightAll xs
 |[],d,h=>absurd h (by simp)
 |x::r,d,h=>by
  show d.weight<=x.weight+1+WData.weightAll r
  rcases List.mem_cons.mp h with e|m
  ·rw[e]
   omega
  ·have z:=Cb m
   omega
def toV:ao->V
 | .none=>.qt
 | .bool b=>.bl b
 | .int i _=>.int i
 | .str x _=>.str x
 | .bytes b _=>.Lx b
 | .ref a=>.ref a
 |_=>.qt
def Us(A:List ag):ao->Prop
 | .none=>True
 | .bool _=>True
 | .int _ _=>True
 | .str _ _=>True
 | .bytes _ _=>True
 | .ref a=>a∈A
 |_=>False
theorem Us.mono{A B:List ag}(h:∀a∈A,a∈B):∀{u:ao},Us A u->Us B u:=λ{u} x=>by
 cases u with
 |ref a=>exact h a x
 |none=>trivial
 |bool b=>trivial
 |int i t=>trivial
 |str s t=>trivial
 |bytes b t=>trivial
 |_=>exact False.elim x
theorem Wz{A:List ag}{u:ao}(x:Us A u):RelV (toV u) u:=by
 cases u with
 |ref a=>rfl
 |none=>rfl
 |bool b=>rfl
 |int i t=>exact⟨t,rfl⟩
 |str s t=>exact⟨t,rfl⟩
 |bytes b t=>exact⟨t,rfl⟩
 |_=>exact False.elim x
theorem xI{A:List ag}:∀{vs:List ao},(∀u∈vs,Us A u)->Vals (vs.map toV) vs
 |[],_=>.nil
 |u::r,h=>.cons (Wz (h u (bU ..))) (xI λ x hx=>h x (aP _ hx))
def zI(h:bF)(A:List ag)(a:ag):Prop:=∃vs:List ao,vs.length<=ay/\(∀u∈vs,Us A u)/\
 (h.get? a=some { cls:=.type "list",data:=.seq vs.toArray }\/h.get? a=some { cls:=.type "tuple",data:=.seq vs.toArray })
theorem zI.mono{h:bF}{A B:List ag}{a:ag}(k:∀a∈A,a∈B)(x:zI h A a):zI h B a:=by
 obtain⟨vs,h1,h2,h3⟩:=x
 exact⟨vs,h1,λ u hu=>(h2 u hu).mono k,h3⟩
theorem wq{P:jb}{h:bF}:∀{vs:List ao} {ds:List WData},WellAll P h vs ds->vs.length=ds.length
 |_,_,.nil=>rfl
 |_,_,.cons _ b=>by
  show _+1=_+1
  rw[wq b]
theorem KA{P:jb}{h:bF}{v:ao}{ds:List WData}(x:Well P h v (.list ds)):∃(a:ag) (vs:List ao),v= .ref a/\h.get? a=some { cls:=.type "list",data:=.seq vs.toArray }/\WellAll P h vs ds:=by
 cases x with
 |list ho ET=>exact⟨_,_,rfl,ho,ET⟩
theorem HH{P:jb}{h:bF}{v:ao}{ds:List WData}(x:Well P h v (.tuple ds)):∃(a:ag) (vs:List ao),v= .ref a/\h.get? a=some { cls:=.type "tuple",data:=.seq vs.toArray }/\WellAll P h vs ds:=by
 cases x with
 |tuple ho ET=>exact⟨_,_,rfl,ho,ET⟩
theorem KC{P:jb}{h:bF}{us:List ao}{d:WData}{ds:List WData}(x:WellAll P h us (d::ds)):∃(v:ao) (vs:List ao),us=v::vs/\Well P h v d/\WellAll P h vs ds:=by
 cases x with
 |cons a b=>exact⟨_,_,rfl,a,b⟩
theorem SW{n:Nat}(h:n<=1048576):n<=ay:=aV h (by decide)
section
variable{P:jb}{h:bF}
mutual
theorem WA:∀(d:WData) (v:ao),Well P h v d->SV d=true->d.weight<=1048576->∃A:List ag,Us A v/\∀a∈A,zI h A a
 | .none,_,x,_,_=>by
  cases x
  exact⟨[],trivial,λ a m=>absurd m (by simp)⟩
 | .bool b,_,x,_,_=>by
  cases x
  exact⟨[],trivial,λ a m=>absurd m (by simp)⟩
 | .int i,_,x,_,_=>by
  cases x
  exact⟨[],trivial,λ a m=>absurd m (by simp)⟩
 | .str s,_,x,_,_=>by
  cases x
  exact⟨[],trivial,λ a m=>absurd m (by simp)⟩
 | .bytes b,_,x,_,_=>by
  cases x
  exact⟨[],trivial,λ a m=>absurd m (by simp)⟩
 | .list ds,_,x,p,z=>by
  obtain⟨a,vs,rfl,ho,ET⟩:=KA x
  have z2:WData.weightAll ds<=1048576:=z
  obtain⟨A,h1,h2⟩:=Dy ds _ ET p λ d hd=>aV (Cb hd) z2
  have k:∀b∈A,b∈a::A:=λ b hb=>aP _ hb
  refine⟨a::A,bU ..,λ b hb=>?_⟩
  rcases List.mem_cons.mp hb with e|m
  ·rw[e]
   exact⟨vs,SW (by rw[wq ET];exact aV (iS ds) z2),λ u hu=>(h1 u hu).mono k,.inl ho⟩
  ·exact(h2 b m).mono k
 | .tuple ds,_,x,p,z=>by
  obtain⟨a,vs,rfl,ho,ET⟩:=HH x
  have z2:WData.weightAll ds<=1048576:=z
  obtain⟨A,h1,h2⟩:=Dy ds _ ET p λ d hd=>aV (Cb hd) z2
  have k:∀b∈A,b∈a::A:=λ b hb=>aP _ hb
  refine⟨a::A,bU ..,λ b hb=>?_⟩
  rcases List.mem_cons.mp hb with e|m
  ·rw[e]
   exact⟨vs,SW (by rw[wq ET];exact aV (iS ds) z2),λ u hu=>(h1 u hu).mono k,.inr ho⟩
  ·exact(h2 b m).mono k
 | .float _,_,_,p,_=>cg (show false=true from p)
 | .dict _,_,_,p,_=>cg (show false=true from p)
 | .bytearray _,_,_,p,_=>cg (show false=true from p)
 | .set _,_,_,p,_=>cg (show false=true from p)
 | .frozenset _,_,_,p,_=>cg (show false=true from p)
 | .obj _ _,_,_,p,_=>cg (show false=true from p)
theorem Dy:∀(ds:List WData) (vs:List ao),WellAll P h vs ds->GV ds=true->(∀d∈ds,d.weight<=1048576)->∃A:List ag,(∀u∈vs,Us A u)/\∀a∈A,zI h A a
 |[],_,x,_,_=>by
  cases x
  exact⟨[],λ u m=>absurd m (by simp),λ a m=>absurd m (by simp)⟩
 |d::ds,_,x,p,z=>by
  obtain⟨v,vs,rfl,x1,x2⟩:=KC x
  have q:SV d=true/\GV ds=true:=Bool.and_eq_true_iff.mp p
  obtain⟨A,a1,a2⟩:=WA d v x1 q.1 (z d (bU ..))
  obtain⟨B,b1,b2⟩:=Dy ds vs x2 q.2 λ e he=>z e (aP _ he)
  have kA:∀b∈A,b∈A++B:=λ b hb=>List.mem_append.mpr (.inl hb)
  have kB:∀b∈B,b∈A++B:=λ b hb=>List.mem_append.mpr (.inr hb)
  refine⟨A++B,λ u hu=>?_,λ b hb=>?_⟩
  ·rcases List.mem_cons.mp hu with e|m
   ·rw[e]
    exact a1.mono kA
   ·exact(b1 u m).mono kB
  ·rcases List.mem_append.mp hb with m|m
   ·exact(a2 b m).mono kA
   ·exact(b2 b m).mono kB
end
end
def ZF(o:Obj):Option HO:=match o.data with
 | .seq vs _=>if(o.cls == Value.type "list")=true then some (.Kk o (.lst (vs.toList.map toV)))else some (.Kk o (.tup (vs.toList.map toV)))
 |_=>none
def xX(K:ah)(h:bF)(A:List ag):Hp:=λ b=>if b∈A then(if(K.lookup b).isNone=true then(h.get? b).bind ZF else none)else none
def NN(H:Hp):Prop:=∀b,H b=none\/∃o u,H b=some (.Kk o u)
theorem NO(vs:List ao):ZF { cls:=.type "list",data:=.seq vs.toArray }=some (.Kk { cls:=.type "list",data:=.seq vs.toArray } (.lst (vs.map toV))):=by
 show(if(Value.type "list" == Value.type "list")=true then some (HO.Kk { cls:=.type "list",data:=.seq vs.toArray } (.lst (vs.toArray.toList.map toV)))else some (HO.Kk { cls:=.type "list",data:=.seq vs.toArray } (.tup (vs.toArray.toList.map toV))))=_
 rw[if_pos (beq_self_eq_true _)]
theorem NP(vs:List ao):ZF { cls:=.type "tuple",data:=.seq vs.toArray }=some (.Kk { cls:=.type "tuple",data:=.seq vs.toArray } (.tup (vs.map toV))):=by
 show(if(Value.type "tuple" == Value.type "list")=true then some (HO.Kk { cls:=.type "tuple",data:=.seq vs.toArray } (.lst (vs.toArray.toList.map toV)))else some (HO.Kk { cls:=.type "tuple",data:=.seq vs.toArray } (.tup (vs.toArray.toList.map toV))))=_
 rw[if_neg (by decide)]
section
variable{P:aK}{w:bj}{K:ah}{h:bF}{A:List ag}
theorem G9{b:ag}{o:Obj}(hb:b∈A)(hk:K.lookup b=none)(e:h.get? b=some o):xX K h A b=ZF o:=by
 unfold xX
 rw[if_pos hb,hk,if_pos (show(none:Option Obj).isNone=true from rfl),e] <;> rfl
theorem ZG{b:ag}{u:HO}(q:xX K h A b=some u):b∈A/\K.lookup b=none:=by
 unfold xX at q
 by_cases hb:b∈A
 ·rw[if_pos hb]at q
  cases hk:K.lookup b with
  |none=>exact⟨hb,rfl⟩
  |some o=>
   rw[hk,if_neg (by simp)]at q
   cases q
 ·rw[if_neg hb]at q
  cases q
theorem G_(ar:∀a∈A,zI h A a){b:ag}{u:HO}(q:xX K h A b=some u):K.lookup b=none/\∃vs:List ao,vs.length<=ay/\(∀u∈vs,Us A u)/\
  ((h.get? b=some { cls:=.type "list",data:=.seq vs.toArray }/\u= .Kk { cls:=.type "list",data:=.seq vs.toArray } (.lst (vs.map toV)))\/
   (h.get? b=some { cls:=.type "tuple",data:=.seq vs.toArray }/\u= .Kk { cls:=.type "tuple",data:=.seq vs.toArray } (.tup (vs.map toV)))):=by
 obtain⟨hb,hk⟩:=ZG q
 obtain⟨vs,h1,h2,h3⟩:=ar b hb
 refine⟨hk,vs,h1,h2,?_⟩
 rcases h3 with e|e
 ·rw[G9 hb hk e,NO]at q
  exact .inl ⟨e,(Option.some.inj q).symm⟩
 ·rw[G9 hb hk e,NP]at q
  exact .inr ⟨e,(Option.some.inj q).symm⟩
theorem Ut(ar:∀a∈A,zI h A a):NN (xX K h A):=λ b=>by
 cases q:xX K h A b with
 |none=>exact .inl rfl
 |some u=>
  obtain⟨_,vs,_,_,⟨_,e⟩|⟨_,e⟩⟩:=G_ ar q
  ·exact .inr ⟨_,_,by rw[e]⟩
  ·exact .inr ⟨_,_,by rw[e]⟩
theorem ZH(ar:∀a∈A,zI h A a):zL P w (xX K h A) h:=λ b u q=>by
 obtain⟨_,vs,h1,h2,⟨e,rfl⟩|⟨e,rfl⟩⟩:=G_ ar q
 ·exact⟨e,by rw[aa];exact h1,vs,_,xI h2,e⟩
 ·exact⟨e,by rw[aa];exact h1,vs,xI h2,_,e,rfl,_,rfl⟩
theorem Ha{c c':ao}{vs us:List ao}(e:(some { cls:=c,data:=.seq vs.toArray }:Option Obj)=some { cls:=c',data:=.seq us.toArray }):c=c'/\vs=us:=by
 have e1:=Option.some.inj e
 have e2:c=c':=congrArg Obj.cls e1
 have e3:Data.seq vs.toArray=Data.seq us.toArray:=congrArg Obj.data e1
 injection e3 with e4
 refine⟨e2,?_⟩
 have e5:=congrArg Array.toList e4
 simpa using e5
theorem aeI(KX:K.In h)(ar:∀a∈A,zI h A a){a:ag}{vs:List ao}(ha:a∈A)(e:h.get? a=some { cls:=.type "list",data:=.seq vs.toArray }):(∀u∈vs,Us A u)/\nA K (xX K h A) a (vs.map toV):=by
 obtain⟨us,h1,h2,h3⟩:=ar a ha
 have hu:us=vs:=by
  rcases h3 with q|q
  ·rw[e]at q
   exact(Ha q).2.symm
  ·rw[e]at q
   exact absurd (Value.type.inj (Ha q).1) (by decide)
 subst hu
 refine⟨h2,?_⟩
 cases hk:K.lookup a with
 |none=>exact .inl (.inr ⟨_,by rw[G9 ha hk e,NO]⟩)
 |some o=>
  have e2:=KX a o hk
  rw[e]at e2
  obtain rfl:=Option.some.inj e2
  exact .inr ⟨_,us.toArray,_,hk,rfl,rfl,rfl,by rw[aL];exact h1,by simpa using xI h2⟩
theorem aeJ(KX:K.In h)(ar:∀a∈A,zI h A a){a:ag}{vs:List ao}(ha:a∈A)(e:h.get? a=some { cls:=.type "tuple",data:=.seq vs.toArray }):(∀u∈vs,Us A u)/\BG K (xX K h A) a (vs.map toV):=by
 obtain⟨us,h1,h2,h3⟩:=ar a ha
 have hu:us=vs:=by
  rcases h3 with q|q
  ·rw[e]at q
   exact absurd (Value.type.inj (Ha q).1) (by decide)
  ·rw[e]at q
   exact(Ha q).2.symm
 subst hu
 refine⟨h2,?_⟩
 cases hk:K.lookup a with
 |none=>exact .inl (.inr ⟨_,by rw[G9 ha hk e,NP]⟩)
 |some o=>
  have e2:=KX a o hk
  rw[e]at e2
  obtain rfl:=Option.some.inj e2
  exact .inr ⟨_,us.toArray,_,hk,rfl,rfl,by rw[aL];exact h1,by simpa using xI h2⟩
mutual
theorem abT{Pm:jb}(KX:K.In h)(ar:∀a∈A,zI h A a):∀(d:WData) (v:ao),Well Pm h v d->SV d=true->Us A v->Dw K (xX K h A) (toV v) d
 | .none,_,x,_,_=>by
  cases x
  exact .qt
 | .bool b,_,x,_,_=>by
  cases x
  exact .bl b
 | .int i,_,x,_,_=>by
  cases x
  exact .int i
 | .str s,_,x,_,_=>by
  cases x
  exact .str s
 | .bytes b,_,x,_,_=>by
  cases x
  have z:=Dw.Lx (K:=K) (H:=xX K h A) b.toArray
  exact z
 | .list ds,_,x,p,hu=>by
  obtain⟨a,vs,rfl,ho,ET⟩:=KA x
  obtain⟨h2,hs⟩:=aeI KX ar hu ho
  exact .lst hs (LW KX ar ds _ ET p h2)
 | .tuple ds,_,x,p,hu=>by
  obtain⟨a,vs,rfl,ho,ET⟩:=HH x
  obtain⟨h2,hs⟩:=aeJ KX ar hu ho
  exact .tup hs (LW KX ar ds _ ET p h2)
 | .float _,_,_,p,_=>cg (show false=true from p)
 | .dict _,_,_,p,_=>cg (show false=true from p)
 | .bytearray _,_,_,p,_=>cg (show false=true from p)
 | .set _,_,_,p,_=>cg (show false=true from p)
 | .frozenset _,_,_,p,_=>cg (show false=true from p)
 | .obj _ _,_,_,p,_=>cg (show false=true from p)
theorem LW{Pm:jb}(KX:K.In h)(ar:∀a∈A,zI h A a):∀(ds:List WData) (vs:List ao),WellAll Pm h vs ds->GV ds=true->(∀u∈vs,Us A u)->zH K (xX K h A) (vs.map toV) ds
 |[],_,x,_,_=>by
  cases x
  exact .nil
 |d::ds,_,x,p,hu=>by
  obtain⟨v,vs,rfl,x1,x2⟩:=KC x
  have q:SV d=true/\GV ds=true:=Bool.and_eq_true_iff.mp p
  exact .cons (abT KX ar d v x1 q.1 (hu _ (bU ..))) (LW KX ar ds vs x2 q.2 λ u m=>hu u (aP _ m))
end
end
theorem Uu{P:aK}{w:bj}{K:ah}{mg mb:Str->Option ao}{CX:ED}{k:Nat}{fa:ag}{fd:bP}{ps:List Str}{sp:Sp}{s₁:au}{vals:List ao}{ds:List WData}{R:ka}{cl:Str->Option ag}{d0:WData}
  (KX:K.In s₁.heap)(WB:s₁.heap.Ns aR mg)(hb:s₁.heap.Ns lR mb)(hbb:∀x:Str,x≠"__name__"->mb x=gm x)(aeK:s₁.heap.NoLimit)(hg:s₁.gens= #[])
  (KD:WellAll w.params s₁.heap vals ds)(vo:GV ds=true)(hwt:∀d∈ds,d.weight<=1048576)(hr:rb k jK)
  (F:∀base:bF,K.In base->base.Ns aR mg->nO P w K mg base CX k fa fd ps sp)(adC:∀(s:au) (us:List ao),us.length=ps.length->jL s fd ⟨us,[]⟩ (ps.zip us))(hlen:ds.length=ps.length)
  (Uj:∀(H:Hp) (xs:List V),NN H->zH K H xs ds->sp xs H (λ v H'=>Dw K H' v d0) λ _ _ _=>False)
  (hCX:∀H e s',CX [] H s₁ (λ _ _ _=>False) e s'->False):
  il (aU P w) jK (.call (.ref fa) ⟨vals,[]⟩) (λ r s'=>∃u as,r= .ok (.ret u)/\ReadsW R cl s'.heap u d0 as/\OldK s₁.heap s'.heap/\s'.os=s₁.os/\iM s'.gens) s₁:=by
 obtain⟨A,ho,ar⟩:=Dy ds vals KD vo hwt
 have hO:NN (xX K s₁.heap A):=Ut ar
 have oW:zL P w (xX K s₁.heap A) s₁.heap:=ZH ar
 have hS:=LW KX ar ds vals KD vo ho
 have hV:=xI ho
 have hK:∀b u,xX K s₁.heap A b=some u->K.lookup b=none:=λ b u q=>(G_ ar q).1
 have noA:∀{b:ag} {o:Obj} {es:Array DictEntry} {ep:Nat},s₁.heap.get? b=some o->o.data= .dict es ep->xX K s₁.heap A b=none:=λ{b o es ep} e d=>by
  cases q:xX K s₁.heap A b with
  |none=>rfl
  |some u=>
   obtain⟨_,vs,_,_,⟨e2,_⟩|⟨e2,_⟩⟩:=G_ ar q
   ·rw[e2]at e
    cases e
    have d':Data.seq vs.toArray _=Data.dict es ep:=d
    cases d'
   ·rw[e2]at e
    cases e
    have d':Data.seq vs.toArray _=Data.dict es ep:=d
    cases d'
 generalize xX K s₁.heap A=H at hO oW hS hK noA
 have SX:∀{b:ag} {o:Obj},s₁.heap.get? b=some o->H b=none->(Ly s₁.heap H).get? b=some o:=λ e n=>Wa e n
 have nsK:∀{b:ag} {m:Str->Option ao},s₁.heap.Ns b m->(Ly s₁.heap H).Ns b m:=λ{b m} ⟨o,es,ep,e,d,r⟩=>⟨o,es,ep,SX e (noA e d),d,r⟩
 have nK:∀b o,K.lookup b=some o->H b=none:=λ b o e=>by
  cases q:H b with
  |none=>rfl
  |some u=>
   rw[hK b u q]at e
   cases e
 have hKb:K.In (Ly s₁.heap H):=λ b o e=>SX (KX b o e) (nK b o e)
 have hM:Mod K mg (Ly s₁.heap H):=⟨hKb,nsK WB,⟨mb,nsK hb,hbb⟩,let⟨mc,h1,h2⟩:=aeK;⟨mc,nsK h1,h2⟩⟩
 have e0:Nz P w K mg (Ly s₁.heap H) jK [] s₁ H:=⟨rfl,hM,λ b o e=>Ze e,iW (Ub _ _),trivial,λ b hb=>absurd (show b∈([]:List ag)from hb) (by simp),oW,.of_eq hg⟩
 have hl:vals.length=ps.length:=by rw[wq KD];exact hlen
 refine fB ((F _ hKb (nsK WB)).run jK [] s₁ H ⟨vals,[]⟩ vals (vals.map toV) _ _ hr e0 (adC s₁ vals hl) hV (Uj H _ hO hS)) λ r s' x=>?_
 cases r with
 |error e=>exact(hCX H e s' x).elim
 |ok fl=>
  cases fl with
  |next=>exact False.elim x
  |brk=>exact False.elim x
  |cont=>exact False.elim x
  |ret u=>
   obtain⟨v,H',os,bare,un,adD,r',q⟩:=x
   have kept:∀b o,s₁.heap.get? b=some o->s'.heap.get? b=some o:=λ b o e=>by
    cases q2:H b with
    |none=>exact un.keep b o e q2 (by intro z;exact absurd (show b∈([]:List ag)from z) (by simp)) (by simp)
    |some u2=>
     rcases hO b with z|⟨ob,u3,z⟩
     ·rw[q2]at z
      cases z
     ·have z2:=un.Hr b ob _ z
      obtain⟨e1,_⟩:=oW b _ z
      obtain⟨e2,_⟩:=adD b _ z2
      rw[e]at e1
      cases e1
      exact e2
   have KX':K.In s'.heap:=λ b o e=>kept b o (KX b o e)
   obtain⟨as,Y0⟩:=Dw.reads (R:=R) (cl:=cl) adD KX' d0 v u q r'
   exact⟨u,as,rfl,Y0,OldK.of_keep kept,os,bare⟩
theorem HI{ds:List WData}(h:WData.layableAll ds=true):∀d∈ds,d.weight<=1048576:=λ d hd=>
 (PySem.W.layableW_iff.mp (List.all_eq_true.mp h d hd)).2.2
theorem HJ:∀(cs:List Codec) (a:Codec.denoteAll cs),(Codec.encAll cs a).length=cs.length
 |[],_=>rfl
 |c::cs,a=>by
  show(Codec.encAll cs a.2).length+1=cs.length+1
  rw[HJ cs a.2]
theorem Uv{r:OpenSpec}{k:Nat}{q:aK}{loose:List Str}{XP:(Str->Option ao)->bF->Prop}{YP:bj->bF->Prop}{d:DefRec}{K:jb->ah}{CX:bj->ED}{ps:List Str}{sp:bj->Sp}
  (WC:r.wellSaid=true)(hdf:d.params.defaults=[])(hlen:r.args.length=ps.length)(hr:rb k jK)
  (hY:∀(w:bj) (h:bF),YP w h->(K w.params).In h)
  (F:∀(w:bj) (mg:Str->Option ao) (fa:ag) (h:bF),YP w h->(K w.params).In h->h.Ns aR mg->mg d.name=some (.ref fa)->
   ∃fd:bP,(∀(s:au) (us:List ao),us.length=ps.length->jL s fd ⟨us,[]⟩ (ps.zip us))/\
    ∀base:bF,(K w.params).In base->base.Ns aR mg->nO r.prog w (K w.params) mg base (CX w) k fa fd ps (sp w))
  (Uj:∀(w:bj) (H:Hp) (xs:List V) (a:Codec.denoteAll r.args),NN H->Codec.withinAll r.args a=true->Codec.app r.args r.asked a=true->zH (K w.params) H xs (Codec.encAll r.args a)->
   sp w xs H (λ v H'=>Dw (K w.params) H' v (r.ret.enc (Codec.app r.args r.f a))) λ _ _ _=>False)
  (hCX:∀(w:bj) (H:Hp) (s:au) (e:ao) (s':au),CX w [] H s (λ _ _ _=>False) e s'->False):
  kH q loose XP YP r d [] (λ f vs=>mv f vs):=by
 intro w JY s₁ mg mb G Y fa o pm cd doc dV kV ho hd PF hD hmg hg args vals as aeL aeM Y0 KD hlo
 obtain⟨a,e1,e2⟩:=PySem.W.os_pre_some aeL
 obtain⟨e3,hwi⟩:=Codec.encAll_of_decAll r.args args a e1
 subst e3
 have KX:=hY w _ Y
 obtain⟨fd,hb,hF⟩:=F w mg fa _ Y KX G.T.g hmg
 refine PySem.W.enter_call (fB (Uu (R:=[]) (cl:=classAt JY.heap) (d0:=r.ret.enc (Codec.app r.args r.f a)) KX G.T.g G.T.b G.T.builtins G.T.nolimit hg KD (Kz _ _) (HI aeM) hr hF hb (by rw[HJ];exact hlen)
  (λ H xs hO hS=>Uj w H xs a hO hwi e2 hS) λ H e s'=>hCX w H s₁ e s') λ r' s' hq=>?_)
 obtain⟨u,EF,rfl,h1,h2,h3,h4⟩:=hq
 exact⟨.inl ⟨u,_,EF,rfl,λ _=>rfl,h1,(OpenSpec.post_iff WC hwi _ _).mpr rfl,λ z=>cg (show false=true from z)⟩,h2,h3,h4⟩
theorem Qo{r:OpenSpec}{k:Nat}{q:aK}{loose:List Str}{XP:(Str->Option ao)->bF->Prop}{YP:bj->bF->Prop}{d:DefRec}{K:jb->ah}{CX:ED}{ps:List Str}{sp:ah->Sp}
  (WC:r.wellSaid=true)(hdf:d.params.defaults=[])(hlen:r.args.length=ps.length)(hr:rb k jK)
  (hY:∀(w:bj) (h:bF),YP w h->(K w.params).In h)
  (F:∀(w:bj) (mg:Str->Option ao) (fa:ag) (h:bF),YP w h->(K w.params).In h->h.Ns aR mg->mg d.name=some (.ref fa)->
   ∃fd:bP,(∀(s:au) (us:List ao),us.length=ps.length->jL s fd ⟨us,[]⟩ (ps.zip us))/\
    ∀base:bF,(K w.params).In base->base.Ns aR mg->nO r.prog w (K w.params) mg base CX k fa fd ps (sp (K w.params)))
  (Uj:∀(K:ah) (H:Hp) (xs:List V) (a:Codec.denoteAll r.args),NN H->Codec.withinAll r.args a=true->Codec.app r.args r.asked a=true->zH K H xs (Codec.encAll r.args a)->
   sp K xs H (λ v H'=>Dw K H' v (r.ret.enc (Codec.app r.args r.f a))) λ _ _ _=>False)
  (hCX:∀(H:Hp) (s:au) (e:ao) (s':au),CX [] H s (λ _ _ _=>False) e s'->False):
  kH q loose XP YP r d [] (λ f vs=>mv f vs):=
 Uv (K:=K) (CX:=λ _=>CX) (sp:=λ w=>sp (K w.params)) WC hdf hlen hr hY F (λ w H xs a h1 h2 h3 h4=>Uj (K w.params) H xs a h1 h2 h3 h4) λ _ H s e s'=>hCX H s e s'
end L2
end
section
namespace L2
open PySem PySem.Spec PyProof.Rows
structure tG(K:ah)(C:ag):Prop where
 cd:∃cd,ji K C=some cd/\cd.mro=[.ref C,.type "Exception",.type "BaseException",.type "object"]/\cd.hasDict=true
 sa:bw K (.ref C) "__setattr__"=some (some (.builtin "object.__setattr__"))
 ga:bw K (.ref C) "__getattribute__"=some (some (.builtin "BaseException.__getattribute__"))
theorem Qp(self:ao)(C:ag):refuseLoop self "__setattr__" [.ref C,.type "Exception",.type "BaseException",.type "object"]=pure ():=by
 rw[refuseLoop_ref]
 kernel_rfl
section
variable{prog:aK}{w:bj}{A:bV}{E:ao->au->Prop}{s:au}{K:ah}{x C:ag}{ox:Obj}{od:Option Obj}{name:Str}{v:ao}
open PySem.W in
theorem SY{R:lS->au->Prop}{tk:Tok}(X:K.In s.heap)(I:kI s.heap x ox C od)(EC:tG K C)(hn:oA K C name)
  (h:∀b,aT (aU prog w) A.in1 (Builtin.ObjectAttr.storeInOwnDict (.ref x) (.ref C) (.str name tk) name v b)
   (λ fin s'=>match fin with | .done f=>R (.ok f) s'| .again c'=>c'.quiet=true/\il (aU prog w) A c' R s') (λ e s'=>R (.error e) s') s):
  il (aU prog w) A (.call (.builtin "object.__setattr__") ⟨[.ref x,.str name tk,v],[]⟩) R s:=by
 have SF:=PySem.F.store_object
 obtain⟨cd,hc,LX,hd⟩:=EC.cd
 have sub:Looks (aU prog w) s.heap (lQ (.ref x) (.type "object")) true:=I.type.andThen (looks_mroIn X (by unfold mroIn;rw[hc,dE,LX];rfl))
 refine iG SF.slot.plain SF.entry (@check_slot (aU prog w) _ _ s "object.__setattr__" "object" "__setattr__" (.ref x) [.str name tk,v] [] _ SF.kind SF.split sub (SF.args (.ref x) (.str name tk) v) ?_)
 have hm:Looks (aU prog w) s.heap (mroOf (.ref C)) cd.mro:=(looks_clsIn X hc).andThen .now
 rw[osa_eq,refuse_eq]
 refine aq (aq (I.type.here (aq (hm.here ?_))))
 rw[LX,Qp]
 refine aM (aq (I.type.here (aq ((looks_findIn X hn).here (aq (Looks.now.here ?_))))))
 exact h _
open PySem.W in
theorem WD{vs:Array ao}{Q:Unit->au->Prop}(X:K.In s.heap)(hx:s.heap.get? x=some ⟨.ref C,none,.fields vs,#[]⟩)(EC:tG K C)(hn:oA K C name)
  (h:∀h',h'.get? x=some ⟨.ref C,some s.heap.objs.size,.fields vs,#[]⟩->h'.Ns1 s.heap.objs.size (λ y=>if y=name then some v else none)->(∀b o,b≠x->s.heap.get? b=some o->h'.get? b=some o)->Q () { s with heap:=h',toks:=s.toks+2 }):
  aT (aU prog w) A (me (.ref x) name v) Q E s:=by
 have I:InstAt s.heap x ⟨.ref C,none,.fields vs,#[]⟩ C none:=⟨hx,rfl,rfl,True.intro⟩
 refine set_plain X I EC.sa (SY (s:={ s with toks:=s.toks+1 }) X I EC hn λ b=>?_)
 obtain⟨cd,hc,LX,VR⟩:=EC.cd
 refine aq (aM (aq (aq (jR hx (aq (PySem.W.Looks.here (s:={ s with toks:=s.toks+1 }) (gZ X hc) ?_))))))
 rw[VR]
 have e1:(s.heap.push emptyDict).get? s.heap.objs.size=some emptyDict:=Heap.get?_push_size s.heap rfl
 have hx1:=Heap.get?_push_of_some (h:=s.heap) emptyDict hx
 have rL:=Heap.lt_size hx
 have Dz:=Heap.get?_update_self (λ o=>{ o with dict:=some s.heap.objs.size }) hx1 rfl
 have e2:((s.heap.push emptyDict).update x λ o=>{ o with dict:=some s.heap.objs.size }).get? s.heap.objs.size=some emptyDict:=by
  rw[Heap.get?_update_other _ _ (bK rL)];exact e1
 have e3:((s.heap.push emptyDict).update x λ o=>{ o with dict:=some s.heap.objs.size }).Ns s.heap.objs.size (λ _=>none):=⟨emptyDict,#[],_,e2,rfl,(λ e he=>absurd he (by simp)),λ _=>rfl⟩
 refine aq (wpAny_alloc (aq (wpAny_update hx1 (aM (aq (aM (aq ?_)))))))
 refine kL (s:={ s with heap:=(s.heap.push emptyDict).update x λ o=>{ o with dict:=some s.heap.objs.size },toks:=s.toks+1 }) (Heap.Ns1.of_empty e3) λ h' Sx Ud=>?_
 have wi:eT (λ _:Str=>(none:Option ao)) []:=λ y hy=>absurd rfl hy
 obtain⟨oD,esD,epD,hoD,hdD,hcD⟩:=Sx.count (PySem.Within.cons name v wi)
 refine aq (jt hoD (by rw[hdD];exact jv (aV hcD (by simp[aA]))) ?_)
 refine aM (h _ ((Ud.2 _ (bK rL)).trans Dz) Sx λ b o hb e=>?_)
 rw[Ud.2 b (bK (Heap.lt_size e))]
 show((s.heap.push emptyDict).update x _).get? b=_
 rw[Heap.get?_update_other _ _ (Ne.symm hb)]
 exact Heap.get?_push_of_some _ e
open PySem.W in
theorem WE{vs:Array ao}{dx:ag}{mA:Str->Option ao}{ns:List Str}{Q:Unit->au->Prop}(X:K.In s.heap)(hx:s.heap.get? x=some ⟨.ref C,some dx,.fields vs,#[]⟩)(xG:dx≠x)(WB:s.heap.Ns1 dx mA)(EC:tG K C)(hn:oA K C name)
  (hw:eT mA ns)(hsz:ns.length<=100)
  (h:∀h',h'.get? x=some ⟨.ref C,some dx,.fields vs,#[]⟩->h'.Ns1 dx (λ y=>if y=name then some v else mA y)->(∀b o,b≠dx->s.heap.get? b=some o->h'.get? b=some o)->Q () { s with heap:=h',toks:=s.toks+2 }):
  aT (aU prog w) A (me (.ref x) name v) Q E s:=by
 obtain⟨od,hod⟩:∃od,s.heap.get? dx=some od:=let⟨o,_,_,e,_⟩:=WB;⟨o,e⟩
 have I:InstAt s.heap x ⟨.ref C,some dx,.fields vs,#[]⟩ C (some od):=⟨hx,rfl,rfl,hod⟩
 refine set_plain X I EC.sa (SY (s:={ s with toks:=s.toks+1 }) X I EC hn λ b=>?_)
 obtain⟨cd,hc,LX,VR⟩:=EC.cd
 refine aq (aM (aq (aq (jR hx (aq (PySem.W.Looks.here (s:={ s with toks:=s.toks+1 }) (gZ X hc) ?_))))))
 rw[VR]
 refine aM (a:=some dx) (aq (aM (aq ?_)))
 refine kL (s:={ s with toks:=s.toks+1 }) WB λ h' Sx Ud=>?_
 obtain⟨oD,esD,epD,hoD,hdD,hcD⟩:=Sx.count (PySem.Within.cons name v hw)
 refine aq (jt hoD (by rw[hdD];exact jv (aV hcD (by rw[aD,aA];omega))) ?_)
 exact aM (h _ ((Ud.2 _ (Ne.symm xG)).trans hx) Sx λ b o hb e=>(Ud.2 b hb).trans e)
end
end L2
namespace L2
open PySem PySem.Spec PyProof.Rows
theorem LY:builtinKind "BaseException.__getattribute__"=some .slot:=by decide +kernel
theorem J2:splitId "BaseException.__getattribute__"=some ("BaseException","__getattribute__"):=by decide +kernel
section
variable{prog:aK}{w:bj}{A:bV}{E:ao->au->Prop}{s:au}{K:ah}{x C:ag}{ox:Obj}{od:Option Obj}{name:Str}{v:ao}
open PySem.W in
theorem ZI{expr:Bool}{Q:ao->au->Prop}(X:K.In s.heap)(I:InstAt s.heap x ox C od)(EC:tG K C)(hk:findIn K (.ref C) "__getattr__"=some none)
  (hf:findObj K C od name=some (.value v))(hh:handedIn v=true)(h:Q v { s with toks:=s.toks+1 }):aT (aU prog w) A (kO (.ref x) name expr) Q E s:=by
 obtain⟨hh',g,d,t,os⟩:=s
 have L0:=I.type (M:=aU prog w)
 have L1:=looks_findIn (M:=aU prog w) X EC.ga
 have L2:=looks_findIn (M:=aU prog w) X hk
 have L3:=looks_find (M:=aU prog w) X I hf
 obtain⟨cd,hc,LX,hd⟩:=EC.cd
 have sub:Looks (aU prog w) hh' (lQ (.ref x) (.type "BaseException")) true:=I.type.andThen (looks_mroIn X (by unfold mroIn;rw[hc,dE,LX];rfl))
 unfold kO getAttrBy
 refine aq (wpAny_mkText (fO (aq (L0.at (aq (L1.at ?_))))))
 have Dz:(Value.builtin "BaseException.__getattribute__" == Value.builtin "object.__getattribute__")=false:=by decide +kernel
 dsimp only
 rw[Dz,lG,if_neg (by decide)]
 unfold getAttrByItsOwn
 refine aq (L2.at ?_)
 refine aq (kb (fO ?_))
 unfold callGetattribute
 have hx0:(expr && onTheHeap (Value.builtin "BaseException.__getattribute__"))=false:=by cases expr <;> rfl
 rw[hx0,if_neg (by decide)]
 unfold boundAndCalled
 have FX:Slot "BaseException" "__getattribute__" "BaseException.__getattribute__":=.of (owner:="BaseException") (n:="__getattribute__") (by rw[typeLookup_type,builtinLookup_eq_fast];kernel_rfl) (by decide +kernel) (by decide +kernel) (by decide +kernel)
  (by first|exact .inl (by decide +kernel)|exact .inr (by decide +kernel)) (by rw[isSubtype_type];kernel_rfl)
 rw[FX.bind]
 refine aq (aM (i_ ?_))
 refine iG FX.plain PySem.F.entry_bexc_ga (@check_slot (aU prog w) _ _ _ "BaseException.__getattribute__" "BaseException" "__getattribute__" (.ref x) [.str name t] [] _ LY J2 sub (PySem.F.args_bexc_ga _ _) ?_)
 unfold jd.«object.__getattribute__»
 refine aq (aM (aq (aM (aq (L0.at (aq (L3.at ?_)))))))
 refine aM ?_
 show aT _ _ (handedOut v) _ _ _
 rw[handedOut_of hh];exact aM h
end
end L2
namespace L2
open PySem PySem.Spec PyProof.Rows
def aa1(C:ag)(dx:Option ag)(tv:ao)(o:Obj):Prop:=∃vs:Array ao,o=⟨.ref C,dx,.fields vs,#[]⟩/\vs[1]? =some tv
def FN(C e:ag)(dx:Option ag)(tv:ao):HO:=.ext λ h=>∃o,h.get? e=some o/\aa1 C dx tv o
def ZJ(T:ag)(fl:ao):HO:=.ext λ h=>∃o ts,h.get? T=some o/\o.data= .fields ts/\ts[3]? =some fl
theorem rW{P:aK}{w:bj}{H:Hp}{h:bF}{C e:ag}{dx:Option ag}{tv:ao}:pN P w H h e (FN C e dx tv)↔ ∃o,h.get? e=some o/\aa1 C dx tv o:=by
 constructor
 ·intro z
  exact z.1
 ·intro z
  obtain⟨o,e1,f⟩:=z
  exact⟨⟨o,e1,f⟩,⟨o,e1⟩,λ h1 h2 ⟨o',e2,f'⟩ k=>⟨o',k o' e2,f'⟩⟩
theorem HK{P:aK}{w:bj}{H:Hp}{h:bF}{T:ag}{fl:ao}:pN P w H h T (ZJ T fl)↔ ∃o ts,h.get? T=some o/\o.data= .fields ts/\ts[3]? =some fl:=by
 constructor
 ·intro z
  exact z.1
 ·intro z
  obtain⟨o,ts,e1,f⟩:=z
  exact⟨⟨o,ts,e1,f⟩,⟨o,e1⟩,λ h1 h2 ⟨o',ts',e2,f'⟩ k=>⟨o',ts',k o' e2,f'⟩⟩
def NE(H H':Hp):Prop:=∀b o,H b=some o->(∀φ,o≠ .ext φ)->H' b=some o
theorem NE.refl(H:Hp):NE H H:=λ _ _ e _=>e
theorem NE.trans{H H1 H2:Hp}(a:NE H H1)(b:NE H1 H2):NE H H2:=λ c o e n=>b c o (a c o e n) n
theorem NE.upd{H:Hp}{a:ag}{o:HO}(h:H a=none\/∃φ,H a=some (.ext φ)):NE H (upd H a o):=λ b u e n=>by
 rw[mY]
 ·exact e
 ·rintro rfl
  rcases h with q|⟨φ,q⟩
  ·rw[q]at e;cases e
  ·rw[q]at e;cases e;exact n φ rfl
def S9(C L:ag)(H:Hp)(e:ag)(dx:Option ag):Prop:=
 H e=some (FN C e dx .none)\/∃T fl,H e=some (FN C e dx (.ref T))/\T≠e/\H T=some (ZJ T fl)/\(fl= .none\/fl=dM L)
def DA(C:ag)(fl:ao)(H:Hp)(e:ag)(dx:Option ag):Prop:=
 ∃T,H e=some (FN C e dx (.ref T))/\T≠e/\H T=some (ZJ T fl)
section
variable{X:Cx}{pins:List (ag×Obj)}{σ:St}{H:Hp}{s:au}
theorem Inv.slots{h':bF}(I:Inv X pins σ H s)(x:Heap.SlotsOnly (PQ X.stack) s.heap h'):Inv X pins σ H { s with heap:=h' }:=by
 refine I.call (g':=s.gens) (t':=s.toks) (d':=s.drawn) (ch:=[]) ⟨λ b o e n hb _=>(x.2.1 b hb).trans e,λ b o e n hb _=>x.2.2 b o e,λ b o e n _=>n,λ b o e _=>let⟨sl,q⟩:=x.2.2 b o e;⟨_,q⟩,
  λ _ _ q=>q,λ _ _ _ q=>q,λ _ ps q=>⟨#[],by rw[q];simp⟩⟩ ?_ I.bare (λ b z=>absurd z (by simp))
 intro a o e
 refine(I.oW a o e).EH (λ b u hb q=>?_) (λ _ q=>q) λ _ _ q=>q
 have hn:∀c u,H c=some u->c∉PQ X.stack:=λ c u q z=>by rw[I.Lz c z]at q;cases q
 rcases hb with rfl|hb
 ·exact(x.2.1 b (hn b o e)).trans q
 ·exact(x.2.1 b (hn b _ hb)).trans q
theorem Uw{C e T:ag}{dx:Option ag}{fl:ao}{fr:Option ag}{Q:Unit->au->Prop}{A:bV}{E:ao->au->Prop}{M:jF}(I:Inv X pins σ H s)(he:H e=some (FN C e dx (.ref T)))(ht:H T=some (ZJ T fl))(xG:T≠e)
  (h:∀s',Inv X pins σ (upd H T (ZJ T (fr.elim .none λ f=>dM f))) s'->Q () s'):aT M A (kq (.ref e) fr) Q E s:=by
 obtain⟨o,e1,vs,rfl,v1⟩:=rW.mp (I.oW e _ he)
 obtain⟨oT,ts,e2,d2,v2⟩:=HK.mp (I.oW T _ ht)
 unfold kq
 refine aq (cO e1 rfl v1 ?_)
 rw[if_pos (show(Value.ref T != Value.none)=true from by simp)]
 have hsz:3<ts.size:=(Array.getElem?_eq_some_iff.mp v2).1
 refine iF e2 d2 hsz (h _ ?_)
 have d3:=Obj.data_mapFields d2 (·.setIfInBounds 3 (fr.elim Value.none λ f=>dM f))
 have e3:=Heap.get?_update_self (Obj.mapFields (·.setIfInBounds 3 (fr.elim Value.none λ f=>dM f))) e2 (Obj.isFreed_of_fields d3)
 refine I.write (x:=T) (e:=T) (t':=s.toks) (by rw[ht];exact True.intro) (.inl rfl) (λ b u hb q=>?_) ⟨_,e3⟩ (HK.mpr ⟨_,_,e3,d3,by simp[hsz]⟩)
 rw[Heap.get?_update_other _ _ (Ne.symm hb)]
 exact q
theorem LZ{C e:ag}{dx:Option ag}{Q:Unit->au->Prop}{E:ao->au->Prop}{M:jF}(I:Inv X pins σ H s)(LG:X.stack=X.env::X.outer)(JT:X.env.frame=some X.env.locals)(fl:S9 C X.env.locals H e dx)
  (h:∀s' H',Inv X pins σ H' s'->DA C (dM X.env.locals) H' e dx->NE H H'->Q () s'):aT M X.A (mq (.ref e) X.env) Q E s:=by
 have entry:∀(head:ao) (b:Bool) (tv:ao) (H:Hp) (s:au),Inv X pins σ H s->H e=some (FN C e dx tv)->(∀s' H',Inv X pins σ H' s'->DA C (dM X.env.locals) H' e dx->NE H H'->Q () s')->
   aT M X.A (do setField (.ref e) 1 (<-EntryCells.newEntry head (<-frameOf X.env) .none (dM X.env.locals) .none (<-entryPlaceOf X.env.locals b))) Q E s:=by
  intro head b tv H s I he h
  have hF:s.heap.FunFrames X.base (X.env::X.outer):=by have q:=I.stack;rw[LG]at q;exact q
  refine aq (wpAny_frameOf_fun (by rw[I.ok.frames,LG]) hF JT λ h1 hs1=>?_)
  have I1:=I.slots (h':=h1) (by rw[LG];exact hs1)
  refine aq (wpAny_entryPlaceOf λ pl vo=>?_)
  unfold EntryCells.newEntry newFields
  refine aq (jj ?_ (vo.sizeOk5 _ _ _ _ _))
  obtain⟨o,e1,vs,rfl,v1⟩:=rW.mp (I1.oW e _ he)
  have e1:h1.get? e=some ⟨.ref C,dx,.fields vs,#[]⟩:=e1
  have I2:=I1.laid (a:=h1.objs.size) (o:=ZJ h1.objs.size (dM X.env.locals)) (t':=s.toks) (h':=h1.push { cls:=.type "traceback",dict:=none,data:=.fields ([head,.ref X.env.locals,.none,dM X.env.locals,.none]++(if pl.isEmpty then cH 6 Value.none else pl)).toArray })
   (λ b u q=>Heap.get?_push_of_some _ q) (ax _) (HK.mpr ⟨_,_,Heap.get?_push_size _ rfl,rfl,by simp⟩)
  have ne:h1.objs.size≠e:=fW (Heap.lt_size e1)
  have e2:=Heap.get?_push_of_some (h:=h1) { cls:=.type "traceback",dict:=none,data:=.fields ([head,.ref X.env.locals,.none,dM X.env.locals,.none]++(if pl.isEmpty then cH 6 Value.none else pl)).toArray } e1
  have hsz:1<vs.size:=(Array.getElem?_eq_some_iff.mp v1).1
  refine iF e2 rfl hsz ?_
  have e3:=Heap.get?_update_self (Obj.mapFields (·.setIfInBounds 1 (Value.ref h1.objs.size))) e2 rfl
  have he2:upd H h1.objs.size (ZJ h1.objs.size (dM X.env.locals)) e=some (FN C e dx tv):=by rw[mY (Ne.symm ne)];exact he
  refine h _ (upd (upd H h1.objs.size (ZJ h1.objs.size (dM X.env.locals))) e (FN C e dx (.ref h1.objs.size)))
   (I2.write (x:=e) (e:=e) (t':=s.toks) (by rw[he2];exact True.intro) (.inl rfl) (λ b u hb q=>?_) ⟨_,e3⟩ (rW.mpr ⟨_,e3,_,rfl,by simp[hsz]⟩))
   ⟨_,mX,ne,by rw[mY ne,mX]⟩ ((NE.upd (.inl (I1.oW.fresh (ax _)))).trans (NE.upd (.inr ⟨_,he2⟩)))
  rw[Heap.get?_update_other _ _ (Ne.symm hb)]
  exact q
 unfold mq
 simp only[JT]
 rcases fl with he|⟨T,fl,he,xG,ht,hfl⟩
 ·obtain⟨o,e1,vs,rfl,v1⟩:=rW.mp (I.oW e _ he)
  refine aq (cO e1 rfl v1 ?_)
  rw[if_neg (by decide)]
  exact entry _ _ _ H s I he h
 ·obtain⟨o,e1,vs,rfl,v1⟩:=rW.mp (I.oW e _ he)
  obtain⟨oT,ts,e2,d2,v2⟩:=HK.mp (I.oW T _ ht)
  refine aq (cO e1 rfl v1 ?_)
  rw[if_pos (show(Value.ref T != Value.none)=true from by simp)]
  refine aq (cO e2 d2 v2 ?_)
  rcases hfl with rfl|rfl
  ·rw[if_neg (show ¬ ((Value.none == dM X.env.locals)=true)from by simp[dM])]
   have hsz:3<ts.size:=(Array.getElem?_eq_some_iff.mp v2).1
   refine aq (iF e2 d2 hsz ?_)
   have d3:=Obj.data_mapFields d2 (·.setIfInBounds 3 Value.none)
   have e3:=Heap.get?_update_self (Obj.mapFields (·.setIfInBounds 3 Value.none)) e2 (Obj.isFreed_of_fields d3)
   have I2:=I.write (x:=T) (e:=T) (o:=ZJ T .none) (t':=s.toks) (h':=s.heap.update T (Obj.mapFields (·.setIfInBounds 3 Value.none))) (by rw[ht];exact True.intro) (.inl rfl) (λ b u hb q=>by rw[Heap.get?_update_other _ _ (Ne.symm hb)];exact q) ⟨_,e3⟩ (HK.mpr ⟨_,_,e3,d3,by simp[hsz]⟩)
   exact entry _ _ _ _ _ I2 (by rw[mY (Ne.symm xG)];exact he) λ s' H' I' n' k=>h s' H' I' n' ((NE.upd (.inr ⟨_,ht⟩)).trans k)
  ·rw[if_pos (show(dM X.env.locals == dM X.env.locals)=true from by first|(simp;done)|exact beq_self_eq_true _)]
   exact aM (h s H I ⟨T,he,xG,ht⟩ (NE.refl H))
end
end L2
namespace L2
open PySem PySem.Spec PyProof.Rows
def Calm(E:XK):Prop:=∀c d H H',NE H H'->E c d H->E c d H'
def Cc(P:aK)(w:bj)(C:ag):ED:=λ outer H s E e s'=>
 ∃a dx H',e= .ref a/\s'.os=s.os/\iM s'.gens/\Un (PQ outer) [] H H' s.heap s'.heap/\zL P w H' s'.heap/\DA C .none H' a (some dx)/\E (.ref C) (some dx) H'
def XW(X:Cx)(C:ag)(E:XK):ao->au->Prop:=λ e s'=>
 ∃a dx σ H',e= .ref a/\Inv X [] σ H' s'/\S9 C X.env.locals H' a (some dx)/\E (.ref C) (some dx) H'
theorem DA.adE{C L:ag}{H:Hp}{e:ag}{dx:Option ag}(n:DA C .none H e dx):S9 C L H e dx:=by
 obtain⟨T,h1,h2,h3⟩:=n
 exact .inr ⟨T,_,h1,h2,h3,.inl rfl⟩
theorem DA.here{C L:ag}{H:Hp}{e:ag}{dx:Option ag}(n:DA C (dM L) H e dx):S9 C L H e dx:=by
 obtain⟨T,h1,h2,h3⟩:=n
 exact .inr ⟨T,_,h1,h2,h3,.inr rfl⟩
theorem Inv.WG{X:Cx}{pins:List (ag×Obj)}{σ:St}{H:Hp}{s:au}(I:Inv X pins σ H s):Inv X [] σ H s:=I.LA λ p hp=>absurd hp (by simp)
section
variable{X:Cx}{pins:List (ag×Obj)}{σ:St}{H:Hp}{s:au}{C:ag}{E:XK}
theorem ph(hx:X.xe=XW X C E):Passes (Cc X.prog X.w C) X E:=by
 intro pins σ H s e s' I h
 obtain⟨a,dx,H',rfl,os,bare,un,oW,n,q⟩:=h
 rw[hx]
 exact⟨a,dx,σ,H',rfl,(I.aaT os un oW bare (λ b z=>absurd z (by simp))).WG,n.adE,q⟩
theorem uH{fl:ao}{fr:Option ag}{e:ag}{dx:Option ag}{Q:Unit->au->Prop}{A:bV}{E':ao->au->Prop}{M:jF}(I:Inv X pins σ H s)(n:DA C fl H e dx)
  (h:∀s' H',Inv X pins σ H' s'->DA C (fr.elim .none λ f=>dM f) H' e dx->NE H H'->Q () s'):aT M A (kq (.ref e) fr) Q E' s:=by
 obtain⟨T,h1,h2,h3⟩:=n
 exact Uw I h1 h3 h2 λ s' I'=>h s' _ I' ⟨T,by rw[mY (Ne.symm h2)];exact h1,h2,mX⟩ (NE.upd (.inr ⟨_,h3⟩))
theorem S_(LG:X.stack=X.env::X.outer)(JT:X.env.frame=some X.env.locals)(hx:X.xe=XW X C E)(hE:Calm E):mw (aU X.prog X.w) X.A X.env X.xe:=by
 rw[hx]
 rintro e s' ⟨a,dx,σ,H',rfl,I,fl,q⟩
 refine LZ I LG JT fl λ s1 H1 I1 n1 k1=>?_
 obtain⟨T,h1,h2,h3⟩:=id n1
 obtain⟨o,e1,vs,rfl,v1⟩:=rW.mp (I1.oW a _ h1)
 unfold cameBackBy
 refine aq (cO e1 rfl v1 ?_)
 rw[if_neg (show ¬ ((Value.ref T == Value.none)=true)from by simp)]
 rw[JT]
 refine uH I1 n1 λ s2 H2 I2 n2 k2=>⟨a,dx,σ,H2,rfl,I2,n2.here,hE _ _ _ _ (k1.trans k2) q⟩
end
theorem ZK{P:aK}{w:bj}{K:ah}{mg:Str->Option ao}{base:bF}{N:List Str}{qual:Str}{scope:eP}{f C:ag}{cd:ao}{A:bV}{outer:List Env}{s:au}{H:Hp}{E:XK}(hE:Calm E)(e:ao)(s':au)
  (h:XW (LK (Cc P w C) P w K mg base N qual scope f cd A outer s H E) C E e s'):(LK (Cc P w C) P w K mg base N qual scope f cd A outer s H E).xe e s':=by
 obtain⟨a,dx,σ,H1,rfl,I,fl,q⟩:=h
 show aT _ _ (leaving _ _) _ _ _
 unfold leaving
 refine aq (LZ I rfl rfl fl λ s1 H1 I1 n1 k1=>uH (fr:=none) I1 n1 λ s2 H2 I2 n2 k2=>?_)
 exact⟨a,dx,H2,rfl,I2.os,I2.bare,I2.base,I2.oW,n2,hE _ _ _ _ (k1.trans k2) q⟩
abbrev Cx.err(X:Cx)(C:ag)(E:XK):Cx:=X.xU (XW X C E)
theorem XW.xU{X:Cx}{C:ag}{E:XK}{E':ao->au->Prop}:XW (X.xU E') C E=XW X C E:=by
 funext e s'
 refine propext ⟨?_,?_⟩
 ·rintro⟨a,dx,σ,H',h1,I,h3⟩
  exact⟨a,dx,σ,H',h1,I.sE,h3⟩
 ·rintro⟨a,dx,σ,H',h1,I,h3⟩
  exact⟨a,dx,σ,H',h1,I.xU _,h3⟩
theorem Cx.oB(X:Cx)(C:ag)(E:XK):(X.err C E).xe=XW (X.err C E) C E:=XW.xU.symm
theorem LB.toX{X:Cx}{E':ao->au->Prop}{st:List bz}{t:TS}(h:LB (X.xU E') st t)(hE:∀e s,E' e s->X.xe e s):LB X st t:=λ pins s σ H D I hw=>
 cR (h pins s σ H D (I.xU _) hw) (λ _ _ q=>q.sE) hE
theorem pG.VW{P:aK}{w:bj}{K:ah}{mg:Str->Option ao}{base:bF}{x qual:Str}{st:bz}{f C:ag}{fd:bP}{N ps:List Str}{k:Nat}{sp:Sp}(F:pG K x qual st f fd)(S:m7 N ps (mZ st))(len:∀vs H Q E,sp vs H Q E->vs.length=ps.length)
  (calm:∀vs H Q E,sp vs H Q E->Calm E)
  (NB:∀(oU:ao) (A:bV) (outer:List Env) (s:au) (H:Hp) (vs:List V) (Q:VK) (E:XK),rb k (A.deeper (iI qual (mZ st) s.heap.objs.size f oU))->sp vs H Q E->
   ∃t,LB ((LK (Cc P w C) P w K mg base N qual (mZ st) f oU A outer s H E).err C E) (qH st) t/\t { nx:=λ _ H'=>Q .qt H',rt:=Q } (start N vs) H):nO P w K mg base (Cc P w C) (k+1) f fd ps sp:=by
 obtain⟨oc,od,kV,doc,pm,an,oU,ct,Ku,rfl,lk,PF⟩:=F.ex
 refine aaY lk PF S len λ A outer s H vs Q E hr Uj=>?_
 obtain⟨t,h,q⟩:=NB oU A outer s H vs Q E hr Uj
 exact⟨t,h.toX λ e s' z=>ZK (calm _ _ _ _ Uj) e s' z,q⟩
end L2
namespace L2
open PySem PySem.Spec PyProof.Rows
abbrev WH:List ao:=[.type "Exception",.type "BaseException",.type "object"]
structure ZL(K:ah)(C f:ag):Prop where
 obj:∃nm q N bs L4 sn sub ab col dd k0 k1 k2 k3 k5,K.lookup C=some (ll nm q C N bs WH L4 sn sub ab col dd k0 k1 k2 k3 k5 "Exception.__new__")/\
  ∃oN es ep,K.lookup N=some oN/\oN.data= .dict es ep/\StrKeys es/\mK es "__init__"=some (.ref f)
 fn:∃oI,K.lookup f=some oI/\oI.cls= .type "function"
 kp:bZ K (.ref C)=true
theorem pN.there{P:aK}{w:bj}{H:Hp}{h:bF}{a:ag}{o:HO}(x:pN P w H h a o):∃u,h.get? a=some u:=by
 cases o with
 |lst xs=>obtain⟨_,_,_,_,e⟩:=x;exact⟨_,e⟩
 |tup xs=>obtain⟨_,_,_,o,e,_⟩:=x;exact⟨_,e⟩
 |dK oF=>obtain⟨_,_,_,_,o,_,_,e,_⟩:=x;exact⟨_,e⟩
 |dT oF=>obtain⟨_,_,_,_,o,_,_,e,_⟩:=x;exact⟨_,e⟩
 |set S n=>obtain⟨o,_,_,_,e,_⟩:=x;exact⟨_,e⟩
 |ins C dx fs=>obtain⟨_,_,_,e,_⟩:=x;exact⟨_,e⟩
 |own y=>exact x
 |xd fs=>obtain⟨_,⟨_,_,_,e,_⟩,_⟩:=x;exact⟨_,e⟩
 |rng lo hi=>obtain⟨_,_,_,e⟩:=x;exact⟨_,e⟩
 |Kk ob u=>obtain⟨e,_⟩:=x;exact⟨_,e⟩
 |tbl ps=>exact⟨_,(show h.get? a=some _ from x)⟩
 |met f y=>exact⟨_,(show h.get? a=some _ from x)⟩
 |ext φ=>exact x.2.1
section
variable{X:Cx}{pins:List (ag×Obj)}{σ:St}{H:Hp}{s:au}
theorem Inv.gap(I:Inv X pins σ H s){a:ag}(h:s.heap.get? a=none):H a=none:=by
 cases q:H a with
 |none=>rfl
 |some o=>
  obtain⟨u,e⟩:=(I.oW a o q).there
  rw[h]at e;cases e
theorem Inv.adF{a:ag}{o:HO}{t':Nat}{h':bF}(I:Inv X pins σ H s)(k:∀b u,s.heap.get? b=some u->h'.get? b=some u)(hp:s.heap.get? a=none)(new:pN X.prog X.w (upd H a o) h' a o):
  Inv X pins σ (upd H a o) { s with heap:=h',toks:=t' }:=by
 have hn:=I.gap hp
 refine I.un ⟨λ b u q _ _ _=>k b u q,λ b u q _ _ _=>⟨u.slots,k b u q⟩,λ b u q n _=>?_,λ b u q _=>⟨u,k b u q⟩,λ b xs q=>by rw[mY (nE q hn)];exact q,λ b u xs q=>by rw[mY (nE q hn)];exact q,λ b ps q=>⟨#[],by rw[mY (nE q hn),q];simp⟩⟩ ?_
 ·rw[mY (by rintro rfl;rw[hp]at q;cases q)];exact n
 ·intro b u e
  by_cases hb:b=a
  ·subst hb;rw[mX]at e;cases e;exact new
  ·rw[mY hb]at e
   exact(I.oW b u e).EH (λ c v _ q=>k c v q) (λ c q=>by rw[mY (nE q hn)];exact q) λ c xs q=>by rw[mY (nE q hn)];exact q
theorem Ux{CX:ED}{k:Nat}{C f:ag}{fd:bP}{ps:List Str}{sp:Sp}{E:XK}{Q:VK}{us:List ao}{vs:List V}(M:ZL X.K C f)(F:nO X.prog X.w X.K X.mg X.base CX k f fd ps sp)(hr:rb (k+1) X.A)(hb:Binds X.K fd ps [])
  (hx:Passes CX X E)(I:Inv X pins σ H s)(r:Vals vs us)(hlen:us.length<=ay)
  (h:∀e,H e=none->sp (.ref e::vs) (upd H e (FN C e none .none)) (λ v H2=>v= .qt/\Q (.ref e) H2) E):
  aT (aU X.prog X.w) X.A (call (.ref C) us) (EP X pins σ Q) X.xe s:=by
 obtain⟨nm,q,N,bs,L4,sn,sub,ab,col,dd,k0,k1,k2,k3,k5,hC,oN,es,ep,hN,hNd,hNk,hNi⟩:=M.obj
 obtain⟨oI,hI,hIc⟩:=M.fn
 have KX:=I.FH
 obtain⟨hh,g,d,t,os⟩:=s
 refine wpAny_call_exc_init (mN:=λ x=>mK es x) (F:=jc) (KX _ _ hC) ⟨oN,es,ep,KX _ _ hN,hNd,hNk,λ _=>rfl⟩ hNi (KX _ _ hI) hIc (λ h' e hm=>?_) hlen
 obtain⟨ta,he,_,_⟩:=hm.there
 have I2:=I.adF (a:=e) (o:=FN C e none .none) (t':=t) (h':=h') hm.keeps hm.new (rW.mpr ⟨_,he,_,rfl,rfl⟩)
 have hq:=h e (I.gap hm.new)
 have r2:Vals (V.ref e::vs) (Value.ref e::us):=.cons rfl r
 have hl:(Value.ref e::us++[]).length=ps.length:=by
  have z:=r2.length
  rw[F.len _ _ _ _ hq]at z
  rw[bC]
  exact z.symm
 refine i_ (fB (F.run _ X.stack _ _ ⟨Value.ref e::us,[]⟩ (Value.ref e::us) _ _ E (hr.make C us []) (I2.abA.make C us []) (by have z:=hb ⟨h',g,d,t,os⟩ (Value.ref e::us) I2.FH hl;rw[bC]at z;exact z) r2 hq) λ r s' Sz=>?_)
 cases r with
 |error e=>exact hx pins σ _ _ e s' I2 Sz
 |ok fl=>
  cases fl with
  |ret u=>
   obtain⟨v,H',I3,rv,ev,q3⟩:=I2.after Sz
   subst ev
   exact⟨rv,⟨V.ref e,H',I3,rfl,q3⟩⟩
  |next=>exact False.elim Sz
  |brk=>exact False.elim Sz
  |cont=>exact False.elim Sz
end
def abU(C:ag)(sp:Sp)(E:XK)(t:TA):TE:=λ σ H Q=>t σ H λ vs H1=>vs.length<=1000/\∀e,H1 e=none->sp (.ref e::vs) (upd H1 e (FN C e none .none)) (λ v H2=>v= .qt/\Q (.ref e) H2) E
theorem WJ{X:Cx}{CX:ED}{k:Nat}{f C:ag}{fd:bP}{ps:List Str}{sp:Sp}{E:XK}{x:Str}{p pos:Pos}{e:bJ}{es:List bJ}{t:TA}(M:ZL X.K C f)(F:nO X.prog X.w X.K X.mg X.base CX k f fd ps sp)(hr:rb (k+1) X.A)(hg:Gl X x)(hm:X.mg x=some (.ref C))(hb:Binds X.K fd ps [])(hx:Passes CX X E)
  (ha:PA X (e::es) t)(PH:(x == ("__debug__":Str))=false:=by decide)(he:aN (e::es) X.env=(false,cw e X.env)::aN es X.env:=by rfl)(vo:(c8 pos (aN es X.env)).any (·.1)=false:=by rfl):
  PE X (.Call (.Name x p) (e::es) [] pos) (abU C sp E t):=by
 intro pins s σ H Q I h
 refine c6 (xT I hg hm ?_ PH)
 refine dJ (h₀:=X.base) I.ok.mod.Zg M.kp (pK (ha pos pins s σ H _ I h) λ us s1 ⟨vs,H1,I1,r,z,q⟩=>⟨I1.FH,?_⟩) he vo
 exact Ux M F hr hb hx I1 r (by rw[gQ,<-r.length];exact aV z (by decide)) q
def abV(C:ag)(E:XK)(te:TE):TS:=λ D σ H=>te σ H λ v H1=>∃e dx,v= .ref e/\H1 e=some (FN C e (some dx) .none)/\E (.ref C) (some dx) H1
theorem WK{X:Cx}{C:ag}{E:XK}{te:TE}{x:bJ}{pos:Pos}(hc:X.calm=true)(hx:X.xe=XW X C E)(EC:tG X.K C)(hty:fK X.K (.ref C)=some (.type "type"))(he:PE X x te):PS X (.Raise (some x) none pos) (abV C E te):=by
 intro pins s σ H D I h
 rw[arm_exec_Raise]
 refine aq (gN ?_)
 show aT _ _ (raiseStmt X.env (some (do let v <-cw x X.env;ik pos;pure v)) none) _ _ _
 unfold raiseStmt
 refine aq (aq (pK (he pins s σ H _ I h) λ v s1 ⟨vv,H1,I1,rv,q⟩=>aq (gN (aM ?_))))
 obtain⟨e,dx,rfl,h1,q⟩:=q
 obtain rfl:v=Value.ref e:=rv
 obtain⟨o,e1,vs,rfl,v1⟩:=rW.mp (I1.oW e _ h1)
 obtain⟨cd,PF,LX,_⟩:=EC.cd
 have KX:=I1.FH
 have TY:hJ (aU X.prog X.w) s1.heap (lO (.ref e)) (.ref C):=(PySem.W.Looks.ld e1).andThen .now
 have IT:hJ (aU X.prog X.w) s1.heap (isType (.ref e)) false:=(PySem.W.Looks.ld e1).andThen .now
 have IB:hJ (aU X.prog X.w) s1.heap (lQ (.ref e) (.type "BaseException")) true:=TY.andThen (PySem.W.looks_mroIn KX (by unfold PySem.W.mroIn;rw[PF,dE,LX];rfl))
 have TC:hJ (aU X.prog X.w) s1.heap (lO (.ref C)) (.type "type"):=PySem.W.looks_typeIn KX hty
 refine aq (aM (aq (fO ?_)))
 unfold excFromValue isExcClass
 refine aq (aq (IT.here (aM ?_)))
 rw[if_neg (by decide)]
 refine aq (IB.here ?_)
 rw[if_pos rfl]
 refine aM ?_
 refine aq (IT.here ?_)
 rw[if_neg (by decide)]
 unfold raisedInstance
 refine aq (aq (TY.here (aq (TC.here ?_))))
 rw[if_pos (show(Value.type "type" == Value.type "type")=true from by decide)]
 refine aM (aq ?_)
 unfold kq
 refine aq (cO e1 rfl v1 ?_)
 rw[if_neg (by decide)]
 refine aM (wpAny_raiseNew_none (I1.ok.hd hc) ?_)
 rw[hx]
 exact⟨e,dx,σ,H1,rfl,I1.WG,.inl h1,q⟩
end L2
namespace L2
open PySem PySem.Spec PyProof.Rows
def Uy(C:ag)(t:TA):TE:=λ σ H Q=>t σ H λ vs H1=>∃e dx tv rest,vs= .ref e::rest/\rest.length<=1000/\H1 e=some (FN C e dx tv)/\Q .qt H1
section
variable{X:Cx}{pins:List (ag×Obj)}{σ:St}{H:Hp}{s:au}
theorem Uz{C e f:ag}{dx:Option ag}{tv:ao}{us:List ao}{Q:VK}(M:ZL X.K C f)(I:Inv X pins σ H s)(he:H e=some (FN C e dx tv))(hl:us.length<=ay)(q:Q .qt H):
  aT (aU X.prog X.w) X.A (call (.builtin "Exception.__init__") (.ref e::us)) (EP X pins σ Q) X.xe s:=by
 obtain⟨nm,qn,N,bs,L4,sn,sub,ab,col,dd,k0,k1,k2,k3,k5,hC,_⟩:=M.obj
 obtain⟨o,e1,vs,rfl,v1⟩:=rW.mp (I.oW e _ he)
 have hC':=I.FH _ _ hC
 have F:=jc
 have hsz:0<vs.size:=iU Nat.zero_lt_one (Array.getElem?_eq_some_iff.mp v1).1
 have fin:∀h',(∀b o,b≠e->s.heap.get? b=some o->h'.get? b=some o)->h'.get? e=some ⟨.ref C,dx,.fields (vs.setIfInBounds 0 (.ref s.heap.objs.size)),#[]⟩->EP X pins σ Q .none { s with heap:=h' }:=by
  intro h' k e3
  refine⟨.qt,upd H e (FN C e dx tv),I.write (x:=e) (e:=e) (t':=s.toks) (by rw[he];exact True.intro) (.inl rfl) (λ b u hb z=>k b u hb z) ⟨_,e3⟩ (rW.mpr ⟨_,e3,_,rfl,?_⟩),rfl,?_⟩
  ·rw[Array.getElem?_setIfInBounds_ne (by decide)];exact v1
  ·have z:upd H e (FN C e dx tv)=H:=by
    funext b
    by_cases hb:b=e
    ·subst hb;rw[mX,he]
    ·rw[mY hb]
   rw[z];exact q
 obtain⟨hh,g,d,t,os⟩:=s
 refine i_ (iG F.init.plain F.initEntry (wpAny_check_init_sub F hC' e1 rfl ?_))
 unfold jd.«BaseException.__init__» Builtin.BaseException.bexcPut newTuple
 refine aq (jj ?_ hl)
 obtain⟨old,h0⟩:∃old,vs[0]? =some old:=⟨_,Array.getElem?_eq_getElem hsz⟩
 have e2:=Heap.get?_push_of_some (h:=hh) { cls:=.type "tuple",data:=.seq us.toArray } e1
 refine aq (aq (cO e2 rfl h0 (aq (iF e2 rfl hsz ?_))))
 have e3:=Heap.get?_update_self (Obj.mapFields (·.setIfInBounds 0 (Value.ref hh.objs.size))) e2 rfl
 have z:=fin ((hh.push { cls:=.type "tuple",data:=.seq us.toArray }).update e (Obj.mapFields (·.setIfInBounds 0 (Value.ref hh.objs.size)))) (λ b o hb q=>by rw[Heap.get?_update_other _ _ (Ne.symm hb)];exact Heap.get?_push_of_some _ q) e3
 cases old <;> first|exact aM (aM z)|exact jC (aM z)
theorem WL:lO (.type "Exception")=pure (.type "type"):=by kernel_rfl
theorem WM:Manifest.isStub "Exception"=false:=by decide +kernel
theorem J4(K:ah):PySem.W.findCls K (.type "Exception") (.type "type") "__init__"=some (.val (.builtin "Exception.__init__")):=by rfl
theorem NQ{C f:ag}{e:bJ}{es:List bJ}{t:TA}{p0 apos pos:Pos}{pl:Sem Bool}(M:ZL X.K C f)(hg:Gl X "Exception")(hm:X.mg "Exception"=none)(ha:PA X (e::es) t)
  (he:aN (e::es) X.env=(false,cw e X.env)::aN es X.env:=by rfl)(vo:(c8 pos (aN es X.env)).any (·.1)=false:=by rfl)
  (ht:cw (.Call (.Attribute (.Name "Exception" p0) "__init__" apos) (e::es) [] pos) X.env=(do
   let ov <-cw (.Name "Exception" p0) X.env
   ik apos.atName
   let(f,first) <-gk [ov] (g9 ov "__init__" pl)
   jm pos f first (c8 pos (aN (e::es) X.env)) (g_ pos (fb [] X.env))):=by rfl):
  PE X (.Call (.Attribute (.Name "Exception" p0) "__init__" apos) (e::es) [] pos) (Uy C t):=by
 intro pins s σ H Q I h
 refine gG (pl:=pl) (vh I hg hm (u:=.type "Exception") (by rfl) ?_) ht
 obtain⟨m,Fr⟩:=I.fr
 refine PySem.W.method_type Fr I.ok.mod.Zg WL WM (J4 X.K) (by decide +kernel) ?_
 have I':=I.tok (s.toks+1)
 refine hU (pK (ha pos pins _ σ H _ I' h) λ us s1 ⟨vs,H1,I1,r1,e',dx,tv,rest,ev,hl,h1,q1⟩=>?_) he vo
 subst ev
 cases r1 with
 |cons r0 r2=>
  cases r0
  exact Uz M I1 h1 (by rw[<-r2.length];exact aV hl (by decide)) q1
def DxO(dx:ag)(fs:List (Str×V)):HO:=.ext λ h=>∃mA,h.Ns1 dx mA/\(∀f,wQ (fs.lookup f) (mA f))/\eT mA (fs.map (·.1))
theorem WN{P:aK}{w:bj}{H:Hp}{h:bF}{dx:ag}{fs:List (Str×V)}:pN P w H h dx (DxO dx fs)↔ ∃mA,h.Ns1 dx mA/\(∀f,wQ (fs.lookup f) (mA f))/\eT mA (fs.map (·.1)):=by
 constructor
 ·intro z
  exact z.1
 ·intro z
  obtain⟨mA,n,r,w'⟩:=z
  obtain⟨o,es,ep,e,c⟩:=id n
  exact⟨⟨mA,n,r,w'⟩,⟨o,e⟩,λ h1 h2 ⟨mB,⟨o',VS,ep',e',c'⟩,r',w2⟩ k=>⟨mB,⟨o',VS,ep',k o' e',c'⟩,r',w2⟩⟩
def abW(K:ah)(C:ag)(ta tv:TE)(f:Str):TS:=λ D σ H=>tv σ H λ y H1=>ta σ H1 λ x H2=>∃e tv,x= .ref e/\H2 e=some (FN C e none tv)/\oA K C f/\∀dx,H2 dx=none->dx≠e->
 D.nx σ (upd (upd H2 e (FN C e (some dx) tv)) dx (DxO dx [(f,y)]))
theorem WO{C:ag}{o value:bJ}{f:Str}{pos pos':Pos}{ta tv:TE}(EC:tG X.K C)(ha:PE X o ta)(hv:PE X value tv)(hs:g8 value (some (.Attribute o f pos')) pos.line X.env=pure false:=by rfl):PS X (.Assign [.Attribute o f pos'] value pos) (abW X.K C ta tv f):=by
 intro pins s σ H D I h
 refine fF (pK (hv pins s σ H _ I h) λ u s1 ⟨y,H1,I1,ry,q⟩=>pK (ha pins s1 σ H1 _ I1 q) λ ov s2 ⟨x,H2,I2,rx,e,tv,ex,h2,n,q2⟩=>?_) hs
 subst ex
 obtain rfl:ov=Value.ref e:=rx
 obtain⟨o,e1,vs,rfl,v1⟩:=rW.mp (I2.oW e _ h2)
 have lt:=Heap.lt_size e1
 refine WD I2.FH e1 EC n λ h' g1 g2 g3=>?_
 have hn:=I2.oW.fresh (ax s2.heap.objs.size)
 refine⟨σ,_,?_,q2 s2.heap.objs.size hn (fW lt)⟩
 have nx:∀b u,s2.heap.get? b=some u->b≠s2.heap.objs.size:=λ b u z=>bK (Heap.lt_size z)
 have tr:∀b u,H2 b=some u->(∀φ,u≠ .ext φ)->b≠e/\b≠s2.heap.objs.size:=λ b u z nu=>⟨λ w=>(by rw[w,h2]at z;exact nu _ (Option.some.inj z).symm),nE z hn⟩
 refine I2.un (h':=h') (t':=s2.toks+2) ⟨λ b u z n _ _=>g3 b u (λ w=>by rw[w,h2]at n;cases n) z,λ b u z n _ _=>⟨u.slots,g3 b u (λ w=>by rw[w,h2]at n;cases n) z⟩,λ b u z n _=>?_,λ b u z _=>?_,λ b xs z=>?_,λ b u xs z=>?_,λ b ps z=>?_⟩ ?_
 ·rw[mY (nx b u z),mY (λ w=>by rw[w,h2]at n;cases n)];exact n
 ·by_cases hb:b=e
  ·exact⟨_,by rw[hb];exact g1⟩
  ·exact⟨u,g3 b u hb z⟩
 ·obtain⟨p1,p2⟩:=tr b _ z (λ φ=>by intro w;cases w)
  rw[mY p2,mY p1];exact z
 ·obtain⟨p1,p2⟩:=tr b _ z (λ φ=>by intro w;cases w)
  rw[mY p2,mY p1];exact z
 ·obtain⟨p1,p2⟩:=tr b _ z (λ φ=>by intro w;cases w)
  exact⟨#[],by rw[mY p2,mY p1,z];simp⟩
 ·intro b u z
  by_cases hb:b=s2.heap.objs.size
  ·subst hb
   rw[mX]at z;cases z
   refine WN.mpr ⟨_,g2,λ g=>?_,λ g hg=>?_⟩
   ·show wQ (dv g [(f,y)]) (if g=f then some u else none)
    by_cases q:g=f
    ·have hb:(g == f)=true:=beq_iff_eq.mpr q
     simp only[dv,hb,if_pos q];exact ry
    ·have hb:(g == f)=false:=beq_eq_false_iff_ne.mpr q
     simp only[dv,hb,if_neg q];exact True.intro
   ·by_cases q:g=f
    ·simp[q]
    ·exact absurd (show(if g=f then some u else none)=none from if_neg q) hg
  ·rw[mY hb]at z
   by_cases V_:b=e
   ·subst V_
    rw[mX]at z;cases z
    exact rW.mpr ⟨_,g1,_,rfl,v1⟩
   ·rw[mY V_]at z
    refine(I2.oW b u z).EH (λ c v hc w=>g3 c v ?_ w) (λ c w=>?_) λ c xs w=>?_
    ·rcases hc with rfl|hc
     ·exact V_
     ·exact(tr c _ hc (λ φ=>by intro w;cases w)).1
    ·obtain⟨p1,p2⟩:=tr c _ w (λ φ=>by intro w;cases w)
     rw[mY p2,mY p1];exact w
    ·obtain⟨p1,p2⟩:=tr c _ w (λ φ=>by intro w;cases w)
     rw[mY p2,mY p1];exact w
def abX(K:ah)(C:ag)(ta tv:TE)(f:Str):TS:=λ D σ H=>tv σ H λ y H1=>ta σ H1 λ x H2=>∃e tv dx fs,x= .ref e/\H2 e=some (FN C e (some dx) tv)/\dx≠e/\H2 dx=some (DxO dx fs)/\fs.length<=50/\oA K C f/\
 D.nx σ (upd H2 dx (.xd (v_ f y fs)))
theorem WQ{C:ag}{o value:bJ}{f:Str}{pos pos':Pos}{ta tv:TE}(EC:tG X.K C)(ha:PE X o ta)(hv:PE X value tv)(hs:g8 value (some (.Attribute o f pos')) pos.line X.env=pure false:=by rfl):PS X (.Assign [.Attribute o f pos'] value pos) (abX X.K C ta tv f):=by
 intro pins s σ H D I h
 refine fF (pK (hv pins s σ H _ I h) λ u s1 ⟨y,H1,I1,ry,q⟩=>pK (ha pins s1 σ H1 _ I1 q) λ ov s2 ⟨x,H2,I2,rx,e,tv,dx,fs,ex,h2,ne,hd,hl,n,q2⟩=>?_) hs
 subst ex
 obtain rfl:ov=Value.ref e:=rx
 obtain⟨o,e1,vs,rfl,v1⟩:=rW.mp (I2.oW e _ h2)
 obtain⟨mA,hn,hr,hw⟩:=WN.mp (I2.oW dx _ hd)
 refine WE I2.FH e1 ne hn EC n hw (by rw[aa];omega) λ h' g1 g2 g3=>?_
 refine⟨σ,upd H2 dx (.xd (v_ f y fs)),I2.write (x:=dx) (e:=dx) (o:=.xd (v_ f y fs)) (t':=s2.toks+2) (by rw[hd];exact True.intro) (.inl rfl) (λ b v hb z=>g3 b v hb z) (let⟨o,_,_,w,_⟩:=g2;⟨o,w⟩) ⟨_,g2,λ g=>?_⟩,q2⟩
 show wQ ((v_ f y fs).lookup g) (if g=f then some u else mA g)
 rw[zQ]
 by_cases q:g=f
 ·rw[if_pos q,if_pos q];exact ry
 ·rw[if_neg q,if_neg q];exact hr g
def aa2(K:ah)(C:ag)(ta:TE)(f:Str):TE:=λ σ H Q=>ta σ H λ x H1=>∃e tv dx fs v,x= .ref e/\H1 e=some (FN C e (some dx) tv)/\H1 dx=some (.xd fs)/\oA K C f/\fs.lookup f=some v/\Q v H1
theorem ZM{C:ag}{e:bJ}{f:Str}{pos:Pos}{ta:TE}(EC:tG X.K C)(hk:oA X.K C "__getattr__")(he:PE X e ta)(hb:dN e f X.env (cw e X.env)=cw e X.env:=by rfl):PE X (.Attribute e f pos) (aa2 X.K C ta f):=by
 intro pins s σ H Q I h
 refine Sy hb (pK (he pins s σ H _ I h) λ u s1 ⟨x,H1,I1,rx,a,tv,dx,fs,v,ex,h1,hd,n,l,q⟩=>?_)
 subst ex
 obtain rfl:u=Value.ref a:=rx
 obtain⟨o,e1,vs,rfl,v1⟩:=rW.mp (I1.oW a _ h1)
 obtain⟨mA,hn,hr⟩:=(show pN X.prog X.w H1 s1.heap dx (.xd fs)from I1.oW dx _ hd)
 obtain⟨w,hw,wb⟩:=wQ.some_of (v:=v) (o:=mA f) (by rw[<-l];exact hr f)
 obtain⟨od,ho,hlk⟩:=Ko hn
 obtain⟨cd,PF,LX,hhd⟩:=EC.cd
 have lk:eR f od=some (some w):=by rw[hlk f,hw]
 refine ZI (od:=some od) I1.FH ⟨e1,rfl,rfl,ho⟩ EC hk ?_ (Kp wb) ⟨v,H1,I1.tok _,wb,q⟩
 unfold PySem.W.findObj
 rw[PF,dE,show bw X.K (.ref C) f=some none from n]
 unfold PySem.W.ownOf
 rw[hhd]
 show((eR f od).bind _)=_
 rw[lk]
 rfl
end
end L2
namespace L2
open PySem PySem.Spec PyProof.Rows
abbrev Cx.pinned(X:Cx)(pn:List (ag×Obj)):Cx:={ X with pn:=pn }
abbrev Cx.inH(X:Cx)(e:ag):Cx:={ X with A:=X.A.mark (some (.ref e)),calm:=false,xe:=λ _ _=>False }
section
variable{X:Cx}{pins:List (ag×Obj)}{σ:St}{H:Hp}{s:au}
theorem Cx.Ok.pinned(ok:X.Ok)(pn:List (ag×Obj)):(X.pinned pn).Ok:=⟨ok.mod,ok.kind,ok.glob,ok.blt,ok.above,ok.inj,ok.has,ok.cab,ok.hd,ok.frames,ok.stk,ok.exf,ok.bs,ok.Sl,ok.Nt,ok.Nu,ok.BC,ok.VQ⟩
theorem Cx.Ok.xC{pn:List (ag×Obj)}(ok:(X.pinned pn).Ok):X.Ok:=⟨ok.mod,ok.kind,ok.glob,ok.blt,ok.above,ok.inj,ok.has,ok.cab,ok.hd,ok.frames,ok.stk,ok.exf,ok.bs,ok.Sl,ok.Nt,ok.Nu,ok.BC,ok.VQ⟩
theorem Inv.abY(I:Inv X pins σ H s):Inv (X.pinned (X.pn++pins)) [] σ H s:=⟨I.ok.pinned _,I.os,I.bare,I.base,I.loc,I.cell,I.free,I.uB,λ p hp=>I.pin p (by simpa using hp),I.oW,I.len⟩
theorem Inv.tW(I:Inv (X.pinned (X.pn++pins)) [] σ H s):Inv X pins σ H s:=⟨I.ok.xC,I.os,I.bare,I.base,I.loc,I.cell,I.free,I.uB,λ p hp=>I.pin p (by simpa using hp),I.oW,I.len⟩
theorem Inv.inH(I:Inv X pins σ H s)(e:ag):Inv (X.inH e) pins σ H s:=⟨⟨I.ok.mod,I.ok.kind,I.ok.glob,I.ok.blt,I.ok.above,I.ok.inj,I.ok.has,I.ok.cab,(λ z=>cg z),I.ok.frames,I.ok.stk,I.ok.exf,I.ok.bs,I.ok.Sl,I.ok.Nt,I.ok.Nu,I.ok.BC,I.ok.VQ⟩,I.os,I.bare,I.base,I.loc,I.cell,I.free,I.uB,I.pin,I.oW,I.len⟩
theorem Inv.ZN{e:ag}(ok:X.Ok)(I:Inv (X.inH e) pins σ H s):Inv X pins σ H s:=⟨ok,I.os,I.bare,I.base,I.loc,I.cell,I.free,I.uB,I.pin,I.oW,I.len⟩
theorem SP.tW{E':ao->au->Prop}{D:Ends}{f:Flow}(h:SP ((X.pinned (X.pn++pins)).xU E') [] D f s):SP X pins D f s:=by
 cases f with
 |next=>obtain⟨σ',H',I,q⟩:=h;exact⟨σ',H',I.sE.tW,q⟩
 |brk=>obtain⟨σ',H',I,q⟩:=h;exact⟨σ',H',I.sE.tW,q⟩
 |cont=>obtain⟨σ',H',I,q⟩:=h;exact⟨σ',H',I.sE.tW,q⟩
 |ret u=>obtain⟨v,σ',H',I,r,q⟩:=h;exact⟨v,σ',H',I.sE.tW,r,q⟩
theorem Hb{M:jF}{A:bV}{E:ao->au->Prop}{i:Nat}{n:Str}{pos:Pos}{Q:Unit->au->Prop}(I:Inv X pins σ H s)(hN:X.N.Nodup)(hi:X.N[i]? =some n)(hk:X.env.scope.names.lookup n=some .local)
  (h:∀s',Inv X pins (σ.set i none) H s'->Q () s'):aT M A (do bindName X.env n .none;unbindBehindTheSuite X.env n pos) Q E s:=by
 obtain⟨m,hn,hl⟩:=id I.loc
 have abi:(X.env.scope.kind == .class || (X.env.scope.kind == .module && X.env.locals != X.env.globals))=false:=by rw[I.ok.kind];rfl
 have hiσ:i<σ.length:=by rw[I.len];exact(List.getElem?_eq_some_iff.mp hi).1
 refine wpAny_nameGoes_keeps hk hn abi λ h' v hn' hs=>h _ ?_
 obtain⟨oL,_,_,hoL,_⟩:=id hn
 have below:∀b o,X.JY.heap.get? b=some o->b≠X.env.locals:=λ b o e=>bK (aS (Heap.lt_size e) I.ok.above)
 refine⟨I.ok,I.os,I.bare,⟨λ b o e n hb hx=>(hs.2 b (below b o e)).trans (I.base.keep b o e n hb hx),λ b o e n hb hx=>?_,I.base.free,λ b o e hx=>?_,I.base.JW,I.base.Hr,I.base.JX⟩,⟨_,hn',λ j y v' e1 e2 e3=>?_⟩,λ y c e=>?_,I.free,I.uB,λ p hp=>?_,λ b ob e=>?_,by simpa using I.len⟩
 ·obtain⟨sl,e1⟩:=I.base.slot b o e n hb hx
  exact⟨sl,(hs.2 b (below b o e)).trans e1⟩
 ·obtain⟨o',e1⟩:=I.base.there b o e hx
  exact⟨o',(hs.2 b (below b o e)).trans e1⟩
 ·have hj:j≠i:=by
   rintro rfl
   rw[cP hiσ]at e2
   cases e2
  rw[fE (Ne.symm hj)]at e2
  obtain⟨u',r',q⟩:=hl j y v' e1 e2 e3
  refine⟨u',r',?_⟩
  rcases q with⟨k,e⟩|⟨k,c,e,z⟩
  ·refine .inl ⟨k,?_⟩
   have ne:y≠n:=λ e=>hj (Dn hN e1 (e ▸ hi))
   simp[ne,e]
  ·exact .inr ⟨k,c,e,z.sameBut hs (I.Zh y c e)⟩
 ·obtain⟨w',z⟩:=I.cell y c e
  exact⟨w',z.sameBut hs (I.Zh y c e)⟩
 ·obtain⟨e,n,ne,nf,d⟩:=I.pin p hp
  exact⟨(hs.2 p.1 ne).trans e,n,ne,nf,d⟩
 ·refine(I.oW b ob e).EH (λ c w' hc q=>(hs.2 c ?_).trans q) (λ _ q=>q) λ _ _ q=>q
  rintro rfl
  rcases hc with rfl|hc
  ·rw[I.free]at e;cases e
  ·rw[I.free]at hc;cases hc
def aeN(C:ag)(i:Nat)(tb th:TS)(Eb:XK):TS:=λ D σ H=>tb D σ H/\∀(σ':St) (H1:Hp) (e dx:ag) (tv:ao),σ'.length=σ.length->H1 e=some (FN C e (some dx) tv)->Eb (.ref C) (some dx) H1->
 th { nx:=λ σ2 H2=>D.nx (σ2.set i none) H2,rt:=D.rt,bk:=λ σ2 H2=>D.bk (σ2.set i none) H2,ct:=λ σ2 H2=>D.ct (σ2.set i none) H2 } (σ'.set i (some (.ref e))) H1
theorem abZ{C f:ag}{i:Nat}{n x:Str}{body:List bz}{b0:bz}{aa3:List bz}{tb th:TS}{Eb:XK}{xF aeO pos:Pos}(LG:X.stack=X.env::X.outer)(JT:X.env.frame=some X.env.locals)(M:ZL X.K C f)
  (hg:Gl X x)(hm:X.mg x=some (.ref C))(hN:X.N.Nodup)(hi:X.N[i]? =some n)(hk:X.env.scope.names.lookup n=some .local)(hE:Calm Eb)
  (hb:∀pn,LB ((X.pinned pn).err C Eb) body tb)(hh:∀e,LB (X.inH e) (b0::aa3) th)(PH:(x == ("__debug__":Str))=false:=by decide):
  PS X (.Try body [.ExceptHandler (some (.Name x xF)) (some n) (b0::aa3) aeO] [] [] pos) (aeN C i tb th Eb):=by
 intro pins s σ H D I h
 obtain⟨h1,h2⟩:=h
 refine wpAny_Try_except (cR (hb (X.pn++pins) [] s σ H D (I.abY.xU _) h1) (λ fl s1 q=>?_) λ ev s1 q=>?_)
 ·cases fl with
  |next=>exact f9 (SP.tW q)
  |brk=>exact SP.tW q
  |cont=>exact SP.tW q
  |ret v=>exact SP.tW q
 ·obtain⟨a,dx,σ1,H1,rfl,I1,fl,q⟩:=q
  refine LZ (X:=X.pinned (X.pn++pins)) I1 LG JT fl λ s2 H2 I2 n2 k2=>?_
  refine uH (fr:=none) I2 n2 λ s3 H3 I3 n3 k3=>?_
  have J3:Inv X pins σ1 H3 s3:=I3.tW
  obtain⟨nm,qn,N,bs,L4,sn,sub,ab,col,dd,k0,k1,k2',k3',k5,hC,_⟩:=M.obj
  have hC3:=J3.FH _ _ hC
  have lenσ:σ1.length=σ.length:=I3.len.trans I.len.symm
  obtain⟨T3,x1,x2,x3⟩:=id n3
  obtain⟨o,e1,vs,rfl,v1⟩:=rW.mp (J3.oW a _ x1)
  refine wpAny_handleBy_cons (codeAny_handlers_test (xT (X:=X.inH a) (J3.inH a) hg hm ?_ PH)) (by intro w;cases w)
  obtain⟨NR,g3,d3,t3,os3⟩:=s3
  refine wpAny_excMatches_sub_self hC3 e1 rfl (by decide +kernel) ?_
  refine codeAny_handlers_suite_as (uH (fr:=none) (A:=X.A.mark (some (.ref a))) J3 n3 λ s4 H4 I4 n4 k4=>?_)
  refine Dq (v:=.ref a) I4 hN hi (.inl hk) rfl (λ s5 I5=>?_) (.inr hk)
  obtain⟨T4,y1,y2,y3⟩:=n4
  have E4:Eb (.ref C) (some dx) H4:=hE _ _ _ _ ((k2.trans k3).trans k4) q
  refine cR (hh a pins s5 _ H4 _ (I5.inH a) (h2 σ1 H4 a dx _ lenσ y1 E4)) (λ fl s6 q6=>?_) λ _ _ z=>z.elim
  cases fl with
  |next=>
   obtain⟨σ6,H6,I6,q6⟩:=q6
   exact Hb (I6.ZN I.ok) hN hi hk λ s7 I7=>⟨_,H6,I7,q6⟩
  |brk=>
   obtain⟨σ6,H6,I6,q6⟩:=q6
   exact Hb (I6.ZN I.ok) hN hi hk λ s7 I7=>⟨_,H6,I7,q6⟩
  |cont=>
   obtain⟨σ6,H6,I6,q6⟩:=q6
   exact Hb (I6.ZN I.ok) hN hi hk λ s7 I7=>⟨_,H6,I7,q6⟩
  |ret v=>
   obtain⟨v',σ6,H6,I6,r6,q6⟩:=q6
   exact Hb (I6.ZN I.ok) hN hi hk λ s7 I7=>⟨v',_,H6,I7,r6,q6⟩
end
end L2
namespace L2
open PySem PySem.Spec PyProof.Rows
structure Walk(J:It)(H1:Hp)(n:Nat)(F:Nat->V->Hp->Prop):Prop where
 go:∀i H,i<n->m5 H1 H->J.go i H
 Ht:∀i H x H',i<n->m5 H1 H->J.Ht i H x H'->F i x H'/\m5 H H'
 stop:∀H,m5 H1 H->J.stop n H
theorem oV{J:It}{H1:Hp}{n:Nat}{F:Nat->V->Hp->Prop}{g:TG}{tt:TT}{te:TE}{vs:List Nat}{σ:L2.St}{Q:ag->Hp->Prop}(W:Walk J H1 n F)(ys:List V)(hlen:ys.length=n)(hz:n<=ay)
  (hs:∀i x y H (R:V->Hp->Prop) (N:Hp->Prop),ys[i]? =some y->m5 H1 H->F i x H->(∀H4,m5 H H4->R y H4)->g x (wipe σ vs) H λ σ2 H2=>wipe σ2 vs=wipe σ vs/\tt σ2 H2 λ b H3=>if b=true then te σ2 H3 R else N H3)
  (fin:∀D H,H1 D=none->m5 H1 H->H D=some (.lst ys)->Q D H)(D:ag)(hD:H1 D=none):
  ∃W:Nat->Nat->Hp->Prop,(∃m,W 0 m (upd H1 D (.lst [])))/\∀i m H,W i m H->
   (J.stop i H/\Q D H)\/(J.go i H/\∃Nx:Hp->Prop,(∀H',Nx H'->∃m',m'<m/\W (i+1) m' H')/\∀x H',J.Ht i H x H'->g x (wipe σ vs) H' λ σ2 H2=>wipe σ2 vs=wipe σ vs/\tt σ2 H2 λ b H3=>
    if b=true then te σ2 H3 λ y H4=>∃acc,H4 D=some (.lst acc)/\acc.length<ay/\Nx (upd H4 D (.lst (acc++[y])))else Nx H3):=by
 refine⟨λ i m H=>m=n-i/\i<=n/\m5 H1 H/\H D=some (.lst (ys.take i)),⟨n,by omega,aE _,λ b o e=>by rw[mY (nE e hD)];exact e,mX⟩,?_⟩
 rintro i m H ⟨rfl,hi,sm,hd⟩
 by_cases rL:i<n
 ·refine .inr ⟨W.go i H rL sm,λ H'=>i+1<=n/\m5 H1 H'/\H' D=some (.lst (ys.take (i+1))),λ H' z=>⟨n-(i+1),by omega,rfl,z⟩,λ x H' y=>?_⟩
  obtain⟨hF,wc⟩:=W.Ht i H x H' rL sm y
  have hy:ys[i]? =some ys[i]:=af (by omega)
  refine hs i x _ H' _ _ hy (sm.trans wc) hF λ H4 Nn=>?_
  have hd4:H4 D=some (.lst (ys.take i)):=Nn _ _ (wc _ _ hd)
  refine⟨_,hd4,?_,rL,λ b o e=>?_,?_⟩
  ·rw[bX];omega
  ·rw[mY (nE e hD)];exact Nn _ _ (wc _ _ (sm _ _ e))
  ·rw[mX,b8,hy];rfl
 ·have e:i=n:=by omega
  subst e
  refine .inl ⟨W.stop H sm,fin D H hD sm ?_⟩
  rw[hd,cu (by omega)]
theorem oQ{K:ah}{H1:Hp}{a:ag}{xs:List V}(h:nA K H1 a xs):Walk (Itl K a) H1 xs.length (λ i x _=>xs[i]? =some x) where
 go:=λ i H hi sm=>⟨xs,xs[i],sm.seq h,af hi⟩
 Ht:=λ i H x H' hi sm y=>by
  obtain⟨rfl,y⟩:=y
  exact⟨y xs (sm.seq h),m5.refl _⟩
 stop:=λ H sm=>⟨xs,sm.seq h,ax _⟩
theorem m5.new{H:Hp}{T:ag}{o:HO}(h:H T=none):m5 H (upd H T o):=λ b u e=>by
 rw[mY (nE e h)];exact e
theorem UA{K:ah}{H1:Hp}{a:ag}{xs:List V}(h:nA K H1 a xs):Walk (Ite K a) H1 xs.length (λ i v H=>∃T x,v= .ref T/\xs[i]? =some x/\H T=some (.tup [.int (i:Nat),x])) where
 go:=λ i H hi sm=>⟨xs,xs[i],sm.seq h,af hi⟩
 Ht:=λ i H x H' hi sm y=>by
  obtain⟨T,z,rfl,hT,rfl,y⟩:=y
  exact⟨⟨T,z,rfl,y xs (sm.seq h),mX⟩,m5.new hT⟩
 stop:=λ H sm=>⟨xs,sm.seq h,ax _⟩
theorem HL{K:ah}{H1:Hp}{a b:ag}{xs ys:List V}(h:nA K H1 a xs)(h':nA K H1 b ys)(hl:xs.length=ys.length):Walk (Itz K a b) H1 xs.length (λ i v H=>∃T x y,v= .ref T/\xs[i]? =some x/\ys[i]? =some y/\H T=some (.tup [x,y])) where
 go:=λ i H hi sm=>⟨xs,ys,xs[i],ys[i],sm.seq h,sm.seq h',af hi,af (by omega)⟩
 Ht:=λ i H x H' hi sm y=>by
  obtain⟨T,z,z',rfl,hT,rfl,y,y'⟩:=y
  exact⟨⟨T,z,z',rfl,y xs (sm.seq h),y' ys (sm.seq h'),mX⟩,m5.new hT⟩
 stop:=λ H sm=>⟨xs,ys,sm.seq h,sm.seq h',.inl (ax _)⟩
theorem xY(K:ah){X:Cx}{e:bJ}{f:Str}{pos:Pos}{ta:TE}(he:PE X e ta)(hK:X.K=K:=by rfl)(hb:dN e f X.env (cw e X.env)=cw e X.env:=by rfl):PE X (.Attribute e f pos) (abx K ta f):=by
 subst hK;exact m_ he hb
theorem tX(K:ah){X:Cx}{a b:bJ}{pos:Pos}{ta tb:TE}(ha:PE X a ta)(hb:PE X b tb)(hK:X.K=K:=by rfl)(hs:SD b:=by exact λ _ _=>rfl):PE X (.Subscript a b pos) (tOp (adg K) ta tb):=by
 subst hK;exact oZ n9 ha hb hs
theorem sy{σ:L2.St}{H:Hp}{A B:Hp->Prop}(h:A H):ado σ H λ b H3=>if b=true then A H3 else B H3:=by
 show if true=true then A H else B H
 rw[if_pos rfl];exact h
theorem pz.of{N:List Str}{sc scope:eP}{own:List (Str×Nat)}(h:scope.kind= .function/\(∀y∈scope.names,scope.names.lookup y.1=some y.2)/\(∀p∈own,N[p.2]? =some p.1)/\
  (∀y∈scope.names,y.2= .free->sc.names.lookup y.1=some .cell\/sc.names.lookup y.1=some .free)/\∀y∈scope.names,y.2= .local\/y.2= .cell->y.1∈own.map (·.1)\/y.1∉N):pz N sc scope own:=⟨h.1,h.2.1,h.2.2.1,h.2.2.2.1,h.2.2.2.2⟩
def Keeps(X:Cx)(CX:ED)(g:ag)(sp:Sp):Prop:=∃k fd ps,nO X.prog X.w X.K X.mg X.base CX k g fd ps sp/\rb k X.A/\bZ X.K (.ref g)=true/\Binds X.K fd ps []
def ab0(X:Cx)(CX:ED)(E:XK)(tf:TE)(t:TA):TE:=λ σ H Q=>tf σ H λ v H1=>∃g sp,v= .ref g/\Keeps X CX g sp/\t σ H1 λ vs H2=>sp vs H2 Q E
theorem WR{X:Cx}{CX:ED}{E:XK}{o i e:bJ}{es:List bJ}{tf:TE}{t:TA}{ZO pos:Pos}(hf:PE X (.Subscript o i ZO) tf)(hx:Passes CX X E)(ha:PA X (e::es) t)
  (he:aN (e::es) X.env=(false,cw e X.env)::aN es X.env:=by rfl)(vo:(c8 pos (aN es X.env)).any (·.1)=false:=by rfl)
  (ht:cw (.Call (.Subscript o i ZO) (e::es) [] pos) X.env=(do jm pos (<-cw (.Subscript o i ZO) X.env) [] (c8 pos (aN (e::es) X.env)) (g_ pos (fb [] X.env))):=by rfl):
  PE X (.Call (.Subscript o i ZO) (e::es) [] pos) (ab0 X CX E tf t):=by
 intro pins s σ H Q I h
 rw[ht]
 refine aq (pK (hf pins s σ H _ I h) λ u s1 ⟨v,H1,I1,rv,g,sp,ev,kp,q⟩=>?_)
 subst ev
 obtain rfl:u=Value.ref g:=rv
 obtain⟨k,fd,ps,F,hr,hk,hb⟩:=kp
 refine dJ (h₀:=X.base) I.ok.mod.Zg hk (pK (ha pos pins s1 σ H1 _ I1 q) λ us s2 ⟨vs,H2,I2,r,q2⟩=>⟨I2.FH,?_⟩) he vo
 have q3:sp (vs++[]) H2 Q E:=by rw[bC];exact q2
 exact LJ F hr hb .nil hx I2 r q3
end L2
namespace L2
open PySem PySem.Spec PyProof.Rows
theorem qf{N P:List Str}{sc:eP}(a:sc.kind= .function:=by rfl)(b:sc.isCoroutine=false:=by rfl)(c:sc.isGenerator=false:=by rfl)(d:N.Nodup:=by decide +kernel)(e:N.take P.length=P:=by rfl)(f:∀x∈P,sc.names.lookup x=some .local\/sc.names.lookup x=some .cell:=by decide +kernel)(g:∀y∈sc.names,y.2≠ .free:=by decide +kernel):m7 N P sc:=⟨a,b,c,d,e,f,g⟩
abbrev tp:List Str:=["search","numbers","row"]
end L2
namespace n_
end n_
open PySem PySem.Spec PyProof.Rows L2
open Vbmrac (Tok Toks Bad bytesOf wordAhead mustWord semi numAt nameAt placeOf KEYS cellOf cellsAt membersAt teamsAt tokens isLetter isDigit isText nats inside mass gain left total more cellAt greatest gains deal less line decimal written wouldFind lowest timeSum goesAhead putIn ordered thriftRow thriftTable thriftFrom thrift slots canSearch augment slotFor teamsFrom teamDeal canMake Use State Field isRow isCell nums qRow tooMany room timesOf expected listed doing efforts none_ weighed)
variable{P:aK}{w:bj}{K:ah}{mg:Str->Option ao}{base:bF}{f CS CF CC CT CB C CR CP:ag}{fd:bP}
namespace n_
def top(i:Nat):bz:=PySem.Challenge.pw_searchefforts_s01_answers.main.body.getD i (.Pass ⟨0,0,0,0⟩)
abbrev EU:bz:=top 2
abbrev Cd:bz:=top 3
abbrev DB:bz:=top 4
abbrev Bd:bz:=top 5
abbrev Qq:bz:=top 6
abbrev EV:bz:=top 7
abbrev Ce:bz:=top 8
abbrev L5:bz:=top 9
abbrev EW:bz:=top 11
abbrev Cf:bz:=top 12
abbrev Cg:bz:=top 13
abbrev Ci:bz:=top 14
abbrev wU:bz:=top 17
abbrev xZ:bz:=top 18
abbrev EX:bz:=inClass (top 20) 0
abbrev EY:bz:=inClass (top 21) 0
abbrev Cj:bz:=inClass (top 22) 0
abbrev Ck:bz:=inClass (top 38) 0
abbrev L6:bz:=top 39
abbrev x9:bz:=top 40
abbrev x_:bz:=top 41
abbrev EZ:bz:=top 42
abbrev HM:bz:=top 43
abbrev ab1:bz:=top 44
abbrev tH:bz:=inClass (top 60) 0
abbrev zX:bz:=inClass (top 61) 0
abbrev ya:bz:=inClass (top 61) 1
abbrev wV:bz:=inClass (top 61) 2
abbrev zY:bz:=inClass (top 61) 3
abbrev ui:bz:=inClass (top 61) 4
abbrev uj:bz:=inClass (top 61) 5
abbrev uk:bz:=inClass (top 61) 6
abbrev sI:bz:=inClass (top 61) 7
abbrev vq:bz:=inClass (top 61) 8
abbrev Be:bz:=top 62
abbrev Cm:bz:=top 63
abbrev zZ:bz:=top 64
abbrev E1:bz:=top 65
abbrev yc:bz:=top 66
abbrev Cn:bz:=top 67
abbrev z6:bz:=inClass (top 69) 0
abbrev sJ:bz:=inClass (top 69) 1
abbrev wW:bz:=inClass (top 69) 2
abbrev wX:bz:=inClass (top 69) 3
abbrev uI:bz:=inClass (top 69) 4
abbrev sL:bz:=inClass (top 69) 5
abbrev sM:bz:=inClass (top 69) 6
abbrev uJ:bz:=inClass (top 69) 7
abbrev tY:bz:=inClass (top 69) 8
abbrev z7:bz:=inClass (top 69) 9
abbrev DC:bz:=top 71
abbrev WS:bz:=top 72
abbrev E2:bz:=top 73
abbrev Bf:bz:=top 74
abbrev Qr:bz:=top 75
abbrev Co:bz:=inClass (top 77) 0
abbrev wt:bz:=inClass (top 77) 1
abbrev uK:bz:=top 78
abbrev yd:bz:=top 79
abbrev Bg:bz:=top 80
abbrev DD:bz:=top 81
abbrev vt:bz:=top 82
abbrev Bh:bz:=top 83
abbrev ye:bz:=top 85
abbrev DE:bz:=top 86
abbrev vw:bz:=top 87
abbrev yf:bz:=top 88
abbrev yg:bz:=top 103
abbrev Cp:bz:=top 104
abbrev Cq:bz:=top 105
abbrev E3:bz:=top 106
abbrev E5:bz:=top 107
abbrev rM:bz:=top 108
abbrev yi:bz:=top 109
abbrev Bi:bz:=top 110
abbrev HP:bz:=top 111
abbrev Cr:bz:=top 112
abbrev E6:bz:=top 113
abbrev Cs:bz:=top 114
abbrev Ct:bz:=top 115
abbrev z8:bz:=top 116
abbrev Cu:bz:=top 117
abbrev yj:bz:=top 118
abbrev Cv:bz:=top 119
abbrev HQ:bz:=top 120
abbrev Cw:bz:=top 121
abbrev z9:bz:=top 122
abbrev Cy:bz:=top 123
abbrev E7:bz:=top 128
abbrev HR:bz:=top 129
end n_
namespace L2
section
variable{X:Cx}
def Ta:Nat:=2 ^ 8000
def Tb(i j:Int):Prop:=0<j/\j<(Ta:Int)
theorem DF:EB X (gA .FloorDiv) (rI Tb λ i j=>.int (i / j)):=opI λ i j _ _ _ _ _ hc q=>by
 have h1:(0:Int)<j:=hc.1
 have h2:j<(Ta:Int):=hc.2
 refine floordiv_int (by omega) (by rw[Int.fdiv_eq_ediv_of_nonneg i (by omega)];exact q) (.inl (PyProof.noPylong_of_log2 ?_))
 have h3:j.natAbs<Ta:=by omega
 by_cases hz:j.natAbs=0
 ·rw[hz];decide
 ·exact iU ((mG hz).mpr h3) (by decide)
end
end L2
namespace n_
def GW(H:Hp)(Q:VK)(xs:List V):Prop:=∀H' p,m5 H H'->H p=none->H' p=some (.lst xs)->Q (.ref p) H'
inductive Cz (vs:List V) (H:Hp) (Q:VK) (Ex:XK):Prop
 |mk (u l:Nat):vs=[.int u,.int l]->0<l->l<Ta->u<Ta->GW H Q [.int ((u / kX u l:Nat)),.int ((l / kX u l:Nat))]->Cz vs H Q Ex
theorem HS:m7 ["upper","lower","divisor","rest","smaller"] ["upper","lower"] (mZ EU):=qf
theorem Qs(F:pG K "fraction" "fraction" EU f fd):nO P w K mg base oE 1 f fd ["upper","lower"] Cz:=by
 refine F.ok HS (λ vs H Q E h=>?_) (λ oU A outer s H vs Q E hr h=>?_)
 ·obtain⟨u,l,rfl,_⟩:=h
  rfl
 ·obtain⟨u,l,rfl,hl,hb,hub,k⟩:=h
  have nd:=HS.nd
  refine⟨_,mV (m6 (i:=2) nd rfl (Or.inl rfl) (pv 1)) (mV (m6 (i:=3) nd rfl (Or.inl rfl) (pv 0))
   (mV (rK PassesOwn.never (om BH (pv 3) nM (oH _))
    (mV (m6 (i:=4) nd rfl (Or.inl rfl) (og abt (pv 2) (pv 3))) (mV (m6 (i:=2) nd rfl (Or.inl rfl) (pv 3)) (m4 (m6 (i:=3) nd rfl (Or.inl rfl) (pv 4))))))
   (m4 (m9 (nN (mU (og DF (pv 0) (pv 2)) (mU (og DF (pv 1) (pv 2)) mW))))))),?_⟩
  refine⟨_,rfl,_,rfl,?_⟩
  refine⟨λ m σ H'=>∃(d:Nat) (sm:Option V),H'=H/\σ=[some (.int u),some (.int l),some (.int d),some (.int (m:Nat)),sm]/\0<d/\d<Ta/\m<Ta/\kX d m=kX u l,⟨u,l,none,rfl,rfl,hl,hb,hub,jZ l u⟩,?_⟩
  rintro r σ H' ⟨d,sm,rfl,rfl,hd,PH,hrb,hg⟩
  refine⟨_,rfl,_,_,rfl,rfl,_,rfl,p8 (λ hc=>?_) λ hc=>?_⟩
  ·have WT:0<r:=by
    have:=of_decide_eq_true hc
    omega
   refine⟨_,λ _ _ z=>z,_,rfl,_,rfl,_,_,rfl,rfl,(by show(0:Int)<(r:Int);omega),_,rfl,_,rfl,?_⟩
   have e:((d:Int) % (r:Int))=((d % r:Nat):Int):=(Int.natCast_emod d r).symm
   refine⟨d % r,mO d WT,r,some (.int ((d % r:Nat):Int)),rfl,?_,WT,hrb,iU (mO d WT) hrb,?_⟩
   ·rw[<-e];rfl
   ·rw[<-hg,jZ d r,Nat.gcd_rec r d,jZ]
  ·have WT:r=0:=by
    have:¬ (0:Int)<(r:Int):=λ q=>hc (decide_eq_true q)
    omega
   subst WT
   rw[Nat.gcd_zero_right]at hg
   have e1:∀x:Int,Tb x (d:Int):=λ x=>⟨by omega,by omega⟩
   refine⟨_,rfl,_,rfl,_,_,rfl,rfl,e1 _,_,rfl,_,rfl,_,_,rfl,rfl,e1 _,(by show 2<=ay;decide),λ p hp=>?_⟩
   refine k _ p (λ b o e=>by rw[mY (nE e hp)];exact e) hp ?_
   rw[mX,hg]
   rfl
end n_
namespace L2
def L7(o:Obj):Bool:=match o.data with
 | .dict es _=>es.toList.all λ e=>match e.key with | .str _ _=>true|_=>false
 |_=>false
theorem ab2{K:ah}{C f N:ag}{nm q:Str}{bs:List ao}{L4:Bool}{sn:List Str}{sub:List ao}{ab:Bool}{col:Option Bool}{dd:Option ag}{k0 k1 k2 k3 k5:Option ao}{oN oI:Obj}
  (lC:K.lookup C=some (ll nm q C N bs WH L4 sn sub ab col dd k0 k1 k2 k3 k5 "Exception.__new__"))(lN:K.lookup N=some oN)(hN:L7 oN=true)(hi:bt K N "__init__"=some (some (.ref f)))(lI:K.lookup f=some oI)(cI:oI.cls= .type "function")
  (kp:bZ K (.ref C)=true):ZL K C f:=by
 refine⟨⟨nm,q,N,bs,L4,sn,sub,ab,col,dd,k0,k1,k2,k3,k5,lC,oN,?_⟩,⟨oI,lI,cI⟩,kp⟩
 obtain⟨oc,od,da,sl⟩:=oN
 unfold L7 at hN
 cases da with
 |dict es ep=>
  refine⟨es,ep,lN,rfl,λ e he=>?_,?_⟩
  ·have z:=List.all_eq_true.mp hN e (by simpa using he)
   split at z
   ·rename_i n t hk
    exact⟨n,t,hk⟩
   ·cases z
  ·unfold bt at hi
   rw[lN]at hi
   dsimp only at hi
   split at hi
   ·rename_i en he
    have ev:en.val=Value.ref f:=Option.some.inj (Option.some.inj hi)
    unfold mK findBy
    rw[<-Array.find?_toList,he,<-ev]
    rfl
   ·split at hi <;> cases hi
 |_=>cases hN
theorem UB{K:ah}{C:ag}{cd:ClassData}(c:ji K C=some cd)(m:cd.mro=[.ref C,.type "Exception",.type "BaseException",.type "object"])(h:cd.hasDict=true)
  (sa:bw K (.ref C) "__setattr__"=some (some (.builtin "object.__setattr__")))(ga:bw K (.ref C) "__getattribute__"=some (some (.builtin "BaseException.__getattribute__"))):tG K C:=⟨⟨cd,c,m,h⟩,sa,ga⟩
end L2
namespace n_
abbrev wd(k p:V):HO:=.xd (v_ "place" p [("kind",k)])
inductive z_ (C:ag) (vs:List V) (H:Hp) (Q:VK) (Ex:XK):Prop
 |mk (e:ag) (tv:ao) (k p:V):vs=[.ref e,k,p]->H e=some (FN C e none tv)->(∀H' dx,H' e=some (FN C e (some dx) tv)->H' dx=some (wd k p)->NE H H'->Q .qt H')->z_ C vs H Q Ex
theorem NS:m7 ["self","kind","place"] ["self","kind","place"] (mZ tH):=qf
theorem NT{f C:ag}{fd:bP}(F:pG K "__init__" "Wrong.__init__" tH f fd)(M:ZL K C f)(EC:tG K C)(hm:mg "Exception"=none)(n1:oA K C "kind")(n2:oA K C "place"):
  nO P w K mg base oE 1 f fd ["self","kind","place"] (z_ C):=by
 refine F.ok NS (λ vs H Q E h=>?_) (λ oU A outer s H vs Q E hr h=>?_)
 ·obtain⟨e,tv,k,p,rfl,_⟩:=h
  rfl
 ·obtain⟨e,tv,k,p,rfl,he,kk⟩:=h
  refine⟨_,mV (nZ (NQ M rfl hm (mU (pv 0) (mU qk mW)))) (mV (WO EC (pv 0) (pv 1)) (m4 (WQ EC (pv 0) (pv 2)))),?_⟩
  refine⟨_,rfl,e,none,tv,_,rfl,(by show 1<=1000;decide),he,_,rfl,_,rfl,e,tv,rfl,he,n1,λ dx hdx xG=>?_⟩
  refine⟨_,rfl,_,rfl,e,tv,dx,_,rfl,?_,xG,mX,(by show 1<=50;decide),n2,?_⟩
  ·rw[mY (Ne.symm xG),mX]
  ·refine kk _ dx ?_ mX ?_
   ·rw[mY (Ne.symm xG),mY (Ne.symm xG),mX]
   ·have a1:NE H (upd H e (FN C e (some dx) tv)):=NE.upd (.inr ⟨_,he⟩)
    have a2:NE (upd H e (FN C e (some dx) tv)) (upd (upd H e (FN C e (some dx) tv)) dx (DxO dx [("kind",k)])):=NE.upd (.inl (by rw[mY xG];exact hdx))
    exact(a1.trans a2).trans (NE.upd (.inr ⟨_,mX⟩))
abbrev nV(t:List Nat):List V:=t.map λ(n:Nat)=>V.int (n:Int)
def o_(t:List Nat)(start lo hi:Nat):Nat:=((t.drop start).takeWhile λ c=>decide (lo<=c) && decide (c<=hi)).length
theorem NU{t:List Nat}{start lo hi:Nat}(h:t.length<=start):o_ t start lo hi=0:=by
 unfold o_;rw[gL h];rfl
theorem rk{t:List Nat}{start lo hi c:Nat}(h:t[start]? =some c):o_ t start lo hi=if lo<=c/\c<=hi then o_ t (start+1) lo hi+1 else 0:=by
 unfold o_
 obtain⟨hl,e⟩:=List.getElem?_eq_some_iff.mp h
 rw[d8 hl,e,List.takeWhile_cons]
 by_cases h1:lo<=c <;> by_cases h2:c<=hi <;> simp[h1,h2]
theorem KG(t:List Nat)(start lo hi:Nat):start+o_ t start lo hi<=max start t.length:=by
 unfold o_
 have h1:((t.drop start).takeWhile λ c=>decide (lo<=c) && decide (c<=hi)).length<=(t.drop start).length:=(gU _).length_le
 rw[gC]at h1
 omega
theorem oR{t:List Nat}{i c:Nat}(h:t[i]? =some c):(nV t)[i]? =some (V.int c):=by rw[ak,h];rfl
inductive HU (K:ah) (vs:List V) (H:Hp) (Q:VK) (Ex:XK):Prop
 |mk (a:ag) (t:List Nat) (start lo hi:Nat):vs=[.ref a,.int start,.int lo,.int hi]->nA K H a (nV t)->start<=t.length->Q (.int ((start+o_ t start lo hi:Nat))) H->HU K vs H Q Ex
theorem NV:m7 ["text","start","low","high","end"] ["text","start","low","high"] (mZ L6):=qf
theorem WU(F:pG K "run_end" "run_end" L6 f fd)(hlen:mg "len"=none):nO P w K mg base oE 1 f fd ["text","start","low","high"] (HU K):=by
 refine F.ok NV (λ vs H Q E h=>?_) (λ oU A outer s H vs Q E hr h=>?_)
 ·obtain⟨a,t,start,lo,hi,rfl,_⟩:=h
  rfl
 ·obtain⟨a,t,start,lo,hi,rfl,hs,LG,k⟩:=h
  have nd:=NV.nd
  refine⟨_,mV (m6 (i:=4) nd rfl (Or.inl rfl) (pv 1)) (mV (rK PassesOwn.never (PW.pt (EI (om Hv (pv 4) (nJ nL rfl hlen aX (mU (pv 0) mW)) (oH _)) (A_ (vm p7 p7 (pv 2) (oZ n9 (pv 0) (pv 4) (λ _ _=>rfl)) (pv 3)))))
   (m4 (Hs (i:=4) nd rfl (Or.inl rfl) nM zO))) (m4 (m9 (pv 4)))),?_⟩
  refine⟨_,rfl,λ m σ H'=>∃e:Nat,H'=H/\σ=[some (.ref a),some (.int start),some (.int lo),some (.int hi),some (.int e)]/\e<=t.length/\m=t.length-e/\e+o_ t e lo hi=start+o_ t start lo hi,⟨_,start,rfl,rfl,LG,rfl,rfl⟩,?_⟩
  rintro m σ H' ⟨e,rfl,rfl,he,rfl,heq⟩
  refine⟨_,rfl,_,rfl,a,_,rfl,.inl hs,_,_,rfl,rfl,_,rfl,?_⟩
  have fin:o_ t e lo hi=0->acT (Zi 4) { nx:=λ _ H''=>Q .qt H'',rt:=Q } [some (.ref a),some (.int start),some (.int lo),some (.int hi),some (.int e)] H':=λ z=>by
   refine⟨_,rfl,?_⟩
   have z2:e=start+o_ t start lo hi:=by omega
   show Q (.int (e:Int)) H'
   rw[z2];exact k
  refine p8 (λ hc=>?_) λ hc=>?_
  ·have rL:e<t.length:=by
    have z:=of_decide_eq_true hc
    rw[aa]at z
    omega
   have E8:t[e]? =some t[e]:=af rL
   have WV:=rk (lo:=lo) (hi:=hi) E8
   refine⟨_,rfl,_,rfl,_,rfl,a,_,_,_,rfl,rfl,hs,oo (oR E8),_,_,rfl,rfl,_,rfl,?_⟩
   refine p8 (λ h1=>?_) λ h1=>?_
   ·refine⟨_,rfl,_,_,rfl,rfl,_,rfl,p8 (λ h2=>?_) λ h2=>?_⟩
    ·have g1:=of_decide_eq_true h1
     have g2:=of_decide_eq_true h2
     rw[if_pos ⟨by omega,by omega⟩]at WV
     refine⟨_,λ _ _ z=>z,_,rfl,_,_,rfl,rfl,t.length-(e+1),by omega,e+1,rfl,?_,rL,rfl,by omega⟩
     show[_,_,_,_,some (V.int ((e:Int)+1))]=_
     rw[show((e:Int)+1)=((e+1:Nat):Int)from rfl]
    ·have g2:¬ ((t[e]:Nat):Int)<=hi:=λ q=>h2 (decide_eq_true q)
     rw[if_neg (by omega)]at WV
     exact fin WV
   ·have g1:¬ (lo:Int)<=((t[e]:Nat):Int):=λ q=>h1 (decide_eq_true q)
    rw[if_neg (by omega)]at WV
    exact⟨_,rfl,rG (fin WV)⟩
  ·have hge:t.length<=e:=by
    have z:¬ (e:Int)<((nV t).length:Int):=λ q=>hc (decide_eq_true q)
    rw[aa]at z
    omega
   exact rG (fin (NU hge))
end n_
namespace L2
def oC(mg:Str->Option ao)(x:Str)(n:Int):Prop:=∃t,mg x=some (.int n t)
def BE(mg:Str->Option ao)(x:Str)(z:Str):Prop:=∃t,mg x=some (.str z t)
theorem nP{X:Cx}{x:Str}{n:Int}{pos:Pos}(hm:oC X.mg x n)(hg:Gl X x:=by rfl)(hd:(x == ("__debug__":Str))=false:=by decide):PE X (.Name x pos) (tC (.int n)):=by
 obtain⟨t,e⟩:=hm
 exact LC hg e ⟨t,rfl⟩ hd
theorem wu{X:Cx}{x z:Str}{pos:Pos}(hm:BE X.mg x z)(hg:Gl X x:=by rfl)(hd:(x == ("__debug__":Str))=false:=by decide):PE X (.Name x pos) (tC (.str z)):=by
 obtain⟨t,e⟩:=hm
 exact LC hg e ⟨t,rfl⟩ hd
def rA(P:aK)(w:bj)(K:ah)(mg:Str->Option ao)(base:bF)(CX:ED)(k:Nat)(x:Str)(ps:List Str)(sp:Sp):Prop:=
 ∃f fd,nO P w K mg base CX k f fd ps sp/\mg x=some (.ref f)/\bZ K (.ref f)=true/\Binds K fd ps []
theorem nq{X:Cx}{CX:ED}{E:XK}{k j:Nat}{x:Str}{ps:List Str}{sp:Sp}{e:bJ}{es:List bJ}{t:TA}{p pos:Pos}(h:rA X.prog X.w X.K X.mg X.base CX k x ps sp)(hr:rb j X.A)(hj:k<=j)(hx:Passes CX X E)(ha:PA X (e::es) t)(hg:Gl X x:=by rfl)
  (PH:(x == ("__debug__":Str))=false:=by decide)(he:aN (e::es) X.env=(false,cw e X.env)::aN es X.env:=by rfl)(vo:(c8 pos (aN es X.env)).any (·.1)=false:=by rfl):
  PE X (.Call (.Name x p) (e::es) [] pos) (tCB (λ vs H Q=>sp vs H Q E) t):=by
 obtain⟨f,fd,F,m,kp,b⟩:=h
 intro pins s σ H Q I hw
 have z:=Zp (pos:=pos) (p:=p) F (hr.mono hj) hg m kp b .nil hx ha PH he vo
 refine z pins s σ H Q I ?_
 show t σ H λ vs H1=>sp (vs++[]) H1 Q E
 have e2:(λ vs H1=>sp (vs++[]) H1 Q E)=(λ(vs:List V) (H1:Hp)=>sp vs H1 Q E):=by funext vs H1;rw[bC]
 rw[e2];exact hw
inductive FO (C:ag) (fl:List Str) (vs:List V) (H:Hp) (Q:VK) (Ex:XK):Prop
 |mk (x) (dx) (args):vs= .ref x::args->args.length=fl.length->H x=some (.ins C dx [])->(∀H',H' x=some (.ins C dx (fl.zip args))->(∀b o,H b=some o->b≠x->H' b=some o)->Q .qt H')->FO C fl vs H Q Ex
structure Rec(P:aK)(w:bj)(K:ah)(mg:Str->Option ao)(base:bF)(x:Str)(C:ag)(fl:List Str):Prop where
 cl:G4 K C
 nm:mg x=some (.ref C)
 na:∀f∈fl,oA K C f
 mkr:∃f fd,Mk K C f/\nO P w K mg base oE 1 f fd ("self"::fl) (FO C fl)/\Binds K fd ("self"::fl) []
def aeP(C:ag)(fl:List Str)(t:TA):TE:=λ σ H Q=>t σ H λ vs H1=>vs.length=fl.length/\∀x dx H2,H1 x=none->H2 x=some (.ins C dx (fl.zip vs))->m5 H1 H2->Q (.ref x) H2
theorem vx{X:Cx}{j:Nat}{x:Str}{C:ag}{fl:List Str}{e:bJ}{es:List bJ}{t:TA}{p pos:Pos}(h:Rec X.prog X.w X.K X.mg X.base x C fl)(hr:rb j X.A)(hj:2<=j)(ha:PA X (e::es) t)(hg:Gl X x:=by rfl)
  (PH:(x == ("__debug__":Str))=false:=by decide)(he:aN (e::es) X.env=(false,cw e X.env)::aN es X.env:=by rfl)(vo:(c8 pos (aN es X.env)).any (·.1)=false:=by rfl):
  PE X (.Call (.Name x p) (e::es) [] pos) (aeP C fl t):=by
 obtain⟨f,fd,M,F,b⟩:=h.mkr
 intro pins s σ H Q I hw
 refine c6 (xT I hg h.nm ?_ PH)
 refine dJ (h₀:=X.base) I.ok.mod.Zg M.kp (pK (ha pos pins s σ H _ I hw) λ us s1 ⟨vs,H1,I1,r,hl,q⟩=>⟨I1.FH,?_⟩) he vo
 refine HD (E:=E0) M F (hr.mono hj) b .nil (λ _ _ _ _ _ _ _ z=>z.elim) I1 r λ y dy hy hdy ne=>?_
 refine⟨y,dy,vs,by rw[bC],hl,mX,λ H' h1 h2=>⟨rfl,q y dy H' hy h1 (m5.made hy hdy h2)⟩⟩
end L2
namespace n_
theorem NW:m7 ["self","kind","value","place"] ["self","kind","value","place"] (mZ Ck):=qf
theorem NX{f C:ag}{fd:bP}(F:pG K "__init__" "Piece.__init__" Ck f fd)(cl:G4 K C)(na:∀g∈(["kind","value","place"]:List Str),oA K C g):nO P w K mg base oE 1 f fd ["self","kind","value","place"] (FO C ["kind","value","place"]):=by
 refine F.ok NW (λ vs H Q E h=>?_) (λ oU A outer s H vs Q E hr h=>?_)
 ·obtain⟨x,dx,args,rfl,hl,_⟩:=h
  rw[aD,hl];rfl
 ·obtain⟨x,dx,args,rfl,hl,hx,k⟩:=h
  match args,hl with
  |[a,b,c],_=>
   have n1:=na "kind" (by simp)
   have n2:=na "value" (by simp)
   have n3:=na "place" (by simp)
   refine⟨_,mV (pS (pv 0) (pv 1) rfl) (mV (pS (pv 0) (pv 2) rfl) (m4 (pS (pv 0) (pv 3) rfl))),?_⟩
   refine⟨_,rfl,_,rfl,x,C,dx,_,rfl,hx,cl,n1,(by show 0<1000;decide),_,rfl,_,rfl,x,C,dx,_,rfl,mX,cl,n2,(by show 1<1000;decide),_,rfl,_,rfl,x,C,dx,_,rfl,mX,cl,n3,(by show 2<1000;decide),?_⟩
   refine k _ mX λ b o e hb=>?_
   rw[mY hb,mY hb,mY hb];exact e
inductive Pc where
 |word (w:List Nat)|num (n:Nat)|stop|bad|fin
abbrev strOf(w:List Nat):Str:=⟨w.toArray⟩
def Pc.kd:Pc->V
 | .word _=>.str "word" | .num _=>.str "number" | .stop=>.str "stop" | .bad=>.str "bad" | .fin=>.str "end"
def Pc.vl:Pc->V
 | .word w=>.str (strOf w)| .num n=>.int n|_=>.qt
abbrev J5:List Str:=["kind","value","place"]
def rD(C:ag)(H:Hp)(a:ag)(p:Pc×Nat):Prop:=∃dx,H a=some (.ins C dx (J5.zip [p.1.kd,p.1.vl,.int p.2]))
def ab3(C:ag)(H:Hp)(Q:VK)(p:Pc×Nat):Prop:=∀H' x,m5 H H'->H x=none->rD C H' x p->Q (.ref x) H'
def Aa(t:List Nat)(i e:Nat):Pc:=if 8<e-i then .bad else .word ((t.drop i).take (e-i))
inductive Ab (K:ah) (C:ag) (vs:List V) (H:Hp) (Q:VK) (Ex:XK):Prop
 |mk (a:ag) (t:List Nat) (i e:Nat):vs=[.ref a,.int i,.int e]->nA K H a (nV t)->i<=e->e<=t.length->t.length<=2000->(∀c∈(t.drop i).take (e-i),97<=c/\c<=122)->ab3 C H Q (Aa t i e,i)->Ab K C vs H Q Ex
abbrev HV:List Str:=["text","start","end","letters","byte"]
theorem FP:m7 HV ["text","start","end"] (mZ x9):=qf
theorem Tc(t:List Nat){i e:Nat}(h1:i<=e)(h2:e<=t.length):BZ (nV t) (some (i:Int)) (some (e:Int))=nV ((t.drop i).take (e-i)):=by
 unfold BZ
 rw[HT.G5,HT.G5,aa,fM (aV h1 h2),fM h2,<-lW,<-lV]
theorem Qt{c:Nat}(h1:97<=c)(h2:c<=122):YX (Str.ofString "abcdefghijklmnopqrstuvwxyz").cps.toList ((c:Int)-97)=some c:=by
 obtain⟨k,rfl⟩:∃k,c=97+k:=⟨c-97,by omega⟩
 have hk:k<26:=by omega
 have e:((97+k:Nat):Int)-97=(k:Int):=by omega
 rw[e]
 have all:∀k:Nat,k<26->YX (Str.ofString "abcdefghijklmnopqrstuvwxyz").cps.toList (k:Int)=some (97+k):=by decide +kernel
 exact all k hk
theorem FQ:∀u:List Nat,TL.FL [] ((u.map λ c=>(⟨#[c]⟩:Str)).map TL.tl)=u
 |[]=>rfl
 |[c]=>rfl
 |c::d::r=>by
  have:=FQ (d::r)
  exact congrArg (c::·) this
theorem Qu(u:List Nat):Txt.join "" (u.map λ c=>(⟨#[c]⟩:Str))=strOf u:=by
 rw[TL.join_eq]
 have h:=TL.G8 "" (u.map λ c=>(⟨#[c]⟩:Str))
 rw[show TL.tl ("":Str)=[]from rfl,FQ]at h
 exact TL.Qn h
theorem NY:∀u:List Nat,(u.map ((λ z:Str=>z.length) ∘ λ c=>(⟨#[c]⟩:Str))).sum=u.length
 |[]=>rfl
 |c::r=>by
  rw[aH,iA,NY r,aD]
  show 1+ _=_
  omega
theorem oq{t:List Nat}{i:Nat}{x:V}(h:(nV t)[i]? =some x):∃c,t[i]? =some c/\x=V.int (c:Nat):=by
 rw[ak]at h
 cases q:t[i]? with
 |none=>rw[q]at h;cases h
 |some c=>rw[q]at h;exact⟨c,rfl,(Option.some.inj h).symm⟩
theorem NZ{f C:ag}{fd:bP}(F:pG K "word_piece" "word_piece" x9 f fd)(R:Rec P w K mg base "Piece" C J5)(g1:oC mg "LONGEST_WORD" 8)(g2:BE mg "BAD" "bad")(g3:BE mg "WORD" "word")(g4:BE mg "LETTERS" "abcdefghijklmnopqrstuvwxyz")(g5:oC mg "FIRST_LETTER" 97):
  nO P w K mg base oE 3 f fd ["text","start","end"] (Ab K C):=by
 refine F.ok FP (λ vs H Q E h=>?_) (λ oU A outer s H vs Q E hr h=>?_)
 ·obtain⟨a,t,i,e,rfl,_⟩:=h
  rfl
 ·obtain⟨a,t,i,e,rfl,hs,h1,h2,h3,hl,k⟩:=h
  have nd:=FP.nd
  refine⟨_,mV (pf (om BH (og sF (pv 2) (pv 1)) (nP g1) (oH _)) (m4 (m9 (vx R hr (by decide) (mU (wu g2) (mU zM (mU (pv 1) mW)))))) nX)
   (mV (zV (i:=3) (own:=[("byte",4)]) rfl nd rfl rfl rfl (oJ (Dr G6 (pv 0) (wm (pv 1)) (wm (pv 2)))) (by exact pz.of (N:=HV) (sc:=mZ x9) (by decide +kernel))
    (λ _ _ _ _ _=>nr (i:=4) nd rfl (Or.inl rfl)) (λ _ _ _ _ _=>oP) (λ _ _ _ _ _=>oZ abC (wu g4) (og sF (pv 4) (nP g5)) (λ _ _=>rfl)))
   (m4 (m9 (vx R hr (by decide) (mU (wu g3) (mU (LU qk (pv 3)) (mU (pv 1) mW))))))),?_⟩
  refine⟨_,rfl,_,rfl,_,_,rfl,rfl,_,_,rfl,rfl,_,rfl,p8 (λ hc=>?_) λ hc=>?_⟩
  ·have hc:=of_decide_eq_true hc
   refine⟨_,rfl,rfl,λ x dx H2 hx Dz sm=>k H2 x sm hx ⟨dx,?_⟩⟩
   rw[Dz]
   unfold Aa
   rw[if_pos (by omega)]
   rfl
  ·have hc:¬ (8:Int)<(e:Int)-(i:Int):=λ q=>hc (decide_eq_true q)
   have hw:Aa t i e= .word ((t.drop i).take (e-i)):=by unfold Aa;rw[if_neg (by omega)]
   refine⟨_,rfl,_,rfl,_,rfl,_,rfl,_,rfl,a,_,rfl,hs,λ p hp=>⟨p,rfl,⟨_,nA.of mX⟩,?_⟩⟩
   rw[Tc t h1 h2]
   generalize hu:(t.drop i).take (e-i)=u at hl hw ⊢
   have hul:u.length<=8:=by rw[<-hu,bX];omega
   refine oV (oQ (K:=K) (a:=p) (xs:=nV u) (nA.of mX)) (u.map λ c=>V.str ⟨#[c]⟩) (by simp) (by rw[aa,aA];omega) (λ j x y H3 R3 N3 hy sm hF kk=>?_) (λ D H3 hD sm uC=>?_)
   ·obtain⟨c,hc1,rfl⟩:=oq hF
    rw[ak,hc1]at hy
    cases hy
    have EE:=hl c (aC hc1)
    refine⟨rfl,sy ?_⟩
    refine⟨_,rfl,_,_,rfl,rfl,_,_,_,rfl,rfl,(by decide),Qt EE.1 EE.2,kk H3 (m5.refl _)⟩
   ·have wc:m5 H H3:=(m5.new hp).trans sm
    have hDH:H D=none:=(m5.new hp).free hD
    refine⟨⟨_,rfl⟩,_,rfl,_,D,u.map (λ c=>(⟨#[c]⟩:Str)),rfl,rfl,.inl (nA.of (by rw[uC,aW];rfl)),?_,_,rfl,rfl,λ x dx H4 hx hx4 Nn=>?_⟩
    ·rw[aW,aa]
     have e1:=NY u
     rw[e1]
     show _+ _*0<=_
     omega
    ·refine k H4 x (wc.trans Nn) (wc.free hx) ⟨dx,?_⟩
     rw[hx4,hw]
     show some (HO.ins C dx (J5.zip [V.str "word",V.str (Txt.join "" (u.map λ c=>(⟨#[c]⟩:Str))),V.int i]))=_
     rw[Qu]
     rfl
theorem Qv(l:List Nat)(c:Nat):cV (l++[c])=10*cV l+(c-48):=by
 unfold cV
 rw[gn];rfl
theorem WW:∀(l:List Nat),(∀c∈l,48<=c/\c<=57)->l.length<=4->cV l<10000:=by
 intro l h hl
 have step:∀(l:List Nat) (n:Nat),(∀c∈l,48<=c/\c<=57)->l.foldl (λ n c=>10*n+(c-48)) n<(n+1)*10 ^ l.length:=by
  intro l
  induction l with
  |nil=>intro n _;simp
  |cons c r ih=>
   intro n h
   have h1:=h c (by simp)
   have h2:=ih (10*n+(c-48)) (λ d hd=>h d (by simp[hd]))
   rw[cp,aD,fV]
   refine aS h2 ?_
   rw[fX (10 ^ r.length) 10,<-fD]
   exact c7 _ (by omega)
 have h3:=step l 0 h
 unfold cV
 have h4:10 ^ l.length<=10 ^ 4:=dw (by decide) hl
 omega
def HW(t:List Nat)(i e:Nat):Pc:=if 4<e-i\/(1<e-i/\t[i]? =some 48)then .bad else .num (cV ((t.drop i).take (e-i)))
inductive wY (K:ah) (C:ag) (vs:List V) (H:Hp) (Q:VK) (Ex:XK):Prop
 |mk (a:ag) (t:List Nat) (i e:Nat):vs=[.ref a,.int i,.int e]->nA K H a (nV t)->i<e->e<=t.length->t.length<=2000->(∀c∈(t.drop i).take (e-i),48<=c/\c<=57)->ab3 C H Q (HW t i e,i)->wY K C vs H Q Ex
abbrev L8:List Str:=["text","start","end","length","number","byte"]
theorem BI:m7 L8 ["text","start","end"] (mZ x_):=qf
theorem J6{f C:ag}{fd:bP}(F:pG K "number_piece" "number_piece" x_ f fd)(R:Rec P w K mg base "Piece" C J5)(g1:oC mg "LONGEST_NUMBER" 4)(g2:oC mg "FIRST_DIGIT" 48)(g3:BE mg "BAD" "bad")(g4:BE mg "NUMBER" "number"):
  nO P w K mg base oE 3 f fd ["text","start","end"] (wY K C):=by
 refine F.ok BI (λ vs H Q E h=>?_) (λ oU A outer s H vs Q E hr h=>?_)
 ·obtain⟨a,t,i,e,rfl,_⟩:=h
  rfl
 ·obtain⟨a,t,i,e,rfl,hs,h1,h2,h3,hl,k⟩:=h
  have nd:=BI.nd
  refine⟨_,mV (m6 (i:=3) nd rfl (Or.inl rfl) (og sF (pv 2) (pv 1)))
   (mV (pf (PW.pt (Wc (om BH (pv 3) (nP g1) (oH _)) (PX (PW.pt (EI (om BH (pv 3) nM (oH _)) (A_ (om ub (oZ n9 (pv 0) (pv 1) (λ _ _=>rfl)) (nP g2) (oH _))))))))
    (m4 (m9 (vx R hr (by decide) (mU (wu g3) (mU zM (mU (pv 1) mW)))))) nX)
   (mV (m6 (i:=4) nd rfl (Or.inl rfl) nM)
   (mV (qw PassesOwn.never rfl (oJ (Dr G6 (pv 0) (wm (pv 1)) (wm (pv 2)))) (nr (i:=5) nd rfl (Or.inl rfl))
    (m4 (m6 (i:=4) nd rfl (Or.inl rfl) (og sF (og qS (og wR (pv 4) nM) (pv 5)) (nP g2)))))
   (m4 (m9 (vx R hr (by decide) (mU (wu g4) (mU (pv 4) (mU (pv 1) mW))))))))),?_⟩
  have E8:t[i]? =some t[i]:=af (by omega)
  refine⟨_,rfl,_,rfl,_,_,rfl,rfl,_,rfl,_,_,rfl,rfl,_,rfl,?_⟩
  have bad:∀H2 x dx,(4<e-i\/(1<e-i/\t[i]? =some 48))->H x=none->H2 x=some (.ins C dx (J5.zip [.str "bad",.qt,.int i]))->m5 H H2->Q (.ref x) H2:=λ H2 x dx hc hx Dz sm=>by
   refine k H2 x sm hx ⟨dx,?_⟩
   rw[Dz,show HW t i e= .bad from if_pos hc]
   rfl
  refine p8 (λ hc=>s_ ⟨_,rfl,rfl,λ x dx H2 hx Dz sm=>bad H2 x dx (.inl (by have:=of_decide_eq_true hc;omega)) hx Dz sm⟩) λ hc=>⟨_,rfl,_,_,rfl,rfl,_,rfl,p8 (λ hd=>⟨_,rfl,_,rfl,a,_,_,_,rfl,rfl,hs,oo (oR E8),rfl,_,rfl,
   p8 (λ he=>⟨_,rfl,rfl,λ x dx H2 hx Dz sm=>bad H2 x dx (.inr ⟨by have:=of_decide_eq_true hd;omega,by rw[E8];have:=V.int.inj (of_decide_eq_true he);exact congrArg some (by omega)⟩) hx Dz sm⟩) λ he=>?_⟩) λ hd=>rG ?_⟩
  all_goals
   have nb:¬ (4<e-i\/(1<e-i/\t[i]? =some 48)):=by
    have hc:¬ (4:Int)<(e:Int)-i:=λ q=>hc (decide_eq_true q)
    rintro(q|⟨q1,q2⟩)
    ·omega
    ·first
      |(have hd:¬ (1:Int)<(e:Int)-i:=λ q=>hd (decide_eq_true q)
        omega)
      |(rw[E8]at q2
        have q3:=Option.some.inj q2
        exact he (decide_eq_true (by rw[q3];rfl)))
   have hw:HW t i e= .num (cV ((t.drop i).take (e-i))):=if_neg nb
   refine⟨_,rfl,_,rfl,_,rfl,_,rfl,_,rfl,a,_,rfl,hs,λ p hp=>⟨p,rfl,⟨_,nA.of mX⟩,?_⟩⟩
   rw[Tc t (e_ h1) h2]
   have hul:((t.drop i).take (e-i)).length<=4:=by rw[bX];omega
   generalize hu:(t.drop i).take (e-i)=u at hl hw hul ⊢
   refine rg (K:=K) (a:=p) (xs:=nV u) (λ j σ H'=>∃b:Option V,H'=upd H p (.lst (nV u))/\σ=[some (.ref a),some (.int i),some (.int e),some (.int ((e:Int)-i)),some (.int (cV (u.take j):Nat)),b])
    ⟨none,rfl,rfl⟩ (λ j σ H' _ ⟨b,z,_⟩=>by rw[z];exact nA.of mX) ?_ ?_
   ·rintro j x σ H' hx ⟨b,rfl,rfl⟩
    obtain⟨c,hc1,rfl⟩:=oq hx
    have EE:=hl c (aC hc1)
    have hv:cV (u.take j)<10000:=WW _ (λ d hd=>hl d (j7 hd)) (by rw[bX];omega)
    refine⟨_,rfl,_,_,rfl,rfl,.inl ⟨by omega,by omega⟩,_,rfl,_,_,rfl,rfl,_,_,rfl,rfl,some (.int c),rfl,?_⟩
    have e1:u.take (j+1)=u.take j++[c]:=by rw[b8,hc1];rfl
    rw[e1,Qv]
    show[_,_,_,_,some (V.int (((cV (u.take j):Nat):Int)*10+(c:Int)-48)),_]=_
    rw[show((cV (u.take j):Nat):Int)*10+(c:Int)-48=((10*cV (u.take j)+(c-48):Nat):Int) by omega]
   ·rintro σ H' ⟨b,rfl,rfl⟩
    rw[aa,dj]
    refine⟨_,rfl,_,rfl,rfl,λ x dx H4 hx hx4 Nn=>?_⟩
    refine k H4 x ((m5.new hp).trans Nn) ((m5.new hp).free hx) ⟨dx,?_⟩
    rw[hx4,hw]
    rfl
end n_
namespace L2
theorem ZP{X:Cx}(hc:X.calm=true):zP X (.builtin "max") (λ xs H Q=>∃i j k:Int,xs=[.int i,.int j,.int k]/\Q (.int (max i (max j k))) H):=by
 intro pins s σ H xs us Q I r h
 obtain⟨i,j,k,rfl,q⟩:=h
 cases r with
 |cons r1 r=>
  cases r with
  |cons r2 r=>
   cases r with
   |cons r3 r=>
    cases r
    obtain⟨t1,rfl⟩:=r1
    obtain⟨t2,rfl⟩:=r2
    obtain⟨t3,rfl⟩:=r3
    refine max_three_ints (I.ok.hd hc) λ h' tk hk=>⟨_,H,I.kept hk,?_,q⟩
    by_cases h1:j > i
    ·rw[if_pos h1]
     by_cases h2:k > j
     ·rw[if_pos h2];exact⟨t3,by rw[show max i (max j k)=k by omega]⟩
     ·rw[if_neg h2];exact⟨t2,by rw[show max i (max j k)=j by omega]⟩
    ·rw[if_neg h1]
     by_cases h2:k > i
     ·rw[if_pos h2];exact⟨t3,by rw[show max i (max j k)=k by omega]⟩
     ·rw[if_neg h2];exact⟨t1,by rw[show max i (max j k)=i by omega]⟩
end L2
namespace L2
def Gives(ta:TE)(σ:L2.St)(H:Hp)(v:V):Prop:=∀Q:VK,Q v H->ta σ H Q
theorem gv{i:Nat}{σ:L2.St}{H:Hp}{v:V}(h:σ[i]? =some (some v):=by rfl):Gives (Zi i) σ H v:=λ Q q=>⟨v,h,q⟩
theorem gc{σ:L2.St}{H:Hp}{v:V}:Gives (tC v) σ H v:=λ Q q=>q
theorem N0{σ:L2.St}{H:Hp}{ta tb tc:TE}{lo x hi:Int}{t u:TS}{D:Ends}(ha:Gives ta σ H (.int lo))(hb:Gives tb σ H (.int x))(hc:Gives tc σ H (.int hi))(h1:lo<=x/\x<=hi->t D σ H)(h2:¬ (lo<=x/\x<=hi)->u D σ H):
  abl (Sw (Hw (Sr λ i j=>.bl (decide (i<=j))) (Sr λ i j=>.bl (decide (i<=j))) ta tb tc)) t u D σ H:=by
 refine ha _ (hb _ ⟨_,_,rfl,rfl,_,rfl,p8 (λ a=>hc _ ⟨_,_,rfl,rfl,_,rfl,?_⟩) λ a=>⟨_,rfl,rG (h2 λ z=>a (decide_eq_true z.1))⟩⟩)
 exact p8 (λ z=>h1 ⟨of_decide_eq_true a,of_decide_eq_true z⟩) λ z=>h2 λ y=>z (decide_eq_true y.2)
end L2
namespace n_
def nW(t:List Nat)(i:Nat):Nat:=max (i+o_ t i 97 122) (max (i+o_ t i 48 57) (i+1))
inductive CA (K:ah) (vs:List V) (H:Hp) (Q:VK) (Ex:XK):Prop
 |mk (a:ag) (t:List Nat) (i:Nat):vs=[.ref a,.int i]->nA K H a (nV t)->i<=t.length->Q (.int (nW t i:Nat)) H->CA K vs H Q Ex
abbrev UC:List Str:=["text","start","word_end","number_end"]
theorem HX:m7 UC ["text","start"] (mZ EZ):=qf
theorem Qw(F:pG K "piece_end" "piece_end" EZ f fd)(R:rA P w K mg base oE 1 "run_end" ["text","start","low","high"] (HU K))(g1:oC mg "FIRST_LETTER" 97)(g2:oC mg "LAST_LETTER" 122)(g3:oC mg "FIRST_DIGIT" 48)(g4:oC mg "LAST_DIGIT" 57)(aeQ:mg "max"=none):
  nO P w K mg base oE 2 f fd ["text","start"] (CA K):=by
 refine F.ok HX (λ vs H Q E h=>?_) (λ oU A outer s H vs Q E hr h=>?_)
 ·obtain⟨a,t,i,rfl,_⟩:=h
  rfl
 ·obtain⟨a,t,i,rfl,hs,h1,k⟩:=h
  have nd:=HX.nd
  refine⟨_,mV (m6 (i:=2) nd rfl (Or.inl rfl) (nq (E:=E0) R hr (by decide) nj (mU (pv 0) (mU (pv 1) (mU (nP g1) (mU (nP g2) mW))))))
   (mV (m6 (i:=3) nd rfl (Or.inl rfl) (nq (E:=E0) R hr (by decide) nj (mU (pv 0) (mU (pv 1) (mU (nP g3) (mU (nP g4) mW))))))
   (m4 (m9 (nJ (ZP rfl) rfl aeQ lq (mU (pv 2) (mU (pv 3) (mU (og qS (pv 1) nM) mW))))))),?_⟩
  refine⟨_,rfl,_,rfl,a,t,i,97,122,rfl,hs,h1,_,rfl,_,rfl,a,t,i,48,57,rfl,hs,h1,_,rfl,_,rfl,_,rfl,_,_,rfl,rfl,_,_,_,rfl,?_⟩
  show Q (.int _) H
  rw[show max (((i+o_ t i 97 122:Nat):Int)) (max (((i+o_ t i 48 57:Nat):Int)) ((i:Int)+1))=((nW t i:Nat):Int) by unfold nW;omega]
  exact k
def pieceAt(t:List Nat)(i c:Nat):Pc:=if 97<=c/\c<=122 then Aa t i (nW t i)else if 48<=c/\c<=57 then HW t i (nW t i)else if c=59 then .stop else .bad
theorem Td{t:List Nat}{i lo hi e:Nat}(he:e=i+o_ t i lo hi):∀c∈(t.drop i).take (e-i),lo<=c/\c<=hi:=by
 have h1:e-i=o_ t i lo hi:=by omega
 rw[h1]
 unfold o_
 have h2:=gU (p:=λ c=>decide (lo<=c) && decide (c<=hi)) (l:=t.drop i)
 rw[<-List.prefix_iff_eq_take.mp h2]
 intro c hc
 have:=List.all_takeWhile (p:=λ c=>decide (lo<=c) && decide (c<=hi)) (l:=t.drop i)
 have h3:=List.all_eq_true.mp this c hc
 simpa using h3
theorem HY{t:List Nat}{i c:Nat}(h:t[i]? =some c)(hc:97<=c/\c<=122):nW t i=i+o_ t i 97 122:=by
 unfold nW
 have h1:=rk (lo:=97) (hi:=122) h
 have h2:=rk (lo:=48) (hi:=57) h
 rw[if_pos hc]at h1
 rw[if_neg (by omega)]at h2
 omega
theorem KH{t:List Nat}{i c:Nat}(h:t[i]? =some c)(hc:48<=c/\c<=57):nW t i=i+o_ t i 48 57:=by
 unfold nW
 have h1:=rk (lo:=97) (hi:=122) h
 have h2:=rk (lo:=48) (hi:=57) h
 rw[if_pos hc]at h2
 rw[if_neg (by omega)]at h1
 omega
theorem vy{t:List Nat}{i:Nat}(h:i<t.length):i<nW t i/\nW t i<=t.length:=by
 unfold nW
 have h1:=KG t i 97 122
 have h2:=KG t i 48 57
 omega
inductive E9 (K:ah) (C:ag) (vs:List V) (H:Hp) (Q:VK) (Ex:XK):Prop
 |mk (a:ag) (t:List Nat) (i c:Nat):vs=[.ref a,.int i,.int (nW t i:Nat)]->nA K H a (nV t)->t[i]? =some c->t.length<=2000->ab3 C H Q (pieceAt t i c,i)->E9 K C vs H Q Ex
abbrev WX:List Str:=["text","start","end","byte"]
theorem KI:m7 WX ["text","start","end"] (mZ HM):=qf
theorem UD{f C:ag}{fd:bP}(F:pG K "piece_at" "piece_at" HM f fd)(R:Rec P w K mg base "Piece" C J5)(W:rA P w K mg base oE 3 "word_piece" ["text","start","end"] (Ab K C))(N:rA P w K mg base oE 3 "number_piece" ["text","start","end"] (wY K C))
  (g1:oC mg "FIRST_LETTER" 97)(g2:oC mg "LAST_LETTER" 122)(g3:oC mg "FIRST_DIGIT" 48)(g4:oC mg "LAST_DIGIT" 57)(g5:oC mg "SEMICOLON" 59)(g6:BE mg "STOP" "stop")(g7:BE mg "BAD" "bad"):
  nO P w K mg base oE 4 f fd ["text","start","end"] (E9 K C):=by
 refine F.ok KI (λ vs H Q E h=>?_) (λ oU A outer s H vs Q E hr h=>?_)
 ·obtain⟨a,t,i,c,rfl,_⟩:=h
  rfl
 ·obtain⟨a,t,i,c,rfl,hs,E8,h3,k⟩:=h
  have nd:=KI.nd
  refine⟨_,mV (m6 (i:=3) nd rfl (Or.inl rfl) (oZ n9 (pv 0) (pv 1) (λ _ _=>rfl)))
   (mV (pf (vm p7 p7 (nP g1) (pv 3) (nP g2)) (m4 (m9 (nq (E:=E0) W hr (by decide) nj (mU (pv 0) (mU (pv 1) (mU (pv 2) mW)))))) nX)
   (mV (pf (vm p7 p7 (nP g3) (pv 3) (nP g4)) (m4 (m9 (nq (E:=E0) N hr (by decide) nj (mU (pv 0) (mU (pv 1) (mU (pv 2) mW)))))) nX)
   (mV (pf (om ub (pv 3) (nP g5) (oH _)) (m4 (m9 (vx R hr (by decide) (mU (wu g6) (mU zM (mU (pv 1) mW)))))) nX)
   (m4 (m9 (vx R hr (by decide) (mU (wu g7) (mU zM (mU (pv 1) mW))))))))),?_⟩
  have hi:i<t.length:=(List.getElem?_eq_some_iff.mp E8).1
  have eb:=vy hi
  refine⟨_,rfl,_,rfl,a,_,_,_,rfl,rfl,hs,oo (oR E8),?_⟩
  refine N0 gc gv gc (λ hc=>?_) λ hc=>?_
  ·have hc:97<=c/\c<=122:=by omega
   refine⟨_,rfl,_,rfl,_,rfl,a,t,i,_,rfl,hs,e_ eb.1,eb.2,h3,Td (HY E8 hc),?_⟩
   rw[show Aa t i (nW t i)=pieceAt t i c from(if_pos hc).symm];exact k
  have n1:¬ (97<=c/\c<=122):=by omega
  refine N0 gc gv gc (λ hc=>?_) λ hc=>?_
  ·have hc:48<=c/\c<=57:=by omega
   refine⟨_,rfl,_,rfl,_,rfl,a,t,i,_,rfl,hs,eb.1,eb.2,h3,Td (KH E8 hc),?_⟩
   rw[show HW t i (nW t i)=pieceAt t i c by unfold pieceAt;rw[if_neg n1,if_pos hc]];exact k
  have n2:¬ (48<=c/\c<=57):=by omega
  refine⟨_,rfl,rfl,_,rfl,p8 (λ hc=>?_) λ hc=>?_⟩
  ·have hc:c=59:=by have:=V.int.inj (of_decide_eq_true hc);omega
   refine⟨_,rfl,rfl,λ x dx H2 hx Dz sm=>k H2 x sm hx ⟨dx,?_⟩⟩
   rw[Dz];unfold pieceAt;rw[if_neg n1,if_neg n2,if_pos hc];rfl
  ·have hc:¬ c=59:=λ q=>hc (decide_eq_true (by rw[q];rfl))
   refine⟨_,rfl,rfl,λ x dx H2 hx Dz sm=>k H2 x sm hx ⟨dx,?_⟩⟩
   rw[Dz];unfold pieceAt;rw[if_neg n1,if_neg n2,if_neg hc];rfl
end n_
namespace L2
def N1(K:ah)(mg:Str->Option ao)(x:Str)(a:ag)(xs:List V):Prop:=mg x=some (.ref a)/\∀H:Hp,BG K H a xs
theorem KJ{X:Cx}{x:Str}{a:ag}{xs:List V}{pos:Pos}(hm:N1 X.K X.mg x a xs)(hg:Gl X x:=by rfl)(hd:(x == ("__debug__":Str))=false:=by decide):PE X (.Name x pos) (tC (.ref a)):=LC hg hm.1 rfl hd
end L2
namespace n_
def qd(t:List Nat):Nat->Nat->List (Pc×Nat)
 |0,_=>[]
 |n+1,i=>match t[i]? with
  |none=>[]
  |some c=>(if c=32\/c=10 then[]else[(pieceAt t i c,i)])++qd t n (nW t i)
theorem qh{t:List Nat}{i:Nat}(h:t.length<=i):∀n,qd t n i=[]
 |0=>rfl
 |n+1=>by
  unfold qd
  rw[aI h]
theorem L9(t:List Nat):∀(n m i:Nat),t.length-i<=n->t.length-i<=m->qd t n i=qd t m i:=by
 intro n
 induction n with
 |zero=>
  intro m i h1 h2
  rw[qh (by omega),qh (by omega)]
 |succ n ih=>
  intro m i h1 h2
  cases m with
  |zero=>rw[qh (by omega),qh (by omega)]
  |succ m=>
   by_cases hi:i<t.length
   ·have E8:t[i]? =some t[i]:=af hi
    unfold qd
    rw[E8]
    have eb:=vy hi
    show _++qd t n (nW t i)=_++qd t m (nW t i)
    rw[ih m (nW t i) (by omega) (by omega)]
   ·rw[qh (by omega),qh (by omega)]
theorem DG{t:List Nat}{i c:Nat}(h:t[i]? =some c):qd t (t.length-i) i=(if c=32\/c=10 then[]else[(pieceAt t i c,i)])++qd t (t.length-nW t i) (nW t i):=by
 have hi:i<t.length:=(List.getElem?_eq_some_iff.mp h).1
 obtain⟨n,hn⟩:∃n,t.length-i=n+1:=⟨t.length-i-1,by omega⟩
 rw[hn,show qd t (n+1) i=(match t[i]? with
  |none=>[]
  |some c=>(if c=32\/c=10 then[]else[(pieceAt t i c,i)])++qd t n (nW t i))from rfl,h]
 have eb:=vy hi
 show _++qd t n (nW t i)=_
 rw[L9 t n (t.length-nW t i) (nW t i) (by omega) (by omega)]
def CD(t:List Nat):List (Pc×Nat):=qd t t.length 0++[(.fin,t.length)]
def qA(C:ag)(H:Hp)(as:List ag)(ps:List (Pc×Nat)):Prop:=as.length=ps.length/\∀(j:Nat) (a:ag) (p:Pc×Nat),as[j]? =some a->ps[j]? =some p->rD C H a p
theorem rD.same{C:ag}{H H':Hp}{a:ag}{p:Pc×Nat}(h:rD C H a p)(s:m5 H H'):rD C H' a p:=let⟨dx,e⟩:=h;⟨dx,s _ _ e⟩
theorem qA.same{C:ag}{H H':Hp}{as:List ag}{ps:List (Pc×Nat)}(h:qA C H as ps)(s:∀a o,a∈as->H a=some o->H' a=some o):qA C H' as ps:=
 ⟨h.1,λ j a p h1 h2=>let⟨dx,e⟩:=h.2 j a p h1 h2;⟨dx,s a _ (aC h1) e⟩⟩
theorem qA.snoc{C:ag}{H:Hp}{as:List ag}{ps:List (Pc×Nat)}{a:ag}{p:Pc×Nat}(h:qA C H as ps)(h':rD C H a p):qA C H (as++[a]) (ps++[p]):=by
 refine⟨by simp[h.1],λ j b q h1 h2=>?_⟩
 by_cases hj:j<as.length
 ·rw[bp hj]at h1
  rw[bp (by rw[<-h.1];exact hj)]at h2
  exact h.2 j b q h1 h2
 ·rw[bf (by omega)]at h1
  rw[bf (by rw[<-h.1];omega)]at h2
  have e:j-as.length=0:=by
   obtain⟨z,_⟩:=List.getElem?_eq_some_iff.mp h1
   simp at z;omega
  rw[e]at h1
  rw[<-h.1,e]at h2
  cases h1;cases h2
  exact h'
inductive WY (K:ah) (C:ag) (vs:List V) (H:Hp) (Q:VK) (Ex:XK):Prop
 |mk (a:ag) (t:List Nat):vs=[.ref a]->nA K H a (nV t)->t.length<=2000->(∀H' p as,m5 H H'->H p=none->(∀x∈as,H x=none)->H' p=some (.lst (as.map V.ref))->qA C H' as (CD t)->Q (.ref p) H')->WY K C vs H Q Ex
abbrev aeR:List Str:=["text","pieces","at","end"]
theorem aa4:m7 aeR ["text"] (mZ ab1):=qf
theorem adG{f C b:ag}{fd:bP}(F:pG K "cut" "cut" ab1 f fd)(R:Rec P w K mg base "Piece" C J5)(PE':rA P w K mg base oE 2 "piece_end" ["text","start"] (CA K))(PA':rA P w K mg base oE 4 "piece_at" ["text","start","end"] (E9 K C))
  (g1:N1 K mg "BLANKS" b [.int 32,.int 10])(g2:BE mg "END" "end")(hlen:mg "len"=none):nO P w K mg base oE 5 f fd ["text"] (WY K C):=by
 refine F.ok aa4 (λ vs H Q E h=>?_) (λ oU A outer s H vs Q E hr h=>?_)
 ·obtain⟨a,t,rfl,_⟩:=h
  rfl
 ·obtain⟨a,t,rfl,hs,h3,k⟩:=h
  have nd:=aa4.nd
  refine⟨_,mV (m6 (i:=1) nd rfl (Or.inl rfl) (nN mW)) (mV (m6 (i:=2) nd rfl (Or.inl rfl) nM)
   (mV (rK PassesOwn.never (om Hv (pv 2) (nJ nL rfl hlen aX (mU (pv 0) mW)) (oH _))
    (mV (m6 (i:=3) nd rfl (Or.inl rfl) (nq (E:=E0) PE' hr (by decide) nj (mU (pv 0) (mU (pv 2) mW))))
    (mV (pf (om uG (oZ n9 (pv 0) (pv 2) (λ _ _=>rfl)) (KJ g1) (by with_unfolding_all rfl))
     (m4 (nZ (qQ aG a_ a0 pD (pv 1) (mU (nq (E:=E0) PA' hr (by decide) nj (mU (pv 0) (mU (pv 2) (mU (pv 3) mW)))) mW)))) nX)
    (m4 (m6 (i:=2) nd rfl (Or.inl rfl) (pv 3))))))
   (mV (nZ (qQ aG a_ a0 pD (pv 1) (mU (vx R hr (by decide) (mU (wu g2) (mU zM (mU (nJ nL rfl hlen aX (mU (pv 0) mW)) mW)))) mW)))
   (m4 (m9 (pv 1)))))),?_⟩
  refine⟨aE _,λ p hp=>?_⟩
  refine⟨λ m σ H'=>∃(i:Nat) (en:Option V) (as:List ag) (ps:List (Pc×Nat)),σ=[some (.ref a),some (.ref p),some (.int i),en]/\m5 H H'/\H' p=some (.lst (as.map V.ref))/\(∀x∈as,H x=none/\x≠p)/\qA C H' as ps/\
   m=t.length-i/\i<=t.length/\ps.length<=i/\ps++qd t (t.length-i) i=qd t t.length 0,⟨t.length,0,none,[],[],rfl,m5.new hp,mX,by simp,⟨rfl,λ j x q z=>by simp at z⟩,by omega,aE _,ax _,by simp⟩,?_⟩
  rintro m σ H' ⟨i,en,as,ps,rfl,sm,J7,fr,pa,rfl,hi,vo,heq⟩
  refine⟨_,rfl,_,rfl,a,_,rfl,.inl (sm.seq hs),_,_,rfl,rfl,_,rfl,p8 (λ hc=>?_) λ hc=>?_⟩
  ·have rL:i<t.length:=by
    have z:=of_decide_eq_true hc
    rw[aa]at z
    omega
   have E8:t[i]? =some t[i]:=af rL
   have eb:=vy rL
   have st:=DG E8
   refine⟨_,λ _ _ z=>z,_,rfl,_,rfl,a,t,i,rfl,sm.seq hs,hi,?_⟩
   refine⟨_,rfl,_,rfl,a,_,_,_,rfl,rfl,sm.seq hs,oo (oR E8),b,_,rfl,.inr (g1.2 _),rfl,rfl,_,rfl,p8 (λ hb=>?_) λ hb=>?_⟩
   ·have nb:¬ (t[i]=32\/t[i]=10):=by
     intro q
     rcases q with q|q <;> (rw[q]at hb;exact absurd hb (by decide))
    rw[if_neg nb]at st
    refine⟨_,rfl,.inl ⟨rfl,_,nA.of J7⟩,_,rfl,_,rfl,_,rfl,a,t,i,_,rfl,sm.seq hs,E8,h3,λ H2 x wc hx px=>?_⟩
    have Zx:H2 p=some (.lst (as.map V.ref)):=wc _ _ J7
    refine⟨p,_,_,rfl,rfl,Zx,?_,_,rfl,?_⟩
    ·rw[aa,pa.1,aA];omega
    ·have xp:x≠p:=λ q=>(by rw[q,J7]at hx;cases hx)
     refine⟨t.length-nW t i,by omega,nW t i,_,as++[x],ps++[(pieceAt t i t[i],i)],rfl,λ c o e=>?_,?_,?_,?_,rfl,eb.2,?_,?_⟩
     ·rw[mY (nE e hp)];exact wc _ _ (sm _ _ e)
     ·rw[mX,aF];rfl
     ·intro y hy
      rcases List.mem_append.mp hy with hy|hy
      ·exact fr y hy
      ·rw[List.mem_singleton.mp hy];exact⟨sm.free hx,xp⟩
     ·refine qA.snoc (pa.same λ c o hc e=>?_) ?_
      ·rw[mY (fr c hc).2];exact wc _ _ e
      ·obtain⟨dx,e⟩:=px
       exact⟨dx,by rw[mY xp];exact e⟩
     ·rw[aw];simp;omega
     ·rw[bA,<-st];exact heq
   ·have yb:t[i]=32\/t[i]=10:=by
     refine Decidable.byContradiction λ q=>hb ?_
     have q1:¬ t[i]=32:=λ z=>q (.inl z)
     have q2:¬ t[i]=10:=λ z=>q (.inr z)
     show(!(((32:Int) == ((t[i]:Nat):Int)) || (((10:Int) == ((t[i]:Nat):Int)) || false)))=true
     rw[show((32:Int) == ((t[i]:Nat):Int))=false from beq_eq_false_iff_ne.mpr (by omega),show((10:Int) == ((t[i]:Nat):Int))=false from beq_eq_false_iff_ne.mpr (by omega)]
     rfl
    rw[if_pos yb,gQ]at st
    refine⟨_,rfl,t.length-nW t i,by omega,nW t i,_,as,ps,rfl,sm,J7,fr,pa,rfl,eb.2,by omega,?_⟩
    rw[<-st];exact heq
  ·have hge:t.length<=i:=by
    have z:¬ (i:Int)<((nV t).length:Int):=λ q=>hc (decide_eq_true q)
    rw[aa]at z
    omega
   rw[qh hge,bC]at heq
   refine⟨_,rfl,.inl ⟨rfl,_,nA.of J7⟩,_,rfl,a,_,rfl,.inl (sm.seq hs),rfl,λ x dx H2 hx Dz wc=>?_⟩
   have Zx:H2 p=some (.lst (as.map V.ref)):=wc _ _ J7
   have xp:x≠p:=λ q=>(by rw[q,J7]at hx;cases hx)
   refine⟨p,_,_,rfl,rfl,Zx,?_,_,rfl,?_⟩
   ·rw[aa,pa.1,aA];omega
   ·refine k _ p (as++[x]) (λ c o e=>?_) hp ?_ ?_ ?_
    ·rw[mY (nE e hp)];exact wc _ _ (sm _ _ e)
    ·intro y hy
     rcases List.mem_append.mp hy with hy|hy
     ·exact(fr y hy).1
     ·rw[List.mem_singleton.mp hy];exact sm.free hx
    ·rw[mX,aF];rfl
    ·unfold CD
     rw[<-heq]
     refine qA.snoc (pa.same λ c o hc e=>?_) ⟨dx,?_⟩
     ·rw[mY (fr c hc).2];exact wc _ _ e
     ·rw[mY xp,Dz,aa];rfl
end n_
namespace L2
def upA(t:TA):TA:=λ σ H Q=>∃Q1,t σ H Q1/\∀vs H1,Q1 vs H1->Q vs H1
theorem PA.up{X:Cx}{es:List bJ}{t:TA}(h:PA X es t):PA X es (upA t):=by
 intro pos pins s σ H Q I hw
 obtain⟨Q1,h1,h2⟩:=hw
 exact pK (h pos pins s σ H Q1 I h1) λ us s1 ⟨vs,H1,I1,r,q⟩=>⟨vs,H1,I1,r,h2 _ _ q⟩
end L2
namespace n_
structure tZ(P:aK)(w:bj)(K:ah)(mg:Str->Option ao)(base:bF)(C:ag):Prop where
 nm:mg "Wrong"=some (.ref C)
 ec:tG K C
 ty:fK K (.ref C)=some (.type "type")
 ng:oA K C "__getattr__"
 n1:oA K C "kind"
 n2:oA K C "place"
 mkx:∃f fd,ZL K C f/\nO P w K mg base oE 1 f fd ["self","kind","place"] (z_ C)/\Binds K fd ["self","kind","place"] []
def ab4(C:ag)(E:XK)(t:TA):TS:=λ D σ H=>t σ H λ vs H1=>∃k p,vs=[k,p]/\∀H2 dx,H2 dx=some (wd k p)->NE H1 H2->E (.ref C) (some dx) H2
theorem vz{X:Cx}{C:ag}{E:XK}{t:TA}{ek ep:bJ}{p xF pos:Pos}{j:Nat}(W:tZ X.prog X.w X.K X.mg X.base C)(hc:X.calm=true)(hx:X.xe=XW X C E)(hr:rb j X.A)(hj:2<=j)(ha:PA X [ek,ep] t)(hg:Gl X "Wrong":=by rfl)
  (he:aN [ek,ep] X.env=(false,cw ek X.env)::aN [ep] X.env:=by rfl)(vo:(c8 xF (aN [ep] X.env)).any (·.1)=false:=by rfl):
  PS X (.Raise (some (.Call (.Name "Wrong" p) [ek,ep] [] xF)) none pos) (ab4 C E t):=by
 obtain⟨f,fd,M,F,b⟩:=W.mkx
 have z:=WK (pos:=pos) (E:=E) hc hx W.ec W.ty (WJ (pos:=xF) (p:=p) M F (hr.mono hj) hg W.nm b (nj (X:=X)) ha.up (by decide) he vo)
 intro pins s σ H D I h
 refine z pins s σ H D I ?_
 refine⟨_,h,λ vs H1 ⟨k,q,ev,kk⟩=>?_⟩
 subst ev
 refine⟨by show 2<=1000;decide,λ e he=>⟨e,.none,k,q,rfl,mX,λ H2 dx h1 h2 ne=>⟨rfl,e,dx,rfl,h1,?_⟩⟩⟩
 exact kk H2 dx h2 ((NE.upd (.inl he)).trans ne)
end n_
namespace L2
def um(P:aK)(w:bj)(K:ah)(mg:Str->Option ao)(base:bF)(CX:ED)(k:Nat)(C:ag)(m:Str)(ps:List Str)(sp:Sp):Prop:=
 ∃f fd,Meth K C m f/\nO P w K mg base CX k f fd ps sp/\Binds K fd ps []
def tHm(C:ag)(m:Str)(sp:Sp)(E:XK)(ta:TE)(t:TA):TE:=λ σ H Q=>ta σ H λ x H1=>RHm C m x H1 (t σ H1 λ vs H2=>sp (x::vs) H2 Q E)
section
variable{X:Cx}{CX:ED}{E:XK}{k j:Nat}{C:ag}{m:Str}{ps:List Str}{sp:Sp}{o e:bJ}{es:List bJ}{ta:TE}{t:TA}{apos pos:Pos}
theorem pO{pl:Sem Bool}(h:um X.prog X.w X.K X.mg X.base CX k C m ps sp)(c:G4 X.K C)(hr:rb j X.A)(hj:k<=j)(hx:Passes CX X E)(ho:PE X o ta)(ha:PA X (e::es) t)
  (LG:aN (e::es) X.env=(false,cw e X.env)::aN es X.env:=by rfl)(vo:(c8 pos (aN es X.env)).any (·.1)=false:=by rfl)
  (ht:cw (.Call (.Attribute o m apos) (e::es) [] pos) X.env=(do
   let ov <-cw o X.env
   ik apos.atName
   let(f,first) <-gk [ov] (g9 ov m pl)
   jm pos f first (c8 pos (aN (e::es) X.env)) (g_ pos (fb [] X.env))):=by rfl):
  PE X (.Call (.Attribute o m apos) (e::es) [] pos) (tHm C m sp E ta t):=by
 obtain⟨f,fd,M,F,b⟩:=h
 intro pins s σ H Q I hw
 have z:=Zq (pos:=pos) (apos:=apos) ho c M F (hr.mono hj) b .nil hx ha LG vo ht
 refine z pins s σ H Q I ?_
 have e2:(λ(x:V) (H1:Hp)=>RHm C m x H1 (t σ H1 λ vs H2=>sp (x::(vs++[])) H2 Q E))=(λ(x:V) (H1:Hp)=>RHm C m x H1 (t σ H1 λ vs H2=>sp (x::vs) H2 Q E)):=by
  simp only[bC]
 show ta σ H _
 rw[e2];exact hw
theorem oS{pl:Sem Bool}(h:um X.prog X.w X.K X.mg X.base CX k C m ps sp)(c:G4 X.K C)(hr:rb j X.A)(hj:k<=j)(hx:Passes CX X E)(ho:PE X o ta)
  (ht:cw (.Call (.Attribute o m apos) [] [] pos) X.env=(do
   let ov <-cw o X.env
   ik apos.atName
   let(f,first) <-gk [ov] (g9 ov m pl)
   jm pos f first (c8 pos (aN [] X.env)) (g_ pos (fb [] X.env))):=by rfl):
  PE X (.Call (.Attribute o m apos) [] [] pos) (tHm C m sp E ta Wi):=by
 obtain⟨f,fd,M,F,b⟩:=h
 exact Wj (pos:=pos) (apos:=apos) ho c M F (hr.mono hj) b .nil hx ht
end
end L2
namespace n_
abbrev N2(l:ag)(i:Nat):List (Str×V):=[(Str.ofString "pieces",V.ref l),(Str.ofString "at",V.int (i:Nat))]
inductive N6 (CR CP:ag) (H:Hp) (r:ag) (tk:List (Pc×Nat)):Prop
 |mk (dx l:ag) (i:Nat) (as:List ag) (ps:List (Pc×Nat)):H r=some (.ins CR dx (N2 l i))->H l=some (.lst (as.map V.ref))->qA CP H as ps->ps.drop i=tk->i<=ps.length->N6 CR CP H r tk
def sD(r:ag)(H H':Hp):Prop:=∀b o,H b=some o->b≠r->(∀φ,o≠ .ext φ)->H' b=some o
theorem sD.refl(r:ag)(H:Hp):sD r H H:=λ _ _ e _ _=>e
theorem sD.trans{r:ag}{H H1 H2:Hp}(a:sD r H H1)(b:sD r H1 H2):sD r H H2:=λ c o e n x=>b c o (a c o e n x) n x
theorem sD.of_same{r:ag}{H H1:Hp}(a:m5 H H1):sD r H H1:=λ c o e _ _=>a c o e
theorem sD.ne{r:ag}{H H1:Hp}(a:NE H H1):sD r H H1:=λ c o e _ x=>a c o e x
def Raise(C r:ag)(H:Hp)(E:XK)(k p:Nat):Prop:=∀H' dx,H' dx=some (wd (.int k) (.int p))->sD r H H'->E (.ref C) (some dx) H'
theorem Raise.mono{C r:ag}{H H1:Hp}{E:XK}{k p:Nat}(h:Raise C r H E k p)(b:sD r H H1):Raise C r H1 E k p:=λ H' dx h1 h2=>h H' dx h1 (b.trans h2)
inductive L_ (CR CP:ag) (vs:List V) (H:Hp) (Q:VK) (E:XK):Prop
 |mk (r) (p) (tk):vs=[.ref r]->N6 CR CP H r (p::tk)->(∀a,rD CP H a p->Q (.ref a) H)->L_ CR CP vs H Q E
theorem ZQ:m7 ["self"] ["self"] (mZ ya):=qf
theorem ZR(F:pG K "ahead" "Reader.ahead" ya f fd)(cl:G4 K CR)(n1:oA K CR "pieces")(n2:oA K CR "at"):nO P w K mg base oE 1 f fd ["self"] (L_ CR CP):=by
 refine F.ok ZQ (λ vs H Q E h=>?_) (λ oU A outer s H vs Q E hr h=>?_)
 ·obtain⟨r,p,tk,rfl,_⟩:=h
  rfl
 ·obtain⟨r,p,tk,rfl,⟨dx,l,i,as,ps,h1,h2,h3,h4,h5⟩,k⟩:=h
  refine⟨_,m4 (m9 (oZ n9 (m_ (pv 0) rfl) (m_ (pv 0) rfl) (λ _ _=>rfl))),?_⟩
  have hp:ps[i]? =some p:=by
   have z:=kD (xs:=ps) (i:=i) (j:=0)
   rw[h4]at z
   simpa using z.symm
  obtain⟨a,ha⟩:∃a,as[i]? =some a:=⟨_,af (by rw[h3.1];exact(List.getElem?_eq_some_iff.mp hp).1)⟩
  refine⟨_,rfl,r,CR,dx,_,_,rfl,h1,cl,n1,rfl,_,rfl,r,CR,dx,_,_,rfl,h1,cl,n2,rfl,l,_,_,_,rfl,rfl,nA.of h2,oo (by rw[ak,ha];rfl),k a (h3.2 i a p ha hp)⟩
def isW(p:Pc)(z:Str):Bool:=match p with
 | .word w=>decide (strOf w=z)
 |_=>false
structure vA(P:aK)(w:bj)(K:ah)(mg:Str->Option ao)(base:bF)(CR CP:ag):Prop where
 cl:G4 K CR
 n1:oA K CR "pieces"
 n2:oA K CR "at"
 pc:Rec P w K mg base "Piece" CP J5
inductive DH (CR CP:ag) (vs:List V) (H:Hp) (Q:VK) (Ex:XK):Prop
 |mk (r) (z) (p) (tk):vs=[.ref r,.str z]->N6 CR CP H r (p::tk)->Q (.bl (isW p.1 z)) H->DH CR CP vs H Q Ex
theorem N7:m7 ["self","word","piece"] ["self","word"] (mZ wV):=qf
theorem Te(p:Pc):decide (p.kd=V.str (Str.ofString "word"))=(match p with | .word _=>true|_=>false):=by
 cases p <;> simp[Pc.kd] <;> decide
abbrev Hz1(P:aK)(w:bj)(K:ah)(mg:Str->Option ao)(base:bF)(CR:ag)(CP:ag):Prop:=um P w K mg base oE 1 CR "ahead" ["self"] (L_ CR CP)
theorem WZ(F:pG K "is_word" "Reader.is_word" wV f fd)(T:vA P w K mg base CR CP)(A1:Hz1 P w K mg base CR CP)(g:BE mg "WORD" "word"):
  nO P w K mg base oE 2 f fd ["self","word"] (DH CR CP):=by
 refine F.ok N7 (λ vs H Q E h=>?_) (λ oU A outer s H vs Q E hr h=>?_)
 ·obtain⟨r,z,p,tk,rfl,_⟩:=h
  rfl
 ·obtain⟨r,z,p,tk,rfl,hR,k⟩:=h
  have nd:=N7.nd
  have EG:=T.pc.cl
  have m1:=T.pc.na "kind" (by simp)
  have m2:=T.pc.na "value" (by simp)
  refine⟨_,mV (m6 (i:=2) nd rfl (Or.inl rfl) (oS (E:=E0) A1 T.cl hr (by decide) nj (pv 0))) (m4 (m9 (LF (rP ub (m_ (pv 2) rfl) (wu g) (oH _)) (LD (rP ub (m_ (pv 2) rfl) (pv 1) (oH _)))))),?_⟩
  obtain⟨dx,l,i,as,ps,h1,h2⟩:=id hR
  refine⟨_,rfl,r,dx,_,rfl,h1,rfl,r,p,tk,rfl,hR,λ a ⟨dp,ha⟩=>?_⟩
  refine⟨_,rfl,a,CP,dp,_,_,rfl,ha,EG,m1,rfl,(by cases p.1 <;> rfl),_,rfl,?_⟩
  rw[Te]
  cases hp:p.1 with
  |word w=>
   refine s_ ⟨_,rfl,a,CP,dp,_,_,rfl,ha,EG,m2,rfl,_,rfl,(by rw[hp];rfl),?_⟩
   rw[hp]at k ⊢
   have e:decide (Pc.vl (.word w)=V.str z)=decide (strOf w=z):=by
    show decide (V.str (strOf w)=V.str z)=_
    by_cases q:strOf w=z
    ·rw[decide_eq_true q,q];simp
    ·rw[decide_eq_false q,decide_eq_false (λ y=>q (V.str.inj y))]
   rw[e];exact k
  |num n=>rw[hp]at k;exact rG k
  |stop=>rw[hp]at k;exact rG k
  |bad=>rw[hp]at k;exact rG k
  |fin=>rw[hp]at k;exact rG k
inductive H_ (CR CP C:ag) (vs:List V) (H:Hp) (Q:VK) (E:XK):Prop
 |mk (_:Calm E) (r) (b) (p) (tk):vs=[.ref r,.bl b]->N6 CR CP H r (p::tk)->(b=true->∀H' a,N6 CR CP H' r tk->sD r H H'->rD CP H' a p->Q (.ref a) H')->(b=false->Raise C r H E 1 p.2)->H_ CR CP C vs H Q E
theorem W9:m7 ["self","fits","piece"] ["self","fits"] (mZ zY):=qf
theorem ab5(F:pG K "take" "Reader.take" zY f fd)(T:vA P w K mg base CR CP)(W:tZ P w K mg base C)(A1:Hz1 P w K mg base CR CP)(g:oC mg "MISPLACED" 1):
  nO P w K mg base (Cc P w C) 3 f fd ["self","fits"] (H_ CR CP C):=by
 refine F.VW W9 (λ vs H Q E h=>?_) (λ vs H Q E h=>h.1) (λ oU A outer s H vs Q E hr h=>?_)
 ·obtain⟨_,r,b,p,tk,rfl,_⟩:=h
  rfl
 ·obtain⟨hE,r,b,p,tk,rfl,hR,kt,kf⟩:=h
  have nd:=W9.nd
  have EG:=T.pc.cl
  have m3:=T.pc.na "place" (by simp)
  refine⟨_,mV (m6 (i:=2) nd rfl (Or.inl rfl) (oS (E:=E0) A1 T.cl hr (by decide) nj (pv 0)))
   (mV (pf (vi (tF (pv 1))) (m4 (vz W rfl (Cx.oB _ _ _) hr (by decide) (mU (nP g) (mU (m_ (pv 2) rfl) mW)))) nX)
   (mV (Uh (pv 0) nM aby) (m4 (m9 (pv 2))))),?_⟩
  obtain⟨dx,l,i,as,ps,h1,h2,h3,h4,h5⟩:=id hR
  refine⟨_,rfl,r,dx,_,rfl,h1,rfl,r,p,tk,rfl,hR,λ a pa=>?_⟩
  obtain⟨dp,ha⟩:=id pa
  refine⟨_,rfl,b,rfl,?_⟩
  cases b with
  |false=>
   refine s_ ⟨_,rfl,a,CP,dp,_,_,rfl,ha,EG,m3,rfl,_,_,rfl,λ H2 W_ hd ne=>?_⟩
   exact kf rfl H2 W_ hd (sD.ne ne)
  |true=>
   have rL:i<ps.length:=by
    refine Nat.lt_of_le_of_ne h5 λ q=>?_
    rw[q,fq]at h4;cases h4
   refine rG ⟨_,rfl,r,CR,dx,_,_,rfl,h1,T.cl,T.n2,rfl,_,_,rfl,rfl,dx,_,h1,(by show 2<1000;decide),_,rfl,?_⟩
   have ra:∀b o,H b=some o->o≠ .ins CR dx (N2 l i)->b≠r:=λ b o e n q=>n (by rw[q,h1]at e;exact(Option.some.inj e).symm)
   refine kt rfl _ a ⟨dx,l,i+1,as,ps,?_,?_,⟨h3.1,λ j y q e1 e2=>?_⟩,?_,rL⟩ (λ b o e n _=>by rw[mY n];exact e) ⟨dp,?_⟩
   ·rw[mX];rfl
   ·rw[mY (ra l _ h2 (by intro z;cases z))];exact h2
   ·obtain⟨dy,ey⟩:=h3.2 j y q e1 e2
    exact⟨dy,by rw[mY (ra y _ ey (by intro z;cases z))];exact ey⟩
   ·rw[<-eW,h4];rfl
   ·rw[mY (ra a _ ha (by intro z;cases z))];exact ha
inductive tI (en:Nat):List (Pc×Nat)->cB->Prop
 |fin:tI en [(.fin,en)] []
 |word {w:List Nat} {i:Nat} {tk:List (Pc×Nat)} {l:cB}:tI en tk l->tI en ((.word w,i)::tk) ((i,.word w)::l)
 |num {n i:Nat} {tk:List (Pc×Nat)} {l:cB}:tI en tk l->tI en ((.num n,i)::tk) ((i,.num n)::l)
 |semi {i:Nat} {tk:List (Pc×Nat)} {l:cB}:tI en tk l->tI en ((.stop,i)::tk) ((i,.semi)::l)
 |bad {i:Nat} {tk:List (Pc×Nat)}:tI en ((.bad,i)::tk) [(i,.wrong)]
def JU(CR CP:ag)(en:Nat)(H:Hp)(r:ag)(l:cB):Prop:=∃tk,N6 CR CP H r tk/\tI en tk l
def rf(CR CP C:ag)(en:Nat)(r:ag)(H:Hp)(Q:VK)(E:XK){α:Type}(val:α->Hp->V->Prop):Except Bad (α×cB)->Prop
 | .ok (x,l)=>∀H' v,JU CR CP en H' r l->sD r H H'->val x H' v->Q v H'
 | .error b=>Raise C r H E b.kind b.place
def Ma(CR CP C:ag){α β:Type}(args:β->List V)(f:Nat->β->cB->Except Bad (α×cB))(val:ag->α->Hp->V->Prop):Sp:=λ vs H Q E=>Calm E/\∃r en b l,vs= .ref r::args b/\JU CR CP en H r l/\rf CR CP C en r H Q E (val CP) (f en b l)
abbrev ZS:ag->Unit->Hp->V->Prop:=λ _ _ _ v=>v= .qt
abbrev vInt:ag->Nat->Hp->V->Prop:=λ _ n _ v=>v= .int n
abbrev aa5:ag->Nat×List Nat->Hp->V->Prop:=λ CP p H v=>∃a,v= .ref a/\rD CP H a (.word p.2,p.1)
def un(x:Except Bad cB):Except Bad (Unit×cB):=x.map λ l=>((),l)
theorem oK(s:String):Str.ofString s=strOf (bY s):=by rw[Str.ofString_eq_toList];rfl
theorem Bj{a b:List Nat}(h:strOf a=strOf b):a=b:=by
 have:=congrArg (λ z:Str=>z.cps.toList) h
 simpa using this
theorem Xa(w:List Nat)(s:String):isW (.word w) (Str.ofString s)=decide (w=bY s):=by
 show decide (strOf w=Str.ofString s)=_
 rw[oK]
 by_cases q:w=bY s
 ·rw[q];simp
 ·rw[decide_eq_false q,decide_eq_false λ z=>q (Bj z)]
theorem tI.ahead{en:Nat}{tk:List (Pc×Nat)}{l:cB}(h:tI en tk l):∃p t,tk=p::t/\p.2=placeOf en l:=by
 cases h <;> exact⟨_,_,rfl,rfl⟩
theorem tI.isW{en:Nat}{p:Pc×Nat}{t:List (Pc×Nat)}{l:cB}(h:tI en (p::t) l)(s:String):isW p.1 (Str.ofString s)=dC s l:=by
 cases h with
 |fin=>rfl
 |word h=>
  rw[Xa]
  unfold dC
  rename_i w i l
  show decide (w=bY s)=(some (Tok.word w) == some (Tok.word (bY s)))
  by_cases q:w=bY s
  ·rw[q];simp
  ·rw[decide_eq_false q]
   exact(beq_eq_false_iff_ne.mpr λ z=>q (Tok.word.inj (Option.some.inj z))).symm
 |num h=>rfl
 |semi h=>rfl
 |bad=>rfl
theorem tI.UE{en:Nat}{p:Pc×Nat}{t:List (Pc×Nat)}{l:cB}(h:tI en (p::t) l){s:String}(hw:dC s l=true):tI en t (l.drop 1):=by
 cases h with
 |fin=>exact absurd hw (by simp[dC])
 |word h=>exact h
 |num h=>exact h
 |semi h=>exact h
 |bad=>exact absurd hw (by simp[dC])
abbrev Ia(CR CP C:ag):Sp:=Ma CR CP C (λ s:String=>[.str (Str.ofString s)]) (λ en s l=>un (bM en s l)) ZS
theorem Qx:m7 ["self","word"] ["self","word"] (mZ ui):=qf
abbrev Hz2(P:aK)(w:bj)(K:ah)(mg:Str->Option ao)(base:bF)(C:ag)(CR:ag)(CP:ag):Prop:=um P w K mg base (Cc P w C) 3 CR "take" ["self","fits"] (H_ CR CP C)
theorem Qy(F:pG K "take_word" "Reader.take_word" ui f fd)(T:vA P w K mg base CR CP)(TK:Hz2 P w K mg base C CR CP)(IW:um P w K mg base oE 2 CR "is_word" ["self","word"] (DH CR CP)):
  nO P w K mg base (Cc P w C) 4 f fd ["self","word"] (Ia CR CP C):=by
 refine F.VW Qx (λ vs H Q E h=>?_) (λ vs H Q E h=>h.1) (λ oU A outer s H vs Q E hr h=>?_)
 ·obtain⟨_,r,en,b,l,rfl,_⟩:=h
  rfl
 ·obtain⟨hE,r,en,s,l,rfl,⟨tk,hR,hT⟩,k⟩:=h
  have k:rf CR CP C en r H Q E (ZS CP) (un (bM en s l)):=k
  obtain⟨p,t,rfl,vo⟩:=hT.ahead
  refine⟨_,m4 (nZ (pO TK T.cl hr (by decide) (ph (Cx.oB _ _ _)) (pv 0) (mU (pO (E:=E0) IW T.cl hr (by decide) nj (pv 0) (mU (pv 1) mW)) mW))),?_⟩
  obtain⟨dx,lp,i,as,ps,h1,h2⟩:=id hR
  refine⟨_,rfl,r,dx,_,rfl,h1,rfl,_,rfl,r,dx,_,rfl,h1,rfl,_,rfl,r,_,p,t,rfl,hR,hE,r,_,p,t,rfl,hR,λ hb H' a Np hB pa=>?_,λ hb=>?_⟩
  ·rw[hT.isW]at hb
   have e:bM en s l= .ok (l.drop 1):=if_pos hb
   rw[e]at k
   exact k H' .qt ⟨t,Np,hT.UE hb⟩ hB rfl
  ·rw[hT.isW]at hb
   have e:bM en s l= .error ⟨1,placeOf en l⟩:=if_neg (by rw[hb];decide)
   rw[e]at k
   rw[vo];exact k
abbrev Ib(CR CP C:ag):Sp:=Ma CR CP C (λ _:Unit=>[]) (λ en _ l=>un (semi en l)) ZS
theorem Qz:m7 ["self"] ["self"] (mZ uj):=qf
theorem Xb(p:Pc):decide (p.kd=V.str (Str.ofString "stop"))=(match p with | .stop=>true|_=>false)/\decide (p.kd=V.str (Str.ofString "end"))=(match p with | .fin=>true|_=>false)/\decide (p.kd=V.str (Str.ofString "number"))=(match p with | .num _=>true|_=>false):=by
 cases p <;> refine⟨?_,?_,?_⟩ <;> simp[Pc.kd] <;> decide
theorem DI(p:Pc)(z:Str):abv p.kd (.str z)=true:=by cases p <;> rfl
theorem E_{en:Nat}{p:Pc×Nat}{t:List (Pc×Nat)}{l:cB}(h:tI en (p::t) l):(decide (p.1.kd=V.str (Str.ofString "stop"))=true/\semi en l= .ok (l.drop 1)/\tI en t (l.drop 1))\/(decide (p.1.kd=V.str (Str.ofString "stop"))=false/\semi en l= .error ⟨1,p.2⟩):=by
 rw[(Xb p.1).1]
 cases h with
 |fin=>exact .inr ⟨rfl,rfl⟩
 |word h=>exact .inr ⟨rfl,rfl⟩
 |num h=>exact .inr ⟨rfl,rfl⟩
 |semi h=>exact .inl ⟨rfl,rfl,h⟩
 |bad=>exact .inr ⟨rfl,rfl⟩
theorem QA(F:pG K "take_stop" "Reader.take_stop" uj f fd)(T:vA P w K mg base CR CP)(TK:Hz2 P w K mg base C CR CP)(A1:Hz1 P w K mg base CR CP)(g:BE mg "STOP" "stop"):
  nO P w K mg base (Cc P w C) 4 f fd ["self"] (Ib CR CP C):=by
 refine F.VW Qz (λ vs H Q E h=>?_) (λ vs H Q E h=>h.1) (λ oU A outer s H vs Q E hr h=>?_)
 ·obtain⟨_,r,en,b,l,rfl,_⟩:=h
  rfl
 ·obtain⟨hE,r,en,s,l,rfl,⟨tk,hR,hT⟩,k⟩:=h
  have k:rf CR CP C en r H Q E (ZS CP) (un (semi en l)):=k
  obtain⟨p,t,rfl,vo⟩:=hT.ahead
  refine⟨_,m4 (nZ (pO TK T.cl hr (by decide) (ph (Cx.oB _ _ _)) (pv 0) (mU (rP ub (m_ (oS (E:=E0) A1 T.cl hr (by decide) nj (pv 0)) rfl) (wu g) (oH _)) mW))),?_⟩
  obtain⟨dx,lp,i,as,ps,h1,h2⟩:=id hR
  refine⟨_,rfl,r,dx,_,rfl,h1,rfl,_,rfl,r,dx,_,rfl,h1,rfl,r,p,t,rfl,hR,λ a ⟨dp,ha⟩=>⟨a,CP,dp,_,_,rfl,ha,T.pc.cl,T.pc.na "kind" (by simp),rfl,DI _ _,hE,r,_,p,t,rfl,hR,λ hb H' a Np hB pa=>?_,λ hb=>?_⟩⟩
  ·rcases E_ hT with⟨z1,z2,z3⟩|⟨z1,z2⟩
   ·rw[z2]at k
    exact k H' .qt ⟨t,Np,z3⟩ hB rfl
   ·exact absurd (hb.symm.trans z1) (by decide)
  ·rcases E_ hT with⟨z1,z2,z3⟩|⟨z1,z2⟩
   ·exact absurd (z1.symm.trans hb) (by decide)
   ·rw[z2]at k;exact k
abbrev KL(CR CP C:ag):Sp:=λ vs H Q E=>Calm E/\∃r en l,vs=[.ref r]/\JU CR CP en H r l/\(l=[]->∀H',sD r H H'->Q .qt H')/\(l≠[]->Raise C r H E 1 (placeOf en l))
theorem UG:m7 ["self"] ["self"] (mZ vq):=qf
theorem N8{en:Nat}{p:Pc×Nat}{t:List (Pc×Nat)}{l:cB}(h:tI en (p::t) l):(decide (p.1.kd=V.str (Str.ofString "end"))=true/\l=[])\/(decide (p.1.kd=V.str (Str.ofString "end"))=false/\l≠[]):=by
 rw[(Xb p.1).2.1]
 cases h with
 |fin=>exact .inl ⟨rfl,rfl⟩
 |word h=>exact .inr ⟨rfl,by simp⟩
 |num h=>exact .inr ⟨rfl,by simp⟩
 |semi h=>exact .inr ⟨rfl,by simp⟩
 |bad=>exact .inr ⟨rfl,by simp⟩
theorem UH(F:pG K "take_end" "Reader.take_end" vq f fd)(T:vA P w K mg base CR CP)(TK:Hz2 P w K mg base C CR CP)(A1:Hz1 P w K mg base CR CP)(g:BE mg "END" "end"):
  nO P w K mg base (Cc P w C) 4 f fd ["self"] (KL CR CP C):=by
 refine F.VW UG (λ vs H Q E h=>?_) (λ vs H Q E h=>h.1) (λ oU A outer s H vs Q E hr h=>?_)
 ·obtain⟨_,r,en,l,rfl,_⟩:=h
  rfl
 ·obtain⟨hE,r,en,l,rfl,⟨tk,hR,hT⟩,k1,k2⟩:=h
  obtain⟨p,t,rfl,vo⟩:=hT.ahead
  refine⟨_,m4 (nZ (pO TK T.cl hr (by decide) (ph (Cx.oB _ _ _)) (pv 0) (mU (rP ub (m_ (oS (E:=E0) A1 T.cl hr (by decide) nj (pv 0)) rfl) (wu g) (oH _)) mW))),?_⟩
  obtain⟨dx,lp,i,as,ps,h1,h2⟩:=id hR
  refine⟨_,rfl,r,dx,_,rfl,h1,rfl,_,rfl,r,dx,_,rfl,h1,rfl,r,p,t,rfl,hR,λ a ⟨dp,ha⟩=>⟨a,CP,dp,_,_,rfl,ha,T.pc.cl,T.pc.na "kind" (by simp),rfl,DI _ _,hE,r,_,p,t,rfl,hR,λ hb H' a Np hB pa=>?_,λ hb=>?_⟩⟩
  ·rcases N8 hT with⟨z1,z2⟩|⟨z1,z2⟩
   ·exact k1 z2 H' hB
   ·exact absurd (hb.symm.trans z1) (by decide)
  ·rcases N8 hT with⟨z1,z2⟩|⟨z1,z2⟩
   ·exact absurd (z1.symm.trans hb) (by decide)
   ·rw[vo];exact k2 z2
end n_
namespace L2
theorem gf{K:ah}{ta:TE}{σ:L2.St}{H:Hp}{a C dx:ag}{fs:List (Str×V)}{f:Str}{v:V}(h:Gives ta σ H (.ref a))(ha:H a=some (.ins C dx fs))(c:G4 K C)(n:oA K C f)(l:fs.lookup f=some v):Gives (abx K ta f) σ H v:=λ Q q=>h _ ⟨a,C,dx,fs,v,rfl,ha,c,n,l,q⟩
theorem KO{σ:L2.St}{H:Hp}{ta tb tc:TE}{lo x hi:Int}{t u:TS}{D:Ends}(ha:Gives ta σ H (.int lo))(hb:Gives tb σ H (.int x))(hc:Gives tc σ H (.int hi))(h1:¬ (lo<=x/\x<=hi)->t D σ H)(h2:lo<=x/\x<=hi->u D σ H):
  abl (acQ (Sw (Hw (Sr λ i j=>.bl (decide (i<=j))) (Sr λ i j=>.bl (decide (i<=j))) ta tb tc))) t u D σ H:=by
 refine ha _ (hb _ ⟨_,_,rfl,rfl,_,rfl,p8 (λ a=>hc _ ⟨_,_,rfl,rfl,_,rfl,?_⟩) λ a=>⟨_,rfl,s_ (h1 λ z=>a (decide_eq_true z.1))⟩⟩)
 by_cases z:x<=hi
 ·rw[decide_eq_true z];exact rG (h2 ⟨of_decide_eq_true a,z⟩)
 ·rw[decide_eq_false z];exact s_ (h1 λ y=>z y.2)
end L2
namespace n_
abbrev Xc:List V:=[.str "parts",.str "cell",.str "weight",.str "finds",.str "time",.str "team",.str "in"]
theorem Xd(w:List Nat):G7 (.str (strOf w)) Xc=KEYS.contains w:=by
 have e:Xc=KEYS.map λ k=>V.str (strOf k):=by
  unfold KEYS
  simp only[aW,aH,fQ,Function.comp]
  rw[<-oK,<-oK,<-oK,<-oK,<-oK,<-oK,<-oK]
 rw[e]
 generalize KEYS=ks
 unfold G7
 rw[jO]
 induction ks with
 |nil=>rfl
 |cons k r ih=>
  rw[eu,kF,ih]
  congr 1
  show(strOf k == strOf w)=(w == k)
  by_cases q:w=k
  ·rw[q];simp
  ·rw[beq_eq_false_iff_ne.mpr q]
   exact beq_eq_false_iff_ne.mpr λ z=>q (Bj z).symm
def isN(p:Pc):Bool:=match p with
 | .word w=> !KEYS.contains w
 |_=>false
theorem KP{en:Nat}{p:Pc×Nat}{t:List (Pc×Nat)}{l:cB}(h:tI en (p::t) l):(∃w,p.1= .word w/\isN p.1=true/\nameAt en l= .ok ((p.2,w),l.drop 1)/\tI en t (l.drop 1))\/(isN p.1=false/\nameAt en l= .error ⟨1,p.2⟩):=by
 cases h with
 |fin=>exact .inr ⟨rfl,rfl⟩
 |word h=>
  rename_i w i l
  by_cases q:KEYS.contains w=true
  ·refine .inr ⟨?_,?_⟩
   ·show(!KEYS.contains w)=false
    rw[q];rfl
   ·show(if KEYS.contains w=true then _ else _)=_
    rw[if_pos q]
  ·refine .inl ⟨w,rfl,?_,?_,h⟩
   ·show(!KEYS.contains w)=true
    rw[gF]at q
    rw[q];rfl
   ·show(if KEYS.contains w=true then _ else _)=_
    rw[if_neg q];rfl
 |num h=>exact .inr ⟨rfl,rfl⟩
 |semi h=>exact .inr ⟨rfl,rfl⟩
 |bad=>exact .inr ⟨rfl,rfl⟩
theorem N9{en:Nat}{p:Pc×Nat}{t:List (Pc×Nat)}{l:cB}(h:tI en (p::t) l)(lo hi:Nat):(∃n,p.1= .num n/\decide (p.1.kd=V.str (Str.ofString "number"))=true/\numAt en lo hi l=(if lo<=n/\n<=hi then .ok (n,l.drop 1)else .error ⟨4,p.2⟩)/\tI en t (l.drop 1))\/(decide (p.1.kd=V.str (Str.ofString "number"))=false/\numAt en lo hi l= .error ⟨1,p.2⟩):=by
 rw[(Xb p.1).2.2]
 cases h with
 |fin=>exact .inr ⟨rfl,rfl⟩
 |word h=>exact .inr ⟨rfl,rfl⟩
 |num h=>exact .inl ⟨_,rfl,rfl,rfl,h⟩
 |semi h=>exact .inr ⟨rfl,rfl⟩
 |bad=>exact .inr ⟨rfl,rfl⟩
abbrev Ic(CR CP C:ag):Sp:=Ma CR CP C (λ _:Unit=>[]) (λ en _ l=>nameAt en l) aa5
theorem Ie:m7 ["self","piece"] ["self"] (mZ uk):=qf
theorem QB{f rs:ag}{fd:bP}(F:pG K "take_name" "Reader.take_name" uk f fd)(T:vA P w K mg base CR CP)(TK:Hz2 P w K mg base C CR CP)(A1:Hz1 P w K mg base CR CP)(g:BE mg "WORD" "word")(g2:N1 K mg "RESERVED" rs Xc):
  nO P w K mg base (Cc P w C) 4 f fd ["self"] (Ic CR CP C):=by
 refine F.VW Ie (λ vs H Q E h=>?_) (λ vs H Q E h=>h.1) (λ oU A outer s H vs Q E hr h=>?_)
 ·obtain⟨_,r,en,b,l,rfl,_⟩:=h
  rfl
 ·obtain⟨hE,r,en,s,l,rfl,⟨tk,hR,hT⟩,k⟩:=h
  have k:rf CR CP C en r H Q E (aa5 CP) (nameAt en l):=k
  obtain⟨p,t,rfl,vo⟩:=hT.ahead
  have nd:=Ie.nd
  have EG:=T.pc.cl
  have m1:=T.pc.na "kind" (by simp)
  have m2:=T.pc.na "value" (by simp)
  refine⟨_,mV (m6 (i:=1) nd rfl (Or.inl rfl) (oS (E:=E0) A1 T.cl hr (by decide) nj (pv 0)))
   (m4 (m9 (pO TK T.cl hr (by decide) (ph (Cx.oB _ _ _)) (pv 0) (mU (LF (rP ub (m_ (pv 1) rfl) (wu g) (oH _)) (LD (rP uG (m_ (pv 1) rfl) (KJ g2) (by with_unfolding_all rfl)))) mW)))),?_⟩
  obtain⟨dx,lp,i,as,ps,h1,h2⟩:=id hR
  refine⟨_,rfl,r,dx,_,rfl,h1,rfl,r,p,t,rfl,hR,λ a ⟨dp,ha⟩=>?_⟩
  refine⟨_,rfl,r,dx,_,rfl,h1,rfl,_,rfl,a,CP,dp,_,_,rfl,ha,EG,m1,rfl,DI _ _,_,rfl,?_⟩
  have fin:H_ CR CP C [V.ref r,V.bl (isN p.1)] H Q E:=by
   refine⟨hE,r,_,p,t,rfl,hR,λ hb H' a Np hB pa=>?_,λ hb=>?_⟩
   ·rcases KP hT with⟨w,z0,z1,z2,z3⟩|⟨z1,z2⟩
    ·rw[z2]at k
     refine k H' _ ⟨t,Np,z3⟩ hB ⟨a,rfl,?_⟩
     obtain⟨pp,pn⟩:=p
     have z0:pp= .word w:=z0
     subst z0
     exact pa
    ·exact absurd (hb.symm.trans z1) (by decide)
   ·rcases KP hT with⟨w,z0,z1,z2,z3⟩|⟨z1,z2⟩
    ·exact absurd (z1.symm.trans hb) (by decide)
    ·rw[z2]at k;exact k
  rw[Te]
  cases hp:p.1 with
  |word w=>
   refine s_ ⟨_,rfl,a,CP,dp,_,_,rfl,ha,EG,m2,rfl,rs,_,rfl,.inr (g2.2 _),(by rw[hp];rfl),rfl,?_⟩
   rw[hp]at fin ⊢
   show H_ CR CP C [V.ref r,V.bl (!G7 (.str (strOf w)) Xc)] H Q E
   rw[Xd];exact fin
  |num n=>rw[hp]at fin;exact rG fin
  |stop=>rw[hp]at fin;exact rG fin
  |bad=>rw[hp]at fin;exact rG fin
  |fin=>rw[hp]at fin;exact rG fin
abbrev DJ(CR CP C:ag):Sp:=Ma CR CP C (λ b:Nat×Nat=>[.int b.1,.int b.2]) (λ en b l=>numAt en b.1 b.2 l) vInt
theorem DK:m7 ["self","least","most","piece"] ["self","least","most"] (mZ sI):=qf
theorem Mb(F:pG K "take_number" "Reader.take_number" sI f fd)(T:vA P w K mg base CR CP)(W:tZ P w K mg base C)(TK:Hz2 P w K mg base C CR CP)(A1:Hz1 P w K mg base CR CP)(g:BE mg "NUMBER" "number")(g2:oC mg "OUT_OF_RANGE" 4):
  nO P w K mg base (Cc P w C) 4 f fd ["self","least","most"] (DJ CR CP C):=by
 refine F.VW DK (λ vs H Q E h=>?_) (λ vs H Q E h=>h.1) (λ oU A outer s H vs Q E hr h=>?_)
 ·obtain⟨_,r,en,b,l,rfl,_⟩:=h
  rfl
 ·obtain⟨hE,r,en,⟨lo,hi⟩,l,rfl,⟨tk,hR,hT⟩,k⟩:=h
  have k:rf CR CP C en r H Q E (vInt CP) (numAt en lo hi l):=k
  obtain⟨p,t,rfl,vo⟩:=hT.ahead
  have nd:=DK.nd
  have EG:=T.pc.cl
  have m1:=T.pc.na "kind" (by simp)
  have m2:=T.pc.na "value" (by simp)
  have m3:=T.pc.na "place" (by simp)
  refine⟨_,mV (m6 (i:=3) nd rfl (Or.inl rfl) (pO TK T.cl hr (by decide) (ph (Cx.oB _ _ _)) (pv 0) (mU (rP ub (m_ (oS (E:=E0) A1 T.cl hr (by decide) nj (pv 0)) rfl) (wu g) (oH _)) mW)))
   (mV (pf (vi (vm p7 p7 (pv 1) (m_ (pv 3) rfl) (pv 2))) (m4 (vz W rfl (Cx.oB _ _ _) hr (by decide) (mU (nP g2) (mU (m_ (pv 3) rfl) mW)))) nX)
   (m4 (m9 (m_ (pv 3) rfl)))),?_⟩
  obtain⟨dx,lp,i,as,ps,h1,h2⟩:=id hR
  refine⟨_,rfl,r,dx,_,rfl,h1,rfl,_,rfl,r,dx,_,rfl,h1,rfl,r,p,t,rfl,hR,λ a ⟨dp,ha⟩=>⟨a,CP,dp,_,_,rfl,ha,EG,m1,rfl,DI _ _,hE,r,_,p,t,rfl,hR,λ hb H' a Np hB pa=>?_,λ hb=>?_⟩⟩
  ·rcases N9 hT lo hi with⟨n,z0,z1,z2,z3⟩|⟨z1,z2⟩
   ·obtain⟨pp,pn⟩:=p
    have z0:pp= .num n:=z0
    subst z0
    obtain⟨dp',SQ⟩:=pa
    rw[z2]at k
    refine KO gv (gf gv SQ EG m2 rfl) gv (λ hc=>?_) λ hc=>?_
    ·rw[if_neg (by omega)]at k
     exact⟨_,rfl,a,CP,dp',_,_,rfl,SQ,EG,m3,rfl,_,_,rfl,λ H2 W_ hd ne=>k H2 W_ hd (hB.trans (sD.ne ne))⟩
    ·rw[if_pos (by omega)]at k
     exact⟨_,rfl,a,CP,dp',_,_,rfl,SQ,EG,m2,rfl,k H' _ ⟨t,Np,z3⟩ hB rfl⟩
   ·exact absurd (hb.symm.trans z1) (by decide)
  ·rcases N9 hT lo hi with⟨n,z0,z1,z2,z3⟩|⟨z1,z2⟩
   ·exact absurd (z1.symm.trans hb) (by decide)
   ·rw[z2]at k;exact k
theorem rf.by{en r:Nat}{H:Hp}{Q:VK}{E:XK}{α:Type}{val:α->Hp->V->Prop}{x:Except Bad (α×cB)}(he:∀b,x= .error b->Raise C r H E b.kind b.place)
  (hk:∀a l,x= .ok (a,l)->∀H' v,JU CR CP en H' r l->sD r H H'->val a H' v->Q v H'):rf CR CP C en r H Q E val x:=by
 cases x with
 |error b=>exact he b rfl
 |ok y=>exact hk y.1 y.2 rfl
structure RdM(P:aK)(w:bj)(K:ah)(mg:Str->Option ao)(base:bF)(CR CP C:ag):Prop where
 ahead:Hz1 P w K mg base CR CP
 isWord:um P w K mg base oE 2 CR "is_word" ["self","word"] (DH CR CP)
 word:um P w K mg base (Cc P w C) 4 CR "take_word" ["self","word"] (Ia CR CP C)
 stop:um P w K mg base (Cc P w C) 4 CR "take_stop" ["self"] (Ib CR CP C)
 name:um P w K mg base (Cc P w C) 4 CR "take_name" ["self"] (Ic CR CP C)
 number:um P w K mg base (Cc P w C) 4 CR "take_number" ["self","least","most"] (DJ CR CP C)
 fin:um P w K mg base (Cc P w C) 4 CR "take_end" ["self"] (KL CR CP C)
abbrev Fb:List Str:=["name","weight","finds","time"]
def ceV(c:bD):List V:=[.str (strOf c.name),.int c.weight,.int c.finds,.int c.time]
def Ca(CC:ag)(H:Hp)(a:ag)(c:bD):Prop:=∃dx,H a=some (.ins CC dx (Fb.zip (ceV c)))
def qI(CC:ag)(H:Hp)(as:List ag)(cs:List bD):Prop:=as.length=cs.length/\∀(j:Nat) (a:ag) (c:bD),as[j]? =some a->cs[j]? =some c->Ca CC H a c
def xJ(en:Nat)(f:ae)(l:cB):Except Bad (bD×cB):=do
 let l <-bM en "cell" l
 let n <-nameAt en l
 if(cellOf f n.1.2).isSome=true\/iD<=f.cells.length then .error ⟨3,n.1.1⟩
 else do
  let l <-bM en "weight" n.2
  let w <-numAt en 0 d9 l
  let l <-bM en "finds" w.2
  let p <-numAt en 0 f.parts l
  let l <-bM en "time" p.2
  let t <-numAt en 1 fm l
  let r <-semi en t.2
  .ok (⟨n.1.2,w.1,p.1,t.1⟩,r)
inductive CG (K:ah) (CR CP C CC:ag) (vs:List V) (H:Hp) (Q:VK) (E:XK):Prop
 |mk (_:Calm E) (r) (en) (parts) (lc) (as) (cs) (l):vs=[.ref r,.int (parts:Nat),.ref lc]->JU CR CP en H r l->H lc=some (.lst (as.map V.ref))->qI CC H as cs->cs.length<=16->rf CR CP C en r H Q E (λ c H' v=>∃a,v= .ref a/\Ca CC H' a c) (xJ en ⟨parts,cs,[]⟩ l)->CG K CR CP C CC vs H Q E
abbrev KQ:List Str:=["reader","parts","cells","name","weight","finds","time","cell"]
theorem Ig:m7 KQ ["reader","parts","cells"] (mZ Be):=qf
theorem Xe(as:List ag)(cs:List bD)(nm:List Nat)(n:Nat):G7 (.str (strOf nm)) (cs.map λ c=>V.str (strOf c.name))=(cellOf ⟨n,cs,[]⟩ nm).isSome:=by
 unfold cG
 show _=(cs.findIdx? λ c=>c.name == nm).isSome
 rw[j9]
 unfold G7
 rw[jO]
 congr 1
 funext c
 show(strOf c.name == strOf nm)=(c.name == nm)
 by_cases q:c.name=nm
 ·rw[q];simp
 ·rw[beq_eq_false_iff_ne.mpr q]
  exact beq_eq_false_iff_ne.mpr λ z=>q (Bj z)
theorem JU.ins{en r:Nat}{H:Hp}{l:cB}(h:JU CR CP en H r l):∃dx a i,H r=some (.ins CR dx (N2 a i)):=by
 obtain⟨tk,⟨dx,a,i,as,ps,h1,_⟩,_⟩:=h
 exact⟨dx,a,i,h1⟩
theorem wZ{x:Except Bad cB}{b:Bad}(h:un x= .error b):x= .error b:=by
 cases x with
 |error c=>cases h;rfl
 |ok l=>cases h
theorem wx{x:Except Bad cB}{a:Unit}{l:cB}(h:un x= .ok (a,l)):x= .ok l:=by
 cases x with
 |error c=>cases h
 |ok l=>cases h;rfl
theorem sD.lst{r lc dx a i:Nat}{H H':Hp}{xs:List V}(b:sD r H H')(h:H lc=some (.lst xs))(hr:H r=some (.ins CR dx (N2 a i))):H' lc=some (.lst xs):=
 b lc _ h (λ e=>by rw[e,hr]at h;cases h) (λ φ q=>by cases q)
theorem sD.cells{r dx a i:Nat}{H H':Hp}{as:List ag}{cs:List bD}(b:sD r H H')(h:qI CC H as cs)(hr:H r=some (.ins CR dx (N2 a i))):qI CC H' as cs:=
 ⟨h.1,λ j x c e1 e2=>let⟨dy,ey⟩:=h.2 j x c e1 e2;⟨dy,b x _ ey (λ e=>by rw[e,hr]at ey;cases ey) (λ φ q=>by cases q)⟩⟩
theorem sD.Ih{r x dx a i:Nat}{H H':Hp}{p:Pc×Nat}(b:sD r H H')(h:rD CP H x p)(hr:H r=some (.ins CR dx (N2 a i))):rD CP H' x p:=
 let⟨dy,ey⟩:=h;⟨dy,b x _ ey (λ e=>by rw[e,hr]at ey;cases ey) (λ φ q=>by cases q)⟩
theorem QC(F:pG K "read_cell" "read_cell" Be f fd)(T:vA P w K mg base CR CP)(W:tZ P w K mg base C)(M:RdM P w K mg base CR CP C)(ow:Rec P w K mg base "Cell" CC Fb)(o9:mg "len"=none)
  (yk:oC mg "MOST_CELLS" 16)(pB:oC mg "TOLD_OR_FULL" 3)(w6:oC mg "MOST_WEIGHT" 1000)(Ac:oC mg "MOST_TIME" 20):nO P w K mg base (Cc P w C) 5 f fd ["reader","parts","cells"] (CG K CR CP C CC):=by
 refine F.VW Ig (λ vs H Q E h=>?_) (λ vs H Q E h=>h.1) (λ oU A outer s H vs Q E hr h=>?_)
 ·obtain⟨_,r,en,parts,lc,as,cs,l,rfl,_⟩:=h
  rfl
 ·obtain⟨hE,r,en,parts,lc,as,cs,l,rfl,hR,hL,hC,EE,k⟩:=h
  have nd:=Ig.nd
  have oz:=T.cl
  have pT:=M.word
  have uc:=M.name
  have pQ:=M.number
  have rn:=M.stop
  refine⟨_,(mV (nZ (pO pT oz hr (by decide) (ph (Cx.oB _ _ _)) (pv 0) (mU qk mW)))
   (mV (m6 (i:=3) nd rfl (Or.inl rfl) (oS uc oz hr (by decide) (ph (Cx.oB _ _ _)) (pv 0)))
   (mV (pf (PW.pt (Wc (om ub (nJ nL rfl o9 aX (mU (pv 2) mW)) (nP yk) (oH _)) (PX (om Bb (m_ (pv 3) rfl) (qp (own:=[("cell",7)]) rfl nd (oJ (pv 2)) (by exact pz.of (N:=KQ) (sc:=mZ Be) (by decide +kernel)) (λ _ _ _ _ _=>(nr (i:=7) nd rfl (Or.inl rfl))) (λ _ _ _ _ _=>oP) (λ _ _ _ _ _=>by exact(xY K (pv 7)))) (by with_unfolding_all rfl))))) (m4 (vz W rfl (Cx.oB _ _ _) hr (by decide) (mU (nP pB) (mU (m_ (pv 3) rfl) mW)))) nX)
   (mV (nZ (pO pT oz hr (by decide) (ph (Cx.oB _ _ _)) (pv 0) (mU qk mW)))
   (mV (m6 (i:=4) nd rfl (Or.inl rfl) (pO pQ oz hr (by decide) (ph (Cx.oB _ _ _)) (pv 0) (mU nM (mU (nP w6) mW))))
   (mV (nZ (pO pT oz hr (by decide) (ph (Cx.oB _ _ _)) (pv 0) (mU qk mW)))
   (mV (m6 (i:=5) nd rfl (Or.inl rfl) (pO pQ oz hr (by decide) (ph (Cx.oB _ _ _)) (pv 0) (mU nM (mU (pv 1) mW))))
   (mV (nZ (pO pT oz hr (by decide) (ph (Cx.oB _ _ _)) (pv 0) (mU qk mW)))
   (mV (m6 (i:=6) nd rfl (Or.inl rfl) (pO pQ oz hr (by decide) (ph (Cx.oB _ _ _)) (pv 0) (mU nM (mU (nP Ac) mW))))
   (mV (nZ (oS rn oz hr (by decide) (ph (Cx.oB _ _ _)) (pv 0)))
   (m4 (m9 (vx ow hr (by decide) (mU (m_ (pv 3) rfl) (mU (pv 4) (mU (pv 5) (mU (pv 6) mW))))))))))))))))),?_⟩
  have EG:=T.pc.cl
  have m2:=T.pc.na "value" (by simp)
  have m3:=T.pc.na "place" (by simp)
  obtain⟨dx,la,i,h1⟩:=hR.ins
  refine⟨_,rfl,r,dx,_,rfl,h1,rfl,hE,r,en,"cell",l,rfl,hR,rf.by (λ b e=>?_) λ _ l1 e1 H1 v Xf Y1 _=>?_⟩
  ·have e:=wZ e
   unfold xJ at k
   rw[e]at k;exact k
  have e1:=wx e1
  unfold xJ at k
  rw[e1]at k
  dsimp only[Bind.bind,Except.bind]at k
  obtain⟨dx1,la1,i1,Y2⟩:=Xf.ins
  refine⟨_,rfl,r,dx1,_,rfl,Y2,rfl,hE,r,en,(),l1,rfl,Xf,rf.by (λ b e=>?_) λ nm l2 e2 H2 v PL Mc ⟨a,ev,pa⟩=>?_⟩
  ·have e:nameAt en l1= .error b:=e
   rw[e]at k;exact Raise.mono k Y1
  subst ev
  have e2:nameAt en l1= .ok (nm,l2):=e2
  rw[e2]at k
  dsimp only at k
  have B2:=Y1.trans Mc
  have Y3:=B2.lst hL h1
  have hC2:=B2.cells hC h1
  obtain⟨dp,ha⟩:=id pa
  have wrong:((cG ⟨parts,cs,[]⟩ nm.2).isSome=true\/iD<=cs.length)->∀H3 H4 d4,NE H2 H3->H4 d4=some (wd (.int 3) (.int (nm.1:Nat)))->NE H3 H4->E (.ref C) (some d4) H4:=λ hc H3 H4 d4 ne1 hd ne2=>by
   rw[if_pos hc]at k
   exact k H4 d4 hd (B2.trans ((sD.ne ne1).trans (sD.ne ne2)))
  refine⟨_,rfl,lc,_,rfl,.inl (nA.of Y3),rfl,_,rfl,p8 (λ hc=>?_) λ hc=>?_⟩
  ·have hc:=V.int.inj (of_decide_eq_true hc)
   rw[aa,hC.1]at hc
   refine s_ ⟨_,rfl,a,CP,dp,_,_,rfl,ha,EG,m3,rfl,_,_,rfl,λ H4 d4 hd ne=>wrong (.inr (by show 16<=_;omega)) H2 H4 d4 (NE.refl _) hd ne⟩
  have adH:¬ iD<=cs.length:=by
   have z:¬ ((as.map V.ref).length:Int)=16:=λ q=>hc (decide_eq_true (congrArg V.int q))
   rw[aa,hC.1]at z
   show ¬ 16<=_
   omega
  refine⟨_,rfl,a,CP,dp,_,_,rfl,ha,EG,m2,rfl,_,rfl,lc,rfl,⟨_,nA.of Y3⟩,?_⟩
  refine oV (oQ (K:=K) (xs:=as.map V.ref) (nA.of Y3)) (cs.map λ c=>V.str (strOf c.name)) (by rw[aa,aa,hC.1]) (by rw[aa,hC.1,aA];omega) (λ j x y H3 R3 N3 hy sm hF kk=>?_) (λ D H3 hD sm uC=>?_)
  ·rw[ak]at hF hy
   cases q1:as[j]? with
   |none=>rw[q1]at hF;cases hF
   |some aj=>
    cases q2:cs[j]? with
    |none=>rw[q2]at hy;cases hy
    |some cj=>
     rw[q1]at hF;rw[q2]at hy
     cases hF;cases hy
     obtain⟨dc,ec⟩:=hC2.2 j aj cj q1 q2
     exact⟨rfl,sy ⟨_,rfl,aj,CC,dc,_,_,rfl,sm _ _ ec,ow.cl,ow.na "name" (by simp),rfl,kk H3 (m5.refl _)⟩⟩
  refine⟨D,_,rfl,.inl (nA.of uC),rfl,(by rw[cJ];exact List.all_eq_true.mpr λ _ _=>rfl),_,rfl,?_⟩
  have ein:G7 (.str (strOf nm.2)) (cs.map λ c=>V.str (strOf c.name))=(cG ⟨parts,cs,[]⟩ nm.2).isSome:=Xe as cs nm.2 parts
  refine p8 (λ hc=>?_) λ hc=>?_
  ·have hc:(cG ⟨parts,cs,[]⟩ nm.2).isSome=true:=ein.symm.trans hc
   exact⟨_,rfl,a,CP,dp,_,_,rfl,sm _ _ ha,EG,m3,rfl,_,_,rfl,λ H4 d4 hd ne=>wrong (.inl hc) H3 H4 d4 (λ b o e _=>sm b o e) hd ne⟩
  have aeS:¬ (cG ⟨parts,cs,[]⟩ nm.2).isSome=true:=λ q=>hc (ein.trans q)
  rw[if_neg (λ q=>q.elim aeS adH)]at k
  have B3:sD r H H3:=B2.trans (sD.of_same sm)
  have hR3:JU CR CP en H3 r l2:=by
   obtain⟨tk,⟨d',l',i',EF,ZT,q1,q2,q3,q4,q5⟩,ht⟩:=PL
   exact⟨tk,⟨d',l',i',EF,ZT,sm _ _ q1,sm _ _ q2,q3.same λ x o _ e=>sm x o e,q4,q5⟩,ht⟩
  obtain⟨dx3,la3,i3,Y4⟩:=hR3.ins
  refine⟨_,rfl,r,dx3,_,rfl,Y4,rfl,hE,r,en,"weight",l2,rfl,hR3,rf.by (λ b e=>?_) λ _ l4 e4 H4 v Y5 Xg _=>?_⟩
  ·rw[wZ e]at k;exact Raise.mono k B3
  rw[wx e4]at k
  dsimp only at k
  have B4:=B3.trans Xg
  obtain⟨dx4,la4,i4,ZU⟩:=Y5.ins
  refine⟨_,rfl,r,dx4,_,rfl,ZU,rfl,hE,r,en,(0,1000),l4,rfl,Y5,rf.by (λ b e=>?_) λ nw l5 e5 H5 v Xh N_ ev=>?_⟩
  ·have e:numAt en 0 d9 l4= .error b:=e
   rw[e]at k;exact Raise.mono k B4
  have e5:numAt en 0 d9 l4= .ok (nw,l5):=e5
  rw[e5]at k
  dsimp only at k
  subst ev
  have B5:=B4.trans N_
  obtain⟨dx5,la5,i5,Y6⟩:=Xh.ins
  refine⟨_,rfl,r,dx5,_,rfl,Y6,rfl,hE,r,en,"finds",l5,rfl,Xh,rf.by (λ b e=>?_) λ _ l6 e6 H6 v hR6 hB6 _=>?_⟩
  ·rw[wZ e]at k;exact Raise.mono k B5
  rw[wx e6]at k
  dsimp only at k
  have B6:=B5.trans hB6
  obtain⟨dx6,la6,i6,GX⟩:=hR6.ins
  refine⟨_,rfl,r,dx6,_,rfl,GX,rfl,_,rfl,hE,r,en,(0,parts),l6,rfl,hR6,rf.by (λ b e=>?_) λ nf l7 e7 H7 v hR7 hB7 ev=>?_⟩
  ·have e:numAt en 0 parts l6= .error b:=e
   rw[e]at k;exact Raise.mono k B6
  have e7:numAt en 0 parts l6= .ok (nf,l7):=e7
  rw[e7]at k
  dsimp only at k
  subst ev
  have B7:=B6.trans hB7
  obtain⟨dx7,la7,i7,h17⟩:=hR7.ins
  refine⟨_,rfl,r,dx7,_,rfl,h17,rfl,hE,r,en,"time",l7,rfl,hR7,rf.by (λ b e=>?_) λ _ l8 e8 H8 v hR8 hB8 _=>?_⟩
  ·rw[wZ e]at k;exact Raise.mono k B7
  rw[wx e8]at k
  dsimp only at k
  have B8:=B7.trans hB8
  obtain⟨dx8,la8,i8,h18⟩:=hR8.ins
  refine⟨_,rfl,r,dx8,_,rfl,h18,rfl,hE,r,en,(1,20),l8,rfl,hR8,rf.by (λ b e=>?_) λ nt l9 e9 H9 v hR9 hB9 ev=>?_⟩
  ·have e:numAt en 1 fm l8= .error b:=e
   rw[e]at k;exact Raise.mono k B8
  have e9:numAt en 1 fm l8= .ok (nt,l9):=e9
  rw[e9]at k
  dsimp only at k
  subst ev
  have B9:=B8.trans hB9
  obtain⟨dx9,la9,i9,h19⟩:=hR9.ins
  refine⟨_,rfl,r,dx9,_,rfl,h19,rfl,hE,r,en,(),l9,rfl,hR9,rf.by (λ b e=>?_) λ _ lA eA HA v hRA hBA _=>?_⟩
  ·rw[wZ e]at k;exact Raise.mono k B9
  rw[wx eA]at k
  have BA:=B9.trans hBA
  have p3:rD CP H3 a (.word nm.2,nm.1):=pa.same sm
  have pA:rD CP HA a (.word nm.2,nm.1):=hBA.Ih (hB9.Ih (hB8.Ih (hB7.Ih (hB6.Ih (N_.Ih (Xg.Ih p3 Y4) ZU) Y6) GX) h17) h18) h19
  obtain⟨dpA,haA⟩:=pA
  refine⟨_,rfl,a,CP,dpA,_,_,rfl,haA,EG,m2,rfl,_,rfl,_,rfl,_,rfl,rfl,λ x dx HB hx Dz smB=>?_⟩
  refine k HB (.ref x) ?_ (BA.trans (sD.of_same smB)) ⟨x,rfl,⟨dx,Dz⟩⟩
  ·obtain⟨tk,⟨d',l',i',EF,ZT,q1,q2,q3,q4,q5⟩,ht⟩:=hRA
   exact⟨tk,⟨d',l',i',EF,ZT,smB _ _ q1,smB _ _ q2,q3.same λ x o _ e=>smB x o e,q4,q5⟩,ht⟩
theorem pC{en:Nat}{s:String}{l r:cB}(h:bM en s l= .ok r):r.length<l.length:=by
 unfold bM at h
 split at h
 ·cases h
  rename_i hw
  cases l with
  |nil=>exact absurd hw (by simp[dC])
  |cons x y=>simp
 ·cases h
theorem Oa{en:Nat}{l r:cB}(h:semi en l= .ok r):r.length<l.length:=by
 unfold lH at h
 split at h
 ·cases h
  rename_i hw
  cases l with
  |nil=>exact absurd hw (by simp)
  |cons x y=>simp
 ·cases h
theorem tJ{en lo hi:Nat}{l r:cB}{n:Nat}(h:numAt en lo hi l= .ok (n,r)):r.length<l.length:=by
 unfold jz at h
 split at h
 ·split at h
  ·cases h;simp
  ·cases h
 ·cases h
theorem CH{en:Nat}{l r:cB}{n:Nat×List Nat}(h:nameAt en l= .ok (n,r)):r.length<l.length:=by
 unfold k_ at h
 split at h
 ·split at h
  ·cases h
  ·cases h;simp
 ·cases h
theorem Ii{en:Nat}{f:ae}{l r:cB}{c:bD}(h:xJ en f l= .ok (c,r)):r.length<l.length/\f.cells.length<16:=by
 unfold xJ at h
 cases e1:bM en "cell" l with
 |error b=>rw[e1]at h;cases h
 |ok l1=>
  rw[e1]at h
  dsimp only[Bind.bind,Except.bind]at h
  cases e2:nameAt en l1 with
  |error b=>rw[e2]at h;cases h
  |ok x=>
   obtain⟨n,l2⟩:=x
   rw[e2]at h
   dsimp only at h
   split at h
   ·cases h
   ·rename_i hc
    cases e3:bM en "weight" l2 with
    |error b=>rw[e3]at h;cases h
    |ok l3=>
     rw[e3]at h
     dsimp only at h
     cases e4:numAt en 0 d9 l3 with
     |error b=>rw[e4]at h;cases h
     |ok x4=>
      obtain⟨n4,l4⟩:=x4
      rw[e4]at h
      dsimp only at h
      cases e5:bM en "finds" l4 with
      |error b=>rw[e5]at h;cases h
      |ok l5=>
       rw[e5]at h
       dsimp only at h
       cases e6:numAt en 0 f.parts l5 with
       |error b=>rw[e6]at h;cases h
       |ok x6=>
        obtain⟨n6,l6⟩:=x6
        rw[e6]at h
        dsimp only at h
        cases e7:bM en "time" l6 with
        |error b=>rw[e7]at h;cases h
        |ok l7=>
         rw[e7]at h
         dsimp only at h
         cases e8:numAt en 1 fm l7 with
         |error b=>rw[e8]at h;cases h
         |ok x8=>
          obtain⟨n8,l8⟩:=x8
          rw[e8]at h
          dsimp only at h
          cases e9:semi en l8 with
          |error b=>rw[e9]at h;cases h
          |ok l9=>
           rw[e9]at h
           dsimp only at h
           cases h
           have a1:=pC e1
           have a2:=CH e2
           have a3:=pC e3
           have a4:=tJ e4
           have a5:=pC e5
           have a6:=tJ e6
           have a7:=pC e7
           have a8:=tJ e8
           have a9:=Oa e9
           refine⟨by omega,?_⟩
           have:¬ 16<=f.cells.length:=λ q=>hc (.inr q)
           omega
theorem yl(en k:Nat)(f:ae)(l:cB):fN en (k+1) f l=if dC "cell" l=false/\f.cells.isEmpty=false then .ok (f,l)else
  match xJ en f l with
  | .error b=>.error b
  | .ok (c,r)=>fN en k { f with cells:=f.cells++[c] } r:=by
 show(if dC "cell" l=false/\f.cells.isEmpty=false then _ else _)=_
 by_cases hc:dC "cell" l=false/\f.cells.isEmpty=false
 ·rw[if_pos hc,if_pos hc]
 ·rw[if_neg hc,if_neg hc]
  unfold xJ
  cases e1:bM en "cell" l with
  |error b=>rfl
  |ok l1=>
   dsimp only[Bind.bind,Except.bind]
   cases e2:nameAt en l1 with
   |error b=>rfl
   |ok x=>
    dsimp only
    by_cases hd:(cG f x.1.2).isSome=true\/iD<=f.cells.length
    ·rw[if_pos hd,if_pos hd]
    ·rw[if_neg hd,if_neg hd]
     cases bM en "weight" x.2 with
     |error b=>rfl
     |ok l3=>
      dsimp only
      cases numAt en 0 d9 l3 with
      |error b=>rfl
      |ok x4=>
       dsimp only
       cases bM en "finds" x4.2 with
       |error b=>rfl
       |ok l5=>
        dsimp only
        cases numAt en 0 f.parts l5 with
        |error b=>rfl
        |ok x6=>
         dsimp only
         cases bM en "time" x6.2 with
         |error b=>rfl
         |ok l7=>
          dsimp only
          cases numAt en 1 fm l7 with
          |error b=>rfl
          |ok x8=>
           dsimp only
           cases semi en x8.2 with
           |error b=>rfl
           |ok l9=>rfl
inductive Ad (CR CP C CC:ag) (vs:List V) (H:Hp) (Q:VK) (E:XK):Prop
 |mk (_:Calm E) (r) (en) (parts) (l):vs=[.ref r,.int (parts:Nat)]->JU CR CP en H r l->rf CR CP C en r H Q E (λ(f:ae) H' v=>∃lc as,v= .ref lc/\H' lc=some (.lst (as.map V.ref))/\qI CC H' as f.cells) (fN en (l.length+1) ⟨parts,[],[]⟩ l)->Ad CR CP C CC vs H Q E
abbrev QD:List Str:=["reader","parts","cells"]
theorem FR:m7 QD ["reader","parts"] (mZ Cm):=qf
theorem qI.snoc{H:Hp}{as:List ag}{cs:List bD}{a:ag}{c:bD}(h:qI CC H as cs)(h':Ca CC H a c):qI CC H (as++[a]) (cs++[c]):=by
 refine⟨by simp[h.1],λ j b q h1 h2=>?_⟩
 by_cases hj:j<as.length
 ·rw[bp hj]at h1
  rw[bp (by rw[<-h.1];exact hj)]at h2
  exact h.2 j b q h1 h2
 ·rw[bf (by omega)]at h1
  rw[bf (by rw[<-h.1];omega)]at h2
  have e:j-as.length=0:=by
   obtain⟨z,_⟩:=List.getElem?_eq_some_iff.mp h1
   simp at z;omega
  rw[e]at h1
  rw[<-h.1,e]at h2
  cases h1;cases h2
  exact h'
theorem JU.same{en r:Nat}{H H':Hp}{l:cB}(h:JU CR CP en H r l)(sm:m5 H H'):JU CR CP en H' r l:=by
 obtain⟨tk,⟨d',l',i',EF,ZT,q1,q2,q3,q4,q5⟩,ht⟩:=h
 exact⟨tk,⟨d',l',i',EF,ZT,sm _ _ q1,sm _ _ q2,q3.same λ x o _ e=>sm x o e,q4,q5⟩,ht⟩
theorem JU.sN{en r lc:Nat}{H:Hp}{l:cB}{xs ys:List V}(h:JU CR CP en H r l)(hl:H lc=some (.lst xs))(hp:∀(as:List ag) (ps:List (Pc×Nat)),as≠[]->qA CP H as ps->xs≠as.map V.ref):JU CR CP en (upd H lc (.lst ys)) r l:=by
 obtain⟨tk,⟨d',l',i',EF,ZT,q1,q2,q3,q4,q5⟩,ht⟩:=h
 have xG:EF≠[]:=by
  intro e
  have hz:=q3.1
  rw[e]at hz
  have:ZT=[]:=List.eq_nil_of_length_eq_zero hz.symm
  rw[this,List.drop_nil]at q4
  obtain⟨p,t,e2,_⟩:=ht.ahead
  rw[<-q4]at e2;cases e2
 refine⟨tk,⟨d',l',i',EF,ZT,?_,?_,⟨q3.1,λ j x q e1 e2=>?_⟩,q4,q5⟩,ht⟩
 ·rw[mY (λ e=>by rw[e,hl]at q1;cases q1)];exact q1
 ·rw[mY (λ e=>by rw[e,hl]at q2;exact hp EF ZT xG q3 (HO.lst.inj (Option.some.inj q2)))];exact q2
 ·obtain⟨dy,ey⟩:=q3.2 j x q e1 e2
  exact⟨dy,by rw[mY (λ e=>by rw[e,hl]at ey;cases ey)];exact ey⟩
theorem Ae:∀{as bs:List ag},as.map V.ref=bs.map V.ref->as=bs
 |[],[],_=>rfl
 |[],_::_,h=>by cases h
 |_::_,[],h=>by cases h
 |a::as,b::bs,h=>by
  have h1:=(List.cons.inj h).1
  rw[V.ref.inj h1,Ae (List.cons.inj h).2]
theorem GY{H:Hp}{as:List ag}{cs:List bD}(h:qI CC H as cs)(xG:cs≠[]):∀(EF:List ag) (ps:List (Pc×Nat)),EF≠[]->qA CP H EF ps->as.map V.ref≠EF.map V.ref:=by
 intro EF ps h1 h2 e
 have e:=Ae e
 subst e
 match as,cs,ps,h,xG,h1,h2 with
 |a::r,c::cr,p::pr,h,_,_,h2=>
  obtain⟨d1,e1⟩:=h.2 0 a c rfl rfl
  obtain⟨d2,e2⟩:=h2.2 0 a p rfl rfl
  rw[e1]at e2
  cases e2
 |a::r,c::cr,[],h,_,_,h2=>exact absurd h2.1 (by simp)
theorem qI.sN{lc:Nat}{H:Hp}{xs ys:List V}{as:List ag}{cs:List bD}(h:qI CC H as cs)(hl:H lc=some (.lst xs)):qI CC (upd H lc (.lst ys)) as cs:=
 ⟨h.1,λ j a c e1 e2=>let⟨dx,e⟩:=h.2 j a c e1 e2;⟨dx,by rw[mY (λ q=>by rw[q,hl]at e;cases e)];exact e⟩⟩
theorem Ob(F:pG K "read_cells" "read_cells" Cm f fd)(T:vA P w K mg base CR CP)(M:RdM P w K mg base CR CP C)(wy:rA P w K mg base (Cc P w C) 5 "read_cell" ["reader","parts","cells"] (CG K CR CP C CC)):
  nO P w K mg base (Cc P w C) 6 f fd ["reader","parts"] (Ad CR CP C CC):=by
 refine F.VW FR (λ vs H Q E h=>?_) (λ vs H Q E h=>h.1) (λ oU A outer s H vs Q E hr h=>?_)
 ·obtain⟨_,r,en,parts,l,rfl,_⟩:=h
  rfl
 ·obtain⟨hE,r,en,parts,l,rfl,hR,k⟩:=h
  have nd:=FR.nd
  have oz:=T.cl
  have vd:=M.isWord
  refine⟨_,(mV (m6 (i:=2) nd rfl (Or.inl rfl) (nN (mU (nq wy hr (by decide) (ph (Cx.oB _ _ _)) (mU (pv 0) (mU (pv 1) (mU (nN mW) mW)))) mW)))
   (mV (rK (S_ rfl rfl (Cx.oB _ _ _) hE) (tF (pO (E:=E0) vd oz hr (by decide) nj (pv 0) (mU qk mW))) (m4 (nZ (qQ aG a_ a0 pD (pv 2) (mU (nq wy hr (by decide) (ph (Cx.oB _ _ _)) (mU (pv 0) (mU (pv 1) (mU (pv 2) mW)))) mW)))))
   (m4 (m9 (pv 2))))),?_⟩
  refine⟨_,rfl,_,rfl,aE _,λ p0 hp0=>?_⟩
  have s0:m5 H (upd H p0 (.lst [])):=m5.new hp0
  have st:=yl en l.length ⟨parts,[],[]⟩ l
  rw[if_neg (λ z=>by simp at z)]at st
  refine⟨hE,r,en,parts,p0,[],[],l,rfl,hR.same s0,mX,⟨rfl,λ j a c e1=>by simp at e1⟩,aE _,rf.by (λ b e=>?_) λ c l1 e1 H1 v Xf Y1 ⟨a,ev,ca⟩=>?_⟩
  ·rw[st,e]at k;exact Raise.mono k (sD.of_same s0)
  subst ev
  rw[e1]at st
  have st:fN en (l.length+1) ⟨parts,[],[]⟩ l=fN en l.length ⟨parts,[c],[]⟩ l1:=st
  have aeT:=Ii e1
  have B1:sD r H H1:=(sD.of_same s0).trans Y1
  refine⟨(by show 1<=ay;decide),λ lc hlc=>?_⟩
  have s1:m5 H1 (upd H1 lc (.lst [.ref a])):=m5.new hlc
  refine⟨λ m σ H'=>∃(as:List ag) (cs:List bD) (l':cB) (fu:Nat),σ=[some (.ref r),some (.int parts),some (.ref lc)]/\H' lc=some (.lst (as.map V.ref))/\qI CC H' as cs/\JU CR CP en H' r l'/\sD r H H'/\m=l'.length/\cs≠[]/\cs.length<=16/\l'.length<fu/\fN en (l.length+1) ⟨parts,[],[]⟩ l=fN en fu ⟨parts,cs,[]⟩ l',
   ⟨_,[a],[c],l1,l.length,rfl,mX,⟨rfl,λ j x y e1 e2=>?_⟩,Xf.same s1,B1.trans (sD.of_same s1),rfl,by simp,by simp,aeT.1,st⟩,?_⟩
  ·match j,e1,e2 with
   |0,e1,e2=>
    cases e1;cases e2
    obtain⟨d,e⟩:=ca
    exact⟨d,s1 _ _ e⟩
   |j+1,e1,e2=>simp at e1
  rintro m σ H' ⟨as,cs,l',fu,rfl,GS,hC',Np,hB',rfl,xG,GX,hfu,heq⟩
  obtain⟨tk,hRA,hT⟩:=id Np
  obtain⟨p,t,rfl,vo⟩:=hT.ahead
  obtain⟨dx,la,i,h1⟩:=Np.ins
  obtain⟨f1,rfl⟩:∃f1,fu=f1+1:=⟨fu-1,by omega⟩
  have EA:=yl en f1 ⟨parts,cs,[]⟩ l'
  have ce:(cs.isEmpty=false):=by cases cs with |nil=>exact absurd rfl xG|cons=>rfl
  refine⟨_,rfl,r,dx,_,rfl,h1,rfl,r,_,p,t,rfl,hRA,_,rfl,?_⟩
  rw[hT.isW]
  refine p8 (λ hw=>?_) λ hw=>?_
  ·rw[if_neg (λ z=>by rw[hw]at z;exact absurd z.1 (by decide))]at EA
   refine⟨_,λ _ _ z=>z,_,rfl,.inl ⟨rfl,_,nA.of GS⟩,_,rfl,_,rfl,_,rfl,hE,r,en,parts,lc,as,cs,l',rfl,Np,GS,hC',GX,rf.by (λ b e=>?_) λ c2 l2 e2 H2 v PL Mc ⟨a2,ev,ca2⟩=>?_⟩
   ·rw[heq,EA,e]at k;exact Raise.mono k hB'
   subst ev
   rw[e2]at EA
   have ab6:=Ii e2
   have Nm:=Mc.lst GS h1
   have hC2:=Mc.cells hC' h1
   refine⟨lc,_,_,rfl,rfl,Nm,?_,?_⟩
   ·rw[aa,hC'.1,aA];omega
   refine⟨l2.length,ab6.1,as++[a2],cs++[c2],l2,f1,rfl,?_,?_,PL.sN Nm (GY hC2 xG),?_,rfl,by simp,?_,by have:=ab6.1;omega,?_⟩
   ·rw[mX,aF];rfl
   ·refine(hC2.sN Nm).snoc ?_
    obtain⟨d,e⟩:=ca2
    exact⟨d,by rw[mY (λ q=>by rw[q,Nm]at e;cases e)];exact e⟩
   ·intro b o e n x
    rw[mY (λ q=>by have z:=B1 b o e n x;rw[q,hlc]at z;cases z)]
    exact Mc b o (hB' b o e n x) n x
   ·rw[aw];have z:cs.length<16:=ab6.2;simp;omega
   ·rw[heq,EA]
  ·have hw:dC "cell" l'=false:=by rw[gF]at hw;exact hw
   rw[if_pos ⟨hw,ce⟩]at EA
   rw[heq,EA]at k
   exact⟨_,rfl,k H' (.ref lc) Np hB' ⟨lc,as,rfl,GS,hC'⟩⟩
def NumOf(H:Hp)(dn:ag)(f:ae):Prop:=∃oF,H dn=some (.dK oF)/\∀nm:List Nat,vp oF (Sum.inr (strOf nm))=(cG f nm).map λ(i:Nat)=>V.int (i:Int)
def wz(en:Nat)(f:ae)(m:List Nat)(l:cB):Except Bad (Nat×cB):=match nameAt en l with
 | .error b=>.error b
 | .ok (n,r)=>match cG f n.2 with
  |none=>.error ⟨2,n.1⟩
  |some c=>if m.contains c=true then .error ⟨3,n.1⟩else .ok (c,r)
inductive ym (CR CP C:ag) (vs:List V) (H:Hp) (Q:VK) (E:XK):Prop
 |mk (_:Calm E) (r en dn ml:Nat) (ms:List Nat) (f:ae) (l:cB):vs=[.ref r,.ref dn,.ref ml]->JU CR CP en H r l->NumOf H dn f->H ml=some (.lst (nV ms))->rf CR CP C en r H Q E (λ(c:Nat) _ v=>v= .int c) (wz en f ms l)->ym CR CP C vs H Q E
abbrev Oc:List Str:=["reader","number_of","members","name"]
theorem DL:m7 Oc ["reader","number_of","members"] (mZ zZ):=qf
theorem sD.dict{r dn dx a i:Nat}{H H':Hp}{f:ae}(b:sD r H H')(h:NumOf H dn f)(hr:H r=some (.ins CR dx (N2 a i))):NumOf H' dn f:=
 let⟨oF,e,q⟩:=h;⟨oF,b dn _ e (λ z=>by rw[z,hr]at e;cases e) (λ φ z=>by cases z),q⟩
theorem DM(c:Nat)(ms:List Nat):G7 (.int (c:Nat)) (nV ms)=ms.contains c:=by
 unfold G7
 rw[jO]
 induction ms with
 |nil=>rfl
 |cons m r ih=>
  rw[eu,kF,ih]
  congr 1
  show(((m:Nat):Int) == ((c:Nat):Int))=(c == m)
  by_cases q:c=m
  ·rw[q];simp
  ·rw[beq_eq_false_iff_ne.mpr q]
   exact beq_eq_false_iff_ne.mpr (by omega)
theorem Md(F:pG K "read_member" "read_member" zZ f fd)(T:vA P w K mg base CR CP)(W:tZ P w K mg base C)(M:RdM P w K mg base CR CP C)(Fc:oC mg "NO_CELL" 2)(pB:oC mg "TOLD_OR_FULL" 3):
  nO P w K mg base (Cc P w C) 5 f fd ["reader","number_of","members"] (ym CR CP C):=by
 refine F.VW DL (λ vs H Q E h=>?_) (λ vs H Q E h=>h.1) (λ oU A outer s H vs Q E hr h=>?_)
 ·obtain⟨_,r,en,dn,ml,ms,f,l,rfl,_⟩:=h
  rfl
 ·obtain⟨hE,r,en,dn,ml,ms,f,l,rfl,hR,hD,hM,k⟩:=h
  have nd:=DL.nd
  have oz:=T.cl
  have uc:=M.name
  have EG:=T.pc.cl
  have m2:=T.pc.na "value" (by simp)
  have m3:=T.pc.na "place" (by simp)
  refine⟨_,(mV (m6 (i:=3) nd rfl (Or.inl rfl) (oS uc oz hr (by decide) (ph (Cx.oB _ _ _)) (pv 0)))
   (mV (pf (PV (Up (SR hr) (m_ (pv 3) rfl) (pv 1))) (m4 (vz W rfl (Cx.oB _ _ _) hr (by decide) (mU (nP Fc) (mU (m_ (pv 3) rfl) mW)))) nX)
   (mV (pf (om Bb (SN (SR hr) (pv 1) (m_ (pv 3) rfl) (λ _ _=>rfl)) (pv 2) (by with_unfolding_all rfl)) (m4 (vz W rfl (Cx.oB _ _ _) hr (by decide) (mU (nP pB) (mU (m_ (pv 3) rfl) mW)))) nX)
   (m4 (m9 (SN (SR hr) (pv 1) (m_ (pv 3) rfl) (λ _ _=>rfl))))))),?_⟩
  obtain⟨dx,la,i,h1⟩:=hR.ins
  refine⟨_,rfl,r,dx,_,rfl,h1,rfl,hE,r,en,(),l,rfl,hR,rf.by (λ b e=>?_) λ nm l2 e2 H2 v PL Mc ⟨a,ev,pa⟩=>?_⟩
  ·have e:nameAt en l= .error b:=e
   unfold wz at k
   rw[e]at k;exact k
  subst ev
  have e2:nameAt en l= .ok (nm,l2):=e2
  unfold wz at k
  rw[e2]at k
  dsimp only at k
  obtain⟨dp,ha⟩:=id pa
  obtain⟨oF,hd2,hv⟩:=Mc.dict hD h1
  have hM2:=Mc.lst hM h1
  have hvn:=hv nm.2
  refine⟨_,rfl,a,CP,dp,_,_,rfl,ha,EG,m2,rfl,_,rfl,dn,_,rfl,J1.k (k:=Sum.inr (strOf nm.2)) hd2,_,rfl,?_⟩
  cases hc:cG f nm.2 with
  |none=>
   rw[hc]at hvn k
   rw[hvn]
   refine s_ ⟨_,rfl,a,CP,dp,_,_,rfl,ha,EG,m3,rfl,_,_,rfl,λ H4 d4 hd ne=>k H4 d4 hd (Mc.trans (sD.ne ne))⟩
  |some c=>
   rw[hc]at hvn k
   rw[hvn]
   dsimp only at k
   have hg:J1 H2 dn (.str (strOf nm.2)) (some (.int (c:Nat))):=by
    have z:=J1.k (k:=Sum.inr (strOf nm.2)) hd2
    rw[hvn]at z;exact z
   refine rG ⟨_,rfl,_,rfl,a,CP,dp,_,_,rfl,ha,EG,m2,rfl,dn,_,rfl,hg,_,rfl,ml,_,rfl,.inl (nA.of hM2),rfl,(by rw[cJ];exact List.all_eq_true.mpr λ _ _=>rfl),_,rfl,?_⟩
   rw[show(if false=true then !G7 (.int (c:Nat)) (nV ms)else G7 (.int (c:Nat)) (nV ms))=ms.contains c from DM c ms]
   refine p8 (λ hm=>?_) λ hm=>?_
   ·rw[if_pos hm]at k
    exact⟨_,rfl,a,CP,dp,_,_,rfl,ha,EG,m3,rfl,_,_,rfl,λ H4 d4 hd ne=>k H4 d4 hd (Mc.trans (sD.ne ne))⟩
   ·rw[if_neg hm]at k
    exact⟨_,rfl,_,rfl,a,CP,dp,_,_,rfl,ha,EG,m2,rfl,dn,_,rfl,hg,k H2 _ PL Mc rfl⟩
def KR(en:Nat)(f:ae)(k:Nat)(m:List Nat)(r:cB):Except Bad (List Nat×cB):=match r with
 |(_,.semi)::r'=>.ok (m,r')
 |r=>fH en f k m r
theorem Fd(en k:Nat)(f:ae)(m:List Nat)(l:cB):fH en f (k+1) m l=match wz en f m l with
  | .error b=>.error b
  | .ok (c,r)=>KR en f k (m++[c]) r:=by
 unfold wz
 show(do let n <-nameAt en l;_)=_
 cases e2:nameAt en l with
 |error b=>rfl
 |ok x=>
  obtain⟨n,r⟩:=x
  dsimp only[Bind.bind,Except.bind]
  cases hc:cG f n.2 with
  |none=>rfl
  |some c=>
   dsimp only
   by_cases hm:m.contains c=true
   ·rw[if_pos hm,if_pos hm]
   ·rw[if_neg hm,if_neg hm]
    dsimp only
    unfold KR
    cases r with
    |nil=>rfl
    |cons x r'=>
     obtain⟨i,tok⟩:=x
     cases tok <;> rfl
theorem Af{en:Nat}{f:ae}{m:List Nat}{l r:cB}{c:Nat}(h:wz en f m l= .ok (c,r)):r.length<l.length:=by
 unfold wz at h
 cases e2:nameAt en l with
 |error b=>rw[e2]at h;cases h
 |ok x=>
  obtain⟨n,r'⟩:=x
  rw[e2]at h
  dsimp only at h
  split at h
  ·cases h
  ·split at h
   ·cases h
   ·cases h;exact CH e2
def DN(en:Nat)(f:ae)(l:cB):Except Bad (aJ×cB):=match bM en "team" l with
 | .error b=>.error b
 | .ok l1=>match numAt en 1 12 l1 with
  | .error b=>.error b
  | .ok (n,l2)=>if lE<aY (f.teams.map λ t=>t.efforts)+n then .error ⟨5,placeOf en l1⟩else match bM en "in" l2 with
   | .error b=>.error b
   | .ok l3=>match fH en f (l3.length+1) [] l3 with
    | .error b=>.error b
    | .ok (m,r)=>.ok (⟨n,m⟩,r)
abbrev J8:List Str:=["efforts","cells"]
inductive rX (CT:ag) (H:Hp) (a:ag) (t:aJ):Prop
 |mk (dx ml:ag):H a=some (.ins CT dx (J8.zip [.int t.efforts,.ref ml]))->H ml=some (.lst (nV t.cells))->t.cells≠[]->rX CT H a t
inductive CJ (CR CP C CT:ag) (vs:List V) (H:Hp) (Q:VK) (E:XK):Prop
 |mk (_:Calm E) (r en dn:Nat) (f:ae) (l:cB):vs=[.ref r,.ref dn,.int (24-(aY (f.teams.map λ t=>t.efforts):Nat))]->JU CR CP en H r l->NumOf H dn f->l.length<=5000->rf CR CP C en r H Q E (λ(t:aJ) H' v=>∃a,v= .ref a/\rX CT H' a t) (DN en f l)->CJ CR CP C CT vs H Q E
abbrev UI:List Str:=["reader","number_of","efforts_left","place","efforts","members"]
theorem Ij:m7 UI ["reader","number_of","efforts_left"] (mZ E1):=qf
theorem NumOf.sN{H:Hp}{dn ml:ag}{f:ae}{xs ys:List V}(h:NumOf H dn f)(hl:H ml=some (.lst xs)):NumOf (upd H ml (.lst ys)) dn f:=
 let⟨oF,e,q⟩:=h;⟨oF,by rw[mY (λ z=>by rw[z,hl]at e;cases e)];exact e,q⟩
theorem NumOf.same{H H':Hp}{dn:ag}{f:ae}(h:NumOf H dn f)(sm:m5 H H'):NumOf H' dn f:=let⟨oF,e,q⟩:=h;⟨oF,sm _ _ e,q⟩
theorem Xi(ms:List Nat)(c:Nat):nV (ms++[c])=nV ms++[V.int (c:Nat)]:=by simp[nV]
theorem FT{ms:List Nat}:∀(EF:List ag),EF≠[]->nV ms≠EF.map V.ref:=by
 intro EF h e
 match ms,EF,h,e with
 |[],a::r,_,e=>cases e
 |m::r',a::r,_,e=>exact absurd (List.cons.inj e).1 (by intro z;cases z)
theorem QE(F:pG K "read_team" "read_team" E1 f fd)(T:vA P w K mg base CR CP)(W:tZ P w K mg base C)(M:RdM P w K mg base CR CP C)(qm:Rec P w K mg base "Team" CT J8)
  (t6:rA P w K mg base (Cc P w C) 5 "read_member" ["reader","number_of","members"] (ym CR CP C))(rH:oC mg "MOST_TEAM_EFFORTS" 12)(rY:oC mg "TOO_MANY_EFFORTS" 5)(Ik:BE mg "STOP" "stop"):
  nO P w K mg base (Cc P w C) 6 f fd ["reader","number_of","efforts_left"] (CJ CR CP C CT):=by
 refine F.VW Ij (λ vs H Q E h=>?_) (λ vs H Q E h=>h.1) (λ oU A outer s H vs Q E hr h=>?_)
 ·obtain⟨_,r,en,dn,f,l,rfl,_⟩:=h
  rfl
 ·obtain⟨hE,r,en,dn,f,l,rfl,hR,hD,hl5,k⟩:=h
  have nd:=Ij.nd
  have oz:=T.cl
  have pT:=M.word
  have pQ:=M.number
  have rn:=M.stop
  have rQ:=M.ahead
  have EG:=T.pc.cl
  have m1:=T.pc.na "kind" (by simp)
  have m3:=T.pc.na "place" (by simp)
  refine⟨_,(mV (nZ (pO pT oz hr (by decide) (ph (Cx.oB _ _ _)) (pv 0) (mU qk mW)))
   (mV (m6 (i:=3) nd rfl (Or.inl rfl) (m_ (oS (E:=E0) rQ oz hr (by decide) nj (pv 0)) rfl))
   (mV (m6 (i:=4) nd rfl (Or.inl rfl) (pO pQ oz hr (by decide) (ph (Cx.oB _ _ _)) (pv 0) (mU nM (mU (nP rH) mW))))
   (mV (pf (om BH (pv 4) (pv 2) (oH _)) (m4 (vz W rfl (Cx.oB _ _ _) hr (by decide) (mU (nP rY) (mU (pv 3) mW)))) nX)
   (mV (nZ (pO pT oz hr (by decide) (ph (Cx.oB _ _ _)) (pv 0) (mU qk mW)))
   (mV (m6 (i:=5) nd rfl (Or.inl rfl) (nN (mU (nq t6 hr (by decide) (ph (Cx.oB _ _ _)) (mU (pv 0) (mU (pv 1) (mU (nN mW) mW)))) mW)))
   (mV (rK (S_ rfl rfl (Cx.oB _ _ _) hE) (om ac4 (m_ (oS (E:=E0) rQ oz hr (by decide) nj (pv 0)) rfl) (wu Ik) (oH _)) (m4 (nZ (qQ aG a_ a0 pD (pv 5) (mU (nq t6 hr (by decide) (ph (Cx.oB _ _ _)) (mU (pv 0) (mU (pv 1) (mU (pv 5) mW)))) mW)))))
   (mV (nZ (oS rn oz hr (by decide) (ph (Cx.oB _ _ _)) (pv 0)))
   (m4 (m9 (vx qm hr (by decide) (mU (pv 4) (mU (pv 5) mW))))))))))))),?_⟩
  unfold DN at k
  obtain⟨dx,la,i,h1⟩:=hR.ins
  refine⟨_,rfl,r,dx,_,rfl,h1,rfl,hE,r,en,"team",l,rfl,hR,rf.by (λ b e=>?_) λ _ l1 e1 H1 v Xf Y1 _=>?_⟩
  ·rw[wZ e]at k;exact k
  rw[wx e1]at k
  dsimp only at k
  obtain⟨dx1,la1,i1,Y2⟩:=Xf.ins
  obtain⟨tk1,aeU,hT1⟩:=id Xf
  obtain⟨p1,t1,rfl,aeV⟩:=hT1.ahead
  refine⟨_,rfl,r,dx1,_,rfl,Y2,rfl,r,p1,t1,rfl,aeU,λ a1 ⟨dp1,ha1⟩=>⟨a1,CP,dp1,_,_,rfl,ha1,EG,m3,rfl,?_⟩⟩
  refine⟨_,rfl,r,dx1,_,rfl,Y2,rfl,hE,r,en,(1,12),l1,rfl,Xf,rf.by (λ b e=>?_) λ n l2 e2 H2 v PL Mc ev=>?_⟩
  ·have e:numAt en 1 12 l1= .error b:=e
   rw[e]at k;exact Raise.mono k Y1
  have e2:numAt en 1 12 l1= .ok (n,l2):=e2
  rw[e2]at k
  dsimp only at k
  subst ev
  have B2:=Y1.trans Mc
  refine⟨_,rfl,_,rfl,_,_,rfl,rfl,_,rfl,p8 (λ hc=>?_) λ hc=>?_⟩
  ·have hc:=of_decide_eq_true hc
   rw[if_pos (by show 24< _;omega)]at k
   refine⟨_,rfl,_,_,rfl,λ H4 d4 hd ne=>k H4 d4 ?_ (B2.trans (sD.ne ne))⟩
   rw[hd,aeV];rfl
  have hc:¬ (24-((aY (f.teams.map λ t=>t.efforts):Nat):Int))<(n:Int):=λ q=>hc (decide_eq_true q)
  rw[if_neg (by show ¬ 24< _;omega)]at k
  obtain⟨W_,la2,i2,h12⟩:=PL.ins
  refine⟨_,rfl,r,W_,_,rfl,h12,rfl,hE,r,en,"in",l2,rfl,PL,rf.by (λ b e=>?_) λ _ l3 e3 H3 v hR3 hB3 _=>?_⟩
  ·rw[wZ e]at k;exact Raise.mono k B2
  rw[wx e3]at k
  dsimp only at k
  have B3:=B2.trans hB3
  have uC:=B3.dict hD h1
  refine⟨_,rfl,_,rfl,aE _,λ p0 hp0=>?_⟩
  have s0:m5 H3 (upd H3 p0 (.lst [])):=m5.new hp0
  have st:=Fd en l3.length f [] l3
  refine⟨hE,r,en,dn,p0,[],f,l3,rfl,hR3.same s0,uC.same s0,mX,rf.by (λ b e=>?_) λ c l4 e4 H4 v Y5 Xg ev=>?_⟩
  ·rw[e]at st
   rw[st]at k;exact Raise.mono k (B3.trans (sD.of_same s0))
  subst ev
  rw[e4]at st
  dsimp only at st
  have aeW:=Af e4
  have B4:sD r H H4:=(B3.trans (sD.of_same s0)).trans Xg
  have hD4:NumOf H4 dn f:=Xg.dict (uC.same s0) (s0 _ _ (hR3.ins.choose_spec.choose_spec.choose_spec))
  refine⟨(by show 1<=ay;decide),λ ml hml=>?_⟩
  have s4:m5 H4 (upd H4 ml (.lst [.int (c:Nat)])):=m5.new hml
  refine⟨λ m σ H'=>∃(ms:List Nat) (l':cB) (fu:Nat),σ=[some (.ref r),some (.ref dn),some (.int (24-(aY (f.teams.map λ t=>t.efforts):Nat))),some (.int (p1.2:Nat)),some (.int (n:Nat)),some (.ref ml)]/\H' ml=some (.lst (nV ms))/\ms≠[]/\JU CR CP en H' r l'/\NumOf H' dn f/\sD r H H'/\m=l'.length/\ms.length+l'.length<=l3.length+1/\l'.length<fu/\fH en f (l3.length+1) [] l3=KR en f fu ms l',
   ⟨_,[c],l4,l3.length,rfl,mX,by simp,Y5.same s4,hD4.same s4,B4.trans (sD.of_same s4),rfl,by simp;omega,aeW,st⟩,?_⟩
  rintro m σ H' ⟨ms,l',fu,rfl,hm',xG,Np,ZV,hB',rfl,hlen,hfu,heq⟩
  obtain⟨tk',aeX,hT'⟩:=id Np
  obtain⟨p,t,rfl,vo⟩:=hT'.ahead
  obtain⟨dx',la',i',h1'⟩:=Np.ins
  refine⟨_,rfl,r,dx',_,rfl,h1',rfl,r,p,t,rfl,aeX,λ a ⟨dp,ha⟩=>⟨a,CP,dp,_,_,rfl,ha,EG,m1,rfl,DI _ _,_,rfl,?_⟩⟩
  rcases E_ hT' with⟨z1,z2,z3⟩|⟨z1,z2⟩
  ·rw[z1]
   refine rG ?_
   refine⟨_,rfl,r,dx',_,rfl,h1',rfl,hE,r,en,(),l',rfl,Np,rf.by (λ b e=>?_) λ _ l5 e5 H5 v Xh N_ _=>?_⟩
   ·have e:=wZ e
    rw[z2]at e;cases e
   have e5:=wx e5
   rw[z2]at e5
   cases e5
   have hr:KR en f fu ms l'= .ok (ms,l'.drop 1):=by
    cases hT' with
    |semi h=>rfl
    |fin=>cases z2
    |word h=>cases z2
    |num h=>cases z2
    |bad=>cases z2
   rw[heq,hr]at k
   dsimp only at k
   have hm5:=N_.lst hm' h1'
   refine⟨_,rfl,_,rfl,rfl,λ x dx6 H6 hx hx6 sm6=>?_⟩
   exact k H6 _ (Xh.same sm6) ((hB'.trans N_).trans (sD.of_same sm6)) ⟨x,rfl,dx6,ml,hx6,sm6 _ _ hm5,xG⟩
  ·rw[z1]
   refine s_ ?_
   obtain⟨f1,rfl⟩:∃f1,fu=f1+1:=⟨fu-1,by omega⟩
   have hr:KR en f (f1+1) ms l'=fH en f (f1+1) ms l':=by
    cases hT' with
    |semi h=>cases z2
    |fin=>rfl
    |word h=>rfl
    |num h=>rfl
    |bad=>rfl
   have EA:=Fd en f1 f ms l'
   refine⟨_,λ _ _ z=>z,_,rfl,.inl ⟨rfl,_,nA.of hm'⟩,_,rfl,_,rfl,_,rfl,hE,r,en,dn,ml,ms,f,l',rfl,Np,ZV,hm',rf.by (λ b e=>?_) λ c2 l5 e5 H5 v Xh N_ ev=>?_⟩
   ·rw[e]at EA
    rw[heq,hr,EA]at k;exact Raise.mono k hB'
   subst ev
   rw[e5]at EA
   dsimp only at EA
   have ab7:=Af e5
   have hm5:=N_.lst hm' h1'
   have hD5:=N_.dict ZV h1'
   refine⟨ml,_,_,rfl,rfl,hm5,?_,?_⟩
   ·have a1:=pC (wx e1)
    have a2:=tJ e2
    have a3:=pC (wx e3)
    rw[aa,aA];omega
   refine⟨l5.length,ab7,ms++[c2],l5,f1,rfl,?_,by simp,Xh.sN hm5 (λ EF ps h _=>FT EF h),hD5.sN hm5,?_,rfl,?_,by omega,?_⟩
   ·rw[mX,Xi]
   ·intro b o e n x
    rw[mY (λ q=>by have z:=B4 b o e n x;rw[q,hml]at z;cases z)]
    exact N_ b o (hB' b o e n x) n x
   ·simp;omega
   ·rw[heq,hr,EA]
end n_
namespace L2
theorem DO{K:ah}{a:ag}{xs:List V}{g:TG}{tb:TS}{D:Ends}{σ:L2.St}{H:Hp}(Pv:Nat->L2.St->Hp->Prop)(h0:Pv 0 σ H)(hl:∀i σ H,i<=xs.length->Pv i σ H->nA K H a xs)
  (hs:∀i x T σ H,xs[i]? =some x->Pv i σ H->H T=none->g (.ref T) σ (upd H T (.tup [.int (i:Nat),x])) λ σ2 H2=>tb { D with nx:=Pv (i+1),ct:=Pv (i+1),bk:=D.nx } σ2 H2)(hd:∀σ H,Pv xs.length σ H->D.nx σ H):
  ∃W:Nat->Nat->L2.St->Hp->Prop,(∃m,W 0 m σ H)/\∀i m σ H,W i m σ H->
   ((Ite K a).stop i H/\D.nx σ H)\/((Ite K a).go i H/\∃N:L2.St->Hp->Prop,(∀σ' H',N σ' H'->∃m',m'<m/\W (i+1) m' σ' H')/\∀x H',(Ite K a).Ht i H x H'->g x σ H' λ σ2 H2=>tb { D with nx:=N,ct:=N,bk:=D.nx } σ2 H2):=by
 refine⟨λ i m σ H=>m=xs.length-i/\i<=xs.length/\Pv i σ H,⟨xs.length,by simp,aE _,h0⟩,?_⟩
 rintro i m σ H ⟨rfl,hi,p⟩
 have q:=hl i σ H hi p
 by_cases rL:i<xs.length
 ·refine .inr ⟨⟨xs,xs[i],q,by simp[rL]⟩,Pv (i+1),λ σ' H' p'=>⟨xs.length-(i+1),by omega,rfl,rL,p'⟩,λ x H' y=>?_⟩
  obtain⟨T,z,rfl,hT,rfl,y⟩:=y
  exact hs i z T σ H (y xs q) p hT
 ·have e:i=xs.length:=by omega
  subst e
  exact .inl ⟨⟨xs,q,ax _⟩,hd σ H p⟩
theorem Tf{K:ah}{a b:ag}{xs ys:List V}{g:TG}{tb:TS}{D:Ends}{σ:L2.St}{H:Hp}(hxy:xs.length=ys.length)(Pv:Nat->L2.St->Hp->Prop)(h0:Pv 0 σ H)(hl:∀i σ H,i<=xs.length->Pv i σ H->nA K H a xs/\nA K H b ys)
  (hs:∀i x y T σ H,xs[i]? =some x->ys[i]? =some y->Pv i σ H->H T=none->g (.ref T) σ (upd H T (.tup [x,y])) λ σ2 H2=>tb { D with nx:=Pv (i+1),ct:=Pv (i+1),bk:=D.nx } σ2 H2)(hd:∀σ H,Pv xs.length σ H->D.nx σ H):
  ∃W:Nat->Nat->L2.St->Hp->Prop,(∃m,W 0 m σ H)/\∀i m σ H,W i m σ H->
   ((Itz K a b).stop i H/\D.nx σ H)\/((Itz K a b).go i H/\∃N:L2.St->Hp->Prop,(∀σ' H',N σ' H'->∃m',m'<m/\W (i+1) m' σ' H')/\∀x H',(Itz K a b).Ht i H x H'->g x σ H' λ σ2 H2=>tb { D with nx:=N,ct:=N,bk:=D.nx } σ2 H2):=by
 refine⟨λ i m σ H=>m=xs.length-i/\i<=xs.length/\Pv i σ H,⟨xs.length,by simp,aE _,h0⟩,?_⟩
 rintro i m σ H ⟨rfl,hi,p⟩
 obtain⟨q,q'⟩:=hl i σ H hi p
 by_cases rL:i<xs.length
 ·refine .inr ⟨⟨xs,ys,xs[i],ys[i],q,q',by simp[rL],af (by omega)⟩,Pv (i+1),λ σ' H' p'=>⟨xs.length-(i+1),by omega,rfl,rL,p'⟩,λ x H' y=>?_⟩
  obtain⟨T,z,z',rfl,hT,rfl,y,y'⟩:=y
  exact hs i z z' T σ H (y xs q) (y' ys q') p hT
 ·have e:i=xs.length:=by omega
  subst e
  exact .inl ⟨⟨xs,ys,q,q',.inl (ax _)⟩,hd σ H p⟩
end L2
namespace n_
def rR(en:Nat):Nat->ae->cB->Except Bad (ae×cB)
 |0,f,l=>.ok (f,l)
 |k+1,f,l=>if dC "team" l=true then(if jB<=f.teams.length then .error ⟨3,placeOf en l⟩else match DN en f l with
  | .error b=>.error b
  | .ok (t,r)=>rR en k { f with teams:=f.teams++[t] } r)else .ok (f,l)
theorem BJ(en:Nat)(f:ae):∀(k:Nat) (m:List Nat) (l:cB) (m':List Nat) (r:cB),fH en f k m l= .ok (m',r)->r.length<=l.length:=by
 intro k
 induction k with
 |zero=>intro m l m' r h;cases h;exact ax _
 |succ k ih=>
  intro m l m' r h
  rw[Fd]at h
  cases e:wz en f m l with
  |error b=>rw[e]at h;cases h
  |ok x=>
   obtain⟨c,r1⟩:=x
   rw[e]at h
   dsimp only at h
   have a1:=Af e
   unfold KR at h
   split at h
   ·cases h;simp at a1;omega
   ·have:=ih _ _ _ _ h;omega
theorem UJ{en:Nat}{f:ae}{l r:cB}{t:aJ}(h:DN en f l= .ok (t,r)):r.length<l.length:=by
 unfold DN at h
 split at h
 ·cases h
 ·rename_i l1 e1
  split at h
  ·cases h
  ·rename_i n l2 e2
   split at h
   ·cases h
   ·split at h
    ·cases h
    ·rename_i l3 e3
     split at h
     ·cases h
     ·rename_i m r' e4
      cases h
      have a1:=pC e1
      have a2:=tJ e2
      have a3:=pC e3
      have a4:=BJ en f _ _ _ _ _ e4
      omega
theorem Xj(en:Nat):∀(k:Nat) (f:ae) (l:cB),l.length<k->teamsAt en k f l=match rR en k f l with
  | .error b=>.error b
  | .ok (f',l')=>if l'.isEmpty=true then .ok f' else .error ⟨1,placeOf en l'⟩:=by
 intro k
 induction k with
 |zero=>intro f l h;omega
 |succ k ih=>
  intro f l h
  show(if l.isEmpty=true then Except.ok f else _)=_
  unfold rR
  by_cases he:l.isEmpty=true
  ·rw[if_pos he]
   have e:l=[]:=List.isEmpty_iff.mp he
   subst e
   rfl
  ·rw[if_neg he]
   by_cases hw:dC "team" l=true
   ·rw[if_pos hw]
    have e1:bM en "team" l= .ok (l.drop 1):=if_pos hw
    unfold DN
    rw[e1]
    dsimp only[Bind.bind,Except.bind]
    by_cases ht:jB<=f.teams.length
    ·rw[if_pos ht,if_pos ht]
    ·rw[if_neg ht,if_neg ht]
     cases e2:numAt en 1 12 (l.drop 1)with
     |error b=>rfl
     |ok x=>
      obtain⟨n,l2⟩:=x
      dsimp only
      by_cases hs:lE<aY (f.teams.map λ t=>t.efforts)+n
      ·rw[if_pos hs,if_pos hs]
      ·rw[if_neg hs,if_neg hs]
       cases e3:bM en "in" l2 with
       |error b=>rfl
       |ok l3=>
        dsimp only
        cases e4:fH en f (l3.length+1) [] l3 with
        |error b=>rfl
        |ok y=>
         obtain⟨m,r⟩:=y
         dsimp only
         have a1:=pC e1
         have a2:=tJ e2
         have a3:=pC e3
         have a4:=BJ en f _ _ _ _ _ e4
         exact ih _ r (by omega)
   ·rw[if_neg hw]
    have e1:bM en "team" l= .error ⟨1,placeOf en l⟩:=if_neg hw
    rw[e1]
    dsimp only[Bind.bind,Except.bind]
    rw[if_neg he]
theorem Xk(oF:List (Key×V))(k:Key)(v:V):(putK oF k v).length<=oF.length+1:=by
 unfold putK
 split
 ·rw[aa];omega
 ·rw[aw];simp
theorem Xl{cs:List bD}{i:Nat}{c:bD}(hn:(cs.map (·.name)).Nodup)(hc:cs[i]? =some c)(nm:List Nat):
  (if(Sum.inr (strOf nm):Key)=Sum.inr (strOf c.name)then some (V.int (i:Nat))else((cs.take i).findIdx? λ c=>c.name == nm).map λ(i:Nat)=>V.int (i:Int))=((cs.take i++(some c).toList).findIdx? λ c=>c.name == nm).map λ(i:Nat)=>V.int (i:Int):=by
 have hi:i<cs.length:=(List.getElem?_eq_some_iff.mp hc).1
 rw[List.findIdx?_append]
 have e1:(some c).toList=[c]:=rfl
 rw[e1,List.findIdx?_singleton,bX,fM (e_ hi)]
 by_cases q:nm=c.name
 ·have hb:(c.name == nm)=true:=by rw[q];exact beq_self_eq_true _
  have h0:(cs.take i).findIdx? (λ c=>c.name == nm)=none:=by
   rw[List.findIdx?_eq_none_iff]
   intro d hd
   rw[beq_eq_false_iff_ne]
   intro e
   obtain⟨j,hj,ej⟩:=cy hd
   rw[bX]at hj
   rw[List.getElem_take]at ej
   have a1:(cs.map (·.name))[j]? =some c.name:=by rw[ak,af (by omega),ej];exact congrArg some (e.trans q)
   have a2:(cs.map (·.name))[i]? =some c.name:=by rw[ak,hc];rfl
   have:=adB hn a1 a2
   omega
  rw[if_pos (by rw[q]),h0,hb]
  simp
 ·have hb:(c.name == nm)=false:=beq_eq_false_iff_ne.mpr (λ z=>q z.symm)
  rw[if_neg (λ z=>q (Bj (Sum.inr.inj z))),hb]
  simp
theorem tK(l:List Nat):((l.map λ(n:Nat)=>(n:Int)).sum)=((aY l:Nat):Int):=by
 have step:∀(l:List Nat) (a:Nat),((l.foldl (λ a b=>a+b) a:Nat):Int)=(a:Int)+(l.map λ(n:Nat)=>(n:Int)).sum:=by
  intro l
  induction l with
  |nil=>intro a;simp
  |cons n r ih=>intro a;rw[cp,ih,aH,iA];omega
 unfold aY
 rw[step l 0];simp
def DP(CT:ag)(H:Hp)(as:List ag)(ts:List aJ):Prop:=as.length=ts.length/\∀(j:Nat) (a:ag) (t:aJ),as[j]? =some a->ts[j]? =some t->rX CT H a t
inductive Ag (CR CP C CC CT:ag) (vs:List V) (H:Hp) (Q:VK) (E:XK):Prop
 |mk (_:Calm E) (r en lc:Nat) (as:List ag) (f:ae) (l:cB):vs=[.ref r,.ref lc]->JU CR CP en H r l->H lc=some (.lst (as.map V.ref))->qI CC H as f.cells->(f.cells.map (·.name)).Nodup->f.cells.length<=16->f.teams=[]->l.length<=5000->rf CR CP C en r H Q E (λ(g:ae) H' v=>∃lt bs,v= .ref lt/\H' lt=some (.lst (bs.map V.ref))/\DP CT H' bs g.teams) (rR en (l.length+1) f l)->Ag CR CP C CC CT vs H Q E
abbrev Il:List Str:=["reader","cells","number_of","number","cell","teams","together","team"]
theorem FU:m7 Il ["reader","cells"] (mZ yc):=qf
theorem rX.but{r dx a i x:Nat}{H H':Hp}{t:aJ}(b:sD r H H')(h:rX CT H x t)(hr:H r=some (.ins CR dx (N2 a i))):rX CT H' x t:=by
 obtain⟨d,ml,e1,e2,e3⟩:=h
 exact⟨d,ml,b x _ e1 (λ e=>by rw[e,hr]at e1;cases e1) (λ φ q=>by cases q),b.lst e2 hr,e3⟩
theorem rX.same{x:Nat}{H H':Hp}{t:aJ}(h:rX CT H x t)(sm:m5 H H'):rX CT H' x t:=let⟨d,ml,e1,e2,e3⟩:=h;⟨d,ml,sm _ _ e1,sm _ _ e2,e3⟩
theorem rX.sN{x lt:Nat}{H:Hp}{t:aJ}{bs:List ag}{ys:List V}(h:rX CT H x t)(hl:H lt=some (.lst (bs.map V.ref))):rX CT (upd H lt (.lst ys)) x t:=by
 obtain⟨d,ml,e1,e2,e3⟩:=h
 refine⟨d,ml,by rw[mY (λ e=>by rw[e,hl]at e1;cases e1)];exact e1,?_,e3⟩
 rw[mY (λ e=>?_)]
 ·exact e2
 ·rw[e,hl]at e2
  have z:=HO.lst.inj (Option.some.inj e2)
  cases hb:bs with
  |nil=>
   rw[hb]at z
   cases hc:t.cells with
   |nil=>exact e3 hc
   |cons c r=>rw[hc]at z;cases z
  |cons b r=>exact FT (ms:=t.cells) bs (by rw[hb];simp) z.symm
theorem Od(F:pG K "read_teams" "read_teams" yc f fd)(T:vA P w K mg base CR CP)(W:tZ P w K mg base C)(M:RdM P w K mg base CR CP C)(ow:Rec P w K mg base "Cell" CC Fb)(qm:Rec P w K mg base "Team" CT J8)
  (Ah:rA P w K mg base (Cc P w C) 6 "read_team" ["reader","number_of","efforts_left"] (CJ CR CP C CT))(qi:mg "enumerate"=none)(o9:mg "len"=none)(xK:mg "sum"=none)(yn:oC mg "MOST_TEAMS" 6)(pB:oC mg "TOLD_OR_FULL" 3)(qB:oC mg "MOST_EFFORTS_TOGETHER" 24):
  nO P w K mg base (Cc P w C) 7 f fd ["reader","cells"] (Ag CR CP C CC CT):=by
 refine F.VW FU (λ vs H Q E h=>?_) (λ vs H Q E h=>h.1) (λ oU A outer s H vs Q E hr h=>?_)
 ·obtain⟨_,r,en,lc,as,f,l,rfl,_⟩:=h
  rfl
 ·obtain⟨hE,r,en,lc,as,f,l,rfl,hR,hL,hC,hnn,GX,hft,hl5,k⟩:=h
  have nd:=FU.nd
  have oz:=T.cl
  have vd:=M.isWord
  have rQ:=M.ahead
  have EG:=T.pc.cl
  have m3:=T.pc.na "place" (by simp)
  refine⟨_,(mV (m6 (i:=2) nd rfl (Or.inl rfl) Wv)
   (mV (qw (S_ rfl rfl (Cx.oB _ _ _) hE) rfl (Dv rfl qi (mU (pv 1) mW)) (zN rfl (oG (nr (i:=3) nd rfl (Or.inl rfl)) (oG (nr (i:=4) nd rfl (Or.inl rfl)) rB))) (m4 (ZC (SR hr) (pv 2) (m_ (pv 4) rfl) (pv 3) rfl)))
   (mV (m6 (i:=5) nd rfl (Or.inl rfl) (nN mW))
   (mV (rK (S_ rfl rfl (Cx.oB _ _ _) hE) (tF (pO (E:=E0) vd oz hr (by decide) nj (pv 0) (mU qk mW))) (mV (pf (om ub (nJ nL rfl o9 aX (mU (pv 5) mW)) (nP yn) (oH _)) (m4 (vz W rfl (Cx.oB _ _ _) hr (by decide) (mU (nP pB) (mU (m_ (oS (E:=E0) rQ oz hr (by decide) nj (pv 0)) rfl) mW)))) nX)
   (mV (m6 (i:=6) nd rfl (Or.inl rfl) (nJ (B0 rfl) rfl xK iJ (mU (qp (own:=[("team",7)]) rfl nd (oJ (pv 5)) (by exact pz.of (N:=Il) (sc:=mZ yc) (by decide +kernel)) (λ _ _ _ _ _=>by exact(nr (i:=7) nd rfl (Or.inl rfl))) (λ _ _ _ _ _=>by exact oP) (λ _ _ _ _ _=>by exact(xY K (pv 7)))) mW)))
   (m4 (nZ (qQ aG a_ a0 pD (pv 5) (mU (nq Ah hr (by decide) (ph (Cx.oB _ _ _)) (mU (pv 0) (mU (pv 2) (mU (og sF (nP qB) (pv 6)) mW)))) mW)))))))
   (m4 (m9 (pv 5))))))),?_⟩
  refine λ dn hdn=>?_
  have s0:m5 H (upd H dn (.dK [])):=m5.new hdn
  refine⟨_,rfl,lc,_,rfl,nA.of (s0 _ _ hL),DO (K:=K) (a:=lc) (xs:=as.map V.ref) (λ i σ H'=>∃(o3 o4:Option V) (oF:List (Key×V)),σ=[some (.ref r),some (.ref lc),some (.ref dn),o3,o4,none,none,none]/\m5 H H'/\H' dn=some (.dK oF)/\oF.length<=i/\∀nm:List Nat,vp oF (Sum.inr (strOf nm))=((f.cells.take i).findIdx? λ c=>c.name == nm).map λ(i:Nat)=>V.int (i:Int))
   ⟨none,none,[],rfl,s0,mX,ax _,λ nm=>by simp[Wq]⟩ (λ i σ H' _ ⟨_,_,_,_,sm,_⟩=>nA.of (sm _ _ hL)) ?_ ?_⟩
  ·rintro i x T σ H' hx ⟨o3,o4,oF,rfl,sm,hd,hk,hv⟩ hT
   rw[ak]at hx
   cases q1:as[i]? with
   |none=>rw[q1]at hx;cases hx
   |some aj=>
    rw[q1]at hx;cases hx
    have hi:i<f.cells.length:=by rw[<-hC.1];exact(List.getElem?_eq_some_iff.mp q1).1
    have q2:f.cells[i]? =some f.cells[i]:=af hi
    obtain⟨dc,ec⟩:=hC.2 i aj _ q1 q2
    have dT:dn≠T:=λ q=>by rw[q,hT]at hd;cases hd
    have VR:upd H' T (.tup [.int (i:Nat),.ref aj]) dn=some (.dK oF):=by rw[mY dT];exact hd
    have sT:m5 H' (upd H' T (.tup [.int (i:Nat),.ref aj])):=m5.new hT
    refine⟨T,_,rfl,BG.of mX,rfl,_,_,rfl,_,_,rfl,rfl,?_⟩
    refine⟨_,rfl,_,rfl,_,rfl,aj,CC,dc,_,_,rfl,sT _ _ (sm _ _ ec),ow.cl,ow.na "name" (by simp),rfl,dn,_,rfl,Wt.k (k:=Sum.inr (strOf f.cells[i].name)) VR (by rw[aA];omega),?_⟩
    refine⟨_,_,_,rfl,λ b o e=>?_,mX,?_,λ nm=>?_⟩
    ·rw[mY (nE e hdn)];exact sT _ _ (sm _ _ e)
    ·have z:=Xk oF (Sum.inr (strOf f.cells[i].name)) (V.int (i:Nat))
     omega
    ·rw[Ws,hv nm,b8,q2]
     exact Xl hnn q2 nm
  ·rintro σ H' ⟨o3,o4,oF,rfl,sm,hd,hk,hv⟩
   rw[aa,hC.1,dj]at hv
   have hN:NumOf H' dn f:=⟨oF,hd,hv⟩
   clear hk hv hd
   refine⟨aE _,λ lt rL=>?_⟩
   have s1:m5 H' (upd H' lt (.lst [])):=m5.new rL
   have ltH:∀b o,H b=some o->b≠lt:=λ b o e=>nE (sm _ _ e) rL
   refine⟨λ m σ H2=>∃(o6:Option V) (bs:List ag) (ts:List aJ) (l':cB) (fu:Nat),σ=[some (.ref r),some (.ref lc),some (.ref dn),o3,o4,some (.ref lt),o6,none]/\H2 lt=some (.lst (bs.map V.ref))/\DP CT H2 bs ts/\JU CR CP en H2 r l'/\NumOf H2 dn f/\sD r H H2/\m=l'.length/\ts.length<=6/\l'.length<fu/\l'.length<=5000/\rR en (l.length+1) f l=rR en fu { f with teams:=ts } l',
    ⟨_,none,[],[],l,l.length+1,rfl,mX,⟨rfl,λ j a t e1=>by simp at e1⟩,(hR.same sm).same s1,hN.same s1,(sD.of_same sm).trans (sD.of_same s1),rfl,aE _,cM _,hl5,by rw[<-hft]⟩,?_⟩
   rintro m σ H2 ⟨o6,bs,ts,l',fu,rfl,hb2,LS,PL,hN2,Mc,rfl,h6,hfu,GS,heq⟩
   obtain⟨tk,hRA,hT⟩:=id PL
   obtain⟨p,t,rfl,vo⟩:=hT.ahead
   obtain⟨dx,la,i,h1⟩:=PL.ins
   obtain⟨f1,rfl⟩:∃f1,fu=f1+1:=⟨fu-1,by omega⟩
   have st:rR en (f1+1) { f with teams:=ts } l'=if dC "team" l'=true then(if jB<=ts.length then .error ⟨3,placeOf en l'⟩else match DN en { f with teams:=ts } l' with
    | .error b=>.error b
    | .ok (t,r)=>rR en f1 { f with teams:=ts++[t] } r)else .ok ({ f with teams:=ts },l'):=rfl
   refine⟨_,rfl,r,dx,_,rfl,h1,rfl,r,_,p,t,rfl,hRA,_,rfl,?_⟩
   rw[hT.isW]
   refine p8 (λ hw=>?_) λ hw=>?_
   ·rw[if_pos hw]at st
    refine⟨_,λ _ _ z=>z,_,rfl,lt,_,rfl,.inl (nA.of hb2),rfl,_,rfl,p8 (λ hc=>?_) λ hc=>?_⟩
    ·have hc:=V.int.inj (of_decide_eq_true hc)
     rw[aa,LS.1]at hc
     rw[if_pos (by show 6<=_;omega)]at st
     rw[heq,st]at k
     refine⟨_,rfl,r,dx,_,rfl,h1,rfl,r,p,t,rfl,hRA,λ a ⟨dp,ha⟩=>⟨a,CP,dp,_,_,rfl,ha,EG,m3,rfl,_,_,rfl,λ H4 d4 hd ne=>k H4 d4 ?_ (Mc.trans (sD.ne ne))⟩⟩
     rw[hd,vo];rfl
    ·have hc:¬ ((bs.map V.ref).length:Int)=6:=λ q=>hc (decide_eq_true (congrArg V.int q))
     rw[aa,LS.1]at hc
     rw[if_neg (by show ¬ 6<=_;omega)]at st
     refine⟨_,rfl,lt,rfl,⟨_,nA.of hb2⟩,?_⟩
     refine oV (oQ (K:=K) (xs:=bs.map V.ref) (nA.of hb2)) (ts.map λ t=>V.int (t.efforts:Nat)) (by rw[aa,aa,LS.1]) (by rw[aa,LS.1,aA];omega) (λ j x y H3 R3 N3 hy pE hF kk=>?_) (λ D H3 hD pE uC=>?_)
     ·rw[ak]at hF hy
      cases q1:bs[j]? with
      |none=>rw[q1]at hF;cases hF
      |some aj=>
       cases q2:ts[j]? with
       |none=>rw[q2]at hy;cases hy
       |some tj=>
        rw[q1]at hF;rw[q2]at hy
        cases hF;cases hy
        obtain⟨dc,ml,ec,_⟩:=LS.2 j aj tj q1 q2
        exact⟨rfl,sy ⟨_,rfl,aj,CT,dc,_,_,rfl,pE _ _ ec,qm.cl,qm.na "efforts" (by simp),rfl,kk H3 (m5.refl _)⟩⟩
     have aeY:(ts.map λ t=>((t.efforts:Nat):Int)).sum=((aY (ts.map λ t=>t.efforts):Nat):Int):=by
      rw[<-tK,aW];rfl
     refine⟨D,ts.map (λ t=>((t.efforts:Nat):Int)),rfl,nA.of (by rw[uC,aW];rfl),?_⟩
     rw[aeY]
     have B3:sD r H H3:=Mc.trans (sD.of_same pE)
     have hb3:=pE _ _ hb2
     have Y4:=pE _ _ h1
     refine⟨_,rfl,.inl ⟨rfl,_,nA.of hb3⟩,_,rfl,_,rfl,_,rfl,_,_,rfl,rfl,hE,r,en,dn,{ f with teams:=ts },l',rfl,PL.same pE,hN2.same pE,GS,rf.by (λ b e=>?_) λ tm l5 e5 H5 v Xh N_ ⟨a5,ev,ta⟩=>?_⟩
     ·rw[e]at st
      rw[heq,st]at k;exact Raise.mono k B3
     subst ev
     rw[e5]at st
     dsimp only at st
     have ab7:=UJ e5
     have hb5:=N_.lst hb3 Y4
     refine⟨lt,_,_,rfl,rfl,hb5,?_,?_⟩
     ·rw[aa,LS.1,aA];omega
     have hT5:DP CT H5 bs ts:=⟨LS.1,λ j a t e1 e2=>((LS.2 j a t e1 e2).same pE).but N_ Y4⟩
     refine⟨l5.length,ab7,_,bs++[a5],ts++[tm],l5,f1,rfl,?_,?_,Xh.sN hb5 ?_,(N_.dict (hN2.same pE) Y4).sN hb5,?_,rfl,?_,by omega,by omega,?_⟩
     ·rw[mX,aF];rfl
     ·refine⟨by simp[LS.1],λ j a t e1 e2=>?_⟩
      by_cases hj:j<bs.length
      ·rw[bp hj]at e1
       rw[bp (by rw[<-LS.1];exact hj)]at e2
       exact(hT5.2 j a t e1 e2).sN hb5
      ·rw[bf (by omega)]at e1
       rw[bf (by rw[<-LS.1];omega)]at e2
       have e:j-bs.length=0:=by
        obtain⟨z,_⟩:=List.getElem?_eq_some_iff.mp e1
        simp at z;omega
       rw[e]at e1
       rw[<-LS.1,e]at e2
       cases e1;cases e2
       exact ta.sN hb5
     ·intro EF ps h h2 e
      have e:=Ae e
      subst e
      match bs,ts,ps,hT5,h,h2 with
      |b::br,t::tr,q::pr,hT5,_,h2=>
       obtain⟨d1,ml,e1,_⟩:=hT5.2 0 b t rfl rfl
       obtain⟨d2,e2⟩:=h2.2 0 b q rfl rfl
       rw[e1]at e2
       cases e2
      |b::br,t::tr,[],hT5,_,h2=>exact absurd h2.1 (by simp)
      |b::br,[],_,hT5,_,h2=>exact absurd hT5.1 (by simp)
     ·intro b o e n x
      rw[mY (ltH b o e)]
      exact N_ b o (B3 b o e n x) n x
     ·rw[aw];simp;omega
     ·rw[heq,st]
   ·rw[if_neg hw]at st
    rw[heq,st]at k
    exact⟨_,rfl,k H2 (.ref lt) PL Mc ⟨lt,bs,rfl,hb2,LS⟩⟩
theorem Oe(t:List Nat)(i lo hi:Nat):(t.drop i).take (o_ t i lo hi)=(t.drop i).takeWhile λ c=>decide (lo<=c) && decide (c<=hi):=by
 unfold o_
 exact(List.prefix_iff_eq_take.mp (gU _)).symm
theorem Fe{t:List Nat}{i c:Nat}(h:t[i]? =some c)(h1:¬ (97<=c/\c<=122))(h2:¬ (48<=c/\c<=57)):nW t i=i+1:=by
 unfold nW
 have a1:=rk (lo:=97) (hi:=122) h
 have a2:=rk (lo:=48) (hi:=57) h
 rw[if_neg h1]at a1
 rw[if_neg h2]at a2
 omega
theorem ZW(t:List Nat):∀(n i f:Nat),t.length-i<=n->n<f->i<=t.length->tI t.length (qd t (t.length-i) i++[(.fin,t.length)]) (iE f i (t.drop i)):=by
 intro n
 induction n with
 |zero=>
  intro i f h1 h2 h3
  have e:i=t.length:=by omega
  subst e
  obtain⟨f',rfl⟩:∃f',f=f'+1:=⟨f-1,by omega⟩
  rw[qh (ax _),fq]
  exact .fin
 |succ n ih=>
  intro i f h1 h2 h3
  obtain⟨f',rfl⟩:∃f',f=f'+1:=⟨f-1,by omega⟩
  by_cases hi:i<t.length
  ·have E8:t[i]? =some t[i]:=af hi
   have BK:t.drop i=t[i]::t.drop (i+1):=d8 hi
   rw[DG E8]
   have eb:=vy hi
   have next:=ih (nW t i) f' (by omega) (by omega) eb.2
   generalize hc:t[i]=c at E8 BK
   rw[BK]
   show tI _ _ (if c=32\/c=10 then _ else _)
   by_cases hb:c=32\/c=10
   ·rw[if_pos hb,if_pos hb,gQ]
    rw[Fe E8 (by omega) (by omega)]at next
    rw[Fe E8 (by omega) (by omega)]
    exact next
   ·rw[if_neg hb,if_neg hb]
    show tI _ ((pieceAt t i c,i)::(qd t (t.length-nW t i) (nW t i)++[(.fin,t.length)])) _
    by_cases hs:c=59
    ·rw[if_pos hs]
     have e:pieceAt t i c= .stop:=by unfold pieceAt;rw[if_neg (by omega),if_neg (by omega),if_pos hs]
     rw[e]
     rw[Fe E8 (by omega) (by omega)]at next ⊢
     exact .semi next
    ·rw[if_neg hs]
     by_cases hl:97<=c/\c<=122
     ·have hL:ff c=true:=by unfold ff;simp[hl]
      rw[if_pos hL]
      have e0:=HY E8 hl
      have ew:(c::t.drop (i+1)).takeWhile ff=(t.drop i).take (o_ t i 97 122):=by rw[Oe,<-BK];rfl
      have el:((c::t.drop (i+1)).takeWhile ff).length=o_ t i 97 122:=by rw[<-BK];rfl
      have ep:pieceAt t i c=Aa t i (nW t i):=if_pos hl
      rw[ep]
      dsimp only
      rw[el]
      unfold Aa
      rw[show nW t i-i=o_ t i 97 122 by omega]
      by_cases h8:8<o_ t i 97 122
      ·rw[if_pos h8,if_pos h8];exact .bad
      ·rw[if_neg h8,if_neg h8,ew,<-BK,eW]
       rw[e0]at next
       rw[e0]
       exact .word next
     ·have hL:¬ ff c=true:=by unfold ff;simp;omega
      rw[if_neg hL]
      by_cases hd:48<=c/\c<=57
      ·have hD:fS c=true:=by unfold fS;simp[hd]
       rw[if_pos hD]
       have e0:=KH E8 hd
       have ew:(c::t.drop (i+1)).takeWhile fS=(t.drop i).take (o_ t i 48 57):=by rw[Oe,<-BK];rfl
       have el:((c::t.drop (i+1)).takeWhile fS).length=o_ t i 48 57:=by rw[<-BK];rfl
       have ep:pieceAt t i c=HW t i (nW t i):=by unfold pieceAt;rw[if_neg hl,if_pos hd]
       rw[ep]
       dsimp only
       rw[el]
       unfold HW
       rw[show nW t i-i=o_ t i 48 57 by omega,E8]
       by_cases h4:4<o_ t i 48 57\/(1<o_ t i 48 57/\c=48)
       ·rw[if_pos h4,if_pos (by rcases h4 with z|⟨z1,z2⟩;exact .inl z;exact .inr ⟨z1,congrArg some z2⟩)];exact .bad
       ·rw[if_neg h4,if_neg (by rintro(z|⟨z1,z2⟩);exact h4 (.inl z);exact h4 (.inr ⟨z1,Option.some.inj z2⟩)),ew,<-BK,eW]
        rw[e0]at next
        rw[e0]
        exact .num next
      ·have hD:¬ fS c=true:=by unfold fS;simp;omega
       rw[if_neg hD]
       have ep:pieceAt t i c= .bad:=by unfold pieceAt;rw[if_neg hl,if_neg hd,if_neg hs]
       rw[ep];exact .bad
  ·have e:i=t.length:=by omega
   subst e
   rw[qh (ax _),fq]
   exact .fin
theorem ZX(t:List Nat):tI t.length (CD t) (iE (t.length+1) 0 t):=by
 have h:=ZW t t.length 0 (t.length+1) (by omega) (cM _) (aE _)
 simpa [CD]using h
theorem vB:∀(f i:Nat) (t:List Nat),(iE f i t).length<=f
 |0,_,_=>ax _
 |_+1,_,[]=>aE _
 |f+1,i,c::t=>by
  show(if c=32\/c=10 then _ else _:cB).length<=_
  split
  ·have:=vB f (i+1) t;omega
  ·split
   ·have:=vB f (i+1) t;simp;omega
   ·split
    ·dsimp only
     split
     ·simp
     ·have:=vB f (i+((c::t).takeWhile ff).length) ((c::t).drop ((c::t).takeWhile ff).length);simp at this ⊢;omega
    ·split
     ·dsimp only
      split
      ·simp
      ·have:=vB f (i+((c::t).takeWhile fS).length) ((c::t).drop ((c::t).takeWhile fS).length);simp at this ⊢;omega
     ·simp
inductive yo (K:ah) (CR CP:ag) (vs:List V) (H:Hp) (Q:VK) (Ex:XK):Prop
 |mk (x dx a:ag) (t:List Nat):vs=[.ref x,.ref a]->H x=some (.ins CR dx [])->nA K H a (nV t)->t.length<=2000->(∀H',N6 CR CP H' x (CD t)->(∀b o,H b=some o->b≠x->H' b=some o)->Q .qt H')->yo K CR CP vs H Q Ex
theorem Me:m7 ["self","text"] ["self","text"] (mZ zX):=qf
theorem Mf(F:pG K "__init__" "Reader.__init__" zX f fd)(T:vA P w K mg base CR CP)(Xm:rA P w K mg base oE 5 "cut" ["text"] (WY K CP)):nO P w K mg base oE 6 f fd ["self","text"] (yo K CR CP):=by
 refine F.ok Me (λ vs H Q E h=>?_) (λ oU A outer s H vs Q E hr h=>?_)
 ·obtain⟨x,dx,a,t,rfl,_⟩:=h
  rfl
 ·obtain⟨x,dx,a,t,rfl,hx,hs,ht,k⟩:=h
  refine⟨_,mV (pS (pv 0) (nq (E:=E0) Xm hr (by decide) nj (mU (pv 1) mW)) rfl) (m4 (pS (pv 0) nM rfl)),?_⟩
  refine⟨_,rfl,a,t,rfl,hs,ht,λ H1 p as sm hp hf J7 pa=>?_⟩
  have px:p≠x:=λ e=>by rw[e,hx]at hp;cases hp
  refine⟨_,rfl,x,CR,dx,_,rfl,sm _ _ hx,T.cl,T.n1,(by show 0<1000;decide),_,rfl,x,CR,dx,_,rfl,mX,T.cl,T.n2,(by show 1<1000;decide),?_⟩
  refine k _ ⟨dx,p,0,as,CD t,?_,?_,pa.same λ y o hy e=>?_,rfl,aE _⟩ λ b o e n=>?_
  ·rw[mX];rfl
  ·rw[mY px,mY px];exact J7
  ·have yx:y≠x:=λ q=>by have:=hf y hy;rw[q,hx]at this;cases this
   rw[mY yx,mY yx];exact e
  ·rw[mY n,mY n];exact sm _ _ e
structure Xn(parts:Nat)(c:bD):Prop where
 weight:c.weight<=1000
 finds:c.finds<=parts
 time:1<=c.time/\c.time<=20
structure CellsOk(f:ae):Prop where
 nd:(f.cells.map (·.name)).Nodup
 len:f.cells.length<=16
 each:∀c∈f.cells,Xn f.parts c
theorem Ai{en lo hi:Nat}{l r:cB}{n:Nat}(h:numAt en lo hi l= .ok (n,r)):lo<=n/\n<=hi:=by
 unfold jz at h
 split at h
 ·split at h
  ·rename_i hc;cases h;exact hc
  ·cases h
 ·cases h
theorem Xo{en:Nat}{f:ae}{l r:cB}{c:bD}(h:xJ en f l= .ok (c,r)):Xn f.parts c/\c.name∉f.cells.map (·.name):=by
 unfold xJ at h
 cases e1:bM en "cell" l with
 |error b=>rw[e1]at h;cases h
 |ok l1=>
  rw[e1]at h
  dsimp only[Bind.bind,Except.bind]at h
  cases e2:nameAt en l1 with
  |error b=>rw[e2]at h;cases h
  |ok x=>
   obtain⟨n,l2⟩:=x
   rw[e2]at h
   dsimp only at h
   split at h
   ·cases h
   ·rename_i hc
    cases e3:bM en "weight" l2 with
    |error b=>rw[e3]at h;cases h
    |ok l3=>
     rw[e3]at h
     dsimp only at h
     cases e4:numAt en 0 d9 l3 with
     |error b=>rw[e4]at h;cases h
     |ok x4=>
      obtain⟨n4,l4⟩:=x4
      rw[e4]at h
      dsimp only at h
      cases e5:bM en "finds" l4 with
      |error b=>rw[e5]at h;cases h
      |ok l5=>
       rw[e5]at h
       dsimp only at h
       cases e6:numAt en 0 f.parts l5 with
       |error b=>rw[e6]at h;cases h
       |ok x6=>
        obtain⟨n6,l6⟩:=x6
        rw[e6]at h
        dsimp only at h
        cases e7:bM en "time" l6 with
        |error b=>rw[e7]at h;cases h
        |ok l7=>
         rw[e7]at h
         dsimp only at h
         cases e8:numAt en 1 fm l7 with
         |error b=>rw[e8]at h;cases h
         |ok x8=>
          obtain⟨n8,l8⟩:=x8
          rw[e8]at h
          dsimp only at h
          cases e9:semi en l8 with
          |error b=>rw[e9]at h;cases h
          |ok l9=>
           rw[e9]at h
           dsimp only at h
           cases h
           refine⟨⟨(Ai e4).2,(Ai e6).2,Ai e8⟩,λ q=>hc (.inl ?_)⟩
           obtain⟨d,hd,ed⟩:=List.mem_map.mp q
           unfold cG
           rw[j9,dI]
           exact⟨d,hd,beq_iff_eq.mpr ed⟩
theorem CK(en:Nat):∀(k:Nat) (f:ae) (l:cB) (g:ae) (r:cB),l.length<k->CellsOk f->fN en k f l= .ok (g,r)->CellsOk g/\g.parts=f.parts/\g.teams=f.teams/\g.cells≠[]/\r.length<=l.length:=by
 intro k
 induction k with
 |zero=>intro f l g r h0;omega
 |succ k ih=>
  intro f l g r h0 hf h
  rw[yl]at h
  split at h
  ·rename_i hc
   cases h
   exact⟨hf,rfl,rfl,λ q=>by rw[q]at hc;simp at hc,ax _⟩
  ·cases e:xJ en f l with
   |error b=>rw[e]at h;cases h
   |ok x=>
    obtain⟨c,r1⟩:=x
    rw[e]at h
    dsimp only at h
    obtain⟨a1,a2⟩:=Ii e
    obtain⟨b1,b2⟩:=Xo e
    have hf':CellsOk { f with cells:=f.cells++[c] }:=by
     refine⟨?_,by simp;omega,λ d hd=>?_⟩
     ·show(j8 _ (f.cells++[c])).Nodup
      rw[aF,kS]
      refine⟨hf.nd,by simp,λ x hx y hy=>?_⟩
      simp at hy
      subst hy
      exact λ q=>b2 (q ▸ hx)
     ·rcases List.mem_append.mp hd with q|q
      ·exact hf.each d q
      ·simp at q;subst q;exact b1
    by_cases hk:r1.length<k
    ·obtain⟨z1,z2,z3,z4,z5⟩:=ih _ _ _ _ hk hf' h
     exact⟨z1,z2,z3,z4,by omega⟩
    ·omega
structure Mg(n:Nat)(t:aJ):Prop where
 efforts:1<=t.efforts/\t.efforts<=12
 ne:t.cells≠[]
 nd:t.cells.Nodup
 lt:∀c∈t.cells,c<n
structure Mh(f:ae):Prop where
 len:f.teams.length<=6
 tot:aY (f.teams.map λ t=>t.efforts)<=24
 each:∀t∈f.teams,Mg f.cells.length t
theorem Mi(en:Nat)(f:ae):∀(k:Nat) (m:List Nat) (l:cB) (m':List Nat) (r:cB),0<k->l.length<k->m.Nodup->(∀c∈m,c<f.cells.length)->fH en f k m l= .ok (m',r)->m'≠[]/\m'.Nodup/\∀c∈m',c<f.cells.length:=by
 intro k
 induction k with
 |zero=>intro m l m' r h0;omega
 |succ k ih=>
  intro m l m' r _ hk ZY ZZ h
  show m'≠[]/\_
  change (nameAt en l >>= λ n=>_)=_ at h
  cases e:nameAt en l with
  |error b=>rw[e]at h;cases h
  |ok x=>
   obtain⟨n,r1⟩:=x
   rw[e]at h
   dsimp only[Bind.bind,Except.bind]at h
   cases e2:cG f n.2 with
   |none=>rw[e2]at h;cases h
   |some c=>
    rw[e2]at h
    dsimp only at h
    have rL:c<f.cells.length:=by
     unfold cG at e2
     exact(List.findIdx?_eq_some_iff_getElem.mp e2).1
    split at h
    ·cases h
    ·rename_i hc
     have VT:c∉m:=λ q=>hc (List.contains_iff_mem.mpr q)
     have g1:(m++[c]).Nodup:=by
      rw[kS]
      refine⟨ZY,by simp,λ x hx y hy=>?_⟩
      simp at hy;subst hy
      exact λ q=>VT (q ▸ hx)
     have g2:∀d∈m++[c],d<f.cells.length:=λ d hd=>by
      rcases List.mem_append.mp hd with q|q
      ·exact ZZ d q
      ·simp at q;subst q;exact rL
     have a1:=CH e
     split at h
     ·cases h;exact⟨by simp,g1,g2⟩
     ·by_cases q:0<k
      ·exact ih _ _ _ _ q (by omega) g1 g2 h
      ·omega
theorem CL(l:List Nat)(n:Nat):aY (l++[n])=aY l+n:=by
 unfold aY
 rw[gn];rfl
theorem Xp{en:Nat}{f:ae}{l r:cB}{t:aJ}(h:DN en f l= .ok (t,r)):Mg f.cells.length t/\aY (f.teams.map λ t=>t.efforts)+t.efforts<=24:=by
 unfold DN at h
 split at h
 ·cases h
 ·rename_i l1 e1
  split at h
  ·cases h
  ·rename_i n l2 e2
   split at h
   ·cases h
   ·rename_i hs
    split at h
    ·cases h
    ·rename_i l3 e3
     split at h
     ·cases h
     ·rename_i m r' e4
      cases h
      obtain⟨z1,z2,z3⟩:=Mi en f _ _ _ _ _ (mx _) (cM _) eU (λ c hc=>absurd hc (by simp)) e4
      have:¬ 24< _:=hs
      exact⟨⟨Ai e2,z1,z2,z3⟩,by dsimp only;omega⟩
theorem CM(en:Nat):∀(k:Nat) (f:ae) (l:cB) (g:ae) (r:cB),Mh f->rR en k f l= .ok (g,r)->Mh g/\g.parts=f.parts/\g.cells=f.cells:=by
 intro k
 induction k with
 |zero=>intro f l g r hf h;cases h;exact⟨hf,rfl,rfl⟩
 |succ k ih=>
  intro f l g r hf h
  unfold rR at h
  split at h
  ·split at h
   ·cases h
   ·rename_i ht
    split at h
    ·cases h
    ·rename_i t r1 e
     obtain⟨b1,b2⟩:=Xp e
     have ht:¬ 6<=_:=ht
     obtain⟨z1,z2,z3⟩:=ih _ _ _ _ ⟨by simp;omega,by rw[aF];show aY (_++[_])<=24;rw[CL];exact b2,λ t' h'=>by
      rcases List.mem_append.mp h' with q|q
      ·exact hf.each t' q
      ·simp at q;subst q;exact b1⟩ h
     exact⟨z1,z2,z3⟩
  ·cases h;exact⟨hf,rfl,rfl⟩
theorem QF:m7 ["self","name","weight","finds","time"] ["self","name","weight","finds","time"] (mZ EX):=qf
theorem QG{f C:ag}{fd:bP}(F:pG K "__init__" "Cell.__init__" EX f fd)(cl:G4 K C)(na:∀g∈Fb,oA K C g):nO P w K mg base oE 1 f fd ["self","name","weight","finds","time"] (FO C Fb):=by
 refine F.ok QF (λ vs H Q E h=>?_) (λ oU A outer s H vs Q E hr h=>?_)
 ·obtain⟨x,dx,args,rfl,hl,_⟩:=h
  rw[aD,hl];rfl
 ·obtain⟨x,dx,args,rfl,hl,hx,k⟩:=h
  match args,hl with
  |[a,b,c,d],_=>
   have n1:=na "name" (by simp)
   have n2:=na "weight" (by simp)
   have n3:=na "finds" (by simp)
   have n4:=na "time" (by simp)
   refine⟨_,mV (pS (pv 0) (pv 1) rfl) (mV (pS (pv 0) (pv 2) rfl) (mV (pS (pv 0) (pv 3) rfl) (m4 (pS (pv 0) (pv 4) rfl)))),?_⟩
   refine⟨_,rfl,_,rfl,x,C,dx,_,rfl,hx,cl,n1,(by show 0<1000;decide),_,rfl,_,rfl,x,C,dx,_,rfl,mX,cl,n2,(by show 1<1000;decide),_,rfl,_,rfl,x,C,dx,_,rfl,mX,cl,n3,(by show 2<1000;decide),_,rfl,_,rfl,x,C,dx,_,rfl,mX,cl,n4,(by show 3<1000;decide),?_⟩
   refine k _ mX λ b o e hb=>?_
   rw[mY hb,mY hb,mY hb,mY hb];exact e
theorem QH:m7 ["self","efforts","cells"] ["self","efforts","cells"] (mZ EY):=qf
theorem QI{f C:ag}{fd:bP}(F:pG K "__init__" "Team.__init__" EY f fd)(cl:G4 K C)(na:∀g∈J8,oA K C g):nO P w K mg base oE 1 f fd ["self","efforts","cells"] (FO C J8):=by
 refine F.ok QH (λ vs H Q E h=>?_) (λ oU A outer s H vs Q E hr h=>?_)
 ·obtain⟨x,dx,args,rfl,hl,_⟩:=h
  rw[aD,hl];rfl
 ·obtain⟨x,dx,args,rfl,hl,hx,k⟩:=h
  match args,hl with
  |[a,b],_=>
   have n1:=na "efforts" (by simp)
   have n2:=na "cells" (by simp)
   refine⟨_,mV (pS (pv 0) (pv 1) rfl) (m4 (pS (pv 0) (pv 2) rfl)),?_⟩
   refine⟨_,rfl,_,rfl,x,C,dx,_,rfl,hx,cl,n1,(by show 0<1000;decide),_,rfl,_,rfl,x,C,dx,_,rfl,mX,cl,n2,(by show 1<1000;decide),?_⟩
   refine k _ mX λ b o e hb=>?_
   rw[mY hb,mY hb];exact e
abbrev CN:List Str:=["parts","cells","teams"]
theorem Of:m7 ["self","parts","cells","teams"] ["self","parts","cells","teams"] (mZ Cj):=qf
theorem Og{f C:ag}{fd:bP}(F:pG K "__init__" "Field.__init__" Cj f fd)(cl:G4 K C)(na:∀g∈CN,oA K C g):nO P w K mg base oE 1 f fd ["self","parts","cells","teams"] (FO C CN):=by
 refine F.ok Of (λ vs H Q E h=>?_) (λ oU A outer s H vs Q E hr h=>?_)
 ·obtain⟨x,dx,args,rfl,hl,_⟩:=h
  rw[aD,hl];rfl
 ·obtain⟨x,dx,args,rfl,hl,hx,k⟩:=h
  match args,hl with
  |[a,b,c],_=>
   have n1:=na "parts" (by simp)
   have n2:=na "cells" (by simp)
   have n3:=na "teams" (by simp)
   refine⟨_,mV (pS (pv 0) (pv 1) rfl) (mV (pS (pv 0) (pv 2) rfl) (m4 (pS (pv 0) (pv 3) rfl))),?_⟩
   refine⟨_,rfl,_,rfl,x,C,dx,_,rfl,hx,cl,n1,(by show 0<1000;decide),_,rfl,_,rfl,x,C,dx,_,rfl,mX,cl,n2,(by show 1<1000;decide),_,rfl,_,rfl,x,C,dx,_,rfl,mX,cl,n3,(by show 2<1000;decide),?_⟩
   refine k _ mX λ b o e hb=>?_
   rw[mY hb,mY hb,mY hb];exact e
structure DQ(f:ae):Prop where
 parts:2<=f.parts/\f.parts<=100
 ne:f.cells≠[]
 cells:CellsOk f
 teams:Mh f
theorem Mj(t:List Nat):cW t=(match bM t.length "parts" (iE (t.length+1) 0 t)with
  | .error b=>.error b
  | .ok l1=>match numAt t.length 2 100 l1 with
   | .error b=>.error b
   | .ok (p,l2)=>match semi t.length l2 with
    | .error b=>.error b
    | .ok l3=>match fN t.length (l3.length+1) ⟨p,[],[]⟩ l3 with
     | .error b=>.error b
     | .ok (f,l4)=>match rR t.length (l4.length+1) f l4 with
      | .error b=>.error b
      | .ok (g,l5)=>if l5=[]then .ok g else .error ⟨1,placeOf t.length l5⟩):=by
 show(bM t.length "parts" (iE (t.length+1) 0 t) >>= _)=_
 cases bM t.length "parts" (iE (t.length+1) 0 t)with
 |error b=>rfl
 |ok l1=>
  dsimp only[Bind.bind,Except.bind]
  rw[show Vbmrac.PARTS=100 from rfl]
  cases numAt t.length 2 100 l1 with
  |error b=>rfl
  |ok x=>
   obtain⟨p,l2⟩:=x
   dsimp only
   cases semi t.length l2 with
   |error b=>rfl
   |ok l3=>
    dsimp only
    cases fN t.length (l3.length+1) ⟨p,[],[]⟩ l3 with
    |error b=>rfl
    |ok y=>
     obtain⟨f,l4⟩:=y
     dsimp only
     rw[Xj _ _ _ _ (cM _)]
     cases rR t.length (l4.length+1) f l4 with
     |error b=>rfl
     |ok z=>
      obtain⟨g,l5⟩:=z
      dsimp only
      cases l5 <;> rfl
theorem Z5{t:List Nat}{g:ae}(h:cW t= .ok g):DQ g:=by
 rw[Mj]at h
 split at h
 ·cases h
 ·split at h
  ·cases h
  ·rename_i p l2 e2
   split at h
   ·cases h
   ·split at h
    ·cases h
    ·rename_i l3 e3 _ f l4 e4
     split at h
     ·cases h
     ·rename_i g' l5 e5
      split at h
      ·cases h
       obtain⟨a1,a2,a3,a4,_⟩:=CK _ _ ⟨p,[],[]⟩ _ _ _ (cM _) ⟨eU,aE _,λ c hc=>absurd hc (by simp)⟩ e4
       obtain⟨b1,b2,b3⟩:=CM _ _ _ _ _ _ ⟨by rw[a3];exact aE _,by rw[a3];exact aE _,λ c hc=>by rw[a3]at hc;exact absurd hc (by simp)⟩ e5
       have pp:=Ai e2
       refine⟨by rw[b2,a2];exact pp,by rw[b3];exact a4,⟨by rw[b3];exact a1.nd,by rw[b3];exact a1.len,λ c hc=>by rw[b2];exact a1.each c (b3 ▸ hc)⟩,b1⟩
      ·cases h
inductive qX (CF CC CT:ag) (H:Hp) (a:ag) (f:ae):Prop
 |mk (dx lc lt:ag) (as bs:List ag):H a=some (.ins CF dx (CN.zip [.int f.parts,.ref lc,.ref lt]))->H lc=some (.lst (as.map V.ref))->qI CC H as f.cells->H lt=some (.lst (bs.map V.ref))->DP CT H bs f.teams->qX CF CC CT H a f
def Aj(K:ah)(C CF CC CT:ag):Sp:=λ vs H Q E=>Calm E/\∃(a:ag) (t:List Nat),vs=[.ref a]/\nA K H a (nV t)/\t.length<=2000/\
 match cW t with
 | .ok g=>∀H' v,NE H H'->qX CF CC CT H' v g->Q (.ref v) H'
 | .error b=>∀H' dx,H' dx=some (wd (.int b.kind) (.int b.place))->NE H H'->E (.ref C) (some dx) H'
theorem Oh{H H':Hp}{a:ag}{xs:List V}(h:nA K H a xs)(sm:m5 H H'):nA K H' a xs:=by
 rcases h with (h|⟨o,h⟩)|h
 ·exact .inl (.inl (sm _ _ h))
 ·exact .inl (.inr ⟨o,sm _ _ h⟩)
 ·exact .inr h
structure Xq(P:aK)(w:bj)(K:ah)(mg:Str->Option ao)(base:bF)(CR CP:ag):Prop where
 nm:mg "Reader"=some (.ref CR)
 mkr:∃f fd,Mk K CR f/\nO P w K mg base oE 6 f fd ["self","text"] (yo K CR CP)/\Binds K fd ["self","text"] []
def Z6(K:ah)(CR CP:ag)(t:TA):TE:=λ σ H Q=>t σ H λ vs H1=>∃(a:ag) (tx:List Nat),vs=[.ref a]/\nA K H1 a (nV tx)/\tx.length<=2000/\∀x H2,H1 x=none->N6 CR CP H2 x (CD tx)->m5 H1 H2->Q (.ref x) H2
theorem UK{X:Cx}{j:Nat}{e:bJ}{es:List bJ}{t:TA}{p pos:Pos}(h:Xq X.prog X.w X.K X.mg X.base CR CP)(hr:rb j X.A)(hj:7<=j)(ha:PA X (e::es) t)(hg:Gl X "Reader":=by rfl)
  (he:aN (e::es) X.env=(false,cw e X.env)::aN es X.env:=by rfl)(vo:(c8 pos (aN es X.env)).any (·.1)=false:=by rfl):
  PE X (.Call (.Name "Reader" p) (e::es) [] pos) (Z6 X.K CR CP t):=by
 obtain⟨f,fd,M,F,b⟩:=h.mkr
 intro pins s σ H Q I hw
 refine c6 (xT I hg h.nm ?_ (by decide))
 refine dJ (h₀:=X.base) I.ok.mod.Zg M.kp (pK (ha pos pins s σ H _ I hw) λ us s1 ⟨vs,H1,I1,r,a,tx,ev,hs,hl,q⟩=>⟨I1.FH,?_⟩) he vo
 refine HD (E:=E0) M F (hr.mono hj) b .nil (λ _ _ _ _ _ _ _ z=>z.elim) I1 r λ y dy hy hdy ne=>?_
 subst ev
 refine⟨y,dy,a,tx,rfl,mX,?_,hl,λ H' h1 h2=>⟨rfl,q y H' hy h1 (m5.made hy hdy h2)⟩⟩
 exact Oh hs (m5.made hy hdy λ b o e n=>e)
abbrev QJ:List Str:=["text","reader","parts","cells","teams"]
theorem FV:m7 QJ ["text"] (mZ Cn):=qf
theorem Oi(F:pG K "read_field" "read_field" Cn f fd)(T:vA P w K mg base CR CP)(RM:Xq P w K mg base CR CP)(M:RdM P w K mg base CR CP C)(nG:Rec P w K mg base "Field" CF CN)
  (yp:rA P w K mg base (Cc P w C) 6 "read_cells" ["reader","parts"] (Ad CR CP C CC))(yq:rA P w K mg base (Cc P w C) 7 "read_teams" ["reader","cells"] (Ag CR CP C CC CT))(w8:oC mg "LEAST_PARTS" 2)(yr:oC mg "MOST_PARTS" 100):
  nO P w K mg base (Cc P w C) 8 f fd ["text"] (Aj K C CF CC CT):=by
 refine F.VW FV (λ vs H Q E h=>?_) (λ vs H Q E h=>h.1) (λ oU A outer s H vs Q E hr h=>?_)
 ·obtain⟨_,a,t,rfl,_⟩:=h
  rfl
 ·obtain⟨hE,a,t,rfl,hs,ht,k⟩:=h
  have nd:=FV.nd
  have oz:=T.cl
  have pT:=M.word
  have pQ:=M.number
  have rn:=M.stop
  have CO:=M.fin
  refine⟨_,(mV (m6 (i:=1) nd rfl (Or.inl rfl) (UK RM hr (by decide) (mU (pv 0) mW)))
   (mV (nZ (pO pT oz hr (by decide) (ph (Cx.oB _ _ _)) (pv 1) (mU qk mW)))
   (mV (m6 (i:=2) nd rfl (Or.inl rfl) (pO pQ oz hr (by decide) (ph (Cx.oB _ _ _)) (pv 1) (mU (nP w8) (mU (nP yr) mW))))
   (mV (nZ (oS rn oz hr (by decide) (ph (Cx.oB _ _ _)) (pv 1)))
   (mV (m6 (i:=3) nd rfl (Or.inl rfl) (nq yp hr (by decide) (ph (Cx.oB _ _ _)) (mU (pv 1) (mU (pv 2) mW))))
   (mV (m6 (i:=4) nd rfl (Or.inl rfl) (nq yq hr (by decide) (ph (Cx.oB _ _ _)) (mU (pv 1) (mU (pv 3) mW))))
   (mV (nZ (oS CO oz hr (by decide) (ph (Cx.oB _ _ _)) (pv 1)))
   (m4 (m9 (vx nG hr (by decide) (mU (pv 2) (mU (pv 3) (mU (pv 4) mW))))))))))))),?_⟩
  rw[Mj]at k
  refine⟨_,rfl,a,t,rfl,hs,ht,λ r H0 WT hRA sm0=>?_⟩
  have l0:=vB (t.length+1) 0 t
  have hR:JU CR CP t.length H0 r (iE (t.length+1) 0 t):=⟨_,hRA,ZX t⟩
  generalize htk:iE (t.length+1) 0 t=tk at hR k l0
  obtain⟨dx,la,i,h1⟩:=hR.ins
  have up:∀{H1:Hp},sD r H0 H1->NE H H1:=λ b c o e x=>b c o (sm0 _ _ e) (λ q=>by rw[q,WT]at e;cases e) x
  have rs:∀{H1:Hp} {b:Bad},sD r H0 H1->(∀H' dx,H' dx=some (wd (.int b.kind) (.int b.place))->NE H H'->E (.ref C) (some dx) H')->Raise C r H1 E b.kind b.place:=λ b0 kk H' d e bb=>kk H' d e (up (b0.trans bb))
  refine⟨_,rfl,r,dx,_,rfl,h1,rfl,hE,r,t.length,"parts",tk,rfl,hR,rf.by (λ b e=>?_) λ _ l1 e1 H1 v Xf Y1 _=>?_⟩
  ·rw[wZ e]at k;exact rs (sD.refl _ _) k
  rw[wx e1]at k
  dsimp only at k
  obtain⟨dx1,la1,i1,Y2⟩:=Xf.ins
  refine⟨_,rfl,r,dx1,_,rfl,Y2,rfl,hE,r,t.length,(2,100),l1,rfl,Xf,rf.by (λ b e=>?_) λ n l2 e2 H2 v PL Mc ev=>?_⟩
  ·have e:numAt t.length 2 100 l1= .error b:=e
   rw[e]at k;exact rs Y1 k
  have e2:numAt t.length 2 100 l1= .ok (n,l2):=e2
  rw[e2]at k
  dsimp only at k
  subst ev
  have B2:=Y1.trans Mc
  obtain⟨W_,la2,i2,h12⟩:=PL.ins
  refine⟨_,rfl,r,W_,_,rfl,h12,rfl,hE,r,t.length,(),l2,rfl,PL,rf.by (λ b e=>?_) λ _ l3 e3 H3 v hR3 hB3 _=>?_⟩
  ·rw[wZ e]at k;exact rs B2 k
  rw[wx e3]at k
  dsimp only at k
  have B3:=B2.trans hB3
  refine⟨_,rfl,_,rfl,hE,r,t.length,n,l3,rfl,hR3,rf.by (λ b e=>?_) λ fc l4 e4 H4 v Y5 Xg ⟨lc,as,ev,hlc,Ml⟩=>?_⟩
  ·rw[e]at k;exact rs B3 k
  rw[e4]at k
  dsimp only at k
  subst ev
  have B4:=B3.trans Xg
  obtain⟨a1,a2,a3,a4,a5⟩:=CK _ _ ⟨n,[],[]⟩ _ _ _ (cM _) ⟨eU,aE _,λ c hc=>absurd hc (by simp)⟩ e4
  have q1:=pC (wx e1)
  have q2:=tJ e2
  have q3:=Oa (wx e3)
  obtain⟨dx4,la4,i4,ZU⟩:=Y5.ins
  refine⟨_,rfl,_,rfl,hE,r,t.length,lc,as,fc,l4,rfl,Y5,hlc,Ml,a1.nd,a1.len,a3,by omega,rf.by (λ b e=>?_) λ fg l5 e5 H5 v Xh N_ ⟨lt,bs,ev,rL,Z_⟩=>?_⟩
  ·rw[e]at k;exact rs B4 k
  rw[e5]at k
  dsimp only at k
  subst ev
  have B5:=B4.trans N_
  obtain⟨b1,b2,b3⟩:=CM _ _ _ _ _ _ ⟨by rw[a3];exact aE _,by rw[a3];exact aE _,λ c hc=>by rw[a3]at hc;exact absurd hc (by simp)⟩ e5
  obtain⟨dx5,la5,i5,Y6⟩:=Xh.ins
  refine⟨_,rfl,r,dx5,_,rfl,Y6,rfl,hE,r,t.length,l5,rfl,Xh,λ e H6 hB6=>?_,λ e=>?_⟩
  ·rw[if_pos e]at k
   refine⟨_,rfl,_,rfl,_,rfl,rfl,λ y dy H7 hy h7 sm7=>?_⟩
   have bE:sD r H4 H6:=N_.trans hB6
   refine k H7 y (up ((B5.trans hB6).trans (sD.of_same sm7))) ⟨dy,lc,lt,as,bs,?_,sm7 _ _ (bE.lst hlc ZU),?_,sm7 _ _ (hB6.lst rL Y6),Z_.1,λ j x t e1 e2=>(rX.but hB6 (Z_.2 j x t e1 e2) Y6).same sm7⟩
   ·rw[h7,b2,a2]
   ·rw[b3]
    have hc6:=bE.cells Ml ZU
    exact⟨hc6.1,λ j x c e1 e2=>let⟨d,z⟩:=hc6.2 j x c e1 e2;⟨d,sm7 _ _ z⟩⟩
  ·rw[if_neg e]at k
   exact rs B5 k
end n_
namespace L2
theorem Oj{K:ah}{X:Cx}{C:ag}{e:bJ}{f:Str}{pos:Pos}{ta:TE}(EC:tG K C)(hk:oA K C "__getattr__")(he:PE X e ta)(hK:X.K=K:=by rfl)(hb:dN e f X.env (cw e X.env)=cw e X.env:=by rfl):PE X (.Attribute e f pos) (aa2 K C ta f):=by
 subst hK;exact ZM EC hk he hb
end L2
namespace n_
def Fr(H:Hp)(p:ag):Prop:=∀o,H p=some o->∃φ,o= .ext φ
theorem Fr.of{H H':Hp}{p:ag}(n:NE H H')(h:H' p=none):Fr H p:=λ o e=>by
 apply Classical.byContradiction
 intro z
 have:=n p o e λ φ q=>z ⟨φ,q⟩
 rw[h]at this;cases this
theorem Fr.ne{H:Hp}{p b:ag}{o:HO}(f:Fr H p)(e:H b=some o)(x:∀φ,o≠ .ext φ):b≠p:=λ q=>by
 obtain⟨φ,z⟩:=f o (q ▸ e)
 exact x φ z
theorem _root_.L2.NE.of_same{H H1:Hp}(a:m5 H H1):NE H H1:=λ c o e _=>a c o e
theorem _root_.L2.NE.new{H H1:Hp}{p:ag}{o:HO}(n:NE H H1)(h:H1 p=none):NE H (upd H1 p o):=n.trans (NE.upd (.inl h))
def Ak(H:Hp)(Q:VK)(xs:List V):Prop:=∀H' p,NE H H'->Fr H p->H' p=some (.lst xs)->Q (.ref p) H'
theorem Ak.new{H H1:Hp}{Q:VK}{xs:List V}(k:Ak H Q xs)(n:NE H H1){p:ag}(h:H1 p=none):Q (.ref p) (upd H1 p (.lst xs)):=k _ p (n.new h) (Fr.of n h) mX
def iL(l:List Int):List V:=l.map V.int
def qC(zs:List Int):List Int:=if dD zs=false then[-1]else match cW (bW zs)with
 | .error b=>[1,(b.kind:Int),(b.place:Int)]
 | .ok _=>[0]
theorem FY{zs:List Int}(h:dD zs=true):iL zs=nV (bW zs)/\(bW zs).length<=1500:=by
 unfold dD at h
 rw[bg,fv]at h
 have h1:zs.length<=1500:=of_decide_eq_true h.1
 refine⟨?_,by unfold bW;rw[aa];exact h1⟩
 unfold iL nV bW
 rw[aW]
 refine bO λ z hz=>?_
 have q:=h.2 z hz
 unfold bI at q
 simp at q
 show V.int z=V.int (z.toNat:Int)
 rw[Int.toNat_of_nonneg q.1]
theorem ud{σ:L2.St}{H:Hp}{ta tb tc:TE}{lo x hi:Int}{R:VK}(ha:Gives ta σ H (.int lo))(hb:Gives tb σ H (.int x))(hc:Gives tc σ H (.int hi))(k:R (.bl (bI x lo hi)) H):
  Hw (Sr λ i j=>.bl (decide (i<=j))) (Sr λ i j=>.bl (decide (i<=j))) ta tb tc σ H R:=by
 refine ha _ (hb _ ⟨_,_,rfl,rfl,_,rfl,p8 (λ a=>hc _ ⟨_,_,rfl,rfl,?_⟩) λ a=>?_⟩)
 ·have e:bI x lo hi=decide (x<=hi):=by unfold bI;rw[a];rfl
  show R (V.bl (decide (x<=hi))) H
  rw[<-e];exact k
 ·have e:bI x lo hi=false:=by
   unfold bI
   cases q:decide (lo<=x)with
   |true=>exact absurd q a
   |false=>rfl
  rw[<-e];exact k
theorem pU(zs:List Int):(iL zs).length=zs.length:=aa _
def ab8(H:Hp)(r:Except lZ ae):XK:=λ _ d H'=>∃dx b,d=some dx/\r= .error b/\H' dx=some (wd (.int b.kind) (.int b.place))/\NE H H'
theorem ab8.calm(H:Hp)(r:Except lZ ae):Calm (ab8 H r):=λ c d H1 H2 n ⟨dx,b,e1,e2,e3,e4⟩=>⟨dx,b,e1,e2,n _ _ e3 (λ φ q=>by cases q),e4.trans n⟩
inductive Hc (K:ah) (vs:List V) (H:Hp) (Q:VK) (Ex:XK):Prop
 |mk (x y:V) (a:ag) (zs:List Int):vs=[x,y,.ref a]->nA K H a (iL zs)->zs.length<=1600->Ak H Q (iL (qC zs))->Hc K vs H Q Ex
abbrev Im:List Str:=["search","numbers","text","wrong","byte"]
theorem FZ:m7 Im ["search","numbers","text"] (mZ yg):=qf
theorem F1(F:pG K "call_where" "call_where" yg f fd)(W:tZ P w K mg base C)(qJ:rA P w K mg base (Cc P w C) 8 "read_field" ["text"] (Aj K C CF CC CT))(o9:mg "len"=none)(zJ:mg "all"=none)(uL:oC mg "MOST_BYTES" 1500)(nF:oC mg "NOT_AS_TOLD" (-1))(uM:oC mg "TEXT_WRONG" 1)(nB:oC mg "DONE" 0):
  nO P w K mg base oE 9 f fd ["search","numbers","text"] (Hc K):=by
 refine F.ok FZ (λ vs H Q E h=>?_) (λ oU A outer s H vs Q E hr h=>?_)
 ·obtain⟨x,y,a,zs,rfl,_⟩:=h
  rfl
 ·obtain⟨x,y,a,zs,rfl,hs,hl,k⟩:=h
  have nd:=FZ.nd
  obtain⟨fi,fdi,Xr,_⟩:=W.mkx
  have hEb:=ab8.calm H (cW (bW zs))
  refine⟨_,(mV (pf (PW.pt (Wc (om BH (nJ nL rfl o9 aX (mU (pv 2) mW)) (nP uL) (oH _)) (PX (vi (tF (nJ (B_ rfl) rfl zJ iK (mU (qp (own:=[("byte",4)]) rfl nd (oJ (pv 2)) (by exact pz.of (N:=Im) (sc:=mZ yg) (by decide +kernel)) (λ _ _ _ _ _=>by exact(nr (i:=4) nd rfl (Or.inl rfl))) (λ _ _ _ _ _=>by exact oP) (λ _ _ _ _ _=>by exact(vk p7 p7 nM (pv 4) nM))) mW))))))) (m4 (m9 (nN (mU (nP nF) mW)))) nX)
   (mV (abZ (i:=3) rfl rfl Xr rfl W.nm nd rfl rfl hEb (λ _=>by exact(m4 (nZ (nq qJ hr (by decide) (ph (Cx.oB _ _ _)) (mU (pv 2) mW))))) (λ _=>by exact(m4 (m9 (nN (mU (nP uM) (mU (Oj W.ec W.ng (pv 3)) (mU (Oj W.ec W.ng (pv 3)) mW))))))))
   (m4 (m9 (nN (mU (nP nB) mW)))))),?_⟩
  have no:dD zs=false->∀H1 p,m5 H H1->H1 p=none->Q (.ref p) (upd H1 p (.lst [.int (-1)])):=λ hi H1 p sm hp=>by
   have e:qC zs=[-1]:=if_pos hi
   rw[e]at k
   exact k.new (NE.of_same sm) hp
  refine⟨_,rfl,a,_,rfl,.inl hs,_,_,rfl,rfl,_,rfl,p8 (λ hc=>?_) λ hc=>?_⟩
  ·have hc:(1500:Int)<((iL zs).length:Int):=of_decide_eq_true hc
   unfold iL at hc
   rw[aa]at hc
   have hi:dD zs=false:=by
    unfold dD
    rw[decide_eq_false (show ¬ zs.length<=lK from λ(q:zs.length<=1500)=>by omega)];rfl
   exact s_ ⟨(by show 1<=ay;decide),λ p hp=>no hi H p (m5.refl _) hp⟩
  have hc:¬ (1500:Int)<((iL zs).length:Int):=λ q=>hc (decide_eq_true q)
  unfold iL at hc
  rw[aa]at hc
  refine⟨_,rfl,a,rfl,⟨_,hs⟩,?_⟩
  refine oV (oQ (K:=K) (xs:=iL zs) hs) (zs.map λ z=>V.bl (bI z 0 255)) (by unfold iL;rw[aa,aa]) (by unfold iL;rw[aa,aA];omega) (λ j x y H3 R3 N3 hy pE hF kk=>?_) (λ D H3 hD pE uC=>?_)
  ·unfold iL at hF
   rw[ak]at hF hy
   cases q1:zs[j]? with
   |none=>rw[q1]at hF;cases hF
   |some z=>
    rw[q1]at hF hy
    cases hF;cases hy
    refine⟨rfl,sy ?_⟩
    exact ud gc gv gc (kk H3 (m5.refl _))
  have hin:dD zs=(zs.map λ z=>bI z 0 255).all id:=by
   unfold dD
   rw[decide_eq_true (show zs.length<=lK by show zs.length<=1500;omega),fC,cJ];rfl
  refine⟨D,zs.map λ z=>bI z 0 255,rfl,nA.of (by rw[uC,aW];rfl),?_⟩
  rw[<-hin]
  refine⟨_,rfl,?_⟩
  cases hi:dD zs with
  |false=>exact s_ ⟨(by show 1<=ay;decide),λ p hp=>no hi H3 p pE hp⟩
  |true=>
   refine rG ?_
   obtain⟨t1,t2⟩:=FY hi
   have hs3:nA K H3 a (nV (bW zs)):=by rw[<-t1];exact Oh hs pE
   have wa:qC zs=match cW (bW zs)with
    | .error b=>[1,(b.kind:Int),(b.place:Int)]
    | .ok _=>[0]:=if_neg (by rw[hi];simp)
   refine⟨⟨_,rfl,hEb,a,bW zs,rfl,hs3,by omega,?_⟩,λ σ' H1 e dx tv hlen he ⟨dx',b,e1,e2,e3,e4⟩=>?_⟩
   ·cases q:cW (bW zs)with
    |error b=>exact λ H' dx h1 h2=>⟨dx,b,rfl,rfl,h1,λ c o e x=>h2 c o (pE _ _ e) x⟩
    |ok g=>
     intro H' v h1 h2
     rw[q]at wa
     rw[wa]at k
     refine⟨(by show 1<=ay;decide),λ p hp=>k.new ((NE.of_same pE).trans h1) hp⟩
   ·cases e1
    rw[e2]at wa
    rw[wa]at k
    have hv:(σ'.set 3 (some (V.ref e)))[3]? =some (some (V.ref e)):=cP (by rw[hlen];show 3<5;decide)
    refine⟨_,hv,e,tv,dx,_,_,rfl,he,e3,W.n1,rfl,_,hv,e,tv,dx,_,_,rfl,he,e3,W.n2,rfl,(by show 3<=ay;decide),λ p hp=>k.new e4 hp⟩
def rN(w fi p n:Nat):Nat:=w*((p-fi) ^ n*p ^ (20-n))
def rE(w fi p:Nat):List Nat:=(az 21).map (rN w fi p)
theorem QK(w fi p:Nat):rN w fi p 0=w*p ^ 20:=by
 unfold rN;rw[Nat.pow_zero,Nat.one_mul]
theorem QL{w fi p n:Nat}(hp:0<p)(hn:n<20):rN w fi p n*(p-fi) / p=rN w fi p (n+1):=by
 unfold rN
 have e:20-n=(20-(n+1))+1:=by omega
 rw[e]
 generalize 20-(n+1)=k
 rw[fV p k,fV (p-fi) n]
 have e2:w*((p-fi) ^ n*(p ^ k*p))*(p-fi)=(w*((p-fi) ^ n*(p-fi)*p ^ k))*p:=by
  simp only[fD,fX,gu]
 rw[e2,Nat.mul_div_cancel _ hp]
inductive Al (vs:List V) (H:Hp) (Q:VK) (Ex:XK):Prop
 |mk (we fi p:Nat):vs=[.int we,.int fi,.int p]->we<=1000000000000->fi<=p->0<p->p<=100->GW H Q (nV (rE we fi p))->Al vs H Q Ex
abbrev QM:List Str:=["weight","finds","parts","mass","table"]
theorem F2:m7 QM ["weight","finds","parts"] (mZ Cd):=qf
theorem Ol(F:pG K "mass_table" "mass_table" Cd f fd)(o9:mg "len"=none)(nv:oC mg "MOST_EFFORTS" 20):nO P w K mg base oE 1 f fd ["weight","finds","parts"] Al:=by
 refine F.ok F2 (λ vs H Q E h=>?_) (λ oU A outer s H vs Q E hr h=>?_)
 ·obtain⟨we,fi,p,rfl,_⟩:=h
  rfl
 ·obtain⟨we,fi,p,rfl,hw,hf,hp,J7,k⟩:=h
  have nd:=F2.nd
  refine⟨_,(mV (m6 (i:=3) nd rfl (Or.inl rfl) (og wR (pv 0) (og abu (pv 2) nM)))
   (mV (m6 (i:=4) nd rfl (Or.inl rfl) (nN (mU (pv 3) mW)))
   (mV (rK PassesOwn.never (om p7 (nJ nL rfl o9 aX (mU (pv 4) mW)) (nP nv) (oH _)) (mV (m6 (i:=3) nd rfl (Or.inl rfl) (og DF (og wR (pv 3) (og sF (pv 2) (pv 1))) (pv 2)))
   (m4 (nZ (qQ aG a_ a0 pD (pv 4) (mU (pv 3) mW))))))
   (m4 (m9 (pv 4)))))),?_⟩
  have c1:ac3 (p:Int) 20:=⟨by decide,by decide,by show p<2 ^ 64;omega⟩
  have c2:∀j:Int,Qb (we:Int) j:=λ j=>.inl ⟨by omega,by omega⟩
  have c3:∀i:Int,Qb i ((p:Int)-(fi:Int)):=λ i=>.inr ⟨by omega,by omega⟩
  have c4:∀i:Int,Tb i (p:Int):=λ i=>⟨by omega,by
   have z:(100:Nat)<Ta:=by exact aS (by decide:100<2 ^ 7) (dw (by decide:0<2) (by decide:7<=8000))
   omega⟩
  have e0:(we:Int)*(p:Int) ^ (20:Int).toNat=((rN we fi p 0:Nat):Int):=by
   rw[QK,Int.natCast_mul,Int.natCast_pow];rfl
  refine⟨_,rfl,_,rfl,_,_,rfl,rfl,c1,_,_,rfl,rfl,c2 _,?_⟩
  refine⟨_,rfl,(by show 1<=ay;decide),λ t ht=>?_⟩
  refine⟨λ m σ H'=>∃(n:Nat) (x:Int),x=((rN we fi p n:Nat):Int)/\m=20-n/\n<=20/\σ=[some (.int (we:Nat)),some (.int (fi:Nat)),some (.int (p:Nat)),some (.int x),some (.ref t)]/\m5 H H'/\H' t=some (.lst (nV ((az (n+1)).map (rN we fi p)))),
   ⟨20,0,_,e0,rfl,aE _,rfl,m5.new ht,by rw[mX];show some (HO.lst [V.int _])=some (HO.lst [V.int _]);exact congrArg (λ z=>some (HO.lst [V.int z])) e0⟩,?_⟩
  rintro m σ H' ⟨n,x,hx,rfl,hn,rfl,sm,h1⟩
  have len:(nV ((az (n+1)).map (rN we fi p))).length=n+1:=by unfold nV;simp
  refine⟨_,rfl,t,_,rfl,.inl (nA.of h1),_,_,rfl,rfl,_,rfl,?_⟩
  rw[len]
  refine p8 (λ hc=>?_) λ hc=>?_
  ·have hc:((n+1:Nat):Int)<=20:=of_decide_eq_true hc
   have e1:x*((p:Int)-(fi:Int)) / (p:Int)=((rN we fi p (n+1):Nat):Int):=by
    rw[hx,<-Int.ofNat_sub hf,<-Int.natCast_mul,<-Int.natCast_ediv,QL hp (by omega)]
   refine⟨_,λ _ _ z=>z,_,rfl,_,rfl,_,rfl,_,_,rfl,rfl,_,_,rfl,rfl,c3 _,_,rfl,_,_,rfl,rfl,c4 _,?_⟩
   refine⟨_,rfl,.inl ⟨rfl,_,nA.of h1⟩,_,rfl,t,_,_,rfl,rfl,h1,?_,?_⟩
   ·rw[len,aA];omega
   ·refine⟨20-(n+1),by omega,n+1,_,e1,rfl,by omega,rfl,λ b o e=>by rw[mY (nE e ht)];exact sm _ _ e,?_⟩
    rw[mX,eG (n:=n+1)]
    unfold nV
    rw[aF,aF]
    exact congrArg (λ z=>some (HO.lst (_++[V.int z]))) e1
  ·have hc:¬ ((n+1:Nat):Int)<=20:=λ q=>hc (decide_eq_true q)
   have e:n=20:=by omega
   subst e
   exact⟨_,rfl,k H' t sm ht h1⟩
end n_
namespace L2
theorem Bk(K:ah){X:Cx}{es:List bJ}{k:Nat}{t:YW}{n:Nat}{pos:Pos}(hc:X.calm=true)(h:PGs X es t)(hK:X.K=K:=by rfl)
  (hn:(fL es X.env).length=n:=by rfl)(LG:(fL es X.env).findIdx? (·.1)=none:=by rfl):PG X (.Tuple es k pos) (acW K n t):=by
 subst hK;exact zN hc h hn LG
end L2
namespace n_
theorem m8(l:List Nat):(nV l).length=l.length:=aa _
def TabsAt(H:Hp)(as:List ag)(ts:List (List Nat)):Prop:=as.length=ts.length/\∀(j:Nat) (a:ag) (t:List Nat),as[j]? =some a->ts[j]? =some t->H a=some (.lst (nV t))
theorem TabsAt.same{H H':Hp}{as:List ag}{ts:List (List Nat)}(h:TabsAt H as ts)(sm:m5 H H'):TabsAt H' as ts:=⟨h.1,λ j a t e1 e2=>sm _ _ (h.2 j a t e1 e2)⟩
def aaa(ts:List (List Nat))(d:List Nat):Nat:=aY ((ts.zip d).map λ x=>x.1.getD x.2 0)
inductive yt (vs:List V) (H:Hp) (Q:VK) (Ex:XK):Prop
 |mk (a b:ag) (d e:List Nat):vs=[.ref a,.ref b]->H a=some (.lst (nV d))->H b=some (.lst (nV e))->d.length=e.length->d.length<=16->GW H Q (nV (bB d e))->yt vs H Q Ex
abbrev KS:List Str:=["had","row","before","more"]
theorem Io:m7 KS ["had","row"] (mZ Bd):=qf
inductive Ff (vs:List V) (H:Hp) (Q:VK) (Ex:XK):Prop
 |mk (a b:ag) (as:List ag) (ts:List (List Nat)) (d:List Nat):vs=[.ref a,.ref b]->H a=some (.lst (as.map V.ref))->TabsAt H as ts->H b=some (.lst (nV d))->ts.length=d.length->d.length<=16->(∀(j:Nat) (t:List Nat) (n:Nat),ts[j]? =some t->d[j]? =some n->n<t.length)->(∀H',m5 H H'->Q (.int (aaa ts d)) H')->Ff vs H Q Ex
abbrev Om:List Str:=["tables","had","table","efforts"]
theorem KU:m7 Om ["tables","had"] (mZ DB):=qf
theorem UL(F:pG K "mass_sum" "mass_sum" DB f fd)(xM:mg "zip"=none)(xK:mg "sum"=none):nO P w K mg base oE 1 f fd ["tables","had"] Ff:=by
 refine F.ok KU (λ vs H Q E h=>?_) (λ oU A outer s H vs Q E hr h=>?_)
 ·obtain⟨a,b,as,ts,d,rfl,_⟩:=h
  rfl
 ·obtain⟨a,b,as,ts,d,rfl,ha,hT,hb,hde,GX,hin,k⟩:=h
  have nd:=KU.nd
  refine⟨_,(m4 (m9 (nJ (B0 rfl) rfl xK iJ (mU (qp (own:=[("table",2),("efforts",3)]) rfl nd (ES rfl xM (mU (pv 0) (mU (pv 1) mW))) (by exact pz.of (N:=Om) (sc:=mZ DB) (by decide +kernel)) (λ _ _ _ _ _=>by exact(Bk K (n:=2) rfl (oG (nr (i:=2) nd rfl (Or.inl rfl)) (oG (nr (i:=3) nd rfl (Or.inl rfl)) rB)))) (λ _ _ _ _ _=>by exact oP) (λ _ _ _ _ _=>by exact(tX K (pv 2) (pv 3)))) mW)))),?_⟩
  refine⟨_,rfl,_,rfl,a,b,_,_,rfl,nA.of ha,nA.of hb,?_⟩
  refine oV (HL (K:=K) (nA.of ha) (nA.of hb) (by rw[aa,m8,hT.1,hde])) (nV ((ts.zip d).map λ x=>x.1.getD x.2 0)) (by rw[m8,aa,aa,eI,hde,fY,hT.1,hde]) (by rw[aa,hT.1,aA];omega) (λ j x y H3 R3 N3 hy pE hF kk=>?_) (λ D H3 hD pE uC=>?_)
  ·obtain⟨T,x1,y1,rfl,h1,h2,hTu⟩:=hF
   rw[ak]at h1
   cases q1:as[j]? with
   |none=>rw[q1]at h1;cases h1
   |some aj=>
    rw[q1]at h1;cases h1
    obtain⟨c2,q2,rfl⟩:=oq h2
    obtain⟨c3,q3,rfl⟩:=oq hy
    have hj:j<ts.length:=by rw[<-hT.1];exact(List.getElem?_eq_some_iff.mp q1).1
    have q4:ts[j]? =some ts[j]:=af hj
    have lt:=hin j _ c2 q4 q2
    have e3:ts[j][c2]? =some c3:=by
     rw[ak,gj (z:=(ts[j],c2)) |>.mpr ⟨q4,q2⟩]at q3
     have q3:ts[j].getD c2 0=c3:=Option.some.inj q3
     rw[aB]at q3
     rw[af lt]at q3 ⊢
     exact congrArg some q3
    refine⟨T,_,rfl,BG.of hTu,rfl,_,_,rfl,_,_,rfl,rfl,rfl,sy ⟨_,rfl,_,rfl,aj,_,_,_,rfl,rfl,nA.of (pE _ _ (hT.2 j aj _ q1 q4)),oo (oR e3),kk H3 (m5.refl _)⟩⟩
  ·refine⟨D,((ts.zip d).map λ x=>x.1.getD x.2 0).map (λ(n:Nat)=>(n:Int)),rfl,nA.of (by rw[uC,aW];rfl),?_⟩
   rw[tK]
   exact k H3 pE
structure FW(f:ae):Prop where
 p0:0<f.parts
 p1:f.parts<=100
 len:f.cells.length<=16
 ne:f.cells≠[]
 we:∀c∈f.cells,c.weight<=1000000000000
 fi:∀c∈f.cells,c.finds<=f.parts
def nY(f:ae):List (List Nat):=f.cells.map λ c=>rE c.weight c.finds f.parts
theorem pM(f:ae):(nY f).length=f.cells.length:=aa _
theorem Am(w fi p:Nat):(rE w fi p).length=21:=by unfold rE;simp
theorem vC{w fi p n:Nat}(h:n<=20):(rE w fi p)[n]? =some (rN w fi p n):=by
 unfold rE
 rw[ak,bc (by omega)];rfl
theorem wA{f:ae}{c:Nat}{x:bD}(h:f.cells[c]? =some x)(n:Nat):cZ f c n=rN x.weight x.finds f.parts n:=by
 have e:bx f c=x:=by unfold bx;rw[aB,h];rfl
 unfold cZ rN
 rw[e];rfl
theorem ab9{f:ae}{c n:Nat}(hc:c<f.cells.length)(h:n<=20):((nY f).getD c []).getD n 0=cZ f c n:=by
 have e:f.cells[c]? =some f.cells[c]:=af hc
 have e2:(nY f).getD c []=rE f.cells[c].weight f.cells[c].finds f.parts:=by
  unfold nY
  rw[aB,ak,e];rfl
 rw[wA e,e2,aB,vC h];rfl
theorem UM{α:Type}(d0:α)(ts:List α)(d:List Nat)(h:ts.length=d.length)(g:α->Nat->Nat):(ts.zip d).map (λ x=>g x.1 x.2)=d.zipIdx.map λ x=>g (ts.getD x.2 d0) x.1:=by
 apply bN
 intro i
 rw[ak,ak,bQ]
 by_cases hi:i<d.length
 ·have e1:d[i]? =some d[i]:=af hi
  have e2:ts[i]? =some (ts[i]'(by omega)):=af (by omega)
  rw[(gj (z:=(ts[i]'(by omega),d[i]))).mpr ⟨e2,e1⟩,e1]
  show some _=some _
  simp[aB,e2]
 ·have e1:d[i]? =none:=aI (by omega)
  have e2:(ts.zip d)[i]? =none:=aI (by rw[eI];omega)
  rw[e1,e2];rfl
theorem tL{f:ae}{d:List Nat}(hl:d.length=f.cells.length)(wg:∀n∈d,n<=20):aaa (nY f) d=left f d:=by
 unfold aaa lJ
 rw[UM [] (nY f) d (by rw[pM,hl]) λ t n=>t.getD n 0]
 refine congrArg aY (bO λ x hx=>?_)
 have h1:=gR hx
 have h2:x.2<d.length:=by omega
 exact ab9 (by omega) (wg _ (by rw[h1.2.2];exact cq _))
theorem ot(a:Nat)(l:List Nat):aY (a::l)=a+aY l:=by
 have step:∀(l:List Nat) (a:Nat),l.foldl (λ a b=>a+b) a=a+l.foldl (λ a b=>a+b) 0:=by
  intro l
  induction l with
  |nil=>intro a;rfl
  |cons x r ih=>intro a;rw[cp,ih,cp,ih (0+x)];omega
 unfold aY
 rw[cp,step];omega
theorem DR{B:Nat}:∀(l:List Nat),(∀x∈l,x<=B)->aY l<=l.length*B
 |[],_=>by simp[aY]
 |a::l,h=>by
  rw[ot,aD,jY]
  have h1:=h a (by simp)
  have h2:=DR l λ x hx=>h x (by simp[hx])
  omega
theorem CQ:∀(l m:List Nat),l.length=m.length->(∀(i a b:Nat),l[i]? =some a->m[i]? =some b->a<=b)->aY l<=aY m
 |[],[],_,_=>ax _
 |a::l,b::m,h,g=>by
  rw[ot,ot]
  have h1:=g 0 a b rfl rfl
  have h2:=CQ l m (by simpa using h) λ i x y e1 e2=>g (i+1) x y e1 e2
  omega
 |[],_::_,h,_=>by simp at h
 |_::_,[],h,_=>by simp at h
theorem Xs{w fi p n:Nat}(hn:n<=20):rN w fi p n<=w*p ^ 20:=by
 unfold rN
 refine dg _ ?_
 have e:p ^ 20=p ^ n*p ^ (20-n):=by rw[<-Nat.pow_add];congr 1;omega
 rw[e]
 exact c7 _ (kC (kR _ _) n)
theorem QN{w fi p n:Nat}(hn:n<20):rN w fi p (n+1)<=rN w fi p n:=by
 unfold rN
 refine dg _ ?_
 have e:20-n=(20-(n+1))+1:=by omega
 rw[e,fV,fV p]
 generalize 20-(n+1)=k
 have e2:(p-fi) ^ n*(p-fi)*p ^ k=(p-fi) ^ n*(p ^ k*(p-fi)):=by simp only[fD,fX,gu]
 rw[e2]
 exact dg _ (dg _ (kR _ _))
theorem Ip{w fi p:Nat}:∀(k n:Nat),n+k<=20->rN w fi p (n+k)<=rN w fi p n
 |0,n,_=>ax _
 |k+1,n,h=>aV (QN (n:=n+k) (by omega)) (Ip k n (by omega))
theorem Bl{f:ae}{c n k:Nat}(h:n+k<=20)(hc:c<f.cells.length):cZ f c (n+k)<=cZ f c n:=by
 have e:f.cells[c]? =some f.cells[c]:=af hc
 rw[wA e,wA e];exact Ip k n h
theorem Xt:16*(1000000000000*100 ^ 20)<Ta:=by
 have h1:1000000000000<2 ^ 40:=by decide
 have h2:16*(1000000000000*100 ^ 20)<2 ^ 200:=by decide
 exact aS h2 (dw (by decide:0<2) (by decide:200<=8000))
theorem Mm{f:ae}(W:FW f){c n:Nat}(hc:c<f.cells.length)(hn:n<=20):cZ f c n<=1000000000000*100 ^ 20:=by
 have e:f.cells[c]? =some f.cells[c]:=af hc
 rw[wA e]
 exact aV (Xs hn) (lU (W.we _ (cq _)) (kC W.p1 20))
theorem ue{f:ae}(W:FW f){d:List Nat}(hl:d.length=f.cells.length)(wg:∀n∈d,n<=20):left f d<Ta:=by
 refine bH (DR (B:=1000000000000*100 ^ 20) _ λ x hx=>?_) ?_
 ·obtain⟨y,hy,rfl⟩:=List.mem_map.mp hx
  have h1:=gR hy
  exact Mm W (by omega) (wg _ (by rw[h1.2.2];exact cq _))
 ·rw[aa,dP,hl]
  exact bH (c7 _ W.len) Xt
theorem UN{f:ae}{d e:List Nat}(hl:d.length=f.cells.length)(he:e.length=d.length)(wg:∀n∈bB d e,n<=20):left f (bB d e)<=left f d:=by
 have lm:(bB d e).length=d.length:=by unfold bB;rw[de,he,fY]
 refine CQ _ _ (by simp[lm]) λ i a b h1 h2=>?_
 rw[ak,bQ]at h1 h2
 by_cases hi:i<d.length
 ·have e1:d[i]? =some d[i]:=af hi
  have e2:e[i]? =some (e[i]'(by omega)):=af (by omega)
  have e3:(bB d e)[i]? =some (d[i]+e[i]'(by omega)):=by unfold bB;rw[aO,e1,e2]
  rw[e3]at h1
  rw[e1]at h2
  cases h1;cases h2
  simp only[cX]
  exact Bl (wg _ (aC e3)) (by omega)
 ·rw[aI (by omega)]at h2;cases h2
def qL(q:my):List Nat:=[q.n,q.d]
theorem DS{d e:List Nat}(h:e.length=d.length):(bB d e).length=d.length:=by unfold bB;rw[de,h,fY]
theorem more_le{d e:List Nat}(h:e.length=d.length)(wg:∀n∈bB d e,n<=20):∀n∈d,n<=20:=by
 intro n hn
 obtain⟨i,hi,rfl⟩:=cy hn
 have e1:d[i]? =some d[i]:=af hi
 have e2:e[i]? =some (e[i]'(by omega)):=af (by omega)
 have e3:(bB d e)[i]? =some (d[i]+e[i]'(by omega)):=by unfold bB;rw[aO,e1,e2]
 have:=wg _ (aC e3)
 omega
theorem Bm{f:ae}{d:List Nat}(wg:∀n∈d,n<=20)(j:Nat)(t:List Nat)(n:Nat)(h1:(nY f)[j]? =some t)(h2:d[j]? =some n):n<t.length:=by
 unfold nY at h1
 rw[ak]at h1
 cases q:f.cells[j]? with
 |none=>rw[q]at h1;cases h1
 |some c=>
  rw[q]at h1
  have e:rE c.weight c.finds f.parts=t:=Option.some.inj h1
  rw[<-e,Am]
  have:=wg n (aC h2)
  omega
inductive Mo (vs:List V) (H:Hp) (Q:VK) (Ex:XK):Prop
 |mk (a b c:ag) (as:List ag) (f:ae) (d e:List Nat):vs=[.ref a,.ref b,.ref c]->FW f->H a=some (.lst (as.map V.ref))->TabsAt H as (nY f)->H b=some (.lst (nV d))->H c=some (.lst (nV e))->d.length=f.cells.length->e.length=d.length->(∀n∈bB d e,n<=20)->0<left f d->GW H Q (nV (qL (dQ f d e)))->Mo vs H Q Ex
abbrev ab_:List Str:=["tables","had","row","left"]
theorem Tg:m7 ab_ ["tables","had","row"] (mZ Qq):=qf
abbrev Hz3(P:aK)(w:bj)(K:ah)(mg:Str->Option ao)(base:bF):Prop:=rA P w K mg base oE 1 "mass_sum" ["tables","had"] Ff
abbrev Hz4(P:aK)(w:bj)(K:ah)(mg:Str->Option ao)(base:bF):Prop:=rA P w K mg base oE 1 "fraction" ["upper","lower"] Cz
theorem aab(F:pG K "found" "found" Qq f fd)(oX:Hz3 P w K mg base)(vD:rA P w K mg base oE 1 "together" ["had","row"] yt)(ou:Hz4 P w K mg base):nO P w K mg base oE 2 f fd ["tables","had","row"] Mo:=by
 refine F.ok Tg (λ vs H Q E h=>?_) (λ oU A outer s H vs Q E hr h=>?_)
 ·obtain⟨a,b,c,as,f,d,e,rfl,_⟩:=h
  rfl
 ·obtain⟨a,b,c,as,f,d,e,rfl,W,ha,hT,hb,hc,hd,he,wg,hl0,k⟩:=h
  have nd:=Tg.nd
  refine⟨_,(mV (m6 (i:=3) nd rfl (Or.inl rfl) (nq (E:=E0) oX hr (by decide) nj (mU (pv 0) (mU (pv 1) mW))))
   (m4 (m9 (nq (E:=E0) ou hr (by decide) nj (mU (og sF (pv 3) (nq (E:=E0) oX hr (by decide) nj (mU (pv 0) (mU (nq (E:=E0) vD hr (by decide) nj (mU (pv 1) (mU (pv 2) mW))) mW)))) (mU (pv 3) mW)))))),?_⟩
  have tq:=more_le he wg
  have wB:=W.len
  refine⟨_,rfl,_,rfl,a,b,as,nY f,d,rfl,ha,hT,hb,by rw[pM,hd],by omega,Bm tq,λ H1 s1=>?_⟩
  rw[tL hd tq]
  refine⟨_,rfl,_,rfl,_,rfl,_,rfl,b,c,d,e,rfl,s1 _ _ hb,s1 _ _ hc,he.symm,by omega,λ H2 p s2 hp Zx=>?_⟩
  have vE:m5 H H2:=s1.trans s2
  have m1:=DS he
  refine⟨a,p,as,nY f,bB d e,rfl,vE _ _ ha,hT.same vE,Zx,by rw[pM,m1,hd],by omega,Bm wg,λ H3 s3=>?_⟩
  rw[tL (by rw[m1,hd]) wg]
  have le:=UN hd he wg
  refine⟨_,_,rfl,rfl,_,rfl,left f d-left f (bB d e),left f d,?_,hl0,ue W hd tq,bH (kR _ _) (ue W hd tq),λ H4 q s4 hq hq2=>k H4 q ((vE.trans s3).trans s4) ?_ hq2⟩
  ·rw[Int.ofNat_sub le]
  ·cases z:H q with
   |none=>rfl
   |some o=>rw[(vE.trans s3) _ _ z]at hq;cases hq
def F3(b:Option (Nat×Nat))(x:Option Nat×Nat):Option (Nat×Nat):=match x.1,b with
 |none,_=>b
 |some n,none=>some (x.2,n)
 |some n,some y=>if y.2<n then some (x.2,n)else b
def tu(l:List (Option Nat×Nat)):Option (Nat×Nat):=l.foldl F3 none
theorem wC(l:List (Option Nat)):fT l=(tu l.zipIdx).map λ y=>y.1:=rfl
theorem QO(l:List (Option Nat×Nat))(x:Option Nat×Nat):tu (l++[x])=F3 (tu l) x:=by
 unfold tu;rw[gn];rfl
def gM(o:Option (Nat×Nat)):Int:=match o with |none=> -1|some y=>y.2
theorem yu(b:Option (Nat×Nat))(c:Nat):F3 b (none,c)=b:=by cases b <;> rfl
theorem yw(b:Option (Nat×Nat))(c n:Nat):F3 b (some n,c)=if gM b<(n:Int)then some (c,n)else b:=by
 cases b with
 |none=>show some (c,n)=_;rw[if_pos (by show(-1:Int)< _;omega)]
 |some y=>
  show(if y.2<n then some (c,n)else some y)=_
  by_cases h:y.2<n
  ·rw[if_pos h,if_pos (by show(y.2:Int)<n;omega)]
  ·rw[if_neg h,if_neg (by show ¬ (y.2:Int)<n;omega)]
theorem Iq{f:ae}{d:List Nat}{i n:Nat}(h:d[i]? =some n):(fj f d)[i]? =some (if n<20 then some (c9 f i n)else none):=by
 unfold fj
 rw[ak,bQ,h]
 show some (if n<20 then some (c9 f (0+i) n)else none)=_
 rw[cX]
theorem Fg(f:ae)(d:List Nat):(fj f d).length=d.length:=by unfold fj;simp
theorem Ir:∀(l:List (Option Nat×Nat)) (b:Option (Nat×Nat)) (y:Nat×Nat),l.foldl F3 b=some y->b=some y\/(some y.2,y.1)∈l
 |[],b,y,h=>.inl h
 |(o,c)::l,b,y,h=>by
  rw[cp]at h
  rcases Ir l _ y h with q|q
  ·cases o with
   |none=>rw[yu]at q;exact .inl q
   |some n=>
    rw[yw]at q
    split at q
    ·cases q;exact .inr (by simp)
    ·exact .inl q
  ·exact .inr (by simp[q])
theorem UO(l:List (Option Nat×Nat))(y:Nat×Nat)(h:tu l=some y):(some y.2,y.1)∈l:=by
 rcases Ir l none y h with q|q
 ·cases q
 ·exact q
theorem F4:∀(l:List (Option Nat×Nat)) (b:Option (Nat×Nat)),l.foldl F3 b=none->b=none/\∀x∈l,x.1=none
 |[],b,h=>⟨h,λ x hx=>by cases hx⟩
 |(o,c)::l,b,h=>by
  rw[cp]at h
  obtain⟨h1,h2⟩:=F4 l _ h
  cases o with
  |none=>
   rw[yu]at h1
   refine⟨h1,λ x hx=>?_⟩
   rcases List.mem_cons.mp hx with q|q
   ·rw[q]
   ·exact h2 x q
  |some n=>
   rw[yw]at h1
   split at h1
   ·cases h1
   ·rename_i hc
    rw[h1]at hc
    exact absurd (show(-1:Int)<n by omega) hc
theorem Iu(l:List (Option Nat×Nat))(h:tu l=none):∀x∈l,x.1=none:=(F4 l none h).2
theorem BL{f:ae}{d:List Nat}(wg:∀n∈d,n<=20)(ht:aY d<20*d.length):∃c n,fT (fj f d)=some c/\d[c]? =some n/\n<20:=by
 cases q:tu (fj f d).zipIdx with
 |none=>
  have h:=Iu _ q
  exfalso
  have all:∀(i:Nat) (a b:Nat),(cH d.length 20)[i]? =some a->d[i]? =some b->a<=b:=by
   intro i a b e1 e2
   have ea:a=20:=by
    rw[gE]at e1
    split at e1
    ·exact(Option.some.inj e1).symm
    ·cases e1
   have g:=Iq (f:=f) e2
   have:=h (if b<20 then some (c9 f i b)else none,i) (by
    apply aC (i:=i)
    rw[bQ,g]
    show some (_,0+i)=_
    rw[cX])
   by_cases hb:b<20
   ·rw[if_pos hb]at this;cases this
   ·omega
  have h2:=CQ _ _ (by simp) all
  have e3:aY (cH d.length 20)=20*d.length:=by
   generalize d.length=n
   induction n with
   |zero=>rfl
   |succ n ih=>rw[List.replicate_succ,ot,ih];omega
  omega
 |some y=>
  have m:=UO _ y q
  have h1:=gR m
  have hy:y.1<d.length:=by have:=h1.2.1;rw[Fg]at this;omega
  have e:d[y.1]? =some d[y.1]:=af hy
  refine⟨y.1,d[y.1],by rw[wC,q];rfl,e,?_⟩
  have g:=Iq (f:=f) e
  have g2:(fj f d)[y.1]? =some (some y.2):=by
   rw[af (by rw[Fg];exact hy)]
   have:=h1.2.2
   simp only[Nat.sub_zero]at this
   rw[<-this]
  rw[g]at g2
  by_cases hb:d[y.1]<20
  ·exact hb
  ·rw[if_neg hb]at g2;cases g2
theorem Fh:∀(l:List Nat) (c n m:Nat),l[c]? =some n->aY (l.set c m)+n=aY l+m
 |[],c,n,m,h=>by simp at h
 |a::l,0,n,m,h=>by cases h;rw[List.set_cons_zero,ot,ot];omega
 |a::l,c+1,n,m,h=>by
  rw[List.set_cons_succ,ot,ot]
  have:=Fh l c n m (by simpa using h)
  omega
theorem Xu(d r:List Nat)(c n:Nat)(h:r[c]? =some n)(hl:r.length=d.length):bB d (r.set c (n+1))=(bB d r).set c ((bB d r).getD c 0+1):=by
 unfold bB
 apply bN
 intro i
 have hc:c<r.length:=(List.getElem?_eq_some_iff.mp h).1
 rw[aO,dX,dX,aO]
 by_cases e:c=i
 ·subst e
  rw[if_pos rfl,if_pos rfl,if_pos hc,if_pos (by rw[de,hl,fY];omega),aB,aO,h,af (show c<d.length by omega)]
  rfl
 ·rw[if_neg e,if_neg e]
theorem Fi(d r:List Nat)(hl:r.length=d.length):eM (bB d r) d=r:=by
 unfold eM bB
 apply bN
 intro i
 rw[aO,aO]
 by_cases hi:i<d.length
 ·rw[af hi,af (show i<r.length by omega)]
  show some _=some _
  congr 1;omega
 ·rw[aI (show d.length<=i by omega),aI (show r.length<=i by omega)]
theorem UP{f:ae}{d:List Nat}{k c:Nat}(h:fT (fj f d)=some c):jQ f (k+1) d=jQ f k (d.set c (d.getD c 0+1)):=by
 show(match fT (fj f d)with |some c=>_|none=>_)=_
 rw[h]
end n_
namespace L2
inductive aa6 (K:ah) (o i:V) (H:Hp) (Q:VK):Prop
 |mk (p:ag) (xs:List V) (k:Nat) (v:V):o= .ref p->i= .int k->nA K H p xs->xs[k]? =some v->Q v H->aa6 K o i H Q
def adI(K:ah):V->V->Hp->VK->Prop:=λ o i H Q=>aa6 K o i H Q
theorem xN{X:Cx}:acY X (adI X.K):=by
 intro pins s σ H o i ov iv Q I ro ri h
 obtain⟨p,xs,k,v,rfl,rfl,hq,he,q⟩:=h
 cases ro
 obtain⟨t,rfl⟩:=ri
 obtain⟨oh,r,pl,hz⟩:=I.list hq
 obtain⟨w,ew,wb⟩:=r.get he
 have hk:k<xs.length:=(List.getElem?_eq_some_iff.mp he).1
 have hn:=BY
 exact wpAny_getItem_list pl.isList (by omega) (by omega) (by simpa using ew) ⟨v,H,I,wb,q⟩
theorem yy{n k:Nat}(h:k<n):Zr n (k:Int)=some k:=by
 unfold Zr
 rw[if_pos (by omega),if_pos (by omega)];simp
end L2
namespace n_
theorem KW(d:List Nat):bB d (d.map λ _=>0)=d:=by
 unfold bB
 apply bN
 intro i
 rw[aO,ak]
 cases d[i]? <;> rfl
end n_
namespace L2
theorem QP{J:It}{H1:Hp}{n:Nat}{F:Nat->V->Hp->Prop}{g:TG}{tt:TT}{te:TE}{vs:List Nat}{σ:L2.St}{Q:ag->Hp->Prop}(W:Walk J H1 n F)(O:Nat->HO)(hz:n<=ay)
  (hs:∀i x H (R:V->Hp->Prop) (N:Hp->Prop),i<n->m5 H1 H->F i x H->(∀a H4,m5 H H4->H a=none->H4 a=some (O i)->R (.ref a) H4)->g x (wipe σ vs) H λ σ2 H2=>wipe σ2 vs=wipe σ vs/\tt σ2 H2 λ b H3=>if b=true then te σ2 H3 R else N H3)
  (fin:∀(D:ag) (H:Hp) (as:List ag),H1 D=none->m5 H1 H->H D=some (.lst (as.map V.ref))->as.length=n->(∀(j:Nat) (a:ag),as[j]? =some a->H1 a=none/\H a=some (O j))->Q D H)(D:ag)(hD:H1 D=none):
  ∃W:Nat->Nat->Hp->Prop,(∃m,W 0 m (upd H1 D (.lst [])))/\∀i m H,W i m H->
   (J.stop i H/\Q D H)\/(J.go i H/\∃Nx:Hp->Prop,(∀H',Nx H'->∃m',m'<m/\W (i+1) m' H')/\∀x H',J.Ht i H x H'->g x (wipe σ vs) H' λ σ2 H2=>wipe σ2 vs=wipe σ vs/\tt σ2 H2 λ b H3=>
    if b=true then te σ2 H3 λ y H4=>∃acc,H4 D=some (.lst acc)/\acc.length<ay/\Nx (upd H4 D (.lst (acc++[y])))else Nx H3):=by
 refine⟨λ i m H=>m=n-i/\i<=n/\m5 H1 H/\∃as:List ag,H D=some (.lst (as.map V.ref))/\as.length=i/\∀j a,as[j]? =some a->a≠D/\H1 a=none/\H a=some (O j),⟨n,by omega,aE _,λ b o e=>by rw[mY (nE e hD)];exact e,[],mX,rfl,λ j a e=>by simp at e⟩,?_⟩
 rintro i m H ⟨rfl,hi,sm,as,hd,hl,ha⟩
 by_cases rL:i<n
 ·refine .inr ⟨W.go i H rL sm,λ H'=>i+1<=n/\m5 H1 H'/\∃as:List ag,H' D=some (.lst (as.map V.ref))/\as.length=i+1/\∀j a,as[j]? =some a->a≠D/\H1 a=none/\H' a=some (O j),λ H' z=>⟨n-(i+1),by omega,rfl,z⟩,λ x H' y=>?_⟩
  obtain⟨hF,wc⟩:=W.Ht i H x H' rL sm y
  refine hs i x H' _ _ rL (sm.trans wc) hF λ a H4 Nn ha0 ha4=>?_
  have VR:H' D=some (.lst (as.map V.ref)):=wc _ _ hd
  have hd4:H4 D=some (.lst (as.map V.ref)):=Nn _ _ VR
  have naD:a≠D:=λ q=>by rw[q,VR]at ha0;cases ha0
  refine⟨_,hd4,?_,rL,λ b o e=>?_,as++[a],?_,?_,λ j b e=>?_⟩
  ·rw[aa];omega
  ·rw[mY (nE e hD)];exact Nn _ _ (wc _ _ (sm _ _ e))
  ·rw[mX,aF];rfl
  ·rw[aw,hl];rfl
  ·by_cases hj:j<as.length
   ·rw[bp hj]at e
    obtain⟨z1,z2,z3⟩:=ha j b e
    exact⟨z1,z2,by rw[mY z1];exact Nn _ _ (wc _ _ z3)⟩
   ·rw[bf (by omega)]at e
    have ej:j-as.length=0:=by
     obtain⟨z,_⟩:=List.getElem?_eq_some_iff.mp e
     simp at z;omega
    rw[ej]at e
    cases e
    have e2:j=i:=by omega
    subst e2
    refine⟨naD,?_,by rw[mY naD];exact ha4⟩
    cases q:H1 a with
    |none=>rfl
    |some o=>rw[wc _ _ (sm _ _ q)]at ha0;cases ha0
 ·have e:i=n:=by omega
  subst e
  exact .inl ⟨W.stop H sm,fin D H as hD sm hd hl λ j a e=>(ha j a e).2⟩
end L2
namespace n_
def pJ(f:ae)(ws:List Nat):ae:={ f with cells:=jM (λ(c:bD) w=>{ c with weight:=w }) f.cells ws }
theorem qK{f:ae}{ws:List Nat}(h:ws.length=f.cells.length):(pJ f ws).cells.length=f.cells.length:=by
 unfold pJ;rw[de,h,fY]
theorem QQ{f:ae}{ws:List Nat}{j w:Nat}{c:bD}(h1:f.cells[j]? =some c)(h2:ws[j]? =some w):(nY (pJ f ws))[j]? =some (rE w c.finds f.parts):=by
 unfold nY pJ
 rw[ak,aO,h1,h2];rfl
abbrev J9:List Str:=["field","weights","had"]
def An(CS:ag)(H:Hp)(x:ag)(v:V)(wl hl:ag)(ws d:List Nat):Prop:=(∃dx,H x=some (.ins CS dx (J9.zip [v,.ref wl,.ref hl])))/\H wl=some (.lst (nV ws))/\H hl=some (.lst (nV d))
structure pY(K:ah)(CS:ag):Prop where
 cl:G4 K CS
 n1:oA K CS "field"
 n2:oA K CS "weights"
 n3:oA K CS "had"
inductive DT (CS:ag) (vs:List V) (H:Hp) (Q:VK) (Ex:XK):Prop
 |mk (x wl hl:ag) (v:V) (ws d:List Nat) (z:Int):vs=[.ref x,.int z]->An CS H x v wl hl ws d->Q (.bl (bI z 0 ((d.length:Int)-1))) H->DT CS vs H Q Ex
theorem Xv:m7 ["self","number"] ["self","number"] (mZ wX):=qf
theorem Xw(F:pG K "is_cell" "Search.is_cell" wX f fd)(S:pY K CS)(o9:mg "len"=none):nO P w K mg base oE 1 f fd ["self","number"] (DT CS):=by
 refine F.ok Xv (λ vs H Q E h=>?_) (λ oU A outer s H vs Q E hr h=>?_)
 ·obtain⟨x,wl,hl,v,ws,d,z,rfl,_⟩:=h
  rfl
 ·obtain⟨x,wl,hl,v,ws,d,z,rfl,⟨⟨dx,h1⟩,h2,h3⟩,k⟩:=h
  refine⟨_,(m4 (m9 (vk p7 Hv nM (pv 1) (nJ nL rfl o9 aX (mU (m_ (pv 0) rfl) mW))))),?_⟩
  have e:bI z 0 ((d.length:Int)-1)=(decide (0<=z) && decide (z<(((nV d).length:Nat):Int))):=by
   unfold bI
   rw[m8]
   congr 1
   exact decide_eq_decide.mpr (by omega)
  rw[e]at k
  refine⟨_,rfl,_,_,rfl,rfl,_,rfl,p8 (λ a=>?_) λ a=>?_⟩
  ·refine⟨_,rfl,x,CS,dx,_,_,rfl,h1,S.cl,S.n3,rfl,hl,_,rfl,.inl (nA.of h3),_,_,rfl,rfl,?_⟩
   rw[a]at k
   exact k
  ·have a:decide (0<=z)=false:=by cases q:decide (0<=z)with |true=>exact absurd q a|false=>rfl
   rw[a]at k
   exact k
inductive DU (CS CF CC CT:ag) (vs:List V) (H:Hp) (Q:VK) (Ex:XK):Prop
 |mk (x wl hl a:ag) (ws d:List Nat) (f:ae):vs=[.ref x]->An CS H x (.ref a) wl hl ws d->qX CF CC CT H a f->ws.length=f.cells.length->FW (pJ f ws)->(∀H' p as,m5 H H'->H p=none->H' p=some (.lst (as.map V.ref))->TabsAt H' as (nY (pJ f ws))->Q (.ref p) H')->DU CS CF CC CT vs H Q Ex
abbrev BM:List Str:=["self","parts","cells","weight","cell"]
theorem Oo:m7 BM ["self"] (mZ tY):=qf
theorem Xx(F:pG K "tables" "Search.tables" tY f fd)(S:pY K CS)(nG:Rec P w K mg base "Field" CF CN)(ow:Rec P w K mg base "Cell" CC Fb)(xM:mg "zip"=none)(yz:rA P w K mg base oE 1 "mass_table" ["weight","finds","parts"] Al):nO P w K mg base oE 2 f fd ["self"] (DU CS CF CC CT):=by
 refine F.ok Oo (λ vs H Q E h=>?_) (λ oU A outer s H vs Q E hr h=>?_)
 ·obtain⟨x,wl,hl,a,ws,d,f,rfl,_⟩:=h
  rfl
 ·obtain⟨x,wl,hl,a,ws,d,f,rfl,⟨⟨dx,h1⟩,h2,h3⟩,⟨df,lc,lt,as,bs,f1,f2,f3,f4,f5⟩,hw,W,k⟩:=h
  have nd:=Oo.nd
  refine⟨_,(mV (m6 (i:=1) nd rfl (Or.inr rfl) (m_ (m_ (pv 0) rfl) rfl))
   (mV (m6 (i:=2) nd rfl (Or.inl rfl) (m_ (m_ (pv 0) rfl) rfl))
   (m4 (m9 (qp (own:=[("weight",3),("cell",4)]) rfl nd (ES rfl xM (mU (m_ (pv 0) rfl) (mU (pv 2) mW))) (by exact pz.of (N:=BM) (sc:=mZ tY) (by decide +kernel)) (λ _ _ _ _ _=>by exact(Bk K (n:=2) rfl (oG (nr (i:=3) nd rfl (Or.inl rfl)) (oG (nr (i:=4) nd rfl (Or.inl rfl)) rB)))) (λ _ _ _ _ _=>by exact oP) (λ _ _ _ _ _=>by exact(nq (E:=E0) yz hr (by decide) nj (mU (pv 3) (mU (xY K (pv 4)) (mU (pv 1) mW)))))))))),?_⟩
  refine⟨_,rfl,x,CS,dx,_,_,rfl,h1,S.cl,S.n1,rfl,a,CF,df,_,_,rfl,f1,nG.cl,nG.na "parts" (by simp),rfl,?_⟩
  refine⟨_,rfl,x,CS,dx,_,_,rfl,h1,S.cl,S.n1,rfl,a,CF,df,_,_,rfl,f1,nG.cl,nG.na "cells" (by simp),rfl,?_⟩
  refine⟨_,rfl,x,CS,dx,_,_,rfl,h1,S.cl,S.n2,rfl,_,rfl,wl,lc,_,_,rfl,nA.of h2,nA.of f2,?_⟩
  have wB:=W.len
  rw[qK hw]at wB
  refine QP (HL (K:=K) (nA.of h2) (nA.of f2) (by rw[m8,aa,f3.1,hw])) (λ j=>.lst (nV ((nY (pJ f ws)).getD j []))) (by rw[m8,aA];omega) (λ j y H3 R3 N3 hj pE hF kk=>?_) (λ D H3 ts hD pE uC hlen Z_=>?_)
  ·obtain⟨T,x1,y1,rfl,q1,q2,hT⟩:=hF
   obtain⟨wj,e1,rfl⟩:=oq q1
   rw[ak]at q2
   cases e2:as[j]? with
   |none=>rw[e2]at q2;cases q2
   |some aj=>
    rw[e2]at q2;cases q2
    have Y7:j<f.cells.length:=by rw[<-f3.1];exact(List.getElem?_eq_some_iff.mp e2).1
    have e3:f.cells[j]? =some f.cells[j]:=af Y7
    obtain⟨dc,ec⟩:=f3.2 j aj _ e2 e3
    have e4:=QQ e3 e1
    have e5:(nY (pJ f ws)).getD j []=rE wj f.cells[j].finds f.parts:=by rw[aB,e4];rfl
    have ce:(pJ f ws).cells[j]? =some { f.cells[j]with weight:=wj }:=by unfold pJ;rw[aO,e3,e1]
    have b1:=W.we _ (aC ce)
    have b2:=W.fi _ (aC ce)
    refine⟨T,_,rfl,BG.of hT,rfl,_,_,rfl,_,_,rfl,rfl,rfl,sy ⟨_,rfl,_,rfl,aj,CC,dc,_,_,rfl,pE _ _ ec,ow.cl,ow.na "finds" (by simp),rfl,_,rfl,wj,f.cells[j].finds,f.parts,rfl,b1,b2,W.p0,W.p1,λ H4 p s4 hp hp4=>kk p H4 s4 hp (by rw[hp4,e5])⟩⟩
  ·refine k H3 D ts pE hD uC ⟨by rw[hlen,m8,pM,qK hw,hw],λ j b t e1 e2=>?_⟩
   rw[(Z_ j b e1).2,aB,e2];rfl
inductive Mp (CS CF CC CT:ag) (vs:List V) (H:Hp) (Q:VK) (Ex:XK):Prop
 |mk (x wl hl a:ag) (ws d:List Nat) (f:ae):vs=[.ref x]->An CS H x (.ref a) wl hl ws d->qX CF CC CT H a f->ws.length=f.cells.length->FW (pJ f ws)->d.length=f.cells.length->(∀n∈d,n<=20)->(∀H',m5 H H'->Q (.int (left (pJ f ws) d)) H')->Mp CS CF CC CT vs H Q Ex
theorem aca:m7 ["self"] ["self"] (mZ z7):=qf
abbrev VX(P:aK)(w:bj)(K:ah)(mg:Str->Option ao)(base:bF)(CS:ag)(CF:ag)(CC:ag)(CT:ag):Prop:=um P w K mg base oE 2 CS "tables" ["self"] (DU CS CF CC CT)
theorem acb(F:pG K "left" "Search.left" z7 f fd)(S:pY K CS)(nQ:VX P w K mg base CS CF CC CT)(oX:Hz3 P w K mg base):nO P w K mg base oE 3 f fd ["self"] (Mp CS CF CC CT):=by
 refine F.ok aca (λ vs H Q E h=>?_) (λ oU A outer s H vs Q E hr h=>?_)
 ·obtain⟨x,wl,hl,a,ws,d,f,rfl,_⟩:=h
  rfl
 ·obtain⟨x,wl,hl,a,ws,d,f,rfl,hS,hF,hw,W,hd,tq,k⟩:=h
  have nI:=S.cl
  refine⟨_,(m4 (m9 (nq (E:=E0) oX hr (by decide) nj (mU (oS (E:=E0) nQ nI hr (by decide) nj (pv 0)) (mU (m_ (pv 0) rfl) mW))))),?_⟩
  obtain⟨⟨dx,h1⟩,h2,h3⟩:=id hS
  have wB:=W.len
  rw[qK hw]at wB
  refine⟨_,rfl,x,dx,_,rfl,h1,rfl,x,wl,hl,a,ws,d,f,rfl,hS,hF,hw,W,λ H1 p ts s1 hp J7 ht=>?_⟩
  refine⟨_,rfl,x,CS,dx,_,_,rfl,s1 _ _ h1,S.cl,S.n3,rfl,p,hl,ts,nY (pJ f ws),d,rfl,J7,ht,s1 _ _ h3,?_,?_,Bm tq,λ H2 s2=>?_⟩
  ·rw[pM,qK hw,hd]
  ·omega
  ·rw[tL (by rw[qK hw,hd]) tq]
   exact k H2 (s1.trans s2)
inductive Hd (CS:ag) (vs:List V) (H:Hp) (Q:VK) (Ex:XK):Prop
 |mk (x wl hl b:ag) (v:V) (ws d:List Nat) (zs:List Int):vs=[.ref x,.ref b]->An CS H x v wl hl ws d->H b=some (.lst (iL zs))->zs.length<=1600->(∀H',m5 H H'->Q (.bl (zs.length == d.length && zs.all λ z=>bI z 0 20)) H')->Hd CS vs H Q Ex
abbrev Xy:List Str:=["self","row","efforts"]
theorem Th:m7 Xy ["self","row"] (mZ uI):=qf
theorem aac(F:pG K "is_row" "Search.is_row" uI f fd)(S:pY K CS)(o9:mg "len"=none)(zJ:mg "all"=none)(nv:oC mg "MOST_EFFORTS" 20):nO P w K mg base oE 1 f fd ["self","row"] (Hd CS):=by
 refine F.ok Th (λ vs H Q E h=>?_) (λ oU A outer s H vs Q E hr h=>?_)
 ·obtain⟨x,wl,hl,b,v,ws,d,zs,rfl,_⟩:=h
  rfl
 ·obtain⟨x,wl,hl,b,v,ws,d,zs,rfl,⟨⟨dx,h1⟩,h2,h3⟩,hb,hz,k⟩:=h
  have nd:=Th.nd
  refine⟨_,(m4 (m9 (LF (rP ub (nJ nL rfl o9 aX (mU (pv 1) mW)) (nJ nL rfl o9 aX (mU (m_ (pv 0) rfl) mW)) (oH _)) (LD (nJ (B_ rfl) rfl zJ iK (mU (qp (own:=[("efforts",2)]) rfl nd (oJ (pv 1)) (by exact pz.of (N:=Xy) (sc:=mZ uI) (by decide +kernel)) (λ _ _ _ _ _=>by exact(nr (i:=2) nd rfl (Or.inl rfl))) (λ _ _ _ _ _=>by exact oP) (λ _ _ _ _ _=>by exact(vk p7 p7 nM (pv 2) (nP nv)))) mW)))))),?_⟩
  refine⟨_,rfl,b,_,rfl,.inl (nA.of hb),_,rfl,x,CS,dx,_,_,rfl,h1,S.cl,S.n3,rfl,hl,_,rfl,.inl (nA.of h3),rfl,?_⟩
  refine⟨_,rfl,p8 (λ hc=>?_) λ hc=>?_⟩
  ·have hc:=V.int.inj (of_decide_eq_true hc)
   rw[pU,m8]at hc
   have e:(zs.length == d.length)=true:=by rw[beq_iff_eq];omega
   rw[e]at k
   refine⟨_,rfl,b,rfl,⟨_,nA.of hb⟩,?_⟩
   refine oV (oQ (K:=K) (xs:=iL zs) (nA.of hb)) (zs.map λ z=>V.bl (bI z 0 20)) (by rw[pU,aa]) (by rw[pU,aA];omega) (λ j x y H3 R3 N3 hy pE hF kk=>?_) (λ D H3 hD pE uC=>?_)
   ·unfold iL at hF
    rw[ak]at hF hy
    cases q1:zs[j]? with
    |none=>rw[q1]at hF;cases hF
    |some z=>
     rw[q1]at hF hy
     cases hF;cases hy
     refine⟨rfl,sy ?_⟩
     exact ud gc gv gc (kk H3 (m5.refl _))
   ·refine⟨D,zs.map λ z=>bI z 0 20,rfl,nA.of (by rw[uC,aW];rfl),?_⟩
    have k:=k H3 pE
    rw[fC]at k
    rw[cJ];exact k
  ·have hc:¬ (V.int ((iL zs).length:Nat)=V.int ((nV d).length:Nat)):=λ q=>hc (decide_eq_true q)
   rw[pU,m8]at hc
   have e:(zs.length == d.length)=false:=by
    rw[beq_eq_false_iff_ne]
    intro q
    exact hc (by rw[q])
   rw[e]at k
   exact k H (m5.refl _)
inductive He (CS CF CC CT:ag) (vs:List V) (H:Hp) (Q:VK) (Ex:XK):Prop
 |mk (x dx a:ag) (v1 v2 v3:V) (f:ae):vs=[.ref x,.ref a]->H x=some (.ins CS dx (J9.zip [v1,v2,v3]))->qX CF CC CT H a f->f.cells.length<=16->x≠a->(∀H' wl hl,sD x H H'->H wl=none->H hl=none->wl≠hl->An CS H' x (.ref a) wl hl (f.cells.map (·.weight)) (f.cells.map λ _=>0)->Q .qt H')->He CS CF CC CT vs H Q Ex
abbrev yA:List Str:=["self","field","cell"]
theorem Ti:m7 yA ["self","field"] (mZ sJ):=qf
theorem aad(F:pG K "begin" "Search.begin" sJ f fd)(S:pY K CS)(nG:Rec P w K mg base "Field" CF CN)(ow:Rec P w K mg base "Cell" CC Fb)(ne:CS≠CC):nO P w K mg base oE 1 f fd ["self","field"] (He CS CF CC CT):=by
 refine F.ok Ti (λ vs H Q E h=>?_) (λ oU A outer s H vs Q E hr h=>?_)
 ·obtain⟨x,dx,a,v1,v2,v3,f,rfl,_⟩:=h
  rfl
 ·obtain⟨x,dx,a,v1,v2,v3,f,rfl,h1,⟨df,lc,lt,as,bs,f1,f2,f3,f4,f5⟩,wB,xa,k⟩:=h
  have nd:=Ti.nd
  refine⟨_,(mV (pS (pv 0) (pv 1) rfl)
   (mV (pS (pv 0) (qp (own:=[("cell",2)]) rfl nd (oJ (m_ (pv 1) rfl)) (by exact pz.of (N:=yA) (sc:=mZ sJ) (by decide +kernel)) (λ _ _ _ _ _=>by exact(nr (i:=2) nd rfl (Or.inl rfl))) (λ _ _ _ _ _=>by exact oP) (λ _ _ _ _ _=>by exact(xY K (pv 2)))) rfl)
   (m4 (pS (pv 0) (qp (own:=[("cell",2)]) rfl nd (oJ (m_ (pv 1) rfl)) (by exact pz.of (N:=yA) (sc:=mZ sJ) (by decide +kernel)) (λ _ _ _ _ _=>by exact(nr (i:=2) nd rfl (Or.inl rfl))) (λ _ _ _ _ _=>by exact oP) (λ _ _ _ _ _=>by exact nM)) rfl)))),?_⟩
  have lcx:lc≠x:=λ q=>by rw[q,h1]at f2;cases f2
  have aix:∀j b c,as[j]? =some b->f.cells[j]? =some c->b≠x:=λ j b c e1 e2 q=>by
   obtain⟨dc,ec⟩:=f3.2 j b c e1 e2
   rw[q,h1]at ec
   injection ec with ec
   injection ec with ec
   exact ne ec
  refine⟨_,rfl,_,rfl,x,CS,dx,_,rfl,h1,S.cl,S.n1,(by show 3<1000;decide),?_⟩
  generalize hH0:upd H x _=H0
  have k0:∀b o,b≠x->H b=some o->H0 b=some o:=λ b o n e=>by rw[<-hH0,mY n];exact e
  have x0:H0 x=some (.ins CS dx (J9.zip [.ref a,v2,v3])):=by rw[<-hH0,mX];rfl
  refine⟨_,rfl,a,CF,df,_,_,rfl,k0 _ _ (Ne.symm xa) f1,nG.cl,nG.na "cells" (by simp),rfl,lc,rfl,⟨_,nA.of (k0 _ _ lcx f2)⟩,?_⟩
  have lz:(as.map V.ref).length<=ay:=by rw[aa,f3.1,aA];omega
  refine oV (oQ (K:=K) (xs:=as.map V.ref) (nA.of (k0 _ _ lcx f2))) (nV (f.cells.map (·.weight))) (by rw[m8,aa,aa,f3.1]) lz (λ j y z H3 R3 N3 hy pE hF kk=>?_) (λ D H3 hD pE uC=>?_)
  ·obtain⟨c,q,rfl⟩:=oq hy
   rw[ak]at hF q
   cases q1:as[j]? with
   |none=>rw[q1]at hF;cases hF
   |some aj=>
    cases q2:f.cells[j]? with
    |none=>rw[q2]at q;cases q
    |some cj=>
     rw[q1]at hF;rw[q2]at q
     cases hF;cases q
     obtain⟨dc,ec⟩:=f3.2 j aj cj q1 q2
     exact⟨rfl,sy ⟨_,rfl,aj,CC,dc,_,_,rfl,pE _ _ (k0 _ _ (aix j aj cj q1 q2) ec),ow.cl,ow.na "weight" (by simp),rfl,kk H3 (m5.refl _)⟩⟩
  have x3:=pE _ _ x0
  refine⟨_,rfl,x,CS,dx,_,rfl,x3,S.cl,S.n2,(by show 3<1000;decide),?_⟩
  have Dx:D≠x:=λ q=>by rw[q,x0]at hD;cases hD
  generalize UQ:upd H3 x _=H4
  have k4:∀b o,b≠x->H0 b=some o->H4 b=some o:=λ b o n e=>by rw[<-UQ,mY n];exact pE _ _ e
  have x4:H4 x=some (.ins CS dx (J9.zip [.ref a,.ref D,v3])):=by rw[<-UQ,mX];rfl
  have D4:H4 D=some (.lst (nV (f.cells.map (·.weight)))):=by rw[<-UQ,mY Dx];exact uC
  have f24:=k4 _ _ lcx (k0 _ _ lcx f2)
  refine⟨_,rfl,a,CF,df,_,_,rfl,k4 _ _ (Ne.symm xa) (k0 _ _ (Ne.symm xa) f1),nG.cl,nG.na "cells" (by simp),rfl,lc,rfl,⟨_,nA.of f24⟩,?_⟩
  refine oV (oQ (K:=K) (xs:=as.map V.ref) (nA.of f24)) (nV (f.cells.map λ _=>0)) (by rw[m8,aa,aa,f3.1]) lz (λ j y z H5 R5 N5 hy sm5 hF kk=>?_) (λ D2 H5 hD2 sm5 hD5=>?_)
  ·obtain⟨c,q,rfl⟩:=oq hy
   have e:c=0:=by
    rw[ak]at q
    cases z:f.cells[j]? with
    |none=>rw[z]at q;cases q
    |some n=>rw[z]at q;exact(Option.some.inj q).symm
   subst e
   exact⟨rfl,sy (kk H5 (m5.refl _))⟩
  refine⟨_,rfl,x,CS,dx,_,rfl,sm5 _ _ x4,S.cl,S.n3,(by show 3<1000;decide),?_⟩
  have D2x:D2≠x:=λ q=>by rw[q,x4]at hD2;cases hD2
  have D12:D≠D2:=λ q=>by rw[<-q,D4]at hD2;cases hD2
  have up:∀b o,b≠x->H b=some o->H5 b=some o:=λ b o n e=>sm5 _ _ (k4 b o n (k0 b o n e))
  refine k _ D D2 (λ b o e n _=>by rw[mY n];exact up b o n e) ?_ ?_ D12 ⟨⟨dx,by rw[mX];rfl⟩,?_,?_⟩
  ·cases q:H D with
   |none=>rfl
   |some o=>rw[k0 _ _ Dx q]at hD;cases hD
  ·cases q:H D2 with
   |none=>rfl
   |some o=>rw[k4 _ _ D2x (k0 _ _ D2x q)]at hD2;cases hD2
  ·rw[mY Dx];exact sm5 _ _ D4
  ·rw[mY D2x];exact hD5
theorem Oq(r:List (List Nat)):∀(a:List Nat),r.foldl (λ a y=>a++(32::y)) a=a++(r.map λ y=>32::y).flatten:=by
 induction r with
 |nil=>intro a;simp
 |cons y r ih=>intro a;rw[cp,ih,aH,dY,bA]
theorem wk(n:Nat):(Str.ofString (toString ((n:Nat):Int)))=strOf (dB n):=by
 rw[oK];rfl
theorem Iv:∀(r:List (List Nat)) (x:List Nat),TL.FL [32] (x::r)=x++(r.map λ y=>32::y).flatten
 |[],x=>by show x=_;simp
 |y::r,x=>by
  show x++([32]++TL.FL [32] (y::r))=_
  rw[Iv r y,aH,dY]
  simp
theorem UR(a b:List Nat):strOf a++strOf b=strOf (a++b):=by
 show(⟨a.toArray++b.toArray⟩:Str)=⟨(a++b).toArray⟩
 rw[List.append_toArray]
theorem KY(x:List Nat)(r:List (List Nat)):Txt.join (Str.ofString " ") ((x::r).map strOf)=strOf (x++(r.map λ y=>32::y).flatten):=by
 rw[TL.join_eq]
 apply TL.Qn
 rw[TL.G8,show TL.tl (Str.ofString " ")=[32] by decide,aW,show(TL.tl ∘ strOf)=id from rfl,hZ,Iv]
theorem Iw:∀(r:List (List Nat)),(∀w∈r,w.length<=30)->((r.map λ y=>32::y).flatten).length<=31*r.length
 |[],_=>ax _
 |w::r,h=>by
  rw[aH,dY,aw,aD,aD]
  have h1:=h w (by simp)
  have h2:=Iw r λ x hx=>h x (by simp[hx])
  omega
theorem US(x:List Nat)(r:List (List Nat)):Txt.join (Str.ofString " ") ((x::r).map strOf)++Str.ofString ";\n"=strOf (ic (x::r)):=by
 rw[KY,oK ";\n",UR]
 unfold ic
 dsimp only
 rw[Oq]
 rfl
def QR(l:List (List Nat)):List V:=l.map λ w=>V.str (strOf w)
inductive QS (vs:List V) (H:Hp) (Q:VK) (Ex:XK):Prop
 |mk (a:ag) (l:List (List Nat)):vs=[.ref a]->H a=some (.lst (QR l))->l≠[]->l.length<=30->(∀w∈l,w.length<=30)->Q (.str (strOf (ic l))) H->QS vs H Q Ex
theorem acd:m7 ["pieces"] ["pieces"] (mZ WS):=qf
theorem Iy:∀(l:List (List Nat)),(∀w∈l,w.length<=30)->((l.map strOf).map (·.length)).sum<=30*l.length
 |[],_=>ax _
 |w::l,h=>by
  rw[aH,aH,iA,aD]
  have h1:(strOf w).length<=30:=by show w.toArray.size<=30;rw[aL];exact h w (by simp)
  have h2:=Iy l λ x hx=>h x (by simp[hx])
  omega
theorem ace(F:pG K "line" "line" WS f fd):nO P w K mg base oE 1 f fd ["pieces"] QS:=by
 refine F.ok acd (λ vs H Q E h=>?_) (λ oU A outer s H vs Q E hr h=>?_)
 ·obtain⟨a,l,rfl,_⟩:=h
  rfl
 ·obtain⟨a,l,rfl,ha,xG,hl,hw,k⟩:=h
  refine⟨_,(m4 (m9 (og Qd (LU qk (pv 0)) qk))),?_⟩
  match l,xG with
  |x::r,_=>
   have sl:=Iy (x::r) hw
   have hx:=hw x (by simp)
   have fl:=Iw r λ z hz=>hw z (by simp[hz])
   rw[aD]at hl sl
   refine⟨⟨_,rfl⟩,_,rfl,_,a,(x::r).map strOf,rfl,rfl,.inl (nA.of (by rw[ha];unfold QR;rw[aW];rfl)),?_,_,_,rfl,rfl,?_,?_⟩
   ·rw[aa,aD,show(Str.ofString " ").length=1 by decide];omega
   ·rw[KY,show(Str.ofString ";\n").length=2 by decide,aA]
    show(x++_).toArray.size+2<=_
    rw[aL,aw];omega
   ·rw[US];exact k
def yB(l:cB):Prop:=∀x∈l,∀w,x.2=Vbmrac.Tok.word w->w.length<=8
theorem yB.tail{x:Nat×Vbmrac.Tok}{l:cB}(h:yB (x::l)):yB l:=λ y hy=>h y (by simp[hy])
theorem yB.drop{l:cB}(h:yB l)(n:Nat):yB (l.drop n):=λ y hy=>h y (List.mem_of_mem_drop hy)
theorem Ao:∀(f i:Nat) (t:List Nat),yB (iE f i t)
 |0,_,_=>λ x hx=>by cases hx
 |_+1,_,[]=>λ x hx=>by cases hx
 |f+1,i,c::t=>by
  show yB (if c=32\/c=10 then _ else _:cB)
  split
  ·exact Ao f (i+1) t
  ·split
   ·intro x hx w e
    rcases List.mem_cons.mp hx with q|q
    ·rw[q]at e;cases e
    ·exact Ao f (i+1) t x q w e
   ·split
    ·dsimp only
     split
     ·intro x hx w e
      simp at hx
      rw[hx]at e;cases e
     ·rename_i hl
      intro x hx w e
      rcases List.mem_cons.mp hx with q|q
      ·rw[q]at e;cases e;omega
      ·exact Ao f _ _ x q w e
    ·split
     ·dsimp only
      split
      ·intro x hx w e
       simp at hx
       rw[hx]at e;cases e
      ·intro x hx w e
       rcases List.mem_cons.mp hx with q|q
       ·rw[q]at e;cases e
       ·exact Ao f _ _ x q w e
     ·intro x hx w e
      simp at hx
      rw[hx]at e;cases e
theorem vF{en:Nat}{s:String}{l r:cB}(h:bM en s l= .ok r)(hl:yB l):yB r:=by
 unfold bM at h
 split at h
 ·cases h;exact hl.drop 1
 ·cases h
theorem Xz{en:Nat}{l r:cB}(h:semi en l= .ok r)(hl:yB l):yB r:=by
 unfold lH at h
 split at h
 ·cases h;exact hl.drop 1
 ·cases h
theorem Hf{en lo hi:Nat}{l r:cB}{n:Nat}(h:numAt en lo hi l= .ok (n,r))(hl:yB l):yB r:=by
 unfold jz at h
 split at h
 ·split at h
  ·cases h;exact hl.tail
  ·cases h
 ·cases h
theorem XA{en:Nat}{l r:cB}{n:Nat×List Nat}(h:nameAt en l= .ok (n,r))(hl:yB l):yB r/\n.2.length<=8:=by
 unfold k_ at h
 split at h
 ·split at h
  ·cases h
  ·cases h;exact⟨hl.tail,hl _ (bU ..) _ rfl⟩
 ·cases h
theorem aae{en:Nat}{f:ae}{l r:cB}{c:bD}(h:xJ en f l= .ok (c,r))(hl:yB l):yB r/\c.name.length<=8:=by
 unfold xJ at h
 cases e1:bM en "cell" l with
 |error b=>rw[e1]at h;cases h
 |ok l1=>
  rw[e1]at h
  dsimp only[Bind.bind,Except.bind]at h
  cases e2:nameAt en l1 with
  |error b=>rw[e2]at h;cases h
  |ok x=>
   obtain⟨n,l2⟩:=x
   rw[e2]at h
   dsimp only at h
   split at h
   ·cases h
   ·cases e3:bM en "weight" l2 with
    |error b=>rw[e3]at h;cases h
    |ok l3=>
     rw[e3]at h
     dsimp only at h
     cases e4:numAt en 0 d9 l3 with
     |error b=>rw[e4]at h;cases h
     |ok x4=>
      obtain⟨n4,l4⟩:=x4
      rw[e4]at h
      dsimp only at h
      cases e5:bM en "finds" l4 with
      |error b=>rw[e5]at h;cases h
      |ok l5=>
       rw[e5]at h
       dsimp only at h
       cases e6:numAt en 0 f.parts l5 with
       |error b=>rw[e6]at h;cases h
       |ok x6=>
        obtain⟨n6,l6⟩:=x6
        rw[e6]at h
        dsimp only at h
        cases e7:bM en "time" l6 with
        |error b=>rw[e7]at h;cases h
        |ok l7=>
         rw[e7]at h
         dsimp only at h
         cases e8:numAt en 1 fm l7 with
         |error b=>rw[e8]at h;cases h
         |ok x8=>
          obtain⟨n8,l8⟩:=x8
          rw[e8]at h
          dsimp only at h
          cases e9:semi en l8 with
          |error b=>rw[e9]at h;cases h
          |ok l9=>
           rw[e9]at h
           dsimp only at h
           cases h
           obtain⟨a2,a3⟩:=XA e2 (vF e1 hl)
           exact⟨Xz e9 (Hf e8 (vF e7 (Hf e6 (vF e5 (Hf e4 (vF e3 a2)))))),a3⟩
theorem UT(en:Nat):∀(k:Nat) (f:ae) (l:cB) (g:ae) (r:cB),yB l->(∀c∈f.cells,c.name.length<=8)->fN en k f l= .ok (g,r)->∀c∈g.cells,c.name.length<=8:=by
 intro k
 induction k with
 |zero=>intro f l g r _ hf h;cases h;exact hf
 |succ k ih=>
  intro f l g r hl hf h
  rw[yl]at h
  split at h
  ·cases h;exact hf
  ·cases e:xJ en f l with
   |error b=>rw[e]at h;cases h
   |ok x=>
    obtain⟨c,r1⟩:=x
    rw[e]at h
    dsimp only at h
    obtain⟨a1,a2⟩:=aae e hl
    refine ih _ _ _ _ a1 (λ d hd=>?_) h
    rcases List.mem_append.mp hd with q|q
    ·exact hf d q
    ·simp at q;subst q;exact a2
theorem QT{t:List Nat}{g:ae}(h:cW t= .ok g):∀c∈g.cells,c.name.length<=8:=by
 rw[Mj]at h
 split at h
 ·cases h
 ·rename_i l1 e1
  split at h
  ·cases h
  ·rename_i p l2 e2
   split at h
   ·cases h
   ·rename_i l3 e3
    split at h
    ·cases h
    ·rename_i f l4 e4
     split at h
     ·cases h
     ·rename_i g' l5 e5
      split at h
      ·cases h
       obtain⟨a1,a2,a3,a4,_⟩:=CK _ _ ⟨p,[],[]⟩ _ _ _ (cM _) ⟨eU,aE _,λ c hc=>absurd hc (by simp)⟩ e4
       obtain⟨b1,b2,b3⟩:=CM _ _ _ _ _ _ ⟨by rw[a3];exact aE _,by rw[a3];exact aE _,λ c hc=>by rw[a3]at hc;exact absurd hc (by simp)⟩ e5
       rw[b3]
       exact UT _ _ _ _ _ _ (Xz e3 (Hf e2 (vF e1 (Ao _ _ _)))) (λ c hc=>absurd hc (by simp)) e4
      ·cases h
theorem sO:∀n:Nat,n<=1000->(dB n).length<=30:=by decide +kernel
def CU(c:bD):List Nat:=ic [bY "cell",c.name,bY "weight",dB c.weight,bY "finds",dB c.finds,bY "time",dB c.time]
def w9(f:ae)(t:aJ):List Nat:=ic ([bY "team",dB t.efforts,bY "in"]++t.cells.map λ c=>(bx f c).name)
theorem xO{n:Nat}(h:n<=1000):((n:Nat):Int).natAbs.log2<1920:=by
 show n.log2<1920
 by_cases hz:n=0
 ·subst hz;decide
 ·exact aS ((mG hz).mpr (show n<2 ^ 10 by omega)) (by decide)
inductive CV (CC:ag) (vs:List V) (H:Hp) (Q:VK) (Ex:XK):Prop
 |mk (a:ag) (c:bD):vs=[.ref a]->Ca CC H a c->c.name.length<=8->c.weight<=1000->c.finds<=1000->c.time<=1000->(∀H',m5 H H'->Q (.str (strOf (CU c))) H')->CV CC vs H Q Ex
theorem QU:m7 ["cell"] ["cell"] (mZ E2):=qf
abbrev Hz6(P:aK)(w:bj)(K:ah)(mg:Str->Option ao)(base:bF):Prop:=rA P w K mg base oE 1 "line" ["pieces"] QS
theorem QV(F:pG K "cell_line" "cell_line" E2 f fd)(ow:Rec P w K mg base "Cell" CC Fb)(yC:Hz6 P w K mg base)(Iz:mg "str"=none):nO P w K mg base oE 2 f fd ["cell"] (CV CC):=by
 refine F.ok QU (λ vs H Q E h=>?_) (λ oU A outer s H vs Q E hr h=>?_)
 ·obtain⟨a,c,rfl,_⟩:=h
  rfl
 ·obtain⟨a,c,rfl,⟨dx,ha⟩,hn,h1,h2,h3,k⟩:=h
  refine⟨_,(m4 (m9 (nq (E:=E0) yC hr (by decide) nj (mU (nN (mU qk (mU (m_ (pv 0) rfl) (mU qk (mU (sj sG rfl Iz jW (mU (m_ (pv 0) rfl) mW)) (mU qk (mU (sj sG rfl Iz jW (mU (m_ (pv 0) rfl) mW)) (mU qk (mU (sj sG rfl Iz jW (mU (m_ (pv 0) rfl) mW)) mW))))))))) mW)))),?_⟩
  refine⟨_,rfl,a,CC,dx,_,_,rfl,ha,ow.cl,ow.na "name" (by simp),rfl,?_⟩
  refine⟨_,rfl,a,CC,dx,_,_,rfl,ha,ow.cl,ow.na "weight" (by simp),rfl,_,rfl,xO h1,?_⟩
  refine⟨_,rfl,a,CC,dx,_,_,rfl,ha,ow.cl,ow.na "finds" (by simp),rfl,_,rfl,xO h2,?_⟩
  refine⟨_,rfl,a,CC,dx,_,_,rfl,ha,ow.cl,ow.na "time" (by simp),rfl,_,rfl,xO h3,?_⟩
  refine⟨(by show 8<=ay;decide),λ p hp=>⟨p,[bY "cell",c.name,bY "weight",dB c.weight,bY "finds",dB c.finds,bY "time",dB c.time],rfl,?_,by simp,by simp,λ z hz=>?_,k _ (m5.new hp)⟩⟩
  ·rw[mX]
   show some (HO.lst [V.str (Str.ofString "cell"),V.str (strOf c.name),V.str (Str.ofString "weight"),V.str (Str.ofString (toString ((c.weight:Nat):Int))),V.str (Str.ofString "finds"),V.str (Str.ofString (toString ((c.finds:Nat):Int))),V.str (Str.ofString "time"),V.str (Str.ofString (toString ((c.time:Nat):Int)))])=_
   rw[wk,wk,wk,oK "cell",oK "weight",oK "finds",oK "time"]
   rfl
  ·have d1:=sO _ h1
   have d2:=sO _ h2
   have d3:=sO _ h3
   have b1:(bY "cell").length<=30:=by decide
   have b2:(bY "weight").length<=30:=by decide
   have b3:(bY "finds").length<=30:=by decide
   have b4:(bY "time").length<=30:=by decide
   simp only[dh,cK,or_false]at hz
   rcases hz with rfl|rfl|rfl|rfl|rfl|rfl|rfl|rfl <;> omega
inductive CW (CC CT:ag) (vs:List V) (H:Hp) (Q:VK) (Ex:XK):Prop
 |mk (a lc:ag) (as:List ag) (f:ae) (t:aJ):vs=[.ref a,.ref lc]->rX CT H a t->H lc=some (.lst (as.map V.ref))->qI CC H as f.cells->f.cells.length<=16->(∀c∈f.cells,c.name.length<=8)->Mg f.cells.length t->(∀H',m5 H H'->Q (.str (strOf (w9 f t))) H')->CW CC CT vs H Q Ex
abbrev KZ:List Str:=["team","cells","names","number"]
theorem IA:m7 KZ ["team","cells"] (mZ Bf):=qf
theorem Ap:∀{n:Nat} {l:List Nat},l.Nodup->(∀c∈l,c<n)->l.length<=n
 |0,[],_,_=>ax _
 |0,c::l,_,hl=>absurd (hl c (by simp)) (by omega)
 |n+1,l,h,hl=>by
  by_cases hn:n∈l
  ·have h1:=Ap (n:=n) (h.erase n) λ c hc=>by
    obtain⟨z1,z2⟩:=h.mem_erase_iff.mp hc
    have:=hl c z2
    omega
   rw[List.length_erase_of_mem hn]at h1
   omega
  ·have h1:=Ap (n:=n) h λ c hc=>by
    have:=hl c hc
    have:c≠n:=λ q=>hn (q ▸ hc)
    omega
   omega
theorem QW(F:pG K "team_line" "team_line" Bf f fd)(ow:Rec P w K mg base "Cell" CC Fb)(qm:Rec P w K mg base "Team" CT J8)(yC:Hz6 P w K mg base)(Iz:mg "str"=none):nO P w K mg base oE 2 f fd ["team","cells"] (CW CC CT):=by
 refine F.ok IA (λ vs H Q E h=>?_) (λ oU A outer s H vs Q E hr h=>?_)
 ·obtain⟨a,lc,as,f,t,rfl,_⟩:=h
  rfl
 ·obtain⟨a,lc,as,f,t,rfl,⟨dx,ml,h1,h2,h3⟩,hlc,Ml,wB,XB,tok,k⟩:=h
  have nd:=IA.nd
  refine⟨_,(mV (zV (i:=2) (own:=[("number",3)]) rfl nd rfl rfl rfl (oJ (m_ (pv 0) rfl)) (by exact pz.of (N:=KZ) (sc:=mZ Bf) (by decide +kernel)) (λ _ _ _ _ _=>by exact(nr (i:=3) nd rfl (Or.inl rfl))) (λ _ _ _ _ _=>by exact oP) (λ _ _ _ _ _=>by exact(xY K (tX K (pv 1) (pv 3)))))
   (m4 (m9 (nq (E:=E0) yC hr (by decide) nj (mU (og qT (nN (mU qk (mU (sj sG rfl Iz jW (mU (m_ (pv 0) rfl) mW)) (mU qk mW)))) (pv 2)) mW))))),?_⟩
  have tl:=Ap tok.nd tok.lt
  refine⟨_,rfl,a,CT,dx,_,_,rfl,h1,qm.cl,qm.na "cells" (by simp),rfl,ml,rfl,⟨_,nA.of h2⟩,?_⟩
  refine oV (oQ (K:=K) (xs:=nV t.cells) (nA.of h2)) (QR (t.cells.map λ c=>(bx f c).name)) (by unfold QR;rw[m8,aa,aa]) (by rw[m8,aA];omega) (λ j y z H3 R3 N3 hy pE hF kk=>?_) (λ D H3 hD pE uC=>?_)
  ·obtain⟨c,q,rfl⟩:=oq hF
   have cm:=tok.lt c (aC q)
   unfold QR at hy
   rw[ak,ak,q]at hy
   cases hy
   have e1:f.cells[c]? =some f.cells[c]:=af cm
   have e2:as[c]? =some (as[c]'(by rw[Ml.1];exact cm)):=af _
   have ca:bx f c=f.cells[c]:=by unfold bx;rw[aB,e1];rfl
   obtain⟨dc,ec⟩:=Ml.2 c _ _ e2 e1
   have kk:=kk H3 (m5.refl _)
   refine⟨rfl,sy ⟨_,rfl,_,rfl,lc,_,_,_,rfl,rfl,nA.of (pE _ _ hlc),oo (by rw[ak,e2];rfl),_,CC,dc,_,_,rfl,pE _ _ ec,ow.cl,ow.na "name" (by simp),rfl,?_⟩⟩
   show R3 (V.str (strOf f.cells[c].name)) H3
   rw[<-ca];exact kk
  have e24:t.efforts<=1000:=by have:=tok.efforts;omega
  refine⟨_,rfl,a,CT,dx,_,_,rfl,pE _ _ h1,qm.cl,qm.na "efforts" (by simp),rfl,_,rfl,xO e24,(by show 3<=ay;decide),λ p hp=>?_⟩
  have sp:m5 H3 (upd H3 p (.lst [V.str (Str.ofString "team"),V.str (Str.ofString (toString ((t.efforts:Nat):Int))),V.str (Str.ofString "in")])):=m5.new hp
  refine⟨_,rfl,p,D,_,_,rfl,rfl,mX,sp _ _ uC,?_,λ q hq=>?_⟩
  ·unfold QR;rw[aa,aa,aA];show 3+ _<=_;omega
  refine⟨q,[bY "team",dB t.efforts,bY "in"]++t.cells.map (λ c=>(bx f c).name),rfl,?_,by simp,?_,λ z hz=>?_,k _ ((pE.trans sp).trans (m5.new hq))⟩
  ·rw[mX]
   show some (HO.lst ([V.str (Str.ofString "team"),V.str (Str.ofString (toString ((t.efforts:Nat):Int))),V.str (Str.ofString "in")]++QR (t.cells.map λ c=>(bx f c).name)))=_
   rw[wk,oK "team",oK "in"]
   unfold QR
   rw[aF];rfl
  ·rw[aw,aa];show 3+ _<=30;omega
  ·have d1:=sO _ e24
   have b1:(bY "team").length<=30:=by decide
   have b2:(bY "in").length<=30:=by decide
   rcases List.mem_append.mp hz with q1|q1
   ·simp only[dh,cK,or_false]at q1
    rcases q1 with rfl|rfl|rfl <;> omega
   ·obtain⟨c,hc,rfl⟩:=List.mem_map.mp q1
    have cm:=tok.lt c hc
    have ca:bx f c=f.cells[c]:=by unfold bx;rw[aB,af cm];rfl
    rw[ca]
    have:=XB _ (cq cm)
    omega
end n_
namespace L2
theorem XC{H1:Hp}(x:Str):Walk (Its x) H1 x.cps.size (λ i v _=>∃c,x.cps[i]? =some c/\v= .str ⟨#[c]⟩) where
 go:=λ i H hi sm=>hi
 Ht:=λ i H v H' hi sm y=>by
  obtain⟨rfl,c,e1,e2⟩:=y
  exact⟨⟨c,e1,e2⟩,m5.refl _⟩
 stop:=λ H sm=>ax _
end L2
namespace n_
theorem K0:∀(l:List (List Nat)),TL.FL [] l=l.flatten
 |[]=>rfl
 |[x]=>by show x=_;simp
 |x::y::r=>by
  show x++([]++TL.FL [] (y::r))=_
  rw[K0 (y::r),dY];rfl
theorem XD(l:List (List Nat)):Txt.join (Str.ofString "") (l.map strOf)=strOf l.flatten:=by
 rw[TL.join_eq]
 apply TL.Qn
 rw[TL.G8,show TL.tl (Str.ofString "")=[] by decide,aW,show(TL.tl ∘ strOf)=id from rfl,hZ,K0]
theorem DV{l:List (List Nat)}(hl:l.length<=30)(hw:∀w∈l,w.length<=30):(ic l).length<=1000:=by
 unfold ic
 cases l with
 |nil=>simp
 |cons x r=>
  dsimp only
  rw[Oq,aw,aw]
  have h1:=hw x (by simp)
  have h2:=Iw r λ z hz=>hw z (by simp[hz])
  rw[aD]at hl
  show _+2<=1000
  omega
theorem Mq{B:Nat}:∀(l:List (List Nat)),(∀w∈l,w.length<=B)->l.flatten.length<=l.length*B
 |[],_=>by simp
 |w::l,h=>by
  rw[dY,aw,aD,jY]
  have h1:=h w (by simp)
  have h2:=Mq l λ x hx=>h x (by simp[hx])
  omega
theorem Tj:∀(l:List (List Nat)),((l.map strOf).map (·.length)).sum=l.flatten.length
 |[]=>rfl
 |w::l=>by
  rw[aH,aH,iA,Tj l,dY,aw]
  show w.toArray.size+ _=_
  rw[aL]
theorem IC(f:ae):iB f=([ic [bY "parts",dB f.parts]]++f.cells.map CU++f.teams.map (w9 f)).flatten:=by
 rw[kl,kl]
 unfold iB
 rw[k9,k9,bA]
 congr 1
 simp
theorem ID{c:bD}(hn:c.name.length<=8)(h1:c.weight<=1000)(h2:c.finds<=1000)(h3:c.time<=1000):(CU c).length<=1000:=by
 refine DV (by simp) λ z hz=>?_
 have d1:=sO _ h1
 have d2:=sO _ h2
 have d3:=sO _ h3
 have b1:(bY "cell").length<=30:=by decide
 have b2:(bY "weight").length<=30:=by decide
 have b3:(bY "finds").length<=30:=by decide
 have b4:(bY "time").length<=30:=by decide
 simp only[dh,cK,or_false]at hz
 rcases hz with rfl|rfl|rfl|rfl|rfl|rfl|rfl|rfl <;> omega
theorem IE{f:ae}{t:aJ}(wB:f.cells.length<=16)(XB:∀c∈f.cells,c.name.length<=8)(tok:Mg f.cells.length t):(w9 f t).length<=1000:=by
 have tl:=Ap tok.nd tok.lt
 have e24:t.efforts<=1000:=by have:=tok.efforts;omega
 refine DV ?_ λ z hz=>?_
 ·rw[aw,aa];show 3+ _<=30;omega
 ·have d1:=sO _ e24
  have b1:(bY "team").length<=30:=by decide
  have b2:(bY "in").length<=30:=by decide
  rcases List.mem_append.mp hz with q1|q1
  ·simp only[dh,cK,or_false]at q1
   rcases q1 with rfl|rfl|rfl <;> omega
  ·obtain⟨c,hc,rfl⟩:=List.mem_map.mp q1
   have cm:=tok.lt c hc
   have ca:bx f c=f.cells[c]:=by unfold bx;rw[aB,af cm];rfl
   rw[ca]
   have:=XB _ (cq cm)
   omega
inductive Bn (vs:List V) (H:Hp) (Q:VK) (Ex:XK):Prop
 |mk (x:List Nat):vs=[.str (strOf x)]->x.length<=30000->GW H Q (nV x)->Bn vs H Q Ex
abbrev Ot:List Str:=["text","sign"]
theorem K1:m7 Ot ["text"] (mZ DC):=qf
theorem UU(F:pG K "to_bytes" "to_bytes" DC f fd)(adJ:mg "ord"=none):nO P w K mg base oE 1 f fd ["text"] Bn:=by
 refine F.ok K1 (λ vs H Q E h=>?_) (λ oU A outer s H vs Q E hr h=>?_)
 ·obtain⟨x,rfl,_⟩:=h
  rfl
 ·obtain⟨x,rfl,hx,k⟩:=h
  have nd:=K1.nd
  refine⟨_,(m4 (m9 (qp (own:=[("sign",1)]) rfl nd (abQ (pv 0)) (by exact pz.of (N:=Ot) (sc:=mZ DC) (by decide +kernel)) (λ _ _ _ _ _=>by exact(nr (i:=1) nd rfl (Or.inl rfl))) (λ _ _ _ _ _=>by exact oP) (λ _ _ _ _ _=>by exact(nJ Wf rfl adJ boot_ord (mU (pv 1) mW)))))),?_⟩
  refine⟨_,rfl,_,rfl,?_⟩
  refine oV (XC (strOf x)) (nV x) (by rw[m8];show _=x.toArray.size;rw[aL]) (by show x.toArray.size<=_;rw[aL,aA];omega) (λ j y z H3 R3 N3 hy pE hF kk=>?_) (λ D H3 hD pE uC=>k H3 D pE hD uC)
  obtain⟨c,q,rfl⟩:=oq hy
  obtain⟨c',e1,rfl⟩:=hF
  have e2:c'=c:=by
   have:x.toArray[j]? =some c':=e1
   rw[List.getElem?_toArray,q]at this
   exact(Option.some.inj this).symm
  subst e2
  exact⟨rfl,sy ⟨_,rfl,_,rfl,rfl,kk H3 (m5.refl _)⟩⟩
inductive Mr (CF CC CT:ag) (vs:List V) (H:Hp) (Q:VK) (Ex:XK):Prop
 |mk (a:ag) (f:ae):vs=[.ref a]->qX CF CC CT H a f->DQ f->(∀c∈f.cells,c.name.length<=8)->GW H Q (nV (iB f))->Mr CF CC CT vs H Q Ex
abbrev acf:List Str:=["field","lines","cell","team"]
theorem Tn:m7 acf ["field"] (mZ Qr):=qf
theorem aaf(F:pG K "shown" "shown" Qr f fd)(nG:Rec P w K mg base "Field" CF CN)(yC:Hz6 P w K mg base)(Iz:mg "str"=none)(Aq:rA P w K mg base oE 2 "cell_line" ["cell"] (CV CC))(Ar:rA P w K mg base oE 2 "team_line" ["team","cells"] (CW CC CT))(rZ:rA P w K mg base oE 1 "to_bytes" ["text"] Bn):nO P w K mg base oE 3 f fd ["field"] (Mr CF CC CT):=by
 refine F.ok Tn (λ vs H Q E h=>?_) (λ oU A outer s H vs Q E hr h=>?_)
 ·obtain⟨a,f,rfl,_⟩:=h
  rfl
 ·obtain⟨a,f,rfl,⟨df,lc,lt,as,bs,f1,f2,f3,f4,f5⟩,ok,XB,k⟩:=h
  have nd:=Tn.nd
  refine⟨_,(mV (m6 (i:=1) nd rfl (Or.inl rfl) (nN (mU (nq (E:=E0) yC hr (by decide) nj (mU (nN (mU qk (mU (sj sG rfl Iz jW (mU (m_ (pv 0) rfl) mW)) mW))) mW)) mW)))
   (mV (qw PassesOwn.never rfl (oJ (m_ (pv 0) rfl)) (nr (i:=2) nd rfl (Or.inl rfl)) (m4 (nZ (qQ aG a_ a0 pD (pv 1) (mU (nq (E:=E0) Aq hr (by decide) nj (mU (pv 2) mW)) mW)))))
   (mV (qw PassesOwn.never rfl (oJ (m_ (pv 0) rfl)) (nr (i:=3) nd rfl (Or.inl rfl)) (m4 (nZ (qQ aG a_ a0 pD (pv 1) (mU (nq (E:=E0) Ar hr (by decide) nj (mU (pv 3) (mU (m_ (pv 0) rfl) mW))) mW)))))
   (m4 (m9 (nq (E:=E0) rZ hr (by decide) nj (mU (LU qk (pv 1)) mW))))))),?_⟩
  have XE:f.parts<=1000:=by have:=ok.parts;omega
  refine⟨_,rfl,a,CF,df,_,_,rfl,f1,nG.cl,nG.na "parts" (by simp),rfl,_,rfl,xO XE,(by show 2<=ay;decide),λ p hp=>?_⟩
  have s0:m5 H (upd H p (.lst [V.str (Str.ofString "parts"),V.str (Str.ofString (toString ((f.parts:Nat):Int)))])):=m5.new hp
  refine⟨p,[bY "parts",dB f.parts],rfl,?_,by simp,by simp,λ z hz=>?_,(by show 1<=ay;decide),λ ln hln=>?_⟩
  ·rw[mX]
   show some (HO.lst [V.str (Str.ofString "parts"),V.str (Str.ofString (toString ((f.parts:Nat):Int)))])=_
   rw[wk,oK "parts"];rfl
  ·have d1:=sO _ XE
   have b1:(bY "parts").length<=30:=by decide
   simp only[dh,cK,or_false]at hz
   rcases hz with rfl|rfl <;> omega
  have hl0:H ln=none:=by
   cases q:H ln with
   |none=>rfl
   |some o=>rw[s0 _ _ q]at hln;cases hln
  have sm1:=s0.trans (m5.new (o:=.lst [V.str (strOf (ic [bY "parts",dB f.parts]))]) hln)
  refine⟨_,rfl,a,CF,df,_,_,rfl,sm1 _ _ f1,nG.cl,nG.na "cells" (by simp),rfl,lc,rfl,⟨_,nA.of (sm1 _ _ f2)⟩,rg (K:=K) (a:=lc) (xs:=as.map V.ref) (λ i σ H'=>∃(o:Option V),σ=[some (.ref a),some (.ref ln),o,none]/\m5 H H'/\H' ln=some (.lst (QR ([ic [bY "parts",dB f.parts]]++(f.cells.take i).map CU))))
   ⟨none,rfl,sm1,by rw[mX];rfl⟩ (λ i σ H' _ ⟨_,_,sm,_⟩=>nA.of (sm _ _ f2)) ?_ ?_⟩
  ·rintro i x σ H' hx ⟨o,rfl,sm,hL⟩
   rw[ak]at hx
   cases q1:as[i]? with
   |none=>rw[q1]at hx;cases hx
   |some ai=>
    rw[q1]at hx;cases hx
    have hi:i<f.cells.length:=by rw[<-f3.1];exact(List.getElem?_eq_some_iff.mp q1).1
    have q2:f.cells[i]? =some f.cells[i]:=af hi
    obtain⟨dc,ec⟩:=f3.2 i ai _ q1 q2
    have co:=ok.cells.each _ (cq hi)
    have pp:=ok.parts
    refine⟨_,rfl,.inl ⟨rfl,_,nA.of hL⟩,_,rfl,ai,f.cells[i],rfl,⟨dc,sm _ _ ec⟩,XB _ (cq hi),co.weight,by have:=co.finds;omega,by have:=co.time;omega,λ H2 s2=>⟨ln,_,_,rfl,rfl,s2 _ _ hL,?_,_,rfl,λ b o e=>?_,?_⟩⟩
    ·have:=ok.cells.len
     unfold QR
     rw[aa,aw,aa,bX,aA]
     show 1+ _< _
     omega
    ·rw[mY (nE e hl0)];exact s2 _ _ (sm _ _ e)
    ·rw[mX,b8,q2]
     unfold QR
     rw[aF,aF,aF]
     simp
  ·rintro σ H' ⟨o,rfl,sm,hL⟩
   rw[aa,f3.1,dj]at hL
   refine⟨_,rfl,a,CF,df,_,_,rfl,sm _ _ f1,nG.cl,nG.na "teams" (by simp),rfl,lt,rfl,⟨_,nA.of (sm _ _ f4)⟩,rg (K:=K) (a:=lt) (xs:=bs.map V.ref) (λ i σ H'=>∃(o3:Option V),σ=[some (.ref a),some (.ref ln),o,o3]/\m5 H H'/\H' ln=some (.lst (QR ([ic [bY "parts",dB f.parts]]++f.cells.map CU++(f.teams.take i).map (w9 f)))))
    ⟨none,rfl,sm,by rw[hL];simp⟩ (λ i σ H' _ ⟨_,_,sm,_⟩=>nA.of (sm _ _ f4)) ?_ ?_⟩
   ·rintro i x σ H2 hx ⟨o3,rfl,wc,Y3⟩
    rw[ak]at hx
    cases q1:bs[i]? with
    |none=>rw[q1]at hx;cases hx
    |some ai=>
     rw[q1]at hx;cases hx
     have hi:i<f.teams.length:=by rw[<-f5.1];exact(List.getElem?_eq_some_iff.mp q1).1
     have q2:f.teams[i]? =some f.teams[i]:=af hi
     have ta:=(f5.2 i ai _ q1 q2).same wc
     refine⟨_,rfl,.inl ⟨rfl,_,nA.of Y3⟩,_,rfl,_,rfl,a,CF,df,_,_,rfl,wc _ _ f1,nG.cl,nG.na "cells" (by simp),rfl,ai,lc,as,f,f.teams[i],rfl,ta,wc _ _ f2,⟨f3.1,λ j b c e1 e2=>let⟨d,z⟩:=f3.2 j b c e1 e2;⟨d,wc _ _ z⟩⟩,ok.cells.len,XB,ok.teams.each _ (cq hi),λ H3 s3=>⟨ln,_,_,rfl,rfl,s3 _ _ Y3,?_,_,rfl,λ b o e=>?_,?_⟩⟩
     ·have:=ok.cells.len
      have:=ok.teams.len
      unfold QR
      rw[aa,aw,aw,aa,aa,bX,aA]
      show 1+ _+ _< _
      omega
     ·rw[mY (nE e hl0)];exact s3 _ _ (wc _ _ e)
     ·have e9:(f.teams.take (i+1)).map (w9 f)=(f.teams.take i).map (w9 f)++[w9 f f.teams[i]]:=by
       rw[b8,q2,aF];rfl
      rw[mX,e9,<-bA]
      unfold QR
      rw[aF (l₂:=[w9 f f.teams[i]])];rfl
   ·rintro σ H2 ⟨o3,rfl,wc,Y3⟩
    rw[aa,f5.1,dj]at Y3
    generalize Y8:[ic [bY "parts",dB f.parts]]++f.cells.map CU++f.teams.map (w9 f)=ls at Y3
    have we:iB f=ls.flatten:=by rw[IC,Y8]
    have afn:ls.flatten.length<=23000:=by
     have h1:ls.flatten.length<=ls.length*1000:=Mq ls λ z hz=>by
      rw[<-Y8]at hz
      rcases List.mem_append.mp hz with hz|hz
      ·rcases List.mem_append.mp hz with hz|hz
       ·simp only[dh,cK,or_false]at hz
        rw[hz]
        refine DV (by simp) λ z hz=>?_
        have d1:=sO _ XE
        have b1:(bY "parts").length<=30:=by decide
        simp only[dh,cK,or_false]at hz
        rcases hz with rfl|rfl <;> omega
       ·obtain⟨c,hc,rfl⟩:=List.mem_map.mp hz
        have co:=ok.cells.each _ hc
        have pp:=ok.parts
        exact ID (XB c hc) co.weight (by have:=co.finds;omega) (by have:=co.time;omega)
      ·obtain⟨t,ht,rfl⟩:=List.mem_map.mp hz
       exact IE ok.cells.len XB (ok.teams.each t ht)
     have h2:ls.length<=23:=by
      have:=ok.cells.len
      have:=ok.teams.len
      rw[<-Y8,aw,aw,aa,aa]
      show 1+ _+ _<=23
      omega
     have h3:ls.length*1000<=23*1000:=c7 _ h2
     omega
    refine⟨⟨_,rfl⟩,_,rfl,_,ln,ls.map strOf,rfl,rfl,.inl (nA.of (by rw[Y3];unfold QR;rw[aW];rfl)),?_,?_⟩
    ·rw[Tj,show(Str.ofString "").length=0 by decide];omega
    rw[XD]
    rw[we]at k
    refine⟨ls.flatten,rfl,by omega,λ H3 D s3 hD uC=>k H3 D (wc.trans s3) ?_ uC⟩
    cases q:H D with
    |none=>rfl
    |some o=>rw[wc _ _ q]at hD;cases hD
end n_
namespace L2
section
variable{X:Cx}
def XF(K:ah):V->List V->Hp->VK->Prop:=λ x xs H Q=>∃(a:ag) (ns:List Int) (k:Int),x=V.ref a/\xs=[V.int k]/\nA K H a (ns.map V.int)/\Q (.int (ns.count k:Nat)) H
theorem QX:MtR X "list.count" (XF X.K):=by
 intro pins s σ H x xs v us Q I rx rxs h
 obtain⟨a,ns,k,rfl,rfl,hs,q⟩:=h
 cases rx
 obtain⟨u,rfl,ru⟩:=rxs.one
 obtain⟨t,rfl⟩:=ru
 obtain⟨oh,rv,hl,_⟩:=I.list hs
 exact count_list_ints hl.isList rv.ints ⟨.int _,H,I.tok _,⟨_,rfl⟩,q⟩
def XG:V->List V->Hp->VK->Prop:=λ x xs H Q=>∃(l:ag) (ys:List V) (y:V),x=V.ref l/\xs=[V.int 0,y]/\H l=some (.lst ys)/\ys.length<ay/\Q .qt (upd H l (.lst (y::ys)))
theorem QY:MtM X "list.insert" XG:=by
 intro pins s σ H x vs v us Q I rx rv h
 obtain⟨l,ys,y,rfl,rfl,hH,hz,q⟩:=h
 cases rx
 cases rv with
 |cons r0 rt=>
  obtain⟨u,rfl,ru⟩:=Vals.one rt
  obtain⟨t,rfl⟩:=r0
  obtain⟨z,oh,n,r,hl,e⟩:=I.Uk hH
  refine jT F.slot_list_insert ⟨_,e,rfl⟩ F.entry_list_insert (F.args_list_insert_3 _ _ _) (AutoSeq1.list_insert_list_int_val_1 l oh.toArray n 0 t u (by decide) (by rw[aL];omega)) ⟨e,?_⟩
  refine⟨.qt,_,I.abI (its':=u::oh) hH e (by simp) (.cons ru r) ?_,rfl,q⟩
  rw[aD];omega
def acg(ta:TA):TE:=λ σ H Q=>ta σ H λ vs H1=>∃n:Nat,vs=[.int n]/\n<=1000/\∀l,H1 l=none->Q (.ref l) (upd H1 l (.lst ((az n).map λ(i:Nat)=>V.int i)))
theorem To:∀{xs:List V} {us:List ao},xs.length=us.length->(∀(i:Nat) x u,xs[i]? =some x->us[i]? =some u->RelV x u)->Vals xs us
 |[],[],_,_=>.nil
 |x::xs,u::us,h,g=>.cons (g 0 x u rfl rfl) (To (by simpa using h) λ i y v e1 e2=>g (i+1) y v (by simpa using e1) (by simpa using e2))
 |[],_::_,h,_=>by simp at h
 |_::_,[],h,_=>by simp at h
theorem UW{acc:Array ao}{n:Nat}(h:ItemsOf (λ i v=>∃t,v=Value.int (0+i*1) t) acc n):Vals ((az n).map λ(i:Nat)=>V.int i) acc.toList:=by
 refine To (by rw[aa,aQ,Array.length_toList,h.1]) λ i x u e1 e2=>?_
 obtain⟨t,rfl⟩:=h.2 i u (by simpa using e2)
 rw[ak]at e1
 cases q:(az n)[i]? with
 |none=>rw[q]at e1;cases e1
 |some j=>
  rw[q]at e1
  obtain⟨hi,hj⟩:=List.getElem?_eq_some_iff.mp q
  rw[List.getElem_range]at hj
  subst hj
  cases e1
  exact⟨t,by simp⟩
theorem XH{a:bJ}{ta:TA}{p p2 pos XI:Pos}(hc:X.calm=true)(hg1:Gl X "list")(ZY:X.mg "list"=none)(hg2:Gl X "range")(ZZ:X.mg "range"=none)(ha:PA X [a] ta)
  (hs:aN [.Call (.Name "range" p2) [a] [] XI] X.env=[(false,cw (.Call (.Name "range" p2) [a] [] XI) X.env)]:=by rfl)(Ud:aN [a] X.env=[(false,cw a X.env)]:=by rfl):
  PE X (.Call (.Name "list" p) [.Call (.Name "range" p2) [a] [] XI] [] pos) (acg ta):=by
 intro pins s σ H Q I h
 refine c6 (vh I hg1 ZY ky ?_)
 refine bT ?_ hs rfl
 rw[hs]
 show aT _ _ (spliced ((false,cw (.Call (.Name "range" p2) [a] [] XI) X.env)::c8 pos [])) _ _ s
 refine Calls.spliced_cons (lr (vh I hg2 ZZ jX (bT (pK (ha XI pins s σ H _ I h) λ us s1 ⟨vs,H1,I1,r1,n,e,hn,q⟩=>?_) Ud rfl)))
 subst e
 cases r1 with
 |cons r rr=>
  cases rr
  obtain⟨t,rfl⟩:=r
  refine call_range_1 (Calls.spliced_nil ?_)
  have I2:Inv X pins σ H1 { s1 with heap:=s1.heap.push { cls:=.type "range",data:=.fields #[.int 0 s1.toks,.int n t,.int 1 (s1.toks+1)] },toks:=s1.toks+1+1 }:=I1.kept λ b o e=>Heap.get?_push_of_some _ e
  refine call_list_range (n:=n) (I.ok.hd hc) (IsRange.new ..) (small_one (by omega) (by omega) (by omega) (by omega)) (by rw[mP];split <;> omega) (by omega) λ h' tk acc c' hk hS aeZ=>?_
  have hz:((az n).map λ(i:Nat)=>V.int i).length<=ay:=by rw[aa,aQ,aA];omega
  exact⟨.ref _,_,I2.laid (t':=tk) hk (ax _) (show pN X.prog X.w _ h' _ (.lst _)from⟨hz,acc.toList,c',UW aeZ,by rw[hS]⟩),rfl,q _ (I2.oW.fresh (ax _))⟩
end
theorem tM{H1:Hp}(lo:Int)(n:Nat):Walk (Itr lo n) H1 n (λ i x _=>x= .int (lo+i)) where
 go:=λ i H hi sm=>hi
 Ht:=λ i H x H' hi sm y=>by
  obtain⟨rfl,y⟩:=y
  exact⟨y,m5.refl _⟩
 stop:=λ H sm=>ax _
theorem UX{K:ah}{H1:Hp}{a b:ag}{xs ys:List V}(h:nA K H1 a xs)(h':nA K H1 b ys):Walk (Itz K a b) H1 (min xs.length ys.length) (λ i v H=>∃T x y,v= .ref T/\xs[i]? =some x/\ys[i]? =some y/\H T=some (.tup [x,y])) where
 go:=λ i H hi sm=>⟨xs,ys,xs[i],ys[i],sm.seq h,sm.seq h',af (by omega),af (by omega)⟩
 Ht:=λ i H x H' hi sm y=>by
  obtain⟨T,z,z',rfl,hT,rfl,y,y'⟩:=y
  exact⟨⟨T,z,z',rfl,y xs (sm.seq h),y' ys (sm.seq h'),mX⟩,m5.new hT⟩
 stop:=λ H sm=>⟨xs,ys,sm.seq h,sm.seq h',by omega⟩
theorem XJ{J:It}{H1:Hp}{n:Nat}{F:Nat->V->Hp->Prop}{g:TG}{tt:TT}{te:TE}{vs:List Nat}{σ:L2.St}{Q:ag->Hp->Prop}(W:Walk J H1 n F)(ys:List (Option V))(hlen:ys.length=n)(hz:n<=ay)
  (hs:∀i x y H (R:V->Hp->Prop) (N:Hp->Prop),ys[i]? =some y->m5 H1 H->F i x H->(∀z,y=some z->∀H4,m5 H H4->R z H4)->(y=none->∀H4,m5 H H4->N H4)->g x (wipe σ vs) H λ σ2 H2=>wipe σ2 vs=wipe σ vs/\tt σ2 H2 λ b H3=>if b=true then te σ2 H3 R else N H3)
  (fin:∀D H,H1 D=none->m5 H1 H->H D=some (.lst (ys.filterMap id))->Q D H)(D:ag)(hD:H1 D=none):
  ∃W:Nat->Nat->Hp->Prop,(∃m,W 0 m (upd H1 D (.lst [])))/\∀i m H,W i m H->
   (J.stop i H/\Q D H)\/(J.go i H/\∃Nx:Hp->Prop,(∀H',Nx H'->∃m',m'<m/\W (i+1) m' H')/\∀x H',J.Ht i H x H'->g x (wipe σ vs) H' λ σ2 H2=>wipe σ2 vs=wipe σ vs/\tt σ2 H2 λ b H3=>
    if b=true then te σ2 H3 λ y H4=>∃acc,H4 D=some (.lst acc)/\acc.length<ay/\Nx (upd H4 D (.lst (acc++[y])))else Nx H3):=by
 refine⟨λ i m H=>m=n-i/\i<=n/\m5 H1 H/\H D=some (.lst ((ys.take i).filterMap id)),⟨n,by omega,aE _,λ b o e=>by rw[mY (nE e hD)];exact e,mX⟩,?_⟩
 rintro i m H ⟨rfl,hi,sm,hd⟩
 by_cases rL:i<n
 ·refine .inr ⟨W.go i H rL sm,λ H'=>i+1<=n/\m5 H1 H'/\H' D=some (.lst ((ys.take (i+1)).filterMap id)),λ H' z=>⟨n-(i+1),by omega,rfl,z⟩,λ x H' y=>?_⟩
  obtain⟨hF,wc⟩:=W.Ht i H x H' rL sm y
  have hy:ys[i]? =some ys[i]:=af (by omega)
  have ht:ys.take (i+1)=ys.take i++[ys[i]]:=by rw[b8,hy];rfl
  have hl:((ys.take i).filterMap id).length<=i:=aV (List.length_filterMap_le _ _) (by rw[bX];omega)
  refine hs i x _ H' _ _ hy (sm.trans wc) hF (λ z ez H4 Nn=>?_) λ ez H4 Nn=>?_
  ·have hd4:H4 D=some (.lst ((ys.take i).filterMap id)):=Nn _ _ (wc _ _ hd)
   refine⟨_,hd4,by omega,rL,λ b o e=>?_,?_⟩
   ·rw[mY (nE e hD)];exact Nn _ _ (wc _ _ (sm _ _ e))
   ·rw[mX,ht,gW,ez];rfl
  ·refine⟨rL,sm.trans (wc.trans Nn),?_⟩
   rw[Nn _ _ (wc _ _ hd),ht,gW,ez]
   show _=some (HO.lst (_++[]))
   rw[bC]
 ·have e:i=n:=by omega
  subst e
  refine .inl ⟨W.stop H sm,fin D H hD sm ?_⟩
  rw[hd,cu (by omega)]
theorem UY(K:ah){X:Cx}{o e:bJ}{to:TE}{t:TA}{apos xF:Pos}(ho:PE X o to)(ha:PA X [e] t)(hK:X.K=K:=by rfl)
  (HE:dN o "count" X.env (cw o X.env)=cw o X.env:=by rfl)
  (abG:((c8 xF (aN [e] X.env)).all (λ x=> !x.1) && (g_ xF (fb [] X.env)).all (λ x=>x.1.isSome)
   && decide (([e]:List bJ).length+([]:List kP).length+(if([]:List kP).isEmpty then 0 else 1)<30))=true:=by rfl)
  (HF:(apos.endLine == xF.line)=true:=by rfl)(hs:aN [e] X.env=(false,cw e X.env)::aN [] X.env:=by rfl):
  PE X (.Call (.Attribute o "count" apos) [e] [] xF) (tBM K "list" (XF K) to t):=by
 subst hK;exact qQ aG PySem.F.slot_list_count PySem.F.type_list_count QX ho ha HE abG HF hs rfl
theorem aag(K:ah){X:Cx}{e:bJ}{t:TA}{p pos:Pos}(hc:X.calm=true)(hg:Gl X "max")(hm:X.mg "max"=none)(ha:PA X [e] t)(hK:X.K=K:=by rfl)(he:aN [e] X.env=(false,cw e X.env)::aN [] X.env:=by rfl):
  PE X (.Call (.Name "max" p) [e] [] pos) (tCB (adn K) t):=by
 subst hK;exact nJ (Qj hc) hg hm lq ha (by decide) (by decide) he rfl
theorem UZ(K:ah){X:Cx}(hK:X.K=K:=by rfl):EB X (cS .NotIn) (rIn K true):=by
 subst hK;exact uG
end L2
namespace L2
theorem m5.put{H H':Hp}(sm:m5 H H'){p:ag}{o:HO}(h:H p=none):m5 H (upd H' p o):=λ b u e=>by
 rw[mY (nE e h)];exact sm b u e
end L2
namespace n_
def bump(d:List Nat)(c:Nat):List Nat:=d.set c (d.getD c 0+1)
def wD(d l:List Nat):List Nat:=l.foldl bump d
theorem pV(d:List Nat)(c:Nat):(bump d c).length=d.length:=by unfold bump;rw[fG]
theorem Fj:∀(l d:List Nat),(wD d l).length=d.length
 |[],_=>rfl
 |c::l,d=>by show(wD (bump d c) l).length=_;rw[Fj l,pV]
def uD:List Nat->List Nat->Prop
 |_,[]=>True
 |d,c::l=>c<d.length/\d.getD c 0<20/\uD (bump d c) l
def p9(f:ae):List Nat->List Nat->List Nat
 |_,[]=>[]
 |d,c::l=>c9 f c (d.getD c 0)::p9 f (bump d c) l
theorem xP(f:ae):∀(l d:List Nat),(p9 f d l).length=l.length
 |[],_=>rfl
 |c::l,d=>by show(p9 f (bump d c) l).length+1=_;rw[xP f l];rfl
theorem getD_at{d:List Nat}{c:Nat}(h:c<d.length):d[c]? =some (d.getD c 0):=by
 rw[aB,af h];rfl
theorem yD{α:Type}{l:List α}{i:Nat}{c:α}(h:l[i]? =some c):l.drop i=c::l.drop (i+1):=by
 obtain⟨hi,e⟩:=List.getElem?_eq_some_iff.mp h
 rw[d8 hi,e]
theorem Hg{f:ae}{H:Hp}{as:List ag}{c n:Nat}(hT:TabsAt H as (nY f))(hc:c<f.cells.length)(hn:n<20):
  ∃b t,(as.map V.ref)[c]? =some (V.ref b)/\H b=some (.lst (nV t))/\t[n]? =some (cZ f c n)/\t[n+1]? =some (cZ f c (n+1))/\((cZ f c n:Nat):Int)-((cZ f c (n+1):Nat):Int)=((c9 f c n:Nat):Int):=by
 have ec:f.cells[c]? =some f.cells[c]:=af hc
 have q2:(nY f)[c]? =some (rE f.cells[c].weight f.cells[c].finds f.parts):=by
  unfold nY
  rw[ak,ec];rfl
 have q3:as[c]? =some (as[c]'(by rw[hT.1,pM];exact hc)):=af _
 refine⟨_,_,by rw[ak,q3];rfl,hT.2 c _ _ q3 q2,?_,?_,?_⟩
 ·rw[wA ec];exact vC (by omega)
 ·rw[wA ec];exact vC (by omega)
 ·have le:cZ f c (n+1)<=cZ f c n:=Bl (by omega) hc
  unfold c9;rw[Int.ofNat_sub le]
inductive CY (vs:List V) (H:Hp) (Q:VK) (Ex:XK):Prop
 |mk (a:ag) (t:List Nat) (n x y:Nat):vs=[.ref a,.int (n:Nat)]->H a=some (.lst (nV t))->t[n]? =some x->t[n+1]? =some y->Q (.int ((x:Int)-(y:Int))) H->CY vs H Q Ex
abbrev U8:List Str:=["table","efforts"]
theorem IF:m7 U8 ["table","efforts"] (mZ EV):=qf
theorem QZ(F:pG K "next_adds" "next_adds" EV f fd):nO P w K mg base oE 1 f fd ["table","efforts"] CY:=by
 refine F.ok IF (λ vs H Q E h=>?_) (λ oU A outer s H vs Q E hr h=>?_)
 ·obtain⟨a,t,n,x,y,rfl,_⟩:=h
  rfl
 ·obtain⟨a,t,n,x,y,rfl,h1,h2,h3,k⟩:=h
  have nd:=IF.nd
  refine⟨_,(m4 (m9 (og sF (oZ n9 (pv 0) (pv 1) (λ _ _=>rfl)) (oZ n9 (pv 0) (og qS (pv 1) nM) (λ _ _=>rfl))))),?_⟩
  exact⟨_,rfl,_,rfl,a,_,_,_,rfl,rfl,nA.of h1,oo (oR h2),_,rfl,_,rfl,_,_,rfl,rfl,a,_,_,_,rfl,rfl,nA.of h1,oo (oR h3),_,_,rfl,rfl,k⟩
inductive As (vs:List V) (H:Hp) (Q:VK) (Ex:XK):Prop
 |mk (a b o:ag) (as:List ag) (f:ae) (d l:List Nat):vs=[.ref a,.ref b,.ref o]->H a=some (.lst (as.map V.ref))->TabsAt H as (nY f)->H b=some (.lst (nV d))->H o=some (.lst (nV l))->d.length=f.cells.length->l.length<=1000->uD d l->GW H Q (nV (p9 f d l))->As vs H Q Ex
abbrev Q0:List Str:=["tables","had","order","now","adds","cell"]
theorem F5:m7 Q0 ["tables","had","order"] (mZ Ce):=qf
abbrev Hz7(P:aK)(w:bj)(K:ah)(mg:Str->Option ao)(base:bF):Prop:=rA P w K mg base oE 1 "next_adds" ["table","efforts"] CY
theorem Ou(F:pG K "order_adds" "order_adds" Ce f fd)(Fl:mg "list"=none)(pH:Hz7 P w K mg base):nO P w K mg base oE 2 f fd ["tables","had","order"] As:=by
 refine F.ok F5 (λ vs H Q E h=>?_) (λ oU A outer s H vs Q E hr h=>?_)
 ·obtain⟨a,b,o,as,f,d,l,rfl,_⟩:=h
  rfl
 ·obtain⟨a,b,o,as,f,d,l,rfl,ha,hT,hb,ho,hd,hl,oW,k⟩:=h
  have nd:=F5.nd
  refine⟨_,(mV (m6 (i:=3) nd rfl (Or.inl rfl) (sj xV rfl Fl ky (mU (pv 1) mW)))
   (mV (m6 (i:=4) nd rfl (Or.inl rfl) (nN mW))
   (mV (qw PassesOwn.never rfl (oJ (pv 2)) (nr (i:=5) nd rfl (Or.inl rfl)) (mV (nZ (qQ aG a_ a0 pD (pv 4) (mU (nq (E:=E0) pH hr (by decide) nj (mU (oZ n9 (pv 0) (pv 5) (λ _ _=>rfl)) (mU (oZ n9 (pv 3) (pv 5) (λ _ _=>rfl)) mW))) mW)))
   (m4 (Ba (pv 3) (pv 5) xN nM zO set_list))))
   (m4 (m9 (pv 4)))))),?_⟩
  refine⟨_,rfl,b,_,rfl,.inl (nA.of hb),λ nw Y9=>?_⟩
  refine⟨aE _,λ ad had=>?_⟩
  have s1:m5 H (upd H nw (.lst (nV d))):=m5.new Y9
  have ach:nw≠ad:=λ q=>by rw[<-q,mX]at had;cases had
  have aci:H ad=none:=by
   cases q:H ad with
   |none=>rfl
   |some z=>rw[s1 _ _ q]at had;cases had
  have s2:m5 H (upd (upd H nw (.lst (nV d))) ad (.lst [])):=s1.put aci
  refine⟨_,rfl,o,rfl,⟨_,nA.of (s2 _ _ ho)⟩,rg (K:=K) (a:=o) (xs:=nV l) (λ i σ H'=>∃(v5:Option V) (D A:List Nat),σ=[some (.ref a),some (.ref b),some (.ref o),some (.ref nw),some (.ref ad),v5]/\m5 H H'/\H' nw=some (.lst (nV D))/\H' ad=some (.lst (nV A))/\p9 f d l=A++p9 f D (l.drop i)/\uD D (l.drop i)/\D.length=d.length/\A.length=i)
   ⟨none,d,[],rfl,s2,by rw[mY ach,mX],mX,rfl,oW,rfl,rfl⟩ (λ i σ H' _ ⟨_,_,_,_,sm,_⟩=>nA.of (sm _ _ ho)) ?_ ?_⟩
  ·rintro i x σ H' hx ⟨v5,D,A,rfl,sm,hD,hA,eq,ok,Ov,hAl⟩
   obtain⟨c,q,rfl⟩:=oq hx
   have hi:i<l.length:=(List.getElem?_eq_some_iff.mp q).1
   rw[yD q]at eq ok
   obtain⟨o1,o2,o3⟩:=ok
   obtain⟨tb,t,t1,t2,t3,t4,t5⟩:=Hg (hT.same sm) (show c<f.cells.length by omega) o2
   have gd:=getD_at o1
   refine⟨_,rfl,.inl ⟨rfl,_,nA.of hA⟩,_,rfl,_,rfl,a,_,_,_,rfl,rfl,nA.of (sm _ _ ha),oo t1,_,rfl,_,rfl,nw,_,_,_,rfl,rfl,nA.of hD,oo (oR gd),tb,t,_,_,_,rfl,t2,t3,t4,ad,_,_,rfl,rfl,hA,(by rw[m8,aA];omega),?_⟩
   rw[t5]
   have hD1:(upd H' ad (.lst (nV A++[V.int (c9 f c (D.getD c 0):Nat)]))) nw=some (.lst (nV D)):=by rw[mY ach];exact hD
   refine⟨_,rfl,_,rfl,nw,_,c,_,rfl,rfl,nA.of hD1,oR gd,_,_,rfl,rfl,nw,_,_,c,rfl,rfl,hD1,yy (by rw[m8];exact o1),?_⟩
   refine⟨_,bump D c,A++[c9 f c (D.getD c 0)],rfl,(sm.put aci).put Y9,?_,?_,?_,o3,by rw[pV,Ov],by rw[aw,hAl];rfl⟩
   ·rw[mX];unfold nV bump;rw[fP];rfl
   ·rw[mY (Ne.symm ach),mX];unfold nV;rw[aF];rfl
   ·rw[eq,bA];rfl
  ·rintro σ H' ⟨v5,D,A,rfl,sm,hD,hA,eq,ok,Ov,hAl⟩
   rw[m8,fq]at eq
   have e:p9 f d l=A:=by rw[eq];exact bC _
   rw[e]at k
   exact⟨_,rfl,k H' ad sm aci hA⟩
inductive Hh (vs:List V) (H:Hp) (Q:VK) (Ex:XK):Prop
 |mk (o:ag) (zs:List Int) (n:Nat):vs=[.ref o,.int (n:Nat)]->H o=some (.lst (iL zs))->n<=16->GW H Q (nV ((az n).map λ(c:Nat)=>zs.count (c:Int)))->Hh vs H Q Ex
abbrev XM:List Str:=["order","many_cells","cell"]
theorem Tp:m7 XM ["order","many_cells"] (mZ L5):=qf
theorem aah(F:pG K "row_of" "row_of" L5 f fd)(qM:mg "range"=none):nO P w K mg base oE 1 f fd ["order","many_cells"] Hh:=by
 refine F.ok Tp (λ vs H Q E h=>?_) (λ oU A outer s H vs Q E hr h=>?_)
 ·obtain⟨o,zs,n,rfl,_⟩:=h
  rfl
 ·obtain⟨o,zs,n,rfl,ho,hn,k⟩:=h
  have nd:=Tp.nd
  refine⟨_,(m4 (m9 (qp (own:=[("cell",2)]) rfl nd (xB rfl qM (mU (pv 1) mW)) (by exact pz.of (N:=XM) (sc:=mZ L5) (by decide +kernel)) (λ _ _ _ _ _=>by exact(nr (i:=2) nd rfl (Or.inl rfl))) (λ _ _ _ _ _=>by exact oP) (λ _ _ _ _ _=>by exact(UY K (pv 0) (mU (pv 2) mW)))))),?_⟩
  refine⟨_,rfl,(n:Int),rfl,by omega,by omega,?_⟩
  refine oV (tM 0 _) (nV ((az n).map λ(c:Nat)=>zs.count (c:Int))) (by rw[m8,aa,aQ];rfl) (by rw[aA];show n<=_;omega) (λ j x y H3 R3 N3 hy pE hF kk=>?_) (λ D H3 hD pE uC=>k H3 D pE hD uC)
  obtain⟨c,q,rfl⟩:=oq hy
  have hj:j<n:=by
   have:=(List.getElem?_eq_some_iff.mp q).1
   simpa using this
  rw[ak,bc hj]at q
  have q:zs.count (j:Int)=c:=Option.some.inj q
  subst q
  have e:(0:Int)+(j:Int)=(j:Int):=Int.zero_add _
  rw[e]at hF
  subst hF
  exact⟨rfl,sy ⟨_,rfl,.inl ⟨rfl,_,nA.of (pE _ _ ho)⟩,_,rfl,o,zs,_,rfl,rfl,nA.of (pE _ _ ho),kk H3 (m5.refl _)⟩⟩
def acj(o:Option Nat):V:=match o with |none=>.qt|some c=>.int (c:Nat)
def Ms(f:ae)(d:List Nat)(c:Nat):Option Nat×Nat:=(if d.getD c 0<20 then some (c9 f c (d.getD c 0))else none,c)
def bestOf(f:ae)(d cs:List Nat):Option Nat:=(tu (cs.map (Ms f d))).map λ y=>y.1
theorem F6(f:ae)(d:List Nat):(fj f d).zipIdx=(az d.length).map (Ms f d):=by
 apply bN
 intro i
 rw[bQ,ak]
 by_cases hi:i<d.length
 ·rw[bc hi,Iq (getD_at hi)]
  show some (_,0+i)=some (_,i)
  rw[cX]
 ·rw[aI (by rw[Fg];omega),aI (by rw[aQ];omega)]
  rfl
theorem XN(f:ae)(d:List Nat):bestOf f d (az d.length)=fT (fj f d):=by
 unfold bestOf
 rw[wC,F6]
def gV(o:Option (Nat×Nat)):V:=acj (o.map λ y=>y.1)
inductive yE (vs:List V) (H:Hp) (Q:VK) (Ex:XK):Prop
 |mk (a b e:ag) (as:List ag) (f:ae) (d cs:List Nat):vs=[.ref a,.ref b,.ref e]->H a=some (.lst (as.map V.ref))->TabsAt H as (nY f)->H b=some (.lst (nV d))->H e=some (.lst (nV cs))->d.length=f.cells.length->(∀c∈cs,c<d.length)->Q (acj (bestOf f d cs)) H->yE vs H Q Ex
abbrev U9:List Str:=["tables","had","cells","best","most","cell","adds"]
theorem IG:m7 U9 ["tables","had","cells"] (mZ EW):=qf
theorem Q_(F:pG K "best_cell" "best_cell" EW f fd)(nv:oC mg "MOST_EFFORTS" 20)(pH:Hz7 P w K mg base):nO P w K mg base oE 2 f fd ["tables","had","cells"] yE:=by
 refine F.ok IG (λ vs H Q E h=>?_) (λ oU A outer s H vs Q E hr h=>?_)
 ·obtain⟨a,b,e,as,f,d,cs,rfl,_⟩:=h
  rfl
 ·obtain⟨a,b,e,as,f,d,cs,rfl,ha,hT,hb,he,hd,Ml,k⟩:=h
  have nd:=IG.nd
  refine⟨_,(mV (m6 (i:=3) nd rfl (Or.inl rfl) zM)
   (mV (m6 (i:=4) nd rfl (Or.inl rfl) (Ss LH nM))
   (mV (qw PassesOwn.never rfl (oJ (pv 2)) (nr (i:=5) nd rfl (Or.inl rfl)) (m4 (pf (om Hv (oZ n9 (pv 1) (pv 5) (λ _ _=>rfl)) (nP nv) (oH _)) (mV (m6 (i:=6) nd rfl (Or.inl rfl) (nq (E:=E0) pH hr (by decide) nj (mU (oZ n9 (pv 0) (pv 5) (λ _ _=>rfl)) (mU (oZ n9 (pv 1) (pv 5) (λ _ _=>rfl)) mW))))
   (m4 (pf (om BH (pv 6) (pv 4) (oH _)) (mV (m6 (i:=3) nd rfl (Or.inl rfl) (pv 5))
   (m4 (m6 (i:=4) nd rfl (Or.inl rfl) (pv 6)))) nX))) nX)))
   (m4 (m9 (pv 3)))))),?_⟩
  refine⟨_,rfl,_,rfl,e,rfl,⟨_,nA.of he⟩,rg (K:=K) (a:=e) (xs:=nV cs) (λ i σ H'=>∃(o5 o6:Option V),σ=[some (.ref a),some (.ref b),some (.ref e),some (gV (tu ((cs.take i).map (Ms f d)))),some (.int (gM (tu ((cs.take i).map (Ms f d))))),o5,o6]/\H'=H)
   ⟨none,none,rfl,rfl⟩ (λ i σ H' _ ⟨_,_,_,e⟩=>by rw[e];exact nA.of he) ?_ ?_⟩
  ·rintro i x σ H' hx ⟨o5,o6,rfl,rfl⟩
   obtain⟨c,q,rfl⟩:=oq hx
   have hc:c<d.length:=Ml c (aC q)
   have gd:=getD_at hc
   have gs:tu ((cs.take (i+1)).map (Ms f d))=F3 (tu ((cs.take i).map (Ms f d))) (Ms f d c):=by
    rw[b8,q,aF];exact QO _ _
   refine⟨_,rfl,_,rfl,b,_,_,_,rfl,rfl,nA.of hb,oo (oR gd),_,_,rfl,rfl,_,rfl,p8 (λ hq=>?_) λ hq=>?_⟩
   ·have hq:((d.getD c 0:Nat):Int)<20:=of_decide_eq_true hq
    have hn:d.getD c 0<20:=by omega
    have go:Ms f d c=(some (c9 f c (d.getD c 0)),c):=by unfold Ms;rw[if_pos hn]
    rw[go,yw]at gs
    obtain⟨tb,t,t1,t2,t3,t4,t5⟩:=Hg hT (show c<f.cells.length by omega) hn
    refine⟨_,rfl,_,rfl,a,_,_,_,rfl,rfl,nA.of ha,oo t1,_,rfl,_,rfl,b,_,_,_,rfl,rfl,nA.of hb,oo (oR gd),tb,t,_,_,_,rfl,t2,t3,t4,?_⟩
    rw[t5]
    refine⟨_,rfl,_,rfl,_,_,rfl,rfl,_,rfl,p8 (λ hg=>?_) λ hg=>?_⟩
    ·have hg:=of_decide_eq_true hg
     rw[if_pos hg]at gs
     rw[gs]
     exact⟨_,rfl,_,rfl,_,_,rfl,rfl⟩
    ·have hg:=λ q=>hg (decide_eq_true q)
     rw[if_neg hg]at gs
     rw[gs]
     exact⟨_,_,rfl,rfl⟩
   ·have hq:¬ ((d.getD c 0:Nat):Int)<20:=λ q=>hq (decide_eq_true q)
    have go:Ms f d c=(none,c):=by unfold Ms;rw[if_neg (by omega)]
    rw[go,yu]at gs
    rw[gs]
    exact⟨_,_,rfl,rfl⟩
  ·rintro σ H' ⟨o5,o6,rfl,rfl⟩
   rw[m8,dj]
   exact⟨_,rfl,k⟩
theorem DW{d:List Nat}{c n:Nat}(wg:∀n∈d,n<=20)(hc:d.getD c 0<20)(h:n∈bump d c):n<=20:=by
 unfold bump at h
 rcases gh h with q|q
 ·exact wg n q
 ·omega
theorem IH{d:List Nat}{c:Nat}(hc:c<d.length):aY (bump d c)=aY d+1:=by
 have:=Fh d c _ (d.getD c 0+1) (getD_at hc)
 unfold bump;omega
theorem Bo{d:List Nat}{c:Nat}(hc:c<d.length)(i:Nat):(bump d c).getD i 0=if i=c then d.getD c 0+1 else d.getD i 0:=by
 unfold bump
 rw[aB,dX]
 by_cases e:c=i
 ·subst e;rw[if_pos rfl,if_pos hc,if_pos rfl];rfl
 ·rw[if_neg e,if_neg (Ne.symm e),aB]
theorem XO{f:ae}{d:List Nat}{c m:Nat}(hc:c<d.length):left f (d.set c m)+cZ f c (d.getD c 0)=left f d+cZ f c m:=by
 have e:(d.set c m).zipIdx.map (λ x=>cZ f x.2 x.1)=(d.zipIdx.map λ x=>cZ f x.2 x.1).set c (cZ f c m):=by
  apply bN
  intro i
  rw[ak,bQ,dX,dX,ak,bQ,aa,dP]
  by_cases e:c=i
  ·subst e;rw[if_pos rfl,if_pos rfl,if_pos hc,if_pos hc];simp
  ·rw[if_neg e,if_neg e]
 unfold lJ
 rw[e]
 refine Fh _ c _ _ ?_
 rw[ak,bQ,getD_at hc];simp
theorem Fm{f:ae}{d:List Nat}{c:Nat}(hc:c<d.length)(hd:d.length=f.cells.length)(hn:d.getD c 0<20):left f (bump d c)+c9 f c (d.getD c 0)=left f d:=by
 have h:=XO (f:=f) (m:=d.getD c 0+1) hc
 have le:cZ f c (d.getD c 0+1)<=cZ f c (d.getD c 0):=Bl (by omega) (by omega)
 unfold bump c9
 omega
theorem tN{f:ae}:∀(l d:List Nat),d.length=f.cells.length->uD d l->left f (wD d l)+aY (p9 f d l)=left f d
 |[],d,_,_=>by show left f d+0=_;omega
 |c::l,d,hd,⟨h1,h2,h3⟩=>by
  have h:=Fm (f:=f) h1 hd h2
  have ih:=tN (f:=f) l (bump d c) (by rw[pV,hd]) h3
  show left f (wD (bump d c) l)+aY (c9 f c (d.getD c 0)::p9 f (bump d c) l)=_
  rw[ot];omega
theorem yF:∀(l d:List Nat) (j:Nat),uD d l->uD d (l.take j)
 |[],d,j,_=>by rw[iz];trivial
 |c::l,d,0,_=>trivial
 |c::l,d,j+1,⟨h1,h2,h3⟩=>⟨h1,h2,yF l _ j h3⟩
theorem yG(f:ae):∀(l d:List Nat) (j:Nat),(p9 f d l).take j=p9 f d (l.take j)
 |[],d,j=>by rw[iz];show List.take j []=[];exact iz
 |c::l,d,0=>rfl
 |c::l,d,j+1=>by
  show c9 f c (d.getD c 0)::(p9 f (bump d c) l).take j=c9 f c (d.getD c 0)::p9 f (bump d c) (l.take j)
  rw[yG f l]
theorem Bp:∀(l d:List Nat),uD d l->∀c∈l,c<d.length
 |[],d,_,c,h=>by cases h
 |x::l,d,⟨h1,h2,h3⟩,c,h=>by
  rcases List.mem_cons.mp h with q|q
  ·rw[q];exact h1
  ·have:=Bp l _ h3 c q
   rw[pV]at this;exact this
theorem Ow:∀(l d:List Nat),(∀n∈d,n<=20)->uD d l->∀n∈wD d l,n<=20
 |[],d,h,_=>h
 |c::l,d,h,⟨h1,h2,h3⟩=>Ow l (bump d c) (λ n hn=>DW h h2 hn) h3
theorem IJ:∀(l d:List Nat) (i:Nat),(∀c∈l,c<d.length)->(wD d l).getD i 0=d.getD i 0+l.count i
 |[],d,i,_=>by show d.getD i 0=_;simp
 |c::l,d,i,h=>by
  have hc:c<d.length:=h c (by simp)
  show(wD (bump d c) l).getD i 0=_
  rw[IJ l (bump d c) i (λ x hx=>by rw[pV];exact h x (by simp[hx])),Bo hc,eK]
  by_cases e:i=c
  ·subst e;simp;omega
  ·rw[if_neg e]
   have:(c == i)=false:=by rw[beq_eq_false_iff_ne];exact Ne.symm e
   rw[this];simp
theorem IK(l d:List Nat)(h:∀c∈l,c<d.length):wD d l=bB d ((az d.length).map λ c=>l.count c):=by
 apply bN
 intro i
 unfold bB
 rw[aO,ak]
 by_cases hi:i<d.length
 ·rw[getD_at (d:=wD d l) (by rw[Fj];exact hi),IJ l d i h,getD_at hi,bc hi];rfl
 ·rw[aI (show d.length<=i by omega),aI (show(wD d l).length<=i by rw[Fj];omega)]
theorem IL(l d:List Nat)(h:∀c∈l,c<d.length):eM (wD d l) d=(az d.length).map λ c=>l.count c:=by
 rw[IK l d h];exact Fi _ _ (by simp)
theorem IM(l d:List Nat)(h:∀c∈l,c<d.length):bB d (eM (wD d l) d)=wD d l:=by
 rw[IL l d h,IK l d h]
def oM(f:ae):Nat->List Nat->List Nat
 |0,_=>[]
 |k+1,d=>match fT (fj f d)with
  |some c=>c::oM f k (bump d c)
  |none=>[]
theorem tO{f:ae}:∀(k:Nat) (d:List Nat),(∀n∈d,n<=20)->aY d+k<=20*d.length->(oM f k d).length=k/\uD d (oM f k d)/\∀j≤k,wD d ((oM f k d).take j)=jQ f j d
 |0,d,_,_=>⟨rfl,trivial,λ j hj=>by
   have e:j=0:=by omega
   subst e;rfl⟩
 |k+1,d,wg,ht=>by
  obtain⟨c,n,g1,g2,g3⟩:=BL (f:=f) wg (by omega)
  have hc:c<d.length:=(List.getElem?_eq_some_iff.mp g2).1
  have gd:d.getD c 0=n:=by rw[aB,g2];rfl
  have e:oM f (k+1) d=c::oM f k (bump d c):=by
   show(match fT (fj f d)with |some c=>c::oM f k (bump d c)|none=>[])=_
   rw[g1]
  obtain⟨h1,h2,h3⟩:=tO (f:=f) k (bump d c) (λ m hm=>DW wg (by omega) hm) (by rw[IH hc,pV];omega)
  rw[e]
  refine⟨by rw[aD,h1],⟨hc,by omega,h2⟩,λ j hj=>?_⟩
  cases j with
  |zero=>rfl
  |succ j=>
   rw[UP g1]
   exact h3 j (by omega)
theorem K2{f:ae}{d:List Nat}{k j:Nat}(hd:d.length=f.cells.length)(wg:∀n∈d,n<=20)(ht:aY d+k<=20*d.length)(hj:j<=k):
  dQ f d (eM (jQ f j d) d)=mH (aY ((p9 f d (oM f k d)).take j)) (left f d):=by
 obtain⟨h1,h2,h3⟩:=tO (f:=f) k d wg ht
 have h4:=h3 j hj
 have ok:=yF _ _ j h2
 have lb:=tN (f:=f) _ d hd ok
 unfold dQ
 rw[<-h4,IM _ _ (Bp _ _ ok),yG]
 congr 1;omega
theorem K3{f:ae}{d:List Nat}{k j:Nat}(hd:d.length=f.cells.length)(wg:∀n∈d,n<=20)(ht:aY d+k<=20*d.length)(hj:j<k):
  f7 f d j=mH ((p9 f d (oM f k d)).getD j 0) (left f d)/\(p9 f d (oM f k d))[j]? =some ((p9 f d (oM f k d)).getD j 0):=by
 obtain⟨h1,h2,h3⟩:=tO (f:=f) k d wg ht
 have ga:(p9 f d (oM f k d))[j]? =some ((p9 f d (oM f k d)).getD j 0):=getD_at (by rw[xP,h1];exact hj)
 refine⟨?_,ga⟩
 have a1:=tN (f:=f) _ d hd (yF _ _ j h2)
 have a2:=tN (f:=f) _ d hd (yF _ _ (j+1) h2)
 rw[h3 j (by omega),<-yG]at a1
 rw[h3 (j+1) (by omega),<-yG,b8,ga,j4,CL]at a2
 unfold f7
 congr 1;omega
theorem IP:∀(l:List Nat) (j:Nat),l.getD j 0<=aY l
 |[],j=>by simp
 |a::l,0=>by rw[ot];show a<=_;omega
 |a::l,j+1=>by rw[ot];have:=IP l j;show l.getD j 0<=_;omega
theorem none_of{H H':Hp}{p:ag}(sm:m5 H H')(h:H' p=none):H p=none:=by
 cases q:H p with
 |none=>rfl
 |some z=>rw[sm _ _ q]at h;cases h
theorem Tq{x y z:Int}{H:Hp}{Q:VK}(e:x+y=z)(k:Q (.int z) H):ipI (λ i j=>i+j) (.int x) (.int y) H Q:=⟨x,y,rfl,rfl,by show Q (.int (x+y)) H;rw[e];exact k⟩
theorem Mt{x y z:Int}{H:Hp}{Q:VK}(e:x-y=z)(k:Q (.int z) H):ipI (λ i j=>i-j) (.int x) (.int y) H Q:=⟨x,y,rfl,rfl,by show Q (.int (x-y)) H;rw[e];exact k⟩
inductive Au (vs:List V) (H:Hp) (Q:VK) (Ex:XK):Prop
 |mk (a b:ag) (as:List ag) (f:ae) (d:List Nat) (k:Nat):vs=[.ref a,.ref b,.int (k:Nat)]->FW f->H a=some (.lst (as.map V.ref))->TabsAt H as (nY f)->H b=some (.lst (nV d))->d.length=f.cells.length->(∀n∈d,n<=20)->aY d+k<=20*d.length->GW H Q (nV (oM f k d))->Au vs H Q Ex
abbrev Ra:List Str:=["tables","had","many","cells","now","dealt","cell"]
theorem F7:m7 Ra ["tables","had","many"] (mZ Cf):=qf
theorem Ox(F:pG K "best_cells" "best_cells" Cf f fd)(Fl:mg "list"=none)(qM:mg "range"=none)(o9:mg "len"=none)(rp:rA P w K mg base oE 2 "best_cell" ["tables","had","cells"] yE):nO P w K mg base oE 3 f fd ["tables","had","many"] Au:=by
 refine F.ok F7 (λ vs H Q E h=>?_) (λ oU A outer s H vs Q E hr h=>?_)
 ·obtain⟨a,b,as,f,d,many,rfl,_⟩:=h
  rfl
 ·obtain⟨a,b,as,f,d,many,rfl,W,ha,hT,hb,hd,tq,room,k⟩:=h
  have nd:=F7.nd
  refine⟨_,(mV (m6 (i:=3) nd rfl (Or.inl rfl) (XH rfl rfl Fl rfl qM (mU (nJ nL rfl o9 aX (mU (pv 1) mW)) mW)))
   (mV (m6 (i:=4) nd rfl (Or.inl rfl) (sj xV rfl Fl ky (mU (pv 1) mW)))
   (mV (m6 (i:=5) nd rfl (Or.inl rfl) (nN mW))
   (mV (rK PassesOwn.never (om Hv (nJ nL rfl o9 aX (mU (pv 5) mW)) (pv 2) (oH _)) (mV (m6 (i:=6) nd rfl (Or.inl rfl) (nq (E:=E0) rp hr (by decide) nj (mU (pv 0) (mU (pv 4) (mU (pv 3) mW)))))
   (mV (nZ (qQ aG a_ a0 pD (pv 5) (mU (pv 6) mW)))
   (m4 (Ba (pv 4) (pv 6) xN nM zO set_list)))))
   (m4 (m9 (pv 5))))))),?_⟩
  have wB:=W.len
  refine⟨_,rfl,b,_,rfl,.inl (nA.of hb),d.length,by rw[m8],by omega,λ cl EE=>?_⟩
  have s1:m5 H (upd H cl (.lst (nV (az d.length)))):=m5.new EE
  refine⟨_,rfl,b,_,rfl,.inl (nA.of (s1 _ _ hb)),λ nw Y9=>?_⟩
  have XQ:=none_of s1 Y9
  have ncn:cl≠nw:=λ q=>by rw[<-q]at Y9;exact absurd (Y9.symm.trans mX) (by intro z;cases z)
  refine⟨aE _,λ dl hdl=>?_⟩
  have s2:m5 H (upd (upd H cl (.lst (nV (az d.length)))) nw (.lst (nV d))):=s1.put XQ
  have ack:=none_of s2 hdl
  have ndn:dl≠nw:=λ q=>by rw[q]at hdl;exact absurd (hdl.symm.trans mX) (by intro z;cases z)
  have ndc:dl≠cl:=λ q=>by rw[q]at hdl;exact absurd (hdl.symm.trans ((mY ncn).trans mX)) (by intro z;cases z)
  refine⟨λ m σ H'=>∃(v6:Option V) (D A:List Nat),σ=[some (.ref a),some (.ref b),some (.int (many:Nat)),some (.ref cl),some (.ref nw),some (.ref dl),v6]/\m5 H H'/\H' cl=some (.lst (nV (az d.length)))/\H' nw=some (.lst (nV D))/\H' dl=some (.lst (nV A))/\D.length=d.length/\(∀n∈D,n<=20)/\aY D=aY d+A.length/\A.length<=many/\m=many-A.length/\oM f many d=A++oM f (many-A.length) D,
   ⟨many,none,d,[],rfl,s2.put ack,?_,?_,mX,rfl,tq,rfl,aE _,rfl,rfl⟩,?_⟩
  ·rw[mY (Ne.symm ndc),mY ncn,mX]
  ·rw[mY (Ne.symm ndn),mX]
  rintro m σ H' ⟨v6,D,A,rfl,sm,hC,hD,hA,Ov,D20,tD,hAm,rfl,heq⟩
  refine⟨_,rfl,dl,_,rfl,.inl (nA.of hA),_,rfl,_,_,rfl,rfl,_,rfl,?_⟩
  rw[m8]
  refine p8 (λ hc=>?_) λ hc=>?_
  ·have hc:((A.length:Nat):Int)<(many:Int):=of_decide_eq_true hc
   obtain⟨c,n,g1,g2,g3⟩:=BL (f:=f) D20 (by rw[tD,Ov];omega)
   have hcD:c<D.length:=(List.getElem?_eq_some_iff.mp g2).1
   have gd:D.getD c 0=n:=by rw[aB,g2];rfl
   have e:oM f (many-A.length) D=c::oM f (many-(A.length+1)) (bump D c):=by
    rw[show many-A.length=(many-(A.length+1))+1 by omega]
    show(match fT (fj f D)with |some c=>c::oM f _ (bump D c)|none=>[])=_
    rw[g1]
   refine⟨_,λ _ _ z=>z,_,rfl,_,rfl,_,rfl,a,nw,cl,as,f,D,az d.length,rfl,sm _ _ ha,hT.same sm,hD,hC,by rw[Ov,hd],λ x hx=>by rw[Ov];exact List.mem_range.mp hx,?_⟩
   have eb:bestOf f D (az d.length)=some c:=by rw[<-Ov,XN,g1]
   rw[eb]
   refine⟨_,rfl,.inl ⟨rfl,_,nA.of hA⟩,_,rfl,dl,_,_,rfl,rfl,hA,(by rw[m8,aA];have:=hd;omega),?_⟩
   have hD1:(upd H' dl (.lst (nV A++[V.int (c:Nat)]))) nw=some (.lst (nV D)):=by rw[mY (Ne.symm ndn)];exact hD
   refine⟨_,rfl,_,rfl,nw,_,c,_,rfl,rfl,nA.of hD1,oR g2,_,_,rfl,rfl,nw,_,_,c,rfl,rfl,hD1,yy (by rw[m8];exact hcD),?_⟩
   refine⟨many-(A.length+1),by omega,_,bump D c,A++[c],rfl,(sm.put ack).put XQ,?_,?_,?_,by rw[pV,Ov],λ m hm=>DW D20 (by omega) hm,?_,?_,?_,?_⟩
   ·rw[mY ncn,mY (Ne.symm ndc)];exact hC
   ·rw[mX];unfold nV bump;rw[fP,gd];rfl
   ·rw[mY ndn,mX];unfold nV;rw[aF];rfl
   ·rw[IH hcD,aw,tD];rfl
   ·rw[aw];show A.length+1<=many;omega
   ·rw[aw];rfl
   ·rw[heq,e,aw,bA];rfl
  ·have hc:¬ ((A.length:Nat):Int)<(many:Int):=λ q=>hc (decide_eq_true q)
   have e:many-A.length=0:=by omega
   rw[e]at heq
   have e2:oM f many d=A:=by rw[heq];exact bC _
   rw[e2]at k
   exact⟨_,rfl,k H' dl sm ack hA⟩
theorem BN:∀(l:List Nat) (i:Nat),aY (l.take i)<=aY l
 |[],i=>by rw[iz];exact ax _
 |a::l,0=>aE _
 |a::l,i+1=>by rw[List.take_succ_cons,ot,ot];have:=BN l i;omega
def Bq(f:ae)(d:List Nat)(n:Nat):List Nat:=(az n).flatMap λ j=>qL (dQ f d (eM (jQ f j d) d))
theorem yH(f:ae)(d:List Nat)(n:Nat):Bq f d (n+1)=Bq f d n++qL (dQ f d (eM (jQ f n d) d)):=by
 unfold Bq
 rw[eG,d_];simp
theorem Av(f:ae)(d:List Nat):∀n,(Bq f d n).length=2*n
 |0=>rfl
 |n+1=>by rw[yH,aw,Av f d n];show 2*n+2=_;omega
inductive Aw (vs:List V) (H:Hp) (Q:VK) (Ex:XK):Prop
 |mk (a b:ag) (as:List ag) (f:ae) (d:List Nat) (k:Nat):vs=[.ref a,.ref b,.int (k:Nat)]->FW f->H a=some (.lst (as.map V.ref))->TabsAt H as (nY f)->H b=some (.lst (nV d))->d.length=f.cells.length->(∀n∈d,n<=20)->aY d+k<=20*d.length->0<left f d->GW H Q (nV (Bq f d (k+1)))->Aw vs H Q Ex
abbrev Rb:List Str:=["tables","had","many","left","so_far","curve","adds"]
theorem F8:m7 Rb ["tables","had","many"] (mZ Cg):=qf
abbrev Hz8(P:aK)(w:bj)(K:ah)(mg:Str->Option ao)(base:bF):Prop:=rA P w K mg base oE 2 "order_adds" ["tables","had","order"] As
abbrev Hz9(P:aK)(w:bj)(K:ah)(mg:Str->Option ao)(base:bF):Prop:=rA P w K mg base oE 3 "best_cells" ["tables","had","many"] Au
theorem Oy(F:pG K "best_curve" "best_curve" Cg f fd)(oX:Hz3 P w K mg base)(ou:Hz4 P w K mg base)(pZ:Hz8 P w K mg base)(pR:Hz9 P w K mg base):nO P w K mg base oE 4 f fd ["tables","had","many"] Aw:=by
 refine F.ok F8 (λ vs H Q E h=>?_) (λ oU A outer s H vs Q E hr h=>?_)
 ·obtain⟨a,b,as,f,d,many,rfl,_⟩:=h
  rfl
 ·obtain⟨a,b,as,f,d,many,rfl,W,ha,hT,hb,hd,tq,room,h0,k⟩:=h
  have nd:=F8.nd
  refine⟨_,(mV (m6 (i:=3) nd rfl (Or.inl rfl) (nq (E:=E0) oX hr (by decide) nj (mU (pv 0) (mU (pv 1) mW))))
   (mV (m6 (i:=4) nd rfl (Or.inl rfl) nM)
   (mV (m6 (i:=5) nd rfl (Or.inl rfl) (nq (E:=E0) ou hr (by decide) nj (mU (pv 4) (mU (pv 3) mW))))
   (mV (qw PassesOwn.never rfl (oJ (nq (E:=E0) pZ hr (by decide) nj (mU (pv 0) (mU (pv 1) (mU (nq (E:=E0) pR hr (by decide) nj (mU (pv 0) (mU (pv 1) (mU (pv 2) mW)))) mW))))) (nr (i:=6) nd rfl (Or.inl rfl)) (mV (Hs (i:=4) nd rfl (Or.inl rfl) (pv 6) zO)
   (m4 (nZ (qQ aG cU cT vb (pv 5) (mU (nq (E:=E0) ou hr (by decide) nj (mU (pv 4) (mU (pv 3) mW))) mW))))))
   (m4 (m9 (pv 5))))))),?_⟩
  have wB:=W.len
  have lb:=ue W hd tq
  obtain⟨q1,q2,q3⟩:=tO (f:=f) many d tq room
  have tb:aY (p9 f d (oM f many d))<=left f d:=by have:=tN (f:=f) _ d hd q2;omega
  have aea:many<=320:=by omega
  refine⟨_,rfl,_,rfl,a,b,as,nY f,d,rfl,ha,hT,hb,by rw[pM,hd],by omega,Bm tq,λ H1 s1=>?_⟩
  rw[tL hd tq]
  refine⟨_,rfl,_,rfl,0,left f d,rfl,h0,lb,by omega,λ H2 cv s2 hcv adK=>?_⟩
  have vE:=s1.trans s2
  refine⟨_,rfl,_,rfl,_,rfl,_,rfl,_,rfl,a,b,as,f,d,many,rfl,W,vE _ _ ha,hT.same vE,vE _ _ hb,hd,tq,room,λ H3 sq s3 Y_ acm=>?_⟩
  have wF:=vE.trans s3
  refine⟨a,b,sq,as,f,d,_,rfl,wF _ _ ha,hT.same wF,wF _ _ hb,acm,hd,by rw[q1];omega,q2,λ H4 oa s4 hoa XR=>?_⟩
  have K4:=wF.trans s4
  have adL:H cv=none:=none_of s1 hcv
  have ae0:=s4 _ _ (s3 _ _ adK)
  have nco:oa≠cv:=λ q=>by rw[q,s3 _ _ adK]at hoa;cases hoa
  refine⟨oa,rfl,⟨_,nA.of XR⟩,rg (K:=K) (a:=oa) (xs:=nV (p9 f d (oM f many d))) (λ i σ H'=>∃(v6:Option V),σ=[some (.ref a),some (.ref b),some (.int (many:Nat)),some (.int (left f d:Nat)),some (.int (aY ((p9 f d (oM f many d)).take i):Nat)),some (.ref cv),v6]/\i<=many/\m5 H H'/\H' oa=some (.lst (nV (p9 f d (oM f many d))))/\H' cv=some (.lst (nV (Bq f d (i+1)))))
   ⟨none,rfl,aE _,K4,XR,?_⟩ (λ i σ H' _ ⟨_,_,_,_,q,_⟩=>nA.of q) ?_ ?_⟩
  ·rw[ae0,yH,K2 hd tq room (aE _)];rfl
  ·rintro i x σ H' hx ⟨v6,rfl,him,sm,ho,hc⟩
   obtain⟨c,q,rfl⟩:=oq hx
   have hi:i<many:=by have:=(List.getElem?_eq_some_iff.mp q).1;rw[xP,q1]at this;exact this
   have e1:((aY ((p9 f d (oM f many d)).take i):Nat):Int)+(c:Int)=((aY ((p9 f d (oM f many d)).take (i+1)):Nat):Int):=by
    rw[b8,q,j4,CL];rfl
   refine⟨_,rfl,_,rfl,Tq e1 ?_⟩
   refine⟨_,rfl,.inl ⟨rfl,_,nA.of hc⟩,_,rfl,_,rfl,_,left f d,rfl,h0,lb,bH (aV (BN _ _) tb) lb,λ H5 fr s5 JT acn=>?_⟩
   refine⟨cv,fr,_,_,rfl,rfl,s5 _ _ hc,acn,?_,?_⟩
   ·rw[m8,Av,aA];show _+2<=_;omega
   ·refine⟨_,rfl,hi,(sm.trans s5).put adL,by rw[mY nco];exact s5 _ _ ho,?_⟩
    rw[mX,yH f d (i+1),K2 hd tq room hi]
    unfold nV;rw[aF];rfl
  ·rintro σ H' ⟨v6,rfl,him,sm,ho,hc⟩
   rw[m8,xP,q1]at hc
   exact⟨_,rfl,k H' cv sm adL hc⟩
inductive Ax (vs:List V) (H:Hp) (Q:VK) (Ex:XK):Prop
 |mk (a b:ag) (as:List ag) (f:ae) (d:List Nat) (k:Nat):vs=[.ref a,.ref b,.int (k:Nat)]->FW f->H a=some (.lst (as.map V.ref))->TabsAt H as (nY f)->H b=some (.lst (nV d))->d.length=f.cells.length->(∀n∈d,n<=20)->aY d+(k+1)<=20*d.length->1<=k->0<left f d->GW H Q (nV (qL (f7 f d (k-1))++qL (f7 f d k)))->Ax vs H Q Ex
abbrev Rc:List Str:=["tables","had","many","left","adds"]
theorem F9:m7 Rc ["tables","had","many"] (mZ Ci):=qf
theorem Oz(F:pG K "best_price" "best_price" Ci f fd)(oX:Hz3 P w K mg base)(pZ:Hz8 P w K mg base)(pR:Hz9 P w K mg base)(ou:Hz4 P w K mg base):nO P w K mg base oE 4 f fd ["tables","had","many"] Ax:=by
 refine F.ok F9 (λ vs H Q E h=>?_) (λ oU A outer s H vs Q E hr h=>?_)
 ·obtain⟨a,b,as,f,d,many,rfl,_⟩:=h
  rfl
 ·obtain⟨a,b,as,f,d,many,rfl,W,ha,hT,hb,hd,tq,room,h1,h0,k⟩:=h
  have nd:=F9.nd
  refine⟨_,(mV (m6 (i:=3) nd rfl (Or.inl rfl) (nq (E:=E0) oX hr (by decide) nj (mU (pv 0) (mU (pv 1) mW))))
   (mV (m6 (i:=4) nd rfl (Or.inl rfl) (nq (E:=E0) pZ hr (by decide) nj (mU (pv 0) (mU (pv 1) (mU (nq (E:=E0) pR hr (by decide) nj (mU (pv 0) (mU (pv 1) (mU (og qS (pv 2) nM) mW)))) mW)))))
   (m4 (m9 (og qT (nq (E:=E0) ou hr (by decide) nj (mU (oZ n9 (pv 4) (og sF (pv 2) nM) (λ _ _=>rfl)) (mU (pv 3) mW))) (nq (E:=E0) ou hr (by decide) nj (mU (oZ n9 (pv 4) (pv 2) (λ _ _=>rfl)) (mU (pv 3) mW)))))))),?_⟩
  have wB:=W.len
  have lb:=ue W hd tq
  obtain⟨q1,q2,q3⟩:=tO (f:=f) (many+1) d tq room
  have tb:aY (p9 f d (oM f (many+1) d))<=left f d:=by have:=tN (f:=f) _ d hd q2;omega
  obtain⟨a1,a2⟩:=K3 (f:=f) (j:=many-1) hd tq room (by omega)
  obtain⟨b1,b2⟩:=K3 (f:=f) (j:=many) hd tq room (by omega)
  have le:∀j,(p9 f d (oM f (many+1) d)).getD j 0<=aY (p9 f d (oM f (many+1) d)):=IP _
  rw[a1,b1]at k
  refine⟨_,rfl,_,rfl,a,b,as,nY f,d,rfl,ha,hT,hb,by rw[pM,hd],by omega,Bm tq,λ H1 s1=>?_⟩
  rw[tL hd tq]
  refine⟨_,rfl,_,rfl,_,rfl,_,rfl,_,rfl,_,_,rfl,rfl,a,b,as,f,d,many+1,rfl,W,s1 _ _ ha,hT.same s1,s1 _ _ hb,hd,tq,room,λ H3 sq s3 Y_ acm=>?_⟩
  have wF:=s1.trans s3
  refine⟨a,b,sq,as,f,d,_,rfl,wF _ _ ha,hT.same wF,wF _ _ hb,acm,hd,by rw[q1];omega,q2,λ H4 oa s4 hoa XR=>?_⟩
  have K4:=wF.trans s4
  have em:(many:Int)-1=((many-1:Nat):Int):=by omega
  refine⟨_,rfl,_,rfl,_,_,rfl,rfl,oa,_,_,_,rfl,rfl,nA.of XR,at_of em (oR a2),_,rfl,_,left f d,rfl,h0,lb,bH (aV (le _) tb) lb,λ H5 f1 s5 hf1 hf5=>?_⟩
  refine⟨_,rfl,_,rfl,oa,_,_,_,rfl,rfl,nA.of (s5 _ _ XR),oo (oR b2),_,rfl,_,left f d,rfl,h0,lb,bH (aV (le _) tb) lb,λ H6 f2 s6 hf2 hf6=>?_⟩
  have VY:=K4.trans (s5.trans s6)
  refine⟨f1,f2,_,_,rfl,rfl,s6 _ _ hf5,hf6,(by show 4<=ay;decide),λ p hp=>?_⟩
  exact k _ p (VY.put (none_of VY hp)) (none_of VY hp) (by rw[mX];rfl)
end n_
namespace L2
def w_(x y:Int×Int):Prop:=x.1<y.1\/(x.1=y.1/\x.2<=y.2)
def XS(K:ah):List V->Hp->VK->Prop:=λ vs H Q=>∃(a:ag) (as:List ag) (key:ag->Int×Int),vs=[V.ref a]/\nA K H a (as.map V.ref)/\(∀b∈as,H b=some (.tup [.int (key b).1,.int (key b).2]))/\as.length<=1000/\
 ∀(EF:List ag) (p:ag),EF.Perm as->EF.Pairwise (λ b c=>w_ (key b) (key c))->H p=none->Q (.ref p) (upd H p (.lst (EF.map V.ref)))
def vG:ao->ag
 | .ref a=>a
 |_=>0
theorem K5:∀{as:List ag} {us:List ao},Vals (as.map V.ref) us->us=as.map Value.ref
 |[],us,h=>by cases h;rfl
 |a::as,us,h=>by
  cases h with
  |cons r t=>rw[K5 t];cases r;rfl
theorem DX:∀(as:List ag),Vals (as.map V.ref) (as.map Value.ref)
 |[]=>.nil
 |a::as=>.cons rfl (DX as)
theorem aai{a b c d:Int}(h:(listOrd itemOrd).kle [Sum.inl a,Sum.inl b] [Sum.inl c,Sum.inl d]):w_ (a,b) (c,d):=by
 have h:jq itemOrd [Sum.inl c,Sum.inl d] [Sum.inl a,Sum.inl b]=false:=h
 rw[lex_cons,lex_cons]at h
 have e1:∀x y:Int,itemOrd.blt (Sum.inl x) (Sum.inl y)=decide (x<y):=λ x y=>rfl
 rw[e1,e1,e1,e1]at h
 simp[jq]at h
 unfold w_
 show a<c\/(a=c/\b<=d)
 omega
section
variable{X:Cx}
theorem Mu{pins:List (ag×Obj)}{σ:L2.St}{H:Hp}{s:au}(I:Inv X pins σ H s){b:ag}{x y:Int}(h:H b=some (.tup [.int x,.int y])):
  G.tupKeyC s.heap (λ _=>false) (.ref b)=some [Sum.inl x,Sum.inl y]/\∃f,TupOf s.heap (λ _=>false) (.ref b) f:=by
 obtain⟨_,oh,r,p⟩:=I.oW b _ h
 cases r with
 |cons r1 r=>
  cases r with
  |cons r2 r=>
   cases r
   obtain⟨t1,rfl⟩:=r1
   obtain⟨t2,rfl⟩:=r2
   obtain⟨o,e,c,n,d⟩:=p
   refine⟨?_,_,b,o,_,n,rfl,e,c,d,rfl,λ _=>⟨_,_,rfl⟩,λ z=>by cases z⟩
   unfold G.tupKeyC
   have i:G.isTupObj s.heap (.ref b)=true:=by
    unfold G.isTupObj
    simp only[e,c];rfl
   rw[if_pos i]
   unfold tupKey
   simp only[e,d];rfl
theorem Tr{h:bF}{sh:Nat->Bool}:∀{vs:List ao},(∀v∈vs,∃f,TupOf h sh v f)->∃fs,TupsOf h sh vs fs
 |[],_=>⟨[],.nil⟩
 |v::vs,g=>by
  obtain⟨f,hf⟩:=g v (by simp)
  obtain⟨fs,hfs⟩:=Tr (vs:=vs) λ u hu=>g u (by simp[hu])
  exact⟨f::fs,.cons hf hfs⟩
theorem Rf:zP X (.builtin "sorted") (XS X.K):=by
 intro pins s σ H vs us Q I r h
 obtain⟨a,as,key,rfl,hs,hk,h64,q⟩:=h
 obtain⟨oh,rv,hl,_⟩:=I.list hs
 rw[Vals.Zu r]
 have hi:=K5 rv
 have hsl:=aA
 obtain⟨fs,hfs⟩:=Tr (h:=s.heap) (sh:=λ _=>false) (vs:=oh) λ v hv=>by
  rw[hi]at hv
  obtain⟨b,hb,rfl⟩:=List.mem_map.mp hv
  exact(Mu I (hk b hb)).2
 refine G.sorted_tups hl.isList hfs (λ v hv=>?_) (by rw[hi,aa];omega) λ st h1 h2 h3=>?_
 ·rw[hi]at hv
  obtain⟨b,hb,rfl⟩:=List.mem_map.mp hv
  exact⟨_,(Mu I (hk b hb)).1⟩
 have p1:(gg st).toList.Perm (oh.zip oh):=by
  have:=Array.perm_iff_toList_perm.mp h1
  rw[pairsOf_toList]at this;exact this
 have same:∀p∈(gg st).toList,p.1=p.2/\∃b∈as,p.1= .ref b:=λ p hp=>by
  obtain⟨e,m⟩:=mem_zip_self (p1.mem_iff.mp hp)
  rw[hi]at m
  obtain⟨b,hb,e2⟩:=List.mem_map.mp m
  exact⟨e.symm ▸ rfl,b,hb,e2.symm⟩
 have p2:((gg st).toList.map (·.2)).Perm oh:=by
  have:=p1.map (·.2)
  rw[show(oh.zip oh).map (·.2)=oh by rw[kZ];exact ax _]at this
  exact this
 have e1:((gg st).toList.map (·.2)).map vG=(gg st).toList.map (λ p=>vG p.2):=by rw[aW];rfl
 have p3:((gg st).toList.map (λ p=>vG p.2)).Perm as:=by
  have:=p2.map vG
  rw[e1,hi,aW]at this
  have e2:as.map (vG ∘ Value.ref)=as:=by
   rw[show(vG ∘ Value.ref)=id from rfl,hZ]
  rw[e2]at this;exact this
 have out:((gg st).map (·.2)).toList=((gg st).toList.map (λ p=>vG p.2)).map Value.ref:=by
  rw[Array.toList_map,aW]
  refine bO λ p hp=>?_
  obtain⟨e,b,_,e2⟩:=same p hp
  show p.2=Value.ref (vG p.2)
  rw[<-e,e2];rfl
 obtain⟨ep,he⟩:=mD s.heap oh ((gg st).map (·.2))
 have hlen:(((gg st).toList.map (λ p=>vG p.2)).map V.ref).length<=ay:=by rw[aa,p3.length_eq];omega
 refine⟨.ref _,_,I.laid (t':=s.toks) (λ _ _=>mC) (ki _) (show pN X.prog X.w _ _ _ (.lst _)from⟨hlen,((gg st).map (·.2)).toList,ep,by rw[out];exact DX _,he⟩),rfl,q _ _ p3 ?_ (I.oW.fresh (ki _))⟩
 rw[List.pairwise_iff_getElem]
 intro i j hi' Y7 hij
 rw[aa,Array.length_toList]at hi' Y7
 have hsz:(pairsOf oh).size=(gg st).size:=h1.size_eq.symm
 have z:=h2 i j (e_ hij) (by rw[hsz];exact Y7)
 have kk:∀(m:Nat) (hm:m<(gg st).size),KK (G.tupKindC s.heap λ _=>false) (gg st) m=[Sum.inl (key (vG ((gg st)[m]).2)).1,Sum.inl (key (vG ((gg st)[m]).2)).2]:=λ m hm=>by
  obtain⟨e,b,hb,e2⟩:=same (gg st)[m] (Array.getElem_mem_toList hm)
  unfold KK
  rw[Array.getElem?_eq_getElem hm]
  show((G.tupKeyC s.heap (λ _=>false) (gg st)[m].1).getD [])=_
  rw[<-e,e2,(Mu I (hk b hb)).1];rfl
 rw[kk i hi',kk j Y7]at z
 rw[k6,k6]
 simp only[Array.getElem_toList]
 exact aai z
end
end L2
namespace n_
def uo(f:ae):Prop:=∀c∈f.cells,1<=c.time/\c.time<=20
theorem uN{f:ae}(h:uo f)(c:Nat):1<=(bx f c).time/\(bx f c).time<=20:=by
 unfold bx
 rw[aB]
 cases q:f.cells[c]? with
 |none=>exact⟨ax _,by decide⟩
 |some x=>exact h x (aC q)
theorem Hi{f:ae}{c:Nat}(hc:c<f.cells.length):(f.cells.map (·.time))[c]? =some (bx f c).time:=by
 have e:f.cells[c]? =some f.cells[c]:=af hc
 unfold bx
 rw[ak,aB,e];rfl
theorem aaj{f:ae}(W:FW f){d:List Nat}(hl:d.length=f.cells.length)(wg:∀n∈d,n<=20):left f d<=16*(1000000000000*100 ^ 20):=by
 refine aV (DR (B:=1000000000000*100 ^ 20) _ λ x hx=>?_) ?_
 ·obtain⟨y,hy,rfl⟩:=List.mem_map.mp hx
  have h1:=gR hy
  exact Mm W (by omega) (wg _ (by rw[h1.2.2];exact cq _))
 ·rw[aa,dP,hl]
  exact c7 _ W.len
theorem IQ{f:ae}(T:uo f):∀(l d:List Nat),d.length=f.cells.length->uD d l->jg f d l<=l.length*(20*left f d)
 |[],d,_,_=>aE _
 |c::l,d,hd,⟨h1,h2,h3⟩=>by
  have ih:=IQ T l (bump d c) (by rw[pV,hd]) h3
  have lb:=Fm (f:=f) h1 hd h2
  show left f d*(bx f c).time+jg f (bump d c) l<=(l.length+1)*(20*left f d)
  have t20:=(uN T c).2
  have a1:left f d*(bx f c).time<=20*left f d:=by rw[fX];exact c7 _ t20
  have a2:l.length*(20*left f (bump d c))<=l.length*(20*left f d):=dg _ (dg _ (by omega))
  rw[jY];omega
theorem OA{f:ae}(W:FW f)(T:uo f){l d:List Nat}(hd:d.length=f.cells.length)(wg:∀n∈d,n<=20)(ho:uD d l)(hl:l.length<=1000):jg f d l<Ta:=by
 have h1:=IQ T l d hd ho
 have h2:=aaj W hd wg
 have h3:l.length*(20*left f d)<=1000*(20*(16*(1000000000000*100 ^ 20))):=lU hl (dg _ h2)
 have h4:1000*(20*(16*(1000000000000*100 ^ 20)))<2 ^ 250:=by decide
 have h5:2 ^ 250<=Ta:=dw (by decide:0<2) (by decide:250<=8000)
 exact bH h1 (bH h3 (aS h4 h5))
def tP:Nat:=232792560
theorem common{t:Nat}(h:1<=t/\t<=20):t*(tP / t)=tP:=by
 have h0:∀t∈az 21,1<=t->t*(232792560 / t)=232792560:=by decide
 exact h0 t (List.mem_range.mpr (by omega)) h.1
def keyOf(f:ae)(x:Nat×Nat):Int×Int:=(-((x.2*(tP / (bx f x.1).time):Nat):Int),(x.1:Int))
theorem OB{a b s t:Nat}(hs:1<=s/\s<=20)(ht:1<=t/\t<=20):(a*(tP / s)<b*(tP / t)↔a*t<b*s):=by
 have cs:=common hs
 have ct:=common ht
 generalize tP / s=p at *
 generalize tP / t=q at *
 have hC:0<tP:=by decide
 generalize tP=C at *
 have LG:0<s*t:=Nat.mul_pos (by omega) (by omega)
 have e1:a*p*(s*t)=a*t*C:=by rw[<-cs];simp only[fD,fX,gu]
 have e2:b*q*(s*t)=b*s*C:=by rw[<-ct];simp only[fD,fX,gu]
 constructor
 ·intro h
  have:=jr h LG
  rw[e1,e2]at this
  exact jx this
 ·intro h
  have:=jr h hC
  rw[<-e1,<-e2]at this
  exact jx this
theorem K6{f:ae}(T:uo f)(x y:Nat×Nat):km f x y=true↔w_ (keyOf f x) (keyOf f y):=by
 have c1:=OB (a:=y.2) (b:=x.2) (uN T y.1) (uN T x.1)
 have c2:=OB (a:=x.2) (b:=y.2) (uN T x.1) (uN T y.1)
 unfold km w_ keyOf
 dsimp only
 rw[gS,bg,decide_eq_true_iff,decide_eq_true_iff,beq_iff_eq]
 generalize x.2*(tP / (bx f x.1).time)=p at *
 generalize y.2*(tP / (bx f y.1).time)=q at *
 generalize y.2*(bx f x.1).time=r at *
 generalize x.2*(bx f y.1).time=u at *
 omega
theorem Rg(x y:Int×Int):w_ x y\/w_ y x:=by unfold w_;omega
theorem Rh{x y z:Int×Int}(h:w_ x y)(g:w_ y z):w_ x z:=by unfold w_ at *;omega
theorem U_{x y:Int×Int}(h:w_ x y)(g:w_ y x):x=y:=by
 unfold w_ at *
 have h1:x.1=y.1:=by omega
 have h2:x.2=y.2:=by omega
 exact Prod.ext h1 h2
theorem CZ(f:ae)(x:Nat×Nat):∀l,(putIn f x l).Perm (x::l)
 |[]=>List.Perm.refl _
 |y::l=>by
  unfold lD
  split
  ·exact List.Perm.refl _
  ·exact((CZ f x l).cons y).trans (List.Perm.swap x y l)
theorem DY{f:ae}(T:uo f)(x:Nat×Nat):∀l,l.Pairwise (λ a b=>w_ (keyOf f a) (keyOf f b))->(putIn f x l).Pairwise (λ a b=>w_ (keyOf f a) (keyOf f b))
 |[],_=>by show[x].Pairwise _;exact List.pairwise_singleton _ _
 |y::l,h=>by
  obtain⟨h1,h2⟩:=List.pairwise_cons.mp h
  unfold lD
  split
  ·rename_i hc
   have hc:=(K6 T x y).mp hc
   refine List.pairwise_cons.mpr ⟨λ z hz=>?_,h⟩
   rcases List.mem_cons.mp hz with q|q
   ·rw[q];exact hc
   ·exact Rh hc (h1 z q)
  ·rename_i hc
   have hc:w_ (keyOf f y) (keyOf f x):=by
    rcases Rg (keyOf f x) (keyOf f y)with q|q
    ·exact absurd ((K6 T x y).mpr q) hc
    ·exact q
   refine List.pairwise_cons.mpr ⟨λ z hz=>?_,DY T x l h2⟩
   rcases List.mem_cons.mp ((CZ f x l).mem_iff.mp hz)with q|q
   ·rw[q];exact hc
   ·exact h1 z q
theorem Fn(f:ae):∀(l:List (Nat×Nat)),(l.foldr (putIn f) []).Perm l
 |[]=>List.Perm.refl _
 |x::l=>(CZ f x _).trans ((Fn f l).cons x)
theorem F_{f:ae}(T:uo f):∀(l:List (Nat×Nat)),(l.foldr (putIn f) []).Pairwise (λ a b=>w_ (keyOf f a) (keyOf f b))
 |[]=>List.Pairwise.nil
 |x::l=>DY T x _ (F_ T l)
theorem Ri{f:ae}(T:uo f){d e:List Nat}{ks:List (Int×Int)}(hp:ks.Perm ((gT f d e).map (keyOf f)))(hs:ks.Pairwise w_):ks.map (·.2)=(dO f d e).map λ(c:Nat)=>(c:Int):=by
 have e1:ks=((gT f d e).foldr (putIn f) []).map (keyOf f):=by
  refine List.Perm.eq_of_pairwise (le:=w_) (λ a b _ _ h g=>U_ h g) hs ?_ ?_
  ·rw[iN];exact F_ T _
  ·exact hp.trans ((Fn f _).map _).symm
 rw[e1]
 unfold dO
 rw[aW,aW];rfl
theorem K7{t:Nat}(h:t<=1000000000000)(j:Int):Qb (t:Int) j:=.inl ⟨by omega,by omega⟩
theorem adM{t:Nat}(h:1<=t/\t<=100)(i:Int):Tb i (t:Int):=⟨by omega,by
 have z:(100:Nat)<Ta:=by exact aS (by decide:100<2 ^ 7) (dw (by decide:0<2) (by decide:7<=8000))
 omega⟩
def IS(H:Hp)(as:List ag)(ks:List (Int×Int)):Prop:=as.length=ks.length/\∀(j:Nat) (b:ag) (k:Int×Int),as[j]? =some b->ks[j]? =some k->H b=some (.tup [.int k.1,.int k.2])
inductive sP (vs:List V) (H:Hp) (Q:VK) (Ex:XK):Prop
 |mk (a b c o:ag) (as:List ag) (f:ae) (d l:List Nat):vs=[.ref a,.ref b,.ref c,.ref o]->FW f->uo f->H a=some (.lst (as.map V.ref))->TabsAt H as (nY f)->H b=some (.lst (nV d))->H c=some (.lst (nV (f.cells.map (·.time))))->H o=some (.lst (nV l))->d.length=f.cells.length->(∀n∈d,n<=20)->l.length<=1000->uD d l->0<left f d->GW H Q (nV (qL (iu f d l)))->sP vs H Q Ex
abbrev J_:List Str:=["tables","had","times","order","left","not_found","sums","cell","adds"]
theorem Ay:m7 J_ ["tables","had","times","order"] (mZ wU):=qf
theorem IU(F:pG K "expected_time" "expected_time" wU f fd)(oX:Hz3 P w K mg base)(xM:mg "zip"=none)(pZ:Hz8 P w K mg base)(ou:Hz4 P w K mg base):nO P w K mg base oE 3 f fd ["tables","had","times","order"] sP:=by
 refine F.ok Ay (λ vs H Q E h=>?_) (λ oU A outer s H vs Q E hr h=>?_)
 ·obtain⟨a,b,c,o,as,f,d,l,rfl,_⟩:=h
  rfl
 ·obtain⟨a,b,c,o,as,f,d,l,rfl,W,T,ha,hT,hb,hc,ho,hd,tq,hl,oW,h0,k⟩:=h
  have nd:=Ay.nd
  refine⟨_,(mV (m6 (i:=4) nd rfl (Or.inl rfl) (nq (E:=E0) oX hr (by decide) nj (mU (pv 0) (mU (pv 1) mW))))
   (mV (m6 (i:=5) nd rfl (Or.inl rfl) (pv 4))
   (mV (m6 (i:=6) nd rfl (Or.inl rfl) nM)
   (mV (qw PassesOwn.never rfl (ES rfl xM (mU (pv 3) (mU (nq (E:=E0) pZ hr (by decide) nj (mU (pv 0) (mU (pv 1) (mU (pv 3) mW)))) mW))) (zN rfl (oG (nr (i:=7) nd rfl (Or.inl rfl)) (oG (nr (i:=8) nd rfl (Or.inl rfl)) rB))) (mV (Hs (i:=6) nd rfl (Or.inl rfl) (og wR (oZ n9 (pv 2) (pv 7) (λ _ _=>rfl)) (pv 5)) zO)
   (m4 (Hs (i:=5) nd rfl (Or.inl rfl) (pv 8) PY))))
   (m4 (m9 (nq (E:=E0) ou hr (by decide) nj (mU (pv 6) (mU (pv 4) mW))))))))),?_⟩
  have wB:=W.len
  have lb:=ue W hd tq
  refine⟨_,rfl,_,rfl,a,b,as,nY f,d,rfl,ha,hT,hb,by rw[pM,hd],by omega,Bm tq,λ H1 s1=>?_⟩
  rw[tL hd tq]
  refine⟨_,rfl,_,rfl,_,rfl,_,rfl,_,rfl,a,b,o,as,f,d,l,rfl,s1 _ _ ha,hT.same s1,s1 _ _ hb,s1 _ _ ho,hd,hl,oW,λ H2 oa s2 hoa adN=>?_⟩
  have vE:=s1.trans s2
  refine⟨o,oa,_,_,rfl,nA.of (vE _ _ ho),nA.of adN,Tf (K:=K) (a:=o) (b:=oa) (xs:=nV l) (ys:=nV (p9 f d l)) (by rw[m8,m8,xP]) (λ i σ H'=>∃(v7 v8:Option V) (D:List Nat) (tm:Nat),σ=[some (.ref a),some (.ref b),some (.ref c),some (.ref o),some (.int (left f d:Nat)),some (.int (left f D:Nat)),some (.int (tm:Nat)),v7,v8]/\m5 H2 H'/\jg f d l=tm+jg f D (l.drop i)/\uD D (l.drop i)/\D.length=d.length/\(p9 f d l).drop i=p9 f D (l.drop i))
   ⟨none,none,d,0,rfl,m5.refl _,(cX _).symm,oW,rfl,rfl⟩ (λ i σ H' _ ⟨_,_,_,_,_,sm,_⟩=>⟨nA.of (sm _ _ (vE _ _ ho)),nA.of (sm _ _ adN)⟩) ?_ ?_⟩
  ·rintro i x y TT σ H' hx hy ⟨v7,v8,D,tm,rfl,sm,eq,ok,Ov,ea⟩ Va
   obtain⟨cc,q,rfl⟩:=oq hx
   obtain⟨g,q2,rfl⟩:=oq hy
   rw[yD q]at eq ok ea
   obtain⟨o1,o2,o3⟩:=ok
   rw[yD q2]at ea
   obtain⟨e1,e2⟩:=List.cons.inj ea
   subst e1
   have lbb:=Fm (f:=f) o1 (Ov.trans hd) o2
   have sT:m5 H2 (upd H' TT (.tup [.int (cc:Nat),.int (c9 f cc (D.getD cc 0):Nat)])):=sm.trans (m5.new Va)
   have ta:=Hi (f:=f) (c:=cc) (by omega)
   have t20:=uN T cc
   refine⟨TT,_,rfl,BG.of mX,rfl,_,_,rfl,_,_,rfl,rfl,?_⟩
   refine⟨_,rfl,_,rfl,_,rfl,c,_,_,_,rfl,rfl,nA.of (sT _ _ (vE _ _ hc)),oo (oR ta),_,rfl,_,_,rfl,rfl,K7 (by omega) _,Tq (z:=((tm+left f D*(bx f cc).time:Nat):Int)) ?_ ?_⟩
   ·rw[Int.natCast_add,Int.natCast_mul,Int.mul_comm (left f D:Int)]
   refine⟨_,rfl,_,rfl,Mt (z:=((left f (bump D cc):Nat):Int)) (by omega) ?_⟩
   exact⟨_,_,bump D cc,tm+left f D*(bx f cc).time,rfl,sT,by rw[eq,Nat.add_assoc];rfl,o3,by rw[pV,Ov],e2⟩
  ·rintro σ H' ⟨v7,v8,D,tm,rfl,sm,eq,ok,Ov,ea⟩
   rw[m8,fq]at eq
   have e:jg f d l=tm:=eq
   have big:=OA W T hd tq oW hl
   rw[e]at big
   refine⟨_,rfl,_,rfl,tm,left f d,rfl,h0,lb,big,λ H3 p s3 hp NR=>?_⟩
   have wF:=vE.trans sm
   refine k H3 p (wF.trans s3) (none_of wF hp) ?_
   rw[NR]
   unfold iu
   rw[e];rfl
def Mv(f:ae)(d:List Nat)(x:Nat×Nat):List (Nat×Nat):=(az x.1).map λ j=>(x.2,c9 f x.2 (d.getD x.2 0+j))
def tupK(H:Hp)(b:ag):Int×Int:=match H b with
 |some (.tup [.int x,.int y])=>(x,y)
 |_=>(0,0)
theorem Ts{H:Hp}{b:ag}{x y:Int}(h:H b=some (.tup [.int x,.int y])):tupK H b=(x,y):=by unfold tupK;rw[h]
inductive Az (vs:List V) (H:Hp) (Q:VK) (Ex:XK):Prop
 |mk (a b c r:ag) (as:List ag) (f:ae) (d e:List Nat):vs=[.ref a,.ref b,.ref c,.ref r]->uo f->H a=some (.lst (as.map V.ref))->TabsAt H as (nY f)->H b=some (.lst (nV d))->H c=some (.lst (nV (f.cells.map (·.time))))->H r=some (.lst (nV e))->d.length=f.cells.length->e.length=d.length->d.length<=16->(∀n∈bB d e,n<=20)->GW H Q (nV (dO f d e))->Az vs H Q Ex
abbrev IV:List Str:=["tables","had","times","row","efforts","cell","many","before","by_time"]
theorem Ga:m7 IV ["tables","had","times","row"] (mZ xZ):=qf
theorem OC(F:pG K "best_order" "best_order" xZ f fd)(qi:mg "enumerate"=none)(qM:mg "range"=none)(pH:Hz7 P w K mg base)(xb:oC mg "COMMON_TIME" 232792560)(XT:mg "sorted"=none):nO P w K mg base oE 2 f fd ["tables","had","times","row"] Az:=by
 refine F.ok Ga (λ vs H Q E h=>?_) (λ oU A outer s H vs Q E hr h=>?_)
 ·obtain⟨a,b,c,r,as,f,d,e,rfl,_⟩:=h
  rfl
 ·obtain⟨a,b,c,r,as,f,d,e,rfl,T,ha,hT,hb,hc,XU,hd,he,GX,m20,k⟩:=h
  have nd:=Ga.nd
  refine⟨_,(mV (m6 (i:=4) nd rfl (Or.inl rfl) (nN mW))
   (mV (qw PassesOwn.never rfl (Dv rfl qi (mU (pv 3) mW)) (zN rfl (oG (nr (i:=5) nd rfl (Or.inl rfl)) (oG (nr (i:=6) nd rfl (Or.inl rfl)) rB))) (m4 (qw PassesOwn.never rfl (Kn rfl qM (mU (oZ n9 (pv 1) (pv 5) (λ _ _=>rfl)) (mU (og qS (oZ n9 (pv 1) (pv 5) (λ _ _=>rfl)) (pv 6)) mW))) (nr (i:=7) nd rfl (Or.inl rfl)) (mV (m6 (i:=8) nd rfl (Or.inl rfl) (og wR (nq (E:=E0) pH hr (by decide) nj (mU (oZ n9 (pv 0) (pv 5) (λ _ _=>rfl)) (mU (pv 7) mW))) (og DF (nP xb) (oZ n9 (pv 2) (pv 5) (λ _ _=>rfl)))))
   (m4 (nZ (qQ aG a_ a0 pD (pv 4) (mU (abz (mU (Ss LH (pv 8)) (mU (pv 5) mW))) mW))))))))
   (m4 (m9 (qp (own:=[("by_time",8),("cell",5)]) rfl nd (oJ (nJ Rf rfl XT boot_sorted (mU (pv 4) mW))) (by exact pz.of (N:=IV) (sc:=mZ xZ) (by decide +kernel)) (λ _ _ _ _ _=>by exact(Bk K (n:=2) rfl (oG (nr (i:=8) nd rfl (Or.inl rfl)) (oG (nr (i:=5) nd rfl (Or.inl rfl)) rB)))) (λ _ _ _ _ _=>by exact oP) (λ _ _ _ _ _=>by exact(pv 5))))))),?_⟩
  refine⟨aE _,λ ef hef=>?_⟩
  have s1:m5 H (upd H ef (.lst [])):=m5.new hef
  have GO:∀(E:List (Nat×Nat)) (es:List ag) (H':Hp) (x:Nat×Nat) (z:Int) (T0:ag),z= -((x.2*(tP / (bx f x.1).time):Nat):Int)->m5 H H'->H' ef=some (.lst (es.map V.ref))->IS H' es (E.map (keyOf f))->H' T0=none->
    m5 H (upd (upd H' T0 (.tup [.int z,.int (x.1:Nat)])) ef (.lst (es.map V.ref++[V.ref T0])))/\(upd (upd H' T0 (.tup [.int z,.int (x.1:Nat)])) ef (.lst (es.map V.ref++[V.ref T0]))) ef=some (.lst ((es++[T0]).map V.ref))/\IS (upd (upd H' T0 (.tup [.int z,.int (x.1:Nat)])) ef (.lst (es.map V.ref++[V.ref T0]))) (es++[T0]) ((E++[x]).map (keyOf f)):=by
   intro E es H' x z T0 hz sm h1 h2 h3
   have nT:T0≠ef:=λ q=>by rw[q,h1]at h3;cases h3
   refine⟨(sm.put (none_of sm h3)).put hef,by rw[mX,aF];rfl,by rw[aw,aF,aw,h2.1];rfl,λ j b0 k0 q1 q2=>?_⟩
   by_cases hj:j<es.length
   ·rw[bp hj]at q1
    rw[aF,bp (by rw[<-h2.1];exact hj)]at q2
    have XX:=h2.2 j b0 k0 q1 q2
    have n1:b0≠ef:=λ q=>by rw[q,h1]at XX;cases XX
    have n2:b0≠T0:=λ q=>by rw[q,h3]at XX;cases XX
    rw[mY n1,mY n2];exact XX
   ·rw[bf (by omega)]at q1
    rw[aF,bf (by rw[<-h2.1];omega),<-h2.1]at q2
    have ej:j-es.length=0:=by
     have:=(List.getElem?_eq_some_iff.mp q1).1
     simp at this;omega
    rw[ej]at q1 q2
    cases q1;cases q2
    rw[mY nT,mX,hz];rfl
  refine⟨_,rfl,r,_,rfl,nA.of (s1 _ _ XU),DO (K:=K) (a:=r) (xs:=nV e) (λ i σ H'=>∃(v5 v6 v7 v8:Option V) (es:List ag),σ=[some (.ref a),some (.ref b),some (.ref c),some (.ref r),some (.ref ef),v5,v6,v7,v8]/\m5 H H'/\H' ef=some (.lst (es.map V.ref))/\IS H' es (((e.zipIdx.take i).flatMap (Mv f d)).map (keyOf f))/\es.length<=20*i)
   ⟨none,none,none,none,[],rfl,s1,mX,⟨rfl,λ j b0 k0 q=>by simp at q⟩,ax _⟩ (λ i σ H' _ ⟨_,_,_,_,_,_,sm,_⟩=>nA.of (sm _ _ XU)) ?_ ?_⟩
  ·rintro i x T1 σ H' hx ⟨v5,v6,v7,v8,es,rfl,sm,h1,h2,h3⟩ hT1
   obtain⟨n,q,rfl⟩:=oq hx
   have hi:i<e.length:=(List.getElem?_eq_some_iff.mp q).1
   have gd:=getD_at (d:=d) (c:=i) (by omega)
   have hm:d.getD i 0+n<=20:=m20 _ (aC (i:=i) (by unfold bB;rw[aO,gd,q]))
   have ze:e.zipIdx[i]? =some (n,i):=by rw[bQ,q];show some (n,0+i)=_;rw[cX]
   have sT:m5 H (upd H' T1 (.tup [.int (i:Nat),.int (n:Nat)])):=sm.trans (m5.new hT1)
   have g1:(upd H' T1 (.tup [.int (i:Nat),.int (n:Nat)])) ef=some (.lst (es.map V.ref)):=m5.new hT1 _ _ h1
   have g2:IS (upd H' T1 (.tup [.int (i:Nat),.int (n:Nat)])) es (((e.zipIdx.take i).flatMap (Mv f d)).map (keyOf f)):=⟨h2.1,λ j b0 k0 q1 q2=>m5.new hT1 _ _ (h2.2 j b0 k0 q1 q2)⟩
   refine⟨T1,_,rfl,BG.of mX,rfl,_,_,rfl,_,_,rfl,rfl,?_⟩
   refine⟨_,rfl,_,rfl,b,_,_,_,rfl,rfl,nA.of (sT _ _ hb),oo (oR gd),_,rfl,_,rfl,b,_,_,_,rfl,rfl,nA.of (sT _ _ hb),oo (oR gd),_,rfl,_,_,rfl,rfl,_,_,rfl,⟨by omega,by omega,by omega,by omega⟩,?_⟩
   have en:(((d.getD i 0:Nat):Int)+((n:Nat):Int)-((d.getD i 0:Nat):Int)).toNat=n:=by omega
   show ∃W,_
   rw[en]
   refine Ug (n:=n) (λ j σ H'=>∃(v7 v8:Option V) (es:List ag),σ=[some (.ref a),some (.ref b),some (.ref c),some (.ref r),some (.ref ef),some (.int (i:Nat)),some (.int (n:Nat)),v7,v8]/\m5 H H'/\H' ef=some (.lst (es.map V.ref))/\IS H' es (((e.zipIdx.take i).flatMap (Mv f d)++(az j).map λ j=>(i,c9 f i (d.getD i 0+j))).map (keyOf f))/\es.length<=20*i+j)
    ⟨v7,v8,es,rfl,sT,g1,by rw[List.range_zero,fQ,bC];exact g2,by omega⟩ ?_ ?_
   ·rintro j σ H' hj ⟨v7,v8,es,rfl,sm,h1,h2,h3⟩
    obtain⟨tb,t,t1,t2,t3,t4,t5⟩:=Hg (hT.same sm) (show i<f.cells.length by omega) (show d.getD i 0+j<20 by omega)
    have ta:=Hi (f:=f) (c:=i) (by omega)
    have t20:=uN T i
    refine⟨_,rfl,_,rfl,a,_,_,_,rfl,rfl,nA.of (sm _ _ ha),oo t1,_,rfl,tb,t,d.getD i 0+j,_,_,rfl,t2,t3,t4,_,rfl,_,rfl,c,_,_,_,rfl,rfl,nA.of (sm _ _ hc),oo (oR ta),_,_,rfl,rfl,adM (by omega) _,_,_,rfl,rfl,?_,?_⟩
    ·exact .inr ⟨by have:(0:Int)<=232792560 / ((bx f i).time:Int):=Int.ediv_nonneg (by omega) (by omega);omega,by have:(232792560:Int) / ((bx f i).time:Int)<=232792560:=Int.ediv_le_self _ (by omega);omega⟩
    refine⟨_,rfl,.inl ⟨rfl,_,nA.of h1⟩,_,rfl,_,rfl,_,rfl,(by show 2<=ay;decide),λ T0 hT0=>?_⟩
    have ez: -((((cZ f i (d.getD i 0+j):Nat):Int)-((cZ f i (d.getD i 0+j+1):Nat):Int))*(232792560 / ((bx f i).time:Int)))= -((c9 f i (d.getD i 0+j)*(tP / (bx f i).time):Nat):Int):=by
     rw[t5,Int.natCast_mul,Int.natCast_ediv];rfl
    obtain⟨z1,z2,z3⟩:=GO _ es H' (i,c9 f i (d.getD i 0+j)) _ T0 ez sm h1 h2 hT0
    have nT:ef≠T0:=λ q=>by rw[<-q,h1]at hT0;cases hT0
    refine⟨ef,_,_,rfl,rfl,(mY nT).trans h1,(by rw[aa,aA];omega),?_⟩
    refine⟨_,_,es++[T0],rfl,z1,z2,?_,by rw[aw];show es.length+1<=_;omega⟩
    have eE:((e.zipIdx.take i).flatMap (Mv f d)++(az j).map λ j=>(i,c9 f i (d.getD i 0+j)))++[(i,c9 f i (d.getD i 0+j))]=(e.zipIdx.take i).flatMap (Mv f d)++(az (j+1)).map λ j=>(i,c9 f i (d.getD i 0+j)):=by
     rw[eG,aF,bA];rfl
    rw[<-eE];exact z3
   ·rintro σ H' ⟨v7,v8,es,rfl,sm,h1,h2,h3⟩
    refine⟨_,_,_,_,es,rfl,sm,h1,?_,by omega⟩
    rw[b8,ze,d_]
    simpa [Mv]using h2
  ·rintro σ H' ⟨v5,v6,v7,v8,es,rfl,sm,h1,h2,h3⟩
   rw[m8]at h2 h3
   have et:e.zipIdx.take e.length=e.zipIdx:=cu (by rw[dP];exact ax _)
   rw[et]at h2
   have tk:∀b0∈es,H' b0=some (.tup [.int (tupK H' b0).1,.int (tupK H' b0).2]):=λ b0 XX=>by
    obtain⟨j,hj,ej⟩:=cy XX
    have q1:es[j]? =some b0:=by rw[af hj,ej]
    have q2:=h2.2 j b0 _ q1 (af (by rw[<-h2.1];exact hj))
    rw[Ts q2,q2]
   have ek:es.map (tupK H')=(gT f d e).map (keyOf f):=by
    apply bN
    intro j
    by_cases hj:j<es.length
    ·have q1:es[j]? =some es[j]:=af hj
     have q3:(((e.zipIdx).flatMap (Mv f d)).map (keyOf f))[j]? =some _:=af (by rw[<-h2.1];exact hj)
     have q2:=h2.2 j _ _ q1 q3
     rw[ak,q1]
     show some (tupK H' es[j])=(((e.zipIdx).flatMap (Mv f d)).map (keyOf f))[j]?
     rw[q3,Ts q2]
    ·rw[aI (by rw[aa];omega),aI (show((gT f d e).map (keyOf f)).length<=j from by have:=h2.1;show(((e.zipIdx).flatMap (Mv f d)).map (keyOf f)).length<=j;omega)]
   refine⟨_,rfl,ef,es,tupK H',rfl,nA.of h1,tk,by omega,λ VS so XY adO hso=>?_⟩
   have wc:m5 H' (upd H' so (.lst (VS.map V.ref))):=m5.new hso
   refine⟨so,rfl,⟨_,nA.of mX⟩,?_⟩
   have o1:=Ri T (d:=d) (e:=e) (ks:=VS.map (tupK H')) (by rw[<-ek];exact XY.map _) (by rw[iN];exact adO)
   have o2:nV (dO f d e)=VS.map λ b0=>V.int (tupK H' b0).2:=by
    unfold nV
    rw[show(dO f d e).map (λ(c:Nat)=>V.int (c:Int))=((dO f d e).map λ(c:Nat)=>(c:Int)).map V.int by rw[aW];rfl,<-o1,aW,aW];rfl
   have o3:(nV (dO f d e)).length=VS.length:=by rw[o2,aa]
   refine oV (oQ (K:=K) (xs:=VS.map V.ref) (nA.of mX)) (nV (dO f d e)) (by rw[o3,aa]) (by rw[aa,XY.length_eq,aA];omega) (λ j x y H3 R3 N3 hy pE hF kk=>?_) (λ D H3 hD pE uC=>k H3 D (sm.trans (wc.trans pE)) (none_of (sm.trans wc) hD) uC)
   rw[o2,ak]at hy
   rw[ak]at hF
   cases q1:VS[j]? with
   |none=>rw[q1]at hF;cases hF
   |some b0=>
    rw[q1]at hF hy
    cases hF;cases hy
    have tb:=tk b0 (XY.mem_iff.mp (aC q1))
    exact⟨b0,_,rfl,BG.of (pE _ _ (wc _ _ tb)),rfl,_,_,rfl,_,_,rfl,rfl,rfl,sy ⟨_,rfl,kk H3 (m5.refl _)⟩⟩
theorem Fo{zs:List Int}{j:Nat}{x:V}(h:(iL zs)[j]? =some x):∃z,zs[j]? =some z/\x= .int z:=by
 unfold iL at h
 rw[ak]at h
 cases q:zs[j]? with
 |none=>rw[q]at h;cases h
 |some z=>rw[q]at h;cases h;exact⟨z,rfl,rfl⟩
theorem aa7{zs:List Int}{j:Nat}{z:Int}(h:zs[j]? =some z):(iL zs)[j]? =some (.int z):=by
 unfold iL;rw[ak,h];rfl
theorem uq(l:List Nat):nV l=iL (l.map λ(n:Nat)=>(n:Int)):=by unfold nV iL;rw[aW];rfl
def vH(d:List Nat)(zs:List Int):List Int:=jM (λ(n:Nat) (z:Int)=>(n:Int)+z) d zs
theorem K8(d:List Nat)(zs:List Int):(vH d zs).length=min d.length zs.length:=by unfold vH;rw[de]
theorem Vb(d e:List Nat):nV (bB d e)=iL (vH d (e.map λ(n:Nat)=>(n:Int))):=by
 rw[uq]
 congr 1
 unfold vH bB
 rw[iY,gK];rfl
def DZ(d:List Nat)(zs:List Int):Bool:=(vH d zs).all λ z=>decide (z<=20)
inductive uf (vs:List V) (H:Hp) (Q:VK) (Ex:XK):Prop
 |mk (a b:ag) (d:List Nat) (zs:List Int):vs=[.ref a,.ref b]->H a=some (.lst (nV d))->H b=some (.lst (iL zs))->d.length<=16->GW H Q (iL (vH d zs))->uf vs H Q Ex
theorem Gb(F:pG K "together" "together" Bd f fd)(xM:mg "zip"=none):nO P w K mg base oE 1 f fd ["had","row"] uf:=by
 refine F.ok Io (λ vs H Q E h=>?_) (λ oU A outer s H vs Q E hr h=>?_)
 ·obtain⟨a,b,d,zs,rfl,_⟩:=h
  rfl
 ·obtain⟨a,b,d,zs,rfl,ha,hb,GX,k⟩:=h
  have nd:=Io.nd
  refine⟨_,(m4 (m9 (qp (own:=[("before",2),("more",3)]) rfl nd (ES rfl xM (mU (pv 0) (mU (pv 1) mW))) (by exact pz.of (N:=KS) (sc:=mZ Bd) (by decide +kernel)) (λ _ _ _ _ _=>by exact(Bk K (n:=2) rfl (oG (nr (i:=2) nd rfl (Or.inl rfl)) (oG (nr (i:=3) nd rfl (Or.inl rfl)) rB)))) (λ _ _ _ _ _=>by exact oP) (λ _ _ _ _ _=>by exact(og qS (pv 2) (pv 3)))))),?_⟩
  refine⟨_,rfl,_,rfl,a,b,_,_,rfl,nA.of ha,nA.of hb,?_⟩
  refine oV (UX (K:=K) (nA.of ha) (nA.of hb)) (iL (vH d zs)) (by rw[pU,m8,pU,K8]) (by rw[m8,aA];omega) (λ j x y H3 R3 N3 hy pE hF kk=>?_) (λ D H3 hD pE uC=>k H3 D pE hD uC)
  obtain⟨T,x1,y1,rfl,h1,h2,hT⟩:=hF
  obtain⟨c1,q1,rfl⟩:=oq h1
  obtain⟨c2,q2,rfl⟩:=Fo h2
  obtain⟨c3,q3,rfl⟩:=Fo hy
  have e3:c3=(c1:Int)+c2:=by
   unfold vH at q3
   rw[aO,q1,q2]at q3
   exact(Option.some.inj q3).symm
  subst e3
  refine⟨T,_,rfl,BG.of hT,rfl,_,_,rfl,_,_,rfl,rfl,rfl,sy ⟨_,rfl,_,rfl,_,_,rfl,rfl,kk H3 (m5.refl _)⟩⟩
theorem Vc{f:ag}{fd:bP}{k:Nat}(F:nO P w K mg base oE k f fd ["had","row"] uf):nO P w K mg base oE k f fd ["had","row"] yt:=
 F.imp λ vs H Q E ⟨a,b,d,e,h1,h2,h3,h4,h5,h6⟩=>⟨a,b,d,e.map λ(n:Nat)=>(n:Int),h1,h2,by rw[<-uq];exact h3,h5,by rw[<-Vb];exact h6⟩
inductive yI (CS:ag) (vs:List V) (H:Hp) (Q:VK) (Ex:XK):Prop
 |mk (x dx:ag):vs=[.ref x]->H x=some (.ins CS dx [])->(∀H' wl hl,sD x H H'->H wl=none->H hl=none->wl≠hl->An CS H' x .qt wl hl [] []->Q .qt H')->yI CS vs H Q Ex
abbrev OD:List Str:=["self"]
theorem D3:m7 OD ["self"] (mZ z6):=qf
theorem Mw(F:pG K "__init__" "Search.__init__" z6 f fd)(S:pY K CS):nO P w K mg base oE 1 f fd ["self"] (yI CS):=by
 refine F.ok D3 (λ vs H Q E h=>?_) (λ oU A outer s H vs Q E hr h=>?_)
 ·obtain⟨x,dx,rfl,_⟩:=h
  rfl
 ·obtain⟨x,dx,rfl,h1,k⟩:=h
  have nd:=D3.nd
  refine⟨_,(mV (pS (pv 0) zM rfl)
   (mV (pS (pv 0) (nN mW) rfl)
   (m4 (pS (pv 0) (nN mW) rfl)))),?_⟩
  refine⟨_,rfl,x,CS,dx,_,rfl,h1,S.cl,S.n1,(by show 0<1000;decide),aE _,λ wl KD=>?_⟩
  have n1:wl≠x:=λ q=>by rw[q,mX]at KD;cases KD
  rw[mY n1]at KD
  refine⟨_,rfl,x,CS,dx,_,rfl,by rw[mY (Ne.symm n1),mX],S.cl,S.n2,(by show 1<1000;decide),aE _,λ hl D5=>?_⟩
  have n2:hl≠x:=λ q=>by rw[q,mX]at D5;cases D5
  rw[mY n2]at D5
  have n3:wl≠hl:=λ q=>by rw[<-q,mX]at D5;cases D5
  rw[mY (Ne.symm n3),mY n2]at D5
  refine⟨_,rfl,x,CS,dx,_,rfl,by rw[mY (Ne.symm n2),mX],S.cl,S.n3,(by show 2<1000;decide),?_⟩
  refine k _ wl hl (λ b o e nb _=>?_) KD D5 n3 ⟨⟨dx,?_⟩,?_,?_⟩
  ·rw[mY nb,mY (nE e D5),mY nb,mY (nE e KD),mY nb];exact e
  ·rw[mX];rfl
  ·rw[mY n1,mY n3,mY n1,mX];rfl
  ·rw[mY n2,mX];rfl
inductive IX (CS:ag) (vs:List V) (H:Hp) (Q:VK) (Ex:XK):Prop
 |mk (x dx:ag) (v1 v2 v3:V):vs=[.ref x]->H x=some (.ins CS dx (J9.zip [v1,v2,v3]))->(∀H' wl hl,sD x H H'->H wl=none->H hl=none->wl≠hl->An CS H' x .qt wl hl [] []->Q .qt H')->IX CS vs H Q Ex
abbrev Ka:List Str:=["self"]
theorem AA:m7 Ka ["self"] (mZ wW):=qf
theorem IY(F:pG K "forget" "Search.forget" wW f fd)(S:pY K CS):nO P w K mg base oE 1 f fd ["self"] (IX CS):=by
 refine F.ok AA (λ vs H Q E h=>?_) (λ oU A outer s H vs Q E hr h=>?_)
 ·obtain⟨x,dx,v1,v2,v3,rfl,_⟩:=h
  rfl
 ·obtain⟨x,dx,v1,v2,v3,rfl,h1,k⟩:=h
  have nd:=AA.nd
  refine⟨_,(mV (pS (pv 0) zM rfl)
   (mV (pS (pv 0) (nN mW) rfl)
   (m4 (pS (pv 0) (nN mW) rfl)))),?_⟩
  refine⟨_,rfl,x,CS,dx,_,rfl,h1,S.cl,S.n1,(by show 3<1000;decide),aE _,λ wl KD=>?_⟩
  have n1:wl≠x:=λ q=>by rw[q,mX]at KD;cases KD
  rw[mY n1]at KD
  refine⟨_,rfl,x,CS,dx,_,rfl,by rw[mY (Ne.symm n1),mX],S.cl,S.n2,(by show 3<1000;decide),aE _,λ hl D5=>?_⟩
  have n2:hl≠x:=λ q=>by rw[q,mX]at D5;cases D5
  rw[mY n2]at D5
  have n3:wl≠hl:=λ q=>by rw[<-q,mX]at D5;cases D5
  rw[mY (Ne.symm n3),mY n2]at D5
  refine⟨_,rfl,x,CS,dx,_,rfl,by rw[mY (Ne.symm n2),mX],S.cl,S.n3,(by show 3<1000;decide),?_⟩
  refine k _ wl hl (λ b o e nb _=>?_) KD D5 n3 ⟨⟨dx,?_⟩,?_,?_⟩
  ·rw[mY nb,mY (nE e D5),mY nb,mY (nE e KD),mY nb];exact e
  ·rw[mX];rfl
  ·rw[mY n1,mY n3,mY n1,mX];rfl
  ·rw[mY n2,mX];rfl
inductive Br (CS:ag) (vs:List V) (H:Hp) (Q:VK) (Ex:XK):Prop
 |mk (x wl hl b:ag) (v:V) (ws d:List Nat) (zs:List Int):vs=[.ref x,.ref b]->An CS H x v wl hl ws d->H b=some (.lst (iL zs))->d.length<=16->(∀H',m5 H H'->Q (.bl (DZ d zs)) H')->Br CS vs H Q Ex
abbrev AB:List Str:=["self","row","efforts"]
theorem zK:m7 AB ["self","row"] (mZ sL):=qf
theorem GZ(F:pG K "has_room" "Search.has_room" sL f fd)(S:pY K CS)(zJ:mg "all"=none)(vD:rA P w K mg base oE 1 "together" ["had","row"] uf)(nv:oC mg "MOST_EFFORTS" 20):nO P w K mg base oE 2 f fd ["self","row"] (Br CS):=by
 refine F.ok zK (λ vs H Q E h=>?_) (λ oU A outer s H vs Q E hr h=>?_)
 ·obtain⟨x,wl,hl,b,v,ws,d,zs,rfl,_⟩:=h
  rfl
 ·obtain⟨x,wl,hl,b,v,ws,d,zs,rfl,⟨⟨dx,h1⟩,h2,h3⟩,hb,GX,k⟩:=h
  have nd:=zK.nd
  refine⟨_,(m4 (m9 (nJ (B_ rfl) rfl zJ iK (mU (qp (own:=[("efforts",2)]) rfl nd (oJ (nq (E:=E0) vD hr (by decide) nj (mU (m_ (pv 0) rfl) (mU (pv 1) mW)))) (by exact pz.of (N:=AB) (sc:=mZ sL) (by decide +kernel)) (λ _ _ _ _ _=>by exact(nr (i:=2) nd rfl (Or.inl rfl))) (λ _ _ _ _ _=>by exact oP) (λ _ _ _ _ _=>by exact(rP p7 (pv 2) (nP nv) (oH _)))) mW)))),?_⟩
  refine⟨_,rfl,x,CS,dx,_,_,rfl,h1,S.cl,S.n3,rfl,_,rfl,hl,b,d,zs,rfl,h3,hb,GX,λ H1 p s1 hp J7=>?_⟩
  refine⟨p,rfl,⟨_,nA.of J7⟩,?_⟩
  refine oV (oQ (K:=K) (xs:=iL (vH d zs)) (nA.of J7)) ((vH d zs).map λ z=>V.bl (decide (z<=20))) (by rw[pU,aa]) (by rw[pU,K8,aA];omega) (λ j x y H3 R3 N3 hy pE hF kk=>?_) (λ D H3 hD pE uC=>?_)
  ·obtain⟨z,q,rfl⟩:=Fo hF
   rw[ak,q]at hy
   cases hy
   exact⟨rfl,sy ⟨_,rfl,_,_,rfl,rfl,kk H3 (m5.refl _)⟩⟩
  ·refine⟨D,(vH d zs).map λ z=>decide (z<=20),rfl,nA.of (by rw[uC,aW];rfl),?_⟩
   rw[cJ]
   exact k H3 (s1.trans pE)
inductive uO (CS:ag) (vs:List V) (H:Hp) (Q:VK) (Ex:XK):Prop
 |mk (x wl hl:ag) (v:V) (ws d:List Nat) (z:Int):vs=[.ref x,.int z]->An CS H x v wl hl ws d->Q (.bl (decide (((aY d:Nat):Int)+z<=20*((d.length:Nat):Int)))) H->uO CS vs H Q Ex
abbrev D6:List Str:=["self","many"]
theorem vI:m7 D6 ["self","many"] (mZ sM):=qf
theorem C0(F:pG K "has_room_for" "Search.has_room_for" sM f fd)(S:pY K CS)(xK:mg "sum"=none)(nv:oC mg "MOST_EFFORTS" 20)(o9:mg "len"=none):nO P w K mg base oE 1 f fd ["self","many"] (uO CS):=by
 refine F.ok vI (λ vs H Q E h=>?_) (λ oU A outer s H vs Q E hr h=>?_)
 ·obtain⟨x,wl,hl,v,ws,d,z,rfl,_⟩:=h
  rfl
 ·obtain⟨x,wl,hl,v,ws,d,z,rfl,⟨⟨dx,h1⟩,h2,h3⟩,k⟩:=h
  have nd:=vI.nd
  refine⟨_,(m4 (m9 (rP p7 (og qS (nJ (B0 rfl) rfl xK iJ (mU (m_ (pv 0) rfl) mW)) (pv 1)) (og wR (nP nv) (nJ nL rfl o9 aX (mU (m_ (pv 0) rfl) mW))) (oH _)))),?_⟩
  rw[<-m8 d,<-tK d]at k
  exact⟨_,rfl,x,CS,dx,_,_,rfl,h1,S.cl,S.n3,rfl,hl,_,rfl,nA.of (by rw[h3,uq];rfl),_,rfl,_,_,rfl,rfl,_,rfl,x,CS,dx,_,_,rfl,h1,S.cl,S.n3,rfl,hl,_,rfl,.inl (nA.of h3),_,_,rfl,rfl,K7 (t:=20) (by decide) _,_,_,rfl,rfl,k⟩
inductive Hj (CS CF CC CT:ag) (vs:List V) (H:Hp) (Q:VK) (Ex:XK):Prop
 |mk (x wl hl a:ag) (ws d:List Nat) (f:ae):vs=[.ref x]->An CS H x (.ref a) wl hl ws d->qX CF CC CT H a f->f.cells.length<=16->GW H Q (nV (f.cells.map (·.time)))->Hj CS CF CC CT vs H Q Ex
abbrev D7:List Str:=["self","cell"]
theorem BO:m7 D7 ["self"] (mZ uJ):=qf
theorem Kb(F:pG K "times" "Search.times" uJ f fd)(S:pY K CS)(nG:Rec P w K mg base "Field" CF CN)(ow:Rec P w K mg base "Cell" CC Fb):nO P w K mg base oE 1 f fd ["self"] (Hj CS CF CC CT):=by
 refine F.ok BO (λ vs H Q E h=>?_) (λ oU A outer s H vs Q E hr h=>?_)
 ·obtain⟨x,wl,hl,a,ws,d,f,rfl,_⟩:=h
  rfl
 ·obtain⟨x,wl,hl,a,ws,d,f,rfl,⟨⟨dx,h1⟩,h2,h3⟩,⟨df,lc,lt,as,bs,f1,f2,f3,f4,f5⟩,wB,k⟩:=h
  have nd:=BO.nd
  refine⟨_,(m4 (m9 (qp (own:=[("cell",1)]) rfl nd (oJ (m_ (m_ (pv 0) rfl) rfl)) (by exact pz.of (N:=D7) (sc:=mZ uJ) (by decide +kernel)) (λ _ _ _ _ _=>by exact(nr (i:=1) nd rfl (Or.inl rfl))) (λ _ _ _ _ _=>by exact oP) (λ _ _ _ _ _=>by exact(xY K (pv 1)))))),?_⟩
  refine⟨_,rfl,x,CS,dx,_,_,rfl,h1,S.cl,S.n1,rfl,a,CF,df,_,_,rfl,f1,nG.cl,nG.na "cells" (by simp),rfl,lc,rfl,⟨_,nA.of f2⟩,?_⟩
  refine oV (oQ (K:=K) (xs:=as.map V.ref) (nA.of f2)) (nV (f.cells.map (·.time))) (by rw[m8,aa,aa,f3.1]) (by rw[aa,f3.1,aA];omega) (λ j y z H3 R3 N3 hy pE hF kk=>?_) (λ D H3 hD pE uC=>k H3 D pE hD uC)
  obtain⟨c,q,rfl⟩:=oq hy
  rw[ak]at hF q
  cases q1:as[j]? with
  |none=>rw[q1]at hF;cases hF
  |some aj=>
   cases q2:f.cells[j]? with
   |none=>rw[q2]at q;cases q
   |some cj=>
    rw[q1]at hF;rw[q2]at q
    cases hF;cases q
    obtain⟨dc,ec⟩:=f3.2 j aj cj q1 q2
    exact⟨rfl,sy ⟨_,rfl,aj,CC,dc,_,_,rfl,pE _ _ ec,ow.cl,ow.na "time" (by simp),rfl,kk H3 (m5.refl _)⟩⟩
def vJ(l:List Nat):Nat:=l.foldl max 0
theorem foldl_max:∀(l:List Nat) (a:Nat),l.foldl max a=max a (vJ l)
 |[],a=>by show a=max a 0;omega
 |x::l,a=>by
  show l.foldl max (max a x)=max a (l.foldl max (max 0 x))
  rw[foldl_max l,foldl_max l (max 0 x)];omega
theorem xQ(x:Nat)(l:List Nat):vJ (x::l)=max x (vJ l):=by
 show l.foldl max (max 0 x)=_
 rw[foldl_max];omega
theorem Mx:∀(l:List Nat),∀y∈l,y<=vJ l
 |[],y,h=>by cases h
 |x::l,y,h=>by
  rw[xQ]
  rcases List.mem_cons.mp h with q|q
  ·omega
  ·have:=Mx l y q;omega
theorem D8:∀(l:List Nat),l≠[]->vJ l∈l
 |[],h=>absurd rfl h
 |[x],_=>by rw[xQ];show max x 0∈[x];simp
 |x::y::l,_=>by
  rw[xQ]
  have ih:=D8 (y::l) (by simp)
  by_cases h:vJ (y::l)<=x
  ·rw[Nat.max_eq_left h];simp
  ·rw[Nat.max_eq_right (by omega)];exact aP _ ih
theorem aak{l:List Nat}{m:Nat}(h1:m∈l)(h2:∀y∈l,y<=m):vJ l=m:=by
 have a:=Mx l m h1
 have b:=h2 _ (D8 l (λ q=>by rw[q]at h1;cases h1))
 omega
theorem Tt(p:Nat->Prop)[DecidablePred p](v:Nat->Nat):∀(l:List Nat),vJ (l.map λ n=>if p n then v n else 0)=vJ (l.filterMap λ n=>if p n then some (v n)else none)
 |[]=>rfl
 |x::l=>by
  rw[aH,xQ,Tt p v l,dG]
  by_cases h:p x
  ·rw[if_pos h,if_pos h];show _=vJ (v x::_);rw[xQ]
  ·rw[if_neg h,if_neg h];exact Nat.zero_max _
def gl(f:ae)(d:List Nat)(c:Nat):List Nat:=(az (20-d.getD c 0+1)).map λ n=>cZ f c (d.getD c 0)-cZ f c (d.getD c 0+n)
def Tu(g:List Nat)(t:Nat)(bh:List Nat)(b n:Nat):Nat:=g.getD n 0+bh.getD (b-n*t) 0
def VZ(g:List Nat)(t:Nat)(bh:List Nat)(b:Nat):List Nat:=(az g.length).filterMap λ n=>if n*t<=b then some (Tu g t bh b n)else none
theorem BP(p:Nat->Prop)[DecidablePred p](v:Nat->Nat)(M:Nat)(hp:∀n,p n↔n<M):∀N,(az N).filterMap (λ n=>if p n then some (v n)else none)=(az (min N M)).map v
 |0=>by rw[Nat.zero_min];rfl
 |N+1=>by
  rw[eG,gW,BP p v M hp N]
  by_cases h:N<M
  ·rw[show min (N+1) M=min N M+1 by omega,eG,aF,show min N M=N by omega]
   simp[(hp N).mpr h]
  ·have hn:¬ p N:=λ q=>h ((hp N).mp q)
   rw[show min (N+1) M=min N M by omega]
   simp[hn]
theorem yJ{n t b:Nat}(ht:1<=t):n*t<=b↔n<b / t+1:=by
 rw[Nat.lt_succ_iff,Nat.le_div_iff_mul_le (by omega)]
theorem XZ{g:List Nat}{t:Nat}(ht:1<=t)(bh:List Nat)(b:Nat):VZ g t bh b=(az (min g.length (b / t+1))).map (Tu g t bh b):=by
 unfold VZ
 exact BP (λ n=>n*t<=b) (Tu g t bh b) (b / t+1) (λ n=>yJ ht) g.length
theorem Fp(f:ae)(d:List Nat)(c:Nat):(gl f d c).length=20-d.getD c 0+1:=by unfold gl;simp
theorem aa8{f:ae}{d:List Nat}{c n:Nat}(h:n<20-d.getD c 0+1):(gl f d c).getD n 0=cZ f c (d.getD c 0)-cZ f c (d.getD c 0+n):=by
 unfold gl
 rw[aB,ak,bc h];rfl
theorem OE{α β:Type}(f g:α->Option β):∀(l:List α),(∀x∈l,f x=g x)->l.filterMap f=l.filterMap g
 |[],_=>rfl
 |x::l,h=>by rw[dG,dG,h x (by simp),OE f g l λ y hy=>h y (by simp[hy])]
theorem Rj(f:ae)(d:List Nat)(c B:Nat)(later:List Nat):dR f d c B later=(az (B+1)).map λ b=>vJ (VZ (gl f d c) (bx f c).time later b):=by
 unfold dR
 refine bO λ b _=>?_
 show vJ ((az (20-d.getD c 0+1)).map λ n=>if n*(bx f c).time<=b then _ else 0)=_
 rw[Tt]
 unfold VZ
 rw[Fp]
 congr 1
 refine OE _ _ _ λ n hn=>?_
 unfold Tu
 rw[aa8 (List.mem_range.mp hn)]
theorem X0{g:List Nat}{t:Nat}(ht:1<=t)(hg:g≠[])(bh:List Nat)(b:Nat):VZ g t bh b≠[]:=by
 rw[XZ ht]
 intro q
 have h:=congrArg h_ q
 rw[aa,aQ]at h
 have h2:0<g.length:=by
  cases g with
  |nil=>exact absurd rfl hg
  |cons a l=>exact mx _
 have h3:min g.length (b / t+1)=0:=h
 generalize b / t=z at h3
 omega
theorem ve(f:ae)(d:List Nat)(B:Nat):∀k,(b_ f d B k).length=k+1
 |0=>rfl
 |k+1=>by show(b_ f d B k).length+1=_;rw[ve f d B k]
theorem Fq(f:ae)(d:List Nat)(B:Nat):∀k,∀r∈b_ f d B k,r.length=B+1
 |0,r,h=>by
  have e:r=cH (B+1) 0:=by simpa [b_]using h
  rw[e,fk]
 |k+1,r,h=>by
  rcases List.mem_cons.mp h with q|q
  ·rw[q];unfold dR;simp
  ·exact Fq f d B k r q
theorem Tv{α:Type}[Inhabited α](l:List (List α))(h:0<l.length):l[0]? =some (l.headD []):=by
 cases l with
 |nil=>simp at h
 |cons a l=>rfl
theorem table_at(f:ae)(d:List Nat)(B:Nat):∀(k i:Nat),i<k->k<=f.cells.length->∃s,(b_ f d B k)[i+1]? =some s/\(b_ f d B k)[i]? =some (dR f d (f.cells.length-(k-i)) B s)
 |0,i,h,_=>by omega
 |k+1,0,_,hk=>by
  refine⟨(b_ f d B k).headD [],?_,rfl⟩
  show(b_ f d B k)[0]? =_
  exact Tv _ (by rw[ve];omega)
 |k+1,i+1,h,hk=>by
  obtain⟨s,h1,h2⟩:=table_at f d B k i (by omega) (by omega)
  refine⟨s,h1,?_⟩
  show(b_ f d B k)[i]? =_
  rw[h2,show k+1-(i+1)=k-i by omega]
def thN(f:ae)(d:List Nat)(c b:Nat)(r s:List Nat):Nat:=((az (20-d.getD c 0+1)).find? λ n=>decide (n*(bx f c).time<=b) && (cZ f c (d.getD c 0)-cZ f c (d.getD c 0+n))+s.getD (b-n*(bx f c).time) 0 == r.getD b 0).getD 0
theorem K9(f:ae)(d:List Nat)(c b:Nat)(r s:List Nat)(t:List (List Nat)):gy f d c b (r::s::t)=thN f d c b r s::gy f d (c+1) (b-thN f d c b r s*(bx f c).time) (s::t):=rfl
theorem X1{f:ae}{d:List Nat}{c b B:Nat}{s:List Nat}(ht:1<=(bx f c).time)(hb:b<=B)(L:List Nat)(hL:L=VZ (gl f d c) (bx f c).time s b)(n:Nat)(hn:n=thN f d c b (dR f d c B s) s):
  L[n]? =some (vJ L)/\(∀(m:Nat) (z:Nat),m<n->L[m]? =some z->z≠vJ L)/\n*(bx f c).time<=b/\n<=20-d.getD c 0:=by
 have hr:(dR f d c B s).getD b 0=vJ L:=by
  rw[Rj,aB,ak,bc (by omega),hL];rfl
 have ne:L≠[]:=by
  rw[hL]
  refine X0 ht ?_ s b
  intro q
  have:=congrArg h_ q
  rw[Fp]at this;simp at this
 have hm:=D8 L ne
 have le:∀m,L[m]? =if m<min (20-d.getD c 0+1) (b / (bx f c).time+1)then some (Tu (gl f d c) (bx f c).time s b m)else none:=λ m=>by
  rw[hL,XZ ht,Fp,ak]
  split
  ·rename_i h;rw[bc h];rfl
  ·rename_i h;rw[aI (by rw[aQ];omega)];rfl
 have cv:∀m,m<20-d.getD c 0+1->Tu (gl f d c) (bx f c).time s b m=(cZ f c (d.getD c 0)-cZ f c (d.getD c 0+m))+s.getD (b-m*(bx f c).time) 0:=λ m h=>by
  unfold Tu;rw[aa8 h]
 cases q:(az (20-d.getD c 0+1)).find? λ n=>decide (n*(bx f c).time<=b) && (cZ f c (d.getD c 0)-cZ f c (d.getD c 0+n))+s.getD (b-n*(bx f c).time) 0 == (dR f d c B s).getD b 0 with
 |none=>
  exfalso
  rw[kE]at q
  obtain⟨i,hi,ei⟩:=cy hm
  have e1:L[i]? =some (vJ L):=by rw[af hi,ei]
  rw[le]at e1
  split at e1
  ·rename_i rL
   have e2:=Option.some.inj e1
   refine q i (List.mem_range.mpr (by omega)) ?_
   rw[bg,decide_eq_true_iff,beq_iff_eq,hr,<-e2,cv i (by omega)]
   exact⟨(yJ ht).mpr (by omega),rfl⟩
  ·cases e1
 |some j=>
  have ej:n=j:=by rw[hn];unfold thN;rw[q];rfl
  subst ej
  rw[List.find?_range_eq_some]at q
  obtain⟨q1,q2,q3⟩:=q
  rw[bg,decide_eq_true_iff,beq_iff_eq,hr]at q1
  have rL:=List.mem_range.mp q2
  have hM:=(yJ ht).mp q1.1
  refine⟨?_,λ m z hmn hz=>?_,q1.1,by omega⟩
  ·rw[le,if_pos (by omega),cv n rL,q1.2]
  ·rw[le,if_pos (by omega)]at hz
   have hz:=Option.some.inj hz
   have h3:=q3 m hmn
   rw[iP,Bool.and_eq_false_iff]at h3
   rcases h3 with h3|h3
   ·exact absurd ((yJ ht).mpr (by omega)) (of_decide_eq_false h3)
   ·rw[beq_eq_false_iff_ne,hr,<-cv m (by omega),hz]at h3
    exact h3
theorem IZ{l:List Nat}{m:Int}(h1:m∈l.map λ(n:Nat)=>(n:Int))(h2:∀y∈l.map (λ(n:Nat)=>(n:Int)),y<=m):m=((vJ l:Nat):Int):=by
 obtain⟨n,hn,rfl⟩:=List.mem_map.mp h1
 have:=aak hn λ y hy=>by
  have:=h2 _ (c_ hy)
  omega
 rw[this]
theorem My{H:Hp}{K:ah}{p:ag}{l:List Nat}(h:H p=some (.lst (nV l))):nA K H p ((l.map λ(n:Nat)=>(n:Int)).map V.int):=nA.of (by rw[h,uq];rfl)
theorem aal{g:List Nat}{t:Nat}{bh:List Nat}{b:Nat}:VZ g t bh b=((az g.length).map λ n=>if n*t<=b then some (Tu g t bh b n)else none).filterMap id:=by
 unfold VZ
 rw[List.filterMap_map];rfl
theorem Rk{α β:Type}(g:α->β):∀l:List (Option α),(l.map (j5 g)).filterMap id=(l.filterMap id).map g
 |[]=>rfl
 |none::l=>Rk g l
 |some x::l=>by
  show g x::_=g x::_
  rw[Rk g l]
inductive AD (vs:List V) (H:Hp) (Q:VK) (Ex:XK):Prop
 |mk (a:ag) (t:List Nat) (f:ae) (c e:Nat):vs=[.ref a,.int (e:Nat)]->H a=some (.lst (nV t))->(∀n≤20,t[n]? =some (cZ f c n))->c<f.cells.length->e<=20->GW H Q (nV ((az (20-e+1)).map λ n=>cZ f c e-cZ f c (e+n)))->AD vs H Q Ex
abbrev I_:List Str:=["table","efforts","then"]
theorem Gd:m7 I_ ["table","efforts"] (mZ ye):=qf
theorem OF(F:pG K "cell_gains" "cell_gains" ye f fd)(qM:mg "range"=none)(nv:oC mg "MOST_EFFORTS" 20):nO P w K mg base oE 1 f fd ["table","efforts"] AD:=by
 refine F.ok Gd (λ vs H Q E h=>?_) (λ oU A outer s H vs Q E hr h=>?_)
 ·obtain⟨a,t,f,c,e,rfl,_⟩:=h
  rfl
 ·obtain⟨a,t,f,c,e,rfl,ha,ht,hc,he,k⟩:=h
  have nd:=Gd.nd
  refine⟨_,(m4 (m9 (qp (own:=[("then",2)]) rfl nd (Kn rfl qM (mU (pv 1) (mU (og qS (nP nv) nM) mW))) (by exact pz.of (N:=I_) (sc:=mZ ye) (by decide +kernel)) (λ _ _ _ _ _=>by exact(nr (i:=2) nd rfl (Or.inl rfl))) (λ _ _ _ _ _=>by exact oP) (λ _ _ _ _ _=>by exact(og sF (tX K (pv 0) (pv 1)) (tX K (pv 0) (pv 2))))))),?_⟩
  refine⟨_,rfl,_,_,rfl,rfl,_,_,rfl,⟨by omega,by omega,by omega,by omega⟩,?_⟩
  have en:((20:Int)+1-(e:Int)).toNat=20-e+1:=by omega
  show ∀D,_
  rw[en]
  refine oV (tM (e:Int) (20-e+1)) (nV ((az (20-e+1)).map λ n=>cZ f c e-cZ f c (e+n))) (by rw[m8,aa,aQ]) (by rw[aA];omega) (λ j x y H3 R3 N3 hy pE hF kk=>?_) (λ D H3 hD pE uC=>k H3 D pE hD uC)
  obtain⟨v,q,rfl⟩:=oq hy
  have hj:j<20-e+1:=by
   have:=(List.getElem?_eq_some_iff.mp q).1
   simpa using this
  rw[ak,bc hj]at q
  have q:cZ f c e-cZ f c (e+j)=v:=Option.some.inj q
  subst hF
  have le:cZ f c (e+j)<=cZ f c e:=Bl (by omega) hc
  have kk2:R3 (V.int (((cZ f c e:Nat):Int)-((cZ f c (e+j):Nat):Int))) H3:=by
   have z:=kk H3 (m5.refl _)
   rw[<-q,Int.ofNat_sub le]at z
   exact z
  exact⟨rfl,sy ⟨_,rfl,_,rfl,a,_,_,_,rfl,rfl,nA.of (pE _ _ ha),oo (oR (ht e he)),_,rfl,_,rfl,a,_,_,_,rfl,rfl,nA.of (pE _ _ ha),at_of (j:=e+j) rfl (oR (ht (e+j) (by omega))),_,_,rfl,rfl,kk2⟩⟩
inductive Bs (vs:List V) (H:Hp) (Q:VK) (Ex:XK):Prop
 |mk (ga ba:ag) (g bh:List Nat) (t b:Nat):vs=[.ref ga,.int (t:Nat),.ref ba,.int (b:Nat)]->H ga=some (.lst (nV g))->H ba=some (.lst (nV bh))->g.length<=21->t<=20->b<bh.length->GW H Q (nV (VZ g t bh b))->Bs vs H Q Ex
abbrev OG:List Str:=["gains","time","behind","spare","many","gain"]
theorem K_:m7 OG ["gains","time","behind","spare"] (mZ DE):=qf
theorem Vd(F:pG K "choices" "choices" DE f fd)(qi:mg "enumerate"=none):nO P w K mg base oE 1 f fd ["gains","time","behind","spare"] Bs:=by
 refine F.ok K_ (λ vs H Q E h=>?_) (λ oU A outer s H vs Q E hr h=>?_)
 ·obtain⟨ga,ba,g,bh,t,b,rfl,_⟩:=h
  rfl
 ·obtain⟨ga,ba,g,bh,t,b,rfl,hg,hb,gl',ht,hbb,k⟩:=h
  have nd:=K_.nd
  refine⟨_,(m4 (m9 (qp (own:=[("many",4),("gain",5)]) rfl nd (Dv rfl qi (mU (pv 0) mW)) (by exact pz.of (N:=OG) (sc:=mZ DE) (by decide +kernel)) (λ _ _ _ _ _=>by exact(Bk K (n:=2) rfl (oG (nr (i:=4) nd rfl (Or.inl rfl)) (oG (nr (i:=5) nd rfl (Or.inl rfl)) rB)))) (λ _ _ _ _ _=>by exact(LP (om p7 (og wR (pv 4) (pv 1)) (pv 3) (oH _)))) (λ _ _ _ _ _=>by exact(og qS (pv 5) (tX K (pv 2) (og sF (pv 3) (og wR (pv 4) (pv 1))))))))),?_⟩
  refine⟨_,rfl,ga,_,rfl,nA.of hg,?_⟩
  refine XJ (UA (K:=K) (nA.of hg)) ((az g.length).map λ n=>if n*t<=b then some (V.int (Tu g t bh b n:Nat))else none) (by rw[aa,aQ,m8]) (by rw[m8,aA];omega) (λ j x y H3 R3 N3 hy pE hF kk kn=>?_) (λ D H3 hD pE uC=>k H3 D pE hD ?_)
  ·obtain⟨T,v,rfl,h1,h2⟩:=hF
   obtain⟨c,q,rfl⟩:=oq h1
   have hj:j<g.length:=(List.getElem?_eq_some_iff.mp q).1
   rw[ak,bc hj]at hy
   have hy:(if j*t<=b then some (V.int (Tu g t bh b j:Nat))else none)=y:=Option.some.inj hy
   have cj:Qb (j:Int) (t:Int):=K7 (t:=j) (by omega) _
   refine⟨T,_,rfl,BG.of h2,rfl,_,_,rfl,_,_,rfl,rfl,rfl,⟨_,rfl,_,rfl,_,_,rfl,rfl,cj,_,rfl,_,_,rfl,rfl,_,rfl,p8 (λ hc=>?_) λ hc=>?_⟩⟩
   ·have hc:(j:Int)*(t:Int)<=(b:Int):=of_decide_eq_true hc
    have VT:j*t<=b:=by
     have:((j*t:Nat):Int)<=(b:Int):=by rw[Int.natCast_mul];exact hc
     omega
    rw[if_pos VT]at hy
    have ez:(b:Int)-(j:Int)*(t:Int)=((b-j*t:Nat):Int):=by rw[Int.ofNat_sub VT,Int.natCast_mul]
    have gb:=getD_at (d:=bh) (c:=b-j*t) (by omega)
    have ec:((Tu g t bh b j:Nat):Int)=(c:Int)+((bh.getD (b-j*t) 0:Nat):Int):=by
     unfold Tu
     rw[Int.natCast_add,aB,q];rfl
    have z:=kk _ hy.symm H3 (m5.refl _)
    rw[ec]at z
    exact⟨_,rfl,_,rfl,_,rfl,_,rfl,_,rfl,_,_,rfl,rfl,cj,_,_,rfl,rfl,ba,_,_,_,rfl,rfl,nA.of (pE _ _ hb),at_of ez (oR gb),_,_,rfl,rfl,z⟩
   ·have hc:¬ (j:Int)*(t:Int)<=(b:Int):=λ q=>hc (decide_eq_true q)
    have VT:¬ j*t<=b:=λ q=>hc (by
     have:((j*t:Nat):Int)<=(b:Int):=by omega
     rw[Int.natCast_mul]at this;exact this)
    rw[if_neg VT]at hy
    exact kn hy.symm H3 (m5.refl _)
  ·rw[uC,aal]
   unfold nV
   rw[<-Rk,aW]
   congr 2
   congr 1
   refine bO λ n _=>?_
   show(if n*t<=b then some (V.int (Tu g t bh b n:Nat))else none)=j5 _ (if n*t<=b then some (Tu g t bh b n)else none)
   by_cases h:n*t<=b
   ·rw[if_pos h,if_pos h];rfl
   ·rw[if_neg h,if_neg h];rfl
inductive AE (vs:List V) (H:Hp) (Q:VK) (Ex:XK):Prop
 |mk (ga ta:ag) (gs:List ag) (f:ae) (d:List Nat) (B:Nat):vs=[.ref ga,.ref ta,.int (B:Nat)]->uo f->H ga=some (.lst (gs.map V.ref))->TabsAt H gs ((az f.cells.length).map (gl f d))->H ta=some (.lst (nV (f.cells.map (·.time))))->f.cells.length<=16->B<=100->(∀H' p as,m5 H H'->H p=none->H' p=some (.lst (as.map V.ref))->TabsAt H' as (b_ f d B f.cells.length)->Q (.ref p) H')->AE vs H Q Ex
abbrev C1:List Str:=["gains","times","greatest","behind","most","cell","spare"]
theorem Ge:m7 C1 ["gains","times","greatest"] (mZ vw):=qf
theorem OH(F:pG K "most_gains" "most_gains" vw f fd)(qM:mg "range"=none)(o9:mg "len"=none)(OI:mg "max"=none)(vf:rA P w K mg base oE 1 "choices" ["gains","time","behind","spare"] Bs):nO P w K mg base oE 2 f fd ["gains","times","greatest"] AE:=by
 refine F.ok Ge (λ vs H Q E h=>?_) (λ oU A outer s H vs Q E hr h=>?_)
 ·obtain⟨ga,ta,gs,f,d,B,rfl,_⟩:=h
  rfl
 ·obtain⟨ga,ta,gs,f,d,B,rfl,T,hg,hG,ht,GX,hB,k⟩:=h
  have nd:=Ge.nd
  refine⟨_,(mV (m6 (i:=3) nd rfl (Or.inr rfl) (qp (own:=[("spare",6)]) rfl nd (xB rfl qM (mU (og qS (pv 2) nM) mW)) (by exact pz.of (N:=C1) (sc:=mZ vw) (by decide +kernel)) (λ _ _ _ _ _=>by exact(nr (i:=6) nd rfl (Or.inl rfl))) (λ _ _ _ _ _=>by exact oP) (λ _ _ _ _ _=>by exact nM)))
   (mV (m6 (i:=4) nd rfl (Or.inl rfl) (nN (mU (pv 3) mW)))
   (mV (qw PassesOwn.never rfl (Uq rfl qM (mU (og sF (nJ nL rfl o9 aX (mU (pv 0) mW)) nM) (mU (Ss LH nM) (mU (Ss LH nM) mW)))) (nr (i:=5) nd rfl (Or.inr rfl)) (mV (m6 (i:=3) nd rfl (Or.inr rfl) (qp (own:=[("spare",6)]) rfl nd (xB rfl qM (mU (og qS (pv 2) nM) mW)) (by exact pz.of (N:=C1) (sc:=mZ vw) (by decide +kernel)) (λ _ _ _ _ _=>by exact(nr (i:=6) nd rfl (Or.inl rfl))) (λ _ _ _ _ _=>by exact oP) (λ _ _ _ _ _=>by exact(aag K rfl rfl OI (mU (nq (E:=E0) vf hr (by decide) nj (mU (tX K (pv 0) (pv 5)) (mU (tX K (pv 1) (pv 5)) (mU (pv 3) (mU (pv 6) mW))))) mW)))))
   (m4 (nZ (qQ aG PySem.F.slot_list_insert PySem.F.type_list_insert QY (pv 4) (mU nM (mU (pv 3) mW)))))))
   (m4 (m9 (pv 4)))))),?_⟩
  have eB:((B:Int)+1).toNat=B+1:=by omega
  refine⟨_,rfl,_,_,rfl,rfl,_,rfl,by omega,by omega,?_⟩
  refine oV (tM 0 _) (nV (cH (B+1) 0)) (by rw[m8,fk];exact eB.symm) (by rw[aA];show((B:Int)+1).toNat<=_;omega) (λ j x y H3 R3 N3 hy pE hF kk=>?_) (λ b0 H1 XX s1 hb1=>?_)
  ·obtain⟨v,q,rfl⟩:=oq hy
   have e0:v=0:=by
    rw[gE]at q
    split at q
    ·exact(Option.some.inj q).symm
    ·cases q
   subst e0
   exact⟨rfl,sy (kk H3 (m5.refl _))⟩
  refine⟨_,rfl,(by show 1<=ay;decide),λ ms hms=>?_⟩
  have aam:=none_of s1 hms
  have nbm:b0≠ms:=λ q=>by rw[q,hms]at hb1;cases hb1
  have afj:gs.length=f.cells.length:=by rw[hG.1,aa,aQ]
  refine⟨_,rfl,ga,_,rfl,.inl (nA.of (s1.put aam _ _ hg)),_,_,rfl,rfl,_,rfl,_,rfl,_,_,_,_,rfl,RgC.neg (by omega) (by rw[aa];omega) (by omega) (by omega),?_⟩
  have en:(((gs.map V.ref).length:Int)-1-(-1)).toNat=f.cells.length:=by rw[aa];omega
  show ∃W,_
  rw[en]
  refine Qm (n:=f.cells.length) (λ i σ H'=>∃(v5:Option V) (bh:ag) (as:List ag),σ=[some (.ref ga),some (.ref ta),some (.int (B:Nat)),some (.ref bh),some (.ref ms),v5,none]/\m5 H H'/\H' ms=some (.lst (as.map V.ref))/\TabsAt H' as (b_ f d B i)/\(∀a∈as,a≠ms)/\as[0]? =some bh)
   ⟨none,b0,[b0],rfl,s1.put aam,mX,⟨rfl,λ j a t q1 q2=>?_⟩,λ a ha=>?_,rfl⟩ ?_ ?_
  ·have ej:j=0:=by
    have:=(List.getElem?_eq_some_iff.mp q1).1
    simp at this;exact this
   subst ej
   cases q1
   have:t=cH (B+1) 0:=(Option.some.inj q2).symm
   rw[this,mY nbm];exact hb1
  ·have:a=b0:=by simpa using ha
   rw[this];exact nbm
  ·rintro i σ H' hi ⟨v5,bh,as,rfl,sm,hM,hA,xG,h0⟩
   have ez:((gs.map V.ref).length:Int)-1+(i:Nat)*(-1)=((f.cells.length-(i+1):Nat):Int):=by rw[aa];omega
   have hc:f.cells.length-(i+1)<f.cells.length:=by omega
   generalize hcc:f.cells.length-(i+1)=c at ez hc
   have t20:=uN T c
   have afo:as.length=i+1:=by rw[hA.1,ve]
   have hd0:=Tv (b_ f d B i) (by rw[ve];omega)
   have hbh:=hA.2 0 bh _ h0 hd0
   have lbh:((b_ f d B i).headD []).length=B+1:=Fq f d B i _ (aC hd0)
   have g1:gs[c]? =some (gs[c]'(by omega)):=af _
   have g2:((az f.cells.length).map (gl f d))[c]? =some (gl f d c):=by rw[ak,bc hc];rfl
   have g3:=hG.2 c _ _ g1 g2
   have g4:(gs.map V.ref)[c]? =some (V.ref (gs[c]'(by omega))):=by rw[ak,g1];rfl
   have tl:=Hi (f:=f) hc
   refine⟨_,rfl,_,_,rfl,rfl,_,rfl,by omega,by omega,?_⟩
   refine oV (tM 0 _) (nV (dR f d c B ((b_ f d B i).headD []))) (by rw[m8,Rj,aa,aQ];exact eB.symm) (by rw[aA];show((B:Int)+1).toNat<=_;omega) (λ j x y H3 R3 N3 hy pE hF kk=>?_) (λ bn H3 hbn s3 hb3=>?_)
   ·obtain⟨v,q,rfl⟩:=oq hy
    rw[Rj,ak]at q
    have hj:j<B+1:=by
     cases z:(az (B+1))[j]? with
     |none=>rw[z]at q;cases q
     |some z'=>have:=(List.getElem?_eq_some_iff.mp z).1;simpa using this
    rw[bc hj]at q
    have q:vJ (VZ (gl f d c) (bx f c).time ((b_ f d B i).headD []) j)=v:=Option.some.inj q
    have e:(0:Int)+(j:Int)=(j:Int):=Int.zero_add _
    rw[e]at hF
    subst hF
    have s3':=sm.trans pE
    refine⟨rfl,sy ⟨_,rfl,_,rfl,ga,_,_,_,rfl,rfl,nA.of (s3' _ _ hg),at_of ez g4,_,rfl,_,rfl,ta,_,_,_,rfl,rfl,nA.of (s3' _ _ ht),at_of ez (oR tl),_,rfl,_,rfl,gs[c]'(by omega),bh,gl f d c,_,(bx f c).time,j,rfl,s3' _ _ g3,pE _ _ hbh,by rw[Fp];omega,t20.2,by omega,λ H5 p s5 hp hp5=>?_⟩⟩
    refine⟨p,_,rfl,My hp5,?_,λ m ZY ZZ=>?_⟩
    ·rw[aa]
     refine cf λ z=>X0 t20.1 ?_ _ _ (List.length_eq_zero_iff.mp z)
     intro z
     have:=congrArg h_ z
     rw[Fp]at this;simp at this
    ·rw[IZ ZY ZZ,q]
     exact kk H5 s5
   have hM3:=s3 _ _ hM
   have nbn:bn≠ms:=λ q=>by rw[q,hM]at hbn;cases hbn
   refine⟨_,rfl,.inl ⟨rfl,_,nA.of hM3⟩,_,rfl,ms,_,_,rfl,rfl,hM3,(by rw[aa,aA];omega),?_⟩
   refine⟨_,bn,bn::as,rfl,(sm.trans s3).put aam,by rw[mX];rfl,⟨by rw[aD,hA.1];rfl,λ j a t q1 q2=>?_⟩,λ a ha=>?_,rfl⟩
   ·cases j with
    |zero=>
     cases q1
     have e2:t=dR f d c B ((b_ f d B i).headD []):=by rw[<-hcc];exact(Option.some.inj q2).symm
     rw[e2,mY nbn];exact hb3
    |succ j=>
     have q1:as[j]? =some a:=q1
     rw[mY (xG a (aC q1))]
     exact s3 _ _ (hA.2 j a t q1 q2)
   ·rcases List.mem_cons.mp ha with z|z
    ·rw[z];exact nbn
    ·exact xG a z
  ·rintro σ H' ⟨v5,bh,as,rfl,sm,hM,hA,xG,h0⟩
   exact⟨_,rfl,k H' ms as sm aam hM hA⟩
inductive AF (vs:List V) (H:Hp) (Q:VK) (Ex:XK):Prop
 |mk (a b c:ag) (as:List ag) (f:ae) (d:List Nat) (B:Nat):vs=[.ref a,.ref b,.ref c,.int (B:Nat)]->uo f->H a=some (.lst (as.map V.ref))->TabsAt H as (nY f)->H b=some (.lst (nV d))->H c=some (.lst (nV (f.cells.map (·.time))))->d.length=f.cells.length->(∀n∈d,n<=20)->f.cells.length<=16->B<=100->GW H Q (nV (f6 f d B))->AF vs H Q Ex
abbrev Ja:List Str:=["tables","had","times","greatest","gains","most","row","spare","cell","time","gained","many","table","efforts"]
theorem Gf:m7 Ja ["tables","had","times","greatest"] (mZ yf):=qf
theorem OJ(F:pG K "thrift_row" "thrift_row" yf f fd)(xM:mg "zip"=none)(yK:rA P w K mg base oE 1 "cell_gains" ["table","efforts"] AD)(yL:rA P w K mg base oE 2 "most_gains" ["gains","times","greatest"] AE)(qi:mg "enumerate"=none)(vf:rA P w K mg base oE 1 "choices" ["gains","time","behind","spare"] Bs)(OI:mg "max"=none):nO P w K mg base oE 3 f fd ["tables","had","times","greatest"] AF:=by
 refine F.ok Gf (λ vs H Q E h=>?_) (λ oU A outer s H vs Q E hr h=>?_)
 ·obtain⟨a,b,c,as,f,d,B,rfl,_⟩:=h
  rfl
 ·obtain⟨a,b,c,as,f,d,B,rfl,T,ha,hT,hb,hc,hd,tq,GX,hB,k⟩:=h
  have nd:=Gf.nd
  refine⟨_,(mV (zV (i:=4) (own:=[("table",12),("efforts",13)]) rfl nd rfl rfl rfl (ES rfl xM (mU (pv 0) (mU (pv 1) mW))) (by exact pz.of (N:=Ja) (sc:=mZ yf) (by decide +kernel)) (λ _ _ _ _ _=>by exact(Bk K (n:=2) rfl (oG (nr (i:=12) nd rfl (Or.inl rfl)) (oG (nr (i:=13) nd rfl (Or.inl rfl)) rB)))) (λ _ _ _ _ _=>by exact oP) (λ _ _ _ _ _=>by exact(nq (E:=E0) yK hr (by decide) nj (mU (pv 12) (mU (pv 13) mW)))))
   (mV (m6 (i:=5) nd rfl (Or.inl rfl) (nq (E:=E0) yL hr (by decide) nj (mU (pv 4) (mU (pv 2) (mU (pv 3) mW)))))
   (mV (m6 (i:=6) nd rfl (Or.inl rfl) (nN mW))
   (mV (m6 (i:=7) nd rfl (Or.inl rfl) (pv 3))
   (mV (qw PassesOwn.never rfl (Dv rfl qi (mU (pv 2) mW)) (zN rfl (oG (nr (i:=8) nd rfl (Or.inl rfl)) (oG (nr (i:=9) nd rfl (Or.inl rfl)) rB))) (mV (m6 (i:=10) nd rfl (Or.inl rfl) (nq (E:=E0) vf hr (by decide) nj (mU (oZ n9 (pv 4) (pv 8) (λ _ _=>rfl)) (mU (pv 9) (mU (oZ n9 (pv 5) (og qS (pv 8) nM) (λ _ _=>rfl)) (mU (pv 7) mW))))))
   (mV (m6 (i:=11) nd rfl (Or.inl rfl) (qQ aG jo PySem.F.type_list_index Wn (pv 10) (mU (nJ (Qj rfl) rfl OI lq (mU (pv 10) mW)) mW)))
   (mV (nZ (qQ aG a_ a0 pD (pv 6) (mU (pv 11) mW)))
   (m4 (Hs (i:=7) nd rfl (Or.inl rfl) (og wR (pv 11) (pv 9)) PY))))))
   (m4 (m9 (pv 6)))))))),?_⟩
  have lA:as.length=f.cells.length:=by rw[hT.1,pM]
  refine⟨_,rfl,_,rfl,a,b,_,_,rfl,nA.of ha,nA.of hb,?_⟩
  refine QP (HL (K:=K) (nA.of ha) (nA.of hb) (by rw[m8,aa,lA,hd])) (λ j=>.lst (nV (gl f d j))) (by rw[aa,aA];omega) (λ j y H3 R3 N3 hj pE hF kk=>?_) (λ ga H1 gs hga s1 adP hlen hgs=>?_)
  ·obtain⟨TT,x1,y1,rfl,q1,q2,Va⟩:=hF
   obtain⟨n,e1,rfl⟩:=oq q2
   rw[ak]at q1
   cases e2:as[j]? with
   |none=>rw[e2]at q1;cases q1
   |some aj=>
    rw[e2]at q1;cases q1
    have Y7:j<f.cells.length:=by rw[<-lA];exact(List.getElem?_eq_some_iff.mp e2).1
    have ec:f.cells[j]? =some f.cells[j]:=af Y7
    have q3:(nY f)[j]? =some (rE f.cells[j].weight f.cells[j].finds f.parts):=by
     unfold nY
     rw[ak,ec];rfl
    have gd:d.getD j 0=n:=by rw[aB,e1];rfl
    refine⟨TT,_,rfl,BG.of Va,rfl,_,_,rfl,_,_,rfl,rfl,rfl,sy ⟨_,rfl,_,rfl,aj,_,f,j,n,rfl,pE _ _ (hT.2 j aj _ e2 q3),λ m hm=>by rw[wA ec];exact vC hm,Y7,tq n (aC e1),λ H4 p s4 hp hp4=>kk p H4 s4 hp ?_⟩⟩
    rw[hp4]
    unfold gl
    rw[gd]
  rw[aa,lA]at hlen
  have hG:TabsAt H1 gs ((az f.cells.length).map (gl f d)):=⟨by rw[hlen,aa,aQ],λ j a' t q1 q2=>by
   have hj:j<f.cells.length:=by rw[<-hlen];exact(List.getElem?_eq_some_iff.mp q1).1
   rw[ak,bc hj]at q2
   rw[(hgs j a' q1).2,<-Option.some.inj q2]⟩
  refine⟨_,rfl,_,rfl,_,rfl,ga,c,gs,f,d,B,rfl,T,adP,hG,s1 _ _ hc,GX,hB,λ H2 ms ts s2 hms ae1 Z_=>?_⟩
  have vE:=s1.trans s2
  refine⟨aE _,λ wb hrw=>?_⟩
  have adQ:=none_of vE hrw
  have ae2:=ve f d B f.cells.length
  refine⟨_,rfl,_,rfl,c,_,rfl,nA.of (vE.put adQ _ _ hc),DO (K:=K) (a:=c) (xs:=nV (f.cells.map (·.time))) (λ i σ H'=>∃(v8 v9 v10 v11:Option V) (R:List Nat) (b':Nat),σ=[some (.ref a),some (.ref b),some (.ref c),some (.int (B:Nat)),some (.ref ga),some (.ref ms),some (.ref wb),some (.int (b':Nat)),v8,v9,v10,v11,none,none]/\m5 H2 H'/\H' wb=some (.lst (nV R))/\R.length=i/\b'<=B/\f6 f d B=R++gy f d i b' ((b_ f d B f.cells.length).drop i))
   ⟨none,none,none,none,[],B,rfl,m5.new hrw,mX,rfl,ax _,rfl⟩ (λ i σ H' _ ⟨_,_,_,_,_,_,_,sm,_⟩=>nA.of (sm _ _ (vE _ _ hc))) ?_ ?_⟩
  ·rintro i x TT σ H' hx ⟨v8,v9,v10,v11,R,b',rfl,sm,hR,hRl,hb',heq⟩ Va
   obtain⟨tm,q,rfl⟩:=oq hx
   have hi:i<f.cells.length:=by have:=(List.getElem?_eq_some_iff.mp q).1;rw[aa]at this;exact this
   have etm:tm=(bx f i).time:=by rw[Hi hi]at q;exact(Option.some.inj q).symm
   subst etm
   have t20:=uN T i
   have sT:m5 H2 (upd H' TT (.tup [.int (i:Nat),.int ((bx f i).time:Nat)])):=sm.trans (m5.new Va)
   have nR:wb≠TT:=λ q=>by rw[<-q,hR]at Va;cases Va
   obtain⟨s,w1,w2⟩:=table_at f d B f.cells.length i hi (ax _)
   rw[show f.cells.length-(f.cells.length-i)=i by omega]at w2
   have g1:gs[i]? =some (gs[i]'(by omega)):=af _
   have g2:((az f.cells.length).map (gl f d))[i]? =some (gl f d i):=by rw[ak,bc hi];rfl
   have g3:=s2 _ _ (hG.2 i _ _ g1 g2)
   have g4:(gs.map V.ref)[i]? =some (V.ref (gs[i]'(by omega))):=by rw[ak,g1];rfl
   have lts:ts.length=f.cells.length+1:=by rw[Z_.1,ae2]
   have m1:ts[i+1]? =some (ts[i+1]'(by omega)):=af _
   have m2:(ts.map V.ref)[i+1]? =some (V.ref (ts[i+1]'(by omega))):=by rw[ak,m1];rfl
   have m3:=Z_.2 (i+1) _ _ m1 w1
   have ls:=Fq f d B _ s (aC w1)
   refine⟨TT,_,rfl,BG.of mX,rfl,_,_,rfl,_,_,rfl,rfl,?_⟩
   refine⟨_,rfl,_,rfl,ga,_,_,_,rfl,rfl,nA.of (sT _ _ (s2 _ _ adP)),oo g4,_,rfl,_,rfl,_,rfl,_,_,rfl,rfl,ms,_,_,_,rfl,rfl,nA.of (sT _ _ ae1),oo m2,_,rfl,gs[i]'(by omega),ts[i+1]'(by omega),gl f d i,s,(bx f i).time,b',rfl,sT _ _ g3,sT _ _ m3,by rw[Fp];omega,t20.2,by omega,λ H4 gd s4 hgd aco=>?_⟩
   obtain⟨n1,n2,n3,n4⟩:=X1 (f:=f) (d:=d) (c:=i) (b:=b') (B:=B) (s:=s) t20.1 hb' _ rfl _ rfl
   have neL:VZ (gl f d i) (bx f i).time s b'≠[]:=by
    intro z;rw[z]at n1;simp at n1
   generalize hL:VZ (gl f d i) (bx f i).time s b'=L at *
   generalize hn:thN f d i b' (dR f d i B s) s=n at *
   refine⟨_,rfl,.inl ⟨rfl,_,nA.of aco⟩,_,rfl,gd,_,rfl,My aco,?_,λ m ZY ZZ=>?_⟩
   ·rw[aa];exact cf λ z=>neL (List.length_eq_zero_iff.mp z)
   have em:=IZ ZY ZZ
   subst em
   refine⟨gd,_,_,n,_,rfl,rfl,nA.of aco,rfl,?_,oR n1,?_,λ m z' hmn VU=>?_,?_⟩
   ·rw[fv]
    intro z hz
    obtain⟨z0,_,rfl⟩:=List.mem_map.mp hz
    rfl
   ·show((vJ L:Int) == (vJ L:Int))=true
    exact beq_self_eq_true _
   ·obtain⟨z0,q0,rfl⟩:=oq VU
    have:=n2 m z0 hmn q0
    show((z0:Int) == (vJ L:Int))=false
    rw[beq_eq_false_iff_ne];omega
   have Y5:H4 wb=some (.lst (nV R)):=s4 _ _ (by rw[mY nR];exact hR)
   refine⟨_,rfl,.inl ⟨rfl,_,nA.of Y5⟩,_,rfl,wb,_,_,rfl,rfl,Y5,(by rw[m8,aA];omega),?_⟩
   refine⟨_,rfl,_,rfl,_,rfl,_,_,rfl,rfl,K7 (t:=n) (by omega) _,Mt (z:=((b'-n*(bx f i).time:Nat):Int)) ?_ ?_⟩
   ·rw[Int.ofNat_sub n3,Int.natCast_mul]
   refine⟨_,_,_,_,R++[n],b'-n*(bx f i).time,rfl,(sT.trans s4).put hrw,?_,by rw[aw,hRl];rfl,by omega,?_⟩
   ·rw[mX];unfold nV;rw[aF];rfl
   ·rw[heq,yD w2,yD w1,K9,hn,bA];rfl
  ·rintro σ H' ⟨v8,v9,v10,v11,R,b',rfl,sm,hR,hRl,hb',heq⟩
   rw[m8,aa]at heq
   have e1:(b_ f d B f.cells.length).drop f.cells.length=[((b_ f d B f.cells.length)[f.cells.length]'(by omega))]:=by
    rw[d8 (by omega),gL (by omega)]
   rw[e1]at heq
   have e2:f6 f d B=R:=by rw[heq];exact bC _
   rw[e2]at k
   exact⟨_,rfl,k H' wb (vE.trans sm) adQ hR⟩
def pick(I:Nat->Bool)(k:Nat)(ts:List aJ):List aJ:=((ts.zipIdx k).filter λ x=>I x.2).map (·.1)
theorem Jb(I:Nat->Bool)(k:Nat):pick I k []=[]:=rfl
theorem tQ(I:Nat->Bool)(k:Nat)(t:aJ)(ts:List aJ):pick I k (t::ts)=(if I k=true then[t]else[])++pick I (k+1) ts:=by
 unfold pick
 rw[d7,fo]
 by_cases h:I k=true
 ·rw[if_pos h,if_pos h];rfl
 ·rw[if_neg h,if_neg h];rfl
theorem Jc(I:Nat->Bool):∀(ts:List aJ) (k:Nat) (t:aJ),t∈pick I k ts↔ ∃i,ts[i]? =some t/\I (k+i)=true
 |[],k,t=>by rw[Jb];simp
 |a::ts,k,t=>by
  rw[tQ,lx,Jc I ts (k+1) t]
  constructor
  ·rintro(h|⟨i,h1,h2⟩)
   ·by_cases hk:I k=true
    ·rw[if_pos hk]at h
     have:t=a:=by simpa using h
     exact⟨0,by rw[this];rfl,hk⟩
    ·rw[if_neg hk]at h;cases h
   ·exact⟨i+1,h1,by rw[show k+(i+1)=k+1+i by omega];exact h2⟩
  ·rintro⟨i,h1,h2⟩
   cases i with
   |zero=>
    refine .inl ?_
    have h2:I k=true:=h2
    rw[if_pos h2]
    cases h1;simp
   |succ i=>exact .inr ⟨i,h1,by rw[show k+1+i=k+(i+1) by omega];exact h2⟩
theorem C2{I J:Nat->Bool}:∀(ts:List aJ) (k:Nat),(∀i,k<=i->I i=J i)->pick I k ts=pick J k ts
 |[],_,_=>rfl
 |t::ts,k,h=>by rw[tQ,tQ,h k (ax _),C2 ts (k+1) λ i hi=>h i (by omega)]
def vK{α:Type}(made:List (List α))(t:α):List (List α):=made++made.map λ L=>L++[t]
def nH{α:Type}(ts:List α):List (List α):=ts.foldl vK [[]]
theorem OK:∀(ts:List aJ) (made:List (List aJ)) (k:Nat) (L:List aJ),L∈ts.foldl vK made↔ ∃M∈made,∃I,L=M++pick I k ts
 |[],made,k,L=>by
  rw[List.foldl_nil]
  constructor
  ·intro h;exact⟨L,h,λ _=>false,by rw[Jb,bC]⟩
  ·rintro⟨M,hM,I,rfl⟩;rw[Jb,bC];exact hM
 |t::ts,made,k,L=>by
  rw[cp,OK ts (vK made t) (k+1) L]
  constructor
  ·rintro⟨M,hM,I,rfl⟩
   rcases List.mem_append.mp hM with h|h
   ·refine⟨M,h,λ i=>if i=k then false else I i,?_⟩
    rw[tQ]
    simp only[if_true]
    rw[C2 (I:=λ i=>if i=k then false else I i) (J:=I) ts (k+1) λ i hi=>if_neg (by omega)]
    rfl
   ·obtain⟨M0,h0,rfl⟩:=List.mem_map.mp h
    refine⟨M0,h0,λ i=>if i=k then true else I i,?_⟩
    rw[tQ]
    simp only[if_true]
    rw[C2 (I:=λ i=>if i=k then true else I i) (J:=I) ts (k+1) λ i hi=>if_neg (by omega),bA]
  ·rintro⟨M,hM,I,rfl⟩
   rw[tQ]
   by_cases h:I k=true
   ·rw[if_pos h]
    exact⟨M++[t],cz _ (c_ hM),I,by rw[bA]⟩
   ·rw[if_neg h]
    exact⟨M,hX _ hM,I,rfl⟩
theorem wG(ts:List aJ)(L:List aJ):L∈nH ts↔ ∃I,L=pick I 0 ts:=by
 unfold nH
 rw[OK ts [[]] 0 L]
 constructor
 ·rintro⟨M,hM,I,rfl⟩
  have:M=[]:=by simpa using hM
  exact⟨I,by rw[this];rfl⟩
 ·rintro⟨I,rfl⟩;exact⟨[],by simp,I,rfl⟩
def rO(ts:List aJ):Nat:=aY (ts.map λ t=>t.efforts)
theorem Bt(t:aJ)(ts:List aJ):rO (t::ts)=t.efforts+rO ts:=by unfold rO;rw[aH,ot]
theorem OL:∀(a b:List aJ),rO (a++b)=rO a+rO b
 |[],b=>by show rO b=0+ _;omega
 |t::a,b=>by rw[iZ,Bt,Bt,OL a b];omega
def ur(L:List aJ)(c:Nat):Bool:=L.any λ t=>t.cells.contains c
def reach(f:ae)(I:Nat->Bool)(c:Nat):Bool:=ur (pick I 0 f.teams) c
theorem Fs{f:ae}{I:Nat->Bool}{c:Nat}:reach f I c=true↔ ∃i t,f.teams[i]? =some t/\I i=true/\c∈t.cells:=by
 unfold reach ur
 rw[dI]
 constructor
 ·rintro⟨t,h1,h2⟩
  obtain⟨i,h3,h4⟩:=(Jc I f.teams 0 t).mp h1
  rw[cX]at h4
  exact⟨i,t,h3,h4,List.contains_iff_mem.mp h2⟩
 ·rintro⟨i,t,h1,h2,h3⟩
  exact⟨t,(Jc I f.teams 0 t).mpr ⟨i,h1,by rw[cX];exact h2⟩,List.contains_iff_mem.mpr h3⟩
def AG(f:ae)(I:Nat->Bool):Nat:=(slots f).countP λ t=> !I t
theorem Jd(I:Nat->Bool):∀(ts:List aJ) (k:Nat),(((ts.zipIdx k).flatMap λ x=>cH x.1.efforts x.2).countP λ t=> !I t)+rO (pick I k ts)=rO ts
 |[],k=>rfl
 |t::ts,k=>by
  rw[d7,eV,List.countP_append,tQ,OL,Bt,List.countP_replicate]
  have ih:=Jd I ts (k+1)
  by_cases h:I k=true
  ·have h1:(!I k)=false:=by rw[h];rfl
   rw[if_pos h,h1,Bt]
   have:rO ([]:List aJ)=0:=rfl
   simp only[kG,if_false]
   omega
  ·have h1:(!I k)=true:=by simp[h]
   rw[if_neg h,h1]
   have:rO ([]:List aJ)=0:=rfl
   simp only[if_true]
   omega
theorem Tw(f:ae)(I:Nat->Bool):AG f I+rO (pick I 0 f.teams)=rO f.teams:=Jd I f.teams 0
theorem Ve(f:ae):(slots f).length=rO f.teams:=by
 have h:=Tw f λ _=>false
 have e1:pick (λ _=>false) 0 f.teams=[]:=by unfold pick;simp
 have e2:AG f (λ _=>false)=(slots f).length:=by unfold AG;simp
 rw[e1,e2]at h
 exact h
theorem Mz{f:ae}{s c:Nat}:cE f s c=true↔ ∃i t,(slots f)[s]? =some i/\f.teams[i]? =some t/\c∈t.cells:=by
 unfold cE
 constructor
 ·intro h
  cases q:(slots f)[s]? with
  |none=>rw[q]at h;cases h
  |some i=>
   rw[q,dE]at h
   cases q2:f.teams[i]? with
   |none=>rw[q2]at h;cases h
   |some t=>
    rw[q2]at h
    exact⟨i,t,rfl,q2,List.contains_iff_mem.mp h⟩
 ·rintro⟨i,t,h1,h2,h3⟩
  rw[h1,dE,h2]
  exact List.contains_iff_mem.mpr h3
theorem Je{f:ae}{s c:Nat}(h:cE f s c=true):s<(slots f).length:=by
 obtain⟨i,t,h1,_⟩:=Mz.mp h
 exact(List.getElem?_eq_some_iff.mp h1).1
structure PM(f:ae)(u:Use):Prop where
 nd:(u.map (·.1)).Nodup
 ok:∀x∈u,cE f x.1 x.2=true
def yM(f:ae)(seen:List Nat):Nat:=(az (slots f).length).countP λ s=> !seen.contains s
theorem La{α:Type}{p q:α->Bool}:∀{l:List α},(∀x∈l,p x=true->q x=true)->(∃x∈l,q x=true/\p x=false)->l.countP p<l.countP q
 |[],_,⟨x,hx,_⟩=>by cases hx
 |a::l,h,⟨x,hx,h1,h2⟩=>by
  have mono:∀l':List α,(∀y∈l',p y=true->q y=true)->l'.countP p<=l'.countP q:=λ l' g=>List.countP_mono_left g
  rw[ft,ft]
  rcases List.mem_cons.mp hx with e|e
  ·subst e
   rw[h1,h2]
   have:=mono l λ y hy=>h y (by simp[hy])
   simp;omega
  ·have ih:=La (l:=l) (λ y hy=>h y (by simp[hy])) ⟨x,e,h1,h2⟩
   have ha:=h a (by simp)
   cases pa:p a with
   |false=>simp;omega
   |true=>rw[ha pa];simp;omega
theorem Vf{f:ae}{seen q:List Nat}{s:Nat}(hs:s<(slots f).length)(h1:s∉q)(h2:∀t∈seen,t∈q):yM f (s::q)<yM f seen:=by
 refine La (λ x _ hx=>?_) ⟨s,List.mem_range.mpr hs,?_,?_⟩
 ·rw[iP,<-gF,dk]at hx ⊢
  exact λ z=>hx (aP _ (h2 x z))
 ·rw[iP,<-gF,dk]
  exact λ z=>h1 (h2 s z)
 ·rw[Bool.not_eq_false',dk];simp
theorem Rl{f:ae}{u:Use}(M:PM f u)(p:Nat×Nat->Bool):PM f (u.filter p):=
 ⟨List.Nodup.sublist (List.filter_sublist.map _) M.nd,λ x hx=>M.ok x ((List.mem_filter.mp hx).1)⟩
theorem OM:∀{u:Use} {x:Nat×Nat},(u.map (·.1)).Nodup->x∈u->u.Perm (x::u.filter λ y=>y.1 != x.1)
 |[],x,_,h=>by cases h
 |a::u,x,nd,h=>by
  rw[aH,gP]at nd
  rcases List.mem_cons.mp h with e|e
  ·subst e
   rw[fo,if_neg (by simp)]
   have:u.filter (λ y=>y.1 != x.1)=u:=by
    rw[List.filter_eq_self]
    intro y hy
    rw[bne_iff_ne]
    intro q
    exact nd.1 (by rw[<-q];exact c_ hy)
   rw[this]
  ·have ne:(a.1 != x.1)=true:=by
    rw[bne_iff_ne]
    intro q
    exact nd.1 (by rw[q];exact c_ e)
   rw[fo,if_pos ne]
   exact((OM nd.2 e).cons a).trans (List.Perm.swap x a _)
def MA(f:ae)(c:Nat)(seen:List Nat)(u:Use)(pre:List Nat)(r:Option Use×List Nat):Prop:=(∀s∈seen,s∈r.2)/\match r.1 with
 |some v=>PM f v/\(v.map (·.2)).Perm (c::u.map (·.2))/\∀s∈v.map (·.1),s∈u.map (·.1)\/s∉seen
 |none=>(∀s∈pre,s∈r.2)/\∀s∈r.2,s∉seen->∃c',(s,c')∈u/\∀s',cE f s' c'=true->s'∈r.2
def MB(f:ae)(k c:Nat)(u:Use)(r:Option Use×List Nat)(s:Nat):Option Use×List Nat:=match r.1 with
  |some _=>r
  |none=>if r.2.contains s=true then r else match u.find? λ x=>x.1 == s with
   |none=>(some ((s,c)::u),s::r.2)
   |some x=>match ig f k x.2 (s::r.2) (u.filter λ y=>y.1 != s)with
    |(some v,q)=>(some ((s,c)::v),q)
    |(none,q)=>(none,q)
theorem MC(f:ae)(k c:Nat)(seen:List Nat)(u:Use):ig f (k+1) c seen u=((az (slots f).length).filter λ s=>cE f s c).foldl (MB f k c u) (none,seen):=rfl
theorem Rm{f:ae}{k c:Nat}{u:Use}{seen pre:List Nat}{r:Option Use×List Nat}{s:Nat}(M:PM f u)(hs:cE f s c=true)(hk:yM f seen<k+1)
  (ih:∀(c:Nat) (seen:List Nat) (u:Use),PM f u->yM f seen<k->MA f c seen u ((az (slots f).length).filter λ s=>cE f s c) (ig f k c seen u))(h:MA f c seen u pre r):MA f c seen u (pre++[s]) (MB f k c u r s):=by
 obtain⟨o,q⟩:=r
 cases o with
 |some v=>exact h
 |none=>
  obtain⟨h1,h2,h3⟩:=h
  have h1:∀t∈seen,t∈q:=h1
  have h2:∀t∈pre,t∈q:=h2
  have h3:∀t∈q,t∉seen->∃c',(t,c')∈u/\∀s',cE f s' c'=true->s'∈q:=h3
  show MA f c seen u (pre++[s]) (if q.contains s=true then(none,q)else _)
  by_cases hc:q.contains s=true
  ·rw[if_pos hc]
   refine⟨h1,λ t ht=>?_,h3⟩
   rcases List.mem_append.mp ht with z|z
   ·exact h2 t z
   ·have:t=s:=by simpa using z
    rw[this];exact List.contains_iff_mem.mp hc
  ·rw[if_neg hc]
   have Y_:s∉q:=λ z=>hc (List.contains_iff_mem.mpr z)
   have hss:s∉seen:=λ z=>Y_ (h1 s z)
   cases fd:u.find? (λ x=>x.1 == s)with
   |none=>
    rw[kE]at fd
    have su:s∉u.map (·.1):=λ z=>by
     obtain⟨x,hx,e⟩:=List.mem_map.mp z
     exact fd x hx (by rw[e];exact beq_self_eq_true s)
    refine⟨λ t ht=>aP _ (h1 t ht),⟨?_,λ x hx=>?_⟩,List.Perm.refl _,λ t ht=>?_⟩
    ·rw[aH,gP];exact⟨su,M.nd⟩
    ·rcases List.mem_cons.mp hx with e|e
     ·rw[e];exact hs
     ·exact M.ok x e
    ·rw[aH]at ht
     rcases List.mem_cons.mp ht with e|e
     ·rw[e];exact .inr hss
     ·exact .inl e
   |some x=>
    have hx:x∈u:=jy fd
    have ex:x.1=s:=eq_of_beq (List.find?_some (p:=λ(x:Nat×Nat)=>x.1 == s) fd)
    have M':=Rl M λ y=>y.1 != s
    have po:=OM M.nd hx
    rw[ex]at po
    have I:=ih x.2 (s::q) _ M' (by have:=Vf (f:=f) (Je hs) Y_ h1;omega)
    have nb:s∉(u.filter λ y=>y.1 != s).map (·.1):=λ z=>by
     obtain⟨y,hy,e⟩:=List.mem_map.mp z
     have:=(List.mem_filter.mp hy).2
     rw[bne_iff_ne]at this
     exact this e
    have fu:∀t∈(u.filter λ y=>y.1 != s).map (·.1),t∈u.map (·.1):=λ t ht=>by
     obtain⟨y,hy,e⟩:=List.mem_map.mp ht
     exact List.mem_map.mpr ⟨y,(List.mem_filter.mp hy).1,e⟩
    dsimp only
    generalize ig f k x.2 (s::q) (u.filter λ y=>y.1 != s)=R at I
    obtain⟨o2,q2⟩:=R
    cases o2 with
    |some v=>
     obtain⟨i1,i2,i3,i4⟩:=I
     have i1:∀t∈s::q,t∈q2:=i1
     have sv:s∉v.map (·.1):=λ z=>by
      rcases i4 s z with e|e
      ·exact nb e
      ·exact e (by simp)
     refine⟨λ t ht=>i1 t (by simp[h1 t ht]),⟨?_,λ y hy=>?_⟩,?_,λ t ht=>?_⟩
     ·rw[aH,gP];exact⟨sv,i2.nd⟩
     ·rcases List.mem_cons.mp hy with e|e
      ·rw[e];exact hs
      ·exact i2.ok y e
     ·rw[aH]
      refine List.Perm.cons c (i3.trans ?_)
      have:=(po.map (·.2)).symm
      rw[aH]at this
      exact this
     ·rw[aH]at ht
      rcases List.mem_cons.mp ht with e|e
      ·rw[e];exact .inr hss
      ·rcases i4 t e with z|z
       ·exact .inl (fu t z)
       ·exact .inr λ y=>z (by simp[h1 t y])
    |none=>
     obtain⟨i1,i2,i3⟩:=I
     have i1:∀t∈s::q,t∈q2:=i1
     have i2:∀t∈(az (slots f).length).filter (λ s=>cE f s x.2),t∈q2:=i2
     refine⟨λ t ht=>i1 t (by simp[h1 t ht]),λ t ht=>?_,λ t ht Z_=>?_⟩
     ·rcases List.mem_append.mp ht with z|z
      ·exact i1 t (by simp[h2 t z])
      ·have:t=s:=by simpa using z
       rw[this];exact i1 s (by simp)
     ·have ht:t∈q2:=ht
      by_cases htq:t∈q
      ·obtain⟨c',e1,e2⟩:=h3 t htq Z_
       exact⟨c',e1,λ s' z=>i1 s' (by simp[e2 s' z])⟩
      ·by_cases adR:t=s
       ·subst adR
        refine⟨x.2,by rw[<-ex];exact hx,λ s' z=>i2 s' (List.mem_filter.mpr ⟨List.mem_range.mpr (Je z),z⟩)⟩
       ·obtain⟨c',e1,e2⟩:=i3 t ht (by simp[adR,htq])
        exact⟨c',(List.mem_filter.mp e1).1,e2⟩
theorem ON{f:ae}{k c:Nat}{u:Use}{seen:List Nat}(M:PM f u)(hk:yM f seen<k+1)
  (ih:∀(c:Nat) (seen:List Nat) (u:Use),PM f u->yM f seen<k->MA f c seen u ((az (slots f).length).filter λ s=>cE f s c) (ig f k c seen u)):
  ∀(L pre:List Nat) (r:Option Use×List Nat),(∀s∈L,cE f s c=true)->MA f c seen u pre r->MA f c seen u (pre++L) (L.foldl (MB f k c u) r)
 |[],pre,r,_,h=>by rw[bC];exact h
 |s::L,pre,r,hL,h=>by
  have h':=Rm M (hL s (by simp)) hk ih h
  have:=ON M hk ih L (pre++[s]) _ (λ t ht=>hL t (by simp[ht])) h'
  rw[bA]at this
  exact this
theorem C3{f:ae}:∀(k c:Nat) (seen:List Nat) (u:Use),PM f u->yM f seen<k->MA f c seen u ((az (slots f).length).filter λ s=>cE f s c) (ig f k c seen u)
 |0,c,seen,u,_,h=>by omega
 |k+1,c,seen,u,M,h=>by
  rw[MC]
  have h0:MA f c seen u [] (none,seen):=And.intro (λ s hs=>hs) (show(∀s∈([]:List Nat),s∈seen)/\∀s∈seen,s∉seen->∃c',(s,c')∈u/\∀s',cE f s' c'=true->s'∈seen from⟨λ s hs=>absurd hs cK,λ s hs hn=>absurd hs hn⟩)
  have:=ON (c:=c) M h (C3 k) ((az (slots f).length).filter λ s=>cE f s c) [] (none,seen) (λ s hs=>(List.mem_filter.mp hs).2) h0
  rw[gQ]at this
  exact this
def qU(f:ae)(I:Nat->Bool)(l:List Nat):Nat:=l.countP λ c=> !reach f I c
def xR(f:ae)(l:List Nat):Prop:=∀I,qU f I l<=AG f I
theorem OO{f:ae}{I:Nat->Bool}{l m:List Nat}(h:l.Perm m):qU f I l=qU f I m:=h.countP_eq _
theorem xR.perm{f:ae}{l m:List Nat}(h:l.Perm m)(F:xR f l):xR f m:=λ I=>by rw[<-OO h];exact F I
theorem xR.sub{f:ae}{l m:List Nat}(h:l.Sublist m)(F:xR f m):xR f l:=λ I=>aV (h.countP_le) (F I)
theorem Jf(f:ae)(I:Nat->Bool):AG f I=((az (slots f).length).filter λ s=> !I ((slots f).getD s 0)).length:=by
 have e:slots f=(az (slots f).length).map λ s=>(slots f).getD s 0:=by
  apply bN
  intro i
  rw[ak]
  by_cases hi:i<(slots f).length
  ·rw[bc hi];exact getD_at hi
  ·rw[aI (by omega),aI (by rw[aQ];omega)];rfl
 unfold AG
 conv=>lhs;rw[e]
 rw[jf,dS];rfl
theorem Jg{f:ae}{u:Use}(M:PM f u):xR f (u.map (·.2)):=λ I=>by
 unfold qU
 rw[jf,dS,Jf,<-aa (f:=(·.1)) (as:=u.filter _)]
 refine List.Nodup.length_le_of_subset (List.Nodup.sublist (List.filter_sublist.map _) M.nd) λ s hs=>?_
 obtain⟨x,hx,rfl⟩:=List.mem_map.mp hs
 obtain⟨h1,h2⟩:=List.mem_filter.mp hx
 have h2:(!reach f I x.2)=true:=h2
 have can:=M.ok x h1
 obtain⟨i,t,c1,c2,c3⟩:=Mz.mp can
 refine List.mem_filter.mpr ⟨List.mem_range.mpr (Je can),?_⟩
 rw[aB,c1]
 show(!I i)=true
 cases q:I i with
 |false=>rfl
 |true=>
  have:reach f I x.2=true:=Fs.mpr ⟨i,t,c2,q,c3⟩
  rw[this]at h2;cases h2
theorem aan{u:Use}(nd:(u.map (·.1)).Nodup){s a b:Nat}(h1:(s,a)∈u)(h2:(s,b)∈u):a=b:=by
 induction u with
 |nil=>cases h1
 |cons x u ih=>
  rw[aH,gP]at nd
  rcases List.mem_cons.mp h1 with e1|e1
  ·rcases List.mem_cons.mp h2 with e2|e2
   ·have:=e1.trans e2.symm
    exact congrArg Prod.snd this
   ·exact absurd (by rw[<-e1];exact c_ (f:=(·.1)) e2) nd.1
  ·rcases List.mem_cons.mp h2 with e2|e2
   ·exact absurd (by rw[<-e2];exact c_ (f:=(·.1)) e1) nd.1
   ·exact ih nd.2 e1 e2
theorem Lb{f:ae}{u v:Use}{c:Nat}(M:PM f u)(h:eX f c u=some v):PM f v/\(v.map (·.2)).Perm (c::u.map (·.2)):=by
 have A:=C3 (f:=f) ((slots f).length+1) c [] u M (kW (by unfold yM;exact aV j0 (by rw[aQ];exact ax _)))
 unfold eX at h
 generalize ig f ((slots f).length+1) c [] u=r at A h
 obtain⟨o,q⟩:=r
 cases h
 exact⟨A.2.1,A.2.2.1⟩
theorem Lc{f:ae}{u:Use}{c:Nat}(M:PM f u)(h:eX f c u=none):¬ xR f (c::u.map (·.2)):=by
 have A:=C3 (f:=f) ((slots f).length+1) c [] u M (kW (by unfold yM;exact aV j0 (by rw[aQ];exact ax _)))
 unfold eX at h
 generalize ig f ((slots f).length+1) c [] u=r at A h
 obtain⟨o,q⟩:=r
 have h:o=none:=h
 subst h
 obtain⟨_,a1,a2⟩:=A
 have a1:∀s∈(az (slots f).length).filter (λ s=>cE f s c),s∈q:=a1
 have a2:∀s∈q,s∉([]:List Nat)->∃c',(s,c')∈u/\∀s',cE f s' c'=true->s'∈q:=a2
 have b1:∀s,cE f s c=true->s∈q:=λ s hs=>a1 s (List.mem_filter.mpr ⟨List.mem_range.mpr (Je hs),hs⟩)
 intro F
 let S:Nat->Bool:=λ x=>x == c || u.any λ y=>y.2 == x && q.contains y.1
 let I:Nat->Bool:=λ i=>match f.teams[i]? with
  |none=>true
  |some t=> !(t.cells.any S)
 have sS:∀x,S x=true->∀s,cE f s x=true->s∈q:=λ x hx s hs=>by
  have hx:(x == c || u.any λ y=>y.2 == x && q.contains y.1)=true:=hx
  rw[gS]at hx
  rcases hx with e|e
  ·rw[eq_of_beq e]at hs;exact b1 s hs
  ·rw[dI]at e
   obtain⟨y,hy,e⟩:=e
   rw[bg]at e
   have hq:=List.contains_iff_mem.mp e.2
   obtain⟨c',z1,z2⟩:=a2 y.1 hq (by simp)
   have e3:y.2=c':=aan M.nd (s:=y.1) hy z1
   have e4:=eq_of_beq e.1
   exact z2 s (by rw[<-e3,e4];exact hs)
 have nS:∀x,S x=true->reach f I x=false:=λ x hx=>by
  cases z:reach f I x with
  |false=>rfl
  |true=>
   obtain⟨i,t,r1,r2,r3⟩:=Fs.mp z
   have r2:(match f.teams[i]? with
    |none=>true
    |some t=> !(t.cells.any S))=true:=r2
   rw[r1]at r2
   have:t.cells.any S=true:=List.any_eq_true.mpr ⟨x,r3,hx⟩
   simp only[this]at r2
   cases r2
 have Sc:S c=true:=by show(c == c || _)=true;rw[beq_self_eq_true];rfl
 have le:AG f I<=qU f I (u.map (·.2)):=by
  unfold qU
  rw[jf,dS,Jf,<-aa (f:=(·.1)) (as:=u.filter _)]
  refine List.Nodup.length_le_of_subset (List.Nodup.sublist ir kY) λ s hs=>?_
  obtain⟨h1,h2⟩:=List.mem_filter.mp hs
  have hl:=List.mem_range.mp h1
  have gs:(slots f)[s]? =some ((slots f).getD s 0):=getD_at hl
  generalize (slots f).getD s 0=i at gs h2
  have h2:(!(match f.teams[i]? with
   |none=>true
   |some t=> !(t.cells.any S)))=true:=h2
  cases ti:f.teams[i]? with
  |none=>rw[ti]at h2;cases h2
  |some t=>
   rw[ti]at h2
   have h2:(!(!(t.cells.any S)))=true:=h2
   rw[Bool.not_not,dI]at h2
   obtain⟨x,hx1,Dz⟩:=h2
   have sq:s∈q:=sS x Dz s (Mz.mpr ⟨i,t,gs,ti,hx1⟩)
   obtain⟨c',z1,z2⟩:=a2 s sq (by simp)
   refine List.mem_map.mpr ⟨(s,c'),List.mem_filter.mpr ⟨z1,?_⟩,rfl⟩
   show(!reach f I c')=true
   rw[nS c' ?_];rfl
   show(c' == c || u.any λ y=>y.2 == c' && q.contains y.1)=true
   rw[gS]
   refine .inr (List.any_eq_true.mpr ⟨(s,c'),z1,?_⟩)
   rw[bg]
   exact⟨beq_self_eq_true c',List.contains_iff_mem.mpr sq⟩
 have:=F I
 have e:qU f I (c::u.map (·.2))=qU f I (u.map (·.2))+1:=by
  unfold qU
  rw[ft,nS c Sc];rfl
 omega
theorem Tx(f:ae):PM f []:=⟨eU,λ x hx=>by cases hx⟩
theorem Tz{f:ae}{u:Use}(M:PM f u):u.length<=(slots f).length:=by
 have:=List.Nodup.length_le_of_subset (l₂:=az (slots f).length) M.nd λ s hs=>by
  obtain⟨x,hx,rfl⟩:=List.mem_map.mp hs
  exact List.mem_range.mpr (Je (M.ok x hx))
 rw[aa,aQ]at this
 exact this
theorem Ld(f:ae):∀l:List Nat,l.foldl (λ(u:Option Use) c=>u.bind (eX f c)) none=none
 |[]=>rfl
 |c::l=>Ld f l
theorem Le{f:ae}:∀(l:List Nat) (u:Use),PM f u->((l.foldl (λ(u:Option Use) c=>u.bind (eX f c)) (some u)).isSome=true↔xR f (l++u.map (·.2)))
 |[],u,M=>⟨λ _=>Jg M,λ _=>rfl⟩
 |c::l,u,M=>by
  rw[cp,dE]
  cases h:eX f c u with
  |some v=>
   obtain⟨M',p⟩:=Lb M h
   rw[Le l v M']
   have pp:(l++v.map (·.2)).Perm (c::l++u.map (·.2)):=(p.append_left l).trans List.perm_middle
   exact⟨λ F=>F.perm pp,λ F=>F.perm pp.symm⟩
  |none=>
   rw[Ld]
   refine⟨λ z=>(by cases z),λ F=>absurd ?_ (Lc M h)⟩
   refine F.sub ?_
   rw[iZ]
   exact(List.sublist_append_right l (u.map (·.2))).cons_cons c
def p_(m:Nat)(L:List aJ):List Nat:=(az m).filter λ c=> !ur L c
def D9(f:ae)(m:Nat)(L:List aJ)(row:List Nat):Int:=((rO f.teams:Nat):Int)-((rO L:Nat):Int)-((aY ((p_ m L).map λ c=>row.getD c 0):Nat):Int)
structure D_(m:Nat)(row l:List Nat):Prop where
 len:row.length=m
 lt:∀c∈l,c<m
 cnt:∀c,c<m->row.getD c 0=l.count c
theorem Lf{α:Type}(g h:α->Nat):∀(L:List α),aY (L.map λ x=>g x+h x)=aY (L.map g)+aY (L.map h)
 |[]=>rfl
 |x::L=>by rw[aH,aH,aH,ot,ot,ot,Lf g h L];omega
theorem Lg(c:Nat):∀(L:List Nat),L.Nodup->aY (L.map λ x=>if c == x then 1 else 0)=if c∈L then 1 else 0
 |[],_=>rfl
 |x::L,nd=>by
  obtain⟨h1,h2⟩:=List.nodup_cons.mp nd
  rw[aH,ot,Lg c L h2]
  by_cases e:c=x
  ·subst e
   rw[if_neg h1];simp
  ·have e1:(c == x)=false:=beq_eq_false_iff_ne.mpr e
   rw[e1]
   by_cases h:c∈L
   ·rw[if_pos h,if_pos (aP _ h)];simp
   ·rw[if_neg h,if_neg (λ z=>(List.mem_cons.mp z).elim e h)];simp
theorem Gg(p:Nat->Bool)(m:Nat):∀(l:List Nat),(∀c∈l,c<m)->l.countP p=aY (((az m).filter p).map λ c=>l.count c)
 |[],_=>by
  have:∀L:List Nat,aY (L.map λ c=>([]:List Nat).count c)=0:=λ L=>by
   induction L with
   |nil=>rfl
   |cons x L ih=>rw[aH,ot,ih];rfl
  rw[this];rfl
 |a::l,h=>by
  have e:((az m).filter p).map (λ c=>(a::l).count c)=((az m).filter p).map λ c=>l.count c+if a == c then 1 else 0:=by
   refine bO λ c _=>?_
   rw[eK]
  rw[e,Lf,<-Gg p m l λ c hc=>h c (by simp[hc]),Lg a _ (List.Nodup.sublist ir kY),ft]
  congr 1
  have ha:=h a (by simp)
  by_cases hp:p a=true
  ·rw[if_pos hp,if_pos (List.mem_filter.mpr ⟨List.mem_range.mpr ha,hp⟩)]
  ·rw[if_neg hp,if_neg (λ z=>hp (List.mem_filter.mp z).2)]
theorem Ea{f:ae}{m:Nat}{row l:List Nat}(R:D_ m row l)(I:Nat->Bool):D9 f m (pick I 0 f.teams) row=((AG f I:Nat):Int)-((qU f I l:Nat):Int):=by
 have h1:=Tw f I
 have h2:qU f I l=aY ((p_ m (pick I 0 f.teams)).map λ c=>row.getD c 0):=by
  unfold qU
  rw[Gg _ m l R.lt]
  congr 1
  refine bO λ c hc=>?_
  exact(R.cnt c (List.mem_range.mp (List.mem_filter.mp hc).1)).symm
 unfold D9
 rw[<-h2];omega
theorem X2{f:ae}{m:Nat}{row l:List Nat}(R:D_ m row l):xR f l↔ ∀L∈nH f.teams,0<=D9 f m L row:=by
 constructor
 ·intro F L hL
  obtain⟨I,rfl⟩:=(wG _ _).mp hL
  rw[Ea R]
  have:=F I
  omega
 ·intro h I
  have:=h _ ((wG _ _).mpr ⟨I,rfl⟩)
  rw[Ea R]at this
  omega
theorem OP{f:ae}{m:Nat}{row l:List Nat}(R:D_ m row l)(F:xR f l){c:Nat}(hc:c<m):xR f (c::l)↔ ∀L∈nH f.teams,D9 f m L row=0->c∉p_ m L:=by
 have e:∀I,qU f I (c::l)=qU f I l+if(!reach f I c)=true then 1 else 0:=λ I=>by
  unfold qU;rw[ft]
 constructor
 ·intro G L hL h0 hm
  obtain⟨I,rfl⟩:=(wG _ _).mp hL
  rw[Ea R]at h0
  have g:=G I
  have hr:(!reach f I c)=true:=(List.mem_filter.mp hm).2
  rw[e I,if_pos hr]at g
  omega
 ·intro h I
  have f1:=F I
  rw[e I]
  by_cases hr:(!reach f I c)=true
  ·rw[if_pos hr]
   have:=h _ ((wG _ _).mpr ⟨I,rfl⟩)
   rw[Ea R]at this
   have hz:¬ ((AG f I:Nat):Int)-((qU f I l:Nat):Int)=0:=λ z=>this z (List.mem_filter.mpr ⟨List.mem_range.mpr hc,hr⟩)
   omega
  ·rw[if_neg hr];omega
def xS(k:Nat)(e:List Nat):List Nat:=(e.zipIdx k).flatMap λ x=>cH x.1 x.2
theorem yN(k a:Nat)(e:List Nat):xS k (a::e)=cH a k++xS (k+1) e:=by
 unfold xS;rw[d7,eV]
theorem Ft:∀(e:List Nat) (k c:Nat),c∈xS k e->k<=c/\c<k+e.length
 |[],k,c,h=>by cases h
 |a::e,k,c,h=>by
  rw[yN]at h
  rcases List.mem_append.mp h with z|z
  ·have:=List.eq_of_mem_replicate z
   rw[aD];omega
  ·have:=Ft e (k+1) c z
   rw[aD];omega
theorem Gh:∀(e:List Nat) (k i:Nat),(xS k e).count (k+i)=e.getD i 0
 |[],k,i=>by show 0=_;simp
 |a::e,k,i=>by
  rw[yN,List.count_append,List.count_replicate]
  cases i with
  |zero=>
   have:(xS (k+1) e).count k=0:=List.count_eq_zero.mpr λ z=>by have:=Ft e (k+1) k z;omega
   show(if(k == k)=true then a else 0)+(xS (k+1) e).count k=a
   rw[this,beq_self_eq_true,if_pos rfl];rfl
  |succ i=>
   have h:(k == k+(i+1))=false:=by rw[beq_eq_false_iff_ne];omega
   rw[h,show k+(i+1)=k+1+i by omega,Gh e (k+1) i]
   show 0+ _=e.getD i 0
   omega
theorem Lh(e:List Nat):D_ e.length e (xS 0 e):=⟨rfl,λ c hc=>by have:=Ft e 0 c hc;omega,λ c _=>by
 have:=Gh e 0 c
 rw[cX]at this;exact this.symm⟩
theorem OQ(f:ae)(e:List Nat):jA f e=true↔ ∀L∈nH f.teams,0<=D9 f e.length L e:=by
 rw[<-X2 (Lh e)]
 have h:=Le (f:=f) (xS 0 e) [] (Tx f)
 rw[fQ,bC]at h
 exact h
theorem yO:∀(l:List (Option Nat×Nat)) (b:Option (Nat×Nat)),l.Pairwise (λ x y=>x.2<y.2)->(∀y,b=some y->∀x∈l,y.1<x.2)->∀y,l.foldl F3 b=some y->
  (b=some y/\∀n c,(some n,c)∈l->n<=y.2)\/((some y.2,y.1)∈l/\(∀y0,b=some y0->y0.2<y.2)/\∀n c,(some n,c)∈l->n<=y.2/\(c<y.1->n<y.2))
 |[],b,_,_,y,h=>.inl ⟨h,λ n c z=>by cases z⟩
 |(o,c)::l,b,pw,hb,y,h=>by
  rw[cp]at h
  obtain⟨p1,p2⟩:=List.pairwise_cons.mp pw
  cases o with
  |none=>
   rw[yu]at h
   rcases yO l b p2 (λ y0 e x hx=>hb y0 e x (by simp[hx])) y h with⟨z1,z2⟩|⟨z1,z2,z3⟩
   ·refine .inl ⟨z1,λ n c' hm=>?_⟩
    rcases List.mem_cons.mp hm with e|e
    ·cases e
    ·exact z2 n c' e
   ·refine .inr ⟨by simp[z1],z2,λ n c' hm=>?_⟩
    rcases List.mem_cons.mp hm with e|e
    ·cases e
    ·exact z3 n c' e
  |some n0=>
   rw[yw]at h
   by_cases hg:gM b<(n0:Int)
   ·rw[if_pos hg]at h
    have XX:∀y0,b=some y0->y0.2<n0:=λ y0 e=>by
     rw[e]at hg
     have:(y0.2:Int)<n0:=hg
     omega
    rcases yO l (some (c,n0)) p2 (λ y0 e x hx=>by cases e;exact p1 x hx) y h with⟨z1,z2⟩|⟨z1,z2,z3⟩
    ·cases z1
     refine .inr ⟨by simp,XX,λ n c' hm=>?_⟩
     rcases List.mem_cons.mp hm with e|e
     ·cases e;exact⟨ax _,λ q=>absurd q (cY _)⟩
     ·exact⟨z2 n c' e,λ q=>absurd (p1 _ e) (by show ¬ c<c';have q:c'<c:=q;omega)⟩
    ·have zz:=z2 _ rfl
     refine .inr ⟨by simp[z1],λ y0 e=>by have:=XX y0 e;have zz:n0<y.2:=zz;omega,λ n c' hm=>?_⟩
     rcases List.mem_cons.mp hm with e|e
     ·cases e
      have zz:n0<y.2:=zz
      exact⟨by omega,λ _=>zz⟩
     ·exact z3 n c' e
   ·rw[if_neg hg]at h
    cases b with
    |none=>exact absurd (show(-1:Int)<n0 by omega) hg
    |some y0=>
     have hle:n0<=y0.2:=by
      have:¬ (y0.2:Int)<n0:=hg
      omega
     rcases yO l (some y0) p2 (λ y1 e x hx=>hb y1 e x (by simp[hx])) y h with⟨z1,z2⟩|⟨z1,z2,z3⟩
     ·cases z1
      refine .inl ⟨rfl,λ n c' hm=>?_⟩
      rcases List.mem_cons.mp hm with e|e
      ·cases e;exact hle
      ·exact z2 n c' e
     ·have zz:=z2 y0 rfl
      refine .inr ⟨by simp[z1],z2,λ n c' hm=>?_⟩
      rcases List.mem_cons.mp hm with e|e
      ·cases e;exact⟨by omega,λ _=>by omega⟩
      ·exact z3 n c' e
def C4(f:ae)(d:List Nat)(S:Nat->Prop)(c:Nat):Prop:=S c/\∀x,S x->c9 f x (d.getD x 0)<=c9 f c (d.getD c 0)/\(x<c->c9 f x (d.getD x 0)<c9 f c (d.getD c 0))
theorem C4.one{f:ae}{d:List Nat}{S:Nat->Prop}{a b:Nat}(ha:C4 f d S a)(hb:C4 f d S b):a=b:=by
 obtain⟨a1,a2⟩:=ha
 obtain⟨b1,b2⟩:=hb
 have h1:=a2 b b1
 have h2:=b2 a a1
 have n1:¬ b<a:=λ z=>by have:=h1.2 z;omega
 have n2:¬ a<b:=λ z=>by have:=h2.2 z;omega
 omega
theorem Li{f:ae}{d cs:List Nat}{g:Nat->Option Nat}(hs:cs.Pairwise (· < ·))(hg:∀c∈cs,∀n,g c=some n->n=c9 f c (d.getD c 0)):(∀y,tu (cs.map λ c=>(g c,c))=some y->C4 f d (λ x=>x∈cs/\g x≠none) y.1)/\(tu (cs.map λ c=>(g c,c))=none->∀x∈cs,g x=none):=by
 have pw:(cs.map λ c=>(g c,c)).Pairwise (λ x y=>x.2<y.2):=by rw[iN];exact hs
 refine⟨λ y h=>?_,λ h x hx=>Iu _ h (g x,x) (c_ hx)⟩
 rcases yO _ none pw (λ y e=>by cases e) y h with⟨z,_⟩|⟨z1,_,z3⟩
 ·cases z
 ·obtain⟨c,hc,e⟩:=List.mem_map.mp z1
  have e1:g c=some y.2:=congrArg Prod.fst e
  have e2:c=y.1:=congrArg Prod.snd e
  subst e2
  have ey:=hg _ hc _ e1
  refine⟨⟨hc,by rw[e1];intro q;cases q⟩,λ x ⟨hx1,Dz⟩=>?_⟩
  cases q:g x with
  |none=>exact absurd q Dz
  |some n=>
   have en:=hg x hx1 n q
   have:=z3 n x (List.mem_map.mpr ⟨x,hx1,by rw[q]⟩)
   rw[en,ey]at this
   exact this
theorem Ec{f:ae}{d cs:List Nat}(hs:cs.Pairwise (· < ·)):(∀c,bestOf f d cs=some c->C4 f d (λ x=>x∈cs/\d.getD x 0<20) c)/\(bestOf f d cs=none->∀x∈cs,¬ d.getD x 0<20):=by
 have hm:∀x,(if d.getD x 0<20 then some (c9 f x (d.getD x 0))else none)≠none↔d.getD x 0<20:=λ x=>by
  by_cases h:d.getD x 0<20
  ·rw[if_pos h];exact⟨λ _=>h,λ _ q=>by cases q⟩
  ·rw[if_neg h];exact⟨λ q=>absurd rfl q,λ q=>absurd q h⟩
 obtain⟨b1,b2⟩:=Li (f:=f) (d:=d) (cs:=cs) (g:=λ x=>if d.getD x 0<20 then some (c9 f x (d.getD x 0))else none) hs λ c _ n e=>by
  have e:(if d.getD c 0<20 then some (c9 f c (d.getD c 0))else none)=some n:=e
  by_cases h:d.getD c 0<20
  ·rw[if_pos h]at e;exact(Option.some.inj e).symm
  ·rw[if_neg h]at e;cases e
 constructor
 ·intro c h
  unfold bestOf at h
  cases q:tu (cs.map (Ms f d))with
  |none=>rw[q]at h;cases h
  |some y=>
   rw[q]at h
   cases h
   obtain⟨⟨c1,c2⟩,c3⟩:=b1 y q
   exact⟨⟨c1,(hm _).mp c2⟩,λ x ⟨x1,x2⟩=>c3 x ⟨x1,(hm x).mpr x2⟩⟩
 ·intro h x hx rL
  unfold bestOf at h
  cases q:tu (cs.map (Ms f d))with
  |none=>exact(hm x).mpr rL (b2 q x hx)
  |some y=>rw[q]at h;cases h
def Jh(f:ae)(d pL:List Nat):Option Nat:=fT ((fj f d).zipIdx.map λ x=>if pL.contains x.2=true\/x.1=some 0 then none else x.1)
def Gi(f:ae)(d pL:List Nat)(c:Nat):Option Nat:=if pL.contains c=true\/(Ms f d c).1=some 0 then none else(Ms f d c).1
theorem MD{f:ae}{d pL:List Nat}:(∀c,Jh f d pL=some c->C4 f d (λ x=>x<d.length/\x∉pL/\d.getD x 0<20/\c9 f x (d.getD x 0)≠0) c)/\(Jh f d pL=none->∀x,x<d.length->x∉pL->d.getD x 0<20->c9 f x (d.getD x 0)=0):=by
 have e:((fj f d).zipIdx.map λ x=>if pL.contains x.2=true\/x.1=some 0 then none else x.1).zipIdx=(az d.length).map λ c=>(Gi f d pL c,c):=by
  rw[F6,aW]
  apply bN
  intro i
  rw[bQ,ak,ak]
  by_cases hi:i<d.length
  ·rw[bc hi]
   show some (Gi f d pL i,0+i)=some (Gi f d pL i,i)
   rw[cX]
  ·rw[aI (by rw[aQ];omega)];rfl
 have hm:∀x,Gi f d pL x≠none↔x∉pL/\d.getD x 0<20/\c9 f x (d.getD x 0)≠0:=λ x=>by
  unfold Gi Ms
  dsimp only
  by_cases hs:x∈pL
  ·rw[if_pos (.inl (List.contains_iff_mem.mpr hs))]
   exact⟨λ q=>absurd rfl q,λ q=>absurd hs q.1⟩
  ·by_cases h:d.getD x 0<20
   ·rw[if_pos h]
    by_cases h0:c9 f x (d.getD x 0)=0
    ·rw[if_pos (.inr (by rw[h0]))]
     exact⟨λ q=>absurd rfl q,λ q=>absurd h0 q.2.2⟩
    ·rw[if_neg (by rintro(z|z);exact hs (List.contains_iff_mem.mp z);exact h0 (Option.some.inj z))]
     exact⟨λ _=>⟨hs,h,h0⟩,λ _ q=>by cases q⟩
   ·rw[if_neg h]
    refine⟨λ q=>absurd ?_ q,λ q=>absurd q.2.1 h⟩
    split <;> rfl
 obtain⟨b1,b2⟩:=Li (f:=f) (d:=d) (cs:=az d.length) (g:=Gi f d pL) jN λ c _ n e=>by
  have e:(if pL.contains c=true\/(Ms f d c).1=some 0 then none else(Ms f d c).1)=some n:=e
  by_cases h1:pL.contains c=true\/(Ms f d c).1=some 0
  ·rw[if_pos h1]at e;cases e
  ·rw[if_neg h1]at e
   have e:(if d.getD c 0<20 then some (c9 f c (d.getD c 0))else none)=some n:=e
   by_cases h2:d.getD c 0<20
   ·rw[if_pos h2]at e;exact(Option.some.inj e).symm
   ·rw[if_neg h2]at e;cases e
 constructor
 ·intro c h
  unfold Jh at h
  rw[wC,e]at h
  cases q:tu ((az d.length).map λ c=>(Gi f d pL c,c))with
  |none=>rw[q]at h;cases h
  |some y=>
   rw[q]at h
   cases h
   obtain⟨⟨c1,c2⟩,c3⟩:=b1 y q
   exact⟨⟨List.mem_range.mp c1,(hm _).mp c2⟩,λ x ⟨x1,x2⟩=>c3 x ⟨List.mem_range.mpr x1,(hm x).mpr x2⟩⟩
 ·intro h x hx h1 h2
  unfold Jh at h
  rw[wC,e]at h
  cases q:tu ((az d.length).map λ c=>(Gi f d pL c,c))with
  |none=>
   have:=b2 q x (List.mem_range.mpr hx)
   apply Classical.byContradiction
   intro h3
   exact(hm x).mpr ⟨h1,h2,h3⟩ this
  |some y=>rw[q]at h;cases h
theorem Ji(f:ae)(k:Nat)(d:List Nat)(u:Use)(pL:List Nat):eF f (k+1) d u pL=match Jh f d pL with
  |none=>d
  |some c=>match eX f c u with
   |some v=>eF f k (bump d c) v pL
   |none=>eF f k d u (c::pL):=rfl
theorem xR.ae3{f:ae}{c c0:Nat}{l m:List Nat}(F:xR f (c::m))(p:m.Perm (c0::l)):xR f (c::l):=
 (F.perm ((p.cons c))).sub ((List.sublist_cons_self c0 l).cons_cons c)
structure acp(f:ae)(d:List Nat)(k:Nat)(u:Use)(pL:List Nat):Prop where
 mat:PM f u
 sh:∀c∈pL,¬ xR f (c::u.map (·.2))
 nd:pL.Nodup
 lt:∀c∈pL,c<d.length
 fuel:((slots f).length-u.length)+(d.length-pL.length)<=k
theorem Jj{f:ae}{d cs:List Nat}{u:Use}(hs:cs.Pairwise (· < ·))(Ml:∀c,c∈cs↔c<d.length/\xR f (c::u.map (·.2))):∀(k:Nat) (pL:List Nat),acp f d k u pL->
  (∀c,bestOf f d cs=some c->0<c9 f c (d.getD c 0)->∃k' v TB,eF f k d u pL=eF f k' (bump d c) v TB/\acp f (bump d c) k' v TB/\(v.map (·.2)).Perm (c::u.map (·.2)))/\
  ((∀c,bestOf f d cs=some c->c9 f c (d.getD c 0)=0)->eF f k d u pL=d)
 |0,pL,T=>by
  refine⟨λ c hb hg=>?_,λ _=>rfl⟩
  exfalso
  obtain⟨⟨c1,c2⟩,_⟩:=(Ec hs).1 c hb
  have F:=((Ml c).mp c1).2 λ _=>false
  have e1:AG f (λ _=>false)=(slots f).length:=by unfold AG;simp
  have e2:qU f (λ _=>false) (c::u.map (·.2))=u.length+1:=by
   unfold qU
   have:∀x,reach f (λ _=>false) x=false:=λ x=>by
    cases q:reach f (λ _=>false) x with
    |false=>rfl
    |true=>obtain⟨_,_,_,z,_⟩:=Fs.mp q;cases z
   rw[List.countP_eq_length.mpr λ x _=>by rw[this x];rfl,aD,aa]
  rw[e1,e2]at F
  have:=T.fuel
  omega
 |k+1,pL,T=>by
  rw[Ji]
  cases hn:Jh f d pL with
  |none=>
   have h0:=MD.2 hn
   refine⟨λ c hb hg=>?_,λ _=>rfl⟩
   exfalso
   obtain⟨⟨c1,c2⟩,_⟩:=(Ec hs).1 c hb
   obtain⟨c3,c4⟩:=(Ml c).mp c1
   have:=h0 c c3 (λ z=>T.sh c z c4) c2
   omega
  |some c0=>
   obtain⟨⟨n1,n2,n3,n4⟩,n5⟩:=MD.1 c0 hn
   dsimp only
   cases hv:eX f c0 u with
   |none=>
    have nf:=Lc T.mat hv
    have nd':(c0::pL).Nodup:=List.nodup_cons.mpr ⟨n2,T.nd⟩
    have lt':∀c∈c0::pL,c<d.length:=λ c hc=>by
     rcases List.mem_cons.mp hc with e|e
     ·rw[e];exact n1
     ·exact T.lt c e
    have len:(c0::pL).length<=d.length:=by
     have:=List.Nodup.length_le_of_subset (l₂:=az d.length) nd' λ c hc=>List.mem_range.mpr (lt' c hc)
     rw[aQ]at this;exact this
    rw[aD]at len
    exact Jj hs Ml k (c0::pL) ⟨T.mat,λ c hc=>by
     rcases List.mem_cons.mp hc with e|e
     ·rw[e];exact nf
     ·exact T.sh c e,nd',lt',by have:=T.fuel;rw[aD];omega⟩
   |some v=>
    obtain⟨M',p⟩:=Lb T.mat hv
    have F0:xR f (c0::u.map (·.2)):=(Jg M').perm p
    have hc0:c0∈cs:=(Ml c0).mpr ⟨n1,F0⟩
    have isb:C4 f d (λ x=>x∈cs/\d.getD x 0<20) c0:=⟨⟨hc0,n3⟩,λ x ⟨x1,x2⟩=>by
     obtain⟨x3,x4⟩:=(Ml x).mp x1
     by_cases hz:c9 f x (d.getD x 0)=0
     ·rw[hz];exact⟨aE _,λ _=>by omega⟩
     ·exact n5 x ⟨x3,λ z=>T.sh x z x4,x2,hz⟩⟩
    have eb:bestOf f d cs=some c0:=by
     cases q:bestOf f d cs with
     |none=>exact absurd n3 ((Ec hs).2 q c0 hc0)
     |some c'=>rw[((Ec hs).1 c' q).one isb]
    have vl:v.length=u.length+1:=by
     have:=p.length_eq
     rw[aa,aD,aa]at this;exact this
    have vn:=Tz M'
    refine⟨λ c hb hg=>?_,λ h=>absurd (h c0 eb) n4⟩
    rw[eb]at hb
    cases hb
    refine⟨k,v,pL,rfl,⟨M',λ c hc F=>T.sh c hc (F.ae3 p),T.nd,λ c hc=>by rw[pV];exact T.lt c hc,by have:=T.fuel;rw[pV];omega⟩,p⟩
theorem ME{α:Type}(l:List α)(t:α):nH (l++[t])=vK (nH l) t:=by
 unfold nH;rw[gn];rfl
theorem Gj{α β:Type}(g:α->β):∀(ts:List α) (made:List (List α)),(ts.map g).foldl vK (made.map (j8 g))=(ts.foldl vK made).map (j8 g)
 |[],_=>rfl
 |t::ts,made=>by
  rw[aH,cp,cp,<-Gj g ts]
  congr 1
  unfold vK
  rw[aF,aW,aW]
  congr 1
  refine bO λ L _=>?_
  show L.map g++[g t]=(L++[t]).map g
  rw[aF];rfl
theorem xc{α β:Type}(g:α->β)(ts:List α):nH (ts.map g)=(nH ts).map (j8 g):=Gj g ts [[]]
theorem Gk{α:Type}:∀(ts:List α) (made:List (List α)) (L:List α),L∈ts.foldl vK made->∃M∈made,∃N,L=M++N/\N.Sublist ts
 |[],made,L,h=>⟨L,h,[],(bC _).symm,List.Sublist.refl _⟩
 |t::ts,made,L,h=>by
  obtain⟨M,hM,N,e,s⟩:=Gk ts (vK made t) L h
  rcases List.mem_append.mp hM with z|z
  ·exact⟨M,z,N,e,s.cons t⟩
  ·obtain⟨M0,h0,rfl⟩:=List.mem_map.mp z
   exact⟨M0,h0,t::N,by rw[e,bA];rfl,s.cons_cons t⟩
theorem BQ{α:Type}{ts L:List α}(h:L∈nH ts):L.Sublist ts:=by
 obtain⟨M,hM,N,e,s⟩:=Gk ts [[]] L h
 have:M=[]:=by simpa using hM
 rw[e,this];exact s
theorem Gm{α:Type}:∀(ts:List α) (made:List (List α)),(ts.foldl vK made).length=2 ^ ts.length*made.length
 |[],made=>by simp
 |t::ts,made=>by
  rw[cp,Gm ts]
  unfold vK
  rw[aw,aa,aD,fV]
  generalize 2 ^ ts.length=a
  rw[fD];congr 1;omega
theorem xf{α:Type}{ts:List α}(h:ts.length<=6):(nH ts).length<=64:=by
 unfold nH
 rw[Gm]
 have:2 ^ ts.length<=2 ^ 6:=dw (by decide) h
 simpa using this
def TF(H:Hp)(ls:List ag)(cs:List (List ag)):Prop:=ls.length=cs.length/\∀(j:Nat) (l:ag) (c:List ag),ls[j]? =some l->cs[j]? =some c->H l=some (.lst (c.map V.ref))
abbrev OR:List Str:=["cells","most"]
inductive Vg (CB:ag) (H:Hp) (a:ag) (cs:List Nat) (mo:Int):Prop
 |mk (dx cl:ag):H a=some (.ins CB dx (OR.zip [.ref cl,.int mo]))->H cl=some (.lst (nV cs))->Vg CB H a cs mo
theorem Vg.same{CB:ag}{H H':Hp}{a:ag}{cs:List Nat}{mo:Int}(h:Vg CB H a cs mo)(sm:m5 H H'):Vg CB H' a cs mo:=let⟨d,cl,e1,e2⟩:=h;⟨d,cl,sm _ _ e1,sm _ _ e2⟩
def Gn(CB:ag)(H:Hp)(ks:List ag)(E m:Nat)(Ls:List (List aJ)):Prop:=ks.length=Ls.length/\∀(j:Nat) (a:ag) (L:List aJ),ks[j]? =some a->Ls[j]? =some L->Vg CB H a (p_ m L) (((E:Nat):Int)-((rO L:Nat):Int))
theorem Gn.same{CB:ag}{H H':Hp}{ks:List ag}{E m:Nat}{Ls:List (List aJ)}(h:Gn CB H ks E m Ls)(sm:m5 H H'):Gn CB H' ks E m Ls:=⟨h.1,λ j a L e1 e2=>(h.2 j a L e1 e2).same sm⟩
def ZAt(CT:ag)(H:Hp)(zs:List (ag×aJ)):Prop:=∀z∈zs,rX CT H z.1 z.2
theorem ZAt.same{CT:ag}{H H':Hp}{zs:List (ag×aJ)}(h:ZAt CT H zs)(sm:m5 H H'):ZAt CT H' zs:=λ z hz=>(h z hz).same sm
theorem Rn{CT:ag}{H:Hp}{bs:List ag}{ts:List aJ}(h:DP CT H bs ts):ZAt CT H (bs.zip ts)/\(bs.zip ts).map (·.1)=bs/\(bs.zip ts).map (·.2)=ts:=by
 refine⟨λ z hz=>?_,List.map_fst_zip (by rw[h.1];exact ax _),kZ (by rw[h.1];exact ax _)⟩
 obtain⟨i,hi,e⟩:=cy hz
 have e':(bs.zip ts)[i]? =some z:=by rw[af hi,e]
 obtain⟨e1,e2⟩:=List.getElem?_zip_eq_some.mp e'
 exact h.2 i z.1 z.2 e1 e2
theorem Kd(L:List aJ)(c:Nat):(L.flatMap λ t=>t.cells).contains c=ur L c:=by
 unfold ur
 rw[du,dk,List.mem_flatMap,dI]
 constructor
 ·rintro⟨t,h1,h2⟩;exact⟨t,h1,List.contains_iff_mem.mpr h2⟩
 ·rintro⟨t,h1,h2⟩;exact⟨t,h1,List.contains_iff_mem.mp h2⟩
theorem Jk:∀(L:List aJ),(∀t∈L,t.cells.length<=16)->(L.flatMap λ t=>t.cells).length<=16*L.length
 |[],_=>ax _
 |t::L,h=>by
  rw[eV,aw,aD]
  have h1:=h t (by simp)
  have h2:=Jk L λ x hx=>h x (by simp[hx])
  omega
theorem OS:m7 ["self","cells","most"] ["self","cells","most"] (mZ Co):=qf
theorem OT{f C:ag}{fd:bP}(F:pG K "__init__" "Bound.__init__" Co f fd)(cl:G4 K C)(na:∀g∈OR,oA K C g):nO P w K mg base oE 1 f fd ["self","cells","most"] (FO C OR):=by
 refine F.ok OS (λ vs H Q E h=>?_) (λ oU A outer s H vs Q E hr h=>?_)
 ·obtain⟨x,dx,args,rfl,hl,_⟩:=h
  rw[aD,hl];rfl
 ·obtain⟨x,dx,args,rfl,hl,hx,k⟩:=h
  match args,hl with
  |[a,b],_=>
   have n1:=na "cells" (by simp)
   have n2:=na "most" (by simp)
   refine⟨_,mV (pS (pv 0) (pv 1) rfl) (m4 (pS (pv 0) (pv 2) rfl)),?_⟩
   refine⟨_,rfl,_,rfl,x,C,dx,_,rfl,hx,cl,n1,(by show 0<1000;decide),_,rfl,_,rfl,x,C,dx,_,rfl,mX,cl,n2,(by show 1<1000;decide),?_⟩
   refine k _ mX λ b o e hb=>?_
   rw[mY hb,mY hb];exact e
inductive Hk (CB:ag) (vs:List V) (H:Hp) (Q:VK) (Ex:XK):Prop
 |mk (a b:ag) (cs:List Nat) (mo:Int) (row:List Nat):vs=[.ref a,.ref b]->Vg CB H a cs mo->H b=some (.lst (nV row))->(∀c∈cs,c<row.length)->cs.length<=16->(∀H',m5 H H'->Q (.int (mo-((aY (cs.map λ c=>row.getD c 0):Nat):Int))) H')->Hk CB vs H Q Ex
abbrev Gp:List Str:=["self","row","cell"]
theorem Ed:m7 Gp ["self","row"] (mZ wt):=qf
theorem MF(F:pG K "spare" "Bound.spare" wt f fd)(qN:Rec P w K mg base "Bound" CB OR)(xK:mg "sum"=none):nO P w K mg base oE 1 f fd ["self","row"] (Hk CB):=by
 refine F.ok Ed (λ vs H Q E h=>?_) (λ oU A outer s H vs Q E hr h=>?_)
 ·obtain⟨a,b,cs,mo,row,rfl,_⟩:=h
  rfl
 ·obtain⟨a,b,cs,mo,row,rfl,⟨dx,cl,h1,h2⟩,hb,hc,GX,k⟩:=h
  have nd:=Ed.nd
  refine⟨_,(m4 (m9 (og sF (m_ (pv 0) rfl) (nJ (B0 rfl) rfl xK iJ (mU (qp (own:=[("cell",2)]) rfl nd (oJ (m_ (pv 0) rfl)) (by exact pz.of (N:=Gp) (sc:=mZ wt) (by decide +kernel)) (λ _ _ _ _ _=>by exact(nr (i:=2) nd rfl (Or.inl rfl))) (λ _ _ _ _ _=>by exact oP) (λ _ _ _ _ _=>by exact(tX K (pv 1) (pv 2)))) mW))))),?_⟩
  refine⟨_,rfl,a,CB,dx,_,_,rfl,h1,qN.cl,qN.na "most" (by simp),rfl,_,rfl,a,CB,dx,_,_,rfl,h1,qN.cl,qN.na "cells" (by simp),rfl,cl,rfl,⟨_,nA.of h2⟩,?_⟩
  refine oV (oQ (K:=K) (xs:=nV cs) (nA.of h2)) (nV (cs.map λ c=>row.getD c 0)) (by rw[m8,m8,aa]) (by rw[m8,aA];omega) (λ j x y H3 R3 N3 hy pE hF kk=>?_) (λ D H3 hD pE uC=>?_)
  ·obtain⟨c,q,rfl⟩:=oq hF
   obtain⟨v,q2,rfl⟩:=oq hy
   rw[ak,q]at q2
   have q2:row.getD c 0=v:=Option.some.inj q2
   subst q2
   have gd:=getD_at (hc c (aC q))
   exact⟨rfl,sy ⟨_,rfl,_,rfl,b,_,_,_,rfl,rfl,nA.of (pE _ _ hb),oo (oR gd),kk H3 (m5.refl _)⟩⟩
  ·refine⟨D,(cs.map λ c=>row.getD c 0).map (λ(n:Nat)=>(n:Int)),rfl,nA.of (by rw[uC,uq];rfl),?_⟩
   rw[tK]
   exact⟨_,_,rfl,rfl,k H3 pE⟩
inductive xg (vs:List V) (H:Hp) (Q:VK) (Ex:XK):Prop
 |mk (p:ag) (bs:List ag):vs=[.ref p]->H p=some (.lst (bs.map V.ref))->bs.length<=6->(∀H' D ls,m5 H H'->H D=none->H' D=some (.lst (ls.map V.ref))->TF H' ls (nH bs)->(∀l∈ls,H l=none)->Q (.ref D) H')->xg vs H Q Ex
abbrev Ee:List Str:=["teams","made","team","choice"]
theorem BR:m7 Ee ["teams"] (mZ uK):=qf
theorem Ke(F:pG K "team_choices" "team_choices" uK f fd):nO P w K mg base oE 1 f fd ["teams"] xg:=by
 refine F.ok BR (λ vs H Q E h=>?_) (λ oU A outer s H vs Q E hr h=>?_)
 ·obtain⟨p,bs,rfl,_⟩:=h
  rfl
 ·obtain⟨p,bs,rfl,hp,h6,k⟩:=h
  have nd:=BR.nd
  refine⟨_,(mV (m6 (i:=1) nd rfl (Or.inl rfl) (nN (mU (nN mW) mW)))
   (mV (qw PassesOwn.never rfl (oJ (pv 0)) (nr (i:=2) nd rfl (Or.inr rfl)) (m4 (m6 (i:=1) nd rfl (Or.inl rfl) (og qT (pv 1) (qp (own:=[("choice",3)]) rfl nd (oJ (pv 1)) (by exact pz.of (N:=Ee) (sc:=mZ uK) (by decide +kernel)) (λ _ _ _ _ _=>by exact(nr (i:=3) nd rfl (Or.inl rfl))) (λ _ _ _ _ _=>by exact oP) (λ _ _ _ _ _=>by exact(og qT (pv 3) (nN (mU (pv 2) mW)))))))))
   (m4 (m9 (pv 1))))),?_⟩
  refine⟨aE _,λ e0 he0=>⟨(by show 1<=ay;decide),λ D0 hD0=>?_⟩⟩
  have s1:m5 H (upd H e0 (.lst [])):=m5.new he0
  have n0:e0≠D0:=λ q=>by rw[<-q,mX]at hD0;cases hD0
  have s2:=s1.put (o:=.lst [V.ref e0]) (none_of s1 hD0)
  refine⟨_,rfl,p,rfl,⟨_,nA.of (s2 _ _ hp)⟩,rg (K:=K) (a:=p) (xs:=bs.map V.ref) (λ i σ H'=>∃(v:Option V) (D:ag) (ls:List ag),σ=[some (.ref p),some (.ref D),v,none]/\m5 H H'/\H D=none/\H' D=some (.lst (ls.map V.ref))/\TF H' ls (nH (bs.take i))/\∀l∈ls,H l=none)
   ⟨none,D0,[e0],rfl,s2,none_of s1 hD0,mX,⟨rfl,λ j l c q1 q2=>?_⟩,λ l hl=>by rw[show l=e0 by simpa using hl];exact he0⟩ (λ i σ H' _ ⟨_,_,_,_,sm,_⟩=>nA.of (sm _ _ hp)) ?_ ?_⟩
  ·have ej:j=0:=by
    have:=(List.getElem?_eq_some_iff.mp q1).1
    simp at this;exact this
   subst ej
   cases q1
   cases q2
   rw[mY n0,mX];rfl
  ·rintro i x σ H' hx ⟨v,D,ls,rfl,sm,hD,ZV,hL,JT⟩
   rw[ak]at hx
   cases qb:bs[i]? with
   |none=>rw[qb]at hx;cases hx
   |some b=>
    rw[qb]at hx;cases hx
    have hi:i<bs.length:=(List.getElem?_eq_some_iff.mp qb).1
    have ht:(bs.take i).length<=6:=by rw[bX];omega
    have l64:=xf ht
    refine⟨_,rfl,_,rfl,D,rfl,⟨_,nA.of ZV⟩,?_⟩
    refine QP (oQ (K:=K) (xs:=ls.map V.ref) (nA.of ZV)) (λ j=>.lst (((nH (bs.take i)).getD j []++[b]).map V.ref)) (by rw[aa,hL.1,aA];omega) (λ j y H3 R3 N3 hj pE hF kk=>?_) (λ N H3 ns hN pE hN3 hlen WB=>?_)
    ·rw[ak]at hF
     cases ql:ls[j]? with
     |none=>rw[ql]at hF;cases hF
     |some l=>
      rw[ql]at hF;cases hF
      have Y7:j<(nH (bs.take i)).length:=by rw[<-hL.1];exact(List.getElem?_eq_some_iff.mp ql).1
      have qc:(nH (bs.take i))[j]? =some ((nH (bs.take i)).getD j []):=by rw[aB,af Y7];rfl
      have hl:=hL.2 j l _ ql qc
      have cl:((nH (bs.take i)).getD j []).length<=6:=aV (BQ (aC qc)).length_le ht
      refine⟨rfl,sy ⟨_,rfl,_,rfl,(by show 1<=ay;decide),λ tl htl=>?_⟩⟩
      have s4:m5 H3 (upd H3 tl (.lst [V.ref b])):=m5.new htl
      refine⟨l,tl,_,_,rfl,rfl,s4 _ _ (pE _ _ hl),mX,(by rw[aa,aA];show _+1<=_;omega),λ q hq=>?_⟩
      refine kk q _ (s4.put (none_of s4 hq)) (none_of s4 hq) ?_
      rw[mX,aF];rfl
    ·rw[aa]at hlen
     have nDN:D≠N:=λ q=>by rw[<-q,ZV]at hN;cases hN
     refine⟨D,N,_,_,rfl,rfl,pE _ _ ZV,hN3,(by rw[aa,aa,hlen,hL.1,aA];omega),λ M hM=>?_⟩
     have s5:=sm.trans pE
     refine⟨_,M,ls++ns,rfl,s5.put (none_of s5 hM),none_of s5 hM,by rw[mX,aF],?_,λ l hl=>(List.mem_append.mp hl).elim (JT l) λ z=>by
      obtain⟨j,hj,e⟩:=cy z
      exact none_of sm (WB j l (by rw[af hj,e])).1⟩
     have ec:nH (bs.take (i+1))=nH (bs.take i)++(nH (bs.take i)).map λ L=>L++[b]:=by
      rw[b8,qb];exact ME _ _
     rw[ec]
     refine⟨by rw[aw,aw,aa,hlen,hL.1],λ j l c q1 q2=>?_⟩
     have Mn:∀a o,H3 a=some o->a≠M:=λ a o e q=>by rw[q,hM]at e;cases e
     by_cases hj:j<ls.length
     ·rw[bp hj]at q1
      rw[bp (by rw[<-hL.1];exact hj)]at q2
      have z:=pE _ _ (hL.2 j l c q1 q2)
      rw[mY (Mn _ _ z)];exact z
     ·rw[bf (by omega)]at q1
      rw[bf (by rw[<-hL.1];omega),<-hL.1,ak]at q2
      have z:=(WB _ l q1).2
      rw[mY (Mn _ _ z),z]
      cases qq:(nH (bs.take i))[j-ls.length]? with
      |none=>rw[qq]at q2;cases q2
      |some c0=>
       rw[qq]at q2
       have q2:c0++[b]=c:=Option.some.inj q2
       rw[aB,qq,<-q2];rfl
  ·rintro σ H' ⟨v,D,ls,rfl,sm,hD,ZV,hL,JT⟩
   rw[aa,dj]at hL
   exact⟨_,rfl,k H' D ls sm hD ZV hL JT⟩
inductive wH (CT:ag) (vs:List V) (H:Hp) (Q:VK) (Ex:XK):Prop
 |mk (p:ag) (zs:List (ag×aJ)):vs=[.ref p]->H p=some (.lst ((zs.map (·.1)).map V.ref))->ZAt CT H zs->zs.length<=6->(∀H',m5 H H'->Q (.int (rO (zs.map (·.2)):Nat)) H')->wH CT vs H Q Ex
abbrev Jl:List Str:=["teams","team"]
theorem Gq:m7 Jl ["teams"] (mZ yd):=qf
theorem OU(F:pG K "efforts_of" "efforts_of" yd f fd)(qm:Rec P w K mg base "Team" CT J8)(xK:mg "sum"=none):nO P w K mg base oE 1 f fd ["teams"] (wH CT):=by
 refine F.ok Gq (λ vs H Q E h=>?_) (λ oU A outer s H vs Q E hr h=>?_)
 ·obtain⟨p,zs,rfl,_⟩:=h
  rfl
 ·obtain⟨p,zs,rfl,hp,hz,h6,k⟩:=h
  have nd:=Gq.nd
  refine⟨_,(m4 (m9 (nJ (B0 rfl) rfl xK iJ (mU (qp (own:=[("team",1)]) rfl nd (oJ (pv 0)) (by exact pz.of (N:=Jl) (sc:=mZ yd) (by decide +kernel)) (λ _ _ _ _ _=>by exact(nr (i:=1) nd rfl (Or.inl rfl))) (λ _ _ _ _ _=>by exact oP) (λ _ _ _ _ _=>by exact(xY K (pv 1)))) mW)))),?_⟩
  refine⟨_,rfl,p,rfl,⟨_,nA.of hp⟩,?_⟩
  refine oV (oQ (K:=K) (xs:=(zs.map (·.1)).map V.ref) (nA.of hp)) (nV ((zs.map (·.2)).map λ t=>t.efforts)) (by rw[m8,aa,aa,aa,aa]) (by rw[aa,aa,aA];omega) (λ j x y H3 R3 N3 hy pE hF kk=>?_) (λ D H3 hD pE uC=>?_)
  ·obtain⟨v,q2,rfl⟩:=oq hy
   rw[ak,ak]at hF q2
   cases qz:zs[j]? with
   |none=>rw[qz]at hF;cases hF
   |some z=>
    rw[qz]at hF q2
    cases hF;cases q2
    obtain⟨dx,ml,e1,e2,e3⟩:=hz z (aC qz)
    exact⟨rfl,sy ⟨_,rfl,z.1,CT,dx,_,_,rfl,pE _ _ e1,qm.cl,qm.na "efforts" (by simp),rfl,kk H3 (m5.refl _)⟩⟩
  ·refine⟨D,((zs.map (·.2)).map λ t=>t.efforts).map (λ(n:Nat)=>(n:Int)),rfl,nA.of (by rw[uC,uq];rfl),?_⟩
   rw[tK]
   exact k H3 pE
inductive yP (CT CB:ag) (vs:List V) (H:Hp) (Q:VK) (Ex:XK):Prop
 |mk (p:ag) (zs:List (ag×aJ)) (m:Nat):vs=[.ref p,.int (m:Nat)]->H p=some (.lst ((zs.map (·.1)).map V.ref))->ZAt CT H zs->zs.length<=6->m<=16->(∀z∈zs,z.2.cells.length<=16)->(∀H' q ks,m5 H H'->H q=none->H' q=some (.lst (ks.map V.ref))->Gn CB H' ks (rO (zs.map (·.2))) m (nH (zs.map (·.2)))->Q (.ref q) H')->yP CT CB vs H Q Ex
abbrev Lj:List Str:=["teams","many_cells","bounds","left_out","reached","team","cells","cell"]
theorem Jm:m7 Lj ["teams","many_cells"] (mZ Bg):=qf
theorem Ro(F:pG K "bounds_of" "bounds_of" Bg f fd)(qm:Rec P w K mg base "Team" CT J8)(vL:rA P w K mg base oE 1 "team_choices" ["teams"] xg)(qM:mg "range"=none)(qN:Rec P w K mg base "Bound" CB OR)(qj:rA P w K mg base oE 1 "efforts_of" ["teams"] (wH CT)):nO P w K mg base oE 3 f fd ["teams","many_cells"] (yP CT CB):=by
 refine F.ok Jm (λ vs H Q E h=>?_) (λ oU A outer s H vs Q E hr h=>?_)
 ·obtain⟨p,zs,m,rfl,_⟩:=h
  rfl
 ·obtain⟨p,zs,m,rfl,hp,hz,h6,GX,hzc,k⟩:=h
  have nd:=Jm.nd
  refine⟨_,(mV (m6 (i:=2) nd rfl (Or.inl rfl) (nN mW))
   (mV (qw PassesOwn.never rfl (oJ (nq (E:=E0) vL hr (by decide) nj (mU (pv 0) mW))) (nr (i:=3) nd rfl (Or.inl rfl)) (mV (m6 (i:=4) nd rfl (Or.inr rfl) (nN mW))
   (mV (qw PassesOwn.never rfl (oJ (pv 3)) (nr (i:=5) nd rfl (Or.inl rfl)) (m4 (nZ (qQ aG cU cT vb (pv 4) (mU (m_ (pv 5) rfl) mW)))))
   (mV (zV (i:=6) (own:=[("cell",7)]) rfl nd rfl rfl rfl (xB rfl qM (mU (pv 1) mW)) (by exact pz.of (N:=Lj) (sc:=mZ Bg) (by decide +kernel)) (λ _ _ _ _ _=>by exact(nr (i:=7) nd rfl (Or.inl rfl))) (λ _ _ _ _ _=>by exact(LP (om (UZ K) (pv 7) (pv 4) (by with_unfolding_all rfl)))) (λ _ _ _ _ _=>by exact(pv 7)))
   (m4 (nZ (qQ aG a_ a0 pD (pv 2) (mU (vx qN hr (by decide) (mU (pv 6) (mU (og sF (nq (E:=E0) qj hr (by decide) nj (mU (pv 0) mW)) (nq (E:=E0) qj hr (by decide) nj (mU (pv 3) mW))) mW))) mW))))))))
   (m4 (m9 (pv 2))))),?_⟩
  have c64:=xf (ts:=zs) h6
  refine⟨aE _,λ bd hbd=>?_⟩
  have s1:m5 H (upd H bd (.lst [])):=m5.new hbd
  refine⟨_,rfl,p,zs.map (·.1),rfl,s1 _ _ hp,by rw[aa];exact h6,λ H2 ch ls s2 PU adS Y8 JT=>?_⟩
  have vE:=s1.trans s2
  rw[xc]at Y8
  have lls:ls.length=(nH zs).length:=by rw[Y8.1,aa]
  refine⟨ch,rfl,⟨_,nA.of adS⟩,rg (K:=K) (a:=ch) (xs:=ls.map V.ref) (λ i σ H'=>∃(v3 v4 v5 v6:Option V) (ks:List ag),σ=[some (.ref p),some (.int (m:Nat)),some (.ref bd),v3,v4,v5,v6,none]/\m5 H H'/\(∀b o,H2 b=some o->b≠bd->H' b=some o)/\H' bd=some (.lst (ks.map V.ref))/\Gn CB H' ks (rO (zs.map (·.2))) m ((nH (zs.map (·.2))).take i)/\ks.length=i)
   ⟨none,none,none,none,[],rfl,vE,λ b o e _=>e,s2 _ _ mX,⟨rfl,λ j a L q=>by simp at q⟩,rfl⟩ (λ i σ H' _ ⟨_,_,_,_,_,_,_,s',_⟩=>nA.of (s' _ _ adS (λ q=>by rw[q,mX]at PU;cases PU))) ?_ ?_⟩
  ·rintro i x σ H' hx ⟨v3,v4,v5,v6,ks,rfl,sm,wc,hB,hK,hkl⟩
   rw[ak]at hx
   cases ql:ls[i]? with
   |none=>rw[ql]at hx;cases hx
   |some l=>
    rw[ql]at hx;cases hx
    have hi:i<(nH zs).length:=by rw[<-lls];exact(List.getElem?_eq_some_iff.mp ql).1
    have qc:(nH zs)[i]? =some ((nH zs)[i]):=af hi
    generalize hC:(nH zs)[i]=C at qc
    have aao:C.Sublist zs:=BQ (aC qc)
    have Cl:C.length<=6:=aV aao.length_le h6
    have Nm:H2 l=some (.lst ((C.map (·.1)).map V.ref)):=Y8.2 i l _ ql (by rw[ak,qc];rfl)
    have nlb:l≠bd:=λ q=>by
     have:=JT l (aC ql)
     rw[q,mX]at this;cases this
    have GS:=wc _ _ Nm nlb
    have zC:ZAt CT H C:=λ z VU=>hz z (aao.subset VU)
    refine⟨aE _,λ rc hrc=>?_⟩
    refine⟨_,rfl,l,rfl,⟨_,nA.of (m5.new hrc _ _ GS)⟩,rg (K:=K) (a:=l) (xs:=(C.map (·.1)).map V.ref) (λ j σ H''=>∃(v5:Option V),σ=[some (.ref p),some (.int (m:Nat)),some (.ref bd),some (.ref l),some (.ref rc),v5,v6,none]/\m5 H' H''/\H'' rc=some (.lst (nV ((C.take j).flatMap λ z=>z.2.cells))))
     ⟨v5,rfl,m5.new hrc,mX⟩ (λ i σ H' _ ⟨_,_,s',_⟩=>nA.of (s' _ _ GS)) ?_ ?_⟩
    ·rintro j x σ H3 hx ⟨v5',rfl,s3,h3⟩
     rw[ak,ak]at hx
     cases qz:C[j]? with
     |none=>rw[qz]at hx;cases hx
     |some z=>
      rw[qz]at hx;cases hx
      have zm:=aao.subset (aC qz)
      obtain⟨dx,ml,e1,e2,e3⟩:=hz z zm
      have pE:=sm.trans s3
      have fl:((C.take j).flatMap λ z=>z.2.cells).length<=96:=by
       have:=Jk ((C.take j).map (·.2)) λ t ht=>by
        obtain⟨y,hy,rfl⟩:=List.mem_map.mp ht
        exact hzc y (aao.subset (j7 hy))
       rw[aa,bX,k8]at this
       omega
      refine⟨_,rfl,.inl ⟨rfl,_,nA.of h3⟩,_,rfl,z.1,CT,dx,_,_,rfl,pE _ _ e1,qm.cl,qm.na "cells" (by simp),rfl,rc,ml,_,_,rfl,rfl,h3,pE _ _ e2,?_,?_⟩
      ·rw[m8,m8,aA]
       have:=hzc z zm
       omega
      ·refine⟨_,rfl,s3.put hrc,?_⟩
       rw[mX,b8,qz,d_]
       unfold nV
       rw[aF];simp
    ·rintro σ H3 ⟨v5',rfl,s3,h3⟩
     rw[aa,aa,dj]at h3
     have eC:(C.flatMap λ z=>z.2.cells)=(C.map (·.2)).flatMap λ t=>t.cells:=by rw[k8]
     rw[eC]at h3
     refine⟨_,rfl,(m:Int),rfl,by omega,by omega,?_⟩
     refine XJ (tM 0 _) ((az m).map λ c=>if(!ur (C.map (·.2)) c)=true then some (V.int (c:Nat))else none) (by rw[aa,aQ];rfl) (by rw[aA];show m<=_;omega) (λ j x y H4 R4 N4 hy Nn hF kk kn=>?_) (λ cl H4 EE s4 ae4=>?_)
     ·have hj:j<m:=by
       have:=(List.getElem?_eq_some_iff.mp hy).1
       simpa using this
      rw[ak,bc hj]at hy
      have hy:(if(!ur (C.map (·.2)) j)=true then some (V.int (j:Nat))else none)=y:=Option.some.inj hy
      have e:(0:Int)+(j:Int)=(j:Int):=Int.zero_add _
      rw[e]at hF
      subst hF
      refine⟨rfl,⟨_,rfl,_,rfl,rc,_,rfl,.inl (nA.of (Nn _ _ h3)),rfl,(by rw[cJ];exact List.all_eq_true.mpr λ _ _=>rfl),_,rfl,?_⟩⟩
      rw[show(if true=true then !G7 (.int (j:Nat)) (nV ((C.map (·.2)).flatMap λ t=>t.cells))else G7 (.int (j:Nat)) (nV ((C.map (·.2)).flatMap λ t=>t.cells)))= !ur (C.map (·.2)) j from by rw[if_pos rfl,DM,Kd]]
      refine p8 (λ hq=>?_) λ hq=>?_
      ·rw[if_pos hq]at hy
       exact⟨_,rfl,kk _ hy.symm H4 (m5.refl _)⟩
      ·rw[if_neg hq]at hy
       exact kn hy.symm H4 (m5.refl _)
     have ecl:H4 cl=some (.lst (nV (p_ m (C.map (·.2))))):=by
      rw[ae4]
      congr 2
      unfold p_ nV
      have:∀l:List Nat,(l.map λ c=>if(!ur (C.map (·.2)) c)=true then some (V.int (c:Nat))else none).filterMap id=(l.filter λ c=> !ur (C.map (·.2)) c).map λ(c:Nat)=>V.int (c:Nat):=λ l=>by
       induction l with
       |nil=>rfl
       |cons a l ih=>
        rw[aH,fo]
        by_cases h:(!ur (C.map (·.2)) a)=true
        ·rw[if_pos h,if_pos h,aH,<-ih];rfl
        ·rw[if_neg h,if_neg h,<-ih];rfl
      exact this _
     have Za:=s3.trans s4
     have sH4:=sm.trans Za
     have Xg:=Za _ _ hB
     refine⟨_,rfl,.inl ⟨rfl,_,nA.of Xg⟩,_,rfl,_,rfl,p,zs,rfl,sH4 _ _ hp,hz.same sH4,h6,λ H5 s5=>?_⟩
     refine⟨_,rfl,l,C,rfl,s5 _ _ (Za _ _ GS),zC.same (sH4.trans s5),Cl,λ H6 s6=>?_⟩
     refine⟨_,_,rfl,rfl,rfl,λ bo dxb H7 hbo ae5 s7=>?_⟩
     have s57:=s5.trans (s6.trans s7)
     have hB7:=s57 _ _ Xg
     have nbb:bo≠bd:=λ q=>by rw[q,s6 _ _ (s5 _ _ Xg)]at hbo;cases hbo
     have ncb:cl≠bd:=λ q=>by rw[q,s3 _ _ hB]at EE;cases EE
     refine⟨bd,_,_,rfl,rfl,hB7,(by rw[aa,aA];omega),?_⟩
     refine⟨_,_,_,_,ks++[bo],rfl,(sH4.trans s57).put hbd,λ b o e nb=>?_,by rw[mX,aF];rfl,?_,by rw[aw,hkl];rfl⟩
     ·rw[mY nb];exact s57 _ _ (Za _ _ (wc _ _ e nb))
     ·have ec:(nH (zs.map (·.2)))[i]? =some (C.map (·.2)):=by rw[xc,ak,qc];rfl
      rw[b8,ec]
      refine⟨by rw[aw,hK.1,aw];rfl,λ j a L q1 q2=>?_⟩
      by_cases hj:j<ks.length
      ·rw[bp hj]at q1
       rw[bp (by rw[<-hK.1];exact hj)]at q2
       obtain⟨d1,c1,z1,z2⟩:=hK.2 j a L q1 q2
       have na:a≠bd:=λ q=>by rw[q,hB]at z1;cases z1
       by_cases nc:c1=bd
       ·
        rw[nc,hB]at z2
        have z3:ks.map V.ref=nV (p_ m L):=by injection z2 with z2;injection z2
        have q0:ks[0]? =some (ks[0]'(by omega)):=af _
        have z4:(nV (p_ m L))[0]? =some (V.ref (ks[0]'(by omega))):=by rw[<-z3,ak,q0];rfl
        obtain⟨_,_,z5⟩:=oq z4
        cases z5
       ·exact⟨d1,c1,by rw[mY na];exact s57 _ _ (Za _ _ z1),by rw[mY nc];exact s57 _ _ (Za _ _ z2)⟩
      ·rw[bf (by omega)]at q1
       rw[bf (by rw[<-hK.1];omega),<-hK.1]at q2
       have ej:j-ks.length=0:=by
        have:=(List.getElem?_eq_some_iff.mp q1).1
        simp at this;omega
       rw[ej]at q1 q2
       cases q1
       have eL:C.map (·.2)=L:=Option.some.inj q2
       rw[<-eL]
       exact⟨dxb,cl,by rw[mY nbb];exact ae5,by rw[mY ncb];exact s57 _ _ ecl⟩
  ·rintro σ H' ⟨v3,v4,v5,v6,ks,rfl,sm,wc,hB,hK,hkl⟩
   have e:(nH (zs.map (·.2))).take (ls.map V.ref).length=nH (zs.map (·.2)):=cu (by rw[aa,lls,xc,aa];exact ax _)
   rw[e]at hK
   exact⟨_,rfl,k H' bd ks sm hbd hB hK⟩
def spB(E m:Nat)(L:List aJ)(row:List Nat):Int:=((E:Nat):Int)-((rO L:Nat):Int)-((aY ((p_ m L).map λ c=>row.getD c 0):Nat):Int)
def yQ(E m:Nat)(row:List Nat)(c:Nat)(L:List aJ):Bool:=decide (spB E m L row=0) && (p_ m L).contains c
def sQ(E m:Nat)(Ls:List (List aJ))(row:List Nat)(c:Nat):Bool:=Ls.all λ L=> !yQ E m row c L
theorem Fu{m:Nat}{L:List aJ}{c:Nat}(h:c∈p_ m L):c<m:=List.mem_range.mp (List.mem_filter.mp h).1
theorem Jn(m:Nat)(L:List aJ):(p_ m L).length<=m:=by
 have:=List.length_filter_le (λ c=> !ur L c) (az m)
 rw[aQ]at this;exact this
theorem X3{α:Type}(p:α->Bool)(l:List α)(x:α):(l++[x]).all p=(l.all p && p x):=by
 rw[List.all_append];simp
theorem Vh(p:Nat->Bool)(l:List Nat):(l.map λ c=>if p c=true then some (V.int (c:Nat))else none).filterMap id=nV (l.filter p):=by
 unfold nV
 induction l with
 |nil=>rfl
 |cons a l ih=>
  rw[aH,fo]
  by_cases h:p a=true
  ·rw[if_pos h,if_pos h,aH,<-ih];rfl
  ·rw[if_neg h,if_neg h,<-ih];rfl
inductive Fv (CB:ag) (vs:List V) (H:Hp) (Q:VK) (Ex:XK):Prop
 |mk (q b:ag) (ks:List ag) (E m:Nat) (Ls:List (List aJ)) (row:List Nat):vs=[.ref q,.ref b]->H q=some (.lst (ks.map V.ref))->Gn CB H ks E m Ls->H b=some (.lst (nV row))->row.length=m->m<=16->Ls.length<=64->(∀H',m5 H H'->Q (.bl (Ls.all λ L=>decide (0<=spB E m L row))) H')->Fv CB vs H Q Ex
abbrev OV:List Str:=["bounds","row","bound"]
theorem Lk:m7 OV ["bounds","row"] (mZ DD):=qf
theorem Vi(F:pG K "can_make" "can_make" DD f fd)(cb:G4 K CB)(zJ:mg "all"=none)(Bu:um P w K mg base oE 1 CB "spare" ["self","row"] (Hk CB)):nO P w K mg base oE 2 f fd ["bounds","row"] (Fv CB):=by
 refine F.ok Lk (λ vs H Q E h=>?_) (λ oU A outer s H vs Q E hr h=>?_)
 ·obtain⟨q,b,ks,E,m,Ls,row,rfl,_⟩:=h
  rfl
 ·obtain⟨q,b,ks,E,m,Ls,row,rfl,hq,hB,hb,hm,GX,h64,k⟩:=h
  have nd:=Lk.nd
  have MG:=cb
  refine⟨_,(m4 (m9 (nJ (B_ rfl) rfl zJ iK (mU (qp (own:=[("bound",2)]) rfl nd (oJ (pv 0)) (by exact pz.of (N:=OV) (sc:=mZ DD) (by decide +kernel)) (λ _ _ _ _ _=>by exact(nr (i:=2) nd rfl (Or.inl rfl))) (λ _ _ _ _ _=>by exact oP) (λ _ _ _ _ _=>by exact(rP ac5 (pO (E:=E0) Bu MG hr (by decide) nj (pv 2) (mU (pv 1) mW)) nM (oH _)))) mW)))),?_⟩
  refine⟨_,rfl,q,rfl,⟨_,nA.of hq⟩,?_⟩
  refine oV (oQ (K:=K) (xs:=ks.map V.ref) (nA.of hq)) (Ls.map λ L=>V.bl (decide (0<=spB E m L row))) (by rw[aa,aa,hB.1]) (by rw[aa,hB.1,aA];omega) (λ j x y H3 R3 N3 hy pE hF kk=>?_) (λ D H3 hD pE uC=>?_)
  ·rw[ak]at hF hy
   cases q1:ks[j]? with
   |none=>rw[q1]at hF;cases hF
   |some a=>
    cases q2:Ls[j]? with
    |none=>rw[q2]at hy;cases hy
    |some L=>
     rw[q1]at hF;rw[q2]at hy
     cases hF;cases hy
     obtain⟨dx,cl,e1,e2⟩:=(hB.2 j a L q1 q2).same pE
     refine⟨rfl,sy ⟨_,rfl,a,dx,_,rfl,e1,rfl,_,rfl,a,b,_,_,row,rfl,⟨dx,cl,e1,e2⟩,pE _ _ hb,λ c hc=>by rw[hm];exact Fu hc,aV (Jn m L) GX,λ H4 s4=>⟨_,_,rfl,rfl,kk H4 s4⟩⟩⟩
  ·refine⟨D,Ls.map λ L=>decide (0<=spB E m L row),rfl,nA.of (by rw[uC,aW];rfl),?_⟩
   rw[cJ]
   exact k H3 pE
inductive wI (CB:ag) (vs:List V) (H:Hp) (Q:VK) (Ex:XK):Prop
 |mk (q b:ag) (ks:List ag) (E m:Nat) (Ls:List (List aJ)) (row:List Nat):vs=[.ref q,.ref b]->H q=some (.lst (ks.map V.ref))->Gn CB H ks E m Ls->H b=some (.lst (nV row))->row.length=m->m<=16->GW H Q (nV ((az m).filter (sQ E m Ls row)))->wI CB vs H Q Ex
abbrev C5:List Str:=["bounds","row","is_free","bound","cell","efforts"]
theorem Gr:m7 C5 ["bounds","row"] (mZ vt):=qf
theorem OW(F:pG K "free_cells" "free_cells" vt f fd)(qN:Rec P w K mg base "Bound" CB OR)(Bu:um P w K mg base oE 1 CB "spare" ["self","row"] (Hk CB))(qM:mg "range"=none)(o9:mg "len"=none):nO P w K mg base oE 2 f fd ["bounds","row"] (wI CB):=by
 refine F.ok Gr (λ vs H Q E h=>?_) (λ oU A outer s H vs Q E hr h=>?_)
 ·obtain⟨q,b,ks,E,m,Ls,row,rfl,_⟩:=h
  rfl
 ·obtain⟨q,b,ks,E,m,Ls,row,rfl,hq,hB,hb,hm,GX,k⟩:=h
  have nd:=Gr.nd
  have MG:=qN.cl
  refine⟨_,(mV (m6 (i:=2) nd rfl (Or.inr rfl) (qp (own:=[("efforts",5)]) rfl nd (oJ (pv 1)) (by exact pz.of (N:=C5) (sc:=mZ vt) (by decide +kernel)) (λ _ _ _ _ _=>by exact(nr (i:=5) nd rfl (Or.inl rfl))) (λ _ _ _ _ _=>by exact oP) (λ _ _ _ _ _=>by exact aaU)))
   (mV (qw PassesOwn.never rfl (oJ (pv 0)) (nr (i:=3) nd rfl (Or.inl rfl)) (m4 (pf (om ub (pO (E:=E0) Bu MG hr (by decide) nj (pv 3) (mU (pv 1) mW)) nM (oH _)) (m4 (qw PassesOwn.never rfl (oJ (m_ (pv 3) rfl)) (nr (i:=4) nd rfl (Or.inl rfl)) (m4 (abp aaU (abn (pv 2) (pv 4) set_list))))) nX)))
   (m4 (m9 (qp (own:=[("cell",4)]) rfl nd (xB rfl qM (mU (nJ nL rfl o9 aX (mU (pv 1) mW)) mW)) (by exact pz.of (N:=C5) (sc:=mZ vt) (by decide +kernel)) (λ _ _ _ _ _=>by exact(nr (i:=4) nd rfl (Or.inl rfl))) (λ _ _ _ _ _=>by exact(LP (tF (tX K (pv 2) (pv 4))))) (λ _ _ _ _ _=>by exact(pv 4))))))),?_⟩
  refine⟨_,rfl,b,rfl,⟨_,nA.of hb⟩,?_⟩
  refine oV (oQ (K:=K) (xs:=nV row) (nA.of hb)) ((az m).map λ c=>V.bl (sQ E m [] row c)) (by rw[aa,aQ,m8,hm]) (by rw[m8,aA];omega) (λ j x y H3 R3 N3 hy pE hF kk=>?_) (λ fr H1 JT s1 ae6=>?_)
  ·rw[ak]at hy
   cases q1:(az m)[j]? with
   |none=>rw[q1]at hy;cases hy
   |some c=>
    rw[q1]at hy
    cases hy
    exact⟨rfl,sy (kk H3 (m5.refl _))⟩
  refine⟨_,rfl,q,rfl,⟨_,nA.of (s1 _ _ hq)⟩,rg (K:=K) (a:=q) (xs:=ks.map V.ref) (λ i σ H'=>∃(v3 v4:Option V),σ=[some (.ref q),some (.ref b),some (.ref fr),v3,v4,none]/\m5 H H'/\H' fr=some (.lst ((az m).map λ c=>V.bl (sQ E m (Ls.take i) row c))))
   ⟨none,none,rfl,s1,ae6⟩ (λ i σ H' _ ⟨_,_,_,sm,_⟩=>nA.of (sm _ _ hq)) ?_ ?_⟩
  ·rintro i x σ H' hx ⟨v3,v4,rfl,sm,hF⟩
   rw[ak]at hx
   cases q1:ks[i]? with
   |none=>rw[q1]at hx;cases hx
   |some a=>
    rw[q1]at hx;cases hx
    have hi:i<Ls.length:=by rw[<-hB.1];exact(List.getElem?_eq_some_iff.mp q1).1
    have q2:Ls[i]? =some Ls[i]:=af hi
    generalize Ls[i]=L at q2
    have et:Ls.take (i+1)=Ls.take i++[L]:=by rw[b8,q2];rfl
    have ef:∀c,sQ E m (Ls.take (i+1)) row c=(sQ E m (Ls.take i) row c && !yQ E m row c L):=λ c=>by
     unfold sQ;rw[et,X3]
    obtain⟨dx,cl,e1,e2⟩:=(hB.2 i a L q1 q2).same sm
    refine⟨_,rfl,a,dx,_,rfl,e1,rfl,_,rfl,a,b,_,_,row,rfl,⟨dx,cl,e1,e2⟩,sm _ _ hb,λ c hc=>by rw[hm];exact Fu hc,aV (Jn m L) GX,λ H4 s4=>?_⟩
    have hF4:=s4 _ _ hF
    refine⟨rfl,_,rfl,p8 (λ hc=>?_) λ hc=>?_⟩
    ·have hc:spB E m L row=0:=V.int.inj (of_decide_eq_true hc)
     have tz:∀c,yQ E m row c L=(p_ m L).contains c:=λ c=>by unfold yQ;rw[decide_eq_true hc,fC]
     refine⟨_,rfl,a,CB,dx,_,_,rfl,s4 _ _ e1,qN.cl,qN.na "cells" (by simp),rfl,cl,rfl,⟨_,nA.of (s4 _ _ e2)⟩,rg (K:=K) (a:=cl) (xs:=nV (p_ m L)) (λ j σ H''=>∃(v4:Option V),σ=[some (.ref q),some (.ref b),some (.ref fr),some (.ref a),v4,none]/\m5 H H''/\H'' cl=some (.lst (nV (p_ m L)))/\H'' fr=some (.lst ((az m).map λ c=>V.bl (sQ E m (Ls.take i) row c && !((p_ m L).take j).contains c))))
      ⟨v4,rfl,sm.trans s4,s4 _ _ e2,by rw[hF4];simp⟩ (λ j σ H' _ ⟨_,_,_,z,_⟩=>nA.of z) ?_ ?_⟩
     ·rintro j x σ H5 hx ⟨v4',rfl,s5,aap,h5⟩
      obtain⟨c,qc,rfl⟩:=oq hx
      have ZD:=Fu (aC qc)
      have nfc:cl≠fr:=λ z=>by
       rw[z,h5]at aap
       have z3:((az m).map λ c=>V.bl (sQ E m (Ls.take i) row c && !((p_ m L).take j).contains c))=nV (p_ m L):=by injection aap with z2;injection z2
       have z4:=oR qc
       rw[<-z3,ak]at z4
       cases z5:(az m)[j]? with
       |none=>rw[z5]at z4;cases z4
       |some _=>rw[z5]at z4;cases z4
      refine⟨_,rfl,_,rfl,fr,_,_,c,rfl,rfl,h5,yy (by rw[aa,aQ];exact ZD),?_⟩
      refine⟨_,rfl,s5.put JT,by rw[mY nfc];exact aap,?_⟩
      rw[mX]
      congr 2
      apply bN
      intro n
      rw[dX,ak,ak,aa,aQ]
      have tk:((p_ m L).take (j+1)).contains n=(((p_ m L).take j).contains n || n == c):=by
       rw[b8,qc,du,gS,dk,dk,lx,beq_iff_eq];simp
      by_cases hn:n<m
      ·rw[bc hn]
       show _=some (V.bl (sQ E m (Ls.take i) row n && !((p_ m L).take (j+1)).contains n))
       rw[tk]
       by_cases e:c=n
       ·subst e
        rw[if_pos rfl,if_pos hn,beq_self_eq_true];simp
       ·rw[if_neg e,show(n == c)=false from beq_eq_false_iff_ne.mpr (Ne.symm e),lX];rfl
      ·have e:c≠n:=λ z=>hn (by omega)
       rw[if_neg e,aI (by rw[aQ];omega)];rfl
     ·rintro σ H5 ⟨v4',rfl,s5,aap,h5⟩
      rw[m8,dj]at h5
      refine⟨_,_,rfl,s5,?_⟩
      rw[h5]
      congr 2
      refine bO λ c _=>?_
      rw[ef,tz]
    ·have hc:¬ spB E m L row=0:=λ z=>hc (decide_eq_true (congrArg V.int z))
     refine⟨_,_,rfl,sm.trans s4,?_⟩
     rw[hF4]
     congr 2
     refine bO λ c _=>?_
     rw[ef]
     unfold yQ
     rw[decide_eq_false hc];simp
  ·rintro σ H' ⟨v3,v4,rfl,sm,hF⟩
   have e:Ls.take (ks.map V.ref).length=Ls:=cu (by rw[aa,hB.1];exact ax _)
   rw[e]at hF
   refine⟨_,rfl,b,_,rfl,.inl (nA.of (sm _ _ hb)),_,rfl,by omega,by rw[m8];omega,?_⟩
   have el:((nV row).length:Int).toNat=m:=by rw[m8];omega
   refine XJ (tM 0 _) ((az m).map λ c=>if sQ E m Ls row c=true then some (V.int (c:Nat))else none) (by rw[aa,aQ];exact el.symm) (by rw[el,aA];omega) (λ j x y H3 R3 N3 hy pE hx kk kn=>?_) (λ D H3 hD pE uC=>k H3 D (sm.trans pE) (none_of sm hD) (by rw[uC,Vh]))
   have hj:j<m:=by
    have:=(List.getElem?_eq_some_iff.mp hy).1
    simpa using this
   rw[ak,bc hj]at hy
   have hy:(if sQ E m Ls row j=true then some (V.int (j:Nat))else none)=y:=Option.some.inj hy
   have e0:(0:Int)+(j:Int)=(j:Int):=Int.zero_add _
   rw[e0]at hx
   subst hx
   have ae7:((az m).map λ c=>V.bl (sQ E m Ls row c))[j]? =some (V.bl (sQ E m Ls row j)):=by rw[ak,bc hj];rfl
   refine⟨rfl,⟨_,rfl,_,rfl,fr,_,_,_,rfl,rfl,nA.of (pE _ _ hF),oo ae7,_,rfl,p8 (λ hq=>?_) λ hq=>?_⟩⟩
   ·rw[if_pos hq]at hy
    exact⟨_,rfl,kk _ hy.symm H3 (m5.refl _)⟩
   ·rw[if_neg hq]at hy
    exact kn hy.symm H3 (m5.refl _)
theorem TH(p:Nat->Bool)(m:Nat):((az m).filter p).Pairwise (· < ·):=List.Pairwise.sublist ir jN
theorem X4{f:ae}{m:Nat}{row l:List Nat}(R:D_ m row l)(F:xR f l)(c:Nat):c∈(az m).filter (sQ (rO f.teams) m (nH f.teams) row)↔c<m/\xR f (c::l):=by
 rw[List.mem_filter,List.mem_range]
 constructor
 ·rintro⟨h1,h2⟩
  refine⟨h1,(OP R F h1).mpr λ L hL h0 hm=>?_⟩
  have:=List.all_eq_true.mp h2 L hL
  unfold yQ at this
  rw[decide_eq_true (show spB (rO f.teams) m L row=0 from h0),List.contains_iff_mem.mpr hm]at this
  cases this
 ·rintro⟨h1,h2⟩
  refine⟨h1,List.all_eq_true.mpr λ L hL=>?_⟩
  have:=(OP R F h1).mp h2 L hL
  unfold yQ
  by_cases h0:spB (rO f.teams) m L row=0
  ·have hn:=this h0
   have:(p_ m L).contains c=false:=by
    cases z:(p_ m L).contains c with
    |false=>rfl
    |true=>exact absurd (List.contains_iff_mem.mp z) hn
   rw[this];simp
  ·rw[decide_eq_false h0];rfl
theorem X5{m:Nat}{row l v:List Nat}{c:Nat}(R:D_ m row l)(hc:c<m)(p:v.Perm (c::l)):D_ m (bump row c) v:=by
 refine⟨by rw[pV];exact R.len,λ x hx=>?_,λ x hx=>?_⟩
 ·rcases List.mem_cons.mp (p.mem_iff.mp hx)with e|e
  ·rw[e];exact hc
  ·exact R.lt x e
 ·rw[Bo (by rw[R.len];exact hc),p.count_eq,eK,R.cnt x hx,R.cnt c hc]
  by_cases e:x=c
  ·subst e;rw[if_pos rfl,beq_self_eq_true,if_pos rfl]
  ·rw[if_neg e,show(c == x)=false from beq_eq_false_iff_ne.mpr (Ne.symm e)];simp
theorem Vj{d r:List Nat}{c:Nat}(hl:r.length=d.length)(hc:c<d.length):bB d (bump r c)=bump (bB d r) c:=by
 unfold bump
 exact Xu d r c _ (getD_at (by omega)) hl
inductive C6 (CB:ag) (vs:List V) (H:Hp) (Q:VK) (Ex:XK):Prop
 |mk (q a b:ag) (ks as:List ag) (f:ae) (d:List Nat):vs=[.ref q,.ref a,.ref b]->H q=some (.lst (ks.map V.ref))->Gn CB H ks (rO f.teams) d.length (nH f.teams)->H a=some (.lst (as.map V.ref))->TabsAt H as (nY f)->H b=some (.lst (nV d))->d.length=f.cells.length->d.length<=16->GW H Q (nV (eM (fR f d) d))->C6 CB vs H Q Ex
abbrev Ll:List Str:=["bounds","tables","had","row","now","cell","efforts"]
theorem Jo:m7 Ll ["bounds","tables","had"] (mZ Bh):=qf
theorem Rp(F:pG K "teams_row" "teams_row" Bh f fd)(Fl:mg "list"=none)(rp:rA P w K mg base oE 2 "best_cell" ["tables","had","cells"] yE)(uP:rA P w K mg base oE 2 "free_cells" ["bounds","row"] (wI CB))(pH:Hz7 P w K mg base):nO P w K mg base oE 3 f fd ["bounds","tables","had"] (C6 CB):=by
 refine F.ok Jo (λ vs H Q E h=>?_) (λ oU A outer s H vs Q E hr h=>?_)
 ·obtain⟨q,a,b,ks,as,f,d,rfl,_⟩:=h
  rfl
 ·obtain⟨q,a,b,ks,as,f,d,rfl,hq,hB,ha,hT,hb,hd,GX,k⟩:=h
  have nd:=Jo.nd
  refine⟨_,(mV (zV (i:=3) (own:=[("efforts",6)]) rfl nd rfl rfl rfl (oJ (pv 2)) (by exact pz.of (N:=Ll) (sc:=mZ Bh) (by decide +kernel)) (λ _ _ _ _ _=>by exact(nr (i:=6) nd rfl (Or.inl rfl))) (λ _ _ _ _ _=>by exact oP) (λ _ _ _ _ _=>by exact nM))
   (mV (m6 (i:=4) nd rfl (Or.inl rfl) (sj xV rfl Fl ky (mU (pv 2) mW)))
   (mV (m6 (i:=5) nd rfl (Or.inl rfl) (nq (E:=E0) rp hr (by decide) nj (mU (pv 1) (mU (pv 4) (mU (nq (E:=E0) uP hr (by decide) nj (mU (pv 0) (mU (pv 3) mW))) mW)))))
   (mV (rK PassesOwn.never (PW.pt (EI (PV (Zj (pv 5))) (A_ (om BH (nq (E:=E0) pH hr (by decide) nj (mU (oZ n9 (pv 1) (pv 5) (λ _ _=>rfl)) (mU (oZ n9 (pv 4) (pv 5) (λ _ _=>rfl)) mW))) nM (oH _))))) (mV (Ba (pv 3) (pv 5) xN nM zO set_list)
   (mV (Ba (pv 4) (pv 5) xN nM zO set_list)
   (m4 (m6 (i:=5) nd rfl (Or.inl rfl) (nq (E:=E0) rp hr (by decide) nj (mU (pv 1) (mU (pv 4) (mU (nq (E:=E0) uP hr (by decide) nj (mU (pv 0) (mU (pv 3) mW))) mW)))))))))
   (m4 (m9 (pv 3))))))),?_⟩
  refine⟨_,rfl,b,rfl,⟨_,nA.of hb⟩,?_⟩
  refine oV (oQ (K:=K) (xs:=nV d) (nA.of hb)) (nV (d.map λ _=>0)) (by rw[m8,m8,aa]) (by rw[m8,aA];omega) (λ j x y H3 R3 N3 hy pE hF kk=>?_) (λ wb H1 hrw s1 acq=>?_)
  ·obtain⟨v,qv,rfl⟩:=oq hy
   have e0:v=0:=by
    rw[ak]at qv
    cases z:d[j]? with
    |none=>rw[z]at qv;cases qv
    |some _=>rw[z]at qv;exact(Option.some.inj qv).symm
   subst e0
   exact⟨rfl,sy (kk H3 (m5.refl _))⟩
  refine⟨_,rfl,b,_,rfl,.inl (nA.of (s1 _ _ hb)),λ nw Y9=>?_⟩
  have XQ:=none_of s1 Y9
  have nrn:wb≠nw:=λ z=>by rw[<-z,acq]at Y9;cases Y9
  have s2:m5 H (upd H1 nw (.lst (nV d))):=s1.put XQ
  have adT:∀(H':Hp) (r:List Nat) (Q':VK),m5 H H'->H' wb=some (.lst (nV r))->r.length=d.length->(∀H2 p,m5 H' H2->H' p=none->H2 p=some (.lst (nV ((az d.length).filter (sQ (rO f.teams) d.length (nH f.teams) r))))->Q' (.ref p) H2)->wI CB [.ref q,.ref wb] H' Q' E0:=
   λ H' r Q' sm h1 h3 h5=>⟨q,wb,ks,rO f.teams,d.length,nH f.teams,r,rfl,sm _ _ hq,hB.same sm,h1,h3,GX,h5⟩
  have inR:∀(p:Nat->Bool) (D:List Nat),D.length=d.length->∀c∈(az d.length).filter p,c<D.length:=λ p D h c hc=>by rw[h];exact List.mem_range.mp (List.mem_filter.mp hc).1
  have e0:eM d d=d.map λ _=>0:=by
   have:=Fi d (d.map λ _=>0) (by rw[aa])
   rw[KW]at this;exact this
  have R0:D_ d.length (d.map λ _=>0) []:=⟨by rw[aa],λ c hc=>(by cases hc),λ c hc=>by rw[aB,ak,af hc];rfl⟩
  refine⟨_,rfl,_,rfl,_,rfl,_,rfl,adT _ (d.map λ _=>0) _ s2 (by rw[mY nrn];exact acq) (by rw[aa]) λ H2 p s3 hp Zx=>?_⟩
  have s2':=s2.trans s3
  have hr2:H2 wb=some (.lst (nV (d.map λ _=>0))):=s3 _ _ (by rw[mY nrn];exact acq)
  have Sx:H2 nw=some (.lst (nV d)):=s3 _ _ mX
  refine⟨a,nw,p,as,f,d,_,rfl,s2' _ _ ha,hT.same s2',Sx,Zx,hd,inR _ d rfl,?_⟩
  refine⟨λ mm σ H'=>∃(o6:Option V) (r D pL:List Nat) (u:Vbmrac.Use) (kk:Nat),σ=[some (.ref q),some (.ref a),some (.ref b),some (.ref wb),some (.ref nw),some (acj (bestOf f D ((az d.length).filter (sQ (rO f.teams) d.length (nH f.teams) r)))),o6]/\m5 H H'/\H' wb=some (.lst (nV r))/\H' nw=some (.lst (nV D))/\D_ d.length r (u.map (·.2))/\D=bB d r/\acp f D kk u pL/\eF f kk D u pL=fR f d/\mm=(slots f).length-u.length,
   ⟨_,none,d.map λ _=>0,d,[],[],_,rfl,s2',hr2,Sx,R0,by rw[KW],⟨Tx f,λ c hc=>(by cases hc),eU,λ c hc=>(by cases hc),by rw[<-hd];exact ax _⟩,rfl,rfl⟩,?_⟩
  rintro mm σ H' ⟨o6,r,D,pL,u,kk,rfl,sm,XU,hn',R,eD,T,eq,rfl⟩
  have Ov:D.length=d.length:=by rw[eD];exact DS R.len
  have F:=Jg T.mat
  have step:=Jj (f:=f) (d:=D) (u:=u) (cs:=(az d.length).filter (sQ (rO f.teams) d.length (nH f.teams) r)) (TH _ _) (λ c=>by rw[Ov];exact X4 R F c) kk pL T
  have adU:(∀c,bestOf f D ((az d.length).filter (sQ (rO f.teams) d.length (nH f.teams) r))=some c->c9 f c (D.getD c 0)=0)->Q (.ref wb) H':=λ h=>by
   have e:=step.2 h
   rw[eq,eD]at e
   rw[e,Fi d r R.len]at k
   exact k H' wb sm hrw XU
  cases TJ:bestOf f D ((az d.length).filter (sQ (rO f.teams) d.length (nH f.teams) r))with
  |none=>
   refine⟨_,rfl,_,rfl,p8 (λ hc=>absurd hc (by decide)) λ _=>rG ⟨_,rfl,adU λ c hc=>by rw[TJ]at hc;cases hc⟩⟩
  |some c=>
   obtain⟨⟨c1,c2⟩,_⟩:=(Ec (TH _ _)).1 c TJ
   have hc:c<d.length:=List.mem_range.mp (List.mem_filter.mp c1).1
   have gD:=getD_at (d:=D) (c:=c) (by omega)
   have gr:=getD_at (d:=r) (c:=c) (by rw[R.len];exact hc)
   obtain⟨tb,t,t1,t2,t3,t4,t5⟩:=Hg (hT.same sm) (show c<f.cells.length by omega) c2
   refine⟨_,rfl,_,rfl,p8 (λ _=>?_) λ hn=>absurd (show(!decide (V.int (c:Nat)=V.qt))=true by rw[decide_eq_false (by intro z;cases z)];rfl) hn⟩
   refine⟨_,rfl,_,rfl,a,_,_,_,rfl,rfl,nA.of (sm _ _ ha),oo t1,_,rfl,_,rfl,nw,_,_,_,rfl,rfl,nA.of hn',oo (oR gD),tb,t,_,_,_,rfl,t2,t3,t4,_,_,rfl,rfl,_,rfl,?_⟩
   rw[t5]
   refine p8 (λ hg=>?_) λ hg=>?_
   ·have hg:(0:Int)<((c9 f c (D.getD c 0):Nat):Int):=of_decide_eq_true hg
    obtain⟨k',v,TB,z1,z2,z3⟩:=step.1 c TJ (by omega)
    have vl:v.length=u.length+1:=by
     have:=z3.length_eq
     rw[aa,aD,aa]at this;exact this
    have vn:=Tz z2.mat
    refine⟨_,λ _ _ z=>z,_,rfl,_,rfl,wb,_,c,_,rfl,rfl,nA.of XU,oR gr,_,_,rfl,rfl,wb,_,_,c,rfl,rfl,XU,yy (by rw[m8,R.len];exact hc),?_⟩
    generalize JV:upd H' wb _=H2
    have hr2:H2 wb=some (.lst (nV (bump r c))):=by rw[<-JV,mX];unfold nV bump;rw[fP];rfl
    have Sx:H2 nw=some (.lst (nV D)):=by rw[<-JV,mY (Ne.symm nrn)];exact hn'
    have wc:m5 H H2:=by rw[<-JV];exact sm.put hrw
    refine⟨_,rfl,_,rfl,nw,_,c,_,rfl,rfl,nA.of Sx,oR gD,_,_,rfl,rfl,nw,_,_,c,rfl,rfl,Sx,yy (by rw[m8,Ov];exact hc),?_⟩
    generalize hH3:upd H2 nw _=H3
    have hn3:H3 nw=some (.lst (nV (bump D c))):=by rw[<-hH3,mX];unfold nV bump;rw[fP];rfl
    have hr3:H3 wb=some (.lst (nV (bump r c))):=by rw[<-hH3,mY nrn];exact hr2
    have pE:m5 H H3:=by rw[<-hH3];exact wc.put XQ
    refine⟨_,rfl,_,rfl,_,rfl,_,rfl,adT H3 (bump r c) _ pE hr3 (by rw[pV,R.len]) λ H4 p Za hp hp4=>?_⟩
    have s4:=pE.trans Za
    have hr4:=Za _ _ hr3
    have hn4:=Za _ _ hn3
    refine⟨a,nw,p,as,f,bump D c,_,rfl,s4 _ _ ha,hT.same s4,hn4,hp4,by rw[pV,Ov,hd],inR _ _ (by rw[pV,Ov]),?_⟩
    refine⟨(slots f).length-v.length,by omega,_,bump r c,bump D c,TB,v,k',rfl,s4,hr4,hn4,X5 R hc z3,by rw[Vj R.len hc,eD],z2,by rw[<-z1,eq],rfl⟩
   ·have hg:¬ (0:Int)<((c9 f c (D.getD c 0):Nat):Int):=λ z=>hg (decide_eq_true z)
    refine⟨_,rfl,adU λ c' VT=>?_⟩
    rw[TJ]at VT
    cases VT
    omega
end n_
namespace L2
theorem nO.noX{P:aK}{w:bj}{K:ah}{mg:Str->Option ao}{base:bF}{C:ag}{k:Nat}{f:ag}{fd:bP}{ps:List Str}{sp:Sp}(F:nO P w K mg base (Cc P w C) k f fd ps sp):nO P w K mg base oE k f fd ps (λ vs H Q _=>sp vs H Q E0):=
 ⟨λ vs H Q E h=>F.len vs H Q E0 h,λ A outer s H args us vs Q E hr he hb hv hs=>fB (F.run A outer s H args us vs Q E0 hr he hb hv hs) λ r s' h=>by
  cases r with
  |error e=>
   obtain⟨_,_,_,_,_,_,_,_,_,z⟩:=h
   exact(z:False).elim
  |ok fl=>cases fl <;> exact h⟩
theorem rA.noX{P:aK}{w:bj}{K:ah}{mg:Str->Option ao}{base:bF}{C:ag}{k:Nat}{x:Str}{ps:List Str}{sp:Sp}(h:rA P w K mg base (Cc P w C) k x ps sp):rA P w K mg base oE k x ps (λ vs H Q _=>sp vs H Q E0):=
 let⟨f,fd,F,r⟩:=h
 ⟨f,fd,F.noX,r⟩
theorem r8{σ:L2.St}{H:Hp}{Kc:List V->Hp->Prop}(h:Kc [] H):Wi σ H Kc:=h
end L2
namespace n_
def Rq(x wl hl:ag)(H H':Hp):Prop:=∀b o,H b=some o->b≠x->b≠wl->b≠hl->(∀φ,o≠ .ext φ)->H' b=some o
theorem Rq.ne{x wl hl:ag}{H H':Hp}(n:NE H H'):Rq x wl hl H H':=λ b o e _ _ _ z=>n b o e z
theorem qX.same{CF CC CT:ag}{H H':Hp}{a:ag}{f:ae}(h:qX CF CC CT H a f)(sm:m5 H H'):qX CF CC CT H' a f:=by
 obtain⟨dx,lc,lt,as,bs,h1,h2,h3,h4,h5⟩:=h
 exact⟨dx,lc,lt,as,bs,sm _ _ h1,sm _ _ h2,⟨h3.1,λ j b c e1 e2=>let⟨d,z⟩:=h3.2 j b c e1 e2;⟨d,sm _ _ z⟩⟩,sm _ _ h4,⟨h5.1,λ j b t e1 e2=>(h5.2 j b t e1 e2).same sm⟩⟩
structure vg(CS CF CC CT:ag)(s:bS)(f0:ae)(ws:List Nat)(a:ag)(H:Hp)(x wl hl:ag):Prop where
 se:An CS H x (.ref a) wl hl ws s.done
 ne:wl≠hl
 fa:∃H0:Hp,qX CF CC CT H0 a f0/\m5 H0 H/\H0 x=none/\H0 wl=none/\H0 hl=none/\∀b φ,H0 b≠some (.ext φ)
 ok:DQ f0
 nm:∀c∈f0.cells,c.name.length<=8
 fe:s.field=pJ f0 ws
 lw:ws.length=f0.cells.length
 ld:s.done.length=f0.cells.length
 tq:∀n∈s.done,n<=20
 Zb:∀n∈ws,n<=1000000000000
theorem Bv{f:ae}{ws:List Nat}{c:bD}(h:c∈(pJ f ws).cells):∃c0∈f.cells,c.finds=c0.finds/\c.time=c0.time/\c.weight∈ws:=by
 unfold pJ at h
 obtain⟨i,hi,e⟩:=cy h
 rw[de]at hi
 rw[List.getElem_zipWith]at e
 rw[<-e]
 exact⟨_,cq (show i<f.cells.length by omega),rfl,rfl,cq (show i<ws.length by omega)⟩
section
variable{CS CF CC CT:ag}{s:bS}{f0:ae}{ws:List Nat}{a:ag}{H:Hp}{x wl hl:ag}
theorem vg.field(T:vg CS CF CC CT s f0 ws a H x wl hl):qX CF CC CT H a f0:=by
 obtain⟨H0,h1,h2,_⟩:=T.fa
 exact h1.same h2
theorem vg.len(T:vg CS CF CC CT s f0 ws a H x wl hl):s.field.cells.length=f0.cells.length:=by rw[T.fe];exact qK T.lw
theorem vg.wB(T:vg CS CF CC CT s f0 ws a H x wl hl):f0.cells.length<=16:=T.ok.cells.len
theorem vg.dl(T:vg CS CF CC CT s f0 ws a H x wl hl):s.done.length=s.field.cells.length:=by rw[T.ld,T.len]
theorem vg.fw(T:vg CS CF CC CT s f0 ws a H x wl hl):FW s.field:=by
 have p:=T.ok.parts
 have ep:s.field.parts=f0.parts:=by rw[T.fe];rfl
 refine⟨by rw[ep];omega,by rw[ep];omega,by rw[T.len];exact T.wB,λ q=>?_,λ c hc=>?_,λ c hc=>?_⟩
 ·have h1:=T.len
  rw[q]at h1
  exact T.ok.ne (List.length_eq_zero_iff.mp h1.symm)
 ·rw[T.fe]at hc
  obtain⟨c0,_,_,_,z⟩:=Bv hc
  exact T.Zb _ z
 ·rw[T.fe]at hc
  obtain⟨c0,h0,z,_,_⟩:=Bv hc
  rw[z,ep]
  exact(T.ok.cells.each c0 h0).finds
theorem vg.time(T:vg CS CF CC CT s f0 ws a H x wl hl):uo s.field:=λ c hc=>by
 rw[T.fe]at hc
 obtain⟨c0,h0,_,z,_⟩:=Bv hc
 rw[z]
 exact(T.ok.cells.each c0 h0).time
theorem vg.teams(T:vg CS CF CC CT s f0 ws a H x wl hl):s.field.teams=f0.teams:=by rw[T.fe];rfl
theorem vg.times(T:vg CS CF CC CT s f0 ws a H x wl hl):s.field.cells.map (·.time)=f0.cells.map (·.time):=by
 rw[T.fe]
 apply bN
 intro i
 rw[ak,ak]
 show j5 _ (jM _ _ _)[i]? =_
 rw[aO]
 by_cases hi:i<f0.cells.length
 ·rw[af hi,af (show i<ws.length by rw[T.lw];exact hi)];rfl
 ·rw[aI (show f0.cells.length<=i by omega)]
theorem vg.Vk(T:vg CS CF CC CT s f0 ws a H x wl hl){H':Hp}(n:NE H H'):vg CS CF CC CT s f0 ws a H' x wl hl:=by
 obtain⟨H0,h1,h2,h3⟩:=T.fa
 have e:∀b o,H b=some o->(∀φ,o≠ .ext φ)->H' b=some o:=λ b o e z=>n b o e z
 obtain⟨⟨dx,e1⟩,e2,e3⟩:=T.se
 refine⟨⟨⟨dx,e _ _ e1 (λ φ q=>by cases q)⟩,e _ _ e2 (λ φ q=>by cases q),e _ _ e3 (λ φ q=>by cases q)⟩,T.ne,⟨H0,h1,λ b o eb=>e b o (h2 b o eb) λ φ q=>h3.2.2.2 b φ (by rw[eb,q]),h3⟩,T.ok,T.nm,T.fe,T.lw,T.ld,T.tq,T.Zb⟩
theorem vg.same(T:vg CS CF CC CT s f0 ws a H x wl hl){H':Hp}(sm:m5 H H'):vg CS CF CC CT s f0 ws a H' x wl hl:=T.Vk (NE.of_same sm)
theorem vg.qo(T:vg CS CF CC CT s f0 ws a H x wl hl){Q:VK}{E:XK}(k:∀H' p as,m5 H H'->H p=none->H' p=some (.lst (as.map V.ref))->TabsAt H' as (nY s.field)->Q (.ref p) H'):DU CS CF CC CT [.ref x] H Q E:=by
 have W:=T.fw
 rw[T.fe]at k W
 exact⟨x,wl,hl,a,ws,s.done,f0,rfl,T.se,T.field,T.lw,W,k⟩
theorem vg.AH(T:vg CS CF CC CT s f0 ws a H x wl hl){Q:VK}{E:XK}(k:∀H',m5 H H'->Q (.int (left s.field s.done:Nat)) H'):Mp CS CF CC CT [.ref x] H Q E:=by
 have W:=T.fw
 rw[T.fe]at k W
 exact⟨x,wl,hl,a,ws,s.done,f0,rfl,T.se,T.field,T.lw,W,T.ld,T.tq,k⟩
theorem vg.Fw(T:vg CS CF CC CT s f0 ws a H x wl hl){Q:VK}{E:XK}(k:GW H Q (nV (s.field.cells.map (·.time)))):Hj CS CF CC CT [.ref x] H Q E:=by
 rw[T.times]at k
 exact⟨x,wl,hl,a,ws,s.done,f0,rfl,T.se,T.field,T.wB,k⟩
theorem vg.MH(T:vg CS CF CC CT s f0 ws a H x wl hl){Q:VK}{E:XK}{b:ag}{zs:List Int}(hb:H b=some (.lst (iL zs)))(hz:zs.length<=70)(k:∀H',m5 H H'->Q (.bl (fJ s zs)) H'):Hd CS [.ref x,.ref b] H Q E:=by
 refine⟨x,wl,hl,b,_,ws,s.done,zs,rfl,T.se,hb,by omega,λ H' sm=>?_⟩
 have e:(zs.length == s.done.length && zs.all λ z=>bI z 0 20)=fJ s zs:=by unfold fJ;rw[T.dl];rfl
 rw[e];exact k H' sm
theorem vg.Jp(T:vg CS CF CC CT s f0 ws a H x wl hl){Q:VK}{E:XK}{b:ag}{zs:List Int}(hb:H b=some (.lst (iL zs)))(k:∀H',m5 H H'->Q (.bl (DZ s.done zs)) H'):Br CS [.ref x,.ref b] H Q E:=
 ⟨x,wl,hl,b,_,ws,s.done,zs,rfl,T.se,hb,by rw[T.ld];exact T.wB,k⟩
theorem vg.MJ(T:vg CS CF CC CT s f0 ws a H x wl hl){Q:VK}{E:XK}{z:Int}(k:Q (.bl (decide (((aY s.done:Nat):Int)+z<=20*((s.done.length:Nat):Int)))) H):uO CS [.ref x,.int z] H Q E:=
 ⟨x,wl,hl,_,ws,s.done,z,rfl,T.se,k⟩
theorem vg.Ef(T:vg CS CF CC CT s f0 ws a H x wl hl){Q:VK}{E:XK}{z:Int}(k:Q (.bl (eQ s z)) H):DT CS [.ref x,.int z] H Q E:=by
 refine⟨x,wl,hl,_,ws,s.done,z,rfl,T.se,?_⟩
 rw[T.dl];exact k
end
def pd(b1 b2:Bool)(l:Nat)(rest:List Int):List Int:=if b1=false then[-1]else if b2=false then[-3]else if l=0 then[-6]else rest
theorem tR{b1 b2:Bool}{l:Nat}(h:pd b1 b2 l []=[]):b1=true/\b2=true/\l≠0:=by
 unfold pd at h
 cases b1 with
 |false=>cases h
 |true=>
  cases b2 with
  |false=>cases h
  |true=>
   refine⟨rfl,rfl,λ z=>?_⟩
   rw[z]at h;cases h
theorem OX{b1 b2:Bool}{l:Nat}(rest:List Int)(h:pd b1 b2 l []≠[]):pd b1 b2 l rest=pd b1 b2 l []:=by
 unfold pd at h ⊢
 cases b1 with
 |false=>rfl
 |true=>
  cases b2 with
  |false=>rfl
  |true=>
   by_cases z:l=0
   ·rw[z];rfl
   ·rw[if_neg (by simp),if_neg (by simp),if_neg z]at h;exact absurd rfl h
theorem qD{l:Nat}(h:l≠0)(rest:List Int):pd true true l rest=rest:=by
 unfold pd
 rw[if_neg (by simp),if_neg (by simp),if_neg h]
theorem Eg{s:bS}{zs:List Int}(h:fJ s zs=true):iL zs=nV (bW zs)/\(bW zs).length=s.field.cells.length/\(∀n∈bW zs,n<=20)/\zs=dU (bW zs):=by
 unfold fJ at h
 rw[bg,fv]at h
 have e:zs=dU (bW zs):=by
  unfold dU bW
  rw[aW]
  conv=>lhs;rw[<-hZ zs]
  refine bO λ z hz=>?_
  have q:=h.2 z hz
  unfold bI at q
  simp at q
  show z=((z.toNat:Nat):Int)
  omega
 refine⟨?_,?_,λ n hn=>?_,e⟩
 ·rw[uq]
  exact congrArg iL e
 ·unfold bW
  rw[aa];exact eq_of_beq h.1
 ·obtain⟨z,hz,rfl⟩:=List.mem_map.mp hn
  have q:=h.2 z hz
  unfold bI at q
  rw[bg,decide_eq_true_iff,decide_eq_true_iff]at q
  have q2:z<=(20:Int):=q.2
  have q1:=q.1
  show z.toNat<=20
  omega
theorem Bw{s:bS}{zs:List Int}(h:fJ s zs=true)(d:List Nat):DZ d zs= !dr (bB d (bW zs)):=by
 have e:=(Eg h).2.2.2
 have e1:vH d zs=(bB d (bW zs)).map λ(n:Nat)=>(n:Int):=by
  conv=>lhs;rw[e]
  unfold vH bB dU
  rw[iY,gK];rfl
 unfold DZ dr
 rw[e1,cJ,jH]
 congr 1
 funext n
 show decide ((n:Int)<=20)= !decide (20<n)
 by_cases q:n<=20
 ·rw[decide_eq_true (by omega),decide_eq_false (by omega)];rfl
 ·rw[decide_eq_false (by omega),decide_eq_true (by omega)];rfl
theorem MK{d:List Nat}(h:dr d=false):∀n∈d,n<=20:=λ n hn=>by
 unfold dr at h
 rw[iO]at h
 have:=h n hn
 have h2:¬ 20<n:=λ z=>this (decide_eq_true z)
 omega
theorem Rr(d:List Nat)(wg:∀n∈d,n<=20):room d+aY d=20*d.length:=by
 unfold Vbmrac.room
 induction d with
 |nil=>rfl
 |cons a d ih=>
  rw[aH,ot,ot,aD]
  have:=ih λ n hn=>wg n (by simp[hn])
  have ha:=wg a (by simp)
  show(20-a)+ _+ _=_
  omega
theorem t7(z:Int)(l:List Int):iL (z::l)=V.int z::iL l:=rfl
theorem AI(l m:List Int):iL (l++m)=iL l++iL m:=aF
theorem Bx(l:List Nat):iL (dU l)=nV l:=by rw[uq];rfl
theorem Lm{l:List Int}{A B:Prop}(h1:l≠[]->A)(h2:l=[]->B):if(!(iL l).isEmpty)=true then A else B:=by
 cases l with
 |nil=>exact rG (h2 rfl)
 |cons a r=>exact s_ (h1 (by simp))
theorem Vl{H:Hp}{p:ag}{b1 b2:Bool}{l:Nat}{rest:List Int}(h:pd b1 b2 l []≠[])(hp:H p=some (.lst (iL (pd b1 b2 l [])))):H p=some (.lst (iL (pd b1 b2 l rest))):=by
 rw[hp,OX rest h]
theorem oY{H H':Hp}{Q:VK}{g:List Int}{ys:List V}(k:GW H Q (iL g))(sm:m5 H H')(e:ys=iL g)(p:ag)(hp:H' p=none):Q (.ref p) (upd H' p (.lst ys)):=
 k _ p (sm.put (none_of sm hp)) (none_of sm hp) (by rw[mX,e])
theorem C7{α:Type}(s:α)(b1 b2:Bool)(l:Nat)(r:List Int):(if b1=false then(s,[-1])else if b2=true then(s,[-3])else if l=0 then(s,[-6])else(s,r)).2=pd b1 (!b2) l r:=by
 unfold pd
 cases b1 with
 |false=>rfl
 |true=>
  cases b2 with
  |true=>rfl
  |false=>
   by_cases h:l=0
   ·simp[h]
   ·simp[h]
theorem C8{α:Type}(s:α)(b1:Bool)(m n:Nat)(l:Nat)(r:List Int):(if b1=false then(s,[-1])else if m<n then(s,[-3])else if l=0 then(s,[-6])else(s,r)).2=pd b1 (decide (n<=m)) l r:=by
 unfold pd
 cases b1 with
 |false=>rfl
 |true=>
  by_cases h1:m<n
  ·rw[decide_eq_false (by omega)];simp[h1]
  ·rw[decide_eq_true (by omega)]
   by_cases h:l=0
   ·simp[h,h1]
   ·simp[h,h1]
theorem rF{b1 b2 b2':Bool}{l:Nat}{r:List Int}(h:b1=true->b2=b2'):pd b1 b2 l r=pd b1 b2' l r:=by
 cases b1 with
 |false=>rfl
 |true=>rw[h rfl]
theorem pj{z lo hi:Int}:bI z lo hi=true↔lo<=z/\z<=hi:=by
 unfold bI;rw[bg,decide_eq_true_iff,decide_eq_true_iff]
theorem Jq{d:List Nat}{z:Int}(wg:∀n∈d,n<=20)(hz:0<=z):decide (((aY d:Nat):Int)+z<=20*((d.length:Nat):Int))=decide (z.toNat<=room d):=by
 have:=Rr d wg
 exact decide_eq_decide.mpr (by omega)
inductive Fx (CS CF CC CT:ag) (vs:List V) (H:Hp) (Q:VK) (Ex:XK):Prop
 |mk (x wl hl a:ag) (s:bS) (f0:ae) (ws:List Nat) (b1 b2:Bool):vs=[.ref x,.bl b1,.bl b2]->vg CS CF CC CT s f0 ws a H x wl hl->GW H Q (iL (pd b1 b2 (left s.field s.done) []))->Fx CS CF CC CT vs H Q Ex
abbrev X6:List Str:=["search","as_told","can_be_made"]
theorem Ln:m7 X6 ["search","as_told","can_be_made"] (mZ HP):=qf
abbrev X7(P:aK)(w:bj)(K:ah)(mg:Str->Option ao)(base:bF)(CS:ag)(CF:ag)(CC:ag)(CT:ag):Prop:=um P w K mg base oE 3 CS "left" ["self"] (Mp CS CF CC CT)
theorem Vm(F:pG K "refused" "refused" HP f fd)(S:pY K CS)(nF:oC mg "NOT_AS_TOLD" (-1))(pk:oC mg "TOO_MANY" (-3))(qO:X7 P w K mg base CS CF CC CT)(nU:oC mg "NOTHING_LEFT" (-6)):nO P w K mg base oE 4 f fd ["search","as_told","can_be_made"] (Fx CS CF CC CT):=by
 refine F.ok Ln (λ vs H Q E h=>?_) (λ oU A outer s H vs Q E hr h=>?_)
 ·obtain⟨x,wl,hl,a,s',f0,ws,b1,b2,rfl,_⟩:=h
  rfl
 ·obtain⟨x,wl,hl,a,s',f0,ws,b1,b2,rfl,T,k⟩:=h
  have nd:=Ln.nd
  have nI:=S.cl
  refine⟨_,(mV (pf (vi (tF (pv 1))) (m4 (m9 (nN (mU (nP nF) mW)))) nX)
   (mV (pf (vi (tF (pv 2))) (m4 (m9 (nN (mU (nP pk) mW)))) nX)
   (mV (pf (om ub (oS (E:=E0) qO nI hr (by decide) nj (pv 0)) nM (oH _)) (m4 (m9 (nN (mU (nP nU) mW)))) nX)
   (m4 (m9 (nN mW)))))),?_⟩
  obtain⟨dx,hx⟩:=T.se.1
  cases b1 with
  |false=>exact⟨_,rfl,_,rfl,s_ ⟨(by show 1<=ay;decide),oY k (m5.refl _) rfl⟩⟩
  |true=>
   refine⟨_,rfl,_,rfl,rG ?_⟩
   cases b2 with
   |false=>exact⟨_,rfl,_,rfl,s_ ⟨(by show 1<=ay;decide),oY k (m5.refl _) rfl⟩⟩
   |true=>
    refine⟨_,rfl,_,rfl,rG ?_⟩
    refine⟨_,rfl,x,dx,_,rfl,hx,rfl,r8 (T.AH λ H1 s1=>⟨rfl,_,rfl,p8 (λ hc=>?_) λ hc=>?_⟩)⟩
    ·have hc:=V.int.inj (of_decide_eq_true hc)
     have e:left s'.field s'.done=0:=by omega
     rw[e]at k
     exact⟨(by show 1<=ay;decide),oY k s1 rfl⟩
    ·have e:left s'.field s'.done≠0:=λ z=>hc (decide_eq_true (by rw[z];rfl))
     rw[qD e]at k
     exact⟨aE _,oY k s1 rfl⟩
inductive BF (CS CF CC CT:ag) (ar:Nat) (g:bS->ae->List Int->List Int->List Int) (vs:List V) (H:Hp) (Q:VK) (Ex:XK):Prop
 |mk (x wl hl nl rl a:ag) (s:bS) (f0:ae) (ws:List Nat) (ns zs:List Int):vs=[.ref x,.ref nl,.ref rl]->vg CS CF CC CT s f0 ws a H x wl hl->H nl=some (.lst (iL ns))->H rl=some (.lst (iL zs))->ns.length=ar->zs.length<=70->GW H Q (iL (g s f0 ns zs))->BF CS CF CC CT ar g vs H Q Ex
def Rt(s:bS)(f0:ae)(ns zs:List Int):List Int:=(eN s f0 (.would zs)).2
theorem Vn(s:bS)(f0:ae)(ns zs:List Int):Rt s f0 ns zs=pd (fJ s zs) (DZ s.done zs) (left s.field s.done) (0::jP (dQ s.field s.done (bW zs))):=
 (C7 s (fJ s zs) (dr (bB s.done (bW zs))) _ _).trans (rF λ h=>(Bw h _).symm)
abbrev Ru:List Str:=["search","numbers","row","refusal"]
theorem Gs:m7 Ru tp (mZ Cr):=qf
abbrev Vo(P:aK)(w:bj)(K:ah)(mg:Str->Option ao)(base:bF)(CS:ag)(CF:ag)(CC:ag)(CT:ag):Prop:=rA P w K mg base oE 4 "refused" ["search","as_told","can_be_made"] (Fx CS CF CC CT)
abbrev acr(P:aK)(w:bj)(K:ah)(mg:Str->Option ao)(base:bF)(CS:ag):Prop:=um P w K mg base oE 1 CS "is_row" ["self","row"] (Hd CS)
abbrev acs(P:aK)(w:bj)(K:ah)(mg:Str->Option ao)(base:bF)(CS:ag):Prop:=um P w K mg base oE 2 CS "has_room" ["self","row"] (Br CS)
abbrev aaq(P:aK)(w:bj)(K:ah)(mg:Str->Option ao)(base:bF):Prop:=rA P w K mg base oE 2 "found" ["tables","had","row"] Mo
theorem Gu(F:pG K "call_would" "call_would" Cr f fd)(S:pY K CS)(oy:Vo P w K mg base CS CF CC CT)(qR:acr P w K mg base CS)(pX:acs P w K mg base CS)(nB:oC mg "DONE" 0)(qr:aaq P w K mg base)(nQ:VX P w K mg base CS CF CC CT):nO P w K mg base oE 5 f fd tp (BF CS CF CC CT 0 Rt):=by
 refine F.ok Gs (λ vs H Q E h=>?_) (λ oU A outer s H vs Q E hr h=>?_)
 ·obtain⟨x,wl,hl,nl,rl,a,s',f0,ws,ns,zs,rfl,_⟩:=h
  rfl
 ·obtain⟨x,wl,hl,nl,rl,a,s',f0,ws,ns,zs,rfl,T,hn,hz,ln,lz,k⟩:=h
  have nd:=Gs.nd
  have nI:=S.cl
  refine⟨_,(mV (m6 (i:=3) nd rfl (Or.inl rfl) (nq (E:=E0) oy hr (by decide) nj (mU (pv 0) (mU (pO (E:=E0) qR nI hr (by decide) nj (pv 0) (mU (pv 2) mW)) (mU (pO (E:=E0) pX nI hr (by decide) nj (pv 0) (mU (pv 2) mW)) mW)))))
   (mV (pf (xD (pv 3) (λ _=>rfl)) (m4 (m9 (pv 3))) nX)
   (m4 (m9 (og qT (nN (mU (nP nB) mW)) (nq (E:=E0) qr hr (by decide) nj (mU (oS (E:=E0) nQ nI hr (by decide) nj (pv 0)) (mU (m_ (pv 0) rfl) (mU (pv 2) mW))))))))),?_⟩
  obtain⟨dx,hx⟩:=T.se.1
  rw[Vn]at k
  refine⟨_,rfl,_,rfl,x,dx,_,rfl,hx,rfl,_,rfl,r8 (T.MH hz lz λ H1 s1=>?_)⟩
  refine⟨_,rfl,x,dx,_,rfl,s1 _ _ hx,rfl,_,rfl,r8 ((T.same s1).Jp (s1 _ _ hz) λ H2 s2=>?_)⟩
  have vE:=s1.trans s2
  have T2:=T.same vE
  refine⟨x,wl,hl,a,s',f0,ws,_,_,rfl,T2,λ H3 p s3 hp NR=>?_⟩
  have wF:=vE.trans s3
  refine⟨_,rfl,_,.inl ⟨_,nA.of NR,rfl⟩,Lm (λ h=>?_) λ h=>?_⟩
  ·exact⟨_,rfl,k H3 p wF (none_of vE hp) (Vl h NR)⟩
  ·obtain⟨c1,c2,c3⟩:=tR h
   rw[c1,c2,qD c3]at k
   obtain⟨r1,r2,r3,r4⟩:=Eg c1
   have tm:dr (bB s'.done (bW zs))=false:=by
    rw[Bw c1]at c2
    cases q:dr (bB s'.done (bW zs))with
    |false=>rfl
    |true=>rw[q]at c2;cases c2
   have W:=T.fw
   refine⟨(by show 1<=ay;decide),λ l1 Kf=>?_⟩
   have s4:=wF.put (o:=.lst [V.int 0]) (none_of wF Kf)
   have T4:=T.same s4
   refine⟨_,rfl,x,dx,_,rfl,s4 _ _ hx,rfl,r8 (T4.qo λ H5 tb ts s5 X8 X9 hT=>?_)⟩
   have Kg:=s4.trans s5
   refine⟨_,rfl,x,CS,dx,_,_,rfl,Kg _ _ hx,S.cl,S.n3,rfl,_,rfl,tb,hl,rl,ts,s'.field,s'.done,bW zs,rfl,W,X9,hT,Kg _ _ T.se.2.2,by rw[Kg _ _ hz,r1],T.dl,by rw[r2,T.dl],MK tm,cf c3,λ H6 q s6 hq hq6=>?_⟩
   exact⟨l1,q,_,_,rfl,rfl,s6 _ _ (s5 _ _ mX),hq6,(by show 3<=ay;decide),oY k (Kg.trans s6) rfl⟩
def X_(s:bS)(f0:ae)(ns zs:List Int):List Int:=(eN s f0 (.best (ns.getD 0 0))).2
theorem Ya(s:bS)(f0:ae)(ns zs:List Int)(wg:∀n∈s.done,n<=20):X_ s f0 ns zs=pd (bI (ns.getD 0 0) 0 60) (decide (((aY s.done:Nat):Int)+ns.getD 0 0<=20*((s.done.length:Nat):Int))) (left s.field s.done) (0::(dU (eM (jQ s.field (ns.getD 0 0).toNat s.done) s.done)++jP (dQ s.field s.done (eM (jQ s.field (ns.getD 0 0).toNat s.done) s.done)))):=
 (C8 s (bI (ns.getD 0 0) 0 60) (room s.done) (ns.getD 0 0).toNat _ _).trans (rF λ h=>(Jq wg (pj.mp h).1).symm)
theorem Hl{ns:List Int}(h:ns.length=1):(iL ns)[0]? =some (.int (ns.getD 0 0)):=by
 cases ns with
 |nil=>cases h
 |cons z r=>rfl
theorem count_cast(l:List Nat)(c:Nat):(l.map λ(n:Nat)=>(n:Int)).count (c:Int)=l.count c:=by
 induction l with
 |nil=>rfl
 |cons a l ih=>
  rw[aH,eK,eK,ih]
  congr 1
  by_cases e:a=c
  ·subst e;simp
  ·rw[if_neg (by simp;omega),if_neg (by simp[e])]
abbrev Vp:List Str:=["search","numbers","row","many","refusal","tables","best"]
theorem Jr:m7 Vp tp (mZ E6):=qf
abbrev acu(P:aK)(w:bj)(K:ah)(mg:Str->Option ao)(base:bF)(CS:ag):Prop:=um P w K mg base oE 1 CS "has_room_for" ["self","many"] (uO CS)
theorem Js(F:pG K "call_best" "call_best" E6 f fd)(S:pY K CS)(oy:Vo P w K mg base CS CF CC CT)(qF:oC mg "MOST_BEST" 60)(oO:acu P w K mg base CS)(nQ:VX P w K mg base CS CF CC CT)(ug:rA P w K mg base oE 1 "row_of" ["order","many_cells"] Hh)(pR:Hz9 P w K mg base)(o9:mg "len"=none)(nB:oC mg "DONE" 0)(qr:aaq P w K mg base):nO P w K mg base oE 5 f fd tp (BF CS CF CC CT 1 X_):=by
 refine F.ok Jr (λ vs H Q E h=>?_) (λ oU A outer s H vs Q E hr h=>?_)
 ·obtain⟨x,wl,hl,nl,rl,a,s',f0,ws,ns,zs,rfl,_⟩:=h
  rfl
 ·obtain⟨x,wl,hl,nl,rl,a,s',f0,ws,ns,zs,rfl,T,hn,hz,ln,lz,k⟩:=h
  have nd:=Jr.nd
  have nI:=S.cl
  refine⟨_,(mV (m6 (i:=3) nd rfl (Or.inl rfl) (oZ n9 (pv 1) nM (λ _ _=>rfl)))
   (mV (m6 (i:=4) nd rfl (Or.inl rfl) (nq (E:=E0) oy hr (by decide) nj (mU (pv 0) (mU (vk p7 p7 nM (pv 3) (nP qF)) (mU (pO (E:=E0) oO nI hr (by decide) nj (pv 0) (mU (pv 3) mW)) mW)))))
   (mV (pf (xD (pv 4) (λ _=>rfl)) (m4 (m9 (pv 4))) nX)
   (mV (m6 (i:=5) nd rfl (Or.inl rfl) (oS (E:=E0) nQ nI hr (by decide) nj (pv 0)))
   (mV (m6 (i:=6) nd rfl (Or.inl rfl) (nq (E:=E0) ug hr (by decide) nj (mU (nq (E:=E0) pR hr (by decide) nj (mU (pv 5) (mU (m_ (pv 0) rfl) (mU (pv 3) mW)))) (mU (nJ nL rfl o9 aX (mU (m_ (pv 0) rfl) mW)) mW))))
   (m4 (m9 (og qT (og qT (nN (mU (nP nB) mW)) (pv 6)) (nq (E:=E0) qr hr (by decide) nj (mU (pv 5) (mU (m_ (pv 0) rfl) (mU (pv 6) mW)))))))))))),?_⟩
  obtain⟨dx,hx⟩:=T.se.1
  rw[Ya _ _ _ _ T.tq]at k
  have h0:=Hl ln
  generalize hkk:ns.getD 0 0=kk at k h0
  have W:=T.fw
  refine⟨_,rfl,nl,_,_,_,rfl,rfl,nA.of hn,at_of (j:=0) rfl h0,_,rfl,ud gc gv gc ?_⟩
  refine⟨_,rfl,x,dx,_,rfl,hx,rfl,_,rfl,r8 (T.MJ ?_)⟩
  refine⟨x,wl,hl,a,s',f0,ws,_,_,rfl,T,λ H3 p s3 hp NR=>?_⟩
  refine⟨_,rfl,_,.inl ⟨_,nA.of NR,rfl⟩,Lm (λ h=>?_) λ h=>?_⟩
  ·exact⟨_,rfl,k H3 p s3 hp (Vl h NR)⟩
  ·obtain⟨c1,c2,c3⟩:=tR h
   rw[c1,c2,qD c3]at k
   obtain⟨i1,i2⟩:=pj.mp c1
   have c2:=of_decide_eq_true c2
   obtain⟨n,rfl⟩:∃n:Nat,kk=(n:Int):=⟨kk.toNat,by omega⟩
   rw[show((n:Int)).toNat=n from rfl]at k
   have rm:aY s'.done+n<=20*s'.done.length:=by omega
   obtain⟨q1,q2,q3⟩:=tO (f:=s'.field) n s'.done T.tq rm
   have q4:=q3 n (ax _)
   rw[cu (by omega)]at q4
   have q5:=IL _ _ (Bp _ _ q2)
   rw[q4]at q5
   refine⟨_,rfl,x,dx,_,rfl,s3 _ _ hx,rfl,r8 ((T.same s3).qo λ H4 tb ts s4 X8 Yb hT=>?_)⟩
   have K4:=s3.trans s4
   have T4:=T.same K4
   refine⟨_,rfl,_,rfl,x,CS,dx,_,_,rfl,K4 _ _ hx,S.cl,S.n3,rfl,_,rfl,tb,hl,ts,s'.field,s'.done,n,rfl,W,Yb,hT,K4 _ _ T.se.2.2,T.dl,T.tq,rm,λ H5 dq s5 hdq ae8=>?_⟩
   have Kg:=K4.trans s5
   refine⟨_,rfl,x,CS,dx,_,_,rfl,Kg _ _ hx,S.cl,S.n3,rfl,hl,_,rfl,.inl (nA.of (Kg _ _ T.se.2.2)),dq,(oM s'.field n s'.done).map (λ(n:Nat)=>(n:Int)),s'.done.length,by rw[m8],by rw[ae8,uq],by rw[T.ld];exact T.wB,λ H6 wb s6 hrw acv=>?_⟩
   have VY:=Kg.trans s6
   have er:(az s'.done.length).map (λ(c:Nat)=>((oM s'.field n s'.done).map (λ(n:Nat)=>(n:Int))).count (c:Int))=eM (jQ s'.field n s'.done) s'.done:=by
    rw[q5]
    refine bO λ c _=>count_cast _ c
   rw[er]at acv
   generalize hB:eM (jQ s'.field n s'.done) s'.done=B at *
   have eB:bB s'.done B=jQ s'.field n s'.done:=by
    have:=IM _ _ (Bp _ _ q2)
    rw[q4,hB]at this;exact this
   have lB:B.length=s'.done.length:=by rw[q5,aa,aQ]
   refine⟨(by show 1<=ay;decide),λ l1 Kf=>?_⟩
   have s7:=m5.new (o:=.lst [V.int 0]) Kf
   refine⟨_,rfl,l1,wb,_,_,rfl,rfl,mX,s7 _ _ acv,(by rw[m8,lB,T.ld,aA];show 1+ _<=_;have:=T.wB;omega),λ l2 Nm=>?_⟩
   have s8:=s7.trans (m5.new (o:=.lst ([V.int 0]++nV B)) Nm)
   have Rv:=VY.trans s8
   refine⟨_,rfl,_,rfl,x,CS,dx,_,_,rfl,Rv _ _ hx,S.cl,S.n3,rfl,_,rfl,tb,hl,wb,ts,s'.field,s'.done,B,rfl,W,s8 _ _ (s6 _ _ (s5 _ _ Yb)),hT.same (s5.trans (s6.trans s8)),Rv _ _ T.se.2.2,s8 _ _ acv,T.dl,lB,by rw[eB,<-q4];exact Ow _ _ T.tq q2,cf c3,λ H9 q s9 hq hq9=>?_⟩
   refine⟨l2,q,_,_,rfl,rfl,s9 _ _ mX,hq9,(by rw[aw,m8,lB,T.ld,aA];show 1+ _+2<=_;have:=T.wB;omega),oY k (Rv.trans s9) ?_⟩
   rw[t7,AI,Bx];rfl
end n_
namespace L2
theorem ae9{ta tb:TE}{σ:L2.St}{H:Hp}{Q:VK}{b1 b2:Bool}(ha:∀R:VK,R (.bl b1) H->ta σ H R)(hb:b1=true->∀R:VK,(∀H',m5 H H'->R (.bl b2) H')->tb σ H R)(k:∀H',m5 H H'->Q (.bl (b1 && b2)) H'):aaV ta tb σ H Q:=by
 refine ha _ ⟨_,rfl,?_⟩
 cases b1 with
 |false=>exact rG (k H (m5.refl _))
 |true=>exact s_ (hb rfl _ λ H' sm=>k H' sm)
end L2
namespace n_
theorem acw(f:ae)(d:List Nat)(c b:Nat)(r s:List Nat):thN f d c b r s<=20-d.getD c 0:=by
 unfold thN
 cases q:(az (20-d.getD c 0+1)).find? (λ n=>decide (n*(bx f c).time<=b) && (cZ f c (d.getD c 0)-cZ f c (d.getD c 0+n))+s.getD (b-n*(bx f c).time) 0 == r.getD b 0)with
 |none=>exact aE _
 |some n=>
  have:=List.mem_range.mp (jy q)
  show n<=_
  omega
theorem TM(f:ae)(d:List Nat):∀(tb:List (List Nat)) (c b:Nat),(gy f d c b tb).length=tb.length-1/\∀i x,(gy f d c b tb)[i]? =some x->x<=20-d.getD (c+i) 0
 |[],c,b=>⟨rfl,λ i x h=>by cases h⟩
 |[r],c,b=>⟨rfl,λ i x h=>by cases h⟩
 |r::s::t,c,b=>by
  obtain⟨h1,h2⟩:=TM f d (s::t) (c+1) (b-thN f d c b r s*(bx f c).time)
  rw[K9]
  refine⟨by rw[aD,h1];simp,λ i x h=>?_⟩
  cases i with
  |zero=>cases h;exact acw f d c b r s
  |succ i=>
   have:=h2 i x h
   rw[show c+(i+1)=c+1+i by omega];exact this
theorem Vq{f:ae}{d:List Nat}{B:Nat}(hd:d.length=f.cells.length)(wg:∀n∈d,n<=20):(f6 f d B).length=d.length/\∀n∈bB d (f6 f d B),n<=20:=by
 obtain⟨h1,h2⟩:=TM f d (b_ f d B f.cells.length) 0 B
 have e:(f6 f d B).length=d.length:=by
  show(gy f d 0 B (b_ f d B f.cells.length)).length=_
  rw[h1,ve,hd];rfl
 refine⟨e,λ n hn=>?_⟩
 obtain⟨i,hi,ei⟩:=cy hn
 rw[DS e]at hi
 have q1:=getD_at hi
 have q2:(f6 f d B)[i]? =some ((f6 f d B)[i]'(by omega)):=af _
 have q3:(bB d (f6 f d B))[i]? =some n:=by rw[af (by rw[DS e];exact hi),ei]
 unfold bB at q3
 rw[aO,q1,q2]at q3
 have q3:d.getD i 0+(f6 f d B)[i]'(by omega)=n:=Option.some.inj q3
 have q4:=h2 i _ q2
 rw[cX]at q4
 have q5:=wg _ (aC q1)
 omega
theorem Jt:∀(l d:List Nat),(∀c∈l,c<d.length)->(∀c∈l,d.getD c 0+l.count c<=20)->uD d l
 |[],_,_,_=>trivial
 |c::l,d,h1,h2=>by
  have hc:=h1 c (by simp)
  have c1:=h2 c (by simp)
  rw[List.count_cons_self]at c1
  refine⟨hc,by omega,Jt l (bump d c) (λ x hx=>by rw[pV];exact h1 x (by simp[hx])) λ x hx=>?_⟩
  have cx:=h2 x (by simp[hx])
  rw[eK]at cx
  rw[Bo hc]
  by_cases e:x=c
  ·subst e
   rw[if_pos rfl]
   rw[beq_self_eq_true,if_pos rfl]at cx
   omega
  ·rw[if_neg e];omega
theorem Gv(f:ae)(d:List Nat):∀(e:List Nat) (k:Nat),((e.zipIdx k).flatMap λ x=>(az x.1).map λ j=>(x.2,c9 f x.2 (d.getD x.2 0+j))).map (·.1)=xS k e
 |[],_=>rfl
 |a::e,k=>by
  rw[d7,eV,aF,yN,Gv f d e (k+1),aW]
  congr 1
  have:∀n,(az n).map (λ _=>k)=cH n k:=λ n=>by
   rw[List.map_const',aQ]
  exact this a
theorem Eh(f:ae)(d e:List Nat):(dO f d e).Perm (xS 0 e):=by
 have h:=(Fn f (efforts f d e)).map (·.1)
 have e1:(efforts f d e).map (·.1)=xS 0 e:=Gv f d e 0
 rw[e1]at h
 exact h
theorem Rw{f:ae}{d e:List Nat}(he:e.length=d.length)(wg:∀n∈bB d e,n<=20):uD d (dO f d e):=by
 have p:=Eh f d e
 have R:=Lh e
 have lt:∀c∈dO f d e,c<d.length:=λ c hc=>by
  have:=R.lt c (p.mem_iff.mp hc)
  omega
 refine Jt _ _ lt λ c hc=>?_
 have hl:=lt c hc
 rw[p.count_eq,<-R.cnt c (by omega)]
 refine wg _ (aC (i:=c) ?_)
 unfold bB
 rw[aO,getD_at hl,getD_at (show c<e.length by omega)]
theorem Lo:∀(e:List Nat) (k:Nat),(xS k e).length=aY e
 |[],_=>rfl
 |a::e,k=>by rw[yN,aw,fk,Lo e (k+1),ot]
theorem OY(f:ae)(d e:List Nat):(dO f d e).length=aY e:=by rw[(Eh f d e).length_eq,Lo]
theorem Rx{d e:List Nat}(he:e.length=d.length)(wg:∀n∈bB d e,n<=20):∀n∈e,n<=20:=λ n hn=>by
 obtain⟨i,hi,ei⟩:=cy hn
 have q1:=getD_at (d:=d) (c:=i) (by omega)
 have q2:e[i]? =some n:=by rw[af hi,ei]
 have:=wg _ (aC (i:=i) (by unfold bB;rw[aO,q1,q2]))
 omega
theorem OZ(d e:List Nat):DZ d (dU e)= !dr (bB d e):=by
 have e1:vH d (dU e)=(bB d e).map λ(n:Nat)=>(n:Int):=by
  unfold vH bB dU
  rw[iY,gK];rfl
 unfold DZ dr
 rw[e1,cJ,jH]
 congr 1
 funext n
 show decide ((n:Int)<=20)= !decide (20<n)
 by_cases q:n<=20
 ·rw[decide_eq_true (by omega),decide_eq_false (by omega)];rfl
 ·rw[decide_eq_false (by omega),decide_eq_true (by omega)];rfl
theorem Gw(n:Nat)(zs:List Int):(az n).map (λ(c:Nat)=>zs.count (c:Int))=gX n zs:=by
 unfold gX
 refine bO λ c _=>?_
 rw[List.count_eq_countP,dS]
theorem Ju{s:bS}{zs:List Int}(h:zs.all (eQ s)=true):iL zs=nV (bW zs)/\(∀c∈bW zs,c<s.field.cells.length)/\zs=dU (bW zs):=by
 rw[fv]at h
 have hz:∀z∈zs,0<=z/\z<=(s.field.cells.length:Int)-1:=λ z hz=>pj.mp (h z hz)
 have e:zs=dU (bW zs):=by
  unfold dU bW
  rw[aW]
  conv=>lhs;rw[<-hZ zs]
  refine bO λ z VU=>?_
  have:=hz z VU
  show z=((z.toNat:Nat):Int)
  omega
 refine⟨?_,λ c hc=>?_,e⟩
 ·rw[uq];exact congrArg iL e
 ·obtain⟨z,VU,rfl⟩:=List.mem_map.mp hc
  have:=hz z VU
  omega
theorem Yc{d:List Nat}{l:List Nat}(hl:∀c∈l,c<d.length)(h:∀n∈bB d (gX d.length (dU l)),n<=20):uD d l:=by
 refine Jt _ _ hl λ c hc=>?_
 have EE:=hl c hc
 refine h _ (aC (i:=c) ?_)
 unfold bB
 rw[aO,getD_at EE,<-Gw,ak,bc EE]
 show some (_+(dU l).count (c:Int))=_
 rw[show dU l=l.map (λ(n:Nat)=>(n:Int))from rfl,count_cast]
theorem TN{α:Type}(l:List α)(g:α->my):iL (l.flatMap λ j=>jP (g j))=nV (l.flatMap λ j=>qL (g j)):=by
 unfold iL nV
 rw[gB,gB];rfl
def Ry(s:bS)(f0:ae)(ns zs:List Int):List Int:=(eN s f0 (.curve (ns.getD 0 0))).2
theorem Vr(s:bS)(f0:ae)(ns zs:List Int)(wg:∀n∈s.done,n<=20):Ry s f0 ns zs=pd (bI (ns.getD 0 0) 0 60) (decide (((aY s.done:Nat):Int)+ns.getD 0 0<=20*((s.done.length:Nat):Int))) (left s.field s.done) (0::(az ((ns.getD 0 0).toNat+1)).flatMap λ j=>jP (dQ s.field s.done (eM (jQ s.field j s.done) s.done))):=
 (C8 s (bI (ns.getD 0 0) 0 60) (room s.done) (ns.getD 0 0).toNat _ _).trans (rF λ h=>(Jq wg (pj.mp h).1).symm)
abbrev Rz:List Str:=["search","numbers","row","many","refusal"]
theorem Gx:m7 Rz tp (mZ Cs):=qf
theorem Gy(F:pG K "call_curve" "call_curve" Cs f fd)(S:pY K CS)(oy:Vo P w K mg base CS CF CC CT)(qF:oC mg "MOST_BEST" 60)(oO:acu P w K mg base CS)(nB:oC mg "DONE" 0)(uQ:rA P w K mg base oE 4 "best_curve" ["tables","had","many"] Aw)(nQ:VX P w K mg base CS CF CC CT):nO P w K mg base oE 5 f fd tp (BF CS CF CC CT 1 Ry):=by
 refine F.ok Gx (λ vs H Q E h=>?_) (λ oU A outer s H vs Q E hr h=>?_)
 ·obtain⟨x,wl,hl,nl,rl,a,s',f0,ws,ns,zs,rfl,_⟩:=h
  rfl
 ·obtain⟨x,wl,hl,nl,rl,a,s',f0,ws,ns,zs,rfl,T,hn,hz,ln,lz,k⟩:=h
  have nd:=Gx.nd
  have nI:=S.cl
  refine⟨_,(mV (m6 (i:=3) nd rfl (Or.inl rfl) (oZ n9 (pv 1) nM (λ _ _=>rfl)))
   (mV (m6 (i:=4) nd rfl (Or.inl rfl) (nq (E:=E0) oy hr (by decide) nj (mU (pv 0) (mU (vk p7 p7 nM (pv 3) (nP qF)) (mU (pO (E:=E0) oO nI hr (by decide) nj (pv 0) (mU (pv 3) mW)) mW)))))
   (mV (pf (xD (pv 4) (λ _=>rfl)) (m4 (m9 (pv 4))) nX)
   (m4 (m9 (og qT (nN (mU (nP nB) mW)) (nq (E:=E0) uQ hr (by decide) nj (mU (oS (E:=E0) nQ nI hr (by decide) nj (pv 0)) (mU (m_ (pv 0) rfl) (mU (pv 3) mW)))))))))),?_⟩
  obtain⟨dx,hx⟩:=T.se.1
  rw[Vr _ _ _ _ T.tq]at k
  have h0:=Hl ln
  generalize hkk:ns.getD 0 0=kk at k h0
  have W:=T.fw
  refine⟨_,rfl,nl,_,_,_,rfl,rfl,nA.of hn,at_of (j:=0) rfl h0,_,rfl,ud gc gv gc ?_⟩
  refine⟨_,rfl,x,dx,_,rfl,hx,rfl,_,rfl,r8 (T.MJ ?_)⟩
  refine⟨x,wl,hl,a,s',f0,ws,_,_,rfl,T,λ H3 p s3 hp NR=>?_⟩
  refine⟨_,rfl,_,.inl ⟨_,nA.of NR,rfl⟩,Lm (λ h=>?_) λ h=>?_⟩
  ·exact⟨_,rfl,k H3 p s3 hp (Vl h NR)⟩
  ·obtain⟨c1,c2,c3⟩:=tR h
   rw[c1,c2,qD c3]at k
   obtain⟨i1,i2⟩:=pj.mp c1
   have c2:=of_decide_eq_true c2
   obtain⟨n,rfl⟩:∃n:Nat,kk=(n:Int):=⟨kk.toNat,by omega⟩
   rw[show((n:Int)).toNat=n from rfl]at k
   have rm:aY s'.done+n<=20*s'.done.length:=by omega
   refine⟨(by show 1<=ay;decide),λ l1 Kf=>?_⟩
   have s4:=s3.put (o:=.lst [V.int 0]) (none_of s3 Kf)
   refine⟨_,rfl,x,dx,_,rfl,s4 _ _ hx,rfl,r8 ((T.same s4).qo λ H5 tb ts s5 X8 X9 hT=>?_)⟩
   have Kg:=s4.trans s5
   refine⟨_,rfl,x,CS,dx,_,_,rfl,Kg _ _ hx,S.cl,S.n3,rfl,_,rfl,tb,hl,ts,s'.field,s'.done,n,rfl,W,X9,hT,Kg _ _ T.se.2.2,T.dl,T.tq,rm,cf c3,λ H6 q s6 hq hq6=>?_⟩
   refine⟨l1,q,_,_,rfl,rfl,s6 _ _ (s5 _ _ mX),hq6,(by rw[m8,Av,aA];show 1+ _<=_;omega),oY k (Kg.trans s6) ?_⟩
   rw[t7,TN];rfl
def RA(s:bS)(f0:ae)(ns zs:List Int):List Int:=(eN s f0 (.price (ns.getD 0 0))).2
theorem Vs(s:bS)(f0:ae)(ns zs:List Int)(wg:∀n∈s.done,n<=20):RA s f0 ns zs=pd (bI (ns.getD 0 0) 1 59) (decide (((aY s.done:Nat):Int)+(ns.getD 0 0+1)<=20*((s.done.length:Nat):Int))) (left s.field s.done) (0::(jP (f7 s.field s.done ((ns.getD 0 0).toNat-1))++jP (f7 s.field s.done (ns.getD 0 0).toNat))):=
 (C8 s (bI (ns.getD 0 0) 1 59) (room s.done) ((ns.getD 0 0).toNat+1) _ _).trans (rF λ h=>by
  have i:=(pj.mp h).1
  rw[Jq wg (by omega),show(ns.getD 0 0+1).toNat=(ns.getD 0 0).toNat+1 by omega])
abbrev RB:List Str:=["search","numbers","row","many","refusal"]
theorem Gz:m7 RB tp (mZ Ct):=qf
theorem GA(F:pG K "call_price" "call_price" Ct f fd)(S:pY K CS)(oy:Vo P w K mg base CS CF CC CT)(uR:oC mg "MOST_PRICE" 59)(oO:acu P w K mg base CS)(nB:oC mg "DONE" 0)(uS:rA P w K mg base oE 4 "best_price" ["tables","had","many"] Ax)(nQ:VX P w K mg base CS CF CC CT):nO P w K mg base oE 5 f fd tp (BF CS CF CC CT 1 RA):=by
 refine F.ok Gz (λ vs H Q E h=>?_) (λ oU A outer s H vs Q E hr h=>?_)
 ·obtain⟨x,wl,hl,nl,rl,a,s',f0,ws,ns,zs,rfl,_⟩:=h
  rfl
 ·obtain⟨x,wl,hl,nl,rl,a,s',f0,ws,ns,zs,rfl,T,hn,hz,ln,lz,k⟩:=h
  have nd:=Gz.nd
  have nI:=S.cl
  refine⟨_,(mV (m6 (i:=3) nd rfl (Or.inl rfl) (oZ n9 (pv 1) nM (λ _ _=>rfl)))
   (mV (m6 (i:=4) nd rfl (Or.inl rfl) (nq (E:=E0) oy hr (by decide) nj (mU (pv 0) (mU (vk p7 p7 nM (pv 3) (nP uR)) (mU (pO (E:=E0) oO nI hr (by decide) nj (pv 0) (mU (og qS (pv 3) nM) mW)) mW)))))
   (mV (pf (xD (pv 4) (λ _=>rfl)) (m4 (m9 (pv 4))) nX)
   (m4 (m9 (og qT (nN (mU (nP nB) mW)) (nq (E:=E0) uS hr (by decide) nj (mU (oS (E:=E0) nQ nI hr (by decide) nj (pv 0)) (mU (m_ (pv 0) rfl) (mU (pv 3) mW)))))))))),?_⟩
  obtain⟨dx,hx⟩:=T.se.1
  rw[Vs _ _ _ _ T.tq]at k
  have h0:=Hl ln
  generalize hkk:ns.getD 0 0=kk at k h0
  have W:=T.fw
  refine⟨_,rfl,nl,_,_,_,rfl,rfl,nA.of hn,at_of (j:=0) rfl h0,_,rfl,ud gc gv gc ?_⟩
  refine⟨_,rfl,x,dx,_,rfl,hx,rfl,_,rfl,_,_,rfl,rfl,r8 (T.MJ ?_)⟩
  refine⟨x,wl,hl,a,s',f0,ws,_,_,rfl,T,λ H3 p s3 hp NR=>?_⟩
  refine⟨_,rfl,_,.inl ⟨_,nA.of NR,rfl⟩,Lm (λ h=>?_) λ h=>?_⟩
  ·exact⟨_,rfl,k H3 p s3 hp (Vl h NR)⟩
  ·obtain⟨c1,c2,c3⟩:=tR h
   rw[c1,c2,qD c3]at k
   obtain⟨i1,i2⟩:=pj.mp c1
   have c2:=of_decide_eq_true c2
   obtain⟨n,rfl⟩:∃n:Nat,kk=(n:Int):=⟨kk.toNat,by omega⟩
   rw[show((n:Int)).toNat=n from rfl]at k
   have rm:aY s'.done+(n+1)<=20*s'.done.length:=by omega
   refine⟨(by show 1<=ay;decide),λ l1 Kf=>?_⟩
   have s4:=s3.put (o:=.lst [V.int 0]) (none_of s3 Kf)
   refine⟨_,rfl,x,dx,_,rfl,s4 _ _ hx,rfl,r8 ((T.same s4).qo λ H5 tb ts s5 X8 X9 hT=>?_)⟩
   have Kg:=s4.trans s5
   refine⟨_,rfl,x,CS,dx,_,_,rfl,Kg _ _ hx,S.cl,S.n3,rfl,_,rfl,tb,hl,ts,s'.field,s'.done,n,rfl,W,X9,hT,Kg _ _ T.se.2.2,T.dl,T.tq,rm,by omega,cf c3,λ H6 q s6 hq hq6=>?_⟩
   refine⟨l1,q,_,_,rfl,rfl,s6 _ _ (s5 _ _ mX),hq6,(by show 5<=ay;decide),oY k (Kg.trans s6) rfl⟩
def ML(s:bS)(f0:ae)(ns zs:List Int):List Int:=(eN s f0 (.thrift_ (ns.getD 0 0))).2
theorem RC(s:bS)(f0:ae)(ns zs:List Int):ML s f0 ns zs=pd (bI (ns.getD 0 0) 0 100) true (left s.field s.done) (0::(dU (f6 s.field s.done (ns.getD 0 0).toNat)++jP (dQ s.field s.done (f6 s.field s.done (ns.getD 0 0).toNat)))):=by
 show(if bI (ns.getD 0 0) 0 100=false then(s,[-1])else if left s.field s.done=0 then(s,[-6])else(s,_)).2=_
 unfold pd
 cases bI (ns.getD 0 0) 0 100 with
 |false=>rfl
 |true=>
  by_cases h:left s.field s.done=0
  ·simp[h]
  ·simp[h]
abbrev O1:List Str:=["search","numbers","row","time","tables","best"]
theorem Ei:m7 O1 tp (mZ z8):=qf
abbrev aar(P:aK)(w:bj)(K:ah)(mg:Str->Option ao)(base:bF)(CS:ag)(CF:ag)(CC:ag)(CT:ag):Prop:=um P w K mg base oE 1 CS "times" ["self"] (Hj CS CF CC CT)
theorem Ej(F:pG K "call_thrift" "call_thrift" z8 f fd)(S:pY K CS)(t8:oC mg "MOST_THRIFT" 100)(nF:oC mg "NOT_AS_TOLD" (-1))(qO:X7 P w K mg base CS CF CC CT)(nU:oC mg "NOTHING_LEFT" (-6))(nQ:VX P w K mg base CS CF CC CT)(uT:rA P w K mg base oE 3 "thrift_row" ["tables","had","times","greatest"] AF)(rS:aar P w K mg base CS CF CC CT)(nB:oC mg "DONE" 0)(qr:aaq P w K mg base):nO P w K mg base oE 4 f fd tp (BF CS CF CC CT 1 ML):=by
 refine F.ok Ei (λ vs H Q E h=>?_) (λ oU A outer s H vs Q E hr h=>?_)
 ·obtain⟨x,wl,hl,nl,rl,a,s',f0,ws,ns,zs,rfl,_⟩:=h
  rfl
 ·obtain⟨x,wl,hl,nl,rl,a,s',f0,ws,ns,zs,rfl,T,hn,hz,ln,lz,k⟩:=h
  have nd:=Ei.nd
  have nI:=S.cl
  refine⟨_,(mV (m6 (i:=3) nd rfl (Or.inl rfl) (oZ n9 (pv 1) nM (λ _ _=>rfl)))
   (mV (pf (vi (vm p7 p7 nM (pv 3) (nP t8))) (m4 (m9 (nN (mU (nP nF) mW)))) nX)
   (mV (pf (om ub (oS (E:=E0) qO nI hr (by decide) nj (pv 0)) nM (oH _)) (m4 (m9 (nN (mU (nP nU) mW)))) nX)
   (mV (m6 (i:=4) nd rfl (Or.inl rfl) (oS (E:=E0) nQ nI hr (by decide) nj (pv 0)))
   (mV (m6 (i:=5) nd rfl (Or.inl rfl) (nq (E:=E0) uT hr (by decide) nj (mU (pv 4) (mU (m_ (pv 0) rfl) (mU (oS (E:=E0) rS nI hr (by decide) nj (pv 0)) (mU (pv 3) mW))))))
   (m4 (m9 (og qT (og qT (nN (mU (nP nB) mW)) (pv 5)) (nq (E:=E0) qr hr (by decide) nj (mU (pv 4) (mU (m_ (pv 0) rfl) (mU (pv 5) mW)))))))))))),?_⟩
  obtain⟨dx,hx⟩:=T.se.1
  rw[RC]at k
  have h0:=Hl ln
  generalize hkk:ns.getD 0 0=kk at k h0
  have W:=T.fw
  have wB:=T.wB
  refine⟨_,rfl,nl,_,_,_,rfl,rfl,nA.of hn,at_of (j:=0) rfl h0,KO gc gv gc (λ hc=>?_) λ hc=>?_⟩
  ·have e:bI kk 0 100=false:=by
    cases q:bI kk 0 100 with
    |false=>rfl
    |true=>exact absurd (pj.mp q) hc
   rw[e]at k
   exact⟨(by show 1<=ay;decide),oY k (m5.refl _) rfl⟩
  rw[pj.mpr hc]at k
  refine⟨_,rfl,x,dx,_,rfl,hx,rfl,r8 (T.AH λ H1 s1=>⟨rfl,_,rfl,p8 (λ hc=>?_) λ hc=>?_⟩)⟩
  ·have hc:=V.int.inj (of_decide_eq_true hc)
   have e:left s'.field s'.done=0:=by omega
   rw[e]at k
   exact⟨(by show 1<=ay;decide),oY k s1 rfl⟩
  have c3:left s'.field s'.done≠0:=λ z=>hc (decide_eq_true (by rw[z];rfl))
  rw[qD c3]at k
  obtain⟨n,rfl⟩:∃n:Nat,kk=(n:Int):=⟨kk.toNat,by omega⟩
  rw[show((n:Int)).toNat=n from rfl]at k
  refine⟨_,rfl,x,dx,_,rfl,s1 _ _ hx,rfl,r8 ((T.same s1).qo λ H2 tb ts s2 X8 Yd hT=>?_)⟩
  have vE:=s1.trans s2
  refine⟨_,rfl,_,rfl,x,CS,dx,_,_,rfl,vE _ _ hx,S.cl,S.n3,rfl,_,rfl,x,dx,_,rfl,vE _ _ hx,rfl,r8 ((T.same vE).Fw λ H3 tm s3 htm ae_=>?_)⟩
  have wF:=vE.trans s3
  obtain⟨t1,t2⟩:=Vq (f:=s'.field) (B:=n) T.dl T.tq
  refine⟨_,rfl,tb,hl,tm,ts,s'.field,s'.done,n,rfl,T.time,s3 _ _ Yd,hT.same s3,wF _ _ T.se.2.2,ae_,T.dl,T.tq,by rw[T.len];exact wB,by omega,λ H4 wb s4 hrw Ye=>?_⟩
  generalize hB:f6 s'.field s'.done n=B at *
  have K4:=wF.trans s4
  refine⟨(by show 1<=ay;decide),λ l1 Kf=>?_⟩
  have s7:=m5.new (o:=.lst [V.int 0]) Kf
  refine⟨_,rfl,l1,wb,_,_,rfl,rfl,mX,s7 _ _ Ye,(by rw[m8,t1,T.ld,aA];show 1+ _<=_;omega),λ l2 Nm=>?_⟩
  have s8:=s7.trans (m5.new (o:=.lst ([V.int 0]++nV B)) Nm)
  have Rv:=K4.trans s8
  refine⟨_,rfl,_,rfl,x,CS,dx,_,_,rfl,Rv _ _ hx,S.cl,S.n3,rfl,_,rfl,tb,hl,wb,ts,s'.field,s'.done,B,rfl,W,s8 _ _ (s4 _ _ (s3 _ _ Yd)),hT.same (s3.trans (s4.trans s8)),Rv _ _ T.se.2.2,s8 _ _ Ye,T.dl,t1,t2,cf c3,λ H9 q s9 hq hq9=>?_⟩
  refine⟨l2,q,_,_,rfl,rfl,s9 _ _ mX,hq9,(by rw[aw,m8,t1,T.ld,aA];show 1+ _+2<=_;omega),oY k (Rv.trans s9) ?_⟩
  rw[t7,AI,Bx];rfl
def RD(s:bS)(f0:ae)(ns zs:List Int):List Int:=(eN s f0 (.order zs)).2
theorem Vt(s:bS)(f0:ae)(ns zs:List Int):RD s f0 ns zs=pd (fJ s zs) (DZ s.done zs) (left s.field s.done) (0::(jh (dO s.field s.done (bW zs))++jP (iu s.field s.done (dO s.field s.done (bW zs))))):=
 (C7 s (fJ s zs) (dr (bB s.done (bW zs))) _ _).trans (rF λ h=>(Bw h _).symm)
abbrev RE:List Str:=["search","numbers","row","refusal","tables","times","order"]
theorem GB:m7 RE tp (mZ Cu):=qf
theorem GC(F:pG K "call_order" "call_order" Cu f fd)(S:pY K CS)(oy:Vo P w K mg base CS CF CC CT)(qR:acr P w K mg base CS)(pX:acs P w K mg base CS)(nQ:VX P w K mg base CS CF CC CT)(rS:aar P w K mg base CS CF CC CT)(uU:rA P w K mg base oE 2 "best_order" ["tables","had","times","row"] Az)(nB:oC mg "DONE" 0)(o9:mg "len"=none)(pI:rA P w K mg base oE 3 "expected_time" ["tables","had","times","order"] sP):nO P w K mg base oE 5 f fd tp (BF CS CF CC CT 0 RD):=by
 refine F.ok GB (λ vs H Q E h=>?_) (λ oU A outer s H vs Q E hr h=>?_)
 ·obtain⟨x,wl,hl,nl,rl,a,s',f0,ws,ns,zs,rfl,_⟩:=h
  rfl
 ·obtain⟨x,wl,hl,nl,rl,a,s',f0,ws,ns,zs,rfl,T,hn,hz,ln,lz,k⟩:=h
  have nd:=GB.nd
  have nI:=S.cl
  refine⟨_,(mV (m6 (i:=3) nd rfl (Or.inl rfl) (nq (E:=E0) oy hr (by decide) nj (mU (pv 0) (mU (pO (E:=E0) qR nI hr (by decide) nj (pv 0) (mU (pv 2) mW)) (mU (pO (E:=E0) pX nI hr (by decide) nj (pv 0) (mU (pv 2) mW)) mW)))))
   (mV (pf (xD (pv 3) (λ _=>rfl)) (m4 (m9 (pv 3))) nX)
   (mV (m6 (i:=4) nd rfl (Or.inl rfl) (oS (E:=E0) nQ nI hr (by decide) nj (pv 0)))
   (mV (m6 (i:=5) nd rfl (Or.inl rfl) (oS (E:=E0) rS nI hr (by decide) nj (pv 0)))
   (mV (m6 (i:=6) nd rfl (Or.inl rfl) (nq (E:=E0) uU hr (by decide) nj (mU (pv 4) (mU (m_ (pv 0) rfl) (mU (pv 5) (mU (pv 2) mW))))))
   (m4 (m9 (og qT (og qT (nN (mU (nP nB) (mU (nJ nL rfl o9 aX (mU (pv 6) mW)) mW))) (pv 6)) (nq (E:=E0) pI hr (by decide) nj (mU (pv 4) (mU (m_ (pv 0) rfl) (mU (pv 5) (mU (pv 6) mW))))))))))))),?_⟩
  obtain⟨dx,hx⟩:=T.se.1
  rw[Vt]at k
  have wB:=T.wB
  refine⟨_,rfl,_,rfl,x,dx,_,rfl,hx,rfl,_,rfl,r8 (T.MH hz lz λ H1 s1=>?_)⟩
  refine⟨_,rfl,x,dx,_,rfl,s1 _ _ hx,rfl,_,rfl,r8 ((T.same s1).Jp (s1 _ _ hz) λ H2 s2=>?_)⟩
  have vE:=s1.trans s2
  have T2:=T.same vE
  refine⟨x,wl,hl,a,s',f0,ws,_,_,rfl,T2,λ H3 p s3 hp NR=>?_⟩
  have wF:=vE.trans s3
  refine⟨_,rfl,_,.inl ⟨_,nA.of NR,rfl⟩,Lm (λ h=>?_) λ h=>?_⟩
  ·exact⟨_,rfl,k H3 p wF (none_of vE hp) (Vl h NR)⟩
  obtain⟨c1,c2,c3⟩:=tR h
  rw[c1,c2,qD c3]at k
  obtain⟨r1,r2,r3,r4⟩:=Eg c1
  have tm:dr (bB s'.done (bW zs))=false:=by
   rw[Bw c1]at c2
   cases q:dr (bB s'.done (bW zs))with
   |false=>rfl
   |true=>rw[q]at c2;cases c2
  have m20:=MK tm
  have W:=T.fw
  have le:(bW zs).length=s'.done.length:=by rw[r2,T.dl]
  have ok:=Rw (f:=s'.field) le m20
  have ol:(dO s'.field s'.done (bW zs)).length<=320:=by
   rw[OY]
   have:=DR (B:=20) _ (Rx le m20)
   rw[le,T.ld]at this
   omega
  refine⟨_,rfl,x,dx,_,rfl,wF _ _ hx,rfl,r8 ((T.same wF).qo λ H4 tb ts s4 X8 Yb hT=>?_)⟩
  have K4:=wF.trans s4
  refine⟨_,rfl,x,dx,_,rfl,K4 _ _ hx,rfl,r8 ((T.same K4).Fw λ H5 tt s5 htt adV=>?_)⟩
  have Kg:=K4.trans s5
  refine⟨_,rfl,_,rfl,x,CS,dx,_,_,rfl,Kg _ _ hx,S.cl,S.n3,rfl,_,rfl,_,rfl,tb,hl,tt,rl,ts,s'.field,s'.done,bW zs,rfl,T.time,s5 _ _ Yb,hT.same s5,Kg _ _ T.se.2.2,adV,by rw[Kg _ _ hz,r1],T.dl,le,by rw[T.ld];exact wB,m20,λ H6 od s6 hod acx=>?_⟩
  generalize hB:dO s'.field s'.done (bW zs)=B at *
  have VY:=Kg.trans s6
  refine⟨_,rfl,od,_,rfl,.inl (nA.of acx),(by show 2<=ay;decide),λ l1 Kf=>?_⟩
  have s7:=m5.new (o:=.lst [V.int 0,V.int ((nV B).length:Nat)]) Kf
  refine⟨_,rfl,l1,od,_,_,rfl,rfl,mX,s7 _ _ acx,(by rw[m8,aA];show 2+ _<=_;omega),λ l2 Nm=>?_⟩
  have s8:=s7.trans (m5.new (o:=.lst ([V.int 0,V.int ((nV B).length:Nat)]++nV B)) Nm)
  have Rv:=VY.trans s8
  refine⟨_,rfl,_,rfl,x,CS,dx,_,_,rfl,Rv _ _ hx,S.cl,S.n3,rfl,_,rfl,_,rfl,tb,hl,tt,od,ts,s'.field,s'.done,B,rfl,W,T.time,s8 _ _ (s6 _ _ (s5 _ _ Yb)),hT.same (s5.trans (s6.trans s8)),Rv _ _ T.se.2.2,s8 _ _ (s6 _ _ adV),s8 _ _ acx,T.dl,T.tq,by omega,ok,cf c3,λ H9 q s9 hq hq9=>?_⟩
  refine⟨l2,q,_,_,rfl,rfl,s9 _ _ mX,hq9,(by rw[aw,m8,aA];show 2+ _+2<=_;omega),oY k (Rv.trans s9) ?_⟩
  rw[t7,AI,m8]
  unfold jh
  rw[t7,Bx];rfl
def RF(s:bS)(f0:ae)(ns zs:List Int):List Int:=(eN s f0 (.takes zs)).2
theorem Vu(s:bS)(f0:ae)(ns zs:List Int):RF s f0 ns zs=pd (decide (zs.length<=60) && zs.all (eQ s)) (DZ s.done (dU (gX s.field.cells.length zs))) (left s.field s.done) (0::jP (iu s.field s.done (bW zs))):=
 (C7 s (decide (zs.length<=60) && zs.all (eQ s)) (dr (bB s.done (gX s.field.cells.length zs))) _ _).trans (rF λ _=>(OZ _ _).symm)
abbrev Jv:List Str:=["search","numbers","order","as_told","refusal","cell"]
theorem GD:m7 Jv ["search","numbers","order"] (mZ yj):=qf
abbrev aas(P:aK)(w:bj)(K:ah)(mg:Str->Option ao)(base:bF)(CS:ag):Prop:=um P w K mg base oE 1 CS "is_cell" ["self","number"] (DT CS)
theorem GF(F:pG K "call_takes" "call_takes" yj f fd)(S:pY K CS)(o9:mg "len"=none)(rT:oC mg "MOST_IN_ORDER" 60)(zJ:mg "all"=none)(pF:aas P w K mg base CS)(oy:Vo P w K mg base CS CF CC CT)(pX:acs P w K mg base CS)(ug:rA P w K mg base oE 1 "row_of" ["order","many_cells"] Hh)(nB:oC mg "DONE" 0)(pI:rA P w K mg base oE 3 "expected_time" ["tables","had","times","order"] sP)(nQ:VX P w K mg base CS CF CC CT)(rS:aar P w K mg base CS CF CC CT):nO P w K mg base oE 5 f fd ["search","numbers","order"] (BF CS CF CC CT 0 RF):=by
 refine F.ok GD (λ vs H Q E h=>?_) (λ oU A outer s H vs Q E hr h=>?_)
 ·obtain⟨x,wl,hl,nl,rl,a,s',f0,ws,ns,zs,rfl,_⟩:=h
  rfl
 ·obtain⟨x,wl,hl,nl,rl,a,s',f0,ws,ns,zs,rfl,T,hn,hz,ln,lz,k⟩:=h
  have nd:=GD.nd
  have nI:=S.cl
  refine⟨_,(mV (m6 (i:=3) nd rfl (Or.inl rfl) (LF (rP p7 (nJ nL rfl o9 aX (mU (pv 2) mW)) (nP rT) (oH _)) (LD (nJ (B_ rfl) rfl zJ iK (mU (qp (own:=[("cell",5)]) rfl nd (oJ (pv 2)) (by exact pz.of (N:=Jv) (sc:=mZ yj) (by decide +kernel)) (λ _ _ _ _ _=>by exact(nr (i:=5) nd rfl (Or.inl rfl))) (λ _ _ _ _ _=>by exact oP) (λ _ _ _ _ _=>by exact(pO (E:=E0) pF nI hr (by decide) nj (pv 0) (mU (pv 5) mW)))) mW)))))
   (mV (m6 (i:=4) nd rfl (Or.inl rfl) (nq (E:=E0) oy hr (by decide) nj (mU (pv 0) (mU (pv 3) (mU (pO (E:=E0) pX nI hr (by decide) nj (pv 0) (mU (nq (E:=E0) ug hr (by decide) nj (mU (pv 2) (mU (nJ nL rfl o9 aX (mU (m_ (pv 0) rfl) mW)) mW))) mW)) mW)))))
   (mV (pf (xD (pv 4) (λ _=>rfl)) (m4 (m9 (pv 4))) nX)
   (m4 (m9 (og qT (nN (mU (nP nB) mW)) (nq (E:=E0) pI hr (by decide) nj (mU (oS (E:=E0) nQ nI hr (by decide) nj (pv 0)) (mU (m_ (pv 0) rfl) (mU (oS (E:=E0) rS nI hr (by decide) nj (pv 0)) (mU (pv 2) mW))))))))))),?_⟩
  obtain⟨dx,hx⟩:=T.se.1
  rw[Vu]at k
  have wB:=T.wB
  have W:=T.fw
  refine ae9 (b1:=decide (zs.length<=60)) (b2:=zs.all (eQ s')) (λ R q=>?_) (λ hb R q=>?_) λ H1 s1=>?_
  ·refine⟨_,rfl,rl,_,rfl,.inl (nA.of hz),_,_,rfl,rfl,?_⟩
   have e:decide (((iL zs).length:Int)<=60)=decide (zs.length<=60):=by rw[pU];exact decide_eq_decide.mpr (by omega)
   show R (V.bl (decide (((iL zs).length:Int)<=60))) H
   rw[e];exact q
  ·refine⟨_,rfl,rl,rfl,⟨_,nA.of hz⟩,?_⟩
   refine oV (oQ (K:=K) (xs:=iL zs) (nA.of hz)) (zs.map λ z=>V.bl (eQ s' z)) (by rw[pU,aa]) (by rw[pU,aA];omega) (λ j x y H3 R3 N3 hy pE hF kk=>?_) (λ D H3 hD pE uC=>?_)
   ·obtain⟨z,q1,rfl⟩:=Fo hF
    rw[ak,q1]at hy
    cases hy
    exact⟨rfl,sy ⟨_,rfl,_,dx,_,rfl,pE _ _ hx,rfl,_,rfl,r8 ((T.same pE).Ef (kk H3 (m5.refl _)))⟩⟩
   ·refine⟨D,zs.map (eQ s'),rfl,nA.of (by rw[uC,aW];rfl),?_⟩
    rw[cJ]
    exact q H3 pE
  have T1:=T.same s1
  refine⟨_,rfl,_,rfl,_,rfl,x,dx,_,rfl,s1 _ _ hx,rfl,_,rfl,_,rfl,x,CS,dx,_,_,rfl,s1 _ _ hx,S.cl,S.n3,rfl,hl,_,rfl,.inl (nA.of (s1 _ _ T.se.2.2)),rl,zs,s'.done.length,by rw[m8],s1 _ _ hz,by rw[T.ld];exact wB,λ H2 ro s2 hro adW=>?_⟩
  have vE:=s1.trans s2
  rw[Gw,T.dl,<-Bx]at adW
  refine r8 ((T.same vE).Jp adW λ H3 s3=>?_)
  have wF:=vE.trans s3
  refine⟨x,wl,hl,a,s',f0,ws,_,_,rfl,T.same wF,λ H4 p s4 hp hp4=>?_⟩
  have K4:=wF.trans s4
  refine⟨_,rfl,_,.inl ⟨_,nA.of hp4,rfl⟩,Lm (λ h=>?_) λ h=>?_⟩
  ·exact⟨_,rfl,k H4 p K4 (none_of wF hp) (Vl h hp4)⟩
  obtain⟨c1,c2,c3⟩:=tR h
  rw[c1,c2,qD c3]at k
  rw[bg]at c1
  obtain⟨r1,r2,r3⟩:=Ju c1.2
  have tm:dr (bB s'.done (gX s'.field.cells.length zs))=false:=by
   rw[OZ]at c2
   cases q:dr (bB s'.done (gX s'.field.cells.length zs))with
   |false=>rfl
   |true=>rw[q]at c2;cases c2
  have m20:=MK tm
  rw[<-T.dl,r3]at m20
  have ok:=Yc (d:=s'.done) (l:=bW zs) (λ c hc=>by rw[T.dl];exact r2 c hc) m20
  refine⟨(by show 1<=ay;decide),λ l1 Kf=>?_⟩
  have s5:=K4.put (o:=.lst [V.int 0]) (none_of K4 Kf)
  refine⟨_,rfl,x,dx,_,rfl,s5 _ _ hx,rfl,r8 ((T.same s5).qo λ H6 tb ts s6 X8 afa hT=>?_)⟩
  have VY:=s5.trans s6
  refine⟨_,rfl,x,CS,dx,_,_,rfl,VY _ _ hx,S.cl,S.n3,rfl,_,rfl,x,dx,_,rfl,VY _ _ hx,rfl,r8 ((T.same VY).Fw λ H7 tt s7 htt afb=>?_)⟩
  have s17:=VY.trans s7
  refine⟨_,rfl,tb,hl,tt,rl,ts,s'.field,s'.done,bW zs,rfl,W,T.time,s7 _ _ afa,hT.same s7,s17 _ _ T.se.2.2,afb,by rw[s17 _ _ hz,r1],T.dl,T.tq,by unfold bW;rw[aa];omega,ok,cf c3,λ H9 q s9 hq hq9=>?_⟩
  exact⟨l1,q,_,_,rfl,rfl,s9 _ _ (s7 _ _ (s6 _ _ mX)),hq9,(by show 3<=ay;decide),oY k (s17.trans s9) rfl⟩
theorem Jw{f:ae}:∀(k:Nat) (d:List Nat) (u:Use) (pL:List Nat),(∀n∈d,n<=20)->(eF f k d u pL).length=d.length/\(∀i,d.getD i 0<=(eF f k d u pL).getD i 0)/\∀n∈eF f k d u pL,n<=20
 |0,d,u,pL,h=>⟨rfl,λ i=>ax _,h⟩
 |k+1,d,u,pL,h=>by
  rw[Ji]
  cases hn:Jh f d pL with
  |none=>exact⟨rfl,λ i=>ax _,h⟩
  |some c=>
   obtain⟨⟨n1,n2,n3,n4⟩,_⟩:=MD.1 c hn
   dsimp only
   cases eX f c u with
   |none=>exact Jw k d u (c::pL) h
   |some v=>
    obtain⟨a1,a2,a3⟩:=Jw (f:=f) k (bump d c) v pL λ n hn=>DW h n3 hn
    refine⟨by rw[a1,pV],λ i=>aV ?_ (a2 i),a3⟩
    rw[Bo n1]
    by_cases e:i=c
    ·subst e;rw[if_pos rfl];omega
    ·rw[if_neg e];exact ax _
theorem Vv{d D:List Nat}(hl:D.length=d.length)(h:∀i,d.getD i 0<=D.getD i 0):bB d (eM D d)=D:=by
 unfold bB eM
 apply bN
 intro i
 rw[aO,aO]
 by_cases hi:i<d.length
 ·rw[getD_at hi,getD_at (d:=D) (show i<D.length by omega)]
  show some _=some _
  congr 1
  have:=h i
  omega
 ·rw[aI (show d.length<=i by omega),aI (show D.length<=i by omega)]
theorem Yf{d D:List Nat}(hl:D.length=d.length):(eM D d).length=d.length:=by unfold eM;rw[de,hl,fY]
theorem Vw{f:ae}:aY ((nY f).map λ t=>t.getD 0 0)=left f (d6 f):=by
 have h:=tL (f:=f) (d:=d6 f) (by unfold d6;rw[aa]) λ n hn=>by
  obtain⟨_,_,rfl⟩:=List.mem_map.mp hn
  exact aE _
 rw[<-h]
 unfold aaa
 congr 1
 apply bN
 intro i
 rw[ak,ak]
 by_cases hi:i<(nY f).length
 ·have e1:(nY f)[i]? =some (nY f)[i]:=af hi
  have e2:(d6 f)[i]? =some 0:=by
   unfold d6
   rw[ak,af (by rw[pM]at hi;exact hi)];rfl
  rw[(gj (z:=((nY f)[i],0))).mpr ⟨e1,e2⟩,e1];rfl
 ·rw[aI (by omega),aI (by rw[eI];omega)];rfl
theorem O8{f:ae}(ok:DQ f)(XB:∀c∈f.cells,c.name.length<=8):(iB f).length<=23000:=by
 have XE:f.parts<=1000:=by have:=ok.parts;omega
 rw[IC]
 generalize Y8:[ic [bY "parts",dB f.parts]]++f.cells.map CU++f.teams.map (w9 f)=ls
 have h1:ls.flatten.length<=ls.length*1000:=Mq ls λ z hz=>by
  rw[<-Y8]at hz
  rcases List.mem_append.mp hz with hz|hz
  ·rcases List.mem_append.mp hz with hz|hz
   ·simp only[dh,cK,or_false]at hz
    rw[hz]
    refine DV (by simp) λ z hz=>?_
    have d1:=sO _ XE
    have b1:(bY "parts").length<=30:=by decide
    simp only[dh,cK,or_false]at hz
    rcases hz with rfl|rfl <;> omega
   ·obtain⟨c,hc,rfl⟩:=List.mem_map.mp hz
    have co:=ok.cells.each _ hc
    have pp:=ok.parts
    exact ID (XB c hc) co.weight (by have:=co.finds;omega) (by have:=co.time;omega)
  ·obtain⟨t,ht,rfl⟩:=List.mem_map.mp hz
   exact IE ok.cells.len XB (ok.teams.each t ht)
 have h2:ls.length<=23:=by
  have:=ok.cells.len
  have:=ok.teams.len
  rw[<-Y8,aw,aw,aa,aa]
  show 1+ _+ _<=23
  omega
 have h3:ls.length*1000<=23*1000:=c7 _ h2
 omega
theorem acy{f:ae}{m:Nat}{e:List Nat}(hm:e.length=m):((nH f.teams).all λ L=>decide (0<=spB (rO f.teams) m L e))=jA f e:=by
 rw[du,OQ,fv,hm]
 exact⟨λ h L hL=>of_decide_eq_true (h L hL),λ h L hL=>decide_eq_true (h L hL)⟩
theorem Yg{f0:ae}(ok:DQ f0)(bs:List ag):∀z∈bs.zip f0.teams,z.2.cells.length<=16:=λ z hz=>by
 have t:=ok.teams.each z.2 (gO hz).2
 have:=Ap t.nd t.lt
 have:=ok.cells.len
 omega
def RG(s:bS)(f0:ae)(ns zs:List Int):List Int:=(eN s f0 .teams).2
theorem Vx(s:bS)(f0:ae)(ns zs:List Int):RG s f0 ns zs=pd true true (left s.field s.done) (0::(dU (eM (fR s.field s.done) s.done)++jP (dQ s.field s.done (eM (fR s.field s.done) s.done)))):=by
 show(if left s.field s.done=0 then(s,[-6])else(s,_)).2=_
 unfold pd
 by_cases h:left s.field s.done=0
 ·simp[h]
 ·simp[h]
abbrev RH:List Str:=["search","numbers","row","tables","best"]
theorem GG:m7 RH tp (mZ Cv):=qf
theorem GH(F:pG K "call_teams" "call_teams" Cv f fd)(S:pY K CS)(nG:Rec P w K mg base "Field" CF CN)(qO:X7 P w K mg base CS CF CC CT)(nU:oC mg "NOTHING_LEFT" (-6))(nQ:VX P w K mg base CS CF CC CT)(wJ:rA P w K mg base oE 3 "teams_row" ["bounds","tables","had"] (C6 CB))(qG:rA P w K mg base oE 3 "bounds_of" ["teams","many_cells"] (yP CT CB))(o9:mg "len"=none)(nB:oC mg "DONE" 0)(qr:aaq P w K mg base):nO P w K mg base oE 4 f fd tp (BF CS CF CC CT 0 RG):=by
 refine F.ok GG (λ vs H Q E h=>?_) (λ oU A outer s H vs Q E hr h=>?_)
 ·obtain⟨x,wl,hl,nl,rl,a,s',f0,ws,ns,zs,rfl,_⟩:=h
  rfl
 ·obtain⟨x,wl,hl,nl,rl,a,s',f0,ws,ns,zs,rfl,T,hn,hz,ln,lz,k⟩:=h
  have nd:=GG.nd
  have nI:=S.cl
  refine⟨_,(mV (pf (om ub (oS (E:=E0) qO nI hr (by decide) nj (pv 0)) nM (oH _)) (m4 (m9 (nN (mU (nP nU) mW)))) nX)
   (mV (m6 (i:=3) nd rfl (Or.inl rfl) (oS (E:=E0) nQ nI hr (by decide) nj (pv 0)))
   (mV (m6 (i:=4) nd rfl (Or.inl rfl) (nq (E:=E0) wJ hr (by decide) nj (mU (nq (E:=E0) qG hr (by decide) nj (mU (m_ (m_ (pv 0) rfl) rfl) (mU (nJ nL rfl o9 aX (mU (m_ (pv 0) rfl) mW)) mW))) (mU (pv 3) (mU (m_ (pv 0) rfl) mW)))))
   (m4 (m9 (og qT (og qT (nN (mU (nP nB) mW)) (pv 4)) (nq (E:=E0) qr hr (by decide) nj (mU (pv 3) (mU (m_ (pv 0) rfl) (mU (pv 4) mW)))))))))),?_⟩
  obtain⟨dx,hx⟩:=T.se.1
  rw[Vx]at k
  have W:=T.fw
  have wB:=T.wB
  refine⟨_,rfl,x,dx,_,rfl,hx,rfl,r8 (T.AH λ H1 s1=>⟨rfl,_,rfl,p8 (λ hc=>?_) λ hc=>?_⟩)⟩
  ·have hc:=V.int.inj (of_decide_eq_true hc)
   have e:left s'.field s'.done=0:=by omega
   rw[e]at k
   exact⟨(by show 1<=ay;decide),oY k s1 rfl⟩
  have c3:left s'.field s'.done≠0:=λ z=>hc (decide_eq_true (by rw[z];rfl))
  rw[qD c3]at k
  refine⟨_,rfl,x,dx,_,rfl,s1 _ _ hx,rfl,r8 ((T.same s1).qo λ H2 tb ts s2 X8 Yd hT=>?_)⟩
  have vE:=s1.trans s2
  obtain⟨df,lc,lt,as,bs,f1,f2,f3,f4,f5⟩:=(T.same vE).field
  obtain⟨z1,z2,z3⟩:=Rn f5
  refine⟨_,rfl,x,CS,dx,_,_,rfl,vE _ _ hx,S.cl,S.n1,rfl,a,CF,df,_,_,rfl,f1,nG.cl,nG.na "teams" (by simp),rfl,_,rfl,x,CS,dx,_,_,rfl,vE _ _ hx,S.cl,S.n3,rfl,hl,_,rfl,.inl (nA.of (vE _ _ T.se.2.2)),lt,bs.zip f0.teams,s'.done.length,by rw[m8],by rw[z2];exact f4,z1,by rw[eI];have:=T.ok.teams.len;omega,by rw[T.ld];exact wB,Yg T.ok bs,λ H3 bq ks s3 hbq acz hks=>?_⟩
  rw[z3,<-T.teams]at hks
  have wF:=vE.trans s3
  refine⟨_,rfl,_,rfl,x,CS,dx,_,_,rfl,wF _ _ hx,S.cl,S.n3,rfl,bq,tb,hl,ks,ts,s'.field,s'.done,rfl,acz,hks,s3 _ _ Yd,hT.same s3,wF _ _ T.se.2.2,T.dl,by rw[T.ld];exact wB,λ H4 wb s4 hrw Ye=>?_⟩
  obtain⟨g1,g2,g3⟩:=Jw (f:=s'.field) ((ly s'.field).length+s'.field.cells.length) s'.done [] [] T.tq
  have ml:bB s'.done (eM (fR s'.field s'.done) s'.done)=fR s'.field s'.done:=Vv g1 g2
  have t1:(eM (fR s'.field s'.done) s'.done).length=s'.done.length:=Yf g1
  have t2:∀n∈bB s'.done (eM (fR s'.field s'.done) s'.done),n<=20:=by rw[ml];exact g3
  generalize hB:eM (fR s'.field s'.done) s'.done=B at *
  have K4:=wF.trans s4
  refine⟨(by show 1<=ay;decide),λ l1 Kf=>?_⟩
  have s7:=m5.new (o:=.lst [V.int 0]) Kf
  refine⟨_,rfl,l1,wb,_,_,rfl,rfl,mX,s7 _ _ Ye,(by rw[m8,t1,T.ld,aA];show 1+ _<=_;omega),λ l2 Nm=>?_⟩
  have s8:=s7.trans (m5.new (o:=.lst ([V.int 0]++nV B)) Nm)
  have Rv:=K4.trans s8
  refine⟨_,rfl,_,rfl,x,CS,dx,_,_,rfl,Rv _ _ hx,S.cl,S.n3,rfl,_,rfl,tb,hl,wb,ts,s'.field,s'.done,B,rfl,W,s8 _ _ (s4 _ _ (s3 _ _ Yd)),hT.same (s3.trans (s4.trans s8)),Rv _ _ T.se.2.2,s8 _ _ Ye,T.dl,t1,t2,cf c3,λ H9 q s9 hq hq9=>?_⟩
  refine⟨l2,q,_,_,rfl,rfl,s9 _ _ mX,hq9,(by rw[aw,m8,t1,T.ld,aA];show 1+ _+2<=_;omega),oY k (Rv.trans s9) ?_⟩
  rw[t7,AI,Bx];rfl
def aat(s:bS)(f0:ae)(ns zs:List Int):List Int:=(eN s f0 (.can zs)).2
theorem aau(s:bS)(f0:ae)(ns zs:List Int):aat s f0 ns zs=if fJ s zs=false then[-1]else[0,if jA s.field (bW zs)=true then 1 else 0]:=by
 show(if fJ s zs=false then(s,[-1])else(s,_)).2=_
 cases fJ s zs <;> rfl
abbrev Yh:List Str:=tp
theorem Lp:m7 Yh tp (mZ HQ):=qf
theorem Lq(F:pG K "call_can" "call_can" HQ f fd)(S:pY K CS)(nG:Rec P w K mg base "Field" CF CN)(qR:acr P w K mg base CS)(nF:oC mg "NOT_AS_TOLD" (-1))(nB:oC mg "DONE" 0)(yR:rA P w K mg base oE 2 "can_make" ["bounds","row"] (Fv CB))(qG:rA P w K mg base oE 3 "bounds_of" ["teams","many_cells"] (yP CT CB))(o9:mg "len"=none):nO P w K mg base oE 4 f fd tp (BF CS CF CC CT 0 aat):=by
 refine F.ok Lp (λ vs H Q E h=>?_) (λ oU A outer s H vs Q E hr h=>?_)
 ·obtain⟨x,wl,hl,nl,rl,a,s',f0,ws,ns,zs,rfl,_⟩:=h
  rfl
 ·obtain⟨x,wl,hl,nl,rl,a,s',f0,ws,ns,zs,rfl,T,hn,hz,ln,lz,k⟩:=h
  have nd:=Lp.nd
  have nI:=S.cl
  refine⟨_,(mV (pf (vi (tF (pO (E:=E0) qR nI hr (by decide) nj (pv 0) (mU (pv 2) mW)))) (m4 (m9 (nN (mU (nP nF) mW)))) nX)
   (m4 (m9 (nN (mU (nP nB) (mU (Nw (tF (nq (E:=E0) yR hr (by decide) nj (mU (nq (E:=E0) qG hr (by decide) nj (mU (m_ (m_ (pv 0) rfl) rfl) (mU (nJ nL rfl o9 aX (mU (pv 2) mW)) mW))) (mU (pv 2) mW)))) nM nM) mW)))))),?_⟩
  obtain⟨dx,hx⟩:=T.se.1
  rw[aau]at k
  have wB:=T.wB
  refine⟨_,rfl,x,dx,_,rfl,hx,rfl,_,rfl,r8 (T.MH hz lz λ H1 s1=>⟨_,rfl,?_⟩)⟩
  cases XU:fJ s' zs with
  |false=>
   rw[XU]at k
   exact s_ ⟨(by show 1<=ay;decide),oY k s1 rfl⟩
  |true=>
   rw[XU,if_neg (by simp)]at k
   obtain⟨r1,r2,r3,r4⟩:=Eg XU
   have T1:=T.same s1
   obtain⟨df,lc,lt,as,bs,f1,f2,f3,f4,f5⟩:=T1.field
   obtain⟨z1,z2,z3⟩:=Rn f5
   have len:zs.length=(bW zs).length:=by unfold bW;rw[aa]
   refine rG ⟨_,rfl,x,CS,dx,_,_,rfl,s1 _ _ hx,S.cl,S.n1,rfl,a,CF,df,_,_,rfl,f1,nG.cl,nG.na "teams" (by simp),rfl,_,rfl,rl,_,rfl,.inl (nA.of (s1 _ _ hz)),lt,bs.zip f0.teams,(bW zs).length,by rw[pU,len],by rw[z2];exact f4,z1,by rw[eI];have:=T.ok.teams.len;omega,by rw[r2,T.len];exact wB,Yg T.ok bs,λ H3 bq ks s3 hbq acz hks=>?_⟩
   rw[z3,<-T.teams]at hks
   have wF:=s1.trans s3
   have c64:(nH s'.field.teams).length<=64:=xf (by rw[T.teams];exact T.ok.teams.len)
   refine⟨_,rfl,bq,rl,ks,_,_,_,bW zs,rfl,acz,hks,by rw[wF _ _ hz,r1],rfl,by rw[r2,T.len];exact wB,c64,λ H4 s4=>⟨_,rfl,?_⟩⟩
   rw[acy rfl]
   cases ZD:jA s'.field (bW zs)with
   |true=>
    rw[ZD]at k
    exact s_ ⟨(by show 2<=ay;decide),oY k (wF.trans s4) rfl⟩
   |false=>
    rw[ZD]at k
    exact rG ⟨(by show 2<=ay;decide),oY k (wF.trans s4) rfl⟩
def Yi(s:bS)(f0:ae)(ns zs:List Int):List Int:=(eN s f0 .shown).2
abbrev RI:List Str:=tp
theorem GI:m7 RI tp (mZ Cq):=qf
theorem GJ(F:pG K "call_shown" "call_shown" Cq f fd)(S:pY K CS)(nB:oC mg "DONE" 0)(Hm:rA P w K mg base oE 3 "shown" ["field"] (Mr CF CC CT)):nO P w K mg base oE 4 f fd tp (BF CS CF CC CT 0 Yi):=by
 refine F.ok GI (λ vs H Q E h=>?_) (λ oU A outer s H vs Q E hr h=>?_)
 ·obtain⟨x,wl,hl,nl,rl,a,s',f0,ws,ns,zs,rfl,_⟩:=h
  rfl
 ·obtain⟨x,wl,hl,nl,rl,a,s',f0,ws,ns,zs,rfl,T,hn,hz,ln,lz,k⟩:=h
  have nd:=GI.nd
  refine⟨_,(m4 (m9 (og qT (nN (mU (nP nB) mW)) (nq (E:=E0) Hm hr (by decide) nj (mU (m_ (pv 0) rfl) mW))))),?_⟩
  obtain⟨dx,hx⟩:=T.se.1
  refine⟨(by show 1<=ay;decide),λ l1 Kf=>?_⟩
  have s1:m5 H (upd H l1 (.lst [V.int 0])):=m5.new Kf
  refine⟨_,rfl,x,CS,dx,_,_,rfl,s1 _ _ hx,S.cl,S.n1,rfl,a,f0,rfl,(T.same s1).field,T.ok,T.nm,λ H2 q s2 hq hq2=>?_⟩
  refine⟨l1,q,_,_,rfl,rfl,s2 _ _ mX,hq2,(by rw[m8,aA];have:=O8 T.ok T.nm;show 1+ _<=_;omega),oY k (s1.trans s2) ?_⟩
  show _=iL (0::dU (iB f0))
  rw[t7,Bx];rfl
def MM(s:bS)(f0:ae)(ns zs:List Int):List Int:=(eN s f0 .counts).2
abbrev O9:List Str:=["search","numbers","row","field"]
theorem Ek:m7 O9 tp (mZ z9):=qf
theorem El(F:pG K "call_counts" "call_counts" z9 f fd)(S:pY K CS)(nG:Rec P w K mg base "Field" CF CN)(nB:oC mg "DONE" 0)(o9:mg "len"=none)(qj:rA P w K mg base oE 1 "efforts_of" ["teams"] (wH CT))(xK:mg "sum"=none):nO P w K mg base oE 2 f fd tp (BF CS CF CC CT 0 MM):=by
 refine F.ok Ek (λ vs H Q E h=>?_) (λ oU A outer s H vs Q E hr h=>?_)
 ·obtain⟨x,wl,hl,nl,rl,a,s',f0,ws,ns,zs,rfl,_⟩:=h
  rfl
 ·obtain⟨x,wl,hl,nl,rl,a,s',f0,ws,ns,zs,rfl,T,hn,hz,ln,lz,k⟩:=h
  have nd:=Ek.nd
  refine⟨_,(mV (m6 (i:=3) nd rfl (Or.inl rfl) (m_ (pv 0) rfl))
   (m4 (m9 (nN (mU (nP nB) (mU (nJ nL rfl o9 aX (mU (m_ (pv 3) rfl) mW)) (mU (nJ nL rfl o9 aX (mU (m_ (pv 3) rfl) mW)) (mU (nq (E:=E0) qj hr (by decide) nj (mU (m_ (pv 3) rfl) mW)) (mU (m_ (pv 3) rfl) (mU (nJ (B0 rfl) rfl xK iJ (mU (m_ (pv 0) rfl) mW)) mW)))))))))),?_⟩
  obtain⟨dx,hx⟩:=T.se.1
  obtain⟨df,lc,lt,as,bs,f1,f2,f3,f4,f5⟩:=T.field
  obtain⟨z1,z2,z3⟩:=Rn f5
  refine⟨_,rfl,x,CS,dx,_,_,rfl,hx,S.cl,S.n1,rfl,?_⟩
  refine⟨_,rfl,a,CF,df,_,_,rfl,f1,nG.cl,nG.na "cells" (by simp),rfl,lc,_,rfl,.inl (nA.of f2),?_⟩
  refine⟨_,rfl,a,CF,df,_,_,rfl,f1,nG.cl,nG.na "teams" (by simp),rfl,lt,_,rfl,.inl (nA.of f4),?_⟩
  refine⟨_,rfl,a,CF,df,_,_,rfl,f1,nG.cl,nG.na "teams" (by simp),rfl,lt,bs.zip f0.teams,rfl,by rw[z2];exact f4,z1,by rw[eI];have:=T.ok.teams.len;omega,λ H2 s2=>?_⟩
  refine⟨_,rfl,a,CF,df,_,_,rfl,s2 _ _ f1,nG.cl,nG.na "parts" (by simp),rfl,?_⟩
  refine⟨_,rfl,x,CS,dx,_,_,rfl,s2 _ _ hx,S.cl,S.n3,rfl,hl,s'.done.map (λ(n:Nat)=>(n:Int)),rfl,nA.of (by rw[s2 _ _ T.se.2.2,uq];rfl),?_⟩
  rw[tK]
  refine⟨(by show 6<=ay;decide),oY k s2 ?_⟩
  show _=iL (0::dU [s'.field.cells.length,s'.field.teams.length,(ly s'.field).length,s'.field.parts,aY s'.done])
  rw[Ve,T.len,T.teams,z3,aa,aa,f3.1,f5.1,show s'.field.parts=f0.parts by rw[T.fe];rfl]
  rfl
def Yj(s:bS)(f0:ae)(ns zs:List Int):List Int:=(eN s f0 .left_).2
theorem Yk(s:bS)(f0:ae)(ns zs:List Int):Yj s f0 ns zs=pd true true (left s.field (d6 s.field)) (0::jP (mH (left s.field s.done) (left s.field (d6 s.field)))):=by
 show(if left s.field (d6 s.field)=0 then(s,[-6])else(s,_)).2=_
 unfold pd
 by_cases h:left s.field (d6 s.field)=0
 ·simp[h]
 ·simp[h]
theorem O_(f:ae):(d6 f).length=f.cells.length:=by unfold d6;rw[aa]
theorem TQ(f:ae):∀n∈d6 f,n<=20:=λ n hn=>by
 obtain⟨_,_,rfl⟩:=List.mem_map.mp hn
 exact aE _
abbrev Lr:List Str:=["search","numbers","row","untouched","table"]
theorem Jx:m7 Lr tp (mZ Bi):=qf
theorem Jy(F:pG K "call_left" "call_left" Bi f fd)(S:pY K CS)(xK:mg "sum"=none)(nQ:VX P w K mg base CS CF CC CT)(nU:oC mg "NOTHING_LEFT" (-6))(nB:oC mg "DONE" 0)(ou:Hz4 P w K mg base)(qO:X7 P w K mg base CS CF CC CT):nO P w K mg base oE 4 f fd tp (BF CS CF CC CT 0 Yj):=by
 refine F.ok Jx (λ vs H Q E h=>?_) (λ oU A outer s H vs Q E hr h=>?_)
 ·obtain⟨x,wl,hl,nl,rl,a,s',f0,ws,ns,zs,rfl,_⟩:=h
  rfl
 ·obtain⟨x,wl,hl,nl,rl,a,s',f0,ws,ns,zs,rfl,T,hn,hz,ln,lz,k⟩:=h
  have nd:=Jx.nd
  have nI:=S.cl
  refine⟨_,(mV (m6 (i:=3) nd rfl (Or.inl rfl) (nJ (B0 rfl) rfl xK iJ (mU (qp (own:=[("table",4)]) rfl nd (oJ (oS (E:=E0) nQ nI hr (by decide) nj (pv 0))) (by exact pz.of (N:=Lr) (sc:=mZ Bi) (by decide +kernel)) (λ _ _ _ _ _=>by exact(nr (i:=4) nd rfl (Or.inl rfl))) (λ _ _ _ _ _=>by exact oP) (λ _ _ _ _ _=>by exact(tX K (pv 4) nM))) mW)))
   (mV (pf (om ub (pv 3) nM (oH _)) (m4 (m9 (nN (mU (nP nU) mW)))) nX)
   (m4 (m9 (og qT (nN (mU (nP nB) mW)) (nq (E:=E0) ou hr (by decide) nj (mU (oS (E:=E0) qO nI hr (by decide) nj (pv 0)) (mU (pv 3) mW)))))))),?_⟩
  obtain⟨dx,hx⟩:=T.se.1
  rw[Yk]at k
  have W:=T.fw
  have wB:=T.wB
  refine⟨_,rfl,x,dx,_,rfl,hx,rfl,r8 (T.qo λ H1 tb ts s1 X8 adX hT=>?_)⟩
  refine⟨tb,rfl,⟨_,nA.of adX⟩,?_⟩
  refine oV (oQ (K:=K) (xs:=ts.map V.ref) (nA.of adX)) (nV ((nY s'.field).map λ t=>t.getD 0 0)) (by rw[m8,aa,aa,hT.1]) (by rw[aa,hT.1,pM,T.len,aA];omega) (λ j x y H3 R3 N3 hy pE hF kk=>?_) (λ D H3 hD pE uC=>?_)
  ·obtain⟨v,q,rfl⟩:=oq hy
   rw[ak]at hF q
   cases q1:ts[j]? with
   |none=>rw[q1]at hF;cases hF
   |some tj=>
    cases q2:(nY s'.field)[j]? with
    |none=>rw[q2]at q;cases q
    |some t=>
     rw[q1]at hF;rw[q2]at q
     cases hF
     have q:t.getD 0 0=v:=Option.some.inj q
     have tl:0<t.length:=by
      have:t∈nY s'.field:=aC q2
      obtain⟨c,_,rfl⟩:=List.mem_map.mp this
      rw[Am];decide
     have gd:=getD_at tl
     rw[q]at gd
     exact⟨rfl,sy ⟨_,rfl,tj,_,_,_,rfl,rfl,nA.of (pE _ _ (hT.2 j tj t q1 q2)),at_of (j:=0) rfl (oR gd),kk H3 (m5.refl _)⟩⟩
  refine⟨D,((nY s'.field).map λ t=>t.getD 0 0).map (λ(n:Nat)=>(n:Int)),rfl,nA.of (by rw[uC,uq];rfl),?_⟩
  rw[tK,Vw]
  have wF:=s1.trans pE
  refine⟨_,rfl,rfl,_,rfl,p8 (λ hc=>?_) λ hc=>?_⟩
  ·have hc:=V.int.inj (of_decide_eq_true hc)
   have e:left s'.field (d6 s'.field)=0:=by omega
   rw[e]at k
   exact⟨(by show 1<=ay;decide),oY k wF rfl⟩
  have c3:left s'.field (d6 s'.field)≠0:=λ z=>hc (decide_eq_true (by rw[z];rfl))
  rw[qD c3]at k
  refine⟨(by show 1<=ay;decide),λ l1 Kf=>?_⟩
  have s4:=wF.put (o:=.lst [V.int 0]) (none_of wF Kf)
  refine⟨_,rfl,x,dx,_,rfl,s4 _ _ hx,rfl,r8 ((T.same s4).AH λ H5 s5=>?_)⟩
  refine⟨_,rfl,left s'.field s'.done,left s'.field (d6 s'.field),rfl,cf c3,ue W (O_ _) (TQ _),ue W T.dl T.tq,λ H6 q s6 hq hq6=>?_⟩
  exact⟨l1,q,_,_,rfl,rfl,s6 _ _ (s5 _ _ mX),hq6,(by show 3<=ay;decide),oY k (s4.trans (s5.trans s6)) rfl⟩
def Jz(s:bS)(f0:ae)(ns zs:List Int):List Int:=(eN s f0 .chances).2
def chL(f:ae)(d:List Nat)(n:Nat):List Nat:=(az n).flatMap λ c=>qL (ie f d c)
theorem Pa(f:ae)(d:List Nat)(n:Nat):chL f d (n+1)=chL f d n++qL (ie f d n):=by
 unfold chL
 rw[eG,d_];simp
theorem TR(f:ae)(d:List Nat):∀n,(chL f d n).length=2*n
 |0=>rfl
 |n+1=>by rw[Pa,aw,TR f d n];show 2*n+2=_;omega
theorem Pb(s:bS)(f0:ae)(ns zs:List Int):Jz s f0 ns zs=pd true true (left s.field s.done) (0::(az s.field.cells.length).flatMap λ c=>jP (ie s.field s.done c)):=by
 show(if left s.field s.done=0 then(s,[-6])else(s,_)).2=_
 unfold pd
 by_cases h:left s.field s.done=0
 ·simp[h]
 ·simp[h]
abbrev MN:List Str:=["search","numbers","row","left","answer","table","efforts"]
theorem BS:m7 MN tp (mZ yi):=qf
theorem BU(F:pG K "call_chances" "call_chances" yi f fd)(S:pY K CS)(qO:X7 P w K mg base CS CF CC CT)(nU:oC mg "NOTHING_LEFT" (-6))(nB:oC mg "DONE" 0)(xM:mg "zip"=none)(nQ:VX P w K mg base CS CF CC CT)(ou:Hz4 P w K mg base):nO P w K mg base oE 4 f fd tp (BF CS CF CC CT 0 Jz):=by
 refine F.ok BS (λ vs H Q E h=>?_) (λ oU A outer s H vs Q E hr h=>?_)
 ·obtain⟨x,wl,hl,nl,rl,a,s',f0,ws,ns,zs,rfl,_⟩:=h
  rfl
 ·obtain⟨x,wl,hl,nl,rl,a,s',f0,ws,ns,zs,rfl,T,hn,hz,ln,lz,k⟩:=h
  have nd:=BS.nd
  have nI:=S.cl
  refine⟨_,(mV (m6 (i:=3) nd rfl (Or.inl rfl) (oS (E:=E0) qO nI hr (by decide) nj (pv 0)))
   (mV (pf (om ub (pv 3) nM (oH _)) (m4 (m9 (nN (mU (nP nU) mW)))) nX)
   (mV (m6 (i:=4) nd rfl (Or.inl rfl) (nN (mU (nP nB) mW)))
   (mV (qw PassesOwn.never rfl (ES rfl xM (mU (oS (E:=E0) nQ nI hr (by decide) nj (pv 0)) (mU (m_ (pv 0) rfl) mW))) (zN rfl (oG (nr (i:=5) nd rfl (Or.inl rfl)) (oG (nr (i:=6) nd rfl (Or.inl rfl)) rB))) (m4 (nZ (qQ aG cU cT vb (pv 4) (mU (nq (E:=E0) ou hr (by decide) nj (mU (oZ n9 (pv 5) (pv 6) (λ _ _=>rfl)) (mU (pv 3) mW))) mW)))))
   (m4 (m9 (pv 4))))))),?_⟩
  obtain⟨dx,hx⟩:=T.se.1
  rw[Pb]at k
  have W:=T.fw
  have wB:=T.wB
  have lb:=ue W T.dl T.tq
  refine⟨_,rfl,x,dx,_,rfl,hx,rfl,r8 (T.AH λ H1 s1=>?_)⟩
  refine⟨_,rfl,rfl,_,rfl,p8 (λ hc=>?_) λ hc=>?_⟩
  ·have hc:=V.int.inj (of_decide_eq_true hc)
   have e:left s'.field s'.done=0:=by omega
   rw[e]at k
   exact⟨(by show 1<=ay;decide),oY k s1 rfl⟩
  have c3:left s'.field s'.done≠0:=λ z=>hc (decide_eq_true (by rw[z];rfl))
  rw[qD c3]at k
  refine⟨(by show 1<=ay;decide),λ an han=>?_⟩
  have acA:=none_of s1 han
  have s2:=s1.put (o:=.lst [V.int 0]) acA
  refine⟨_,rfl,x,dx,_,rfl,s2 _ _ hx,rfl,r8 ((T.same s2).qo λ H3 tb ts s3 X8 adY hT=>?_)⟩
  have wF:=s2.trans s3
  have ntb:tb≠an:=λ q=>by rw[q,mX]at X8;cases X8
  have hd3:=wF _ _ T.se.2.2
  have ltb:(ts.map V.ref).length=(nV s'.done).length:=by rw[aa,m8,hT.1,pM,T.dl]
  have nts:∀j t,ts[j]? =some t->t≠an:=λ j t q z=>by
   have hj:j<(nY s'.field).length:=by rw[<-hT.1];exact(List.getElem?_eq_some_iff.mp q).1
   have q2:(nY s'.field)[j]? =some (nY s'.field)[j]:=af hj
   have z1:=hT.2 j t _ q q2
   have z2:H3 an=some (.lst [V.int 0]):=s3 _ _ mX
   rw[z,z2]at z1
   have z3:[V.int 0]=nV (nY s'.field)[j]:=by injection z1 with z1;injection z1
   have z4:=congrArg h_ z3
   have:(nY s'.field)[j]∈nY s'.field:=cq hj
   obtain⟨c,_,ec⟩:=List.mem_map.mp this
   rw[m8,<-ec,Am]at z4
   cases z4
  refine⟨_,rfl,x,CS,dx,_,_,rfl,wF _ _ hx,S.cl,S.n3,rfl,tb,hl,_,_,rfl,nA.of adY,nA.of hd3,Tf (K:=K) (a:=tb) (b:=hl) (xs:=ts.map V.ref) (ys:=nV s'.done) ltb (λ i σ H'=>∃(v5 v6:Option V),σ=[some (.ref x),some (.ref nl),some (.ref rl),some (.int (left s'.field s'.done:Nat)),some (.ref an),v5,v6]/\i<=s'.done.length/\m5 H H'/\(∀b o,H3 b=some o->b≠an->H' b=some o)/\H' an=some (.lst (V.int 0::nV (chL s'.field s'.done i))))
   ⟨none,none,rfl,aE _,wF,λ b o e _=>e,s3 _ _ mX⟩ (λ i σ H' _ ⟨_,_,_,_,sm,sk,_⟩=>⟨nA.of (sk _ _ adY ntb),nA.of (sm _ _ T.se.2.2)⟩) ?_ ?_⟩
  ·rintro i y z TT σ H' hy VU ⟨v5,v6,rfl,hi,sm,sk,SQ⟩ Va
   obtain⟨n,q2,rfl⟩:=oq VU
   rw[ak]at hy
   cases q1:ts[i]? with
   |none=>rw[q1]at hy;cases hy
   |some t=>
    rw[q1]at hy;cases hy
    have Ww:i<s'.done.length:=(List.getElem?_eq_some_iff.mp q2).1
    have hic:i<s'.field.cells.length:=by rw[<-T.dl];exact Ww
    have ec:s'.field.cells[i]? =some s'.field.cells[i]:=af hic
    have q3:(nY s'.field)[i]? =some (rE s'.field.cells[i].weight s'.field.cells[i].finds s'.field.parts):=by
     unfold nY
     rw[ak,ec];rfl
    have n20:=T.tq n (aC q2)
    have gd:s'.done.getD i 0=n:=by rw[aB,q2];rfl
    have tn:=vC (w:=s'.field.cells[i].weight) (fi:=s'.field.cells[i].finds) (p:=s'.field.parts) n20
    rw[<-wA ec]at tn
    have sT:m5 H' (upd H' TT (.tup [.ref t,.int (n:Nat)])):=m5.new Va
    have ht:=sT _ _ (sk _ _ (hT.2 i t _ q1 q3) (nts i t q1))
    have ha2:=sT _ _ SQ
    have mb:cZ s'.field i n<Ta:=bH (Mm W hic n20) (bH (Nat.le_mul_of_pos_left _ (by decide:0<16)) Xt)
    refine⟨TT,_,rfl,BG.of mX,rfl,_,_,rfl,_,_,rfl,rfl,?_⟩
    refine⟨_,rfl,.inl ⟨rfl,_,nA.of ha2⟩,_,rfl,_,rfl,t,_,_,_,rfl,rfl,nA.of ht,oo (oR tn),_,rfl,cZ s'.field i n,left s'.field s'.done,rfl,cf c3,lb,mb,λ H5 fr s5 JT acn=>?_⟩
    refine⟨an,fr,_,_,rfl,rfl,s5 _ _ ha2,acn,?_,?_⟩
    ·rw[aD,m8,TR,aA];show _+2<=_;have:=T.ld;omega
    ·refine⟨_,_,rfl,Ww,(sm.trans (sT.trans s5)).put acA,λ b o e nb=>?_,?_⟩
     ·rw[mY nb];exact s5 _ _ (sT _ _ (sk _ _ e nb))
     ·rw[mX,Pa]
      unfold ie nV
      rw[gd,aF];rfl
  ·rintro σ H' ⟨v5,v6,rfl,hi,sm,sk,SQ⟩
   refine⟨_,rfl,k H' an sm acA ?_⟩
   rw[SQ,ltb,m8,T.dl,t7,TN];rfl
def Em(CS CF CC CT:ag)(s:bS)(H:Hp)(x wl hl:ag):Prop:=(s=iC/\An CS H x .qt wl hl [] []/\wl≠hl)\/∃f0 ws a,s.told=some f0/\vg CS CF CC CT s f0 ws a H x wl hl
theorem An.Vk{CS:ag}{H H':Hp}{x wl hl:ag}{v:V}{ws d:List Nat}(h:An CS H x v wl hl ws d)(n:NE H H'):An CS H' x v wl hl ws d:=by
 obtain⟨⟨dx,e1⟩,e2,e3⟩:=h
 exact⟨⟨dx,n _ _ e1 (λ φ q=>by cases q)⟩,n _ _ e2 (λ φ q=>by cases q),n _ _ e3 (λ φ q=>by cases q)⟩
theorem Em.Vk{CS CF CC CT:ag}{s:bS}{H H':Hp}{x wl hl:ag}(h:Em CS CF CC CT s H x wl hl)(n:NE H H'):Em CS CF CC CT s H' x wl hl:=by
 rcases h with⟨h1,h2,h3⟩|⟨f0,ws,a,h1,h2⟩
 ·exact .inl ⟨h1,h2.Vk n,h3⟩
 ·exact .inr ⟨f0,ws,a,h1,h2.Vk n⟩
theorem Fr.none{H:Hp}{p:ag}(h:H p=none):Fr H p:=λ o e=>by rw[h]at e;cases e
def KN(CS CF CC CT:ag)(x wl hl:ag)(H:Hp)(Q:VK)(r:bS×List Int):Prop:=∀H' p V8 GS,Em CS CF CC CT r.1 H' x V8 GS->(V8=wl\/Fr H V8)->(GS=hl\/Fr H GS)->Rq x wl hl H H'->Fr H p->H' p=some (.lst (iL r.2))->Q (.ref p) H'
section
variable{CS CF CC CT:ag}{s:bS}{f0:ae}{ws:List Nat}{a:ag}{H:Hp}{x wl hl:ag}
theorem KN.pure{Q:VK}{r:bS×List Int}(k:KN CS CF CC CT x wl hl H Q r)(h:Em CS CF CC CT r.1 H x wl hl):Ak H Q (iL r.2):=λ H' p n fp hp=>k H' p wl hl (h.Vk n) (.inl rfl) (.inl rfl) (Rq.ne n) fp hp
theorem Ak.ret{Q:VK}{xs:List V}(k:Ak H Q xs):GW H Q xs:=λ H' p sm hp hp'=>k H' p (NE.of_same sm) (Fr.none hp) hp'
theorem vg.TU(T:vg CS CF CC CT s f0 ws a H x wl hl){d:List Nat}(hd:d.length=s.done.length)(tq:∀n∈d,n<=20):vg CS CF CC CT { s with done:=d } f0 ws a (upd H hl (.lst (nV d))) x wl hl:=by
 obtain⟨⟨dx,e1⟩,e2,e3⟩:=T.se
 obtain⟨H0,h1,h2,h3,h4,h5,h6⟩:=T.fa
 have nx:x≠hl:=λ q=>by rw[q,e3]at e1;cases e1
 exact⟨⟨⟨dx,by rw[mY nx];exact e1⟩,by rw[mY T.ne];exact e2,mX⟩,T.ne,⟨H0,h1,h2.put h5,h3,h4,h5,h6⟩,T.ok,T.nm,T.fe,T.lw,by show d.length=_;rw[hd];exact T.ld,tq,T.Zb⟩
theorem vg.but(T:vg CS CF CC CT s f0 ws a H x wl hl){o:HO}:Rq x wl hl H (upd H hl o):=λ b u e _ _ n _=>by rw[mY n];exact e
end
inductive Yl (CS CF CC CT:ag) (ar:Nat) (g:bS->ae->List Int->List Int->bS×List Int) (vs:List V) (H:Hp) (Q:VK) (Ex:XK):Prop
 |mk (x wl hl nl rl a:ag) (s:bS) (f0:ae) (ws:List Nat) (ns zs:List Int):vs=[.ref x,.ref nl,.ref rl]->s.told=some f0->vg CS CF CC CT s f0 ws a H x wl hl->H nl=some (.lst (iL ns))->H rl=some (.lst (iL zs))->ns.length=ar->zs.length<=70->KN CS CF CC CT x wl hl H Q (g s f0 ns zs)->Yl CS CF CC CT ar g vs H Q Ex
def TV(s:bS)(f0:ae)(ns zs:List Int):bS×List Int:=eN s f0 (.vain (ns.getD 0 0) (ns.getD 1 0))
theorem RJ{ns:List Int}(h:ns.length=2):(iL ns)[0]? =some (.int (ns.getD 0 0))/\(iL ns)[1]? =some (.int (ns.getD 1 0)):=by
 match ns,h with
 |[a,b],_=>exact⟨rfl,rfl⟩
theorem Ym(s:bS)(f0:ae)(ns zs:List Int):TV s f0 ns zs=if(eQ s (ns.getD 0 0) && bI (ns.getD 1 0) 0 20)=false then(s,[-1])else if 20<s.done.getD (ns.getD 0 0).toNat 0+(ns.getD 1 0).toNat then(s,[-3])else({ s with done:=s.done.set (ns.getD 0 0).toNat (s.done.getD (ns.getD 0 0).toNat 0+(ns.getD 1 0).toNat) },[0,((s.done.getD (ns.getD 0 0).toNat 0+(ns.getD 1 0).toNat:Nat):Int)]):=rfl
abbrev Vy:List Str:=["search","numbers","row","cell","more"]
theorem JA:m7 Vy tp (mZ E3):=qf
theorem JB(F:pG K "call_vain" "call_vain" E3 f fd)(S:pY K CS)(pF:aas P w K mg base CS)(nv:oC mg "MOST_EFFORTS" 20)(nF:oC mg "NOT_AS_TOLD" (-1))(pk:oC mg "TOO_MANY" (-3))(nB:oC mg "DONE" 0):nO P w K mg base oE 2 f fd tp (Yl CS CF CC CT 2 TV):=by
 refine F.ok JA (λ vs H Q E h=>?_) (λ oU A outer s H vs Q E hr h=>?_)
 ·obtain⟨x,wl,hl,nl,rl,a,s',f0,ws,ns,zs,rfl,_⟩:=h
  rfl
 ·obtain⟨x,wl,hl,nl,rl,a,s',f0,ws,ns,zs,rfl,told,T,hn,hz,ln,lz,k⟩:=h
  have nd:=JA.nd
  have nI:=S.cl
  refine⟨_,(mV (m6 (i:=3) nd rfl (Or.inl rfl) (oZ n9 (pv 1) nM (λ _ _=>rfl)))
   (mV (m6 (i:=4) nd rfl (Or.inl rfl) (oZ n9 (pv 1) nM (λ _ _=>rfl)))
   (mV (pf (vi (PW.pt (EI (tF (pO (E:=E0) pF nI hr (by decide) nj (pv 0) (mU (pv 3) mW))) (A_ (vm p7 p7 nM (pv 4) (nP nv)))))) (m4 (m9 (nN (mU (nP nF) mW)))) nX)
   (mV (pf (om BH (og qS (oZ n9 (m_ (pv 0) rfl) (pv 3) (λ _ _=>rfl)) (pv 4)) (nP nv) (oH _)) (m4 (m9 (nN (mU (nP pk) mW)))) nX)
   (mV (Ba (m_ (pv 0) rfl) (pv 3) xN (pv 4) zO set_list)
   (m4 (m9 (nN (mU (nP nB) (mU (oZ n9 (m_ (pv 0) rfl) (pv 3) (λ _ _=>rfl)) mW)))))))))),?_⟩
  obtain⟨dx,hx⟩:=T.se.1
  rw[Ym]at k
  obtain⟨h0,h1⟩:=RJ ln
  generalize ns.getD 0 0=c at k h0
  generalize ns.getD 1 0=n at k h1
  have st:Em CS CF CC CT s' H x wl hl:=.inr ⟨f0,ws,a,told,T⟩
  refine⟨_,rfl,nl,_,_,_,rfl,rfl,nA.of hn,at_of (j:=0) rfl h0,_,rfl,nl,_,_,_,rfl,rfl,nA.of hn,at_of (j:=1) rfl h1,?_⟩
  refine⟨_,rfl,x,dx,_,rfl,hx,rfl,_,rfl,r8 (T.Ef ⟨_,rfl,?_⟩)⟩
  cases hc:eQ s' c with
  |false=>
   rw[hc,ib,if_pos rfl]at k
   exact rG (s_ ⟨(by show 1<=ay;decide),oY (Ak.ret (k.pure st)) (m5.refl _) rfl⟩)
  |true=>
   rw[hc,fC]at k
   refine s_ (ud gc gv gc ⟨_,rfl,?_⟩)
   cases hi:bI n 0 20 with
   |false=>
    rw[hi,if_pos rfl]at k
    exact s_ ⟨(by show 1<=ay;decide),oY (Ak.ret (k.pure st)) (m5.refl _) rfl⟩
   |true=>
    rw[hi,if_neg (by simp)]at k
    obtain⟨i1,i2⟩:=pj.mp hi
    obtain⟨j1,j2⟩:=pj.mp hc
    obtain⟨cn,rfl⟩:∃m:Nat,c=(m:Int):=⟨c.toNat,by omega⟩
    obtain⟨nn,rfl⟩:∃m:Nat,n=(m:Int):=⟨n.toNat,by omega⟩
    rw[show((cn:Int)).toNat=cn from rfl,show((nn:Int)).toNat=nn from rfl]at k
    have EE:cn<s'.done.length:=by rw[T.dl];omega
    have gd:=getD_at EE
    have D5:=T.se.2.2
    refine rG ⟨_,rfl,x,CS,dx,_,_,rfl,hx,S.cl,S.n3,rfl,_,rfl,hl,_,_,_,rfl,rfl,nA.of D5,oo (oR gd),_,rfl,_,_,rfl,rfl,_,_,rfl,rfl,_,rfl,p8 (λ hq=>?_) λ hq=>?_⟩
    ·have hq:=of_decide_eq_true hq
     rw[if_pos (by omega)]at k
     exact⟨(by show 1<=ay;decide),oY (Ak.ret (k.pure st)) (m5.refl _) rfl⟩
    ·have hq:¬ (20:Int)<((s'.done.getD cn 0:Nat):Int)+(nn:Int):=λ q=>hq (decide_eq_true q)
     rw[if_neg (by omega)]at k
     have T2:=T.TU (d:=s'.done.set cn (s'.done.getD cn 0+nn)) (by rw[fG]) λ m hm=>by
      rcases gh hm with q|q
      ·exact T.tq m q
      ·omega
     refine⟨_,rfl,x,CS,dx,_,_,rfl,hx,S.cl,S.n3,rfl,_,rfl,hl,_,cn,_,rfl,rfl,nA.of D5,oR gd,_,rfl,_,_,rfl,rfl,hl,_,_,cn,rfl,rfl,D5,yy (by rw[m8];exact EE),?_⟩
     have e2:(nV s'.done).set cn (V.int (((s'.done.getD cn 0:Nat):Int)+(nn:Int)))=nV (s'.done.set cn (s'.done.getD cn 0+nn)):=by unfold nV;rw[fP];rfl
     generalize JV:upd H hl (.lst ((nV s'.done).set cn (V.int (((s'.done.getD cn 0:Nat):Int)+(nn:Int)))))=H2
     rw[e2]at JV
     obtain⟨⟨W_,Dz⟩,hw2,hh2⟩:=(JV ▸ T2.se:An CS H2 x (.ref a) wl hl ws (s'.done.set cn (s'.done.getD cn 0+nn)))
     have gd2:(s'.done.set cn (s'.done.getD cn 0+nn))[cn]? =some (s'.done.getD cn 0+nn):=cP EE
     refine⟨_,rfl,x,CS,W_,_,_,rfl,Dz,S.cl,S.n3,rfl,_,rfl,hl,_,_,_,rfl,rfl,nA.of hh2,oo (oR gd2),(by show 2<=ay;decide),λ p hp=>?_⟩
     rw[JV]at T2
     have b3:Rq x wl hl H H2:=JV ▸ T.but
     have n3:NE H2 (upd H2 p (.lst [V.int 0,V.int ((s'.done.getD cn 0+nn:Nat):Int)])):=NE.of_same (m5.new hp)
     refine k _ p wl hl (.inr ⟨f0,ws,a,told,T2.Vk n3⟩) (.inl rfl) (.inl rfl) (λ b o e n1 n2 n4 z=>n3 _ _ (b3 b o e n1 n2 n4 z) z) (λ o e=>?_) mX
     have np:p≠hl:=λ q=>by rw[q,hh2]at hp;cases hp
     rw[<-JV,mY np,e]at hp
     cases hp
def TX(s:bS)(f0:ae)(ns zs:List Int):bS×List Int:=eN s f0 (.back (ns.getD 0 0) (ns.getD 1 0))
theorem Yn(s:bS)(f0:ae)(ns zs:List Int):TX s f0 ns zs=if(eQ s (ns.getD 0 0) && bI (ns.getD 1 0) 0 20)=false then(s,[-1])else if s.done.getD (ns.getD 0 0).toNat 0<(ns.getD 1 0).toNat then(s,[-3])else({ s with done:=s.done.set (ns.getD 0 0).toNat (s.done.getD (ns.getD 0 0).toNat 0-(ns.getD 1 0).toNat) },[0,((s.done.getD (ns.getD 0 0).toNat 0-(ns.getD 1 0).toNat:Nat):Int)]):=rfl
abbrev Vz:List Str:=["search","numbers","row","cell","fewer"]
theorem JC:m7 Vz tp (mZ E5):=qf
theorem JD(F:pG K "call_back" "call_back" E5 f fd)(S:pY K CS)(pF:aas P w K mg base CS)(nv:oC mg "MOST_EFFORTS" 20)(nF:oC mg "NOT_AS_TOLD" (-1))(pk:oC mg "TOO_MANY" (-3))(nB:oC mg "DONE" 0):nO P w K mg base oE 2 f fd tp (Yl CS CF CC CT 2 TX):=by
 refine F.ok JC (λ vs H Q E h=>?_) (λ oU A outer s H vs Q E hr h=>?_)
 ·obtain⟨x,wl,hl,nl,rl,a,s',f0,ws,ns,zs,rfl,_⟩:=h
  rfl
 ·obtain⟨x,wl,hl,nl,rl,a,s',f0,ws,ns,zs,rfl,told,T,hn,hz,ln,lz,k⟩:=h
  have nd:=JC.nd
  have nI:=S.cl
  refine⟨_,(mV (m6 (i:=3) nd rfl (Or.inl rfl) (oZ n9 (pv 1) nM (λ _ _=>rfl)))
   (mV (m6 (i:=4) nd rfl (Or.inl rfl) (oZ n9 (pv 1) nM (λ _ _=>rfl)))
   (mV (pf (vi (PW.pt (EI (tF (pO (E:=E0) pF nI hr (by decide) nj (pv 0) (mU (pv 3) mW))) (A_ (vm p7 p7 nM (pv 4) (nP nv)))))) (m4 (m9 (nN (mU (nP nF) mW)))) nX)
   (mV (pf (om Hv (oZ n9 (m_ (pv 0) rfl) (pv 3) (λ _ _=>rfl)) (pv 4) (oH _)) (m4 (m9 (nN (mU (nP pk) mW)))) nX)
   (mV (Ba (m_ (pv 0) rfl) (pv 3) xN (pv 4) PY set_list)
   (m4 (m9 (nN (mU (nP nB) (mU (oZ n9 (m_ (pv 0) rfl) (pv 3) (λ _ _=>rfl)) mW)))))))))),?_⟩
  obtain⟨dx,hx⟩:=T.se.1
  rw[Yn]at k
  obtain⟨h0,h1⟩:=RJ ln
  generalize ns.getD 0 0=c at k h0
  generalize ns.getD 1 0=n at k h1
  have st:Em CS CF CC CT s' H x wl hl:=.inr ⟨f0,ws,a,told,T⟩
  refine⟨_,rfl,nl,_,_,_,rfl,rfl,nA.of hn,at_of (j:=0) rfl h0,_,rfl,nl,_,_,_,rfl,rfl,nA.of hn,at_of (j:=1) rfl h1,?_⟩
  refine⟨_,rfl,x,dx,_,rfl,hx,rfl,_,rfl,r8 (T.Ef ⟨_,rfl,?_⟩)⟩
  cases hc:eQ s' c with
  |false=>
   rw[hc,ib,if_pos rfl]at k
   exact rG (s_ ⟨(by show 1<=ay;decide),oY (Ak.ret (k.pure st)) (m5.refl _) rfl⟩)
  |true=>
   rw[hc,fC]at k
   refine s_ (ud gc gv gc ⟨_,rfl,?_⟩)
   cases hi:bI n 0 20 with
   |false=>
    rw[hi,if_pos rfl]at k
    exact s_ ⟨(by show 1<=ay;decide),oY (Ak.ret (k.pure st)) (m5.refl _) rfl⟩
   |true=>
    rw[hi,if_neg (by simp)]at k
    obtain⟨i1,i2⟩:=pj.mp hi
    obtain⟨j1,j2⟩:=pj.mp hc
    obtain⟨cn,rfl⟩:∃m:Nat,c=(m:Int):=⟨c.toNat,by omega⟩
    obtain⟨nn,rfl⟩:∃m:Nat,n=(m:Int):=⟨n.toNat,by omega⟩
    rw[show((cn:Int)).toNat=cn from rfl,show((nn:Int)).toNat=nn from rfl]at k
    have EE:cn<s'.done.length:=by rw[T.dl];omega
    have gd:=getD_at EE
    have D5:=T.se.2.2
    have g20:=T.tq _ (aC gd)
    refine rG ⟨_,rfl,x,CS,dx,_,_,rfl,hx,S.cl,S.n3,rfl,_,rfl,hl,_,_,_,rfl,rfl,nA.of D5,oo (oR gd),_,rfl,_,_,rfl,rfl,_,rfl,p8 (λ hq=>?_) λ hq=>?_⟩
    ·have hq:=of_decide_eq_true hq
     rw[if_pos (by omega)]at k
     exact⟨(by show 1<=ay;decide),oY (Ak.ret (k.pure st)) (m5.refl _) rfl⟩
    ·have hq:¬ ((s'.done.getD cn 0:Nat):Int)<(nn:Int):=λ q=>hq (decide_eq_true q)
     rw[if_neg (by omega)]at k
     have T2:=T.TU (d:=s'.done.set cn (s'.done.getD cn 0-nn)) (by rw[fG]) λ m hm=>by
      rcases gh hm with q|q
      ·exact T.tq m q
      ·omega
     refine⟨_,rfl,x,CS,dx,_,_,rfl,hx,S.cl,S.n3,rfl,_,rfl,hl,_,cn,_,rfl,rfl,nA.of D5,oR gd,_,rfl,Mt (z:=((s'.done.getD cn 0-nn:Nat):Int)) (by omega) ⟨hl,_,_,cn,rfl,rfl,D5,yy (by rw[m8];exact EE),?_⟩⟩
     have e2:(nV s'.done).set cn (V.int ((s'.done.getD cn 0-nn:Nat):Int))=nV (s'.done.set cn (s'.done.getD cn 0-nn)):=by unfold nV;rw[fP]
     generalize JV:upd H hl (.lst ((nV s'.done).set cn (V.int ((s'.done.getD cn 0-nn:Nat):Int))))=H2
     rw[e2]at JV
     obtain⟨⟨W_,Dz⟩,hw2,hh2⟩:=(JV ▸ T2.se:An CS H2 x (.ref a) wl hl ws (s'.done.set cn (s'.done.getD cn 0-nn)))
     have gd2:(s'.done.set cn (s'.done.getD cn 0-nn))[cn]? =some (s'.done.getD cn 0-nn):=cP EE
     refine⟨_,rfl,x,CS,W_,_,_,rfl,Dz,S.cl,S.n3,rfl,_,rfl,hl,_,_,_,rfl,rfl,nA.of hh2,oo (oR gd2),(by show 2<=ay;decide),λ p hp=>?_⟩
     rw[JV]at T2
     have b3:Rq x wl hl H H2:=JV ▸ T.but
     have n3:NE H2 (upd H2 p (.lst [V.int 0,V.int ((s'.done.getD cn 0-nn:Nat):Int)])):=NE.of_same (m5.new hp)
     refine k _ p wl hl (.inr ⟨f0,ws,a,told,T2.Vk n3⟩) (.inl rfl) (.inl rfl) (λ b o e n1 n2 n4 z=>n3 _ _ (b3 b o e n1 n2 n4 z) z) (λ o e=>?_) mX
     have np:p≠hl:=λ q=>by rw[q,hh2]at hp;cases hp
     rw[<-JV,mY np,e]at hp
     cases hp
inductive Hn (CS CF CC CT:ag) (vs:List V) (H:Hp) (Q:VK) (Ex:XK):Prop
 |mk (x wl hl nl rl:ag) (s:bS):vs=[.ref x,.ref nl,.ref rl]->Em CS CF CC CT s H x wl hl->KN CS CF CC CT x wl hl H Q (iC,[0])->Hn CS CF CC CT vs H Q Ex
abbrev RK:List Str:=tp
theorem GK:m7 RK tp (mZ Cy):=qf
theorem GL(F:pG K "call_clear" "call_clear" Cy f fd)(S:pY K CS)(En:um P w K mg base oE 1 CS "forget" ["self"] (IX CS))(nB:oC mg "DONE" 0):nO P w K mg base oE 2 f fd tp (Hn CS CF CC CT):=by
 refine F.ok GK (λ vs H Q E h=>?_) (λ oU A outer s H vs Q E hr h=>?_)
 ·obtain⟨x,wl,hl,nl,rl,s',rfl,_⟩:=h
  rfl
 ·obtain⟨x,wl,hl,nl,rl,s',rfl,st,k⟩:=h
  have nd:=GK.nd
  have nI:=S.cl
  refine⟨_,(mV (nZ (oS (E:=E0) En nI hr (by decide) nj (pv 0)))
   (m4 (m9 (nN (mU (nP nB) mW))))),?_⟩
  have hx:∃dx v1 v2 v3,H x=some (.ins CS dx (J9.zip [v1,v2,v3])):=by
   rcases st with⟨_,⟨⟨dx,e⟩,_⟩,_⟩|⟨f0,ws,a,_,T⟩
   ·exact⟨dx,_,_,_,e⟩
   ·obtain⟨dx,e⟩:=T.se.1
    exact⟨dx,_,_,_,e⟩
  obtain⟨dx,v1,v2,v3,hx⟩:=hx
  refine⟨_,rfl,x,dx,_,rfl,hx,rfl,x,dx,v1,v2,v3,rfl,hx,λ H2 V8 GS b2 hw hh ne se=>?_⟩
  refine⟨(by show 1<=ay;decide),λ p hp=>?_⟩
  have n3:NE H2 (upd H2 p (.lst [V.int 0])):=NE.of_same (m5.new hp)
  have hp0:∀o,H p=some o->∃φ,o= .ext φ:=λ o e=>by
   apply Classical.byContradiction
   intro z
   have nx:p≠x:=λ q=>by
    obtain⟨⟨d2,e2⟩,_⟩:=se
    rw[q,e2]at hp;cases hp
   have:=b2 p o e nx λ φ q=>z ⟨φ,q⟩
   rw[this]at hp;cases hp
  exact k _ p V8 GS (.inl ⟨rfl,se.Vk n3,ne⟩) (.inr (Fr.none hw)) (.inr (Fr.none hh)) (λ b o e n1 _ _ z=>n3 _ _ (b2 b o e n1 z) z) hp0 mX
end n_
namespace L2
open Sem (wp)
theorem nz{a b:Nat}(h:a<b\/b<a):a≠b:=by omega
abbrev Ho(h:bF)(T:ag)(a b c:ao):Prop:=h.get? T=some { cls:=.type "tuple",data:=.seq #[a,b,c] }
section
variable{prog:aK}{w:bj}{A:bV}{E:ao->au->Prop}{s:au}
theorem MO{T:ag}{a b c x:ao}{k:Nat}{Q:Unit->au->Prop}(hT:Ho s.heap T a b c)
  (h:∀h',h'.get? T=some { cls:=.type "tuple",data:=.seq ((#[a,b,c]:Array ao).setIfInBounds k x) }->Heap.SameBut T s.heap h'->Q () { s with heap:=h' }):
  aT (aU prog w) A (updateSeq T (·.setIfInBounds k x)) Q E s:=by
 refine wpAny_updateSeq hT rfl (h _ ?_ (Heap.SameBut.update ..))
 rw[Heap.get?_update_self _ hT rfl]
 simp[Obj.mapSeq]
theorem acB{n l1 l2 l3 k:Nat}{xs ys us:Array ao}{x y u a b c:ao}{Q:ao->au->Prop}(g1:l1<n)(g2:l2<n)(g3:l3<n)
  (Z0:gJ s.heap (n+5) (n+3) (n+4) .none)(I0:Ho s.heap (n+3) (.ref n) (.ref (n+1)) (.ref (n+2)))(O0:Ho s.heap (n+4) a b c)
  (w1:s.heap.IsListIter n l1 k)(w2:s.heap.IsListIter (n+1) l2 k)(w3:s.heap.IsListIter (n+2) l3 k)(v1:s.heap.IsList l1 xs)(v2:s.heap.IsList l2 ys)(v3:s.heap.IsList l3 us)(e1:xs[k]? =some x)(e2:ys[k]? =some y)(e3:us[k]? =some u)
  (hQ:∀h',gJ h' (n+5) (n+3) (n+4) (dM s.heap.objs.size)->Ho h' (n+4) x y u->h'.IsListIter n l1 (k+1)->h'.IsListIter (n+1) l2 (k+1)->h'.IsListIter (n+2) l3 (k+1)->Ho h' s.heap.objs.size x y u->
   (∀c o,c≠n+5->c≠n+4->c≠n->c≠n+1->c≠n+2->s.heap.get? c=some o->h'.get? c=some o)->Q (.ref s.heap.objs.size) { s with heap:=h' }):
  aT (aU prog w) A (jd.«zip.__next__» ⟨[.ref (n+5)],[]⟩) (λ fin s'=>∃v,fin= .done (.ret v)/\Q v s') E s:=by
 show aT _ _ (field (.ref (n+5)) 2 >>= _) _ _ _
 refine aq (cO Z0 rfl (x:=.bool false) rfl ?_)
 show aT _ _ (field (.ref (n+5)) 3 >>= _) _ _ _
 refine aq (cO Z0 rfl (x:=.ref (n+3)) rfl (aq (fz I0 rfl ?_)))
 show aT _ _ (Builtin.SmallTypes.ownedTupleIsFree (.ref (n+5)) >>= _) _ _ _
 refine aq ?_
 unfold Builtin.SmallTypes.ownedTupleIsFree
 refine aq (cO Z0 rfl (x:=.none) rfl (aM ?_))
 simp only[if_true]
 refine aq (wpAny_rule (aq (cO Z0 rfl (x:=.ref (n+4)) rfl ?_)))
 refine aq (eZ Z0 (by simp) λ h1 Z1 b1=>?_)
 replace Z1:gJ h1 (n+5) (n+3) (n+4) .ellipsis:=Z1
 have B1:=b1.extBut
 refine aq ?_
 simp only[d7,lu,je,ia]
 refine aq (aq (iX ?_))
 show aT _ _ (Builtin.SmallTypes.nextOf (.ref n) >>= _) _ _ _
 refine aq (ij (w1.extBut B1 (nz (by omega))) (v1.extBut B1 (nz (by omega))) e1 λ h2 r1 b2=>aM ?_)
 have B2:=b2.extBut
 have O2:Ho h2 (n+4) a b c:=B2 _ _ (nz (by omega)) (B1 _ _ (nz (by omega)) O0)
 refine aq (fz O2 rfl (aq (MO O2 λ h3 O3 b3=>?_)))
 replace O3:Ho h3 (n+4) x b c:=O3
 have B3:=b3.extBut
 refine aq (jC (aM ?_))
 refine aq (aq (iX ?_))
 show aT _ _ (Builtin.SmallTypes.nextOf (.ref (n+1)) >>= _) _ _ _
 refine aq (ij (((w2.extBut B1 (nz (by omega))).extBut B2 (nz (by omega))).extBut B3 (nz (by omega))) (((v2.extBut B1 (nz (by omega))).extBut B2 (nz (by omega))).extBut B3 (nz (by omega))) e2 λ h4 r2 b4=>aM ?_)
 have B4:=b4.extBut
 have O4:Ho h4 (n+4) x b c:=B4 _ _ (nz (by omega)) O3
 refine aq (fz O4 rfl (aq (MO O4 λ h5 O5 b5=>?_)))
 replace O5:Ho h5 (n+4) x y c:=O5
 have B5:=b5.extBut
 refine aq (jC (aM ?_))
 refine aq (aq (iX ?_))
 show aT _ _ (Builtin.SmallTypes.nextOf (.ref (n+2)) >>= _) _ _ _
 refine aq (ij (((((w3.extBut B1 (nz (by omega))).extBut B2 (nz (by omega))).extBut B3 (nz (by omega))).extBut B4 (nz (by omega))).extBut B5 (nz (by omega))) (((((v3.extBut B1 (nz (by omega))).extBut B2 (nz (by omega))).extBut B3 (nz (by omega))).extBut B4 (nz (by omega))).extBut B5 (nz (by omega))) e3 λ h6 r3 b6=>aM ?_)
 have B6:=b6.extBut
 have O6:Ho h6 (n+4) x y c:=B6 _ _ (nz (by omega)) O5
 refine aq (fz O6 rfl (aq (MO O6 λ h7 O7 b7=>?_)))
 replace O7:Ho h7 (n+4) x y u:=O7
 have B7:=b7.extBut
 refine aq (jC (aM (aM ?_)))
 refine aq (fz O7 rfl (aq (wpAny_newTuple ?_)))
 have sz:h7.objs.size=s.heap.objs.size:=by rw[b7.1,b6.1,b5.1,b4.1,b3.1,b2.1,b1.1]
 have Z7:gJ h7 (n+5) (n+3) (n+4) .ellipsis:=B7 _ _ (nz (by omega)) (B6 _ _ (nz (by omega)) (B5 _ _ (nz (by omega)) (B4 _ _ (nz (by omega)) (B3 _ _ (nz (by omega)) (B2 _ _ (nz (by omega)) Z1)))))
 have kp:∀c o,c≠n+5->c≠n+4->c≠n->c≠n+1->c≠n+2->s.heap.get? c=some o->h7.get? c=some o:=λ c o c1 c2 c3 c4 c5 e=>
  B7 _ _ c2 (B6 _ _ c5 (B5 _ _ c2 (B4 _ _ c4 (B3 _ _ c2 (B2 _ _ c3 (B1 _ _ c1 e))))))
 have r1':h7.IsListIter n l1 (k+1):=((((r1.extBut B3 (nz (by omega))).extBut B4 (nz (by omega))).extBut B5 (nz (by omega))).extBut B6 (nz (by omega))).extBut B7 (nz (by omega))
 have r2':h7.IsListIter (n+1) l2 (k+1):=((r2.extBut B5 (nz (by omega))).extBut B6 (nz (by omega))).extBut B7 (nz (by omega))
 have r3':h7.IsListIter (n+2) l3 (k+1):=r3.extBut B7 (nz (by omega))
 have zl:n+5<h7.objs.size:=Heap.lt_size Z7
 show aT _ _ (Builtin.SmallTypes.ownedTupleHandOut (.ref (n+5)) (.ref h7.objs.size) >>= _) _ _ _
 refine aq ?_
 unfold Builtin.SmallTypes.ownedTupleHandOut
 have Z8:gJ (h7.push { cls:=.type "tuple",data:=.seq #[x,y,u] }) (n+5) (n+3) (n+4) .ellipsis:=Heap.get?_push_of_some _ Z7
 refine aq (eZ Z8 (by simp) λ h9 Z9 b9=>?_)
 replace Z9:gJ h9 (n+5) (n+3) (n+4) (dM h7.objs.size):=Z9
 refine eZ Z9 (by simp) λ h10 Z10 b10=>?_
 replace Z10:gJ h10 (n+5) (n+3) (n+4) (dM h7.objs.size):=Z10
 have up:∀c o,c≠n+5->h7.get? c=some o->h10.get? c=some o:=λ c o c1 e=>b10.extBut _ _ c1 (b9.extBut _ _ c1 (Heap.get?_push_of_some _ e))
 have T10:Ho h10 h7.objs.size x y u:=b10.extBut _ _ (nz (by omega)) (b9.extBut _ _ (nz (by omega)) (Heap.get?_push_size _ rfl))
 rw[sz]at Z10 T10
 refine aM ⟨_,rfl,?_⟩
 show Q (.ref h7.objs.size) _
 rw[sz]
 exact hQ h10 Z10 (up _ _ (nz (by omega)) O7) (r1'.at λ o e=>up _ o (nz (by omega)) e) (r2'.at λ o e=>up _ o (nz (by omega)) e) (r3'.at λ o e=>up _ o (nz (by omega)) e) T10 λ c o c1 c2 c3 c4 c5 e=>up c o c1 (kp c o c1 c2 c3 c4 c5 e)
theorem adZ{n l1 k:Nat}{xs:Array ao}{a b c:ao}{Q:Fin->au->Prop}(hh:A.handled=none)(g1:l1<n)
  (Z0:gJ s.heap (n+5) (n+3) (n+4) .none)(I0:Ho s.heap (n+3) (.ref n) (.ref (n+1)) (.ref (n+2)))(O0:Ho s.heap (n+4) a b c)
  (w1:s.heap.IsListIter n l1 k)(v1:s.heap.IsList l1 xs)(e1:xs[k]? =none)
  (hE:∀h' e,(∀c o,c≠n+5->c≠n->s.heap.get? c=some o->h'.get? c=some o)->(∃o,h'.get? e=some o/\o.cls= .type "StopIteration")->E (.ref e) { s with heap:=h' }):
  aT (aU prog w) A (jd.«zip.__next__» ⟨[.ref (n+5)],[]⟩) Q E s:=by
 show aT _ _ (field (.ref (n+5)) 2 >>= _) _ _ _
 refine aq (cO Z0 rfl (x:=.bool false) rfl ?_)
 show aT _ _ (field (.ref (n+5)) 3 >>= _) _ _ _
 refine aq (cO Z0 rfl (x:=.ref (n+3)) rfl (aq (fz I0 rfl ?_)))
 show aT _ _ (Builtin.SmallTypes.ownedTupleIsFree (.ref (n+5)) >>= _) _ _ _
 refine aq ?_
 unfold Builtin.SmallTypes.ownedTupleIsFree
 refine aq (cO Z0 rfl (x:=.none) rfl (aM ?_))
 simp only[if_true]
 refine aq (wpAny_rule (aq (cO Z0 rfl (x:=.ref (n+4)) rfl ?_)))
 refine aq (eZ Z0 (by simp) λ h1 Z1 b1=>?_)
 replace Z1:gJ h1 (n+5) (n+3) (n+4) .ellipsis:=Z1
 have B1:=b1.extBut
 refine aq ?_
 simp only[d7,lu,je,ia]
 refine aq (aq (iX ?_))
 show aT _ _ (Builtin.SmallTypes.nextOf (.ref n) >>= _) _ _ _
 refine aq (wpAny_nextOf_list_end hh (w1.extBut B1 (nz (by omega))) (v1.extBut B1 (nz (by omega))) e1 λ h2 e B2 he=>?_)
 obtain⟨oe,hoe,hce⟩:=he
 have Z2:gJ h2 (n+5) (n+3) (n+4) .ellipsis:=B2 _ _ (nz (by omega)) Z1
 have ne:e≠n+5:=λ q=>by subst q;rw[Z2]at hoe;cases hoe;simp at hce
 exact eZ Z2 (by simp) λ h3 _ b3=>hE h3 e (λ c o c1 c3 q=>b3.extBut _ _ c1 (B2 _ _ c3 (B1 _ _ c1 q))) ⟨oe,b3.extBut _ _ ne hoe,hce⟩
theorem Yo{n l1 l2 l3 k:Nat}{xs ys us:Array ao}{x y u a b c:ao}{Q:Option ao->au->Prop}(g1:l1<n)(g2:l2<n)(g3:l3<n)
  (Z0:gJ s.heap (n+5) (n+3) (n+4) .none)(I0:Ho s.heap (n+3) (.ref n) (.ref (n+1)) (.ref (n+2)))(O0:Ho s.heap (n+4) a b c)
  (w1:s.heap.IsListIter n l1 k)(w2:s.heap.IsListIter (n+1) l2 k)(w3:s.heap.IsListIter (n+2) l3 k)(v1:s.heap.IsList l1 xs)(v2:s.heap.IsList l2 ys)(v3:s.heap.IsList l3 us)(e1:xs[k]? =some x)(e2:ys[k]? =some y)(e3:us[k]? =some u)
  (hQ:∀h',gJ h' (n+5) (n+3) (n+4) (dM s.heap.objs.size)->Ho h' (n+4) x y u->h'.IsListIter n l1 (k+1)->h'.IsListIter (n+1) l2 (k+1)->h'.IsListIter (n+2) l3 (k+1)->Ho h' s.heap.objs.size x y u->
   (∀c o,c≠n+5->c≠n+4->c≠n->c≠n+1->c≠n+2->s.heap.get? c=some o->h'.get? c=some o)->Q (some (.ref s.heap.objs.size)) { s with heap:=h' }):
  aT (aU prog w) A (jS (.ref (n+5))) Q E s:=by
 have ty:s.TypeIs (.ref (n+5)) "zip":=⟨_,Z0,rfl⟩
 unfold jS
 exact aq (kb (ko (name:=Str.ofString "__next__") ty F.slot_zip_next (mh F.slot_zip_next ty F.entry_zip_next
  (acB g1 g2 g3 Z0 I0 O0 w1 w2 w3 v1 v2 v3 e1 e2 e3 λ h' a1 a2 a3 a4 a5 a6 a7=>aM (hQ h' a1 a2 a3 a4 a5 a6 a7)) (F.args_zip_next_1 _))))
theorem aav{n l1 k:Nat}{xs:Array ao}{a b c:ao}{Q:Option ao->au->Prop}(hh:A.handled=none)(g1:l1<n)
  (Z0:gJ s.heap (n+5) (n+3) (n+4) .none)(I0:Ho s.heap (n+3) (.ref n) (.ref (n+1)) (.ref (n+2)))(O0:Ho s.heap (n+4) a b c)
  (w1:s.heap.IsListIter n l1 k)(v1:s.heap.IsList l1 xs)(e1:xs[k]? =none)
  (hQ:∀h',(∀c o,c≠n+5->c≠n->s.heap.get? c=some o->h'.get? c=some o)->Q none { s with heap:=h' }):aT (aU prog w) A (jS (.ref (n+5))) Q E s:=by
 have ty:s.TypeIs (.ref (n+5)) "zip":=⟨_,Z0,rfl⟩
 unfold jS
 refine aq (kb (ko (name:=Str.ofString "__next__") ty F.slot_zip_next (mh F.slot_zip_next ty F.entry_zip_next (adZ hh g1 Z0 I0 O0 w1 v1 e1 λ h' e hk he=>?_) (F.args_zip_next_1 _))))
 obtain⟨o,ho,hc⟩:=he
 exact aq (wpAny_isInstance (T:="StopIteration") (b:=true) ⟨o,ho,hc⟩ isSubtype_stop (aM (hQ _ hk)))
end
theorem aaw(a b c:ao):checkTypeCall "zip" ⟨[a,b,c],[]⟩=pure ():=by kernel_rfl
theorem aax(a b c:ao):checkBuiltinCall "zip.__new__" ⟨[.type "zip",a,b,c],[]⟩=pure ():=by kernel_rfl
theorem aay(a b c d:ao):argsOk "object.__init__" ⟨[a,b,c,d],[]⟩:=by
 unfold argsOk;rw[signature?_of (id:="object.__init__") (n:=['_','_','t','i','n','i','_','_']) (o:=['t','c','e','j','b','o']) (by kernel_rfl) F.owner_object];kernel_rfl
def RL(l:ag):Obj:={ cls:=.type "list_iterator",data:=.fields #[.ref l,.int 0 0] }
def z3a(h:bF)(l1 l2 l3:ag):bF:=((h.push (RL l1)).push (RL l2)).push (RL l3)
def z3b(h:bF)(l1 l2 l3:ag):bF:=(z3a h l1 l2 l3).push { cls:=.type "tuple",data:=.seq #[.ref h.objs.size,.ref (h.push (RL l1)).objs.size,.ref ((h.push (RL l1)).push (RL l2)).objs.size] }
def z3c(h:bF)(l1 l2 l3:ag):bF:=(z3b h l1 l2 l3).push { cls:=.type "tuple",data:=.seq #[.none,.none,.none] }
def z3d(h:bF)(l1 l2 l3:ag):bF:=(z3c h l1 l2 l3).push { cls:=.type "zip",data:=.fields #[.none,.bool false,.bool false,.ref (z3a h l1 l2 l3).objs.size,.ref (z3b h l1 l2 l3).objs.size] }
theorem ad0(l1 l2 l3:ag)(xs ys us:Array ao):
  Meets (jd.«zip.__new__» ⟨[.type "zip",.ref l1,.ref l2,.ref l3],[]⟩) (λ _ R s=>s.heap.IsList l1 xs/\s.heap.IsList l2 ys/\s.heap.IsList l3 us/\
   R (.ok (.ret (.ref (z3c s.heap l1 l2 l3).objs.size))) { s with heap:=z3d s.heap l1 l2 l3 }):=
 .of_wp λ prog w A R s h=>by
  obtain⟨hp,g,d,tk,os⟩:=s;obtain⟨Kf,Nm,hl3,h⟩:=h
  have afp:=sub_zip
  have q1:Heap.IsList (Shared.heap ⟨hp,g,d,tk,os⟩) l1 xs:=Kf
  have q2:Heap.IsList (Shared.heap ⟨hp.push { cls:=.type "list_iterator",data:=.fields #[.ref l1,.int 0 0] },g,d,tk,os⟩) l2 ys:=Heap.IsList.push Nm _
  have q3:Heap.IsList (Shared.heap ⟨(hp.push { cls:=.type "list_iterator",data:=.fields #[.ref l1,.int 0 0] }).push { cls:=.type "list_iterator",data:=.fields #[.ref l2,.int 0 0] },g,d,tk,os⟩) l3 us:=Heap.IsList.push (Heap.IsList.push hl3 _) _
  wp_walk using fA q1,fA q2,fA q3
  exact⟨_,rfl,h⟩
end L2
namespace L2
section
variable{prog:aK}{w:bj}{A:bV}{E:ao->au->Prop}{s:au}
theorem acC{l1 l2 l3:ag}{xs ys us:Array ao}{Q:ao->au->Prop}(v1:s.heap.IsList l1 xs)(v2:s.heap.IsList l2 ys)(v3:s.heap.IsList l3 us)
  (h:∀h',gJ h' (s.heap.objs.size+5) (s.heap.objs.size+3) (s.heap.objs.size+4) .none->Ho h' (s.heap.objs.size+3) (.ref s.heap.objs.size) (.ref (s.heap.objs.size+1)) (.ref (s.heap.objs.size+2))->
   Ho h' (s.heap.objs.size+4) .none .none .none->h'.IsListIter s.heap.objs.size l1 0->h'.IsListIter (s.heap.objs.size+1) l2 0->h'.IsListIter (s.heap.objs.size+2) l3 0->
   (∀c o,s.heap.get? c=some o->h'.get? c=some o)->Q (.ref (s.heap.objs.size+5)) { s with heap:=h' }):
  aT (aU prog w) A (call (.type "zip") [.ref l1,.ref l2,.ref l3]) Q E s:=by
 refine callType_new F.called_zip (by decide) (aaw _ _ _) (aax _ _ _) (λ obj=>aay obj _ _ _) F.entry_zip_new (ad0 l1 l2 l3 xs ys us) ⟨v1,v2,v3,?_⟩
 have p:∀(h:bF) (o:Obj),(h.push o).objs.size=h.objs.size+1:=λ h o=>Heap.size_push ..
 have a1:(s.heap.push (RL l1)).objs.size=s.heap.objs.size+1:=p _ _
 have a2:((s.heap.push (RL l1)).push (RL l2)).objs.size=s.heap.objs.size+2:=by rw[p,p]
 have a3:(z3a s.heap l1 l2 l3).objs.size=s.heap.objs.size+3:=by unfold z3a;rw[p,p,p]
 have a4:(z3b s.heap l1 l2 l3).objs.size=s.heap.objs.size+4:=by unfold z3b;rw[p,a3]
 have a5:(z3c s.heap l1 l2 l3).objs.size=s.heap.objs.size+5:=by unfold z3c;rw[p,a4]
 have up:∀{h:bF} {c:ag} {o:Obj} (x:Obj),h.get? c=some o->(h.push x).get? c=some o:=λ x e=>Heap.get?_push_of_some _ e
 have q6:(z3d s.heap l1 l2 l3).get? (z3c s.heap l1 l2 l3).objs.size=some _:=Heap.get?_push_size _ rfl
 have q5:(z3d s.heap l1 l2 l3).get? (z3b s.heap l1 l2 l3).objs.size=some _:=up _ (Heap.get?_push_size _ rfl)
 have q4:(z3d s.heap l1 l2 l3).get? (z3a s.heap l1 l2 l3).objs.size=some _:=up _ (up _ (Heap.get?_push_size _ rfl))
 have q3:(z3d s.heap l1 l2 l3).get? ((s.heap.push (RL l1)).push (RL l2)).objs.size=some (RL l3):=up _ (up _ (up _ (Heap.get?_push_size _ rfl)))
 have q2:(z3d s.heap l1 l2 l3).get? (s.heap.push (RL l1)).objs.size=some (RL l2):=up _ (up _ (up _ (up _ (Heap.get?_push_size _ rfl))))
 have q1:(z3d s.heap l1 l2 l3).get? s.heap.objs.size=some (RL l1):=up _ (up _ (up _ (up _ (up _ (Heap.get?_push_size _ rfl)))))
 rw[a3,a4,a5]at q6
 rw[a1,a2,a3]at q4
 rw[a4]at q5
 rw[a2]at q3
 rw[a1]at q2
 show _/\_
 rw[a5]
 exact⟨⟨_,q6,rfl⟩,h _ q6 q4 q5 ⟨_,q1,rfl,rfl⟩ ⟨_,q2,rfl,rfl⟩ ⟨_,q3,rfl,rfl⟩ λ c o e=>up _ (up _ (up _ (up _ (up _ (up _ e)))))⟩
end
def It3(K:ah)(a b c:ag):It:=
 ⟨λ i H=>∃(xs ys us:List V) (x y u:V),nA K H a xs/\nA K H b ys/\nA K H c us/\xs[i]? =some x/\ys[i]? =some y/\us[i]? =some u,
  λ i H v H'=>∃T x y u,v= .ref T/\H T=none/\H'=upd H T (.tup [x,y,u])/\(∀xs,nA K H a xs->xs[i]? =some x)/\(∀ys,nA K H b ys->ys[i]? =some y)/\∀us,nA K H c us->us[i]? =some u,
  λ i H=>∃xs:List V,nA K H a xs/\xs.length<=i⟩
theorem ad1{P:aK}{w:bj}{K:ah}{elts:List bJ}{kk:Nat}{BD:Pos}{a b c n:Nat}(ga:a<n)(gb:b<n)(gc:c<n):
  Turn P w K (.Tuple elts kk BD) (It3 K a b c) [n+5,n+4,n+3,n+2,n+1,n] (n+5) (λ i h=>gJ h (n+5) (n+3) (n+4) .none/\Ho h (n+3) (.ref n) (.ref (n+1)) (.ref (n+2))/\(∃x y u,Ho h (n+4) x y u)/\h.IsListIter n a i/\h.IsListIter (n+1) b i/\h.IsListIter (n+2) c i) where
 mem:=by simp
 obj:=λ i h st d hd=>by
  obtain⟨Z,I,⟨x,y,u,O⟩,⟨o1,e1,_,d1⟩,⟨o2,e2,_,d2⟩,⟨o3,e3,_,d3⟩⟩:=st
  have q:d=n+5\/d=n+4\/d=n+3\/d=n+2\/d=n+1\/d=n:=by simpa using hd
  rcases q with rfl|rfl|rfl|rfl|rfl|rfl
  ·exact⟨_,Z,λ v q=>nomatch q⟩
  ·exact⟨_,O,λ v q=>nomatch q⟩
  ·exact⟨_,I,λ v q=>nomatch q⟩
  ·exact⟨o3,e3,λ v q=>by rw[d3]at q;cases q⟩
  ·exact⟨o2,e2,λ v q=>by rw[d2]at q;cases q⟩
  ·exact⟨o1,e1,λ v q=>by rw[d1]at q;cases q⟩
 keep:=λ i h h' st k=>by
  obtain⟨Z,I,⟨x,y,u,O⟩,w1,w2,w3⟩:=st
  exact⟨k _ (by simp) _ Z,k _ (by simp) _ I,⟨x,y,u,k _ (by simp) _ O⟩,w1.at λ o q=>k _ (by simp) o q,w2.at λ o q=>k _ (by simp) o q,w3.at λ o q=>k _ (by simp) o q⟩
 item:=by
  intro X hP hw hK hc i pins s σ H E I hf st hg
  subst hP hw hK
  obtain⟨Z,It,⟨x0,y0,u0,O⟩,w1,w2,w3⟩:=st
  obtain⟨xs,ys,us,x,y,u,qx,qy,qu,hx,hy,hu⟩:=hg
  obtain⟨oh,rv,p,_⟩:=I.list qx
  obtain⟨EK,rv2,p2,_⟩:=I.list qy
  obtain⟨afc,rv3,p3,_⟩:=I.list qu
  obtain⟨v1,e1,r1⟩:=rv.get hx
  obtain⟨v2,e2,r2⟩:=rv2.get hy
  obtain⟨v3,e3,r3⟩:=rv3.get hu
  have zl:n+5<s.heap.objs.size:=Heap.lt_size Z
  refine Yo ga gb gc Z It O w1 w2 w3 p.isList p2.isList p3.isList (x:=v1) (y:=v2) (u:=v3) (by simpa using e1) (by simpa using e2) (by simpa using e3) λ h' Z' O' w1' w2' w3' hT hk=>?_
  refine⟨_,rfl,j3 (s:={ s with heap:=h' }) Z' λ VV Z'' sb=>?_⟩
  have LS:VV.get? s.heap.objs.size=some { cls:=.type "tuple",data:=.seq #[v1,v2,v3] }:=(sb.2 _ (fW zl)).trans hT
  have new:pN X.prog X.w (upd H s.heap.objs.size (.tup [x,y,u])) VV s.heap.objs.size (.tup [x,y,u]):=
   ⟨by show 3<=ay;decide,[v1,v2,v3],.cons r1 (.cons r2 (.cons r3 .nil)),⟨_,LS,rfl,_,rfl⟩⟩
  have I1:Inv X pins σ (upd H s.heap.objs.size (.tup [x,y,u])) { s with heap:=VV }:=
   I.ER (t':=s.toks) (ch:=[n+5,n+4,n+3,n+2,n+1,n]) (λ d o hb q=>(sb.2 d (λ q'=>hb (by simp[q']))).trans (hk d o (λ q'=>hb (by simp[q'])) (λ q'=>hb (by simp[q'])) (λ q'=>hb (by simp[q'])) (λ q'=>hb (by simp[q'])) (λ q'=>hb (by simp[q'])) q)) hf (ax _) new
  refine⟨.ref s.heap.objs.size,_,I1,rfl,⟨_,x,y,u,rfl,I.oW.fresh (ax _),rfl,λ l hl=>by rw[I.vj hl qx];exact hx,λ l hl=>by rw[I.vj hl qy];exact hy,λ l hl=>by rw[I.vj hl qu];exact hu⟩,⟨Z'',?_,⟨v1,v2,v3,?_⟩,?_,?_,?_⟩,λ d hd=>?_⟩
  ·exact(sb.2 _ (nz (by omega))).trans (hk _ _ (nz (by omega)) (nz (by omega)) (nz (by omega)) (nz (by omega)) (nz (by omega)) It)
  ·exact(sb.2 _ (nz (by omega))).trans O'
  ·exact w1'.at λ o q=>(sb.2 _ (nz (by omega))).trans q
  ·exact w2'.at λ o q=>(sb.2 _ (nz (by omega))).trans q
  ·exact w3'.at λ o q=>(sb.2 _ (nz (by omega))).trans q
  ·have lt:d<s.heap.objs.size:=by
    have q:d=n+5\/d=n+4\/d=n+3\/d=n+2\/d=n+1\/d=n:=by simpa using hd
    have zl:(n:Nat)+5<s.heap.objs.size:=zl
    rcases q with rfl|rfl|rfl|rfl|rfl|rfl
    ·exact zl
    ·exact bH (eh (by decide:4<=5) _) zl
    ·exact bH (eh (by decide:3<=5) _) zl
    ·exact bH (eh (by decide:2<=5) _) zl
    ·exact bH (eh (by decide:1<=5) _) zl
    ·exact bH (cC _ 5) zl
   rw[mY (bK lt)]
   exact(hf d hd).1
 done:=by
  intro X hP hw hK hc i pins s σ H E I hf st hg
  subst hP hw hK
  obtain⟨Z,It,⟨x0,y0,u0,O⟩,w1,w2,w3⟩:=st
  obtain⟨xs,qx,adz⟩:=hg
  obtain⟨oh,rv,p,_⟩:=I.list qx
  have l1:=rv.length
  exact aav (I.ok.hd hc) ga Z It O w1 p.isList (by simp;omega) λ h' hk=>⟨rfl,I.SO (t':=s.toks) (ch:=[n+5,n+4,n+3,n+2,n+1,n]) (λ d o hb q=>
   hk d o (λ q'=>hb (by simp[q'])) (λ q'=>hb (by simp[q'])) q) hf⟩
 self:=λ A i s Q E st h=>g0 st.1 h
def ad2(K:ah)(ta:TA):TI:=λ σ H R=>ta σ H λ vs H1=>∃a b c xs ys us,vs=[.ref a,.ref b,.ref c]/\nA K H1 a xs/\nA K H1 b ys/\nA K H1 c us/\R (It3 K a b c) H1
theorem aaz{X:Cx}{e e2 e3:bJ}{ta:TA}{p pos BD:Pos}{elts:List bJ}{kk:Nat}(hg:Gl X "zip")(hm:X.mg "zip"=none)(ha:PA X [e,e2,e3] ta)
  (hs:aN [e,e2,e3] X.env=(false,cw e X.env)::aN [e2,e3] X.env:=by rfl)(vo:(c8 pos (aN [e2,e3] X.env)).any (·.1)=false:=by rfl):
  PI X (.Tuple elts kk BD) (.Call (.Name "zip" p) [e,e2,e3] [] pos) (ad2 X.K ta):=by
 intro pins s σ H R I h
 refine lr (vh I hg hm Kx (bT (pK (ha pos pins s σ H _ I h) λ us s1 ⟨vs,H1,I1,r1,q1⟩=>?_) hs vo))
 obtain⟨a,b,c,xs,ys,us',ex,qx,qy,qu,q⟩:=q1
 subst ex
 cases r1 with
 |cons r rr=>
  cases rr with
  |cons r' rr=>
   cases rr with
   |cons r'' rr=>
    cases rr
    cases r
    cases r'
    cases r''
    obtain⟨oh,rv,p1,_⟩:=I1.list qx
    obtain⟨EK,rv2,p2,_⟩:=I1.list qy
    obtain⟨afc,rv3,p3,_⟩:=I1.list qu
    have la:a<s1.heap.objs.size:=p1.lt
    have lb:b<s1.heap.objs.size:=p2.lt
    have lc:c<s1.heap.objs.size:=p3.lt
    refine acC p1.isList p2.isList p3.isList λ h' Z It O w1 w2 w3 hk=>g0 Z ?_
    have I2:Inv X pins σ H1 { s1 with heap:=h' }:=I1.kept (t':=s1.toks) hk
    refine⟨s1.heap.objs.size+5,[s1.heap.objs.size+5,s1.heap.objs.size+4,s1.heap.objs.size+3,s1.heap.objs.size+2,s1.heap.objs.size+1,s1.heap.objs.size],_,_,H1,rfl,I2,ad1 la lb lc,⟨Z,It,⟨_,_,_,O⟩,w1,w2,w3⟩,λ d hd=>?_,q⟩
    have e':d=s1.heap.objs.size+5\/d=s1.heap.objs.size+4\/d=s1.heap.objs.size+3\/d=s1.heap.objs.size+2\/d=s1.heap.objs.size+1\/d=s1.heap.objs.size:=by simpa using hd
    have hle:s1.heap.objs.size<=d:=by
     rcases e' with z|z|z|z|z|z
     ·rw[z];exact cC _ _
     ·rw[z];exact cC _ _
     ·rw[z];exact cC _ _
     ·rw[z];exact cC _ _
     ·rw[z];exact cC _ _
     ·rw[z];exact ax _
    exact I1.PZ hle (I1.oW.fresh hle)
theorem Yp{K:ah}{a b c:ag}{xs ys us:List V}{g:TG}{tb:TS}{D:Ends}{σ:L2.St}{H:Hp}(hxy:xs.length=ys.length)(hxu:xs.length=us.length)(Pv:Nat->L2.St->Hp->Prop)(h0:Pv 0 σ H)(hl:∀i σ H,i<=xs.length->Pv i σ H->nA K H a xs/\nA K H b ys/\nA K H c us)
  (hs:∀i x y u T σ H,xs[i]? =some x->ys[i]? =some y->us[i]? =some u->Pv i σ H->H T=none->g (.ref T) σ (upd H T (.tup [x,y,u])) λ σ2 H2=>tb { D with nx:=Pv (i+1),ct:=Pv (i+1),bk:=D.nx } σ2 H2)(hd:∀σ H,Pv xs.length σ H->D.nx σ H):
  ∃W:Nat->Nat->L2.St->Hp->Prop,(∃m,W 0 m σ H)/\∀i m σ H,W i m σ H->
   ((It3 K a b c).stop i H/\D.nx σ H)\/((It3 K a b c).go i H/\∃N:L2.St->Hp->Prop,(∀σ' H',N σ' H'->∃m',m'<m/\W (i+1) m' σ' H')/\∀x H',(It3 K a b c).Ht i H x H'->g x σ H' λ σ2 H2=>tb { D with nx:=N,ct:=N,bk:=D.nx } σ2 H2):=by
 refine⟨λ i m σ H=>m=xs.length-i/\i<=xs.length/\Pv i σ H,⟨xs.length,by simp,aE _,h0⟩,?_⟩
 rintro i m σ H ⟨rfl,hi,p⟩
 obtain⟨q,q',q''⟩:=hl i σ H hi p
 by_cases rL:i<xs.length
 ·refine .inr ⟨⟨xs,ys,us,xs[i],ys[i],us[i],q,q',q'',by simp[rL],af (by omega),af (by omega)⟩,Pv (i+1),λ σ' H' p'=>⟨xs.length-(i+1),by omega,rfl,rL,p'⟩,λ x H' y=>?_⟩
  obtain⟨T,z,z',z'',rfl,hT,rfl,y,y',y''⟩:=y
  exact hs i z z' z'' T σ H (y xs q) (y' ys q') (y'' us q'') p hT
 ·have e:i=xs.length:=by omega
  subst e
  exact .inl ⟨⟨xs,q,ax _⟩,hd σ H p⟩
end L2
namespace n_
def TZ(s:bS)(x:bD×Nat):List Nat:=(x.1.name.length::x.1.name)++[x.1.weight,x.1.finds,x.1.time,s.done.getD x.2 0]
def clL(s:bS)(n:Nat):List Nat:=(s.field.cells.zipIdx.take n).flatMap (TZ s)
theorem AJ{f:ae}{ws:List Nat}{i w:Nat}{c:bD}(h1:f.cells[i]? =some c)(h2:ws[i]? =some w):(pJ f ws).cells[i]? =some { c with weight:=w }:=by
 unfold pJ
 rw[aO,h1,h2]
def MP(s:bS)(f0:ae)(ns zs:List Int):List Int:=(eN s f0 .cells).2
theorem VA(s:bS)(f0:ae)(ns zs:List Int):iL (MP s f0 ns zs)=V.int 0::V.int (s.field.cells.length:Nat)::nV (clL s s.field.cells.length):=by
 show iL (0::(s.field.cells.length:Int)::s.field.cells.zipIdx.flatMap λ x=>jh x.1.name++dU [x.1.weight,x.1.finds,x.1.time,s.done.getD x.2 0])=_
 rw[t7,t7]
 congr 2
 unfold clL
 rw[cu (by rw[dP];exact ax _)]
 unfold iL nV
 rw[gB,gB]
 congr 1
 funext x
 unfold TZ jh dU
 rw[aF,aF,aH,aH,aW];rfl
abbrev RN:List Str:=["search","numbers","row","answer","cell","weight","efforts","name"]
theorem GN:m7 RN tp (mZ Cw):=qf
theorem GP(F:pG K "call_cells" "call_cells" Cw f fd)(S:pY K CS)(nG:Rec P w K mg base "Field" CF CN)(ow:Rec P w K mg base "Cell" CC Fb)(nB:oC mg "DONE" 0)(o9:mg "len"=none)(xM:mg "zip"=none)(rZ:rA P w K mg base oE 1 "to_bytes" ["text"] Bn):nO P w K mg base oE 2 f fd tp (BF CS CF CC CT 0 MP):=by
 refine F.ok GN (λ vs H Q E h=>?_) (λ oU A outer s H vs Q E hr h=>?_)
 ·obtain⟨x,wl,hl,nl,rl,a,s',f0,ws,ns,zs,rfl,_⟩:=h
  rfl
 ·obtain⟨x,wl,hl,nl,rl,a,s',f0,ws,ns,zs,rfl,T,hn,hz,ln,lz,k⟩:=h
  have nd:=GN.nd
  refine⟨_,(mV (m6 (i:=3) nd rfl (Or.inl rfl) (nN (mU (nP nB) (mU (nJ nL rfl o9 aX (mU (m_ (pv 0) rfl) mW)) mW))))
   (mV (qw PassesOwn.never rfl (aaz rfl xM (mU (m_ (m_ (pv 0) rfl) rfl) (mU (m_ (pv 0) rfl) (mU (m_ (pv 0) rfl) mW)))) (zN rfl (oG (nr (i:=4) nd rfl (Or.inl rfl)) (oG (nr (i:=5) nd rfl (Or.inl rfl)) (oG (nr (i:=6) nd rfl (Or.inl rfl)) rB)))) (mV (m6 (i:=7) nd rfl (Or.inl rfl) (nq (E:=E0) rZ hr (by decide) nj (mU (m_ (pv 4) rfl) mW)))
   (mV (nZ (qQ aG a_ a0 pD (pv 3) (mU (nJ nL rfl o9 aX (mU (pv 7) mW)) mW)))
   (mV (nZ (qQ aG cU cT vb (pv 3) (mU (pv 7) mW)))
   (m4 (nZ (qQ aG cU cT vb (pv 3) (mU (nN (mU (pv 5) (mU (m_ (pv 4) rfl) (mU (m_ (pv 4) rfl) (mU (pv 6) mW))))) mW))))))))
   (m4 (m9 (pv 3))))),?_⟩
  obtain⟨dx,hx⟩:=T.se.1
  rw[VA]at k
  have wB:=T.wB
  obtain⟨df,lc,lt,as,bs,f1,f2,f3,f4,f5⟩:=T.field
  have KD:=T.se.2.1
  have D5:=T.se.2.2
  refine⟨_,rfl,x,CS,dx,_,_,rfl,hx,S.cl,S.n3,rfl,hl,_,rfl,.inl (nA.of D5),(by show 2<=ay;decide),λ an han=>?_⟩
  have s1:m5 H (upd H an (.lst [V.int 0,V.int ((nV s'.done).length:Nat)])):=m5.new han
  refine⟨_,rfl,x,CS,dx,_,_,rfl,s1 _ _ hx,S.cl,S.n1,rfl,a,CF,df,_,_,rfl,s1 _ _ f1,nG.cl,nG.na "cells" (by simp),rfl,_,rfl,x,CS,dx,_,_,rfl,s1 _ _ hx,S.cl,S.n2,rfl,_,rfl,x,CS,dx,_,_,rfl,s1 _ _ hx,S.cl,S.n3,rfl,lc,wl,hl,_,_,_,rfl,nA.of (s1 _ _ f2),nA.of (s1 _ _ KD),nA.of (s1 _ _ D5),?_⟩
  refine Yp (K:=K) (a:=lc) (b:=wl) (c:=hl) (xs:=as.map V.ref) (ys:=nV ws) (us:=nV s'.done) (by rw[aa,m8,f3.1,T.lw]) (by rw[aa,m8,f3.1,T.ld]) (λ i σ H'=>∃(v4 v5 v6 v7:Option V),σ=[some (.ref x),some (.ref nl),some (.ref rl),some (.ref an),v4,v5,v6,v7]/\i<=f0.cells.length/\m5 H H'/\H' an=some (.lst (V.int 0::V.int (s'.field.cells.length:Nat)::nV (clL s' i)))/\(clL s' i).length<=13*i)
   ⟨none,none,none,none,rfl,aE _,s1,by rw[mX,m8,T.dl];rfl,ax _⟩ (λ i σ H' _ ⟨_,_,_,_,_,_,sm,_⟩=>⟨nA.of (sm _ _ f2),nA.of (sm _ _ KD),nA.of (sm _ _ D5)⟩) ?_ ?_
  ·rintro i y z u TT σ H' hy VU hu ⟨v4,v5,v6,v7,rfl,hi,sm,SQ,hlen⟩ Va
   obtain⟨wi,q2,rfl⟩:=oq VU
   obtain⟨di,q3,rfl⟩:=oq hu
   rw[ak]at hy
   cases q1:as[i]? with
   |none=>rw[q1]at hy;cases hy
   |some ai=>
    rw[q1]at hy;cases hy
    have Ww:i<f0.cells.length:=by rw[<-f3.1];exact(List.getElem?_eq_some_iff.mp q1).1
    have ec:f0.cells[i]? =some f0.cells[i]:=af Ww
    obtain⟨dc,hc⟩:=f3.2 i ai _ q1 ec
    have nm8:=T.nm _ (cq Ww)
    have es:s'.field.cells.zipIdx[i]? =some ({ f0.cells[i]with weight:=wi },i):=by
     rw[bQ,T.fe,AJ ec q2];show some (_,0+i)=_;rw[cX]
    have ed:s'.done.getD i 0=di:=by rw[aB,q3];rfl
    have ecl:clL s' (i+1)=clL s' i++((f0.cells[i].name.length::f0.cells[i].name)++[wi,f0.cells[i].finds,f0.cells[i].time,di]):=by
     unfold clL
     rw[b8,es,d_]
     show _++(TZ s' _++[])=_
     rw[bC]
     unfold TZ
     rw[ed]
    generalize hci:f0.cells[i]=c0 at *
    have sT:m5 H' (upd H' TT (.tup [.ref ai,.int (wi:Nat),.int (di:Nat)])):=m5.new Va
    have sH:=sm.trans sT
    refine⟨TT,_,rfl,BG.of mX,rfl,_,_,rfl,_,_,rfl,_,_,rfl,rfl,?_⟩
    refine⟨_,rfl,ai,CC,dc,_,_,rfl,sH _ _ hc,ow.cl,ow.na "name" (by simp),rfl,c0.name,rfl,by omega,λ H3 nb s3 hnb ad3=>?_⟩
    have sH3:=sH.trans s3
    have ha3:=s3 _ _ (sT _ _ SQ)
    refine⟨_,rfl,.inl ⟨rfl,_,nA.of ha3⟩,_,rfl,nb,_,rfl,.inl (nA.of ad3),an,_,_,rfl,rfl,ha3,(by rw[aD,aD,m8,aA];omega),?_⟩
    generalize UQ:upd H3 an _=H4
    have s4:m5 H H4:=by rw[<-UQ];exact sH3.put han
    have nnb:nb≠an:=λ q=>by rw[q,sT _ _ SQ]at hnb;cases hnb
    have ha4:H4 an=some (.lst (V.int 0::V.int (s'.field.cells.length:Nat)::nV (clL s' i++[c0.name.length]))):=by
     rw[<-UQ,mX,m8];unfold nV;rw[aF];rfl
    have afd:H4 nb=some (.lst (nV c0.name)):=by rw[<-UQ,mY nnb];exact ad3
    refine⟨_,rfl,.inl ⟨rfl,_,nA.of ha4⟩,_,rfl,an,nb,_,_,rfl,rfl,ha4,afd,(by rw[aD,aD,m8,m8,aw,aA];show _+1+1+1+ _<=_;omega),?_⟩
    generalize hH5:upd H4 an _=H5
    have s5:m5 H H5:=by rw[<-hH5];exact s4.put han
    have ha5:H5 an=some (.lst (V.int 0::V.int (s'.field.cells.length:Nat)::nV (clL s' i++(c0.name.length::c0.name)))):=by
     rw[<-hH5,mX];unfold nV;rw[aF,aF,aH];simp
    refine⟨_,rfl,.inl ⟨rfl,_,nA.of ha5⟩,_,rfl,_,rfl,ai,CC,dc,_,_,rfl,s5 _ _ hc,ow.cl,ow.na "finds" (by simp),rfl,_,rfl,ai,CC,dc,_,_,rfl,s5 _ _ hc,ow.cl,ow.na "time" (by simp),rfl,_,rfl,(by show 4<=ay;decide),λ q4 hq4=>?_⟩
    have s6:m5 H5 (upd H5 q4 (.lst [V.int (wi:Nat),V.int (c0.finds:Nat),V.int (c0.time:Nat),V.int (di:Nat)])):=m5.new hq4
    refine⟨an,q4,_,_,rfl,rfl,s6 _ _ ha5,mX,(by rw[aD,aD,m8,aw,aD,aA];show _+1+1+4<=_;omega),?_⟩
    refine⟨_,_,_,_,rfl,Ww,(s5.trans s6).put han,?_,?_⟩
    ·rw[mX,ecl,<-bA]
     unfold nV
     rw[aF (l₂:=[wi,c0.finds,c0.time,di])];rfl
    ·rw[ecl,aw,aw,aD]
     show _+(_+1+4)<=_
     omega
  ·rintro σ H' ⟨v4,v5,v6,v7,rfl,hi,sm,SQ,hlen⟩
   refine⟨_,rfl,k H' an sm han ?_⟩
   rw[SQ,aa,f3.1,T.len]
def RO(ws:List Nat)(a b:Nat)(l:List Nat):List Nat:=ws.zipIdx.map λ x=>x.1*(if l.contains x.2=true then a else b)
theorem Yq{ws:List Nat}{a b:Nat}{l:List Nat}{i w:Nat}(h:ws[i]? =some w):(RO ws a b l)[i]? =some (w*(if l.contains i=true then a else b)):=by
 unfold RO
 rw[ak,bQ,h];simp
theorem Eo(ws:List Nat)(a b:Nat)(l:List Nat):(RO ws a b l).length=ws.length:=by unfold RO;rw[aa,dP]
theorem RP{f:ae}{ws:List Nat}(hl:ws.length=f.cells.length)(a b:Nat)(l:List Nat):lY (pJ f ws) a b l=pJ f (RO ws a b l):=by
 have e:(pJ f ws).cells.zipIdx.map (λ x=>({ x.1 with weight:=x.1.weight*(if l.contains x.2=true then a else b) }:bD))=(pJ f (RO ws a b l)).cells:=by
  apply bN
  intro i
  rw[ak,bQ]
  by_cases hi:i<f.cells.length
  ·have e1:ws[i]? =some (ws[i]'(by omega)):=af _
   have e0:f.cells[i]? =some f.cells[i]:=af hi
   rw[AJ e0 e1,AJ e0 (Yq e1)]
   show some _=some _
   simp
  ·rw[aI (show(pJ f ws).cells.length<=i by rw[qK hl];omega),aI (show(pJ f (RO ws a b l)).cells.length<=i by rw[qK (by rw[Eo];exact hl)];omega)];rfl
 exact congrArg (λ c=>(⟨f.parts,c,f.teams⟩:ae)) e
theorem Pd{f:ae}{ws:List Nat}(hl:ws.length=f.cells.length):((pJ f ws).cells.any λ c=>decide (1000000000000<c.weight))=ws.any λ n=>decide (1000000000000<n):=by
 rw[du,dI,dI]
 constructor
 ·rintro⟨c,hc,h⟩
  obtain⟨_,_,_,_,z⟩:=Bv hc
  exact⟨_,z,h⟩
 ·rintro⟨n,hn,h⟩
  obtain⟨i,hi,e⟩:=cy hn
  have e1:ws[i]? =some n:=by rw[af hi,e]
  exact⟨_,aC (AJ (af (show i<f.cells.length by omega)) e1),h⟩
def By(s:bS)(f0:ae)(ns zs:List Int):bS×List Int:=eN s f0 (.evidence (ns.getD 0 0) (ns.getD 1 0) zs)
theorem MQ(s:bS)(f0:ae)(ns zs:List Int):By s f0 ns zs=if(bI (ns.getD 0 0) 0 1000 && (bI (ns.getD 1 0) 0 1000 && zs.all (eQ s)))=false then(s,[-1])else if((lY s.field (ns.getD 0 0).toNat (ns.getD 1 0).toNat (bW zs)).cells.any λ c=>decide (1000000000000<c.weight))=true then(s,[-3])else({ s with field:=lY s.field (ns.getD 0 0).toNat (ns.getD 1 0).toNat (bW zs) },[0]):=rfl
abbrev xh:List Str:=["search","numbers","cells","changed","cell","weight","times"]
theorem AK:m7 xh ["search","numbers","cells"] (mZ rM):=qf
theorem AL(F:pG K "call_evidence" "call_evidence" rM f fd)(S:pY K CS)(zJ:mg "all"=none)(uV:oC mg "MOST_TIMES" 1000)(nF:oC mg "NOT_AS_TOLD" (-1))(pF:aas P w K mg base CS)(qi:mg "enumerate"=none)(OI:mg "max"=none)(qY:oC mg "GREATEST_WEIGHT" 1000000000000)(pk:oC mg "TOO_MANY" (-3))(nB:oC mg "DONE" 0):nO P w K mg base oE 2 f fd ["search","numbers","cells"] (Yl CS CF CC CT 2 By):=by
 refine F.ok AK (λ vs H Q E h=>?_) (λ oU A outer s H vs Q E hr h=>?_)
 ·obtain⟨x,wl,hl,nl,rl,a,s',f0,ws,ns,zs,rfl,_⟩:=h
  rfl
 ·obtain⟨x,wl,hl,nl,rl,a,s',f0,ws,ns,zs,rfl,told,T,hn,hz,ln,lz,k⟩:=h
  have nd:=AK.nd
  have nI:=S.cl
  refine⟨_,(mV (pf (vi (tF (nJ (B_ rfl) rfl zJ iK (mU (qp (own:=[("times",6)]) rfl nd (oJ (pv 1)) (by exact pz.of (N:=xh) (sc:=mZ rM) (by decide +kernel)) (λ _ _ _ _ _=>by exact(nr (i:=6) nd rfl (Or.inl rfl))) (λ _ _ _ _ _=>by exact oP) (λ _ _ _ _ _=>by exact(vk p7 p7 nM (pv 6) (nP uV)))) mW)))) (m4 (m9 (nN (mU (nP nF) mW)))) nX)
   (mV (pf (vi (tF (nJ (B_ rfl) rfl zJ iK (mU (qp (own:=[("cell",4)]) rfl nd (oJ (pv 2)) (by exact pz.of (N:=xh) (sc:=mZ rM) (by decide +kernel)) (λ _ _ _ _ _=>by exact(nr (i:=4) nd rfl (Or.inl rfl))) (λ _ _ _ _ _=>by exact oP) (λ _ _ _ _ _=>by exact(pO (E:=E0) pF nI hr (by decide) nj (pv 0) (mU (pv 4) mW)))) mW)))) (m4 (m9 (nN (mU (nP nF) mW)))) nX)
   (mV (m6 (i:=3) nd rfl (Or.inl rfl) (nN mW))
   (mV (qw PassesOwn.never rfl (Dv rfl qi (mU (m_ (pv 0) rfl) mW)) (zN rfl (oG (nr (i:=4) nd rfl (Or.inl rfl)) (oG (nr (i:=5) nd rfl (Or.inl rfl)) rB))) (m4 (nZ (qQ aG a_ a0 pD (pv 3) (mU (og wR (pv 5) (Nw (om Bb (pv 4) (pv 2) (by with_unfolding_all rfl)) (oZ n9 (pv 1) nM (λ _ _=>rfl)) (oZ n9 (pv 1) nM (λ _ _=>rfl)))) mW)))))
   (mV (pf (om BH (nJ (Qj rfl) rfl OI lq (mU (pv 3) mW)) (nP qY) (oH _)) (m4 (m9 (nN (mU (nP pk) mW)))) nX)
   (mV (pS (pv 0) (pv 3) rfl)
   (m4 (m9 (nN (mU (nP nB) mW)))))))))),?_⟩
  obtain⟨dx,hx⟩:=T.se.1
  rw[MQ]at k
  have wB:=T.wB
  have st:Em CS CF CC CT s' H x wl hl:=.inr ⟨f0,ws,a,told,T⟩
  obtain⟨h0,h1⟩:=RJ ln
  have ens:ns.all (λ z=>bI z 0 1000)=(bI (ns.getD 0 0) 0 1000 && bI (ns.getD 1 0) 0 1000):=by
   match ns,ln with
   |[p,q],_=>show(bI p 0 1000 && (bI q 0 1000 && true))=_;rw[Bool.and_true];rfl
  generalize ns.getD 0 0=pa at k h0 ens
  generalize ns.getD 1 0=pb at k h1 ens
  rw[<-Bool.and_assoc,<-ens]at k
  refine⟨_,rfl,nl,rfl,⟨_,nA.of hn⟩,?_⟩
  refine oV (oQ (K:=K) (xs:=iL ns) (nA.of hn)) (ns.map λ z=>V.bl (bI z 0 1000)) (by rw[pU,aa]) (by rw[pU,ln,aA];decide) (λ j x y H3 R3 N3 hy pE hF kk=>?_) (λ D1 H1 hD1 s1 afe=>?_)
  ·obtain⟨z,q1,rfl⟩:=Fo hF
   rw[ak,q1]at hy
   cases hy
   exact⟨rfl,sy (ud gc gv gc (kk H3 (m5.refl _)))⟩
  refine⟨D1,ns.map λ z=>bI z 0 1000,rfl,nA.of (by rw[afe,aW];rfl),?_⟩
  rw[cJ,show ns.all (id ∘ λ z=>bI z 0 1000)=ns.all (λ z=>bI z 0 1000)from rfl]
  refine⟨_,rfl,?_⟩
  cases ha:ns.all (λ z=>bI z 0 1000)with
  |false=>
   rw[ha,ib,if_pos rfl]at k
   exact s_ ⟨(by show 1<=ay;decide),oY (Ak.ret (k.pure st)) s1 rfl⟩
  |true=>
  rw[ha,fC]at k
  refine rG ⟨_,rfl,rl,rfl,⟨_,nA.of (s1 _ _ hz)⟩,?_⟩
  refine oV (oQ (K:=K) (xs:=iL zs) (nA.of (s1 _ _ hz))) (zs.map λ z=>V.bl (eQ s' z)) (by rw[pU,aa]) (by rw[pU,aA];omega) (λ j x y H3 R3 N3 hy pE hF kk=>?_) (λ D2 H2 hD2 s2 aff=>?_)
  ·obtain⟨z,q1,rfl⟩:=Fo hF
   rw[ak,q1]at hy
   cases hy
   exact⟨rfl,sy ⟨_,rfl,_,dx,_,rfl,pE _ _ (s1 _ _ hx),rfl,_,rfl,r8 ((T.same (s1.trans pE)).Ef (kk H3 (m5.refl _)))⟩⟩
  have vE:=s1.trans s2
  refine⟨D2,zs.map (eQ s'),rfl,nA.of (by rw[aff,aW];rfl),?_⟩
  rw[cJ,show zs.all (id ∘ eQ s')=zs.all (eQ s')from rfl]
  refine⟨_,rfl,?_⟩
  cases hc:zs.all (eQ s')with
  |false=>
   rw[hc,if_pos rfl]at k
   exact s_ ⟨(by show 1<=ay;decide),oY (Ak.ret (k.pure st)) vE rfl⟩
  |true=>
  rw[hc,if_neg (by simp),T.fe,RP T.lw,Pd (by rw[Eo];exact T.lw)]at k
  obtain⟨r1,r2,r3⟩:=Ju hc
  rw[ens,bg]at ha
  obtain⟨i1,i2⟩:=pj.mp ha.1
  obtain⟨i3,i4⟩:=pj.mp ha.2
  obtain⟨an,rfl⟩:∃m:Nat,pa=(m:Int):=⟨pa.toNat,by omega⟩
  obtain⟨bn,rfl⟩:∃m:Nat,pb=(m:Int):=⟨pb.toNat,by omega⟩
  rw[show((an:Int)).toNat=an from rfl,show((bn:Int)).toNat=bn from rfl]at k
  refine rG ⟨aE _,λ ch PU=>?_⟩
  have MR:=none_of vE PU
  have s3:=vE.put (o:=.lst []) MR
  refine⟨_,rfl,x,CS,dx,_,_,rfl,s3 _ _ hx,S.cl,S.n2,rfl,wl,_,rfl,nA.of (s3 _ _ T.se.2.1),DO (K:=K) (a:=wl) (xs:=nV ws) (λ i σ H'=>∃(v4 v5:Option V),σ=[some (.ref x),some (.ref nl),some (.ref rl),some (.ref ch),v4,v5,none]/\i<=ws.length/\m5 H H'/\H' ch=some (.lst (nV ((RO ws an bn (bW zs)).take i))))
   ⟨none,none,rfl,aE _,s3,mX⟩ (λ i σ H' _ ⟨_,_,_,_,sm,_⟩=>nA.of (sm _ _ T.se.2.1)) ?_ ?_⟩
  ·rintro i y TT σ H' hy ⟨v4,v5,rfl,hi,sm,hcH⟩ Va
   obtain⟨wi,q1,rfl⟩:=oq hy
   have Ww:i<ws.length:=(List.getElem?_eq_some_iff.mp q1).1
   have Zb:=T.Zb wi (aC q1)
   have sT:m5 H' (upd H' TT (.tup [.int (i:Nat),.int (wi:Nat)])):=m5.new Va
   have sH:=sm.trans sT
   have hc2:=sT _ _ hcH
   have lt:((RO ws an bn (bW zs)).take i).length<=16:=by rw[bX,Eo,T.lw];omega
   have fin:∀v:Nat,v=(if(bW zs).contains i=true then an else bn)->(nV ((RO ws an bn (bW zs)).take i))++[V.int ((wi:Int)*(v:Int))]=nV ((RO ws an bn (bW zs)).take (i+1)):=λ v hv=>by
    rw[b8,Yq q1,<-hv]
    unfold nV
    rw[aF]
    show _=_++[V.int ((wi*v:Nat):Int)]
    rw[Int.natCast_mul]
   refine⟨TT,_,rfl,BG.of mX,rfl,_,_,rfl,_,_,rfl,rfl,?_⟩
   refine⟨_,rfl,.inl ⟨rfl,_,nA.of hc2⟩,_,rfl,_,rfl,_,rfl,rl,_,rfl,.inl (nA.of (by rw[sH _ _ hz,r1])),rfl,(by rw[cJ];exact List.all_eq_true.mpr λ _ _=>rfl),_,rfl,?_⟩
   rw[show(if false=true then !G7 (.int (i:Nat)) (nV (bW zs))else G7 (.int (i:Nat)) (nV (bW zs)))=(bW zs).contains i from DM i (bW zs)]
   refine p8 (λ hm=>?_) λ hm=>?_
   ·have e:=fin an (by rw[if_pos hm])
    refine⟨_,rfl,nl,_,_,_,rfl,rfl,nA.of (sH _ _ hn),at_of (j:=0) rfl h0,_,_,rfl,rfl,K7 Zb _,ch,_,_,rfl,rfl,hc2,(by rw[m8,aA];omega),?_⟩
    exact⟨_,_,rfl,Ww,sH.put MR,by rw[mX];exact congrArg (λ z=>some (HO.lst z)) e⟩
   ·have e:=fin bn (by rw[if_neg hm])
    refine⟨_,rfl,nl,_,_,_,rfl,rfl,nA.of (sH _ _ hn),at_of (j:=1) rfl h1,_,_,rfl,rfl,K7 Zb _,ch,_,_,rfl,rfl,hc2,(by rw[m8,aA];omega),?_⟩
    exact⟨_,_,rfl,Ww,sH.put MR,by rw[mX];exact congrArg (λ z=>some (HO.lst z)) e⟩
  ·rintro σ H' ⟨v4,v5,rfl,hi,sm,hcH⟩
   have et:(RO ws an bn (bW zs)).take (nV ws).length=RO ws an bn (bW zs):=cu (by rw[m8,Eo];exact ax _)
   rw[et]at hcH
   have lw':(RO ws an bn (bW zs)).length=f0.cells.length:=by rw[Eo,T.lw]
   generalize hW:RO ws an bn (bW zs)=W at *
   have neW:W≠[]:=λ q=>by
    rw[q]at lw'
    exact T.ok.ne (List.length_eq_zero_iff.mp lw'.symm)
   refine⟨_,rfl,ch,_,rfl,My hcH,?_,λ m ZY ZZ=>?_⟩
   ·rw[aa];exact cf λ z=>neW (List.length_eq_zero_iff.mp z)
   have em:=IZ ZY ZZ
   subst em
   refine⟨_,_,rfl,rfl,_,rfl,p8 (λ hg=>?_) λ hg=>?_⟩
   ·have hg:(1000000000000:Int)<((vJ W:Nat):Int):=of_decide_eq_true hg
    have:(W.any λ n=>decide (1000000000000<n))=true:=List.any_eq_true.mpr ⟨_,D8 W neW,decide_eq_true (by omega)⟩
    rw[this,if_pos rfl]at k
    exact⟨(by show 1<=ay;decide),oY (Ak.ret (k.pure st)) sm rfl⟩
   ·have hg:¬ (1000000000000:Int)<((vJ W:Nat):Int):=λ q=>hg (decide_eq_true q)
    have Zb:∀n∈W,n<=1000000000000:=λ n hn=>by have:=Mx W n hn;omega
    have:(W.any λ n=>decide (1000000000000<n))=false:=by
     rw[iO]
     intro n hn q
     have:=of_decide_eq_true q
     have:=Zb n hn
     omega
    rw[this,if_neg (by simp)]at k
    have hx':=sm _ _ hx
    refine⟨_,rfl,_,rfl,x,CS,dx,_,rfl,hx',S.cl,S.n2,(by show 3<1000;decide),?_⟩
    generalize JV:upd H' x _=H2
    have x2:H2 x=some (.ins CS dx (J9.zip [.ref a,.ref ch,.ref hl])):=by rw[<-JV,mX];rfl
    have k2:∀b o,b≠x->H' b=some o->H2 b=some o:=λ b o n e=>by rw[<-JV,mY n];exact e
    have nhx:hl≠x:=λ q=>by have:=T.se.2.2;rw[q,hx]at this;cases this
    have ncx:ch≠x:=λ q=>by rw[q,hx]at MR;cases MR
    have nch:ch≠hl:=λ q=>by rw[q,T.se.2.2]at MR;cases MR
    obtain⟨H0,g1,g2,g3,g4,g5,g6⟩:=T.fa
    have T2:vg CS CF CC CT { s' with field:=pJ f0 W } f0 W a H2 x ch hl:=
     ⟨⟨⟨dx,x2⟩,k2 _ _ ncx hcH,k2 _ _ nhx (sm _ _ T.se.2.2)⟩,nch,⟨H0,g1,λ b o e=>k2 b o (λ q=>by rw[q,g3]at e;cases e) (sm _ _ (g2 b o e)),g3,none_of g2 MR,g5,g6⟩,T.ok,T.nm,rfl,lw',T.ld,T.tq,Zb⟩
    refine⟨(by show 1<=ay;decide),λ p hp=>?_⟩
    have n3:NE H2 (upd H2 p (.lst [V.int 0])):=NE.of_same (m5.new hp)
    have npx:p≠x:=λ q=>by rw[q,x2]at hp;cases hp
    refine k _ p ch hl (.inr ⟨f0,W,a,told,T2.Vk n3⟩) (.inr (Fr.none MR)) (.inl rfl) (λ b o e n1 n2 n4 z=>n3 _ _ (k2 b o n1 (sm _ _ e)) z) (λ o e=>?_) mX
    rw[k2 p o npx (sm _ _ e)]at hp
    cases hp
def T5(K:ah)(C CF CC CT:ag):Sp:=λ vs H Q _=>Aj K C CF CC CT vs H Q E0
def Kh(x:ag)(H:Hp):Hp:=λ b=>if b=x then none else match H b with
 |some (.ext _)=>none
 |o=>o
theorem Bz{x b:ag}{H:Hp}{o:HO}(h:H b=some o)(n:b≠x)(e:∀φ,o≠ .ext φ):Kh x H b=some o:=by
 unfold Kh
 rw[if_neg n,h]
 cases o with
 |ext φ=>exact absurd rfl (e φ)
 |_=>rfl
theorem JE{x b:ag}{H:Hp}{o:HO}(h:Kh x H b=some o):H b=some o/\b≠x/\∀φ,o≠ .ext φ:=by
 unfold Kh at h
 by_cases n:b=x
 ·rw[if_pos n]at h;cases h
 ·rw[if_neg n]at h
  cases q:H b with
  |none=>rw[q]at h;cases h
  |some u=>
   rw[q]at h
   cases u with
   |ext φ=>cases h
   |_=>cases h;exact⟨rfl,n,λ φ z=>by cases z⟩
theorem Lu{x b:ag}{H:Hp}(h:H b=none):Kh x H b=none:=by
 cases q:Kh x H b with
 |none=>rfl
 |some o=>rw[(JE q).1]at h;cases h
theorem RQ{CS CF CC CT:ag}{H:Hp}{a x dx:ag}{fs:List (Str×V)}{f:ae}(h:qX CF CC CT H a f)(hx:H x=some (.ins CS dx fs))(n1:CS≠CF)(n2:CS≠CC)(n3:CS≠CT):qX CF CC CT (Kh x H) a f:=by
 obtain⟨df,lc,lt,as,bs,h1,h2,h3,h4,h5⟩:=h
 have ni:∀{b D d:ag} {g:List (Str×V)},H b=some (.ins D d g)->CS≠D->b≠x:=λ e n q=>by
  rw[q,hx]at e
  injection e with e
  injection e with e
  exact n e
 have nl:∀{b:ag} {xs:List V},H b=some (.lst xs)->b≠x:=λ e q=>by rw[q,hx]at e;cases e
 refine⟨df,lc,lt,as,bs,Bz h1 (ni h1 n1) (λ φ z=>by cases z),Bz h2 (nl h2) (λ φ z=>by cases z),⟨h3.1,λ j b c e1 e2=>?_⟩,Bz h4 (nl h4) (λ φ z=>by cases z),⟨h5.1,λ j b t e1 e2=>?_⟩⟩
 ·obtain⟨d,z⟩:=h3.2 j b c e1 e2
  exact⟨d,Bz z (ni z n2) (λ φ z=>by cases z)⟩
 ·obtain⟨d,ml,z1,z2,z3⟩:=h5.2 j b t e1 e2
  exact⟨d,ml,Bz z1 (ni z1 n3) (λ φ z=>by cases z),Bz z2 (nl z2) (λ φ z=>by cases z),z3⟩
theorem RR(f:ae):pJ f (f.cells.map (·.weight))=f:=by
 have e:(pJ f (f.cells.map (·.weight))).cells=f.cells:=by
  apply bN
  intro i
  by_cases hi:i<f.cells.length
  ·have e0:f.cells[i]? =some f.cells[i]:=af hi
   rw[AJ e0 (by rw[ak,e0];rfl),e0]
  ·rw[aI (show f.cells.length<=i by omega),aI (by rw[qK (by rw[aa])];omega)]
 exact congrArg (λ c=>(⟨f.parts,c,f.teams⟩:ae)) e
theorem MT{K:ah}{H:Hp}:∀(l:List Int),HG K H (iL l) (l.map PyData.int)
 |[]=>.nil
 |z::l=>.cons (.int z) (MT l)
def Yr(s:bS)(zs:List Int):bS×List Int:=bL s (.field zs)
theorem VB(s:bS)(zs:List Int):Yr s zs=if dD zs=false then(s,[-1])else match cW (bW zs)with
  | .error b=>(s,[1,(b.kind:Int),(b.place:Int)])
  | .ok f=>({ told:=some f,field:=f,done:=d6 f },0::dU [f.cells.length,f.teams.length]):=rfl
inductive MU (CS CF CC CT:ag) (vs:List V) (H:Hp) (Q:VK) (Ex:XK):Prop
 |mk (x wl hl nl rl:ag) (s:bS) (zs:List Int):vs=[.ref x,.ref nl,.ref rl]->Em CS CF CC CT s H x wl hl->H rl=some (.lst (iL zs))->zs.length<=1600->KN CS CF CC CT x wl hl H Q (Yr s zs)->MU CS CF CC CT vs H Q Ex
abbrev RS:List Str:=["search","numbers","text","answer"]
theorem GQ:m7 RS ["search","numbers","text"] (mZ Cp):=qf
theorem GR(F:pG K "call_field" "call_field" Cp f fd)(S:pY K CS)(n1:CS≠CF)(n2:CS≠CC)(n3:CS≠CT)(nG:Rec P w K mg base "Field" CF CN)(uW:rA P w K mg base oE 9 "call_where" ["search","numbers","text"] (Hc K))(nB:oC mg "DONE" 0)(Hq:um P w K mg base oE 1 CS "begin" ["self","field"] (He CS CF CC CT))(qJ:rA P w K mg base oE 8 "read_field" ["text"] (T5 K C CF CC CT))(o9:mg "len"=none):nO P w K mg base oE 10 f fd ["search","numbers","text"] (MU CS CF CC CT):=by
 refine F.ok GQ (λ vs H Q E h=>?_) (λ oU A outer s H vs Q E hr h=>?_)
 ·obtain⟨x,wl,hl,nl,rl,s',zs,rfl,_⟩:=h
  rfl
 ·obtain⟨x,wl,hl,nl,rl,s',zs,rfl,st,hz,lz,k⟩:=h
  have nd:=GQ.nd
  have nI:=S.cl
  refine⟨_,(mV (m6 (i:=3) nd rfl (Or.inl rfl) (nq (E:=E0) uW hr (by decide) nj (mU (pv 0) (mU (pv 1) (mU (pv 2) mW)))))
   (mV (pf (om (abL hr.units) (pv 3) (nN (mU (nP nB) mW)) (oH _)) (m4 (m9 (pv 3))) nX)
   (mV (nZ (pO (E:=E0) Hq nI hr (by decide) nj (pv 0) (mU (nq (E:=E0) qJ hr (by decide) nj (mU (pv 2) mW)) mW)))
   (m4 (m9 (nN (mU (nP nB) (mU (nJ nL rfl o9 aX (mU (m_ (m_ (pv 0) rfl) rfl) mW)) (mU (nJ nL rfl o9 aX (mU (m_ (m_ (pv 0) rfl) rfl) mW)) mW))))))))),?_⟩
  rw[VB]at k
  refine⟨_,rfl,_,rfl,_,rfl,_,_,rl,zs,rfl,nA.of hz,lz,λ H1 p e1 fp J7=>?_⟩
  refine⟨_,rfl,(by show 1<=ay;decide),λ l0 hl0=>?_⟩
  have s2:m5 H1 (upd H1 l0 (.lst [V.int 0])):=m5.new hl0
  have e2:NE H (upd H1 l0 (.lst [V.int 0])):=e1.trans (NE.of_same s2)
  refine⟨.list ((qC zs).map PyData.int),.list [.int 0],.lst (nA.of (s2 _ _ J7)) (MT _),.lst (nA.of mX) (MT [0]),?_,rfl,_,rfl,?_⟩
  ·unfold qC
   cases hi:dD zs with
   |false=>rfl
   |true=>
    rw[if_neg (by simp)]
    cases XU:cW (bW zs)with
    |error b=>rfl
    |ok g=>rfl
  cases hi:dD zs with
  |false=>
   rw[hi,if_pos rfl]at k
   have wa:qC zs=[-1]:=by unfold qC;rw[hi,if_pos rfl]
   rw[wa]at J7 ⊢
   exact s_ ⟨_,rfl,k.pure st _ p e2 fp (s2 _ _ J7)⟩
  |true=>
  rw[hi,if_neg (by simp)]at k
  cases Y0:cW (bW zs)with
  |error b=>
   rw[Y0]at k
   have wa:qC zs=[1,(b.kind:Int),(b.place:Int)]:=by unfold qC;rw[hi,if_neg (by simp),Y0]
   rw[wa]at J7 ⊢
   exact s_ ⟨_,rfl,k.pure st _ p e2 fp (s2 _ _ J7)⟩
  |ok g=>
  rw[Y0]at k
  have wa:qC zs=[0]:=by unfold qC;rw[hi,if_neg (by simp),Y0]
  rw[wa]
  obtain⟨t1,t2⟩:=FY hi
  have gok:=Z5 Y0
  have gnm:=QT Y0
  have hx:∃dx v1 v2 v3,H x=some (.ins CS dx (J9.zip [v1,v2,v3])):=by
   rcases st with⟨_,⟨⟨dx,e⟩,_⟩,_⟩|⟨f0,ws,a,_,T⟩
   ·exact⟨dx,_,_,_,e⟩
   ·obtain⟨dx,e⟩:=T.se.1
    exact⟨dx,_,_,_,e⟩
  obtain⟨dx,v1,v2,v3,hx⟩:=hx
  have Dz:=e2 _ _ hx (λ φ q=>by cases q)
  have hz2:=e2 _ _ hz (λ φ q=>by cases q)
  refine rG ⟨_,rfl,x,dx,_,rfl,Dz,rfl,_,rfl,λ _ _ _ _ _ z=>z,rl,bW zs,rfl,nA.of (by rw[hz2,t1]),by omega,?_⟩
  rw[Y0]
  intro H3 v e3 fa
  have e13:=e2.trans e3
  have hx3:=e13 _ _ hx (λ φ q=>by cases q)
  have xv:x≠v:=λ q=>by
   obtain⟨df,lc,lt,as,bs,h1,_⟩:=fa
   rw[<-q,hx3]at h1
   injection h1 with h1
   injection h1 with h1
   exact n1 h1
  refine⟨x,dx,v,v1,v2,v3,g,rfl,hx3,fa,gok.cells.len,xv,λ H4 V8 GS b4 hw hh ne se=>?_⟩
  have fs:=RQ fa hx3 n1 n2 n3
  have sm0:m5 (Kh x H3) H4:=λ b o e=>by
   obtain⟨q1,q2,q3⟩:=JE e
   exact b4 b o q1 q2 q3
  have T:vg CS CF CC CT { told:=some g,field:=g,done:=d6 g } g (g.cells.map (·.weight)) v H4 x V8 GS:=
   ⟨se,ne,⟨Kh x H3,fs,sm0,by unfold Kh;rw[if_pos rfl],Lu hw,Lu hh,λ b φ e=>(JE e).2.2 φ rfl⟩,gok,gnm,(RR g).symm,by rw[aa],by show(d6 g).length=_;exact O_ g,TQ g,λ n hn=>by
    obtain⟨c,hc,rfl⟩:=List.mem_map.mp hn
    have:=(gok.cells.each c hc).weight
    omega⟩
  obtain⟨dx4,hx4⟩:=T.se.1
  obtain⟨df,lc,lt,as,bs,f1,f2,f3,f4,f5⟩:=T.field
  refine⟨_,rfl,x,CS,dx4,_,_,rfl,hx4,S.cl,S.n1,rfl,v,CF,df,_,_,rfl,f1,nG.cl,nG.na "cells" (by simp),rfl,lc,_,rfl,.inl (nA.of f2),?_⟩
  refine⟨_,rfl,x,CS,dx4,_,_,rfl,hx4,S.cl,S.n1,rfl,v,CF,df,_,_,rfl,f1,nG.cl,nG.na "teams" (by simp),rfl,lt,_,rfl,.inl (nA.of f4),(by show 3<=ay;decide),λ q hq=>?_⟩
  rw[aa,aa,f3.1,f5.1]at *
  have n5:NE H4 (upd H4 q (.lst [V.int 0,V.int (g.cells.length:Nat),V.int (g.teams.length:Nat)])):=NE.of_same (m5.new hq)
  have fr:∀b,H3 b=none->Fr H b:=λ b hb o e=>by
   apply Classical.byContradiction
   intro z
   have:=e13 b o e λ φ q=>z ⟨φ,q⟩
   rw[this]at hb;cases hb
  refine k _ q V8 GS (.inr ⟨g,_,v,rfl,T.Vk n5⟩) (.inr (fr _ hw)) (.inr (fr _ hh)) (λ b o e m1 _ _ z=>n5 _ _ (b4 b o (e13 b o e z) m1 z) z) (λ o e=>?_) mX
  apply Classical.byContradiction
  intro z
  have z':∀φ,o≠ .ext φ:=λ φ q=>z ⟨φ,q⟩
  have nqx:q≠x:=λ e=>by rw[e,hx4]at hq;cases hq
  have:=b4 q o (e13 q o e z') nqx z'
  rw[this]at hq;cases hq
def MV:List Nat:=[0,0,0,2,2,2,0,0,0,1,1,1,1,0,0,0,0,0,0,0]
def PN:List Nat:=[0,1,5,8,13,14,16]
def n0(c:bR):List Int->Option bR
 |[]=>some c
 |_=>none
def n1(c:Int->bR):List Int->Option bR
 |[a]=>some (c a)
 |_=>none
def n2(c:Int->Int->bR):List Int->Option bR
 |[a,b]=>some (c a b)
 |_=>none
def sR(i:Nat)(ns zs:List Int):Option bR:=match i with
 |0=>n0 (.field zs) ns
 |1=>n0 (.whereIs zs) ns
 |2=>n0 .shown ns
 |3=>n2 .vain ns
 |4=>n2 .back ns
 |5=>n2 (.evidence · · zs) ns
 |6=>n0 .chances ns
 |7=>n0 .left_ ns
 |8=>n0 (.would zs) ns
 |9=>n1 .best ns
 |10=>n1 .curve ns
 |11=>n1 .price ns
 |12=>n1 .thrift_ ns
 |13=>n0 (.order zs) ns
 |14=>n0 (.takes zs) ns
 |15=>n0 .teams ns
 |16=>n0 (.can zs) ns
 |17=>n0 .cells ns
 |18=>n0 .counts ns
 |19=>n0 .clear ns
 |_=>none
theorem n0e{c:bR}{l:List Int}{v:bR}(h:n0 c l=some v):v=c:=by
 unfold n0 at h;split at h <;> cases h;rfl
theorem n1e{c:Int->bR}{l:List Int}{v:bR}(h:n1 c l=some v):∃a,v=c a:=by
 unfold n1 at h;split at h <;> cases h;exact⟨_,rfl⟩
theorem n2e{c:Int->Int->bR}{l:List Int}{v:bR}(h:n2 c l=some v):∃a b,v=c a b:=by
 unfold n2 at h;split at h <;> cases h;exact⟨_,_,rfl⟩
theorem link{i:Nat}{ns zs:List Int}(hi:i<20)(hn:ns.length=MV.getD i 0):∃vc,sR i ns zs=some vc/\VbmracNeutral.call (eO (((i:Int)::ns)::(if PN.contains i=true then[zs]else[])))=some vc:=by
 match i,hi,ns,hn with
 |0,_,[],_=>exact⟨_,rfl,rfl⟩
 |1,_,[],_=>exact⟨_,rfl,rfl⟩
 |2,_,[],_=>exact⟨_,rfl,rfl⟩
 |3,_,[a,b],_=>exact⟨_,rfl,rfl⟩
 |4,_,[a,b],_=>exact⟨_,rfl,rfl⟩
 |5,_,[a,b],_=>exact⟨_,rfl,rfl⟩
 |6,_,[],_=>exact⟨_,rfl,rfl⟩
 |7,_,[],_=>exact⟨_,rfl,rfl⟩
 |8,_,[],_=>exact⟨_,rfl,rfl⟩
 |9,_,[a],_=>exact⟨_,rfl,rfl⟩
 |10,_,[a],_=>exact⟨_,rfl,rfl⟩
 |11,_,[a],_=>exact⟨_,rfl,rfl⟩
 |12,_,[a],_=>exact⟨_,rfl,rfl⟩
 |13,_,[],_=>exact⟨_,rfl,rfl⟩
 |14,_,[],_=>exact⟨_,rfl,rfl⟩
 |15,_,[],_=>exact⟨_,rfl,rfl⟩
 |16,_,[],_=>exact⟨_,rfl,rfl⟩
 |17,_,[],_=>exact⟨_,rfl,rfl⟩
 |18,_,[],_=>exact⟨_,rfl,rfl⟩
 |19,_,[],_=>exact⟨_,rfl,rfl⟩
 |i+20,h,_,_=>omega
theorem Ys{p:Int}{n k:Nat}(h:cD p=some (n,k)):∃i:Nat,p=(i:Int)/\i<20/\n=MV.getD i 0/\k=if PN.contains i=true then 1 else 0:=by
 unfold cD at h
 by_cases h0:p=0
 ·rw[if_pos h0]at h;cases h;exact⟨0,h0,by decide,rfl,rfl⟩
 rw[if_neg h0]at h
 by_cases h1:p=1
 ·rw[if_pos h1]at h;cases h;exact⟨1,h1,by decide,rfl,rfl⟩
 rw[if_neg h1]at h
 by_cases h2:p=2
 ·rw[if_pos h2]at h;cases h;exact⟨2,h2,by decide,rfl,rfl⟩
 rw[if_neg h2]at h
 by_cases h3:p=3
 ·rw[if_pos h3]at h;cases h;exact⟨3,h3,by decide,rfl,rfl⟩
 rw[if_neg h3]at h
 by_cases h4:p=4
 ·rw[if_pos h4]at h;cases h;exact⟨4,h4,by decide,rfl,rfl⟩
 rw[if_neg h4]at h
 by_cases h5:p=5
 ·rw[if_pos h5]at h;cases h;exact⟨5,h5,by decide,rfl,rfl⟩
 rw[if_neg h5]at h
 by_cases h6:p=6
 ·rw[if_pos h6]at h;cases h;exact⟨6,h6,by decide,rfl,rfl⟩
 rw[if_neg h6]at h
 by_cases h7:p=7
 ·rw[if_pos h7]at h;cases h;exact⟨7,h7,by decide,rfl,rfl⟩
 rw[if_neg h7]at h
 by_cases h8:p=8
 ·rw[if_pos h8]at h;cases h;exact⟨8,h8,by decide,rfl,rfl⟩
 rw[if_neg h8]at h
 by_cases h9:p=9
 ·rw[if_pos h9]at h;cases h;exact⟨9,h9,by decide,rfl,rfl⟩
 rw[if_neg h9]at h
 by_cases h10:p=10
 ·rw[if_pos h10]at h;cases h;exact⟨10,h10,by decide,rfl,rfl⟩
 rw[if_neg h10]at h
 by_cases Y2:p=11
 ·rw[if_pos Y2]at h;cases h;exact⟨11,Y2,by decide,rfl,rfl⟩
 rw[if_neg Y2]at h
 by_cases h12:p=12
 ·rw[if_pos h12]at h;cases h;exact⟨12,h12,by decide,rfl,rfl⟩
 rw[if_neg h12]at h
 by_cases Y4:p=13
 ·rw[if_pos Y4]at h;cases h;exact⟨13,Y4,by decide,rfl,rfl⟩
 rw[if_neg Y4]at h
 by_cases ZU:p=14
 ·rw[if_pos ZU]at h;cases h;exact⟨14,ZU,by decide,rfl,rfl⟩
 rw[if_neg ZU]at h
 by_cases Y6:p=15
 ·rw[if_pos Y6]at h;cases h;exact⟨15,Y6,by decide,rfl,rfl⟩
 rw[if_neg Y6]at h
 by_cases GX:p=16
 ·rw[if_pos GX]at h;cases h;exact⟨16,GX,by decide,rfl,rfl⟩
 rw[if_neg GX]at h
 by_cases h17:p=17
 ·rw[if_pos h17]at h;cases h;exact⟨17,h17,by decide,rfl,rfl⟩
 rw[if_neg h17]at h
 by_cases h18:p=18
 ·rw[if_pos h18]at h;cases h;exact⟨18,h18,by decide,rfl,rfl⟩
 rw[if_neg h18]at h
 by_cases h19:p=19
 ·rw[if_pos h19]at h;cases h;exact⟨19,h19,by decide,rfl,rfl⟩
 rw[if_neg h19]at h
 cases h
theorem C9{lo hi:Int}{B:Nat}{zs:List Int}(h:PyInside.lists [(lo,hi,0,B)] [zs]=true):zs.length<=B:=by
 have h:(decide (0<=zs.length) && decide (zs.length<=B) && zs.all (PyInside.within lo hi) && true)=true:=h
 rw[bg,bg,bg]at h
 exact of_decide_eq_true h.1.1.2
theorem VC{i:Nat}(hi:i<20)(hw:PN.contains i=true){ns zs:List Int}(h:PyInside.call dz (((i:Int)::ns)::[zs])=true):zs.length<=(if i<2 then 1600 else 70):=by
 have h:(PyInside.each (dz (i:Int)).1 ns && PyInside.lists (dz (i:Int)).2 [zs])=true:=h
 rw[bg]at h
 have h2:=h.2
 match i,hi,hw,h2 with
 |0,_,_,h2=>exact C9 h2
 |1,_,_,h2=>exact C9 h2
 |5,_,_,h2=>exact C9 h2
 |8,_,_,h2=>exact C9 h2
 |13,_,_,h2=>exact C9 h2
 |14,_,_,h2=>exact C9 h2
 |16,_,_,h2=>exact C9 h2
 |2,_,hw,_=>cases hw
 |3,_,hw,_=>cases hw
 |4,_,hw,_=>cases hw
 |6,_,hw,_=>cases hw
 |7,_,hw,_=>cases hw
 |9,_,hw,_=>cases hw
 |10,_,hw,_=>cases hw
 |11,_,hw,_=>cases hw
 |12,_,hw,_=>cases hw
 |15,_,hw,_=>cases hw
 |17,_,hw,_=>cases hw
 |18,_,hw,_=>cases hw
 |19,_,hw,_=>cases hw
 |i+20,h,_,_=>omega
theorem parse{p:Int}{r t:List Int}{c:List (List Int)}(h:PyFlat.call cD (p::r)=some (c,t))(hb:PyInside.call dz c=true):
  ∃(i:Nat) (ns zs:List Int) (vc:bR),p=(i:Int)/\i<20/\MV.getD i 0<=r.length/\ns=r.take (MV.getD i 0)/\ns.length=MV.getD i 0/\sR i ns zs=some vc/\(∀s,VbmracNeutral.step s (eO c)=bL s vc)/\zs.length<=1600/\(2<=i->zs.length<=70)/\
   ((PN.contains i=false/\zs=[]/\t=r.drop (MV.getD i 0))\/(PN.contains i=true/\∃m r',r.drop (MV.getD i 0)=(m:Int)::r'/\0<=m/\m.toNat<=r'.length/\zs=r'.take m.toNat/\t=r'.drop m.toNat)):=by
 unfold PyFlat.call at h
 dsimp only at h
 cases hs:cD p with
 |none=>rw[hs]at h;cases h
 |some nk=>
  obtain⟨n,k⟩:=nk
  rw[hs]at h
  dsimp only at h
  obtain⟨i,rfl,hi,rfl,rfl⟩:=Ys hs
  by_cases hl:r.length<MV.getD i 0
  ·rw[if_pos hl]at h;cases h
  ·rw[if_neg hl]at h
   have ln:(r.take (MV.getD i 0)).length=MV.getD i 0:=by rw[bX];omega
   by_cases hw:PN.contains i=true
   ·rw[if_pos hw]at h
    unfold PyFlat.rows at h
    cases hr:PyFlat.row (r.drop (MV.getD i 0))with
    |none=>rw[hr]at h;cases h
    |some xs=>
     obtain⟨zs,t'⟩:=xs
     rw[hr]at h
     have h:some (((i:Int)::r.take (MV.getD i 0))::[zs],t')=some (c,t):=h
     cases h
     cases hd:r.drop (MV.getD i 0)with
     |nil=>rw[hd]at hr;cases hr
     |cons m r'=>
      rw[hd]at hr
      unfold PyFlat.row at hr
      dsimp only at hr
      by_cases hm:0<=m/\m.toNat<=r'.length
      ·rw[if_pos hm]at hr
       cases hr
       obtain⟨vc,v1,v2⟩:=link (zs:=r'.take m.toNat) hi ln
       rw[if_pos hw]at v2
       have bd:=VC hi hw hb
       refine⟨i,_,r'.take m.toNat,vc,rfl,hi,by omega,rfl,ln,v1,λ s=>?_,?_,λ h2=>?_,.inr ⟨hw,m,r',hd,hm.1,hm.2,rfl,rfl⟩⟩
       ·unfold VbmracNeutral.step;rw[v2]
       ·split at bd <;> omega
       ·rw[if_neg (by omega)]at bd;exact bd
      ·rw[if_neg hm]at hr;cases hr
   ·rw[if_neg hw]at h
    have h:some (((i:Int)::r.take (MV.getD i 0))::[],r.drop (MV.getD i 0))=some (c,t):=h
    cases h
    have hw':PN.contains i=false:=by
     cases q:PN.contains i with
     |false=>rfl
     |true=>exact absurd q hw
    obtain⟨vc,v1,v2⟩:=link (zs:=[]) hi ln
    rw[if_neg hw]at v2
    refine⟨i,_,[],vc,rfl,hi,by omega,rfl,ln,v1,λ s=>?_,aE _,λ _=>aE _,.inl ⟨hw',rfl,rfl⟩⟩
    unfold VbmracNeutral.step;rw[v2]
def acD(K:ah)(CS CF CC CT:ag):Nat->Sp
 |0=>MU CS CF CC CT
 |1=>Hc K
 |2=>BF CS CF CC CT 0 Yi
 |3=>Yl CS CF CC CT 2 TV
 |4=>Yl CS CF CC CT 2 TX
 |5=>Yl CS CF CC CT 2 By
 |6=>BF CS CF CC CT 0 Jz
 |7=>BF CS CF CC CT 0 Yj
 |8=>BF CS CF CC CT 0 Rt
 |9=>BF CS CF CC CT 1 X_
 |10=>BF CS CF CC CT 1 Ry
 |11=>BF CS CF CC CT 1 RA
 |12=>BF CS CF CC CT 1 ML
 |13=>BF CS CF CC CT 0 RD
 |14=>BF CS CF CC CT 0 RF
 |15=>BF CS CF CC CT 0 RG
 |16=>BF CS CF CC CT 0 aat
 |17=>BF CS CF CC CT 0 MP
 |18=>BF CS CF CC CT 0 MM
 |_=>Hn CS CF CC CT
inductive spU (CS CF CC CT:ag) (i:Nat) (vs:List V) (H:Hp) (Q:VK) (Ex:XK):Prop
 |mk (x wl hl nl rl:ag) (s:bS) (ns zs:List Int) (vc:bR):vs=[.ref x,.ref nl,.ref rl]->Em CS CF CC CT s H x wl hl->H nl=some (.lst (iL ns))->H rl=some (.lst (iL zs))->sR i ns zs=some vc->zs.length<=1600->(2<=i->zs.length<=70)->(s.told=none->i=0\/i=1\/i=19)->KN CS CF CC CT x wl hl H Q (bL s vc)->spU CS CF CC CT i vs H Q Ex
theorem T6{s:bS}{H:Hp}{x wl hl:ag}{i:Nat}(st:Em CS CF CC CT s H x wl hl)(ht:s.told=none->i=0\/i=1\/i=19)(hi:¬ (i=0\/i=1\/i=19)):∃f0 ws a,s.told=some f0/\vg CS CF CC CT s f0 ws a H x wl hl:=by
 rcases st with⟨h1,_⟩|h
 ·exact absurd (ht (by rw[h1];rfl)) hi
 ·exact h
theorem wK{ar:Nat}{g:bS->ae->List Int->List Int->List Int}{i:Nat}{c:List Int->List Int->bR}{vs:List V}{H:Hp}{Q:VK}{E:XK}(hi:¬ (i=0\/i=1\/i=19))(h2:2<=i)(hc:∀ns zs vc,sR i ns zs=some vc->ns.length=ar/\vc=c ns zs)
  (hs:∀(s:bS) f0 ns zs,s.told=some f0->bL s (c ns zs)=eN s f0 (c ns zs))(hp:∀s f0 ns zs,(eN s f0 (c ns zs)).1=s)(hg:∀s f0 ns zs,g s f0 ns zs=(eN s f0 (c ns zs)).2)(h:spU CS CF CC CT i vs H Q E):BF CS CF CC CT ar g vs H Q E:=by
 obtain⟨x,wl,hl,nl,rl,s,ns,zs,vc,rfl,st,hn,hz,uE,l1,l2,ht,k⟩:=h
 obtain⟨f0,ws,a,told,T⟩:=T6 st ht hi
 obtain⟨ln,rfl⟩:=hc ns zs vc uE
 refine⟨x,wl,hl,nl,rl,a,s,f0,ws,ns,zs,rfl,T,hn,hz,ln,l2 h2,?_⟩
 rw[hs s f0 ns zs told]at k
 rw[hg]
 exact Ak.ret (k.pure (by rw[hp];exact st))
theorem Yt{ar:Nat}{g:bS->ae->List Int->List Int->bS×List Int}{i:Nat}{c:List Int->List Int->bR}{vs:List V}{H:Hp}{Q:VK}{E:XK}(hi:¬ (i=0\/i=1\/i=19))(h2:2<=i)(hc:∀ns zs vc,sR i ns zs=some vc->ns.length=ar/\vc=c ns zs)
  (hs:∀(s:bS) f0 ns zs,s.told=some f0->bL s (c ns zs)=g s f0 ns zs)(h:spU CS CF CC CT i vs H Q E):Yl CS CF CC CT ar g vs H Q E:=by
 obtain⟨x,wl,hl,nl,rl,s,ns,zs,vc,rfl,st,hn,hz,uE,l1,l2,ht,k⟩:=h
 obtain⟨f0,ws,a,told,T⟩:=T6 st ht hi
 obtain⟨ln,rfl⟩:=hc ns zs vc uE
 refine⟨x,wl,hl,nl,rl,a,s,f0,ws,ns,zs,rfl,told,T,hn,hz,ln,l2 h2,?_⟩
 rw[hs s f0 ns zs told]at k
 exact k
theorem qZ{α β:Type}{c:Prop}[Decidable c]{a b:α×β}{s:α}(h1:a.1=s)(h2:b.1=s):(if c then a else b).1=s:=by
 by_cases h:c
 ·rw[if_pos h];exact h1
 ·rw[if_neg h];exact h2
theorem Pe{i:Nat}(h1:2<=i)(h2:i<19):¬ (i=0\/i=1\/i=19):=by omega
theorem tS{i:Nat}{c:List Int->bR}(h:∀(ns zs:List Int),sR i ns zs=match ns with |[]=>some (c zs)|_=>none):∀ns zs vc,sR i ns zs=some vc->ns.length=0/\vc=c zs:=λ ns zs vc e=>by
 rw[h]at e
 cases ns with
 |nil=>cases e;exact⟨rfl,rfl⟩
 |cons a l=>cases e
theorem MW{i:Nat}{c:Int->bR}(h:∀(ns zs:List Int),sR i ns zs=match ns with |[a]=>some (c a)|_=>none):∀ns zs vc,sR i ns zs=some vc->ns.length=1/\vc=c (ns.getD 0 0):=λ ns zs vc e=>by
 rw[h]at e
 match ns,e with
 |[a],e=>cases e;exact⟨rfl,rfl⟩
theorem RT{i:Nat}{c:Int->Int->List Int->bR}(h:∀(ns zs:List Int),sR i ns zs=match ns with |[a,b]=>some (c a b zs)|_=>none):∀ns zs vc,sR i ns zs=some vc->ns.length=2/\vc=c (ns.getD 0 0) (ns.getD 1 0) zs:=λ ns zs vc e=>by
 rw[h]at e
 match ns,e with
 |[a,b],e=>cases e;exact⟨rfl,rfl⟩
theorem Pf{s:bS}{f0:ae}{c:bR}(h:s.told=some f0)(hc:bL s c=match s.told with |none=>(s,[-20])|some f=>eN s f c):bL s c=eN s f0 c:=by rw[hc,h]
theorem uni{vs:List V}{H:Hp}{Q:VK}{E:XK}:∀i,i<20->spU CS CF CC CT i vs H Q E->acD K CS CF CC CT i vs H Q E
 |0,_,h=>by
  obtain⟨x,wl,hl,nl,rl,s,ns,zs,vc,e,st,hn,hz,uE,l1,l2,ht,k⟩:=h
  obtain⟨_,rfl⟩:=tS (i:=0) (c:=λ zs=>.field zs) (λ ns zs=>by cases ns <;> rfl) ns zs vc uE
  exact⟨x,wl,hl,nl,rl,s,zs,e,st,hz,l1,k⟩
 |1,_,h=>by
  obtain⟨x,wl,hl,nl,rl,s,ns,zs,vc,e,st,hn,hz,uE,l1,l2,ht,k⟩:=h
  obtain⟨_,rfl⟩:=tS (i:=1) (c:=λ zs=>.whereIs zs) (λ ns zs=>by cases ns <;> rfl) ns zs vc uE
  have e1:bL s (.whereIs zs)=(s,qC zs):=by
   show(if dD zs=false then(s,[-1])else match cW (bW zs)with | .error b=>(s,[1,(b.kind:Int),(b.place:Int)])| .ok f=>(s,[0]))=_
   unfold qC
   cases dD zs with
   |false=>rfl
   |true=>
    rw[if_neg (by simp),if_neg (by simp)]
    cases cW (bW zs) <;> rfl
  rw[e1]at k
  exact⟨.ref x,.ref nl,rl,zs,e,nA.of hz,l1,k.pure st⟩
 |2,_,h=>wK (c:=λ _ _=>.shown) (Pe (by decide) (by decide)) (by decide) (tS (c:=λ _=>.shown) λ ns zs=>by cases ns <;> rfl) (λ s f0 ns zs t=>Pf t rfl) (λ s f0 ns zs=>rfl) (λ s f0 ns zs=>rfl) h
 |3,_,h=>Yt (c:=λ ns _=>.vain (ns.getD 0 0) (ns.getD 1 0)) (Pe (by decide) (by decide)) (by decide) (RT (c:=λ a b _=>.vain a b) λ ns zs=>by rcases ns with _|⟨a,_|⟨b,_|_⟩⟩ <;> rfl) (λ s f0 ns zs t=>Pf t rfl) h
 |4,_,h=>Yt (c:=λ ns _=>.back (ns.getD 0 0) (ns.getD 1 0)) (Pe (by decide) (by decide)) (by decide) (RT (c:=λ a b _=>.back a b) λ ns zs=>by rcases ns with _|⟨a,_|⟨b,_|_⟩⟩ <;> rfl) (λ s f0 ns zs t=>Pf t rfl) h
 |5,_,h=>Yt (c:=λ ns zs=>.evidence (ns.getD 0 0) (ns.getD 1 0) zs) (Pe (by decide) (by decide)) (by decide) (RT (c:=λ a b zs=>.evidence a b zs) λ ns zs=>by rcases ns with _|⟨a,_|⟨b,_|_⟩⟩ <;> rfl) (λ s f0 ns zs t=>Pf t rfl) h
 |6,_,h=>wK (c:=λ _ _=>.chances) (Pe (by decide) (by decide)) (by decide) (tS (c:=λ _=>.chances) λ ns zs=>by cases ns <;> rfl) (λ s f0 ns zs t=>Pf t rfl) (λ s f0 ns zs=>qZ rfl rfl) (λ s f0 ns zs=>rfl) h
 |7,_,h=>wK (c:=λ _ _=>.left_) (Pe (by decide) (by decide)) (by decide) (tS (c:=λ _=>.left_) λ ns zs=>by cases ns <;> rfl) (λ s f0 ns zs t=>Pf t rfl) (λ s f0 ns zs=>qZ rfl rfl) (λ s f0 ns zs=>rfl) h
 |8,_,h=>wK (c:=λ _ zs=>.would zs) (Pe (by decide) (by decide)) (by decide) (tS (c:=λ zs=>.would zs) λ ns zs=>by cases ns <;> rfl) (λ s f0 ns zs t=>Pf t rfl) (λ s f0 ns zs=>qZ rfl (qZ rfl (qZ rfl rfl))) (λ s f0 ns zs=>rfl) h
 |9,_,h=>wK (c:=λ ns _=>.best (ns.getD 0 0)) (Pe (by decide) (by decide)) (by decide) (MW (c:=λ a=>.best a) λ ns zs=>by rcases ns with _|⟨a,_|_⟩ <;> rfl) (λ s f0 ns zs t=>Pf t rfl) (λ s f0 ns zs=>qZ rfl (qZ rfl (qZ rfl rfl))) (λ s f0 ns zs=>rfl) h
 |10,_,h=>wK (c:=λ ns _=>.curve (ns.getD 0 0)) (Pe (by decide) (by decide)) (by decide) (MW (c:=λ a=>.curve a) λ ns zs=>by rcases ns with _|⟨a,_|_⟩ <;> rfl) (λ s f0 ns zs t=>Pf t rfl) (λ s f0 ns zs=>qZ rfl (qZ rfl (qZ rfl rfl))) (λ s f0 ns zs=>rfl) h
 |11,_,h=>wK (c:=λ ns _=>.price (ns.getD 0 0)) (Pe (by decide) (by decide)) (by decide) (MW (c:=λ a=>.price a) λ ns zs=>by rcases ns with _|⟨a,_|_⟩ <;> rfl) (λ s f0 ns zs t=>Pf t rfl) (λ s f0 ns zs=>qZ rfl (qZ rfl (qZ rfl rfl))) (λ s f0 ns zs=>rfl) h
 |12,_,h=>wK (c:=λ ns _=>.thrift_ (ns.getD 0 0)) (Pe (by decide) (by decide)) (by decide) (MW (c:=λ a=>.thrift_ a) λ ns zs=>by rcases ns with _|⟨a,_|_⟩ <;> rfl) (λ s f0 ns zs t=>Pf t rfl) (λ s f0 ns zs=>qZ rfl (qZ rfl rfl)) (λ s f0 ns zs=>rfl) h
 |13,_,h=>wK (c:=λ _ zs=>.order zs) (Pe (by decide) (by decide)) (by decide) (tS (c:=λ zs=>.order zs) λ ns zs=>by cases ns <;> rfl) (λ s f0 ns zs t=>Pf t rfl) (λ s f0 ns zs=>qZ rfl (qZ rfl (qZ rfl rfl))) (λ s f0 ns zs=>rfl) h
 |14,_,h=>wK (c:=λ _ zs=>.takes zs) (Pe (by decide) (by decide)) (by decide) (tS (c:=λ zs=>.takes zs) λ ns zs=>by cases ns <;> rfl) (λ s f0 ns zs t=>Pf t rfl) (λ s f0 ns zs=>qZ rfl (qZ rfl (qZ rfl rfl))) (λ s f0 ns zs=>rfl) h
 |15,_,h=>wK (c:=λ _ _=>.teams) (Pe (by decide) (by decide)) (by decide) (tS (c:=λ _=>.teams) λ ns zs=>by cases ns <;> rfl) (λ s f0 ns zs t=>Pf t rfl) (λ s f0 ns zs=>qZ rfl rfl) (λ s f0 ns zs=>rfl) h
 |16,_,h=>wK (c:=λ _ zs=>.can zs) (Pe (by decide) (by decide)) (by decide) (tS (c:=λ zs=>.can zs) λ ns zs=>by cases ns <;> rfl) (λ s f0 ns zs t=>Pf t rfl) (λ s f0 ns zs=>qZ rfl rfl) (λ s f0 ns zs=>rfl) h
 |17,_,h=>wK (c:=λ _ _=>.cells) (Pe (by decide) (by decide)) (by decide) (tS (c:=λ _=>.cells) λ ns zs=>by cases ns <;> rfl) (λ s f0 ns zs t=>Pf t rfl) (λ s f0 ns zs=>rfl) (λ s f0 ns zs=>rfl) h
 |18,_,h=>wK (c:=λ _ _=>.counts) (Pe (by decide) (by decide)) (by decide) (tS (c:=λ _=>.counts) λ ns zs=>by cases ns <;> rfl) (λ s f0 ns zs t=>Pf t rfl) (λ s f0 ns zs=>rfl) (λ s f0 ns zs=>rfl) h
 |19,_,h=>by
  obtain⟨x,wl,hl,nl,rl,s,ns,zs,vc,e,st,hn,hz,uE,l1,l2,ht,k⟩:=h
  obtain⟨_,rfl⟩:=tS (i:=19) (c:=λ _=>.clear) (λ ns zs=>by cases ns <;> rfl) ns zs vc uE
  exact⟨x,wl,hl,nl,rl,s,e,st,k⟩
 |i+20,h,_=>by omega
def MX(P:aK)(w:bj)(K:ah)(mg:Str->Option ao)(base:bF)(CS CF CC CT:ag)(gs:List ag):Prop:=gs.length=20/\∀(i:Nat) (g:ag),gs[i]? =some g->∃fd ps,nO P w K mg base oE 10 g fd ps (acD K CS CF CC CT i)/\bZ K (.ref g)=true/\Binds K fd ps []
inductive C_ (CS CF CC CT:ag) (vs:List V) (H:Hp) (Q:VK) (Ex:XK):Prop
 |mk (x wl hl nl rl:ag) (s:bS) (i:Nat) (ns zs:List Int) (vc:bR):vs=[.ref x,.int (i:Nat),.ref nl,.ref rl]->i<20->Em CS CF CC CT s H x wl hl->H nl=some (.lst (iL ns))->H rl=some (.lst (iL zs))->sR i ns zs=some vc->zs.length<=1600->(2<=i->zs.length<=70)->KN CS CF CC CT x wl hl H Q (bL s vc)->C_ CS CF CC CT vs H Q Ex
theorem VD{s:bS}{i:Nat}{ns zs:List Int}{vc:bR}(h:sR i ns zs=some vc)(ht:s.told=none)(hi:¬ (i=0\/i=1\/i=19)):bL s vc=(s,[-20]):=by
 have go:∀c:bR,(bL s c=match s.told with |none=>(s,[-20])|some f=>eN s f c)->bL s c=(s,[-20]):=λ c hc=>by rw[hc,ht]
 unfold sR at h
 split at h
 all_goals first
  |(exact absurd (Or.inl rfl) hi)
  |(exact absurd (Or.inr (Or.inl rfl)) hi)
  |(exact absurd (Or.inr (Or.inr rfl)) hi)
  |(cases n0e h;exact go _ rfl)
  |(obtain⟨a,rfl⟩:=n1e h;exact go _ rfl)
  |(obtain⟨a,b,rfl⟩:=n2e h;exact go _ rfl)
  |(cases h)
abbrev VE:List Str:=["search","call","numbers","row"]
theorem JF:m7 VE ["search","call","numbers","row"] (mZ E7):=qf
theorem RU(F:pG K "answer_of" "answer_of" E7 f fd){ta tw:ag}{gs:List ag}(S:pY K CS)(hC:MX P w K mg base CS CF CC CT gs)(q_:N1 K mg "WITHOUT_A_FIELD" tw (nV [0,1,19]))(Dc:oC mg "NO_FIELD" (-20))(Ep:N1 K mg "CALLS" ta (gs.map V.ref)):nO P w K mg base oE 11 f fd ["search","call","numbers","row"] (C_ CS CF CC CT):=by
 refine F.ok JF (λ vs H Q E h=>?_) (λ oU A outer s H vs Q E hr h=>?_)
 ·obtain⟨x,wl,hl,nl,rl,s',i,ns,zs,vc,rfl,_⟩:=h
  rfl
 ·obtain⟨x,wl,hl,nl,rl,s',i,ns,zs,vc,rfl,hi,st,hn,hz,uE,l1,l2,k⟩:=h
  have nd:=JF.nd
  refine⟨_,(mV (pf (PW.pt (EI (PV (abk (m_ (pv 0) rfl))) (A_ (om uG (pv 1) (KJ q_) (by with_unfolding_all rfl))))) (m4 (m9 (nN (mU (nP Dc) mW)))) nX)
   (m4 (m9 (WR (oZ Wl (KJ Ep) (pv 1) (λ _ _=>rfl)) nj (mU (pv 0) (mU (pv 2) (mU (pv 3) mW))))))),?_⟩
  have hx:∃dx v,H x=some (.ins CS dx (J9.zip [v,.ref wl,.ref hl]))/\(decide (v=V.qt)=decide (s'.told=none)):=by
   rcases st with⟨h1,⟨⟨dx,e⟩,_⟩,_⟩|⟨f0,ws,a,told,T⟩
   ·exact⟨dx,_,e,by rw[h1];rfl⟩
   ·obtain⟨dx,e⟩:=T.se.1
    exact⟨dx,_,e,by rw[told];rfl⟩
  obtain⟨dx,v,hx,hv⟩:=hx
  have GO:(s'.told=none->i=0\/i=1\/i=19)->spU CS CF CC CT i [.ref x,.ref nl,.ref rl] H Q E0:=λ ht=>⟨x,wl,hl,nl,rl,s',ns,zs,vc,rfl,st,hn,hz,uE,l1,l2,ht,k⟩
  obtain⟨g,hg⟩:∃g,gs[i]? =some g:=⟨_,af (by rw[hC.1];exact hi)⟩
  obtain⟨gd,ps,G1,G2,G3⟩:=hC.2 i g hg
  have ad4:(gs.map V.ref)[i]? =some (V.ref g):=by rw[ak,hg];rfl
  refine⟨_,rfl,x,CS,dx,_,_,rfl,hx,S.cl,S.n1,rfl,_,rfl,?_⟩
  rw[hv]
  refine p8 (λ ht=>?_) λ ht=>?_
  ·have ht:=of_decide_eq_true ht
   refine⟨_,rfl,tw,_,rfl,.inr (q_.2 H),rfl,rfl,_,rfl,?_⟩
   have ei:(if true=true then !G7 (.int (i:Nat)) (nV [0,1,19])else G7 (.int (i:Nat)) (nV [0,1,19]))= !([0,1,19]:List Nat).contains i:=by rw[if_pos rfl,DM]
   show if(if true=true then !G7 (.int (i:Nat)) (nV [0,1,19])else G7 (.int (i:Nat)) (nV [0,1,19]))=true then _ else _
   rw[ei]
   refine p8 (λ hq=>?_) λ hq=>?_
   ·have nh:¬ (i=0\/i=1\/i=19):=λ z=>by
     rcases z with rfl|rfl|rfl <;> cases hq
    rw[VD uE ht nh]at k
    exact⟨(by show 1<=ay;decide),oY (Ak.ret (k.pure st)) (m5.refl _) rfl⟩
   ·have yh:i=0\/i=1\/i=19:=by
     have:([0,1,19]:List Nat).contains i=true:=by
      cases z:([0,1,19]:List Nat).contains i with
      |true=>rfl
      |false=>rw[z]at hq;exact absurd rfl hq
     have:=List.contains_iff_mem.mp this
     simpa using this
    exact⟨_,rfl,ta,_,_,_,rfl,rfl,Ep.2 H,oo ad4,g,spU CS CF CC CT i,rfl,⟨10,gd,ps,G1.imp λ vs H Q E h=>uni i hi h,hr,G2,G3⟩,_,rfl,_,rfl,_,rfl,GO λ _=>yh⟩
  ·have ht:¬ s'.told=none:=λ q=>ht (decide_eq_true q)
   refine rG ⟨_,rfl,ta,_,_,_,rfl,rfl,Ep.2 H,oo ad4,g,spU CS CF CC CT i,rfl,⟨10,gd,ps,G1.imp λ vs H Q E h=>uni i hi h,hr,G2,G3⟩,_,rfl,_,rfl,_,rfl,GO λ q=>absurd q ht⟩
end n_
namespace L2
def del(H:Hp)(y:ag):Hp:=λ b=>if b=y then none else H b
theorem sU(H:Hp)(y:ag):del H y y=none:=by unfold del;rw[if_pos rfl]
theorem qa{H:Hp}{y b:ag}(h:b≠y):del H y b=H b:=by unfold del;rw[if_neg h]
theorem T7{H:Hp}{y b:ag}{o:HO}(h:del H y b=some o):b≠y/\H b=some o:=by
 by_cases e:b=y
 ·rw[e,sU]at h;cases h
 ·rw[qa e]at h;exact⟨e,h⟩
theorem aaA{H:Hp}{y:ag}{o:HO}:del (upd H y o) y=del H y:=by
 funext b
 by_cases e:b=y
 ·rw[e,sU,sU]
 ·rw[qa e,qa e,mY e]
theorem Yu{H:Hp}{y:ag}(h:H y=none):del H y=H:=by
 funext b
 by_cases e:b=y
 ·rw[e,sU,h]
 ·rw[qa e]
theorem m5.del{H H':Hp}(sm:m5 H H')(y:ag):m5 (del H y) (del H' y):=λ b o e=>by
 obtain⟨n,e⟩:=T7 e
 rw[qa n];exact sm b o e
theorem nO.frame{P:aK}{w:bj}{K:ah}{mg:Str->Option ao}{base:bF}{k:Nat}{f:ag}{fd:bP}{ps:List Str}{sp:Sp}(F:nO P w K mg base oE k f fd ps sp):
  nO P w K mg base oE k f fd ps (λ vs H Q _=>∃y ys,H y=some (.lst ys)/\sp vs (del H y) (λ v H2=>H2 y=none->Q v (upd H2 y (.lst ys))) E0):=by
 refine⟨λ vs H Q E ⟨y,ys,_,h⟩=>F.len _ _ _ _ h,λ A outer s H args us vs Q E hr he hb hv ⟨y,ys,hy,hs⟩=>?_⟩
 have he':Nz P w K mg base A outer s (del H y):=by
  refine⟨he.frames,he.mod,λ b o e=>⟨(he.bs b o e).1,?_⟩,he.Sl,he.BC,λ b hb=>?_,λ b o e=>?_,he.bare⟩
  ·by_cases q:b=y
   ·rw[q,sU]
   ·rw[qa q];exact(he.bs b o e).2
  ·by_cases q:b=y
   ·rw[q,sU]
   ·rw[qa q];exact he.VQ b hb
  ·obtain⟨n,e⟩:=T7 e
   refine(he.oW b o e).EH (λ c u _ z=>z) (λ c z=>?_) λ c xs z=>?_
   ·rw[qa (λ q=>by rw[q,hy]at z;cases z)];exact z
   ·rw[qa (λ q=>by rw[q,hy]at z;cases z)];exact z
 refine fB (F.run A outer s (del H y) args us vs _ E0 hr he' hb hv hs) λ r s' h=>?_
 cases r with
 |error e=>exact(h:False).elim
 |ok fl=>
  cases fl with
  |ret u=>
   obtain⟨v,H',h1,h2,un,oW,rv,q⟩:=h
   obtain⟨sz,oh,n,r,e⟩:=he.oW y _ hy
   have nf:y∉PQ outer:=λ z=>by rw[he.VQ y z]at hy;cases hy
   have dn:=sU H y
   have e':=un.keep y _ e dn nf (by simp)
   have fr:=un.free y _ e dn (by simp)
   have ne:∀{b:ag} {o:HO},H' b=some o->b≠y:=λ z q=>by rw[q,fr]at z;cases z
   have ny:∀{b:ag} {o:HO},H b=some o->(∀ys,o≠ .lst ys)->b≠y:=λ z g q=>by
    rw[q,hy]at z
    exact g ys (Option.some.inj z).symm
   refine⟨v,upd H' y (.lst ys),h1,h2,⟨?_,?_,?_,λ b o e x=>un.there b o e x,?_,?_,?_⟩,λ b o z=>?_,rv,q fr⟩
   ·intro b o z1 z2 z3 z4
    have nb:b≠y:=λ q=>by rw[q,hy]at z2;cases z2
    exact un.keep b o z1 (by rw[qa nb];exact z2) z3 z4
   ·intro b o z1 z2 z3 z4
    have nb:b≠y:=λ q=>by rw[q,hy]at z2;cases z2
    exact un.slot b o z1 (by rw[qa nb];exact z2) z3 z4
   ·intro b o z1 z2 z3
    have nb:b≠y:=λ q=>by rw[q,hy]at z2;cases z2
    rw[mY nb]
    exact un.free b o z1 (by rw[qa nb];exact z2) z3
   ·intro b xs z
    have nb:=ny z (λ ys q=>by cases q)
    rw[mY nb]
    exact un.JW b xs (by rw[qa nb];exact z)
   ·intro b o u z
    have nb:=ny z (λ ys q=>by cases q)
    rw[mY nb]
    exact un.Hr b o u (by rw[qa nb];exact z)
   ·intro b ps z
    have nb:=ny z (λ ys q=>by cases q)
    rw[mY nb]
    exact un.JX b ps (by rw[qa nb];exact z)
   ·by_cases eb:b=y
    ·subst eb
     rw[mX]at z
     cases z
     exact⟨sz,oh,n,r,e'⟩
    ·rw[mY eb]at z
     exact(oW b o z).EH (λ c u _ z=>z) (λ c z=>by rw[mY (ne z)];exact z) λ c xs z=>by rw[mY (ne z)];exact z
  |_=>exact h
theorem NE.seq{K:ah}{H H':Hp}{a:ag}{xs:List V}(n:NE H H')(h:nA K H a xs):nA K H' a xs:=by
 rcases h with (h|⟨o,h⟩)|h
 ·exact .inl (.inl (n _ _ h (λ φ q=>by cases q)))
 ·exact .inl (.inr ⟨o,n _ _ h (λ φ q=>by cases q)⟩)
 ·exact .inr h
end L2
namespace n_
def ad5(CS CF CC CT:ag):Sp:=λ vs H Q _=>∃y ys,H y=some (.lst ys)/\C_ CS CF CC CT vs (del H y) (λ v H2=>H2 y=none->Q v (upd H2 y (.lst ys))) E0
def VF(s:bS)(cs:List (List (List Int))):List Int:=PyFlat.told (PyFlat.played VbmracNeutral.step s (cs.map eO))
theorem VG(s:bS)(c:List (List Int))(cs:List (List (List Int))):VF s (c::cs)=((VbmracNeutral.step s (eO c)).2.length:Int)::((VbmracNeutral.step s (eO c)).2++VF (VbmracNeutral.step s (eO c)).1 cs):=by
 unfold VF PyFlat.told
 rw[aH]
 show List.flatMap _ (_::PyFlat.played _ _ _)=_
 rw[eV];rfl
theorem Yv(l:List Int){i e:Nat}(h1:i<=e)(h2:e<=l.length):BZ (iL l) (some (i:Int)) (some (e:Int))=iL ((l.drop i).take (e-i)):=by
 unfold BZ
 rw[HT.G5,HT.G5,pU,fM (aV h1 h2),fM h2]
 unfold iL
 rw[<-lW,<-lV]
theorem Fr.back{H H':Hp}{q:ag}(n:NE H H')(f:Fr H' q):Fr H q:=λ o e=>by
 apply Classical.byContradiction
 intro z
 exact z (f o (n q o e λ φ y=>z ⟨φ,y⟩))
theorem RV{f:Nat}{p:Int}{r:List Int}{rest:List (List (List Int))}(h:PyFlat.calls cD f (p::r)=some rest):∃f' c t cs,PyFlat.call cD (p::r)=some (c,t)/\PyFlat.calls cD f' t=some cs/\rest=c::cs:=by
 cases f with
 |zero=>cases h
 |succ f=>
  unfold PyFlat.calls at h
  cases h1:PyFlat.call cD (p::r)with
  |none=>rw[h1]at h;cases h
  |some ct=>
   obtain⟨c,t⟩:=ct
   rw[h1]at h
   dsimp only at h
   cases h2:PyFlat.calls cD f t with
   |none=>rw[h2]at h;cases h
   |some cs=>
    rw[h2]at h
    cases h
    exact⟨f,c,t,cs,rfl,h2,rfl⟩
def Fy(K:ah):Sp:=λ vs H Q _=>∃(a:ag) (l:List Int),vs=[.ref a]/\nA K H a (iL l)/\gp l=true/\∀H' p,H' p=some (.lst (iL (dA l)))->Q (.ref p) H'
theorem Yw{l:List Int}(h:gp l=true):∃raw,PyFlat.calls cD l.length l=some raw/\PyInside.calls dz raw=true/\(dA l).length<=10000000/\dA l=VF iC raw:=by
 unfold gp at h
 cases q:PyFlat.calls cD l.length l with
 |none=>rw[q]at h;cases h
 |some raw=>
  rw[q]at h
  dsimp only at h
  rw[bg,bg,bg]at h
  refine⟨raw,rfl,h.1.1.2,of_decide_eq_true h.2,?_⟩
  unfold dA PyVbmrac.calls
  rw[q];rfl
abbrev Yx:List Str:=["calls","search","given","at","call","start","numbers","row","answer"]
theorem Lv:m7 Yx ["calls"] (mZ HR):=qf
theorem VH(F:pG K "answers" "answers" HR f fd){tl tn fI:ag}{fdI:bP}(S:pY K CS)(Yy:Mk K CS fI)(Yz:nO P w K mg base oE 1 fI fdI ["self"] (yI CS))(YA:Binds K fdI ["self"] [])(YB:mg "Search"=some (.ref CS))(o9:mg "len"=none)(qP:N1 K mg "HOW_MANY_NUMBERS" tn (nV MV))(t9:N1 K mg "WITH_A_LIST" tl (nV PN))(AM:rA P w K mg base oE 11 "answer_of" ["search","call","numbers","row"] (ad5 CS CF CC CT)):nO P w K mg base oE 12 f fd ["calls"] (Fy K):=by
 refine F.ok Lv (λ vs H Q E h=>?_) (λ oU A outer s H vs Q E hr h=>?_)
 ·obtain⟨a,l,rfl,_⟩:=h
  rfl
 ·obtain⟨a,l,rfl,hs,acE,k⟩:=h
  have nd:=Lv.nd
  refine⟨_,(mV (m6 (i:=1) nd rfl (Or.inl rfl) (Wk (E:=E0) Yy Yz (hr.mono (by decide)) rfl YB YA .nil nj))
   (mV (m6 (i:=2) nd rfl (Or.inl rfl) (nN mW))
   (mV (m6 (i:=3) nd rfl (Or.inl rfl) nM)
   (mV (rK PassesOwn.never (om Hv (pv 3) (nJ nL rfl o9 aX (mU (pv 0) mW)) (oH _)) (mV (m6 (i:=4) nd rfl (Or.inl rfl) (oZ n9 (pv 0) (pv 3) (λ _ _=>rfl)))
   (mV (m6 (i:=5) nd rfl (Or.inl rfl) (og qS (pv 3) nM))
   (mV (m6 (i:=3) nd rfl (Or.inl rfl) (og qS (pv 5) (oZ Wl (KJ qP) (pv 4) (λ _ _=>rfl))))
   (mV (m6 (i:=6) nd rfl (Or.inl rfl) (Dr G6 (pv 0) (wm (pv 5)) (wm (pv 3))))
   (mV (m6 (i:=7) nd rfl (Or.inl rfl) (nN mW))
   (mV (pf (om Bb (pv 4) (KJ t9) (by with_unfolding_all rfl)) (mV (m6 (i:=5) nd rfl (Or.inl rfl) (og qS (pv 3) nM))
   (mV (m6 (i:=3) nd rfl (Or.inl rfl) (og qS (pv 5) (oZ n9 (pv 0) (pv 3) (λ _ _=>rfl))))
   (m4 (m6 (i:=7) nd rfl (Or.inl rfl) (Dr G6 (pv 0) (wm (pv 5)) (wm (pv 3))))))) nX)
   (mV (m6 (i:=8) nd rfl (Or.inl rfl) (nq (E:=E0) AM hr (by decide) nj (mU (pv 1) (mU (pv 4) (mU (pv 6) (mU (pv 7) mW))))))
   (mV (nZ (qQ aG a_ a0 pD (pv 2) (mU (nJ nL rfl o9 aX (mU (pv 8) mW)) mW)))
   (m4 (nZ (qQ aG cU cT vb (pv 2) (mU (pv 8) mW)))))))))))))
   (m4 (m9 (pv 2))))))),?_⟩
  obtain⟨raw,afg,afh,acF,afi⟩:=Yw acE
  intro x dx nx ndx nex
  refine⟨x,dx,rfl,mX,λ H1 wl hl b1 hw hh ne se=>⟨rfl,?_⟩⟩
  have n1:NE H H1:=λ b o e z=>by
   have e1:b≠x:=λ q=>by rw[q,nx]at e;cases e
   have e2:b≠dx:=λ q=>by rw[q,ndx]at e;cases e
   exact b1 b o (by rw[mY e1,mY e2];exact e) e1 z
  have up0:∀b o,H b=some o->(upd (upd H dx (.own x)) x (.ins CS dx [])) b=some o:=λ b o e=>by
   have e1:b≠x:=λ q=>by rw[q,nx]at e;cases e
   have e2:b≠dx:=λ q=>by rw[q,ndx]at e;cases e
   rw[mY e1,mY e2];exact e
  have fw0:H wl=none:=none_of up0 hw
  have fh0:H hl=none:=none_of up0 hh
  refine⟨aE _,λ gv hgv=>?_⟩
  have aaB:Fr H gv:=Fr.of n1 hgv
  have s1:m5 H1 (upd H1 gv (.lst [])):=m5.new hgv
  refine⟨λ m σ H'=>∃(o4 o5 o6 o7 o8:Option V) (x wl hl:ag) (s':bS) (gi:List Int) (uF fu:Nat) (rest:List (List (List Int))),σ=[some (.ref a),some (.ref x),some (.ref gv),some (.int (uF:Nat)),o4,o5,o6,o7,o8]/\NE H H'/\Fr H x/\Fr H wl/\Fr H hl/\H' gv=some (.lst (iL gi))/\Em CS CF CC CT s' (del H' gv) x wl hl/\uF<=l.length/\m=l.length-uF/\l.drop uF=l.drop uF/\PyFlat.calls cD fu (l.drop uF)=some rest/\PyInside.calls dz rest=true/\dA l=gi++VF s' rest,
   ⟨l.length,none,none,none,none,none,x,wl,hl,iC,[],0,l.length,raw,rfl,n1.trans (NE.of_same s1),Fr.none nx,Fr.none fw0,Fr.none fh0,mX,.inl ⟨rfl,by rw[aaA,Yu hgv];exact se,ne⟩,aE _,rfl,rfl,afg,afh,by rw[afi];rfl⟩,?_⟩
  rintro m σ H' ⟨o4,o5,o6,o7,o8,x,wl,hl,s',gi,uF,fu,rest,rfl,keep,fx,fw,fh,VI,st,E8,rfl,_,MY,YC,heq⟩
  have Y_:=keep.seq hs
  refine⟨_,rfl,_,rfl,a,_,rfl,.inl Y_,_,_,rfl,rfl,_,rfl,?_⟩
  rw[pU]
  refine p8 (λ hc=>?_) λ hc=>?_
  ·have hc:(uF:Int)<(l.length:Int):=of_decide_eq_true hc
   have rL:uF<l.length:=by omega
   obtain⟨pp,hpp⟩:∃pp,l[uF]? =some pp:=⟨_,af rL⟩
   have BK:=yD hpp
   rw[BK]at MY
   obtain⟨f',c,t,cs,acG,Ml,rfl⟩:=RV MY
   have hb1:PyInside.call dz c=true/\PyInside.calls dz cs=true:=by
    unfold PyInside.calls at YC
    rw[gx,bg]at YC
    exact YC
   obtain⟨hbc,hbs⟩:=hb1
   obtain⟨i,ns,zs,vc,rfl,hi,hle,WB,lns,uE,ad6,l1,l2,ad7⟩:=parse acG hbc
   generalize hn:MV.getD i 0=n at hle WB lns ad7
   have hr:(l.drop (uF+1)).length=l.length-(uF+1):=gC
   rw[hr]at hle
   have hmn:MV[i]? =some n:=by rw[<-hn];exact getD_at hi
   have eo:dA l=gi++(((bL s' vc).2.length:Int)::((bL s' vc).2++VF (bL s' vc).1 cs)):=by rw[heq,VG,ad6]
   have tot:gi.length+1+(bL s' vc).2.length<=10000000:=by
    rw[eo,aw,aD,aw]at acF
    omega
   refine⟨_,λ _ _ z=>z,_,rfl,_,rfl,a,_,_,_,rfl,rfl,Y_,oo (aa7 hpp),_,rfl,_,_,rfl,rfl,_,rfl,_,rfl,tn,_,_,_,rfl,rfl,qP.2 H',oo (oR hmn),_,_,rfl,rfl,?_⟩
   refine⟨_,rfl,_,rfl,_,rfl,_,rfl,_,rfl,a,_,rfl,Y_,λ nl hnl=>?_⟩
   have e1:BZ (iL l) (some ((uF:Int)+1)) (some ((uF:Int)+1+(n:Int)))=iL ns:=by
    have:=Yv l (i:=uF+1) (e:=uF+1+n) (by omega) (by omega)
    rw[show uF+1+n-(uF+1)=n by omega,<-WB]at this
    exact this
   have nlg:nl≠gv:=λ q=>by rw[q,VI]at hnl;cases hnl
   have sA:m5 H' (upd H' nl (.lst (BZ (iL l) (some ((uF:Int)+1)) (some ((uF:Int)+1+(n:Int)))))):=m5.new hnl
   have HNA:(upd H' nl (.lst (BZ (iL l) (some ((uF:Int)+1)) (some ((uF:Int)+1+(n:Int)))))) nl=some (.lst (iL ns)):=by rw[mX,e1]
   generalize hHA:upd H' nl (.lst (BZ (iL l) (some ((uF:Int)+1)) (some ((uF:Int)+1+(n:Int)))))=HA at sA HNA
   refine⟨aE _,λ r0 WT=>?_⟩
   have sB:m5 HA (upd HA r0 (.lst [])):=m5.new WT
   have r0g:r0≠gv:=λ q=>by rw[q,sA _ _ VI]at WT;cases WT
   refine⟨_,rfl,tl,_,rfl,.inr (t9.2 _),rfl,rfl,_,rfl,?_⟩
   have ew:(if false=true then !G7 (.int (i:Nat)) (nV PN)else G7 (.int (i:Nat)) (nV PN))=PN.contains i:=DM i PN
   show if(if false=true then !G7 (.int (i:Nat)) (nV PN)else G7 (.int (i:Nat)) (nV PN))=true then _ else _
   rw[ew]
   rcases ad7 with⟨hwf,rfl,rfl⟩|⟨hwt,mm,r',hd2,hm0,hml,rfl,rfl⟩
   ·rw[hwf]
    refine rG ?_
    generalize JV:upd HA r0 (.lst [])=H2 at sB
    have s2:m5 H' H2:=sA.trans sB
    have HN:H2 nl=some (.lst (iL ns)):=sB _ _ HNA
    have HZ:H2 r0=some (.lst (iL [])):=by rw[<-JV,mX];rfl
    have hg2:=s2 _ _ VI
    have hdr:l.drop (uF+1+n)=(l.drop (uF+1)).drop n:=by rw[eW]
    rw[<-hdr]at Ml
    refine⟨_,rfl,_,rfl,_,rfl,_,rfl,gv,_,hg2,x,wl,hl,nl,r0,s',i,ns,_,vc,rfl,hi,st.Vk (NE.of_same (s2.del gv)),by rw[qa nlg];exact HN,by rw[qa r0g];exact HZ,uE,l1,l2,λ H3 p V8 GS EA hw hh b3 fp hp h3=>?_⟩
    have pg:p≠gv:=λ q=>by rw[q,h3]at hp;cases hp
    refine⟨_,rfl,.inl ⟨rfl,_,nA.of mX⟩,_,rfl,p,_,rfl,.inl (nA.of (by rw[mY pg];exact hp)),gv,_,_,rfl,rfl,mX,(by rw[pU,aA];omega),?_⟩
    generalize UQ:upd (upd H3 gv (.lst (iL gi))) gv _=H4
    have g4:H4 gv=some (.lst (iL (gi++[((bL s' vc).2.length:Int)]))):=by rw[<-UQ,mX,AI,pU];rfl
    have k4:∀b,b≠gv->H4 b=H3 b:=λ b n=>by rw[<-UQ,mY n,mY n]
    refine⟨_,rfl,.inl ⟨rfl,_,nA.of g4⟩,_,rfl,gv,p,_,_,rfl,rfl,g4,by rw[k4 p pg];exact hp,(by rw[pU,pU,aw,aA];show _+1+ _<=_;omega),?_⟩
    generalize hH5:upd H4 gv _=H5
    have g5:H5 gv=some (.lst (iL (gi++((bL s' vc).2.length:Int)::(bL s' vc).2))):=by rw[<-hH5,mX,<-AI,bA];rfl
    have k5:∀b,b≠gv->H5 b=H3 b:=λ b n=>by rw[<-hH5,mY n,k4 b n]
    have d5:del H5 gv=H3:=by
     funext b
     by_cases e:b=gv
     ·rw[e,sU,h3]
     ·rw[qa e,k5 b e]
    have nD:NE H (del H2 gv):=λ b o e z=>by
     rw[qa (aaB.ne e z)]
     exact s2 _ _ (keep b o e z)
    have n5:NE H H5:=λ b o e z=>by
     have nb:b≠gv:=aaB.ne e z
     rw[k5 b nb]
     exact b3 b o (nD b o e z) (fx.ne e z) (fw.ne e z) (fh.ne e z) z
    refine⟨l.length-(uF+1+n),by omega,_,_,_,_,_,x,V8,GS,_,gi++((bL s' vc).2.length:Int)::(bL s' vc).2,(uF+1+n),_,cs,rfl,n5,fx,?_,?_,g5,by rw[d5];exact EA,(by omega),rfl,rfl,Ml,hbs,?_⟩
    ·rcases hw with rfl|hw
     ·exact fw
     ·exact Fr.back nD hw
    ·rcases hh with rfl|hh
     ·exact fh
     ·exact Fr.back nD hh
    ·rw[eo,bA];rfl
   ·rw[hwt]
    obtain⟨mn,rfl⟩:∃q:Nat,mm=(q:Int):=⟨mm.toNat,by omega⟩
    rw[show((mn:Int)).toNat=mn from rfl]at hml Ml l1 l2 uE
    have hd3:l.drop (uF+1+n)=(mn:Int)::r':=by rw[<-eW];exact hd2
    have acH:l[uF+1+n]? =some (mn:Int):=by
     have z:=kD (xs:=l) (i:=uF+1+n) (j:=0)
     rw[hd3]at z
     simpa using z.symm
    have hr2:r'=l.drop (uF+1+n+1):=by
     have:=yD acH
     rw[hd3]at this
     exact(List.cons.inj this).2
    have hrl:r'.length=l.length-(uF+1+n+1):=by rw[hr2,gC]
    have afq:uF+1+n<l.length:=(List.getElem?_eq_some_iff.mp acH).1
    refine s_ ⟨_,rfl,_,_,rfl,rfl,_,rfl,_,rfl,_,rfl,a,_,_,_,rfl,rfl,(NE.of_same (sA.trans sB)).seq Y_,at_of (j:=uF+1+n) rfl (aa7 acH),_,_,rfl,rfl,?_⟩
    refine⟨_,rfl,_,rfl,_,rfl,_,rfl,_,rfl,a,_,rfl,(NE.of_same (sA.trans sB)).seq Y_,λ rl acI=>?_⟩
    have e3:BZ (iL l) (some ((uF:Int)+1+(n:Int)+1)) (some ((uF:Int)+1+(n:Int)+1+(mn:Int)))=iL (r'.take mn):=by
     have:=Yv l (i:=uF+1+n+1) (e:=uF+1+n+1+mn) (by omega) (by omega)
     rw[show uF+1+n+1+mn-(uF+1+n+1)=mn by omega,<-hr2]at this
     exact this
    have sC:m5 (upd HA r0 (.lst [])) (upd (upd HA r0 (.lst [])) rl (.lst (BZ (iL l) (some ((uF:Int)+1+(n:Int)+1)) (some ((uF:Int)+1+(n:Int)+1+(mn:Int)))))):=m5.new acI
    generalize JV:upd (upd HA r0 (.lst [])) rl (.lst (BZ (iL l) (some ((uF:Int)+1+(n:Int)+1)) (some ((uF:Int)+1+(n:Int)+1+(mn:Int)))))=H2 at sC
    have s2:m5 H' H2:=sA.trans (sB.trans sC)
    have HN:H2 nl=some (.lst (iL ns)):=sC _ _ (sB _ _ HNA)
    have HZ:H2 rl=some (.lst (iL (r'.take mn))):=by rw[<-JV,mX,e3]
    have rlg:rl≠gv:=λ q=>by rw[q,sB _ _ (sA _ _ VI)]at acI;cases acI
    have hg2:=s2 _ _ VI
    have hdr:l.drop (uF+1+n+1+mn)=r'.drop mn:=by rw[hr2,eW]
    rw[<-hdr]at Ml
    refine⟨_,rfl,_,rfl,_,rfl,_,rfl,gv,_,hg2,x,wl,hl,nl,rl,s',i,ns,_,vc,rfl,hi,st.Vk (NE.of_same (s2.del gv)),by rw[qa nlg];exact HN,by rw[qa rlg];exact HZ,uE,l1,l2,λ H3 p V8 GS EA hw hh b3 fp hp h3=>?_⟩
    have pg:p≠gv:=λ q=>by rw[q,h3]at hp;cases hp
    refine⟨_,rfl,.inl ⟨rfl,_,nA.of mX⟩,_,rfl,p,_,rfl,.inl (nA.of (by rw[mY pg];exact hp)),gv,_,_,rfl,rfl,mX,(by rw[pU,aA];omega),?_⟩
    generalize UQ:upd (upd H3 gv (.lst (iL gi))) gv _=H4
    have g4:H4 gv=some (.lst (iL (gi++[((bL s' vc).2.length:Int)]))):=by rw[<-UQ,mX,AI,pU];rfl
    have k4:∀b,b≠gv->H4 b=H3 b:=λ b n=>by rw[<-UQ,mY n,mY n]
    refine⟨_,rfl,.inl ⟨rfl,_,nA.of g4⟩,_,rfl,gv,p,_,_,rfl,rfl,g4,by rw[k4 p pg];exact hp,(by rw[pU,pU,aw,aA];show _+1+ _<=_;omega),?_⟩
    generalize hH5:upd H4 gv _=H5
    have g5:H5 gv=some (.lst (iL (gi++((bL s' vc).2.length:Int)::(bL s' vc).2))):=by rw[<-hH5,mX,<-AI,bA];rfl
    have k5:∀b,b≠gv->H5 b=H3 b:=λ b n=>by rw[<-hH5,mY n,k4 b n]
    have d5:del H5 gv=H3:=by
     funext b
     by_cases e:b=gv
     ·rw[e,sU,h3]
     ·rw[qa e,k5 b e]
    have nD:NE H (del H2 gv):=λ b o e z=>by
     rw[qa (aaB.ne e z)]
     exact s2 _ _ (keep b o e z)
    have n5:NE H H5:=λ b o e z=>by
     have nb:b≠gv:=aaB.ne e z
     rw[k5 b nb]
     exact b3 b o (nD b o e z) (fx.ne e z) (fw.ne e z) (fh.ne e z) z
    refine⟨l.length-(uF+1+n+1+mn),by omega,_,_,_,_,_,x,V8,GS,_,gi++((bL s' vc).2.length:Int)::(bL s' vc).2,(uF+1+n+1+mn),_,cs,rfl,n5,fx,?_,?_,g5,by rw[d5];exact EA,(by omega),rfl,rfl,Ml,hbs,?_⟩
    ·rcases hw with rfl|hw
     ·exact fw
     ·exact Fr.back nD hw
    ·rcases hh with rfl|hh
     ·exact fh
     ·exact Fr.back nD hh
    ·rw[eo,bA];rfl
  ·have hc:¬ (uF:Int)<(l.length:Int):=λ q=>hc (decide_eq_true q)
   have e:l.drop uF=[]:=gL (by omega)
   rw[e]at MY
   have er:rest=[]:=by
    cases fu <;> exact(Option.some.inj MY).symm
   rw[er]at heq
   have e2:dA l=gi:=by rw[heq];exact bC _
   rw[e2]at k
   exact⟨_,rfl,k H' gv VI⟩
section
variable{P:aK}{w:bj}{K:ah}{mg:Str->Option ao}{base hp:bF}
def FI(K:ah)(x:Str)(st:bz)(f:ag):Prop:=bt K aR x=some (some (.ref f))/\∃fd,pG K x x st f fd
def MI(K:ah)(C:ag)(m q:Str)(st:bz):Prop:=∃f fd,Meth K C m f/\pG K m q st f fd
structure CI(K:ah)(x q:Str)(st:bz)(C:ag)(fl:List Str):Prop where
 ns:bt K aR x=some (some (.ref C))
 cl:G4 K C
 na:∀g∈fl,oA K C g
 mi:∃f fd,Mk K C f/\pG K "__init__" q st f fd
theorem oj{x:Str}{st:bz}{f:ag}{oc:ao}{od an:Option ag}{Ku:Array (Option ao)}{kV doc pm oU ct:ao}(a:bt K aR x=some (some (.ref f)))(l:K.lookup f=some ⟨oc,od,.func (cA x x (rC st) (qH st) (mZ st) .none kV doc pm an oU ct),Ku⟩)
  (c:dW K oU x=true)(k:bZ K (.ref f)=true):FI K x st f:=⟨a,_,LV l c k⟩
theorem tE{C:ag}{m q:Str}{st:bz}{f:ag}{oc:ao}{od an:Option ag}{Ku:Array (Option ao)}{kV doc pm oU ct:ao}(a:bw K (.ref C) m=some (some (.ref f)))(i:gz K (.ref f)=true)(l:K.lookup f=some ⟨oc,od,.func (cA m q (rC st) (qH st) (mZ st) .none kV doc pm an oU ct),Ku⟩)
  (c:dW K oU q=true)(k:bZ K (.ref f)=true):MI K C m q st:=⟨f,_,⟨a,i,k⟩,LV l c k⟩
theorem JG{x q:Str}{st:bz}{C:ag}{fl:List Str}{f:ag}{oc:ao}{od an:Option ag}{Ku:Array (Option ao)}{kV doc pm oU ct:ao}(n:bt K aR x=some (some (.ref C)))(pg:eY K C Str.empty=true)(hd:fZ K C=true)(po:iw K C=true)(sa:bw K (.ref C) "__setattr__"=some (some (.builtin "object.__setattr__")))
  (mk:iR K C=true)(kc:bZ K (.ref C)=true)(a:bw K (.ref C) "__init__"=some (some (.ref f)))(i:gz K (.ref f)=true)(l:K.lookup f=some ⟨oc,od,.func (cA "__init__" q (rC st) (qH st) (mZ st) .none kV doc pm an oU ct),Ku⟩)
  (c:dW K oU q=true)(k:bZ K (.ref f)=true)(na:∀g∈fl,oA K C g):CI K x q st C fl:=⟨n,⟨pg,hd,po,sa⟩,na,f,_,⟨mk,a,i,kc⟩,LV l c k⟩
theorem Dd{C:ag}:∀g∈([]:List Str),oA K C g:=λ g h=>by cases h
theorem p6{C:ag}{x:Str}{l:List Str}(h:bw K (.ref C) x=some none)(t:∀g∈l,oA K C g):∀g∈x::l,oA K C g:=λ g hg=>by
 rcases List.mem_cons.mp hg with rfl|hg
 ·exact h
 ·exact t g hg
theorem b1{x q:Str}{st:bz}{f:ag}{fd:bP}{p1:Str}(F:pG K x q st f fd)(h:∀(kV doc pm:ao) (an:Option ag) (oU ct a:ao),iH (cA x q (rC st) (qH st) (mZ st) .none kV doc pm an oU ct) ⟨[a],[]⟩=pure ([p1].zip [a]):=by intros;rfl):Binds K fd [p1] []:=F.binds λ _ _ _ _ _ _ us hl=>match us,hl with |[_],_=>h ..
theorem b2{x q:Str}{st:bz}{f:ag}{fd:bP}{p1 p2:Str}(F:pG K x q st f fd)(h:∀(kV doc pm:ao) (an:Option ag) (oU ct a b:ao),iH (cA x q (rC st) (qH st) (mZ st) .none kV doc pm an oU ct) ⟨[a,b],[]⟩=pure ([p1,p2].zip [a,b]):=by intros;rfl):Binds K fd [p1,p2] []:=F.binds λ _ _ _ _ _ _ us hl=>match us,hl with |[_,_],_=>h ..
theorem b3{x q:Str}{st:bz}{f:ag}{fd:bP}{p1 p2 p3:Str}(F:pG K x q st f fd)(h:∀(kV doc pm:ao) (an:Option ag) (oU ct a b c:ao),iH (cA x q (rC st) (qH st) (mZ st) .none kV doc pm an oU ct) ⟨[a,b,c],[]⟩=pure ([p1,p2,p3].zip [a,b,c]):=by intros;rfl):Binds K fd [p1,p2,p3] []:=F.binds λ _ _ _ _ _ _ us hl=>match us,hl with |[_,_,_],_=>h ..
theorem b4{x q:Str}{st:bz}{f:ag}{fd:bP}{p1 p2 p3 p4:Str}(F:pG K x q st f fd)(h:∀(kV doc pm:ao) (an:Option ag) (oU ct a b c d:ao),iH (cA x q (rC st) (qH st) (mZ st) .none kV doc pm an oU ct) ⟨[a,b,c,d],[]⟩=pure ([p1,p2,p3,p4].zip [a,b,c,d]):=by intros;rfl):Binds K fd [p1,p2,p3,p4] []:=F.binds λ _ _ _ _ _ _ us hl=>match us,hl with |[_,_,_,_],_=>h ..
theorem b5{x q:Str}{st:bz}{f:ag}{fd:bP}{p1 p2 p3 p4 p5:Str}(F:pG K x q st f fd)(h:∀(kV doc pm:ao) (an:Option ag) (oU ct a b c d e:ao),iH (cA x q (rC st) (qH st) (mZ st) .none kV doc pm an oU ct) ⟨[a,b,c,d,e],[]⟩=pure ([p1,p2,p3,p4,p5].zip [a,b,c,d,e]):=by intros;rfl):Binds K fd [p1,p2,p3,p4,p5] []:=F.binds λ _ _ _ _ _ _ us hl=>match us,hl with |[_,_,_,_,_],_=>h ..
theorem FI.has{CX:ED}{k:Nat}{x:Str}{st:bz}{f:ag}{ps:List Str}{sp:Sp}(h:FI K x st f)(X:K.In hp)(G:hp.Ns aR mg)(ok:∀fd,pG K x x st f fd->nO P w K mg base CX k f fd ps sp)(b:∀fd,pG K x x st f fd->Binds K fd ps []):rA P w K mg base CX k x ps sp:=by
 obtain⟨n,fd,F⟩:=h
 exact⟨f,fd,ok fd F,dt X G n,F.kp,b fd F⟩
theorem FI.hs{CX:ED}{k:Nat}{x:Str}{st:bz}{f:ag}{ps:List Str}{sp:Sp}(h:FI K x st f)(P:aK)(w:bj)(base:bF)(X:K.In hp)(G:hp.Ns aR mg)(ok:∀fd,pG K x x st f fd->nO P w K mg base CX k f fd ps sp)(b:∀fd,pG K x x st f fd->Binds K fd ps []):rA P w K mg base CX k x ps sp:=h.has X G ok b
theorem MI.hs{CX:ED}{k:Nat}{C:ag}{m q:Str}{st:bz}{ps:List Str}{sp:Sp}(h:MI K C m q st)(P:aK)(w:bj)(base:bF)(mg:Str->Option ao)(ok:∀f fd,pG K m q st f fd->nO P w K mg base CX k f fd ps sp)(b:∀f fd,pG K m q st f fd->Binds K fd ps []):um P w K mg base CX k C m ps sp:=by
 obtain⟨f,fd,M,F⟩:=h
 exact⟨f,fd,M,ok f fd F,b f fd F⟩
theorem MI.aaC{CX:ED}{k:Nat}{C:ag}{m q:Str}{st:bz}{ps:List Str}{sp:Sp}(h:MI K C m q st)(ok:∀f fd,pG K m q st f fd->nO P w K mg base CX k f fd ps sp)(b:∀f fd,pG K m q st f fd->Binds K fd ps []):um P w K mg base CX k C m ps sp:=by
 obtain⟨f,fd,M,F⟩:=h
 exact⟨f,fd,M,ok f fd F,b f fd F⟩
theorem CI.rc{C:ag}{x q:Str}{st:bz}{fl:List Str}(h:CI K x q st C fl)(X:K.In hp)(G:hp.Ns aR mg)(ok:∀f fd,pG K "__init__" q st f fd->nO P w K mg base oE 1 f fd ("self"::fl) (FO C fl))(b:∀f fd,pG K "__init__" q st f fd->Binds K fd ("self"::fl) []):Rec P w K mg base x C fl:=by
 obtain⟨f,fd,M,F⟩:=h.mi
 exact⟨h.cl,dt X G h.ns,h.na,f,fd,M,ok f fd F,b f fd F⟩
def acJ:V->ao->Bool
 | .int i,.int j _=>decide (i=j)
 | .str s,.str t _=>decide (s=t)
 | .ref a,.ref b=>decide (a=b)
 |_,_=>false
def T8:List V->List ao->Bool
 |[],[]=>true
 |x::xs,u::us=>acJ x u && T8 xs us
 |_,_=>false
theorem aaD{x:V}{u:ao}(h:acJ x u=true):RelV x u:=by
 unfold acJ at h
 split at h
 ·cases of_decide_eq_true h;exact⟨_,rfl⟩
 ·cases of_decide_eq_true h;exact⟨_,rfl⟩
 ·cases of_decide_eq_true h;exact rfl
 ·cases h
theorem Pg:∀{xs:List V} {us:List ao},T8 xs us=true->Vals xs us
 |[],[],_=>.nil
 |x::xs,u::us,h=>by
  unfold T8 at h
  rw[bg]at h
  exact .cons (aaD h.1) (Pg h.2)
 |[],_::_,h=>by cases h
 |_::_,[],h=>by cases h
theorem Fz{x:Str}{a:ag}{xs:List V}{od:Option ag}{oh:Array ao}{n:Nat}{Ku:Array (Option ao)}(e:bt K aR x=some (some (.ref a)))(l:K.lookup a=some ⟨.type "tuple",od,.seq oh n,Ku⟩)(z:Nat.ble oh.size 1000=true)(v:T8 xs oh.toList=true):
  bt K aR x=some (some (.ref a))/\∀H:Hp,BG K H a xs:=⟨e,λ H=>.inr ⟨_,oh,n,l,rfl,rfl,aV (Nat.le_of_ble_eq_true z) (by decide),Pg v⟩⟩
def TI(K:ah)(x:Str)(a:ag)(xs:List V):Prop:=bt K aR x=some (some (.ref a))/\∀H:Hp,BG K H a xs
def II(K:ah)(x:Str)(n:Int):Prop:=∃t,bt K aR x=some (some (.int n t))
def SI(K:ah)(x z:Str):Prop:=∃t,bt K aR x=some (some (.str z t))
theorem pW{x:Str}{n:Int}{t:mz}(a:bt K aR x=some (some (.int n t))):II K x n:=⟨t,a⟩
theorem Lw{x z:Str}{t:mz}(a:bt K aR x=some (some (.str z t))):SI K x z:=⟨t,a⟩
theorem TI.g{x:Str}{a:ag}{xs:List V}(h:TI K x a xs)(X:K.In hp)(G:hp.Ns aR mg):N1 K mg x a xs:=⟨dt X G h.1,h.2⟩
theorem II.g{x:Str}{n:Int}(h:II K x n)(X:K.In hp)(G:hp.Ns aR mg):oC mg x n:=let⟨t,e⟩:=h;⟨t,dt X G e⟩
theorem SI.g{x z:Str}(h:SI K x z)(X:K.In hp)(G:hp.Ns aR mg):BE mg x z:=let⟨t,e⟩:=h;⟨t,dt X G e⟩
structure WI(K:ah)(C:ag):Prop where
 ns:bt K aR "Wrong"=some (some (.ref C))
 ec:tG K C
 ty:fK K (.ref C)=some (.type "type")
 ng:oA K C "__getattr__"
 n1:oA K C "kind"
 n2:oA K C "place"
 mi:∃f fd,ZL K C f/\pG K "__init__" "Wrong.__init__" tH f fd
theorem ad8{C f N:ag}{nm q:Str}{bs:List ao}{L4:Bool}{sn:List Str}{sub:List ao}{ab:Bool}{col:Option Bool}{dd:Option ag}{k0 k1 k2 k3 k5:Option ao}{oN:Obj}{cd:ClassData}{oc:ao}{od an:Option ag}{Ku:Array (Option ao)}{kV doc pm oU ct:ao}
  (ns:bt K aR "Wrong"=some (some (.ref C)))(c:ji K C=some cd)(m:cd.mro=[.ref C,.type "Exception",.type "BaseException",.type "object"])(hd:cd.hasDict=true)
  (sa:bw K (.ref C) "__setattr__"=some (some (.builtin "object.__setattr__")))(ga:bw K (.ref C) "__getattribute__"=some (some (.builtin "BaseException.__getattribute__")))
  (ty:fK K (.ref C)=some (.type "type"))(ng:bw K (.ref C) "__getattr__"=some none)(n1:bw K (.ref C) "kind"=some none)(n2:bw K (.ref C) "place"=some none)
  (lC:K.lookup C=some (ll nm q C N bs WH L4 sn sub ab col dd k0 k1 k2 k3 k5 "Exception.__new__"))(lN:K.lookup N=some oN)(hN:L7 oN=true)(hi:bt K N "__init__"=some (some (.ref f)))
  (l:K.lookup f=some ⟨oc,od,.func (cA "__init__" "Wrong.__init__" (rC tH) (qH tH) (mZ tH) .none kV doc pm an oU ct),Ku⟩)(cI:oc= .type "function")(kp:bZ K (.ref C)=true)(d:dW K oU "Wrong.__init__"=true)(k:bZ K (.ref f)=true):WI K C:=
 ⟨ns,UB c m hd sa ga,ty,ng,n1,n2,f,_,ab2 lC lN hN hi l cI kp,LV l d k⟩
theorem WI.ok{C:ag}(h:WI K C)(X:K.In hp)(G:hp.Ns aR mg)(hm:mg "Exception"=none):tZ P w K mg base C:=by
 obtain⟨f,fd,M,F⟩:=h.mi
 exact⟨dt X G h.ns,h.ec,h.ty,h.ng,h.n1,h.n2,f,fd,M,NT F M h.ec hm h.n1 h.n2,F.binds (ps:=["self","kind","place"]) λ _ _ _ _ _ _ us hl=>match us,hl with |[_,_,_],_=>rfl⟩
theorem YD{CS CF CC CT:ag}{gs:List ag}{hp:bF}(l:gs.length=20)(h:∀(i:Nat) (g:ag),gs[i]? =some g->∃k fd ps,k<=10/\nO P w K mg base oE k g fd ps (acD K CS CF CC CT i)/\bZ K (.ref g)=true/\Binds K fd ps []):MX P w K mg base CS CF CC CT gs:=⟨l,λ i g e=>let⟨k,fd,ps,hk,F,kp,b⟩:=h i g e;⟨fd,ps,F.mono hk,kp,b⟩⟩
set_option maxHeartbeats 0 in
theorem all_mk{P:aK}{w:bj}{K:ah}{h:bF}{mg:Str->Option ao}{fa CS CF CC CT CB CP CR C aBL aRS aWF aCA aHM aWL:ag}{RW VJ MZ JH Ph RX ad9 Pj M1 Ki Pk M3 M4 yS M5 RY aaE acK Pl Pn RZ aaF Po M6 YE Pp M7 M8 M9 G0 M_ R_ Na VL Nb Nc JI Nd Pq Sa Nf Pr VM yT AN yU yV xi yW yX yY De yZ xj AO vM AQ AR y4 y6 uu y8 Pt VN:ag}(X:K.In h)(G:h.Ns aR mg)(hfa:mg "answers"=some (.ref fa))
  (JJ:CI K "Cell" "Cell.__init__" EX CC Fb)
  (JK:CI K "Team" "Team.__init__" EY CT J8)
  (Er:CI K "Field" "Field.__init__" Cj CF CN)
  (Es:CI K "Piece" "Piece.__init__" Ck CP J5)
  (Et:CI K "Bound" "Bound.__init__" Co CB OR)
  (vN:CI K "Reader" "Reader.__init__" zX CR ["pieces","at"])
  (uh:CI K "Search" "Search.__init__" z6 CS J9)
  (Ng:WI K C)
  (vO:MI K CR "ahead" "Reader.ahead" ya)
  (tT:MI K CR "is_word" "Reader.is_word" wV)
  (xk:MI K CR "take" "Reader.take" zY)
  (r9:MI K CR "take_word" "Reader.take_word" ui)
  (r_:MI K CR "take_stop" "Reader.take_stop" uj)
  (sV:MI K CR "take_end" "Reader.take_end" vq)
  (sf:MI K CR "take_name" "Reader.take_name" uk)
  (rq:MI K CR "take_number" "Reader.take_number" sI)
  (tU:MI K CS "is_cell" "Search.is_cell" wX)
  (uv:MI K CS "tables" "Search.tables" tY)
  (xl:MI K CS "left" "Search.left" z7)
  (uw:MI K CS "is_row" "Search.is_row" uI)
  (vP:MI K CS "begin" "Search.begin" sJ)
  (ux:MI K CS "forget" "Search.forget" wW)
  (sW:MI K CS "has_room" "Search.has_room" sL)
  (qV:MI K CS "has_room_for" "Search.has_room_for" sM)
  (vQ:MI K CS "times" "Search.times" uJ)
  (xm:MI K CB "spare" "Bound.spare" wt)
  (Df:FI K "fraction" EU RW)
  (FA:FI K "run_end" L6 VJ)
  (y9:FI K "word_piece" x9 MZ)
  (vR:FI K "number_piece" x_ JH)
  (AS:FI K "piece_end" EZ Ph)
  (Dg:FI K "piece_at" HM RX)
  (YF:FI K "cut" ab1 ad9)
  (AU:FI K "read_cell" Be Pj)
  (y_:FI K "read_cells" Cm M1)
  (xn:FI K "read_member" zZ Ki)
  (AV:FI K "read_team" E1 Pk)
  (za:FI K "read_teams" yc M3)
  (zb:FI K "read_field" Cn M4)
  (uX:FI K "call_where" yg yS)
  (zc:FI K "mass_table" Cd M5)
  (Dh:FI K "mass_sum" DB RY)
  (Nh:FI K "found" Qq aaE)
  (Sb:FI K "line" WS acK)
  (AW:FI K "cell_line" E2 Pl)
  (AX:FI K "team_line" Bf Pn)
  (Di:FI K "to_bytes" DC RZ)
  (Ni:FI K "shown" Qr aaF)
  (AY:FI K "next_adds" EV Po)
  (zd:FI K "order_adds" Ce M6)
  (JL:FI K "row_of" L5 YE)
  (AZ:FI K "best_cell" EW Pp)
  (zf:FI K "best_cells" Cf M7)
  (zg:FI K "best_curve" Cg M8)
  (zh:FI K "best_price" Ci M9)
  (uz:FI K "expected_time" wU G0)
  (zi:FI K "best_order" xZ M_)
  (zj:FI K "together" Bd R_)
  (zk:FI K "cell_gains" ye Na)
  (FC:FI K "choices" DE VL)
  (zo:FI K "most_gains" vw Nb)
  (zp:FI K "thrift_row" yf Nc)
  (vS:FI K "team_choices" uK JI)
  (zq:FI K "efforts_of" yd Nd)
  (A0:FI K "bounds_of" Bg Pq)
  (Dj:FI K "can_make" DD Sa)
  (zr:FI K "free_cells" vt Nf)
  (A2:FI K "teams_row" Bh Pr)
  (FD:FI K "refused" HP VM)
  (uY:FI K "call_would" Cr yT)
  (wL:FI K "call_best" E6 AN)
  (uZ:FI K "call_curve" Cs yU)
  (u1:FI K "call_price" Ct yV)
  (t_:FI K "call_thrift" z8 xi)
  (u4:FI K "call_order" Cu yW)
  (u5:FI K "call_takes" yj yX)
  (u6:FI K "call_teams" Cv yY)
  (zt:FI K "call_can" HQ De)
  (u7:FI K "call_shown" Cq yZ)
  (ua:FI K "call_counts" z9 xj)
  (wM:FI K "call_left" Bi AO)
  (sX:FI K "call_chances" yi vM)
  (wN:FI K "call_vain" E3 AQ)
  (wO:FI K "call_back" E5 AR)
  (u9:FI K "call_clear" Cy y4)
  (u_:FI K "call_cells" Cw y6)
  (rV:FI K "call_evidence" rM uu)
  (va:FI K "call_field" Cp y8)
  (A3:FI K "answer_of" E7 Pt)
  (BB:FI K "answers" HR VN)
  (vT:II K "LONGEST_WORD" 8)
  (vU:II K "FIRST_LETTER" 97)
  (tV:II K "LONGEST_NUMBER" 4)
  (xo:II K "FIRST_DIGIT" 48)
  (xq:II K "LAST_LETTER" 122)
  (zu:II K "LAST_DIGIT" 57)
  (A4:II K "SEMICOLON" 59)
  (A5:II K "MISPLACED" 1)
  (vV:II K "OUT_OF_RANGE" 4)
  (zw:II K "MOST_CELLS" 16)
  (vW:II K "TOLD_OR_FULL" 3)
  (xr:II K "MOST_WEIGHT" 1000)
  (A6:II K "MOST_TIME" 20)
  (FE:II K "NO_CELL" 2)
  (rJ:II K "MOST_TEAM_EFFORTS" 12)
  (sg:II K "TOO_MANY_EFFORTS" 5)
  (zx:II K "MOST_TEAMS" 6)
  (qE:II K "MOST_EFFORTS_TOGETHER" 24)
  (xt:II K "LEAST_PARTS" 2)
  (zy:II K "MOST_PARTS" 100)
  (zA:II K "MOST_BYTES" 1500)
  (xu:II K "NOT_AS_TOLD" (-1))
  (zB:II K "TEXT_WRONG" 1)
  (Sd:II K "DONE" 0)
  (vX:II K "MOST_EFFORTS" 20)
  (xw:II K "COMMON_TIME" 232792560)
  (Dk:II K "TOO_MANY" (-3))
  (vY:II K "NOTHING_LEFT" (-6))
  (A7:II K "MOST_BEST" 60)
  (zD:II K "MOST_PRICE" 59)
  (xx:II K "MOST_THRIFT" 100)
  (uA:II K "MOST_IN_ORDER" 60)
  (zE:II K "MOST_TIMES" 1000)
  (sY:II K "GREATEST_WEIGHT" 1000000000000)
  (Dl:II K "NO_FIELD" (-20))
  (YG:SI K "BAD" "bad")
  (Se:SI K "WORD" "word")
  (FF:SI K "LETTERS" "abcdefghijklmnopqrstuvwxyz")
  (JM:SI K "NUMBER" "number")
  (Sf:SI K "STOP" "stop")
  (YH:SI K "END" "end")
  (JN:TI K "BLANKS" aBL [.int 32,.int 10])
  (Dm:TI K "RESERVED" aRS Xc)
  (sZ:TI K "WITHOUT_A_FIELD" aWF (nV [0,1,19]))
  (Nj:TI K "CALLS" aCA ([y8,yS,yZ,AQ,AR,uu,vM,AO,yT,AN,yU,yV,xi,yW,yX,yY,De,y6,xj,y4].map V.ref))
  (si:TI K "HOW_MANY_NUMBERS" aHM (nV MV))
  (xy:TI K "WITH_A_LIST" aWL (nV PN))
  (A8:bt K aR "Exception"=some none)
  (YI:bt K aR "all"=some none)
  (A9:bt K aR "enumerate"=some none)
  (YJ:bt K aR "len"=some none)
  (Sg:bt K aR "list"=some none)
  (YK:bt K aR "max"=some none)
  (YL:bt K aR "ord"=some none)
  (Nk:bt K aR "range"=some none)
  (JO:bt K aR "sorted"=some none)
  (YM:bt K aR "str"=some none)
  (YN:bt K aR "sum"=some none)
  (YO:bt K aR "zip"=some none)
  (aaG:CS≠CF)
  (YQ:CS≠CC)
  (aaH:CS≠CT)
  :∃fd:bP,(∀(s:au) (us:List ao),us.length=(["calls"]:List Str).length->jL s fd ⟨us,[]⟩ ((["calls"]:List Str).zip us))/\∀base:bF,K.In base->base.Ns aR mg->nO P w K mg base oE 12 fa fd ["calls"] (Fy K):=by
 have e:=hfa.symm.trans (dt X G BB.1)
 cases e
 obtain⟨_,fdA,F_A⟩:=BB
 refine⟨fdA,?_,λ base _ _=>?_⟩
 ·obtain⟨oc,od,kV,doc,pm,an,oU,ct,Ku,rfl,lk,PF⟩:=F_A.ex
  exact λ s us hu=>match us,hu with |[_],_=>.of_eq rfl
 have Pu:=ck X G A8
 have Eu:=ck X G YI
 have sr:=ck X G A9
 have qe:=ck X G YJ
 have Sh:=ck X G Sg
 have Pw:=ck X G YK
 have ad_:=ck X G YL
 have zF:=ck X G Nk
 have YR:=ck X G JO
 have YS:=ck X G YM
 have Ew:=ck X G YN
 have BV:=ck X G YO
 have JP:=vT.g X G
 have vZ:=vU.g X G
 have FG:=tV.g X G
 have xA:=xo.g X G
 have BW:=xq.g X G
 have Ey:=zu.g X G
 have Px:=A4.g X G
 have Py:=A5.g X G
 have JQ:=vV.g X G
 have yk:=zw.g X G
 have pB:=vW.g X G
 have w6:=xr.g X G
 have Ac:=A6.g X G
 have Fc:=FE.g X G
 have rH:=rJ.g X G
 have rY:=sg.g X G
 have yn:=zx.g X G
 have qB:=qE.g X G
 have w8:=xt.g X G
 have yr:=zy.g X G
 have uL:=zA.g X G
 have nF:=xu.g X G
 have uM:=zB.g X G
 have nB:=Sd.g X G
 have nv:=vX.g X G
 have xb:=xw.g X G
 have pk:=Dk.g X G
 have nU:=vY.g X G
 have qF:=A7.g X G
 have uR:=zD.g X G
 have t8:=xx.g X G
 have rT:=uA.g X G
 have uV:=zE.g X G
 have qY:=sY.g X G
 have Dc:=Dl.g X G
 have YT:=YG.g X G
 have Si:=Se.g X G
 have VO:=FF.g X G
 have Pz:=JM.g X G
 have Ik:=Sf.g X G
 have aa9:=YH.g X G
 have YU:=JN.g X G
 have Sj:=Dm.g X G
 have q_:=sZ.g X G
 have Ep:=Nj.g X G
 have qP:=si.g X G
 have t9:=xy.g X G
 have ow:Rec P w K mg base "Cell" CC Fb:=JJ.rc X G (λ f fd F=>QG F JJ.cl JJ.na) (λ f fd F=>b5 F)
 have qm:Rec P w K mg base "Team" CT J8:=JK.rc X G (λ f fd F=>QI F JK.cl JK.na) (λ f fd F=>b3 F)
 have nG:Rec P w K mg base "Field" CF CN:=Er.rc X G (λ f fd F=>Og F Er.cl Er.na) (λ f fd F=>b4 F)
 have Ez:Rec P w K mg base "Piece" CP J5:=Es.rc X G (λ f fd F=>NX F Es.cl Es.na) (λ f fd F=>b4 F)
 have qN:Rec P w K mg base "Bound" CB OR:=Et.rc X G (λ f fd F=>OT F Et.cl Et.na) (λ f fd F=>b3 F)
 have W:tZ P w K mg base C:=Ng.ok X G Pu
 have T:vA P w K mg base CR CP:=⟨vN.cl,vN.na _ (by simp),vN.na _ (by simp),Ez⟩
 have S:pY K CS:=⟨uh.cl,uh.na _ (by simp),uh.na _ (by simp),uh.na _ (by simp)⟩
 have ou:=Df.hs P w base X G (λ _ F=>Qs F ) (λ _ F=>b2 F)
 have VP:=FA.hs P w base X G (λ _ F=>WU F qe) (λ _ F=>b4 F)
 have Nl:=y9.hs P w base X G (λ _ F=>NZ F Ez JP YT Si VO vZ) (λ _ F=>b3 F)
 have JR:=vR.hs P w base X G (λ _ F=>J6 F Ez FG xA YT Pz) (λ _ F=>b3 F)
 have PB:=AS.hs P w base X G (λ _ F=>Qw F VP vZ BW xA Ey Pw) (λ _ F=>b2 F)
 have Sk:=Dg.hs P w base X G (λ _ F=>UD F Ez Nl JR vZ BW xA Ey Px Ik YT) (λ _ F=>b3 F)
 have Xm:=YF.hs P w base X G (λ _ F=>adG F Ez PB Sk YU aa9 qe) (λ _ F=>b1 F)
 have rQ:Hz1 P w K mg base CR CP:=vO.aaC (λ f fd F=>ZR F T.cl T.n1 T.n2) (λ f fd F=>b1 F)
 have vd:=tT.hs P w base mg (λ _ _ F=>WZ F T rQ Si) (λ _ _ F=>b2 F)
 have JS:=xk.hs P w base mg (λ _ _ F=>ab5 F T W rQ Py) (λ _ _ F=>b2 F)
 have pT:=r9.hs P w base mg (λ _ _ F=>Qy F T JS vd) (λ _ _ F=>b2 F)
 have rn:=r_.hs P w base mg (λ _ _ F=>QA F T JS rQ Ik) (λ _ _ F=>b1 F)
 have CO:=sV.hs P w base mg (λ _ _ F=>UH F T JS rQ aa9) (λ _ _ F=>b1 F)
 have uc:=sf.hs P w base mg (λ _ _ F=>QB F T JS rQ Si Sj) (λ _ _ F=>b1 F)
 have pQ:=rq.hs P w base mg (λ _ _ F=>Mb F T W JS rQ Pz JQ) (λ _ _ F=>b3 F)
 have M:RdM P w K mg base CR CP C:=⟨rQ,vd,pT,rn,uc,pQ,CO⟩
 have RM:Xq P w K mg base CR CP:=by
  obtain⟨f,fd,Mk0,F⟩:=vN.mi
  exact⟨dt X G vN.ns,f,fd,Mk0,Mf F T Xm,b2 F⟩
 have wy:=AU.hs P w base X G (λ _ F=>QC F T W M ow qe yk pB w6 Ac) (λ _ F=>b3 F)
 have yp:=y_.hs P w base X G (λ _ F=>Ob F T M wy) (λ _ F=>b2 F)
 have t6:=xn.hs P w base X G (λ _ F=>Md F T W M Fc pB) (λ _ F=>b3 F)
 have Ah:=AV.hs P w base X G (λ _ F=>QE F T W M qm t6 rH rY Ik) (λ _ F=>b3 F)
 have yq:=za.hs P w base X G (λ _ F=>Od F T W M ow qm Ah sr qe Ew yn pB qB) (λ _ F=>b2 F)
 have qJ:=zb.hs P w base X G (λ _ F=>Oi F T RM M nG yp yq w8 yr) (λ _ F=>b1 F)
 have uW:=uX.hs P w base X G (λ _ F=>F1 F W qJ qe Eu uL nF uM nB) (λ _ F=>b3 F)
 have yz:=zc.hs P w base X G (λ _ F=>Ol F qe nv) (λ _ F=>b3 F)
 have oX:=Dh.hs P w base X G (λ _ F=>UL F BV Ew) (λ _ F=>b2 F)
 have vD:rA P w K mg base oE 1 "together" ["had","row"] uf:=zj.has X G (λ fd F=>Gb F BV) (λ fd F=>b2 F)
 have PD:rA P w K mg base oE 1 "together" ["had","row"] yt:=zj.has X G (λ fd F=>Vc (Gb F BV)) (λ fd F=>b2 F)
 have qr:=Nh.hs P w base X G (λ _ F=>aab F oX PD ou) (λ _ F=>b3 F)
 have pF:=tU.hs P w base mg (λ _ _ F=>Xw F S qe) (λ _ _ F=>b2 F)
 have nQ:VX P w K mg base CS CF CC CT:=uv.aaC (λ f fd F=>Xx F S nG ow BV yz) (λ f fd F=>b1 F)
 have qO:=xl.hs P w base mg (λ _ _ F=>acb F S nQ oX) (λ _ _ F=>b1 F)
 have qR:=uw.hs P w base mg (λ _ _ F=>aac F S qe Eu nv) (λ _ _ F=>b2 F)
 have Hq:um P w K mg base oE 1 CS "begin" ["self","field"] (He CS CF CC CT):=vP.aaC (λ f fd F=>aad F S nG ow YQ) (λ f fd F=>b2 F)
 have yC:=Sb.hs P w base X G (λ _ F=>ace F ) (λ _ F=>b1 F)
 have Aq:=AW.hs P w base X G (λ _ F=>QV F ow yC YS) (λ _ F=>b1 F)
 have Ar:=AX.hs P w base X G (λ _ F=>QW F ow qm yC YS) (λ _ F=>b2 F)
 have rZ:=Di.hs P w base X G (λ _ F=>UU F ad_) (λ _ F=>b1 F)
 have Hm:=Ni.hs P w base X G (λ _ F=>aaf F nG yC YS Aq Ar rZ) (λ _ F=>b1 F)
 have pH:=AY.hs P w base X G (λ _ F=>QZ F ) (λ _ F=>b2 F)
 have pZ:=zd.hs P w base X G (λ _ F=>Ou F Sh pH) (λ _ F=>b3 F)
 have ug:=JL.hs P w base X G (λ _ F=>aah F zF) (λ _ F=>b2 F)
 have rp:=AZ.hs P w base X G (λ _ F=>Q_ F nv pH) (λ _ F=>b3 F)
 have pR:=zf.hs P w base X G (λ _ F=>Ox F Sh zF qe rp) (λ _ F=>b3 F)
 have uQ:=zg.hs P w base X G (λ _ F=>Oy F oX ou pZ pR) (λ _ F=>b3 F)
 have uS:=zh.hs P w base X G (λ _ F=>Oz F oX pZ pR ou) (λ _ F=>b3 F)
 have pI:=uz.hs P w base X G (λ _ F=>IU F oX BV pZ ou) (λ _ F=>b4 F)
 have uU:=zi.hs P w base X G (λ _ F=>OC F sr zF pH xb YR) (λ _ F=>b4 F)
 have En:=ux.hs P w base mg (λ _ _ F=>IY F S) (λ _ _ F=>b1 F)
 have pX:=sW.hs P w base mg (λ _ _ F=>GZ F S Eu vD nv) (λ _ _ F=>b2 F)
 have oO:=qV.hs P w base mg (λ _ _ F=>C0 F S Ew nv qe) (λ _ _ F=>b2 F)
 have rS:aar P w K mg base CS CF CC CT:=vQ.aaC (λ f fd F=>Kb F S nG ow) (λ f fd F=>b1 F)
 have yK:=zk.hs P w base X G (λ _ F=>OF F zF nv) (λ _ F=>b2 F)
 have vf:=FC.hs P w base X G (λ _ F=>Vd F sr) (λ _ F=>b4 F)
 have yL:=zo.hs P w base X G (λ _ F=>OH F zF qe Pw vf) (λ _ F=>b3 F)
 have uT:=zp.hs P w base X G (λ _ F=>OJ F BV yK yL sr vf Pw) (λ _ F=>b4 F)
 have Bu:=xm.hs P w base mg (λ _ _ F=>MF F qN Ew) (λ _ _ F=>b2 F)
 have vL:=vS.hs P w base X G (λ _ F=>Ke F ) (λ _ F=>b1 F)
 have qj:=zq.hs P w base X G (λ _ F=>OU F qm Ew) (λ _ F=>b1 F)
 have qG:=A0.hs P w base X G (λ _ F=>Ro F qm vL zF qN qj) (λ _ F=>b2 F)
 have yR:=Dj.hs P w base X G (λ _ F=>Vi F qN.cl Eu Bu) (λ _ F=>b2 F)
 have uP:=zr.hs P w base X G (λ _ F=>OW F qN Bu zF qe) (λ _ F=>b2 F)
 have wJ:=A2.hs P w base X G (λ _ F=>Rp F Sh rp uP pH) (λ _ F=>b3 F)
 have oy:=FD.hs P w base X G (λ _ F=>Vm F S nF pk qO nU) (λ _ F=>b3 F)
 have aaI:=uY.hs P w base X G (λ _ F=>Gu F S oy qR pX nB qr nQ) (λ _ F=>b3 F)
 have aa_:=wL.hs P w base X G (λ _ F=>Js F S oy qF oO nQ ug pR qe nB qr) (λ _ F=>b3 F)
 have aaJ:=uZ.hs P w base X G (λ _ F=>Gy F S oy qF oO nB uQ nQ) (λ _ F=>b3 F)
 have aaK:=u1.hs P w base X G (λ _ F=>GA F S oy uR oO nB uS nQ) (λ _ F=>b3 F)
 have Zc:=t_.hs P w base X G (λ _ F=>Ej F S t8 nF qO nU nQ uT rS nB qr) (λ _ F=>b3 F)
 have aaL:=u4.hs P w base X G (λ _ F=>GC F S oy qR pX nQ rS uU nB qe pI) (λ _ F=>b3 F)
 have aaM:=u5.hs P w base X G (λ _ F=>GF F S qe rT Eu pF oy pX ug nB pI nQ rS) (λ _ F=>b3 F)
 have aaN:=u6.hs P w base X G (λ _ F=>GH F S nG qO nU nQ wJ qG qe nB qr) (λ _ F=>b3 F)
 have acL:rA P w K mg base oE 4 "call_can" tp (BF CS CF CC CT 0 aat):=zt.has X G (λ fd F=>Lq F S nG qR nF nB yR qG qe) (λ fd F=>b3 F)
 have aaO:=u7.hs P w base X G (λ _ F=>GJ F S nB Hm) (λ _ F=>b3 F)
 have Zd:rA P w K mg base oE 2 "call_counts" tp (BF CS CF CC CT 0 MM):=ua.has X G (λ fd F=>El F S nG nB qe qj Ew) (λ fd F=>b3 F)
 have aba:=wM.hs P w base X G (λ _ F=>Jy F S Ew nQ nU nB ou qO) (λ _ F=>b3 F)
 have YV:=sX.hs P w base X G (λ _ F=>BU F S qO nU nB BV nQ ou) (λ _ F=>b3 F)
 have abb:rA P w K mg base oE 2 "call_vain" tp (Yl CS CF CC CT 2 TV):=wN.has X G (λ fd F=>JB F S pF nv nF pk nB) (λ fd F=>b3 F)
 have abc:rA P w K mg base oE 2 "call_back" tp (Yl CS CF CC CT 2 TX):=wO.has X G (λ fd F=>JD F S pF nv nF pk nB) (λ fd F=>b3 F)
 have aaP:rA P w K mg base oE 2 "call_clear" tp (Hn CS CF CC CT):=u9.has X G (λ fd F=>GL F S En nB) (λ fd F=>b3 F)
 have aaQ:rA P w K mg base oE 2 "call_cells" tp (BF CS CF CC CT 0 MP):=u_.has X G (λ fd F=>GP F S nG ow nB qe BV rZ) (λ fd F=>b3 F)
 have V9:rA P w K mg base oE 2 "call_evidence" ["search","numbers","cells"] (Yl CS CF CC CT 2 By):=rV.has X G (λ fd F=>AL F S Eu uV nF pF sr Pw qY pk nB) (λ fd F=>b3 F)
 have T9:rA P w K mg base oE 8 "read_field" ["text"] (T5 K C CF CC CT):=qJ.noX
 have aaR:=va.hs P w base X G (λ _ F=>GR F S aaG YQ aaH nG uW nB Hq T9 qe) (λ _ F=>b3 F)
 have hC:MX P w K mg base CS CF CC CT [y8,yS,yZ,AQ,AR,uu,vM,AO,yT,AN,yU,yV,xi,yW,yX,yY,De,y6,xj,y4]:=by
  refine YD (hp:=h) rfl λ i g e=>?_
  match i,e with
  |0,e=>obtain⟨_,fd,F⟩:=va;cases e;exact⟨10,fd,["search","numbers","text"],by decide,GR F S aaG YQ aaH nG uW nB Hq T9 qe,F.kp,b3 F⟩
  |1,e=>obtain⟨_,fd,F⟩:=uX;cases e;exact⟨9,fd,["search","numbers","text"],by decide,F1 F W qJ qe Eu uL nF uM nB,F.kp,b3 F⟩
  |2,e=>obtain⟨_,fd,F⟩:=u7;cases e;exact⟨4,fd,tp,by decide,GJ F S nB Hm,F.kp,b3 F⟩
  |3,e=>obtain⟨_,fd,F⟩:=wN;cases e;exact⟨2,fd,tp,by decide,JB F S pF nv nF pk nB,F.kp,b3 F⟩
  |4,e=>obtain⟨_,fd,F⟩:=wO;cases e;exact⟨2,fd,tp,by decide,JD F S pF nv nF pk nB,F.kp,b3 F⟩
  |5,e=>obtain⟨_,fd,F⟩:=rV;cases e;exact⟨2,fd,["search","numbers","cells"],by decide,AL F S Eu uV nF pF sr Pw qY pk nB,F.kp,b3 F⟩
  |6,e=>obtain⟨_,fd,F⟩:=sX;cases e;exact⟨4,fd,tp,by decide,BU F S qO nU nB BV nQ ou,F.kp,b3 F⟩
  |7,e=>obtain⟨_,fd,F⟩:=wM;cases e;exact⟨4,fd,tp,by decide,Jy F S Ew nQ nU nB ou qO,F.kp,b3 F⟩
  |8,e=>obtain⟨_,fd,F⟩:=uY;cases e;exact⟨5,fd,tp,by decide,Gu F S oy qR pX nB qr nQ,F.kp,b3 F⟩
  |9,e=>obtain⟨_,fd,F⟩:=wL;cases e;exact⟨5,fd,tp,by decide,Js F S oy qF oO nQ ug pR qe nB qr,F.kp,b3 F⟩
  |10,e=>obtain⟨_,fd,F⟩:=uZ;cases e;exact⟨5,fd,tp,by decide,Gy F S oy qF oO nB uQ nQ,F.kp,b3 F⟩
  |11,e=>obtain⟨_,fd,F⟩:=u1;cases e;exact⟨5,fd,tp,by decide,GA F S oy uR oO nB uS nQ,F.kp,b3 F⟩
  |12,e=>obtain⟨_,fd,F⟩:=t_;cases e;exact⟨4,fd,tp,by decide,Ej F S t8 nF qO nU nQ uT rS nB qr,F.kp,b3 F⟩
  |13,e=>obtain⟨_,fd,F⟩:=u4;cases e;exact⟨5,fd,tp,by decide,GC F S oy qR pX nQ rS uU nB qe pI,F.kp,b3 F⟩
  |14,e=>obtain⟨_,fd,F⟩:=u5;cases e;exact⟨5,fd,["search","numbers","order"],by decide,GF F S qe rT Eu pF oy pX ug nB pI nQ rS,F.kp,b3 F⟩
  |15,e=>obtain⟨_,fd,F⟩:=u6;cases e;exact⟨4,fd,tp,by decide,GH F S nG qO nU nQ wJ qG qe nB qr,F.kp,b3 F⟩
  |16,e=>obtain⟨_,fd,F⟩:=zt;cases e;exact⟨4,fd,tp,by decide,Lq F S nG qR nF nB yR qG qe,F.kp,b3 F⟩
  |17,e=>obtain⟨_,fd,F⟩:=u_;cases e;exact⟨2,fd,tp,by decide,GP F S nG ow nB qe BV rZ,F.kp,b3 F⟩
  |18,e=>obtain⟨_,fd,F⟩:=ua;cases e;exact⟨2,fd,tp,by decide,El F S nG nB qe qj Ew,F.kp,b3 F⟩
  |19,e=>obtain⟨_,fd,F⟩:=u9;cases e;exact⟨2,fd,tp,by decide,GL F S En nB,F.kp,b3 F⟩
  |i+20,e=>cases e
 have AM:rA P w K mg base oE 11 "answer_of" ["search","call","numbers","row"] (ad5 CS CF CC CT):=A3.has X G (λ fd F=>nO.frame (RU F S hC q_ Dc Ep)) (λ fd F=>b4 F)
 obtain⟨fI,fdI,MS,FS⟩:=uh.mi
 exact VH F_A S MS (Mw FS S) (b1 FS) (dt X G uh.ns) qe qP t9 AM
end
end n_
set_option genInjectivity false in
structure PySem.W.Fast where
 (tw3574367336630943001 tw17360335025795334040 tw9071277991024406671 tw5345812110774396997 tw3016441328287209399 tw6804120477771456761 tw16820479192933785041 tw10151669778600080566 tw2125190891726641271 tw10095792157482969493 tw947400886743924568 tw92122655805005063 tw4315409988108465143 tw4184555187312127807 tw3555645027508204574 tw6278026310231864510 tw8733837725613532962 tw16036992851542405021 tw2291412068230750523 tw15633270141276427547 tw9281451316325735411 tw17827731064352046974 tw16584663265609887087 tw8892152194510147048 tw2111587645652936333 tw12231074161303402971 tw30995954666544058 tw3106094406855672592 tw2055905268712376570 tw15052939228989357710 tw17264744939182154944 tw8520723351647674476 tw1516501441807416232 tw15192274516761052527 tw11177005783006302697 tw3116709201979283652 tw13020375341585857514 tw382740734887708228 tw3787364796902770919 tw11747440920351797241 tw6361745914972096261 tw9918346099762948047 tw508581124239019466 tw2409376933566616169 tw15871301894060070809 tw15526502949507630813 tw16081898722403996027 tw15705455450530111312 tw1510389408137007200 tw17891067728447928819 tw14970723081948145773 tw9627890275502800645 tw12449151306633698519 tw7947383591353568210 tw15788210731896704965 tw17522520900494804212 tw10877791140121524709 tw3999570192393289927 tw5857534308972182670 tw13955607890293993157 tw5055210859133519665 tw13656515440144752192 tw14517600486253796354 tw2267664651747626971 tw2677379621795694007 tw9045468522292793832 tw5607639864357092649 tw4947811338692826819 tw8352115195464927559 tw8656347336999019293 tw16842967091703057291 tw17067751367519290897 tw5183190224055084387 tw11206999625062843390 tw16961018010653890746 tw8594980986795023750 tw7205333880916893950 tw2358700509779646665 tw16153619379385358723 tw16920171369549188087 tw12146994193042123026 tw3247025287337826649 tw13382922848328289317 tw3334566741414157962 tw17926811447446975837 tw13224229487706041566 tw6674374042936728898 tw11545899610143031021 tw7436302533864481447 tw5736457084510356172 tw12496049437917836370 tw1928389472048942774 tw13519284360866965310 tw13410275696378526701 tw16060441940936207640 tw9217598067850426146 tw17048021774321393593 tw18230264643942666477 tw10849169488539500053 tw16118280098963754236 tw5202558700616779771 tw15593067658265350887 tw14424796998806324859 tw12357179740810404490 tw11118333167028227589 tw10426882947951264376 tw10353008187090614027 tw1390553750406964819 tw10034702945131947973 tw15322671829636727038 tw10442013356074820008 tw1241426405821655692 tw7115499770458992809 tw6757879803713093745 tw2919122982129124579 tw2592474115557792378 tw17995218015648304973 tw15883263984368401815 tw16050617108008643366 tw17096234318064883557 tw9982458047494279278 tw15704024722439717997 tw8264042329678349736 tw10076146578016606520 tw8179496730450279087 tw4566125014673790166 tw12784506653714598298 tw5847360435599697818 tw4101345705704971025 tw10266156302863626254 tw1645890085786477357 tw7596341404860616146 tw14129714172210255682 tw11053819872192880252 tw5572976448183803797 tw13298613941447032502 tw15793218124912959864 tw1251697004602114216 tw15970508498304598457 tw2682491744843721945 tw8700148734988409844 tw13241172802942206945 tw1645565282234021703 tw3344607884564039392 tw6017217344800983406 tw14798823226620530548 tw6981575571903620957 tw2531037463960677537 tw2430085727627951273 tw6924461665254977784 tw16551796850394296592 tw6861103515589566874 tw16863562980708485669 tw12504953228428054214 tw5892347116400462406 tw14771258408384129487 tw4059815996727198414 tw3327098371953155146 tw4576329069390109353 tw10289352618972437875 tw5422369264527253148 tw17973240104873784150 tw10180093644772231793 tw17491726592445431631 tw13089572833234368455 tw12159554534349601716 tw7943785593947147024 tw1113624505567162141 tw3538753078075092988 tw14017365164485380741 tw9325419564509170451 tw10171135816057384540 tw4159033959569771902 tw9116199073848040366 tw1919726386140733802 tw2417079060036080957 tw6777603107719611907 tw2942998868530565508 tw979264654922185982 tw16931936539261983469 tw12898293782076014804 tw17691640892026749300 tw8798950023190337346 tw8329738138669453885 tw442660875414661340 tw8082871943751568998 tw15187955282389236085 tw17180334725599971863 tw13800067983785312391 tw13783314980143746897 tw10761107294385419526 tw13498782432045235811 tw2266212948132940425 tw4961945241983289283 tw4452949562112030309 tw13160328421583128232 tw2937921761710421740 tw4947529396690918183 tw4152587962601151837 tw151641347412633135 tw16890354787379920934 tw64615147846681169 tw10845518590027969333 tw16556832368972345714 tw1653092125112567488 tw6109629253055155585 tw14297775518051018134 tw5600167655873114520 tw15249702052656236431 tw2124145496686548465 tw10091693698502703042 tw9950195030223504135 tw16895535814532617536 tw6885303353420152006 tw16198229683538329945 tw348141939133546495 tw11666802075384466525 tw11128467241784563051 tw11139996739464667902 tw13099951183488714693 tw1520055199159958875 tw8729549336731774639 tw9793675620412190231 tw13096620578676872024 tw8389140763691746209 tw17706977006654793358 tw20715617346848172 tw17087685195136726461 tw8819083696040510888 tw9893494120049013480 tw12279654082521284881 tw18384488406389177598 tw4752380479961065185 tw17452585958826248984 tw7329863037903023602 tw1534622179991257883 tw7046618350720518667 tw10574986989843445664 tw5979884175044084780 tw9852664184355291667 tw7679289575717634875 tw7911132855628827357 tw7241186898841037789 tw12006232644364321789 tw1707396012894600332 tw7376394181116957833 tw8436607895512837969 tw8063090465214933719 tw10951715675072161433 tw16814285350988091761 tw5803391281215998024 tw7240616718545400453 tw16545892416886540689 tw7424333995883958672 tw7522747116411171522 tw14997174458194676209 tw7655217532491663209 tw13205293107067550897 tw14370982632259999368 tw14423298950910256266 tw10409283314461307476 tw15150488673092581420 tw10806858198759423086 tw17117194053096309467 tw17300919746475378211 tw16534607699162945457 tw128054985951280312 tw15986711570427672573 tw1276143405591010838 tw315319943192769389 tw13499948329296277231 tw17530885592479148869 tw7530922622458058095 tw14099644645278276055 tw4230090628976934535 :Nat)
open PySem PySem.W PyProof.Rows
set_option maxRecDepth 100000 in
set_option maxHeartbeats 0 in
theorem PySem.Challenge.cw_searchefforts_s01_answers_holds : PySem.Challenge.rw_searchefforts_s01_answers.Holds := by
 w_on;k_headS;(case hw=>exact⟨[.list [.int 2]],by decide +kernel,by decide +kernel⟩)
 k_fillS
 refine L2.Qo (r:=PySem.Challenge.rw_searchefforts_s01_answers) (k:=12) (CX:=L2.oE) (ps:=["calls"]) (sp:=n_.Fy) (by decide +kernel) rfl rfl ⟨rfl,by decide,by decide⟩ (λ w h Y=>PySem.W.kIn_of Y) ?F ?S (λ _ _ _ _ z=>z)
 case F=>
  intro w mg fa h Y KX G hmg
  refine' n_.all_mk KX G hmg ?JJ ?JK ?Er ?Es ?Et ?vN ?uh ?Ng ?vO ?tT ?xk ?r9 ?r_ ?sV ?sf ?rq ?tU ?uv ?xl ?uw ?vP ?ux ?sW ?qV ?vQ ?xm ?Df ?FA ?y9 ?vR ?AS ?Dg ?YF ?AU ?y_ ?xn ?AV ?za ?zb ?uX ?zc ?Dh ?Nh ?Sb ?AW ?AX ?Di ?Ni ?AY ?zd ?JL ?AZ ?zf ?zg ?zh ?uz ?zi ?zj ?zk ?FC ?zo ?zp ?vS ?zq ?A0 ?Dj ?zr ?A2 ?FD ?uY ?wL ?uZ ?u1 ?t_ ?u4 ?u5 ?u6 ?zt ?u7 ?ua ?wM ?sX ?wN ?wO ?u9 ?u_ ?rV ?va ?A3 ?BB ?vT ?vU ?tV ?xo ?xq ?zu ?A4 ?A5 ?vV ?zw ?vW ?xr ?A6 ?FE ?rJ ?sg ?zx ?qE ?xt ?zy ?zA ?xu ?zB ?Sd ?vX ?xw ?Dk ?vY ?A7 ?zD ?xx ?uA ?zE ?sY ?Dl ?YG ?Se ?FF ?JM ?Sf ?YH ?JN ?Dm ?sZ ?Nj ?si ?xy ?A8 ?YI ?A9 ?YJ ?Sg ?YK ?YL ?Nk ?JO ?YM ?YN ?YO ?aaG ?YQ ?aaH
  (case JJ=>refine' n_.JG ?n ?pg ?hd ?po ?sa ?mk ?kc ?a ?i ?l ?c ?k (n_.p6 ?x0 (n_.p6 ?x1 (n_.p6 ?x2 (n_.p6 ?x3 (n_.Dd)))));(case n=>k_is);(case pg=>k_is);(case hd=>k_is);(case po=>k_is);(case sa=>k_is);(case mk=>k_is);(case kc=>k_is);(case a=>k_is);(case i=>k_is);(case l=>k_is);(case c=>k_is);(case k=>k_is);(case x0=>k_is);(case x1=>k_is);(case x2=>k_is);(case x3=>k_is))
  (case JK=>refine' n_.JG ?n ?pg ?hd ?po ?sa ?mk ?kc ?a ?i ?l ?c ?k (n_.p6 ?x0 (n_.p6 ?x1 (n_.Dd)));(case n=>k_is);(case pg=>k_is);(case hd=>k_is);(case po=>k_is);(case sa=>k_is);(case mk=>k_is);(case kc=>k_is);(case a=>k_is);(case i=>k_is);(case l=>k_is);(case c=>k_is);(case k=>k_is);(case x0=>k_is);(case x1=>k_is))
  (case Er=>refine' n_.JG ?n ?pg ?hd ?po ?sa ?mk ?kc ?a ?i ?l ?c ?k (n_.p6 ?x0 (n_.p6 ?x1 (n_.p6 ?x2 (n_.Dd))));(case n=>k_is);(case pg=>k_is);(case hd=>k_is);(case po=>k_is);(case sa=>k_is);(case mk=>k_is);(case kc=>k_is);(case a=>k_is);(case i=>k_is);(case l=>k_is);(case c=>k_is);(case k=>k_is);(case x0=>k_is);(case x1=>k_is);(case x2=>k_is))
  (case Es=>refine' n_.JG ?n ?pg ?hd ?po ?sa ?mk ?kc ?a ?i ?l ?c ?k (n_.p6 ?x0 (n_.p6 ?x1 (n_.p6 ?x2 (n_.Dd))));(case n=>k_is);(case pg=>k_is);(case hd=>k_is);(case po=>k_is);(case sa=>k_is);(case mk=>k_is);(case kc=>k_is);(case a=>k_is);(case i=>k_is);(case l=>k_is);(case c=>k_is);(case k=>k_is);(case x0=>k_is);(case x1=>k_is);(case x2=>k_is))
  (case Et=>refine' n_.JG ?n ?pg ?hd ?po ?sa ?mk ?kc ?a ?i ?l ?c ?k (n_.p6 ?x0 (n_.p6 ?x1 (n_.Dd)));(case n=>k_is);(case pg=>k_is);(case hd=>k_is);(case po=>k_is);(case sa=>k_is);(case mk=>k_is);(case kc=>k_is);(case a=>k_is);(case i=>k_is);(case l=>k_is);(case c=>k_is);(case k=>k_is);(case x0=>k_is);(case x1=>k_is))
  (case vN=>refine' n_.JG ?n ?pg ?hd ?po ?sa ?mk ?kc ?a ?i ?l ?c ?k (n_.p6 ?x0 (n_.p6 ?x1 (n_.Dd)));(case n=>k_is);(case pg=>k_is);(case hd=>k_is);(case po=>k_is);(case sa=>k_is);(case mk=>k_is);(case kc=>k_is);(case a=>k_is);(case i=>k_is);(case l=>k_is);(case c=>k_is);(case k=>k_is);(case x0=>k_is);(case x1=>k_is))
  (case uh=>refine' n_.JG ?n ?pg ?hd ?po ?sa ?mk ?kc ?a ?i ?l ?c ?k (n_.p6 ?x0 (n_.p6 ?x1 (n_.p6 ?x2 (n_.Dd))));(case n=>k_is);(case pg=>k_is);(case hd=>k_is);(case po=>k_is);(case sa=>k_is);(case mk=>k_is);(case kc=>k_is);(case a=>k_is);(case i=>k_is);(case l=>k_is);(case c=>k_is);(case k=>k_is);(case x0=>k_is);(case x1=>k_is);(case x2=>k_is))
  (case Ng=>refine' n_.ad8 ?ns ?c ?m ?hd ?sa ?ga ?ty ?ng ?n1 ?n2 ?lC ?lN ?hN ?hi ?l ?cI ?kp ?d ?k;(case ns=>k_is);(case c=>k_is);(case m=>rfl);(case hd=>rfl);(case sa=>k_is);(case ga=>k_is);(case ty=>k_is);(case ng=>k_is);(case n1=>k_is);(case n2=>k_is);(case lC=>k_is);(case lN=>k_is);(case hN=>rfl);(case hi=>k_is);(case l=>k_is);(case cI=>rfl);(case kp=>k_is);(case d=>k_is);(case k=>k_is))
  (case vO=>refine' n_.tE ?a ?i ?l ?c ?k;(case a=>k_is);(case i=>k_is);(case l=>k_is);(case c=>k_is);(case k=>k_is))
  (case tT=>refine' n_.tE ?a ?i ?l ?c ?k;(case a=>k_is);(case i=>k_is);(case l=>k_is);(case c=>k_is);(case k=>k_is))
  (case xk=>refine' n_.tE ?a ?i ?l ?c ?k;(case a=>k_is);(case i=>k_is);(case l=>k_is);(case c=>k_is);(case k=>k_is))
  (case r9=>refine' n_.tE ?a ?i ?l ?c ?k;(case a=>k_is);(case i=>k_is);(case l=>k_is);(case c=>k_is);(case k=>k_is))
  (case r_=>refine' n_.tE ?a ?i ?l ?c ?k;(case a=>k_is);(case i=>k_is);(case l=>k_is);(case c=>k_is);(case k=>k_is))
  (case sV=>refine' n_.tE ?a ?i ?l ?c ?k;(case a=>k_is);(case i=>k_is);(case l=>k_is);(case c=>k_is);(case k=>k_is))
  (case sf=>refine' n_.tE ?a ?i ?l ?c ?k;(case a=>k_is);(case i=>k_is);(case l=>k_is);(case c=>k_is);(case k=>k_is))
  (case rq=>refine' n_.tE ?a ?i ?l ?c ?k;(case a=>k_is);(case i=>k_is);(case l=>k_is);(case c=>k_is);(case k=>k_is))
  (case tU=>refine' n_.tE ?a ?i ?l ?c ?k;(case a=>k_is);(case i=>k_is);(case l=>k_is);(case c=>k_is);(case k=>k_is))
  (case uv=>refine' n_.tE ?a ?i ?l ?c ?k;(case a=>k_is);(case i=>k_is);(case l=>k_is);(case c=>k_is);(case k=>k_is))
  (case xl=>refine' n_.tE ?a ?i ?l ?c ?k;(case a=>k_is);(case i=>k_is);(case l=>k_is);(case c=>k_is);(case k=>k_is))
  (case uw=>refine' n_.tE ?a ?i ?l ?c ?k;(case a=>k_is);(case i=>k_is);(case l=>k_is);(case c=>k_is);(case k=>k_is))
  (case vP=>refine' n_.tE ?a ?i ?l ?c ?k;(case a=>k_is);(case i=>k_is);(case l=>k_is);(case c=>k_is);(case k=>k_is))
  (case ux=>refine' n_.tE ?a ?i ?l ?c ?k;(case a=>k_is);(case i=>k_is);(case l=>k_is);(case c=>k_is);(case k=>k_is))
  (case sW=>refine' n_.tE ?a ?i ?l ?c ?k;(case a=>k_is);(case i=>k_is);(case l=>k_is);(case c=>k_is);(case k=>k_is))
  (case qV=>refine' n_.tE ?a ?i ?l ?c ?k;(case a=>k_is);(case i=>k_is);(case l=>k_is);(case c=>k_is);(case k=>k_is))
  (case vQ=>refine' n_.tE ?a ?i ?l ?c ?k;(case a=>k_is);(case i=>k_is);(case l=>k_is);(case c=>k_is);(case k=>k_is))
  (case xm=>refine' n_.tE ?a ?i ?l ?c ?k;(case a=>k_is);(case i=>k_is);(case l=>k_is);(case c=>k_is);(case k=>k_is))
  (case Df=>refine' n_.oj ?a ?l ?c ?k;(case a=>k_is);(case l=>k_is);(case c=>k_is);(case k=>k_is))
  (case FA=>refine' n_.oj ?a ?l ?c ?k;(case a=>k_is);(case l=>k_is);(case c=>k_is);(case k=>k_is))
  (case y9=>refine' n_.oj ?a ?l ?c ?k;(case a=>k_is);(case l=>k_is);(case c=>k_is);(case k=>k_is))
  (case vR=>refine' n_.oj ?a ?l ?c ?k;(case a=>k_is);(case l=>k_is);(case c=>k_is);(case k=>k_is))
  (case AS=>refine' n_.oj ?a ?l ?c ?k;(case a=>k_is);(case l=>k_is);(case c=>k_is);(case k=>k_is))
  (case Dg=>refine' n_.oj ?a ?l ?c ?k;(case a=>k_is);(case l=>k_is);(case c=>k_is);(case k=>k_is))
  (case YF=>refine' n_.oj ?a ?l ?c ?k;(case a=>k_is);(case l=>k_is);(case c=>k_is);(case k=>k_is))
  (case AU=>refine' n_.oj ?a ?l ?c ?k;(case a=>k_is);(case l=>k_is);(case c=>k_is);(case k=>k_is))
  (case y_=>refine' n_.oj ?a ?l ?c ?k;(case a=>k_is);(case l=>k_is);(case c=>k_is);(case k=>k_is))
  (case xn=>refine' n_.oj ?a ?l ?c ?k;(case a=>k_is);(case l=>k_is);(case c=>k_is);(case k=>k_is))
  (case AV=>refine' n_.oj ?a ?l ?c ?k;(case a=>k_is);(case l=>k_is);(case c=>k_is);(case k=>k_is))
  (case za=>refine' n_.oj ?a ?l ?c ?k;(case a=>k_is);(case l=>k_is);(case c=>k_is);(case k=>k_is))
  (case zb=>refine' n_.oj ?a ?l ?c ?k;(case a=>k_is);(case l=>k_is);(case c=>k_is);(case k=>k_is))
  (case uX=>refine' n_.oj ?a ?l ?c ?k;(case a=>k_is);(case l=>k_is);(case c=>k_is);(case k=>k_is))
  (case zc=>refine' n_.oj ?a ?l ?c ?k;(case a=>k_is);(case l=>k_is);(case c=>k_is);(case k=>k_is))
  (case Dh=>refine' n_.oj ?a ?l ?c ?k;(case a=>k_is);(case l=>k_is);(case c=>k_is);(case k=>k_is))
  (case Nh=>refine' n_.oj ?a ?l ?c ?k;(case a=>k_is);(case l=>k_is);(case c=>k_is);(case k=>k_is))
  (case Sb=>refine' n_.oj ?a ?l ?c ?k;(case a=>k_is);(case l=>k_is);(case c=>k_is);(case k=>k_is))
  (case AW=>refine' n_.oj ?a ?l ?c ?k;(case a=>k_is);(case l=>k_is);(case c=>k_is);(case k=>k_is))
  (case AX=>refine' n_.oj ?a ?l ?c ?k;(case a=>k_is);(case l=>k_is);(case c=>k_is);(case k=>k_is))
  (case Di=>refine' n_.oj ?a ?l ?c ?k;(case a=>k_is);(case l=>k_is);(case c=>k_is);(case k=>k_is))
  (case Ni=>refine' n_.oj ?a ?l ?c ?k;(case a=>k_is);(case l=>k_is);(case c=>k_is);(case k=>k_is))
  (case AY=>refine' n_.oj ?a ?l ?c ?k;(case a=>k_is);(case l=>k_is);(case c=>k_is);(case k=>k_is))
  (case zd=>refine' n_.oj ?a ?l ?c ?k;(case a=>k_is);(case l=>k_is);(case c=>k_is);(case k=>k_is))
  (case JL=>refine' n_.oj ?a ?l ?c ?k;(case a=>k_is);(case l=>k_is);(case c=>k_is);(case k=>k_is))
  (case AZ=>refine' n_.oj ?a ?l ?c ?k;(case a=>k_is);(case l=>k_is);(case c=>k_is);(case k=>k_is))
  (case zf=>refine' n_.oj ?a ?l ?c ?k;(case a=>k_is);(case l=>k_is);(case c=>k_is);(case k=>k_is))
  (case zg=>refine' n_.oj ?a ?l ?c ?k;(case a=>k_is);(case l=>k_is);(case c=>k_is);(case k=>k_is))
  (case zh=>refine' n_.oj ?a ?l ?c ?k;(case a=>k_is);(case l=>k_is);(case c=>k_is);(case k=>k_is))
  (case uz=>refine' n_.oj ?a ?l ?c ?k;(case a=>k_is);(case l=>k_is);(case c=>k_is);(case k=>k_is))
  (case zi=>refine' n_.oj ?a ?l ?c ?k;(case a=>k_is);(case l=>k_is);(case c=>k_is);(case k=>k_is))
  (case zj=>refine' n_.oj ?a ?l ?c ?k;(case a=>k_is);(case l=>k_is);(case c=>k_is);(case k=>k_is))
  (case zk=>refine' n_.oj ?a ?l ?c ?k;(case a=>k_is);(case l=>k_is);(case c=>k_is);(case k=>k_is))
  (case FC=>refine' n_.oj ?a ?l ?c ?k;(case a=>k_is);(case l=>k_is);(case c=>k_is);(case k=>k_is))
  (case zo=>refine' n_.oj ?a ?l ?c ?k;(case a=>k_is);(case l=>k_is);(case c=>k_is);(case k=>k_is))
  (case zp=>refine' n_.oj ?a ?l ?c ?k;(case a=>k_is);(case l=>k_is);(case c=>k_is);(case k=>k_is))
  (case vS=>refine' n_.oj ?a ?l ?c ?k;(case a=>k_is);(case l=>k_is);(case c=>k_is);(case k=>k_is))
  (case zq=>refine' n_.oj ?a ?l ?c ?k;(case a=>k_is);(case l=>k_is);(case c=>k_is);(case k=>k_is))
  (case A0=>refine' n_.oj ?a ?l ?c ?k;(case a=>k_is);(case l=>k_is);(case c=>k_is);(case k=>k_is))
  (case Dj=>refine' n_.oj ?a ?l ?c ?k;(case a=>k_is);(case l=>k_is);(case c=>k_is);(case k=>k_is))
  (case zr=>refine' n_.oj ?a ?l ?c ?k;(case a=>k_is);(case l=>k_is);(case c=>k_is);(case k=>k_is))
  (case A2=>refine' n_.oj ?a ?l ?c ?k;(case a=>k_is);(case l=>k_is);(case c=>k_is);(case k=>k_is))
  (case FD=>refine' n_.oj ?a ?l ?c ?k;(case a=>k_is);(case l=>k_is);(case c=>k_is);(case k=>k_is))
  (case uY=>refine' n_.oj ?a ?l ?c ?k;(case a=>k_is);(case l=>k_is);(case c=>k_is);(case k=>k_is))
  (case wL=>refine' n_.oj ?a ?l ?c ?k;(case a=>k_is);(case l=>k_is);(case c=>k_is);(case k=>k_is))
  (case uZ=>refine' n_.oj ?a ?l ?c ?k;(case a=>k_is);(case l=>k_is);(case c=>k_is);(case k=>k_is))
  (case u1=>refine' n_.oj ?a ?l ?c ?k;(case a=>k_is);(case l=>k_is);(case c=>k_is);(case k=>k_is))
  (case t_=>refine' n_.oj ?a ?l ?c ?k;(case a=>k_is);(case l=>k_is);(case c=>k_is);(case k=>k_is))
  (case u4=>refine' n_.oj ?a ?l ?c ?k;(case a=>k_is);(case l=>k_is);(case c=>k_is);(case k=>k_is))
  (case u5=>refine' n_.oj ?a ?l ?c ?k;(case a=>k_is);(case l=>k_is);(case c=>k_is);(case k=>k_is))
  (case u6=>refine' n_.oj ?a ?l ?c ?k;(case a=>k_is);(case l=>k_is);(case c=>k_is);(case k=>k_is))
  (case zt=>refine' n_.oj ?a ?l ?c ?k;(case a=>k_is);(case l=>k_is);(case c=>k_is);(case k=>k_is))
  (case u7=>refine' n_.oj ?a ?l ?c ?k;(case a=>k_is);(case l=>k_is);(case c=>k_is);(case k=>k_is))
  (case ua=>refine' n_.oj ?a ?l ?c ?k;(case a=>k_is);(case l=>k_is);(case c=>k_is);(case k=>k_is))
  (case wM=>refine' n_.oj ?a ?l ?c ?k;(case a=>k_is);(case l=>k_is);(case c=>k_is);(case k=>k_is))
  (case sX=>refine' n_.oj ?a ?l ?c ?k;(case a=>k_is);(case l=>k_is);(case c=>k_is);(case k=>k_is))
  (case wN=>refine' n_.oj ?a ?l ?c ?k;(case a=>k_is);(case l=>k_is);(case c=>k_is);(case k=>k_is))
  (case wO=>refine' n_.oj ?a ?l ?c ?k;(case a=>k_is);(case l=>k_is);(case c=>k_is);(case k=>k_is))
  (case u9=>refine' n_.oj ?a ?l ?c ?k;(case a=>k_is);(case l=>k_is);(case c=>k_is);(case k=>k_is))
  (case u_=>refine' n_.oj ?a ?l ?c ?k;(case a=>k_is);(case l=>k_is);(case c=>k_is);(case k=>k_is))
  (case rV=>refine' n_.oj ?a ?l ?c ?k;(case a=>k_is);(case l=>k_is);(case c=>k_is);(case k=>k_is))
  (case va=>refine' n_.oj ?a ?l ?c ?k;(case a=>k_is);(case l=>k_is);(case c=>k_is);(case k=>k_is))
  (case A3=>refine' n_.oj ?a ?l ?c ?k;(case a=>k_is);(case l=>k_is);(case c=>k_is);(case k=>k_is))
  (case BB=>refine' n_.oj ?a ?l ?c ?k;(case a=>k_is);(case l=>k_is);(case c=>k_is);(case k=>k_is))
  (case vT=>refine' n_.pW ?a;(case a=>k_is))
  (case vU=>refine' n_.pW ?a;(case a=>k_is))
  (case tV=>refine' n_.pW ?a;(case a=>k_is))
  (case xo=>refine' n_.pW ?a;(case a=>k_is))
  (case xq=>refine' n_.pW ?a;(case a=>k_is))
  (case zu=>refine' n_.pW ?a;(case a=>k_is))
  (case A4=>refine' n_.pW ?a;(case a=>k_is))
  (case A5=>refine' n_.pW ?a;(case a=>k_is))
  (case vV=>refine' n_.pW ?a;(case a=>k_is))
  (case zw=>refine' n_.pW ?a;(case a=>k_is))
  (case vW=>refine' n_.pW ?a;(case a=>k_is))
  (case xr=>refine' n_.pW ?a;(case a=>k_is))
  (case A6=>refine' n_.pW ?a;(case a=>k_is))
  (case FE=>refine' n_.pW ?a;(case a=>k_is))
  (case rJ=>refine' n_.pW ?a;(case a=>k_is))
  (case sg=>refine' n_.pW ?a;(case a=>k_is))
  (case zx=>refine' n_.pW ?a;(case a=>k_is))
  (case qE=>refine' n_.pW ?a;(case a=>k_is))
  (case xt=>refine' n_.pW ?a;(case a=>k_is))
  (case zy=>refine' n_.pW ?a;(case a=>k_is))
  (case zA=>refine' n_.pW ?a;(case a=>k_is))
  (case xu=>refine' n_.pW ?a;(case a=>k_is))
  (case zB=>refine' n_.pW ?a;(case a=>k_is))
  (case Sd=>refine' n_.pW ?a;(case a=>k_is))
  (case vX=>refine' n_.pW ?a;(case a=>k_is))
  (case xw=>refine' n_.pW ?a;(case a=>k_is))
  (case Dk=>refine' n_.pW ?a;(case a=>k_is))
  (case vY=>refine' n_.pW ?a;(case a=>k_is))
  (case A7=>refine' n_.pW ?a;(case a=>k_is))
  (case zD=>refine' n_.pW ?a;(case a=>k_is))
  (case xx=>refine' n_.pW ?a;(case a=>k_is))
  (case uA=>refine' n_.pW ?a;(case a=>k_is))
  (case zE=>refine' n_.pW ?a;(case a=>k_is))
  (case sY=>refine' n_.pW ?a;(case a=>k_is))
  (case Dl=>refine' n_.pW ?a;(case a=>k_is))
  (case YG=>refine' n_.Lw ?a;(case a=>k_is))
  (case Se=>refine' n_.Lw ?a;(case a=>k_is))
  (case FF=>refine' n_.Lw ?a;(case a=>k_is))
  (case JM=>refine' n_.Lw ?a;(case a=>k_is))
  (case Sf=>refine' n_.Lw ?a;(case a=>k_is))
  (case YH=>refine' n_.Lw ?a;(case a=>k_is))
  (case JN=>refine' n_.Fz ?a ?l ?z ?v;(case a=>k_is);(case l=>k_is);(case z=>rfl);(case v=>decide +kernel))
  (case Dm=>refine' n_.Fz ?a ?l ?z ?v;(case a=>k_is);(case l=>k_is);(case z=>rfl);(case v=>decide +kernel))
  (case sZ=>refine' n_.Fz ?a ?l ?z ?v;(case a=>k_is);(case l=>k_is);(case z=>rfl);(case v=>decide +kernel))
  (case Nj=>refine' n_.Fz ?a ?l ?z ?v;(case a=>k_is);(case l=>k_is);(case z=>rfl);(case v=>decide +kernel))
  (case si=>refine' n_.Fz ?a ?l ?z ?v;(case a=>k_is);(case l=>k_is);(case z=>rfl);(case v=>decide +kernel))
  (case xy=>refine' n_.Fz ?a ?l ?z ?v;(case a=>k_is);(case l=>k_is);(case z=>rfl);(case v=>decide +kernel))
  (case A8=>k_is)
  (case YI=>k_is)
  (case A9=>k_is)
  (case YJ=>k_is)
  (case Sg=>k_is)
  (case YK=>k_is)
  (case YL=>k_is)
  (case Nk=>k_is)
  (case JO=>k_is)
  (case YM=>k_is)
  (case YN=>k_is)
  (case YO=>k_is)
  (case aaG=>decide)
  (case YQ=>decide)
  (case aaH=>decide)
 case S=>
  intro K H xs a hO hwi acE hx
  cases hx with
  |cons h1 h2=>
   cases h2
   cases h1 with
   |lst hs ha=>
    have e:=L2.SU a.1 _ ha
    subst e
    exact⟨_,a.1,rfl,hs,acE,λ H' p hp=>.lst (L2.nA.of hp) (L2.SS _)⟩
