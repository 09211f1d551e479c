import PyProof.Rows.All
import Wide.All
import OpenK.AllK
import Wide.FinOn
import PyProof.EqAt
import PyProof.EqKinds
import PyProof.TupleCall
import KE.BitLaws
import Open.SpecLaws
import KE.OsHead
import KE.OsGo
import PyProof.ExcInit
import PyProof.ExcBaseAll.Exception
import PyProof.RulesAs
import PyProof.NsDelKeeps
import KE.LcSums
import PySem.Challenge.RW_searchefforts_s01_answers
import PyProof.MaxThree
import PyProof.ListRange
import PyProof.Rows.SeqMore
import KE.KSortTupG
import PyProof.ZipIter
import PyVbmrac
set_option Elab.async false
set_option linter.all false
set_option maxRecDepth 100000
set_option maxHeartbeats 4000000
open PySem.W renaming Frag->ah,nsIn->bt,findIn->bx,keepIn->bY,mg_none_of->cg,fnOf->cz,emptyDict->cM,instObj->dm,mg_of->dt,callWith_K->dJ,codeIn->dW,lookIn->eS,plainGet->e_,typeIn->fN,hasDictIn->f9,isFn->gC,methodCall_KW->gJ,plainGet_of->g_,looks_clsIn->hJ,Looks->ia,plainOver->iB,methodObj->iC,takerIn->iV,makesIn->iW,length_le_weightAllW->iX,clsIn->jl,cellsFrom_some->jw,callWith_K0->jM,handedIn->ke,WRecords->kg,WalkOS->kK,InstAt->kL
open List renaming length_map->aa,getElem?_eq_getElem->af,getElem?_map->ak,length_append->aw,range->az,getD_eq_getElem?_getD->aB,mem_of_getElem?->aC,length_cons->aD,map_append->aF,map_cons->aG,getElem?_eq_none->aI,size_toArray->aK,getElem?_zipWith->aP,mem_cons_of_mem->aQ,length_range->aR,map_map->aW,getElem?_range->bf,getElem?_append_right->bg,getElem?_append_left->bp,append_assoc->bB,append_nil->bD,ext_getElem?->bO,map_congr_left->bP,getElem?_zipIdx->bQ,mem_cons_self->bT,length_take->bW,take_succ->bZ,foldl_cons->ck,getElem_mem->cp,take_of_length_le->cq,getElem_of_mem->cw,mem_append_right->cy,replicate->cG,all_map->cH,not_mem_nil->cJ,getElem?_set_self->cO,mem_map_of_mem->c9,length_zipWith->c_,mem_cons->dh,take_length->dj,contains_iff_mem->dk,lookup->dv,filterMap_cons->dG,lookup_cons->dH,any_eq_true->dI,length_zipIdx->dP,countP_eq_length_filter->dS,getElem?_set->dY,flatten_cons->dZ,zipIdx_cons->d8,drop_eq_getElem_cons->d9,flatMap_append->ee,any_cons->eF,range_succ->eI,length_zip->eJ,find?_cons->eK,count_cons->eM,nodup_nil->eV,map_nil->eW,flatMap_cons->eX,drop_drop->eY,length_replicate->fo,filter_cons->ft,drop_length->fv,countP_cons->fz,all_eq_true->fA,getElem?_set_ne->fH,length_set->fK,map_set->fT,mem_or_eq_of_mem_set->gm,getElem?_zip_eq_some->gn,foldl_append->gu,all_cons->gA,map_flatMap->gF,length_drop->gG,getElem?_replicate->gH,zipWith_map_right->gO,drop_eq_nil_of_le->gP,of_mem_zip->gT,nodup_cons->gU,nil_append->gW,mem_zipIdx->gX,takeWhile_prefix->g0,filterMap_append->g8,mem_append_left->ic,map_id->ie,length->ig,forIn_nil->ij,filter_sublist->iz,take_nil->iD,sum_cons->iE,pairwise_map->iS,any_eq_false->iT,map_zipWith->jb,cons_append->jc,forIn_cons->jh,countP_map->ji,mem_of_find?_eq_some->jC,not_any_eq_all_not->jL,zipWith->jO,pairwise_lt_range->jP,any_map->jQ,countP_le_length->j5,mem_of_mem_take->j_,map->ka,findIdx?_isSome->kb,toList_toArray->ko,flatten_append->kq,getElem?_drop->kG,find?_eq_none->kH,contains_cons->kI,nodup_append->kW,nodup_range->k7,map_snd_zip->k8,getElem_map->k9,getElem_inj->k_,flatMap_map->lg,flatMap_def->lh,zipIdx_nil->lD,mem_append->lE,map_take->lX,map_drop->lY
open Nat renaming le_refl->ax,zero_le->aE,le_trans->aT,lt_of_lt_of_le->aU,lt_of_le_of_lt->bH,ne_of_lt->bL,pos_of_ne_zero->b_,le_add_right->cB,lt_succ_self->cK,zero_add->cW,lt_irrefl->cX,mul_le_mul_right->c6,mul_le_mul_left->dg,pow_le_pow_right->dw,add_le_add_left->eu,le_of_lt->ff,mul_assoc->fG,min_eq_left->fP,pow_succ->fY,ne_of_gt->fZ,mul_comm->f6,min_self->f7,mul_left_comm->gy,le_of_succ_le->gz,le_of_eq->gS,lt_trans->iZ,lt_succ_of_lt->i_,mul_lt_mul_of_pos_right->jv,lt_of_mul_lt_mul_right->jB,succ_mul->j3,gcd_comm->j4,le_succ->km,pow_le_pow_left->kF,sub_le->kU,lt_succ_of_le->kZ,gcd->k6,mul_le_mul->lW,succ_pos->mz,log2_lt->mI,mod_lt->mR
open Option renaming bind_some->dE,map_some->gK,none->iY,toList_some->j7,map->j8,isSome_some->j9,isSome_map->kl,getD_none->kE
open PySem.F renaming plainAttrs_list->aH,type_list_append->a_,slot_list_append->bc,type_list_extend->cS,slot_list_extend->cT,excBase_Exception->jf,slot_list_index->jt
open Bool renaming false_ne_true->a0,and_eq_true->bj,noConfusion->cf,eq_iff_iff->du,true_and->fF,not_eq_true->gI,or_eq_true->gY,false_and->ik,not_eq_true'->iU,false_eq_true->kJ,and_false->lK,or_false->lZ
open Vbmrac renaming Field->ae,Team->aL,total->aZ,cellAt->bz,more->bC,Cell->bF,inside->bI,step->bM,mustWord->bN,State->bR,nats->bV,bytesOf->bX,thriftTable->b8,Toks->cA,canSearch->cD,cellOf->cF,value->cU,read->cV,mass->cY,gain->c8,Call->de,tooMany->dr,decimal->dB,wordAhead->dC,isText->dD,ordered->dO,wouldFind->dQ,thriftRow->dR,nums->dU,none_->d7,WEIGHT->d_,teamsFrom->eG,less->eN,doing->eO,isCell->eR,slotFor->eZ,isLetter->fk,gains->fm,TIME->fq,membersAt->fL,isRow->fM,cellsAt->fQ,teamDeal->fU,isDigit->fV,greatest->fW,thrift->f_,adds->gg,thriftFrom->gB,efforts->gZ,timesOf->g9,line->il,chance->ip,augment->iq,expected->iA,written->iF,start->iG,CELLS->iH,tokens->iI,timeSum->jj,listed->jk,numAt->jD,canMake->jE,TEAMS->jF,qRow->jR,deal->jS,goesAhead->kr,nameAt->lj,slots->lF,putIn->lG,SLOTS->lH,semi->lL,left->lM,TEXT->lO,weighed->l_,Bad->ma,Q->mC,lowest->mJ
open PySem renaming Addr->ag,Value->ao,wpAny_bind->aq,Shared->au,sizeLine->ay,sizeLine_eq->aA,Program->aJ,wpAny_pure->aM,starEach->aN,mainGlobals->aO,model->aS,wpAny->aV,boot_len->aX,World->aY,Spec->bu,Heap->bw,Stmt->bA,mem_of_lookup->bG,Expr->bJ,FuncData->bK,Around->bU,eval->cu,cellsFrom->cE,wpAny_field->cN,wpAny_truthy_bool->cP,wpAny_mono->cQ,compareOp->cR,wpAny_Call_Name_kw->cZ,backTo->c7,NameKind->dF,rawInt->dM,attributeBase->dN,codeAny_mono->dX,wpAny_passesOwn->d6,sysModules->eg,compEnvC->eh,Scope->eQ,behindInMarks->eT,Within->eU,wpAny_setField_rec->fb,keywordEach->fj,wpAny_seqItems->fB,wpAny_pyIter_list->fC,callerA->fD,bootBuiltins->fE,plainObj_wpAny_Assign_Attribute->fJ,assignEach->fO,wpAny_holding->fR,codeAny->fS,sliceBounds->fX,wpAny_execs_nil->gh,holding->gp,pushCells->gx,binaryOp->gE,foldedSetIterable->gL,IsZip->gN,wpAny_standAt->gQ,Params->gR,wpAny_pyIter_zip->hU,swapsWith->hX,getMethod->hZ,backToKw->h_,wpAny_nextOf_list_item->ir,standAt->iu,pushCells_keeps->iw,letOwnedTupleGo->iy,wpAny_setField->iJ,codeAny_call_builtin->iK,bindArgs->iM,BindsTo->iQ,wpAny_onRaise->ja,wpAny_call->jd,tupleKind_room_in1->je,Builtin->jg,wpAny_newObj_type->jm,valueAt->jn,getItem->jo,callWith->jq,call->jr,Operator->js,wpAny_lookBehind->jx,tupleKind->jy,pastItsLine_dict->jz,PyData->jA,wpAny_letGo->jG,subscripted->jH,cLine->jI,Model->jJ,IsRangeIter->jK,notedBy->jN,wpAny_loadPart->jT,pyNext->jU,call_meets->jV,builtinsNs->jW,atKey->jX,assign->jY,wpAny_letOwnedTupleGo_zip->j6,wpAny_attempt->kh,wpAny_callSpecial?_slot->ku,setFlight->kx,bindL->ky,bindC->kz,CmpOp->kC,wpAny_pyNext_range_end->kM,wpAny_pyIter_rangeiter->kN,wpAny_nsSet1->kO,seqIndex_neg->kP,isTrue->kQ,getAttr->kR,Keyword->kS,wpAny_isTrue_Compare1->kX,wpAny_loadName_local->ll,seqIndex_of->lq,rule->lr,excClassObj->lu,wpAny_loadName_cell->lJ,wpAny_pyIter_range->lP,wpAny_Name->lQ,typeOf->lR,typeIs_str->lS,isInstance->lT,Result->lU,wpAny_pyIter_enum->md,wpAny_assign_Name->me,setItem->mf,setAttr->mh,wpAny_execs_cons->mj,wpAny_call_entry->mq,storeName->mr,noteFrame->mv,inplaceOp->mw,PassesOwn->mx,DictEntry->my,Tok->mD,recursionLimit->mK,pyIter->mL,nsFind->mM,newFunctionEnv->mO,compPost->mP,DefRec->mQ,rangeSize_one->mS,nums_intItems->mT,intBits_le_64->mU,comprehension->mV,call_list_seq->mW
open PyVbmrac renaming shape->cC,bound->dz,answers->dA,whole->eP,answers_asked->gw
open PyProof.Rows renaming callWith_type1->bS,kindOf->gj,arrOf->gk,AllBare->gq,callWith_builtin1->ib,envOfC->iN,boot_sum->iO,boot_all->iP,IntsAre->iR,lexLt->ju,boot_str->jZ,boot_range->j0,subscriptTail->ki,Constant_none->kj,boot_list->kD,subscriptTail_builtinR->kT,iadd_int->kY,boot_max->lx,Call_->ly,Subscript_->lV,sortedAll_old->mE,sortedAll_at->mF,join_tuple->mG,join_list->mH
namespace L2
open PySem PySem.Spec PyProof.Rows
abbrev Key:=Sum Int Str
def Kb:Key->ao->Bool
 | .inl k,v=>Value.isInt k v
 | .inr x,v=>Value.isStrOf x v
def aec(w:aY):Key->Int
 | .inl k=>hashInt k
 | .inr x=>hashStr w x
theorem qj:∀{k:Key} {v:ao},Kb k v=true->(∃i t,k=Sum.inl i/\v=Value.int i t)\/(∃x t,k=Sum.inr x/\v=Value.str x t)
 | .inl i,v,h=>by
  obtain⟨t,e⟩:=Value.isInt_shape (k:=i) (v:=v) h
  exact .inl ⟨i,t,rfl,e⟩
 | .inr x,v,h=>by
  obtain⟨t,e⟩:=Value.isStrOf_shape (x:=x) (v:=v) h
  exact .inr ⟨x,t,rfl,e⟩
theorem Uj(i:Int)(t:Tok):Kb (.inl i) (.int i t)=true:=by simp[Kb,Value.isInt]
theorem Uk(x:Str)(t:Tok):Kb (.inr x) (.str x t)=true:=by simp[Kb,Value.isStrOf]
theorem abg(a b:Int):decide ((Sum.inl a:Key)=Sum.inl b)=(a == b):=by
 by_cases e:a=b
 ·subst e;simp
 ·have h:¬ (Sum.inl a:Key)=Sum.inl b:=λ q=>e (Sum.inl.inj q)
  rw[decide_eq_false h]
  exact(beq_eq_false_iff_ne.mpr e).symm
theorem abh(a b:Str):decide ((Sum.inr a:Key)=Sum.inr b)=decide (a=b):=by
 by_cases e:a=b
 ·subst e;simp
 ·have h:¬ (Sum.inr a:Key)=Sum.inr b:=λ q=>e (Sum.inr.inj q)
  rw[decide_eq_false h,decide_eq_false e]
theorem abi(a:Int)(b:Str):decide ((Sum.inl a:Key)=Sum.inr b)=false:=decide_eq_false (λ q=>nomatch q)
theorem abj(a:Str)(b:Int):decide ((Sum.inr a:Key)=Sum.inl b)=false:=decide_eq_false (λ q=>nomatch q)
def q_(prog:aJ)(w:aY):PySem.KeyKind prog w Key where
 is:=Kb
 hash:=aec w
 inj:=λ v a b ha hb=>by
  rcases qj ha with⟨i,t,rfl,rfl⟩|⟨x,t,rfl,rfl⟩
  ·rcases qj hb with⟨j,u,rfl,e⟩|⟨y,u,rfl,e⟩
   ·injection e with e1 _;rw[e1]
   ·exact nomatch e
  ·rcases qj hb with⟨j,u,rfl,e⟩|⟨y,u,rfl,e⟩
   ·exact nomatch e
   ·injection e with e1 _;rw[e1]
 byValue:=λ k v h=>by
  rcases qj h with⟨i,t,rfl,rfl⟩|⟨x,t,rfl,rfl⟩ <;> rfl
 pyHash:=λ hv h=>by
  rcases qj hv with⟨i,t,rfl,rfl⟩|⟨x,t,rfl,rfl⟩
  ·exact wpAny_pyHash_int h
  ·exact wpAny_pyHash_str h
 eqBool:=λ hu hv h=>by
  rcases qj hu with⟨i,t,rfl,rfl⟩|⟨x,t,rfl,rfl⟩
  ·rcases qj hv with⟨j,u,rfl,rfl⟩|⟨y,u,rfl,rfl⟩
   ·rw[abg]at h;exact wpAny_eqBool_int h
   ·rw[abi]at h;exact SeqAt.EqAt.int_str i t y u _ _ _ _ h
  ·rcases qj hv with⟨j,u,rfl,rfl⟩|⟨y,u,rfl,rfl⟩
   ·rw[abj]at h;exact SeqAt.EqAt.str_int x t j u _ _ _ _ h
   ·rw[abh]at h;exact wpAny_eqBool_str h
 «strs» :=λ k x t v h=>by
  rcases qj h with⟨i,u,rfl,e⟩|⟨y,u,rfl,e⟩
  ·exact nomatch e
  ·injection e with e1 _
   subst e1
   cases v <;> rfl
theorem Nr(prog:aJ)(w:aY)(i:Int)(t:Tok):(q_ prog w).is (.inl i) (.int i t)=true:=Uj i t
theorem Nt(prog:aJ)(w:aY)(x:Str)(t:Tok):(q_ prog w).is (.inr x) (.str x t)=true:=Uk x t
end L2
namespace L2
open PySem PySem.Spec PyProof.Rows
inductive V where
 |qB|bl (b:Bool)|int (i:Int)|str (x:Str)|Lu (b:Array UInt8)|flt (b:UInt64)|ref (a:ag)|ty (n:String)
 deriving DecidableEq
def RelV:V->ao->Prop
 | .qB,u=>u=Value.none
 | .bl b,u=>u=Value.bool b
 | .int i,u=>∃t,u=Value.int i t
 | .str x,u=>∃t,u=Value.str x t
 | .Lu b,u=>∃t,u=Value.bytes b t
 | .flt b,u=>∃t,u=Value.float b t
 | .ref a,u=>u=Value.ref a
 | .ty n,u=>u=Value.type n
abbrev Vals:List V->List ao->Prop:=Paired RelV
theorem Vals.length{xs:List V}{us:List ao}(r:Vals xs us):xs.length=us.length:=Paired.length r
theorem Vals.get:∀{xs:List V} {us:List ao} {i:Nat} {x:V},Vals xs us->xs[i]? =some x->∃u,us[i]? =some u/\RelV x u
 |_,_,_,_,.nil,e=>by simp at e
 |_,_,0,_,.cons r _,e=>by simp at e;subst e;exact⟨_,rfl,r⟩
 |_,_,i+1,x,.cons _ t,e=>by
  obtain⟨u,h1,h2⟩:=Vals.get (i:=i) (x:=x) t (by simpa using e)
  exact⟨u,by simpa using h1,h2⟩
theorem Vals.set{x:V}{u:ao}(r:RelV x u):∀{xs:List V} {us:List ao} (i:Nat),Vals xs us->Vals (xs.set i x) (us.set i u)
 |_,_,_,.nil=>.nil
 |_,_,0,.cons _ t=>.cons r t
 |_,_,i+1,.cons q t=>.cons q (Vals.set r i t)
theorem Vals.append:∀{xs ys:List V} {us ws:List ao},Vals xs us->Vals ys ws->Vals (xs++ys) (us++ws)
 |_,_,_,_,.nil,s=>s
 |_,_,_,_,.cons r t,s=>.cons r (Vals.append t s)
theorem Vals.take:∀{xs:List V} {us:List ao} (n:Nat),Vals xs us->Vals (xs.take n) (us.take n)
 |_,_,0,_=>.nil
 |_,_,_+1,.nil=>.nil
 |_,_,n+1,.cons r t=>.cons r (Vals.take n t)
theorem Vals.drop:∀{xs:List V} {us:List ao} (n:Nat),Vals xs us->Vals (xs.drop n) (us.drop n)
 |_,_,0,r=>r
 |_,_,_+1,.nil=>.nil
 |_,_,n+1,.cons _ t=>Vals.drop n t
def wQ:Option V->Option ao->Prop
 |some v,some u=>RelV v u
 |none,none=>True
 |_,_=>False
def KV{κ:Type}:List (κ×V)->List (κ×ao)->Prop:=Paired λ(p:κ×V) (q:κ×ao)=>p.1=q.1/\RelV p.2 q.2
def kV:Key->V
 | .inl i=>.int i
 | .inr x=>.str x
inductive HO where
 |lst (xs:List V)
 |tup (xs:List V)
 |dK (oJ:List (Key×V))|dT (oJ:List (List Key×V))
 |set (S:Int->Bool) (n:Nat)
 |ins (C dx:ag) (fs:List (Str×V))
 |own (x:ag)
 |xd (fs:List (Str×V))
 |met (f x:ag)
 |rng (lo hi:Int)
 |JL (o:Obj) (u:HO)
 |tbl (ps:Array ao)
 |ext (φ:bw->Prop)
abbrev Hp:=ag->Option HO
def upd(H:Hp)(a:ag)(o:HO):Hp:=λ b=>if b=a then some o else H b
theorem m4{H:Hp}{a:ag}{o:HO}:upd H a o a=some o:=by unfold upd;rw[if_pos rfl]
theorem m5{H:Hp}{a b:ag}{o:HO}(h:b≠a):upd H a o b=H b:=by unfold upd;rw[if_neg h]
theorem acT{H:Hp}{a b:ag}{o u:HO}(h:H a=some o)(h':H b=some u)(d:o≠u):a≠b:=by
 intro e;subst e;rw[h]at h';exact d (Option.some.inj h')
theorem nH{H:Hp}{a b:ag}{o:HO}(h:H a=some o)(h':H b=none):a≠b:=by
 intro e;subst e;rw[h]at h';cases h'
section
variable(P:aJ)(w:aY)
def pQ(H:Hp)(h:bw)(a:ag):HO->Prop
 | .lst xs=>xs.length<=ay/\∃(oo:List ao) (n:Nat),Vals xs oo/\h.get? a=some { cls:=.type "list",data:=.seq oo.toArray n }
 | .tup xs=>xs.length<=ay/\∃oo:List ao,Vals xs oo/\IsTup h a oo.toArray
 | .dK oJ=>oJ.length<=ay/\(a == eg)=false/\∃vs,KV oJ vs/\h.DictOf (q_ P w) a vs
 | .dT oJ=>oJ.length<=ay/\(a == eg)=false/\∃xs:List (List Key×ag×ao),
   Paired (λ(p:List Key×V) (q:List Key×ag×ao)=>p.1=q.1/\H q.2.1=some (.tup (p.1.map kV))/\RelV p.2 q.2.2) oJ xs/\
   ∃o es ep,h.get? a=some o/\o.ExactDict/\o.data= .dict es ep/\es.toList=xs.map (entryOfKey (jy (q_ P w)))/\(xs.map (·.1)).Nodup
 | .set S n=>h.SetOf (intKind P w) a S n
 | .ins C dx fs=>H dx=some (.own a)/\fs.length<=1000/\dx≠a/\h.get? a=some (dm C dx)/\
   ∃mA,h.Ns1 dx mA/\(∀f,wQ (fs.lookup f) (mA f))/\eU mA (fs.map (·.1))
 | .own _=>∃o,h.get? a=some o
 | .xd fs=>∃mA,h.Ns1 a mA/\∀f,wQ (fs.lookup f) (mA f)
 | .rng lo hi=>∃t u v,h.get? a=some { cls:=.type "range",data:=.fields #[.int lo t,.int hi u,.int 1 v] }
 | .JL o u=>h.get? a=some o/\pQ H h a u
 | .tbl ps=>h.get? a=some { cls:=.none,data:=.fields ps }
 | .met f x=>h.get? a=some (iC (.ref f) (.ref x))
 | .ext φ=>φ h/\(∃o,h.get? a=some o)/\∀h1 h2:bw,φ h1->(∀o,h1.get? a=some o->h2.get? a=some o)->φ h2
def zE(H:Hp)(h:bw):Prop:=∀a o,H a=some o->pQ P w H h a o
end
section
variable{P:aJ}{w:aY}{H H':Hp}{h h':bw}{a:ag}{o:HO}
theorem pQ.lt(x:pQ P w H h a o):a<h.objs.size:=by
 cases o with
 |lst xs=>obtain⟨_,_,_,_,e⟩:=x;exact Heap.lt_size e
 |tup xs=>obtain⟨_,_,_,p⟩:=x;exact p.lt
 |dK oJ=>obtain⟨_,_,_,_,o,_,_,e,_⟩:=x;exact Heap.lt_size e
 |dT oJ=>obtain⟨_,_,_,_,o,_,_,e,_⟩:=x;exact Heap.lt_size e
 |set S n=>obtain⟨o,_,_,_,e,_⟩:=x;exact Heap.lt_size e
 |ins C dx fs=>obtain⟨_,_,_,e,_⟩:=x;exact Heap.lt_size e
 |own y=>obtain⟨_,e⟩:=x;exact Heap.lt_size e
 |xd fs=>obtain⟨_,⟨_,_,_,e,_⟩,_⟩:=x;exact Heap.lt_size e
 |rng lo hi=>obtain⟨_,_,_,e⟩:=x;exact Heap.lt_size e
 |JL ob u=>obtain⟨e,_⟩:=x;exact Heap.lt_size e
 |tbl ps=>exact Heap.lt_size (show h.get? a=some _ from x)
 |met f y=>exact Heap.lt_size (show h.get? a=some _ from x)
 |ext φ=>obtain⟨_,⟨_,e⟩,_⟩:=x;exact Heap.lt_size e
theorem Paired.abk{α β:Type}{F G:α->β->Prop}:∀{l₁:List α} {l₂:List β},Paired F l₁ l₂->(∀a b,F a b->G a b)->Paired G l₁ l₂
 |_,_,.nil,_=>.nil
 |_,_,.cons r t,f=>.cons (f _ _ r) (Paired.abk t f)
theorem pQ.Eh(x:pQ P w H h a o)(k:∀b u,(b=a\/H b=some (.own a))->h.get? b=some u->h'.get? b=some u)
  (ho:∀b,H b=some (.own a)->H' b=some (.own a))(ht:∀b xs,H b=some (.tup xs)->H' b=some (.tup xs)):pQ P w H' h' a o:=by
 induction o with
 |lst xs=>obtain⟨z,oo,n,r,e⟩:=x;exact⟨z,oo,n,r,k _ _ (.inl rfl) e⟩
 |tup xs=>obtain⟨z,oo,r,ob,e,c⟩:=x;exact⟨z,oo,r,ob,k _ _ (.inl rfl) e,c⟩
 |dK oJ=>obtain⟨z,y,vs,r,ob,es,ep,e,c⟩:=x;exact⟨z,y,vs,r,ob,es,ep,k _ _ (.inl rfl) e,c⟩
 |dT oJ=>
  obtain⟨z,y,xs,r,ob,es,ep,e,c⟩:=x
  exact⟨z,y,xs,Paired.abk r λ p q z=>⟨z.1,ht _ _ z.2.1,z.2.2⟩,ob,es,ep,k _ _ (.inl rfl) e,c⟩
 |set S n=>obtain⟨ob,es,ep,t,e,c⟩:=x;exact⟨ob,es,ep,t,k _ _ (.inl rfl) e,c⟩
 |ins C dx fs=>
  obtain⟨d,z,ne,e,mA,⟨od,es,ep,e2,c⟩,r⟩:=x
  exact⟨ho _ d,z,ne,k _ _ (.inl rfl) e,mA,⟨od,es,ep,k _ _ (.inr d) e2,c⟩,r⟩
 |own y=>obtain⟨ob,e⟩:=x;exact⟨ob,k _ _ (.inl rfl) e⟩
 |xd fs=>obtain⟨mA,⟨od,es,ep,e,c⟩,r⟩:=x;exact⟨mA,⟨od,es,ep,k _ _ (.inl rfl) e,c⟩,r⟩
 |rng lo hi=>obtain⟨t,u,v,e⟩:=x;exact⟨t,u,v,k _ _ (.inl rfl) e⟩
 |JL ob u ih=>obtain⟨e,q⟩:=x;exact⟨k _ _ (.inl rfl) e,ih q⟩
 |tbl ps=>
  have e:h.get? a=some { cls:=.none,data:=.fields ps }:=x
  show h'.get? a=some { cls:=.none,data:=.fields ps }
  exact k a _ (.inl rfl) e
 |met f y=>
  have e:h.get? a=some (iC (.ref f) (.ref y)):=x
  show h'.get? a=some (iC (.ref f) (.ref y))
  exact k a _ (.inl rfl) e
 |ext φ=>obtain⟨p,⟨o,e⟩,st⟩:=x;exact⟨st _ _ p λ o q=>k _ _ (.inl rfl) q,⟨o,k _ _ (.inl rfl) e⟩,st⟩
theorem zE.lt(x:zE P w H h)(e:H a=some o):a<h.objs.size:=(x a o e).lt
theorem zE.fresh(x:zE P w H h)(e:h.objs.size<=a):H a=none:=by
 cases q:H a with
 |none=>rfl
 |some u=>exact absurd (aU (x.lt q) e) (cX _)
theorem zE.kept(x:zE P w H h)(k:∀b u,h.get? b=some u->h'.get? b=some u):zE P w H h':=λ a o e=>
 (x a o e).Eh (λ b u _ q=>k b u q) (λ _ q=>q) λ _ _ q=>q
theorem zE.laid(x:zE P w H h)(k:∀b u,h.get? b=some u->h'.get? b=some u)(hp:h.objs.size<=a)(new:pQ P w (upd H a o) h' a o):zE P w (upd H a o) h':=λ b u e=>by
 have hn:=x.fresh hp
 by_cases hb:b=a
 ·subst hb;rw[m4]at e;cases e;exact new
 ·rw[m5 hb]at e
  exact(x b u e).Eh (λ c v _ q=>k c v q) (λ c q=>by rw[m5 (nH q hn)];exact q) λ c xs q=>by rw[m5 (nH q hn)];exact q
end
def Rd(H:Hp)(a:ag)(u:HO):Prop:=H a=some u\/∃o,H a=some (.JL o u)
theorem Rd.ok{P:aJ}{w:aY}{H:Hp}{h:bw}{a:ag}{u:HO}(r:Rd H a u)(x:zE P w H h):pQ P w H h a u:=by
 rcases r with r|⟨o,r⟩
 ·exact x a u r
 ·obtain⟨_,q⟩:=x a _ r
  exact q
def Mut:Option HO->Prop
 |some (.lst _)=>True
 |some (.dK _)=>True
 |some (.dT _)=>True
 |some (.set _ _)=>True
 |some (.ins _ _ _)=>True
 |some (.ext _)=>True
 |_=>False
section
variable{P:aJ}{w:aY}{H:Hp}{h h':bw}{x e:ag}{o':HO}
theorem zE.write(ok:zE P w H h)(mu:Mut (H x))(he:e=x\/H e=some (.own x))(k:∀b u,b≠e->h.get? b=some u->h'.get? b=some u)(heo:∃u,h'.get? e=some u)
  (new:pQ P w (upd H x o') h' x o'):zE P w (upd H x o') h':=λ b u q=>by
 have acU:∀c y,H c=some (.own y)->c≠x:=λ c y r z=>by subst z;rw[r]at mu;exact mu
 have aed:∀c xs,H c=some (.tup xs)->c≠x:=λ c xs r z=>by subst z;rw[r]at mu;exact mu
 by_cases hb:b=x
 ·subst hb;rw[m4]at q;cases q;exact new
 ·rw[m5 hb]at q
  by_cases Wi:b=e
  ·have q':H b=some (.own x):=by
    rcases he with z|z
    ·exact absurd (Wi.trans z) hb
    ·rw[Wi];exact z
   rw[q]at q';cases q'
   obtain⟨v,hv⟩:=heo
   exact⟨v,by rw[Wi];exact hv⟩
  ·refine(ok b u q).Eh (λ c v hc r=>k c v ?_ r) (λ c r=>by rw[m5 (acU c b r)];exact r) λ c xs r=>by rw[m5 (aed c xs r)];exact r
   rcases hc with rfl|hc
   ·exact Wi
   ·rintro rfl
    rcases he with z|z
    ·exact acU c b hc z
    ·rw[hc]at z;cases z;exact hb rfl
end
structure Un(fs ex:List ag)(H H':Hp)(h h':bw):Prop where
 keep:∀b o,h.get? b=some o->H b=none->b∉fs->b∉ex->h'.get? b=some o
 slot:∀b o,h.get? b=some o->H b=none->b∈fs->b∉ex->∃sl,h'.get? b=some { o with slots:=sl }
 free:∀b o,h.get? b=some o->H b=none->b∉ex->H' b=none
 there:∀b o,h.get? b=some o->b∉ex->∃o',h'.get? b=some o'
 JP:∀b xs,H b=some (.tup xs)->H' b=some (.tup xs)
 GC:∀b o u,H b=some (.JL o u)->H' b=some (.JL o u)
 JQ:∀b ps,H b=some (.tbl ps)->∃bC,H' b=some (.tbl (ps++bC))
section
variable{fs fs' ex ex':List ag}{H H1 H2:Hp}{h h1 h2 h':bw}{a x e:ag}{o:HO}
theorem Un.any(u:Un fs ex H H1 h h1){b:ag}{ob:Obj}(q:h.get? b=some ob)(n:H b=none)(hx:b∉ex):∃sl,h1.get? b=some { ob with slots:=sl }:=by
 by_cases hb:b∈fs
 ·exact u.slot b ob q n hb hx
 ·exact⟨ob.slots,u.keep b ob q n hb hx⟩
theorem Un.kept(k:∀b u,h.get? b=some u->h'.get? b=some u):Un fs ex H H h h':=
 ⟨λ b ob q _ _ _=>k b ob q,λ b ob q _ _ _=>⟨ob.slots,k b ob q⟩,λ _ _ _ n _=>n,λ b ob q _=>⟨ob,k b ob q⟩,λ _ _ q=>q,λ _ _ _ q=>q,λ _ ps q=>⟨#[],by rw[q];simp⟩⟩
theorem Un.refl:Un fs ex H H h h:=Un.kept λ _ _ q=>q
theorem Un.laid(k:∀b u,h.get? b=some u->h'.get? b=some u)(hp:h.objs.size<=a)(hn:H a=none):Un fs ex H (upd H a o) h h' where
 keep:=λ b u q _ _ _=>k b u q
 slot:=λ b u q _ _ _=>⟨u.slots,k b u q⟩
 free:=λ b u q n _=>by rw[m5 (bL (aU (Heap.lt_size q) hp))];exact n
 there:=λ b u q _=>⟨u,k b u q⟩
 JP:=λ b xs q=>by rw[m5 (nH q hn)];exact q
 GC:=λ b u xs q=>by rw[m5 (nH q hn)];exact q
 JQ:=λ b ps q=>⟨#[],by rw[m5 (nH q hn),q];simp⟩
theorem Un.write(mu:Mut (H x))(he:e=x\/H e=some (.own x))(k:∀b u,b≠e->h.get? b=some u->h'.get? b=some u)(heo:∃u,h'.get? e=some u):Un fs ex H (upd H x o) h h':=by
 have hx:∀b,H b=none->b≠x:=λ b n z=>by subst z;rw[n]at mu;exact mu
 have hb:∀b,H b=none->b≠e:=λ b n z=>by
  subst z
  rcases he with r|r
  ·exact hx b n r
  ·rw[n]at r;cases r
 have hm:∀b u,H b=some u->¬ Mut (some u)->b≠x:=λ b u q nm z=>by subst z;rw[q]at mu;exact nm mu
 refine⟨λ b u q n _ _=>k b u (hb b n) q,λ b u q n _ _=>⟨u.slots,k b u (hb b n) q⟩,λ b u q n _=>by rw[m5 (hx b n)];exact n,λ b u q _=>?_,
  λ b xs q=>by rw[m5 (hm b _ q λ z=>z)];exact q,λ b u xs q=>by rw[m5 (hm b _ q λ z=>z)];exact q,λ b ps q=>⟨#[],by rw[m5 (hm b _ q λ z=>z),q];simp⟩⟩
 by_cases Wi:b=e
 ·subst Wi;exact heo
 ·exact⟨u,k b u Wi q⟩
end
def trk(h:bw)(H:Hp):List ag:=(az h.objs.size).filter λ a=>(H a).isSome
def CZ(h:bw)(H:Hp):bw:=PySem.W.hideAll h (trk h H)
theorem Kd(h:bw)(H:Hp):(CZ h H).objs.size=h.objs.size:=PySem.W.hideAll_size _ _
theorem Nu{h:bw}{H:Hp}{b:ag}{o:Obj}(e:h.get? b=some o)(n:H b=none):(CZ h H).get? b=some o:=
 PySem.W.hideAll_get _ e λ hm=>by
  have q:(H b).isSome=true:=(List.mem_filter.mp hm).2
  rw[n]at q;simp at q
theorem Sr{h:bw}{H:Hp}{b:ag}{o:Obj}(e:(CZ h H).get? b=some o):h.get? b=some o/\H b=none:=by
 have e':h.get? b=some o:=PySem.W.of_hideAll (trk h H) e
 refine⟨e',?_⟩
 cases q:H b with
 |none=>rfl
 |some x=>
  have hm:b∈trk h H:=List.mem_filter.mpr ⟨List.mem_range.mpr (Heap.lt_size e'),by simp[q]⟩
  have z:(CZ h H).get? b=none:=PySem.W.hideAll_none (trk h H) hm
  rw[z]at e;cases e
def Zn(g h:bw)(L:ag):List (ag×Obj):=(az h.objs.size).filterMap λ a=>if a=L\/(g.get? a).isSome=true then none else(h.get? a).map λ o=>(a,o)
def rest(g h:bw)(L d:ag):List (ag×Obj):=(Zn g h L).filter λ p=>decide (p.1≠d)
end L2
namespace L2
open PySem PySem.Spec PyProof.Rows
structure Mod(K:ah)(mg:Str->Option ao)(base:bw):Prop where
 Zo:K.In base
 glob:base.Ns aO mg
 blt:∃mb,base.Ns jW mb/\∀x:Str,x≠"__name__"->mb x=fE x
 nolimit:base.NoLimit
structure Cx where
 prog:aJ
 w:aY
 K:ah
 mg:Str->Option ao
 base:bw
 A:bU
 N:List Str
 JR:au
 H_0:Hp
 env:Env
 outer:List Env
 stack:List Env
 ex:List ag
 fn:Str->Bool
 calm:Bool
 pn:List (ag×Obj)
 xe:ao->au->Prop
def PX(l:List Env):List ag:=l.filterMap (·.frame)
abbrev Cx.fs(X:Cx):List ag:=PX X.outer
def Vis(sc:eQ)(x:Str):Prop:=sc.names.lookup x=some .local\/sc.names.lookup x=some .cell\/sc.names.lookup x=some .free
def Loc(sc:eQ)(x:Str):Prop:=sc.names.lookup x=some .local\/sc.names.lookup x=some .cell
def Look(env:Env)(h:bw)(m:Str->Option ao)(x:Str)(u:ao):Prop:=
 (env.kindOf x=some .local/\m x=some u)\/((env.kindOf x=some .cell\/env.kindOf x=some .free)/\∃c,env.cells.lookup x=some c/\h.IsCell c (some u))
structure Cx.Ok(X:Cx):Prop where
 mod:Mod X.K X.mg X.base
 kind:X.env.scope.kind= .function
 glob:X.env.globals=aO
 blt:X.env.builtins=jW
 above:X.JR.heap.objs.size<=X.env.locals
 inj:∀x y c,X.env.cells.lookup x=some c->X.env.cells.lookup y=some c->x=y
 has:∀x,(X.env.kindOf x=some .cell\/X.env.kindOf x=some .free)->∃c,X.env.cells.lookup x=some c
 cab:∀x c,X.fn x=true->X.env.cells.lookup x=some c->X.JR.heap.objs.size<=c
 hd:X.calm=true->X.A.handled=none
 frames:X.A.frames=some X.stack
 stk:X.stack=X.outer\/(X.stack=X.env::X.outer/\X.env.frame=some X.env.locals)
 exf:∀b∈X.ex,b≠X.env.locals/\∀x c,X.env.cells.lookup x=some c->c≠b
 bs:∀b o,X.base.get? b=some o->X.JR.heap.get? b=some o/\X.H_0 b=none
 Ss:X.base.objs.size<=X.JR.heap.objs.size
 Nv:∀b o,X.base.get? b=some o->b∉X.ex
 Nw:∀b∈X.ex,b∉X.fs
 Bg:X.JR.heap.FunFrames X.base X.outer
 VZ:∀b∈X.fs,X.H_0 b=none
structure Inv(X:Cx)(pins:List (ag×Obj))(σ:List (Option V))(H:Hp)(s:au):Prop where
 ok:X.Ok
 os:s.os=X.JR.os
 bare:gq s.gens
 base:Un X.fs X.ex X.H_0 H X.JR.heap s.heap
 loc:∃m,s.heap.Ns X.env.locals m/\∀(i:Nat) (x:Str) (v:V),X.N[i]? =some x->σ[i]? =some (some v)->Vis X.env.scope x->∃u,RelV v u/\Look X.env s.heap m x u
 cell:∀x c,X.env.cells.lookup x=some c->∃v,s.heap.IsCell c v
 free:H X.env.locals=none
 uC:∀x c,X.env.cells.lookup x=some c->H c=none
 pin:∀p∈X.pn++pins,s.heap.get? p.1=some p.2/\H p.1=none/\p.1≠X.env.locals/\p.1∉X.fs/\∀v,p.2.data≠ .cell v
 oY:zE X.prog X.w H s.heap
 len:σ.length=X.N.length
section
variable{X:Cx}{pins:List (ag×Obj)}{σ:List (Option V)}{H H':Hp}{s:au}{h':bw}
theorem Cx.Ok.aee(ok:X.Ok){b:ag}{o:Obj}(e:X.base.get? b=some o):b∉X.fs:=λ hb=>by
 have:=(ok.Bg.mem hb).1
 rw[e]at this;cases this
theorem Inv.bs(I:Inv X pins σ H s):∀b o,X.base.get? b=some o->s.heap.get? b=some o/\H b=none:=λ b o e=>
 ⟨I.base.keep b o (I.ok.bs b o e).1 (I.ok.bs b o e).2 (I.ok.aee e) (I.ok.Nv b o e),I.base.free b o (I.ok.bs b o e).1 (I.ok.bs b o e).2 (I.ok.Nv b o e)⟩
theorem Inv.bk(I:Inv X pins σ H s):∀b o,X.base.get? b=some o->s.heap.get? b=some o:=λ b o e=>(I.bs b o e).1
theorem Inv.mod(I:Inv X pins σ H s):Mod X.K X.mg X.base:=I.ok.mod
theorem Inv.Ff(I:Inv X pins σ H s):X.K.In s.heap:=I.ok.mod.Zo.keeps I.bk
theorem Inv.fr(I:Inv X pins σ H s):∃m,Fr X.base X.env.locals s.heap m:=
 let⟨m,hn,_⟩:=I.loc
 ⟨m,hn,I.bk,aT I.ok.Ss I.ok.above⟩
theorem Inv.lt(I:Inv X pins σ H s):X.env.locals<s.heap.objs.size:=let⟨_,hn,_⟩:=I.loc;hn.lt
theorem Inv.sz(I:Inv X pins σ H s):X.JR.heap.objs.size<=s.heap.objs.size:=aT I.ok.above (ff I.lt)
theorem Inv.aef(I:Inv X pins σ H s){a:ag}(h:s.heap.objs.size<=a):a∉X.fs:=λ hb=>by
 obtain⟨_,o,ho,_⟩:=I.ok.Bg.mem hb
 exact absurd (aU (Heap.lt_size ho) (aT I.sz h)) (cX _)
theorem Inv.Zp(I:Inv X pins σ H s):∀x c,X.env.cells.lookup x=some c->c≠X.env.locals:=λ x c e z=>by
 obtain⟨v,o,ho,hd⟩:=I.cell x c e
 obtain⟨m,⟨o',es,ep,Su,V8,_⟩,_⟩:=I.loc
 rw[z,Su]at ho;cases ho;rw[V8]at hd;cases hd
theorem Inv.Bg(I:Inv X pins σ H s):s.heap.FunFrames X.base X.outer:=by
 have all:∀(l:List Env),(∀b∈PX l,b∈X.fs)->X.JR.heap.FunFrames X.base l->s.heap.FunFrames X.base l:=by
  intro l
  induction l with
  |nil=>intro _ _;trivial
  |cons env r ih=>
   intro hs hl
   obtain⟨hk,⟨L,o,hf,hn,ho,hd⟩,hr⟩:=hl
   have hL:L∈X.fs:=hs L (by unfold PX;rw[dG,hf];exact bT)
   obtain⟨sl,e⟩:=I.base.slot L o ho (I.ok.VZ L hL) hL λ z=>I.ok.Nw L z hL
   exact⟨hk,⟨L,_,hf,hn,e,hd⟩,ih (λ b hb=>hs b (by unfold PX;rw[dG,hf];exact aQ _ hb)) hr⟩
 exact all X.outer (λ _ hb=>hb) I.ok.Bg
theorem Inv.stack(I:Inv X pins σ H s):s.heap.FunFrames X.base X.stack:=by
 rcases I.ok.stk with e|⟨e,hf⟩
 ·rw[e];exact I.Bg
 ·rw[e]
  obtain⟨m,hn,_⟩:=I.loc
  refine .cons (by rw[I.ok.kind];decide) hf hn ?_ I.Bg
  exact Heap.get?_none_of_le (aT I.ok.Ss I.ok.above)
theorem Inv.PY(I:Inv X pins σ H s):∀b∈PX X.stack,b∈X.env.locals::X.fs:=λ b hb=>by
 rcases I.ok.stk with e|⟨e,hf⟩
 ·rw[e]at hb;exact aQ _ hb
 ·rw[e]at hb
  unfold PX at hb
  rw[dG,hf]at hb
  exact hb
theorem Inv.Lv(I:Inv X pins σ H s):∀b∈PX X.stack,H b=none:=λ b hb=>by
 rcases List.mem_cons.mp (I.PY b hb)with e|hb
 ·rw[e];exact I.free
 ·obtain⟨_,o,ho,_⟩:=I.ok.Bg.mem hb
  exact I.base.free b o ho (I.ok.VZ b hb) λ z=>I.ok.Nw b z hb
theorem Inv.step{g':Array GenState}{t':Nat}{d':Drawn}{ch:List ag}(I:Inv X pins σ H s)
  (PZ:∀b∈ch,(b∈X.ex\/X.JR.heap.objs.size<=b)/\b≠X.env.locals/\(∀x c,X.env.cells.lookup x=some c->c≠b)/\∀p∈X.pn++pins,p.1≠b)
  (keep:∀b o,b≠X.env.locals->b∉X.fs->b∉ch->s.heap.get? b=some o->H b=none->h'.get? b=some o)
  (slot:∀b o,b≠X.env.locals->b∈X.fs->b∉ch->s.heap.get? b=some o->H b=none->∃sl,h'.get? b=some { o with slots:=sl })(free:∀b o,b∉ch->s.heap.get? b=some o->H b=none->H' b=none)
  (there:∀b o,b∉ch->s.heap.get? b=some o->∃o',h'.get? b=some o')
  (JP:∀b xs,H b=some (.tup xs)->H' b=some (.tup xs))(GC:∀b o u,H b=some (.JL o u)->H' b=some (.JL o u))(JQ:∀b ps,H b=some (.tbl ps)->∃bC,H' b=some (.tbl (ps++bC)))
  (ns:∀m,s.heap.Ns X.env.locals m->h'.Ns X.env.locals m)(oY:zE X.prog X.w H' h')(hg:gq g'):
  Inv X pins σ H' { s with heap:=h',gens:=g',drawn:=d',toks:=t' }:=by
 have neL:∀b o,X.JR.heap.get? b=some o->b≠X.env.locals:=λ b o e=>bL (aU (Heap.lt_size e) I.ok.above)
 have neC:∀b o,X.JR.heap.get? b=some o->b∉X.ex->b∉ch:=λ b o e hx hb=>by
  rcases(PZ b hb).1 with z|z
  ·exact hx z
  ·exact absurd (aU (Heap.lt_size e) z) (cX _)
 have cellK:∀x c,X.env.cells.lookup x=some c->∀v,s.heap.IsCell c v->h'.IsCell c v:=λ x c e v ⟨o,ho,hd⟩=>by
  have nch:c∉ch:=λ z=>(PZ c z).2.2.1 x c e rfl
  by_cases hc:c∈X.fs
  ·obtain⟨sl,q⟩:=slot c o (I.Zp x c e) hc nch ho (I.uC x c e)
   exact⟨_,q,hd⟩
  ·exact⟨o,keep c o (I.Zp x c e) hc nch ho (I.uC x c e),hd⟩
 refine⟨I.ok,I.os,hg,⟨λ b o e n hb hx=>?_,λ b o e n hb hx=>?_,λ b o e n hx=>?_,λ b o e hx=>?_,λ b xs e=>JP b xs (I.base.JP b xs e),λ b o xs e=>GC b o xs (I.base.GC b o xs e),λ b ps e=>?_⟩,?_,λ x c e=>?_,?_,λ x c e=>?_,λ p hp=>?_,oY,I.len⟩
 ·exact keep b o (neL b o e) hb (neC b o e hx) (I.base.keep b o e n hb hx) (I.base.free b o e n hx)
 ·obtain⟨sl,e1⟩:=I.base.slot b o e n hb hx
  obtain⟨sl',e2⟩:=slot b _ (neL b o e) hb (neC b o e hx) e1 (I.base.free b o e n hx)
  exact⟨sl',e2⟩
 ·obtain⟨o',e1⟩:=I.base.there b o e hx
  exact free b o' (neC b o e hx) e1 (I.base.free b o e n hx)
 ·obtain⟨o',e1⟩:=I.base.there b o e hx
  exact there b o' (neC b o e hx) e1
 ·obtain⟨m1,e1⟩:=I.base.JQ b ps e
  obtain⟨m2,e2⟩:=JQ b _ e1
  exact⟨m1++m2,by rw[e2,Array.append_assoc]⟩
 ·obtain⟨m,hn,hl⟩:=I.loc
  refine⟨m,ns m hn,λ i x v e1 e2 e3=>?_⟩
  obtain⟨u,r,l⟩:=hl i x v e1 e2 e3
  refine⟨u,r,?_⟩
  rcases l with l|⟨k,c,e,z⟩
  ·exact .inl l
  ·exact .inr ⟨k,c,e,cellK x c e _ z⟩
 ·obtain⟨v,z⟩:=I.cell x c e
  exact⟨v,cellK x c e v z⟩
 ·obtain⟨m,⟨o,_,_,ho,_⟩,_⟩:=I.loc
  exact free _ o (λ z=>(PZ _ z).2.1 rfl) ho I.free
 ·obtain⟨v,o,ho,hd⟩:=I.cell x c e
  exact free c o (λ z=>(PZ c z).2.2.1 x c e rfl) ho (I.uC x c e)
 ·obtain⟨e,n,ne,nf,d⟩:=I.pin p hp
  have nch:p.1∉ch:=λ z=>(PZ p.1 z).2.2.2 p hp rfl
  exact⟨keep p.1 p.2 ne nf nch e n,free p.1 p.2 nch e n,ne,nf,d⟩
theorem Inv.un{t':Nat}(I:Inv X pins σ H s)(u:Un X.fs [] H H' s.heap h')(oY:zE X.prog X.w H' h'):Inv X pins σ H' { s with heap:=h',toks:=t' }:=by
 obtain⟨m,⟨o,es,ep,ho,r⟩,_⟩:=id I.loc
 obtain⟨sl,hL⟩:=u.any ho I.free (by simp)
 exact I.step (g':=s.gens) (d':=s.drawn) (ch:=[]) (λ _ z=>nomatch z) (λ b o _ hb _ e n=>u.keep b o e n hb (by simp)) (λ b o _ hb _ e n=>u.slot b o e n hb (by simp)) (λ b o _ e n=>u.free b o e n (by simp)) (λ b o _ e=>u.there b o e (by simp)) u.JP u.GC u.JQ (λ m' hm=>by
  obtain⟨o',V9,ep',Su,r'⟩:=hm
  rw[ho]at Su;cases Su
  exact⟨_,V9,ep',hL,r'⟩) oY I.bare
theorem Inv.call{g':Array GenState}{t':Nat}{d':Drawn}{ch:List ag}(I:Inv X pins σ H s)(u:Un (PX X.stack) ch H H' s.heap h')(oY:zE X.prog X.w H' h')(hg:gq g')
  (PZ:∀b∈ch,(b∈X.ex\/X.JR.heap.objs.size<=b)/\b≠X.env.locals/\(∀x c,X.env.cells.lookup x=some c->c≠b)/\∀p∈X.pn++pins,p.1≠b):
  Inv X pins σ H' { s with heap:=h',gens:=g',drawn:=d',toks:=t' }:=by
 obtain⟨m,⟨o,es,ep,ho,r⟩,_⟩:=id I.loc
 obtain⟨sl,hL⟩:=u.any ho I.free λ z=>(PZ _ z).2.1 rfl
 exact I.step (ch:=ch) PZ (λ b o hL hb hc e n=>u.keep b o e n (λ z=>(List.mem_cons.mp (I.PY b z)).elim hL hb) hc) (λ b o _ _ hc e n=>u.any e n hc) (λ b o hc e n=>u.free b o e n hc) (λ b o hc e=>u.there b o e hc) u.JP u.GC u.JQ (λ m' hm=>by
  obtain⟨o',V9,ep',Su,r'⟩:=hm
  rw[ho]at Su;cases Su
  exact⟨_,V9,ep',hL,r'⟩) oY hg
theorem Inv.turned{t':Nat}{it:ag}(I:Inv X pins σ H s)(k:∀b o,b≠it->s.heap.get? b=some o->h'.get? b=some o)(hn:H it=none)(hL:it≠X.env.locals)
  (h1:it∈X.ex\/X.JR.heap.objs.size<=it)(h2:∀x c,X.env.cells.lookup x=some c->c≠it)(h3:∀p∈X.pn++pins,p.1≠it):Inv X pins σ H { s with heap:=h',toks:=t' }:=by
 have nit:∀b u,H b=some u->b≠it:=λ b u e z=>by rw[z,hn]at e;cases e
 refine I.step (g':=s.gens) (d':=s.drawn) (ch:=[it]) (λ b hb=>?_) (λ b o _ _ hc e _=>k b o (λ z=>hc (by simp[z])) e) (λ b o _ _ hc e _=>⟨o.slots,k b o (λ z=>hc (by simp[z])) e⟩) (λ _ _ _ _ n=>n)
  (λ b o hc e=>⟨o,k b o (λ z=>hc (by simp[z])) e⟩) (λ _ _ e=>e) (λ _ _ _ e=>e) (λ b ps e=>⟨#[],by rw[e];simp⟩) (λ m hm=>?_) (λ b u e=>?_) I.bare
 ·have e:b=it:=by simpa using hb
  subst e
  exact⟨h1,hL,h2,h3⟩
 ·obtain⟨o,es,ep,ho,r⟩:=hm
  exact⟨o,es,ep,k _ o (Ne.symm hL) ho,r⟩
 ·refine(I.oY b u e).Eh (λ c v hc q=>k c v ?_ q) (λ _ q=>q) λ _ _ q=>q
  rcases hc with z|z
  ·rw[z];exact nit b u e
  ·exact nit c _ z
theorem Inv.tok(I:Inv X pins σ H s)(t:Nat):Inv X pins σ H { s with toks:=t }:=I.un (h':=s.heap) (t':=t) Un.refl I.oY
theorem Inv.kept{t':Nat}(I:Inv X pins σ H s)(k:∀b u,s.heap.get? b=some u->h'.get? b=some u):Inv X pins σ H { s with heap:=h',toks:=t' }:=I.un (Un.kept k) (I.oY.kept k)
theorem Inv.laid{a:ag}{o:HO}{t':Nat}(I:Inv X pins σ H s)(k:∀b u,s.heap.get? b=some u->h'.get? b=some u)(hp:s.heap.objs.size<=a)(new:pQ X.prog X.w (upd H a o) h' a o):
  Inv X pins σ (upd H a o) { s with heap:=h',toks:=t' }:=I.un (Un.laid k hp (I.oY.fresh hp)) (I.oY.laid k hp new)
theorem Inv.write{x e:ag}{o:HO}{t':Nat}(I:Inv X pins σ H s)(mu:Mut (H x))(he:e=x\/H e=some (.own x))(k:∀b u,b≠e->s.heap.get? b=some u->h'.get? b=some u)(heo:∃u,h'.get? e=some u)
  (new:pQ X.prog X.w (upd H x o) h' x o):Inv X pins σ (upd H x o) { s with heap:=h',toks:=t' }:=I.un (Un.write mu he k heo) (I.oY.write mu he k heo new)
theorem Inv.weak{σ':List (Option V)}(I:Inv X pins σ H s)(hl:σ'.length=σ.length)(w:∀(i:Nat) v,σ'[i]? =some (some v)->σ[i]? =some (some v)):Inv X pins σ' H s:=
 ⟨I.ok,I.os,I.bare,I.base,let⟨m,hn,GD⟩:=I.loc;⟨m,hn,λ i x v e1 e2 e3=>GD i x v e1 (w i v e2) e3⟩,I.cell,I.free,I.uC,I.pin,I.oY,hl.trans I.len⟩
theorem Inv.Lw{aaX:List (ag×Obj)}(I:Inv X pins σ H s)(h:∀p∈aaX,s.heap.get? p.1=some p.2/\H p.1=none/\p.1≠X.env.locals/\p.1∉X.fs/\∀v,p.2.data≠ .cell v):Inv X aaX σ H s:=
 ⟨I.ok,I.os,I.bare,I.base,I.loc,I.cell,I.free,I.uC,λ p hp=>(List.mem_append.mp hp).elim (λ z=>I.pin p (ic _ z)) (h p),I.oY,I.len⟩
theorem C0{N:List Str}(hN:N.Nodup){i j:Nat}{x:Str}(a:N[i]? =some x)(b:N[j]? =some x):i=j:=by
 obtain⟨h1,e1⟩:=List.getElem?_eq_some_iff.mp a
 obtain⟨h2,e2⟩:=List.getElem?_eq_some_iff.mp b
 exact(k_ hN).mp (e1.trans e2.symm)
theorem Ke{M:jJ}{A:bU}{E:ao->au->Prop}{i:Nat}{x:Str}{v:V}{u:ao}{Q:Unit->au->Prop}(I:Inv X pins σ H s)(hN:X.N.Nodup)(hi:X.N[i]? =some x)(hx:Loc X.env.scope x)(r:RelV v u)
  (h:∀s',Inv X pins (σ.set i (some v)) H s'->(∃a,Heap.SameBut a s.heap s'.heap/\(a=X.env.locals\/X.env.cells.lookup x=some a))->Q () s')(hf:X.fn x=true\/X.env.scope.names.lookup x=some .local:=by first|exact .inl rfl|exact .inr rfl|assumption):aV M A (mr X.env x u) Q E s:=by
 obtain⟨m,hn,hl⟩:=id I.loc
 have abl:(X.env.scope.kind == .class || (X.env.scope.kind == .module && X.env.locals != X.env.globals))=false:=by rw[I.ok.kind];rfl
 have hiσ:i<σ.length:=by rw[I.len];exact(List.getElem?_eq_some_iff.mp hi).1
 have Zp:=I.Zp
 have tracked:∀{a:ag} {h':bw},(∃o,s.heap.get? a=some o/\H a=none)->Heap.SameBut a s.heap h'->zE X.prog X.w H h':=λ{a h'} ha hs b ob e=>by
  obtain⟨_,_,Kf⟩:=ha
  refine(I.oY b ob e).Eh (λ c w' hc q=>(hs.2 c ?_).trans q) (λ _ q=>q) λ _ _ q=>q
  rintro rfl
  rcases hc with rfl|hc
  ·rw[Kf]at e;cases e
  ·rw[Kf]at hc;cases hc
 rcases hx with hk|hk
 ·refine wpAny_storeName_local hk hn (λ h' hn' hs=>?_) abl
  obtain⟨oL,_,_,hoL,_⟩:=id hn
  refine h _ ⟨I.ok,I.os,I.bare,⟨λ b o e n hb hx=>?_,λ b o e n hb hx=>?_,I.base.free,λ b o e hx=>?_,I.base.JP,I.base.GC,I.base.JQ⟩,⟨_,hn',λ j y v' e1 e2 e3=>?_⟩,λ y c e=>?_,I.free,I.uC,λ p hp=>?_,tracked ⟨oL,hoL,I.free⟩ hs,by simpa using I.len⟩ ⟨_,hs,.inl rfl⟩
  ·exact(hs.2 b (bL (aU (Heap.lt_size e) I.ok.above))).trans (I.base.keep b o e n hb hx)
  ·obtain⟨sl,e1⟩:=I.base.slot b o e n hb hx
   exact⟨sl,(hs.2 b (bL (aU (Heap.lt_size e) I.ok.above))).trans e1⟩
  ·obtain⟨o',e1⟩:=I.base.there b o e hx
   exact⟨o',(hs.2 b (bL (aU (Heap.lt_size e) I.ok.above))).trans e1⟩
  ·by_cases hj:j=i
   ·subst hj
    rw[hi]at e1;cases e1
    rw[cO hiσ]at e2
    cases e2
    exact⟨u,r,.inl ⟨hk,by simp⟩⟩
   ·rw[fH (Ne.symm hj)]at e2
    obtain⟨u',r',q⟩:=hl j y v' e1 e2 e3
    refine⟨u',r',?_⟩
    rcases q with⟨k,e⟩|⟨k,c,e,z⟩
    ·refine .inl ⟨k,?_⟩
     have:y≠x:=λ e=>hj (C0 hN e1 (e ▸ hi))
     simp[this,e]
    ·exact .inr ⟨k,c,e,z.sameBut hs (Zp y c e)⟩
  ·obtain⟨w',z⟩:=I.cell y c e
   exact⟨w',z.sameBut hs (Zp y c e)⟩
  ·obtain⟨e,n,ne,nf,d⟩:=I.pin p hp
   exact⟨(hs.2 p.1 ne).trans e,n,ne,nf,d⟩
 ·have hfn:X.fn x=true:=by
   rcases hf with z|z
   ·exact z
   ·rw[z]at hk;cases hk
  obtain⟨c,hc⟩:=I.ok.has x (.inl hk)
  obtain⟨w',z⟩:=I.cell x c hc
  refine wpAny_storeName_cell I.ok.kind hk hc z (λ h' V_ hs=>?_)
  obtain⟨oc,hoc,aeg⟩:=id z
  refine h { s with heap:=h' } ⟨I.ok,I.os,I.bare,⟨λ b o e n hb hx=>?_,λ b o e n hb hx=>?_,I.base.free,λ b o e hx=>?_,I.base.JP,I.base.GC,I.base.JQ⟩,⟨m,hn.sameBut hs (Ne.symm (Zp x c hc)),λ j y v' e1 e2 e3=>?_⟩,λ y c' e=>?_,I.free,I.uC,λ p hp=>?_,tracked ⟨oc,hoc,I.uC x c hc⟩ hs,by simpa using I.len⟩ ⟨c,hs,.inr hc⟩
  ·exact(hs.2 b (bL (aU (Heap.lt_size e) (I.ok.cab x c hfn hc)))).trans (I.base.keep b o e n hb hx)
  ·obtain⟨sl,e1⟩:=I.base.slot b o e n hb hx
   exact⟨sl,(hs.2 b (bL (aU (Heap.lt_size e) (I.ok.cab x c hfn hc)))).trans e1⟩
  ·obtain⟨o',e1⟩:=I.base.there b o e hx
   exact⟨o',(hs.2 b (bL (aU (Heap.lt_size e) (I.ok.cab x c hfn hc)))).trans e1⟩
  ·by_cases hj:j=i
   ·subst hj
    rw[hi]at e1;cases e1
    rw[cO hiσ]at e2
    cases e2
    exact⟨u,r,.inr ⟨.inl hk,c,hc,V_⟩⟩
   ·rw[fH (Ne.symm hj)]at e2
    obtain⟨u',r',q⟩:=hl j y v' e1 e2 e3
    refine⟨u',r',?_⟩
    rcases q with q|⟨k,c',e,z'⟩
    ·exact .inl q
    ·refine .inr ⟨k,c',e,z'.sameBut hs ?_⟩
     rintro rfl
     exact hj (C0 hN e1 (I.ok.inj _ _ _ e hc ▸ hi))
  ·by_cases hcc:c'=c
   ·subst hcc;exact⟨_,V_⟩
   ·obtain⟨w2,z2⟩:=I.cell y c' e
    exact⟨w2,z2.sameBut hs hcc⟩
  ·obtain⟨e,n,ne,nf,d⟩:=I.pin p hp
   refine⟨(hs.2 p.1 ?_).trans e,n,ne,nf,d⟩
   intro q
   rw[q,hoc]at e
   have q':oc=p.2:=Option.some.inj e
   exact d w' (by rw[<-q'];exact aeg)
theorem C1{M:jJ}{A:bU}{E:ao->au->Prop}{i:Nat}{x:Str}{v:V}{u:ao}{Q:Unit->au->Prop}(I:Inv X pins σ H s)(hN:X.N.Nodup)(hi:X.N[i]? =some x)(hx:Loc X.env.scope x)(r:RelV v u)
  (h:∀s',Inv X pins (σ.set i (some v)) H s'->Q () s')(hf:X.fn x=true\/X.env.scope.names.lookup x=some .local:=by first|exact .inl rfl|exact .inr rfl|assumption):aV M A (mr X.env x u) Q E s:=
 Ke I hN hi hx r (λ s' I' _=>h s' I') hf
theorem Inv.aaY{s':au}{ch:List ag}(I:Inv X pins σ H s)(ho:s'.os=s.os)(u:Un (PX X.stack) ch H H' s.heap s'.heap)(oY:zE X.prog X.w H' s'.heap)(hg:gq s'.gens)
  (PZ:∀b∈ch,(b∈X.ex\/X.JR.heap.objs.size<=b)/\b≠X.env.locals/\(∀x c,X.env.cells.lookup x=some c->c≠b)/\∀p∈X.pn++pins,p.1≠b):Inv X pins σ H' s':=by
 obtain⟨h',g',d',t',o'⟩:=s'
 have e:o'=s.os:=ho
 subst e
 exact I.call (g':=g') (t':=t') (d':=d') u oY hg PZ
end
abbrev XK:=ao->Option ag->Hp->Prop
abbrev St:=List (Option V)
abbrev VK:=V->Hp->Prop
abbrev TE:=St->Hp->VK->Prop
abbrev TT:=St->Hp->(Bool->Hp->Prop)->Prop
abbrev TA:=St->Hp->(List V->Hp->Prop)->Prop
structure Ends where
 nx:St->Hp->Prop
 rt:VK
 bk:St->Hp->Prop:=λ _ _=>False
 ct:St->Hp->Prop:=λ _ _=>False
abbrev TS:=Ends->St->Hp->Prop
def EP(X:Cx)(pins:List (ag×Obj))(σ:St)(Q:VK)(u:ao)(s':au):Prop:=∃v H',Inv X pins σ H' s'/\RelV v u/\Q v H'
def TP(X:Cx)(pins:List (ag×Obj))(σ:St)(Q:Bool->Hp->Prop)(b:Bool)(s':au):Prop:=∃H',Inv X pins σ H' s'/\Q b H'
def AP(X:Cx)(pins:List (ag×Obj))(σ:St)(Q:List V->Hp->Prop)(us:List ao)(s':au):Prop:=∃vs H',Inv X pins σ H' s'/\Vals vs us/\Q vs H'
def SP(X:Cx)(pins:List (ag×Obj))(D:Ends)(f:Flow)(s':au):Prop:=
 match f with
 | .next=>∃σ' H',Inv X pins σ' H' s'/\D.nx σ' H'
 | .brk=>∃σ' H',Inv X pins σ' H' s'/\D.bk σ' H'
 | .cont=>∃σ' H',Inv X pins σ' H' s'/\D.ct σ' H'
 | .ret u=>∃v σ' H',Inv X pins σ' H' s'/\RelV v u/\D.rt v H'
def PE(X:Cx)(e:bJ)(t:TE):Prop:=
 ∀(pins:List (ag×Obj)) (s:au) (σ:St) (H:Hp) (Q:VK),Inv X pins σ H s->t σ H Q->aV (aS X.prog X.w) X.A (cu e X.env) (EP X pins σ Q) X.xe s
def PT(X:Cx)(e:bJ)(t:TT):Prop:=
 ∀(pins:List (ag×Obj)) (s:au) (σ:St) (H:Hp) (Q:Bool->Hp->Prop),Inv X pins σ H s->t σ H Q->aV (aS X.prog X.w) X.A (kQ e X.env (cu e X.env)) (TP X pins σ Q) X.xe s
def PW(X:Cx)(e:bJ)(t:TT):Prop:=
 ∀(whole:Sem ao) (pins:List (ag×Obj)) (s:au) (σ:St) (H:Hp) (Q:Bool->Hp->Prop),Inv X pins σ H s->t σ H Q->aV (aS X.prog X.w) X.A (kQ e X.env whole) (TP X pins σ Q) X.xe s
theorem PW.pt{X:Cx}{e:bJ}{t:TT}(h:PW X e t):PT X e t:=h _
def PA(X:Cx)(es:List bJ)(t:TA):Prop:=
 ∀(pos:Pos) (pins:List (ag×Obj)) (s:au) (σ:St) (H:Hp) (Q:List V->Hp->Prop),Inv X pins σ H s->t σ H Q->aV (aS X.prog X.w) X.A (spliced (c7 pos (aN es X.env))) (AP X pins σ Q) X.xe s
def PS(X:Cx)(st:bA)(t:TS):Prop:=
 ∀(pins:List (ag×Obj)) (s:au) (σ:St) (H:Hp) (D:Ends),Inv X pins σ H s->t D σ H->aV (aS X.prog X.w) X.A (exec st X.env) (SP X pins D) X.xe s
def Lx(X:Cx)(st:List bA)(t:TS):Prop:=
 ∀(pins:List (ag×Obj)) (s:au) (σ:St) (H:Hp) (D:Ends),Inv X pins σ H s->t D σ H->aV (aS X.prog X.w) X.A (execs st X.env) (SP X pins D) X.xe s
theorem pN{α:Type}{t:Sem α}{Q Q':α->au->Prop}{M:jJ}{A:bU}{E:ao->au->Prop}{s:au}(h:aV M A t Q E s)(hQ:∀a s,Q a s->Q' a s):aV M A t Q' E s:=cQ h hQ λ _ _ x=>x
end L2
namespace L2
open PySem PySem.Spec PyProof.Rows
section
variable{X:Cx}
def Zq(i:Nat):TE:=λ σ H Q=>∃v,σ[i]? =some (some v)/\Q v H
def tC(v:V):TE:=λ _ H Q=>Q v H
theorem abm{i:Nat}{x:Str}{pos:Pos}(hN:X.N[i]? =some x)(hv:Vis X.env.scope x)(hd:(x == ("__debug__":Str))=false:=by decide)(Ly:(x == ("__classdict__":Str))=false:=by decide):PE X (.Name x pos) (Zq i):=by
 intro pins s σ H Q I h
 obtain⟨v,e,h⟩:=h
 obtain⟨m,hn,hl⟩:=I.loc
 obtain⟨u,r,l⟩:=hl i x v hN e hv
 have fin:EP X pins σ Q u s:=⟨v,H,I,r,h⟩
 rcases l with⟨hk,hm⟩|⟨hk,c,hc,Sv⟩
 ·exact lQ (ll I.ok.kind hk hn hm fin) hd
 ·rcases hk with hk|hk
  ·exact lQ (lJ I.ok.kind hk hc Sv fin) hd
  ·exact lQ (wpAny_loadName_free I.ok.kind hk hc Sv fin Ly) hd
theorem nP{i j pos}:PE X (.Constant (.int i) j pos) (tC (.int i)):=λ _ _ _ H _ I h=>wpAny_Constant_int ⟨.int i,H,I.tok _,⟨_,rfl⟩,h⟩
theorem aaZ{b j pos}:PE X (.Constant (.bool b) j pos) (tC (.bl b)):=λ _ _ _ H _ I h=>Constant_bool ⟨.bl b,H,I,rfl,h⟩
theorem zF{j pos}:PE X (.Constant .none j pos) (tC .qB):=λ _ _ _ H _ I h=>kj ⟨.qB,H,I,rfl,h⟩
theorem qp{x j pos}:PE X (.Constant (.str x) j pos) (tC (.str x)):=λ _ _ _ H _ I h=>Calls.Constant_str ⟨.str x,H,I.tok _,⟨_,rfl⟩,h⟩
def Gl(X:Cx)(x:Str):Prop:=X.env.kindOf x=some .globalImplicit
theorem xR{E:ao->au->Prop}{pins:List (ag×Obj)}{s:au}{σ:St}{H:Hp}{x:Str}{u:ao}{pos:Pos}{Q:ao->au->Prop}(I:Inv X pins σ H s)(hg:Gl X x)(hm:X.mg x=some u)(h:Q u s)
  (hd:(x == ("__debug__":Str))=false:=by decide):aV (aS X.prog X.w) X.A (cu (.Name x pos) X.env) Q E s:=
 Calls.Name_function_global I.ok.kind hg (Calls.loadGlobal_global (by rw[I.ok.glob];exact I.mod.glob.keeps I.bk) hm h) hd
theorem vh{E:ao->au->Prop}{pins:List (ag×Obj)}{s:au}{σ:St}{H:Hp}{x:Str}{u:ao}{pos:Pos}{Q:ao->au->Prop}(I:Inv X pins σ H s)(hg:Gl X x)(hm:X.mg x=none)(hv:fE x=some u)(h:Q u s)
  (hn:x≠"__name__":=by decide)(hd:(x == ("__debug__":Str))=false:=by decide):aV (aS X.prog X.w) X.A (cu (.Name x pos) X.env) Q E s:=by
 obtain⟨mb,h1,h2⟩:=I.mod.blt
 exact Calls.Name_function_global I.ok.kind hg (Calls.loadGlobal_builtin (by rw[I.ok.glob];exact I.mod.glob.keeps I.bk) hm (by rw[I.ok.blt];exact h1.keeps I.bk) ((h2 x hn).trans hv) h) hd
theorem Lz{x:Str}{v:V}{u:ao}{pos:Pos}(hg:Gl X x)(hm:X.mg x=some u)(r:RelV v u)(hd:(x == ("__debug__":Str))=false:=by decide):PE X (.Name x pos) (tC v):=
 λ _ _ _ H _ I h=>xR I hg hm ⟨v,H,I,r,h⟩ hd
variable{a b:bJ}{ta tb:TE}{pos:Pos}
def PC(X:Cx)(op:kC)(a b:bJ)(t:TE):Prop:=
 ∀(pins:List (ag×Obj)) (s:au) (σ:St) (H:Hp) (Q:VK),Inv X pins σ H s->t σ H Q->
  aV (aS X.prog X.w) X.A (cu a X.env) (λ v s₁=>aV (aS X.prog X.w) X.A (cu b X.env) (λ u s₂=>aV (aS X.prog X.w) X.A (cR op v u) (EP X pins σ Q) X.xe s₂) X.xe s₁) X.xe s
theorem Wj(b:bJ){op:kC}(h:op≠ .In)(h2:op≠ .NotIn):eT op b=false:=by
 have e1:(op == CmpOp.In)=false:=by cases op <;> first|rfl|exact absurd rfl h
 have e2:(op == CmpOp.NotIn)=false:=by cases op <;> first|rfl|exact absurd rfl h2
 cases b <;> simp[eT,e1,e2]
def aeh(ta:TE):TE:=λ σ H Q=>ta σ H λ x H1=>Q (.bl (decide (x= .qB))) H1
def acV(ta:TE):TE:=λ σ H Q=>ta σ H λ x H1=>Q (.bl (!decide (x= .qB))) H1
theorem RelV.Ny{x:V}{v:ao}(r:RelV x v):(v == Value.none)=decide (x= .qB):=by
 cases x with
 |qB=>cases r;rfl
 |bl _=>cases r;rfl
 |int _=>obtain⟨t,rfl⟩:=r;rfl
 |str _=>obtain⟨t,rfl⟩:=r;rfl
 |Lu _=>obtain⟨t,rfl⟩:=r;rfl
 |flt _=>obtain⟨t,rfl⟩:=r;rfl
 |ref _=>cases r;rfl
 |ty _=>cases r;rfl
theorem abn{j pos'}(ha:PE X a ta):PC X .Is a (.Constant .none j pos') (aeh ta):=by
 intro pins s σ H Q I h
 refine pN (ha pins s σ H _ I h) λ v s1 ⟨x,H1,I1,r1,q1⟩=>?_
 exact kj (is_none_gen ⟨.bl _,H1,I1,by rw[r1.Ny];rfl,q1⟩)
theorem Zr{j pos'}(ha:PE X a ta):PC X .IsNot a (.Constant .none j pos') (acV ta):=by
 intro pins s σ H Q I h
 refine pN (ha pins s σ H _ I h) λ v s1 ⟨x,H1,I1,r1,q1⟩=>?_
 exact kj (isnot_none_gen ⟨.bl _,H1,I1,by rw[r1.Ny];rfl,q1⟩)
def tB(t:TE):TT:=λ σ H Q=>t σ H λ x H1=>∃c,x= .bl c/\Q c H1
theorem P_{op:kC}{t:TE}(h:PC X op a b t)(h1:eT op b=false:=by first|exact Wj _ (by decide) (by decide)|rfl):PT X (.Compare a [op] [b] pos) (tB t):=by
 intro pins s σ H Q I hw
 refine kX (pN (h pins s σ H _ I hw) λ v s1 h1=>pN h1 λ u s2 h2=>pN h2 λ c s3 ⟨x,H1,I1,r1,q1⟩=>?_) h1
 obtain⟨d,rfl,q⟩:=q1
 cases r1
 exact cP ⟨H1,I1,q⟩
theorem tH{e:bJ}{t:TE}(h:PE X e t)(he:∀whole,kQ e X.env whole=(do let v <-whole;iu e.pos;gp [v] (truthy v)):=by intro _;rfl):PT X e (tB t):=by
 intro pins s σ H Q I hw
 refine isTrue_plain (pN (h pins s σ H _ I hw) λ v s1 ⟨x,H1,I1,r1,q1⟩=>?_) (he _)
 obtain⟨d,rfl,q⟩:=q1
 cases r1
 exact cP ⟨H1,I1,q⟩
variable{tA tB':TT}{rest:List bJ}
def aei(t u:TT):TT:=λ σ H Q=>t σ H λ c H1=>if c=true then u σ H1 Q else Q false H1
def tOr(t u:TT):TT:=λ σ H Q=>t σ H λ c H1=>if c=true then Q true H1 else u σ H1 Q
def acW(t:TT):TT:=λ σ H Q=>t σ H λ c H1=>Q (!c) H1
theorem AQ(ha:PT X a tA):PW X (.BoolOp .And [a] pos) tA:=by
 intro wh pins s σ H Q I h
 refine isTrue_and (pN (ha pins s σ H Q I h) λ c s1 e=>?_)
 cases c with
 |true=>exact isTrue_and_nil e
 |false=>exact e
theorem Qa(ha:PT X a tA):PW X (.BoolOp .Or [a] pos) tA:=by
 intro wh pins s σ H Q I h
 refine isTrue_or (pN (ha pins s σ H Q I h) λ c s1 e=>?_)
 cases c with
 |false=>exact isTrue_or_nil e
 |true=>exact e
theorem Ei(ha:PT X a tA)(hb:PW X (.BoolOp .And (b::rest) pos) tB'):PW X (.BoolOp .And (a::b::rest) pos) (aei tA tB'):=by
 intro wh pins s σ H Q I h
 refine isTrue_and (pN (ha pins s σ H _ I h) λ c s1 ⟨H1,I1,q1⟩=>?_)
 cases c with
 |true=>exact hb wh pins s1 σ H1 Q I1 q1
 |false=>exact⟨H1,I1,q1⟩
theorem Wk(ha:PT X a tA)(hb:PW X (.BoolOp .Or (b::rest) pos) tB'):PW X (.BoolOp .Or (a::b::rest) pos) (tOr tA tB'):=by
 intro wh pins s σ H Q I h
 refine isTrue_or (pN (ha pins s σ H _ I h) λ c s1 ⟨H1,I1,q1⟩=>?_)
 cases c with
 |true=>exact⟨H1,I1,q1⟩
 |false=>exact hb wh pins s1 σ H1 Q I1 q1
theorem vi(ha:PT X a tA):PT X (.UnaryOp .Not a pos) (acW tA):=by
 intro pins s σ H Q I h
 exact isTrue_not (ha pins s σ H (λ c H1=>Q (!c) H1) I h)
def aa0(ta tb:TE):TE:=λ σ H Q=>ta σ H λ x H1=>∃c,x= .bl c/\if c=true then tb σ H1 Q else Q (.bl false) H1
theorem LA{op}{t:TE}(h:PE X a t):PE X (.BoolOp op [a] pos) t:=λ pins s σ H Q I hw=>BoolOp_one (h pins s σ H Q I hw)
theorem LB(ha:PE X a ta)(hb:PE X (.BoolOp .And (b::rest) pos) tb):PE X (.BoolOp .And (a::b::rest) pos) (aa0 ta tb):=by
 intro pins s σ H Q I h
 refine BoolOp_and (pN (ha pins s σ H _ I h) λ v s1 ⟨x,H1,I1,r1,q1⟩=>?_)
 obtain⟨c,rfl,q1⟩:=q1
 cases r1
 refine cP ?_
 cases c with
 |true=>exact hb pins s1 σ H1 Q I1 q1
 |false=>exact⟨.bl false,H1,I1,rfl,q1⟩
def tIf(t:TT)(ta tb:TE):TE:=λ σ H Q=>t σ H λ c H1=>if c=true then ta σ H1 Q else tb σ H1 Q
theorem Nz{c:bJ}(hc:PT X c tA)(ha:PE X a ta)(hb:PE X b tb):PE X (.IfExp c a b pos) (tIf tA ta tb):=by
 intro pins s σ H Q I h
 refine wpAny_IfExp (pN (hc pins s σ H _ I h) λ d s1 ⟨H1,I1,q1⟩=>?_)
 cases d with
 |true=>exact ha pins s1 σ H1 Q I1 q1
 |false=>exact hb pins s1 σ H1 Q I1 q1
end
end L2
namespace L2
open PySem PySem.Spec PyProof.Rows
def nF(K:ah)(H:Hp)(a:ag)(xs:List V):Prop:=
 Rd H a (.lst xs)\/
  ∃(o:Obj) (oo:Array ao) (n:Nat),K.lookup a=some o/\o.cls= .type "list"/\o.dict=none/\o.data= .seq oo n/\oo.size<=ay/\Vals xs oo.toList
def Bj(K:ah)(H:Hp)(a:ag)(xs:List V):Prop:=
 Rd H a (.tup xs)\/
  ∃(o:Obj) (oo:Array ao) (n:Nat),K.lookup a=some o/\o.cls= .type "tuple"/\o.data= .seq oo n/\oo.size<=ay/\Vals xs oo.toList
def aej:ao->Option V
 | .none=>some .qB
 | .bool b=>some (.bl b)
 | .int i _=>some (.int i)
 | .str x _=>some (.str x)
 | .bytes b _=>some (.Lu b)
 | .float b _=>some (.flt b)
 | .ref a=>some (.ref a)
 | .type n=>some (.ty n)
 |_=>none
theorem RelV.abs{x:V}{u:ao}(r:RelV x u):aej u=some x:=by
 cases x with
 |qB=>cases r;rfl
 |bl _=>cases r;rfl
 |int _=>obtain⟨t,rfl⟩:=r;rfl
 |str _=>obtain⟨t,rfl⟩:=r;rfl
 |Lu _=>obtain⟨t,rfl⟩:=r;rfl
 |flt _=>obtain⟨t,rfl⟩:=r;rfl
 |ref _=>cases r;rfl
 |ty _=>cases r;rfl
theorem RelV.inj{x y:V}{u:ao}(r:RelV x u)(q:RelV y u):x=y:=Option.some.inj (r.abs.symm.trans q.abs)
theorem Vals.inj:∀{xs ys:List V} {us:List ao},Vals xs us->Vals ys us->xs=ys
 |_,_,_,.nil,.nil=>rfl
 |_,_,_,.cons r t,.cons r' t'=>by rw[r.inj r',Vals.inj t t']
section
variable{X:Cx}{pins:List (ag×Obj)}{σ:St}{H:Hp}{s:au}{a:ag}{xs ys:List V}
theorem nF.of{K:ah}(h:H a=some (.lst xs)):nF K H a xs:=.inl (.inl h)
theorem Bj.of{K:ah}(h:H a=some (.tup xs)):Bj K H a xs:=.inl (.inl h)
theorem Inv.list(I:Inv X pins σ H s)(h:nF X.K H a xs):∃oo:List ao,Vals xs oo/\PlainL s.heap a oo.toArray/\xs.length<=ay:=by
 rcases h with h|⟨o,oo,n,hk,hc,hd,hs,hz,r⟩
 ·obtain⟨z,oo,n,r,e⟩:=h.ok I.oY
  exact⟨oo,r,⟨_,n,e,rfl,rfl,rfl⟩,z⟩
 ·refine⟨oo.toList,r,⟨o,n,I.Ff a o hk,hc,hd,by simpa using hs⟩,?_⟩
  have e:=r.length
  simp only[Array.length_toList]at e
  omega
theorem Inv.tuple(I:Inv X pins σ H s)(h:Bj X.K H a xs):∃oo:List ao,Vals xs oo/\IsTup s.heap a oo.toArray/\xs.length<=ay:=by
 rcases h with h|⟨o,oo,n,hk,hc,hs,hz,r⟩
 ·obtain⟨z,oo,r,p⟩:=h.ok I.oY
  exact⟨oo,r,p,z⟩
 ·refine⟨oo.toList,r,⟨o,I.Ff a o hk,hc,n,by simpa using hs⟩,?_⟩
  have e:=r.length
  simp only[Array.length_toList]at e
  omega
theorem Inv.vj(I:Inv X pins σ H s)(h:nF X.K H a xs)(h':nF X.K H a ys):xs=ys:=by
 obtain⟨oo,r,⟨o,n,e,_,_,d⟩,_⟩:=I.list h
 obtain⟨its',r',⟨o',n',e',_,_,d'⟩,_⟩:=I.list h'
 rw[e]at e';cases e'
 rw[d]at d'
 injection d' with d1 _
 have:oo=its':=by simpa using congrArg Array.toList d1
 subst this
 exact r.inj r'
end
abbrev Cx.xS(X:Cx)(E:ao->au->Prop):Cx:={ X with xe:=E }
abbrev Cx.nox(X:Cx):Cx:=X.xS λ _ _=>False
theorem Cx.Ok.xS{X:Cx}(ok:X.Ok)(E:ao->au->Prop):(X.xS E).Ok:=
 ⟨ok.mod,ok.kind,ok.glob,ok.blt,ok.above,ok.inj,ok.has,ok.cab,ok.hd,ok.frames,ok.stk,ok.exf,ok.bs,ok.Ss,ok.Nv,ok.Nw,ok.Bg,ok.VZ⟩
theorem Cx.Ok.sG{X:Cx}{E:ao->au->Prop}(ok:(X.xS E).Ok):X.Ok:=
 ⟨ok.mod,ok.kind,ok.glob,ok.blt,ok.above,ok.inj,ok.has,ok.cab,ok.hd,ok.frames,ok.stk,ok.exf,ok.bs,ok.Ss,ok.Nv,ok.Nw,ok.Bg,ok.VZ⟩
section
variable{X:Cx}{pins:List (ag×Obj)}{σ:St}{H:Hp}{s:au}{E:ao->au->Prop}
theorem Inv.xS(I:Inv X pins σ H s)(E:ao->au->Prop):Inv (X.xS E) pins σ H s:=⟨I.ok.xS E,I.os,I.bare,I.base,I.loc,I.cell,I.free,I.uC,I.pin,I.oY,I.len⟩
theorem Inv.sG(I:Inv (X.xS E) pins σ H s):Inv X pins σ H s:=⟨I.ok.sG,I.os,I.bare,I.base,I.loc,I.cell,I.free,I.uC,I.pin,I.oY,I.len⟩
theorem SP.sG{D:Ends}{f:Flow}{s':au}(h:SP (X.xS E) pins D f s'):SP X pins D f s':=by
 cases f with
 |next=>obtain⟨σ',H',I,q⟩:=h;exact⟨σ',H',I.sG,q⟩
 |brk=>obtain⟨σ',H',I,q⟩:=h;exact⟨σ',H',I.sG,q⟩
 |cont=>obtain⟨σ',H',I,q⟩:=h;exact⟨σ',H',I.sG,q⟩
 |ret u=>obtain⟨v,σ',H',I,r,q⟩:=h;exact⟨v,σ',H',I.sG,r,q⟩
theorem Lx.nox{st:List bA}{t:TS}(h:Lx X.nox st t):Lx X st t:=λ pins s σ H D I hw=>
 cQ (h pins s σ H D (I.xS _) hw) (λ _ _ q=>q.sG) λ _ _ z=>False.elim z
end
section
variable{X:Cx}{st:bA}{rest:List bA}{t u:TS}{e:bJ}{te:TE}{pos:Pos}
def acX:TS:=λ D σ H=>D.nx σ H
def aek(t u:TS):TS:=λ D σ H=>t { D with nx:=u D } σ H
theorem n9:Lx X [] acX:=λ _ _ σ H _ I h=>gh ⟨σ,H,I,h⟩
theorem mY(h1:PS X st t)(h2:Lx X rest u):Lx X (st::rest) (aek t u):=by
 intro pins s σ H D I h
 refine mj (pN (h1 pins s σ H { D with nx:=u D } I h) λ f s1 q=>?_)
 cases f with
 |next=>
  obtain⟨σ',H',I',q⟩:=q
  exact h2 pins s1 σ' H' D I' q
 |ret v=>exact q
 |brk=>exact q
 |cont=>exact q
theorem m7(h1:PS X st t):Lx X [st] t:=by
 intro pins s σ H D I h
 refine mj (pN (h1 pins s σ H D I h) λ f s1 q=>?_)
 cases f with
 |next=>exact gh q
 |ret v=>exact q
 |brk=>exact q
 |cont=>exact q
theorem Inv.quiet{pins:List (ag×Obj)}{σ:St}{H:Hp}{s:au}(I:Inv X pins σ H s):interactive X.env=false:=by simp[interactive,I.ok.kind]
def acY(te:TE):TS:=λ D σ H=>te σ H λ _ H1=>D.nx σ H1
theorem og(he:PE X e te)(hs:hX e none pos.line X.env=pure false:=by rfl):PS X (.Expr e pos) (acY te):=by
 intro pins s σ H D I h
 exact wpAny_Expr_any (pN (he pins s σ H _ I h) λ v s1 ⟨x,H1,I1,r1,q1⟩=>⟨σ,H1,I1,q1⟩) I.quiet hs
def acZ(te:TE):TS:=λ D σ H=>te σ H D.rt
theorem nq(he:PE X e te):PS X (.Return (some e) pos) (acZ te):=by
 intro pins s σ H D I h
 exact wpAny_Return_some (pN (he pins s σ H _ I h) λ v s1 ⟨x,H1,I1,r1,q1⟩=>⟨x,σ,H1,I1,r1,q1⟩)
def abo(c:TT)(t u:TS):TS:=λ D σ H=>c σ H λ b H1=>if b=true then t D σ H1 else u D σ H1
theorem pk{c:bJ}{a b:List bA}{tc:TT}(hc:PT X c tc)(ha:Lx X a t)(hb:Lx X b u):PS X (.If c a b pos) (abo tc t u):=by
 intro pins s σ H D I h
 refine wpAny_If (pN (hc pins s σ H _ I h) λ d s1 ⟨H1,I1,q1⟩=>?_)
 cases d with
 |true=>exact ha pins s1 σ H1 D I1 q1
 |false=>exact hb pins s1 σ H1 D I1 q1
end
abbrev TG:=V->St->Hp->(St->Hp->Prop)->Prop
abbrev TGs:=List V->St->Hp->(St->Hp->Prop)->Prop
def PG(X:Cx)(target:bJ)(t:TG):Prop:=
 ∀(pins:List (ag×Obj)) (s:au) (σ:St) (H:Hp) (v:V) (u:ao) (Q:St->Hp->Prop),Inv X pins σ H s->RelV v u->t v σ H Q->
  aV (aS X.prog X.w) X.A (jY target X.env u) (λ _ s'=>∃σ' H',Inv X pins σ' H' s'/\Q σ' H') X.xe s
def PGs(X:Cx)(ts:List bJ)(t:TGs):Prop:=
 ∀(pins:List (ag×Obj)) (s:au) (σ:St) (H:Hp) (vs:List V) (us:List ao) (Q:St->Hp->Prop),Inv X pins σ H s->Vals vs us->t vs σ H Q->
  aV (aS X.prog X.w) X.A (assignInOrder ((fO ts X.env).map (·.2)) us) (λ _ s'=>∃σ' H',Inv X pins σ' H' s'/\Q σ' H') X.xe s
abbrev Wl:=V->V->V->Hp->(Hp->Prop)->Prop
def abp(X:Cx)(t:Wl):Prop:=
 ∀(pins:List (ag×Obj)) (s:au) (σ:St) (H:Hp) (o i v:V) (ov iv u:ao) (Q:Hp->Prop),Inv X pins σ H s->RelV o ov->RelV i iv->RelV v u->t o i v H Q->
  aV (aS X.prog X.w) X.A (mf ov iv u) (λ _ s'=>∃H',Inv X pins σ H' s'/\Q H') X.xe s
abbrev TIp:=V->V->Hp->VK->Prop
def PIp(X:Cx)(op:js)(t:TIp):Prop:=
 ∀(pins:List (ag×Obj)) (s:au) (σ:St) (H:Hp) (x y:V) (v u:ao) (Q:VK),Inv X pins σ H s->RelV x v->RelV y u->t x y H Q->
  aV (aS X.prog X.w) X.A (mw op v u) (EP X pins σ Q) X.xe s
section
variable{X:Cx}{pos:Pos}
def Sw(i:Nat):TG:=λ v σ H Q=>Q (σ.set i (some v)) H
theorem nB{i:Nat}{x:Str}(hN:X.N.Nodup)(hi:X.N[i]? =some x)(hx:Loc X.env.scope x)(hf:X.fn x=true\/X.env.scope.names.lookup x=some .local:=by first|exact .inl rfl|exact .inr rfl|assumption):PG X (.Name x pos) (Sw i):=by
 intro pins s σ H v u Q I r h
 exact me (C1 I hN hi hx r (λ s' I'=>⟨_,H,I',h⟩) hf)
def ael:TGs:=λ vs σ H Q=>vs=[]/\Q σ H
def ac0(t:TG)(u:TGs):TGs:=λ vs σ H Q=>∃v r,vs=v::r/\t v σ H λ σ' H'=>u r σ' H' Q
theorem rD:PGs X [] ael:=by
 intro pins s σ H vs us Q I r h
 obtain⟨e,h⟩:=h
 subst e
 cases r
 exact assignInOrder_nil ⟨σ,H,I,h⟩
theorem oK{e:bJ}{es:List bJ}{t:TG}{u:TGs}(h1:PG X e t)(h2:PGs X es u)
  (hs:(fO (e::es) X.env).map (·.2)=jY e X.env::(fO es X.env).map (·.2):=by rfl):PGs X (e::es) (ac0 t u):=by
 intro pins s σ H vs us Q I r h
 obtain⟨v,vr,e1,h⟩:=h
 subst e1
 cases r with
 |cons r rr=>
  rw[hs]
  refine assignInOrder_cons (pN (h1 pins s σ H _ _ _ I r h) λ _ s1 ⟨σ1,H1,I1,q1⟩=>?_)
  exact h2 pins s1 σ1 H1 _ _ Q I1 rr q1
def ac1(K:ah)(n:Nat)(t:TGs):TG:=λ v σ H Q=>∃a xs,v= .ref a/\Bj K H a xs/\xs.length=n/\t xs σ H Q
theorem zG{es:List bJ}{k:Nat}{t:TGs}{n:Nat}(hc:X.calm=true)(h:PGs X es t)
  (hn:(fO es X.env).length=n:=by rfl)(LC:(fO es X.env).findIdx? (·.1)=none:=by rfl):PG X (.Tuple es k pos) (ac1 X.K n t):=by
 intro pins s σ H v u Q I r hw
 obtain⟨a,xs,e1,hq,hl,hw⟩:=hw
 subst e1
 cases r
 obtain⟨oo,rv,ht,hz⟩:=I.tuple hq
 refine assign_Tuple_tuple (I.ok.hd hc) ht (by simp[hn,<-hl,rv.length]) LC λ h' hx=>?_
 have I1:Inv X pins σ H { s with heap:=h' }:=I.kept (t':=s.toks) λ b o e=>hx b o (bL (Heap.lt_size e)) e
 exact h pins _ σ H xs _ Q I1 (by simpa using rv) hw
def aem(to ti:TE)(t:Wl):TG:=λ v σ H Q=>to σ H λ o H1=>ti σ H1 λ i H2=>t o i v H2 λ H3=>Q σ H3
theorem abq{o i:bJ}{to ti:TE}{t:Wl}(ho:PE X o to)(hi:PE X i ti)(hs:abp X t)
  (ha:∀v,jY (.Subscript o i pos) X.env v=(do
   let ov <-gp [v] (cu o X.env)
   let iv <-gp [v,ov] (cu i X.env)
   iu pos
   gp [v,ov,iv] (mf ov iv v)
   release [v,ov,iv] []):=by intro _;rfl):PG X (.Subscript o i pos) (aem to ti t):=by
 intro pins s σ H v u Q I r h
 rw[ha]
 refine aq (fR (pN (ho pins s σ H _ I h) λ ov s1 ⟨x,H1,I1,r1,q1⟩=>?_))
 refine aq (fR (pN (hi pins s1 σ H1 _ I1 q1) λ iv s2 ⟨y,H2,I2,r2,q2⟩=>?_))
 refine aq (gQ (aq (fR (pN (hs pins s2 σ H2 x y v ov iv u _ I2 r1 r2 r q2) λ _ s3 ⟨H3,I3,q3⟩=>?_))))
 exact wpAny_release ⟨σ,H3,I3,q3⟩
def abr(te:TE)(g:TG):TS:=λ D σ H=>te σ H λ x H1=>g x σ H1 D.nx
theorem abt{tg e:bJ}{te:TE}{g:TG}(he:PE X e te)(hg:PG X tg g)(hs:swapsWithSole [tg] e pos.line X.env=pure false:=by rfl)(hw:swappedStores [tg] e X.env=pure none:=by rfl)
  (h1:(fO [tg] X.env).map (·.2)=[jY tg X.env]:=by rfl):PS X (.Assign [tg] e pos) (abr te g):=by
 intro pins s σ H D I h
 refine wpAny_Assign_stores (pN (he pins s σ H _ I h) λ v s1 ⟨x,H1,I1,r1,q1⟩=>?_) hs hw
 rw[h1]
 exact pN (hg pins s1 σ H1 x v _ I1 r1 q1) λ _ s2 q=>q
theorem m9{i:Nat}{x:Str}{e:bJ}{te:TE}{pos':Pos}(hN:X.N.Nodup)(hi:X.N[i]? =some x)(hx:Loc X.env.scope x)(he:PE X e te)(hs:hX e (some (.Name x pos')) pos.line X.env=pure false:=by rfl)(hf:X.fn x=true\/X.env.scope.names.lookup x=some .local:=by first|exact .inl rfl|exact .inr rfl|assumption):
  PS X (.Assign [.Name x pos'] e pos) (abr te (Sw i)):=by
 intro pins s σ H D I h
 refine wpAny_Assign_Name (pN (he pins s σ H _ I h) λ v s1 ⟨y,H1,I1,r1,q1⟩=>?_) hs
 exact C1 I1 hN hi hx r1 (λ s2 I2=>⟨_,H1,I2,q1⟩) hf
def aen(i:Nat)(te:TE)(ti:TIp):TS:=λ D σ H=>∃x,σ[i]? =some (some x)/\te σ H λ y H1=>ti x y H1 λ z H2=>D.nx (σ.set i (some z)) H2
theorem G_{i:Nat}{x:Str}{e:bJ}{te:TE}{op:js}{ti:TIp}{pos':Pos}(hN:X.N.Nodup)(hi:X.N[i]? =some x)(hx:Loc X.env.scope x)(he:PE X e te)(ho:PIp X op ti)(hf:X.fn x=true\/X.env.scope.names.lookup x=some .local:=by first|exact .inl rfl|exact .inr rfl|assumption):
  PS X (.AugAssign (.Name x pos') op e pos) (aen i te ti):=by
 intro pins s σ H D I h
 obtain⟨v,e1,h⟩:=h
 obtain⟨m,hn,hl⟩:=I.loc
 have vis:Vis X.env.scope x:=by rcases hx with k|k;exact .inl k;exact .inr (.inl k)
 obtain⟨u,r,l⟩:=hl i x v hi e1 vis
 refine wpAny_AugAssign_Name ?_
 have go:aV (aS X.prog X.w) X.A (cu e X.env) (λ w s₂=>aV (aS X.prog X.w) X.A (mw op u w) (λ r s₃=>aV (aS X.prog X.w) X.A (mr X.env x r) (λ _=>SP X pins D .next) X.xe s₃) X.xe s₂) X.xe s:=by
  refine pN (he pins s σ H _ I h) λ w s1 ⟨y,H1,I1,r1,q1⟩=>?_
  refine pN (ho pins s1 σ H1 v y u w _ I1 r r1 q1) λ z s2 ⟨zv,H2,I2,r2,q2⟩=>?_
  exact C1 I2 hN hi hx r2 (λ s3 I3=>⟨_,H2,I3,q2⟩) hf
 rcases l with⟨hk,hm⟩|⟨hk,c,hc,Sv⟩
 ·exact ll I.ok.kind hk hn hm go
 ·rcases hk with hk|hk
  ·exact lJ I.ok.kind hk hc Sv go
  ·rcases hx with k|k
   ·have:X.env.scope.names.lookup x=some .free:=hk
    rw[k]at this;cases this
   ·have:X.env.scope.names.lookup x=some .free:=hk
    rw[k]at this;cases this
def ac2(to ti te:TE)(Zs:V->V->Hp->VK->Prop)(tip:TIp)(Zt:Wl):TS:=λ D σ H=>to σ H λ o H1=>ti σ H1 λ i H2=>Zs o i H2 λ x H3=>te σ H3 λ y H4=>tip x y H4 λ z H5=>Zt o i z H5 λ H6=>D.nx σ H6
def ac3(X:Cx)(t:V->V->Hp->VK->Prop):Prop:=
 ∀(pins:List (ag×Obj)) (s:au) (σ:St) (H:Hp) (o i:V) (ov iv:ao) (Q:VK),Inv X pins σ H s->RelV o ov->RelV i iv->t o i H Q->
  aV (aS X.prog X.w) X.A (jo ov iv) (EP X pins σ Q) X.xe s
theorem AR{o i e:bJ}{to ti te:TE}{Zs:V->V->Hp->VK->Prop}{tip:TIp}{Zt:Wl}{op:js}{Bh:Pos}(ho:PE X o to)(hi:PE X i ti)(hg:ac3 X Zs)(he:PE X e te)(hp:PIp X op tip)(hs:abp X Zt)
  (ha:∀ov iv new,augStore i ov iv new=(do gp [new,ov,iv] (mf ov iv new);release [new,ov,iv] [];pure .next):=by intros;rfl):PS X (.AugAssign (.Subscript o i Bh) op e pos) (ac2 to ti te Zs tip Zt):=by
 intro pins s σ H D I h
 refine wpAny_AugAssign_SubscriptAny (pN (ho pins s σ H _ I h) λ ov s1 ⟨x1,H1,I1,r1,q1⟩=>?_) ha
 refine pN (hi pins s1 σ H1 _ I1 q1) λ iv s2 ⟨x2,H2,I2,r2,q2⟩=>?_
 refine pN (hg pins s2 σ H2 x1 x2 ov iv _ I2 r1 r2 q2) λ old s3 ⟨x3,H3,I3,r3,q3⟩=>?_
 refine pN (he pins s3 σ H3 _ I3 q3) λ v s4 ⟨x4,H4,I4,r4,q4⟩=>?_
 refine pN (hp pins s4 σ H4 x3 x4 old v _ I4 r3 r4 q4) λ new s5 ⟨x5,H5,I5,r5,q5⟩=>?_
 exact pN (hs pins s5 σ H5 x1 x2 x5 ov iv new _ I5 r1 r2 r5 q5) λ _ s6 ⟨H6,I6,q6⟩=>⟨σ,H6,I6,q6⟩
def ipI(f:Int->Int->Int):TIp:=λ x y H Q=>∃i j,x= .int i/\y= .int j/\Q (.int (f i j)) H
theorem zH:PIp X .Add (ipI λ i j=>i+j):=by
 intro pins s σ H x y v u Q I r1 r2 h
 obtain⟨i,j,e1,e2,q⟩:=h
 subst e1;subst e2
 obtain⟨t,rfl⟩:=r1
 obtain⟨t',rfl⟩:=r2
 exact kY ⟨.int _,H,I.tok _,⟨_,rfl⟩,q⟩
theorem Qb:PIp X .Sub (ipI λ i j=>i-j):=by
 intro pins s σ H x y v u Q I r1 r2 h
 obtain⟨i,j,e1,e2,q⟩:=h
 subst e1;subst e2
 obtain⟨t,rfl⟩:=r1
 obtain⟨t',rfl⟩:=r2
 exact isub_int ⟨.int _,H,I.tok _,⟨_,rfl⟩,q⟩
end
section
variable{X:Cx}{pos:Pos}
def abu(c:TT)(tb:TS):TS:=λ D σ H=>∃W:Nat->St->Hp->Prop,(∃m,W m σ H)/\∀m σ H,W m σ H->
 c σ H λ b H1=>if b=true then ∃N:St->Hp->Prop,(∀σ' H',N σ' H'->∃m',m'<m/\W m' σ' H')/\tb { D with nx:=N,ct:=N,bk:=D.nx } σ H1 else D.nx σ H1
theorem rN{c:bJ}{body:List bA}{tc:TT}{tb:TS}(hp:mx (aS X.prog X.w) X.A X.env X.xe)(hc:PT X c tc)(hb:Lx X body tb):PS X (.While c body [] pos) (abu tc tb):=by
 intro pins s σ H D I h
 obtain⟨W,⟨m0,w0⟩,turn⟩:=h
 refine wpAny_While (codeAny_whileLoop (λ n s'=>∃σ' H',Inv X pins σ' H' s'/\W n σ' H') ?_ m0 ⟨σ,H,I,w0⟩)
 rintro n s1 ⟨σ1,H1,I1,w1⟩
 refine d6 hp (pN (hc pins s1 σ1 H1 _ I1 (turn n σ1 H1 w1)) λ b s2 ⟨H2,I2,q2⟩=>?_)
 cases b with
 |true=>
  obtain⟨N,hN,q2⟩:=q2
  rw[if_pos rfl]
  refine d6 hp (pN (hb pins s2 σ1 H2 _ I2 q2) λ f s3 q3=>?_)
  cases f with
  |next=>
   obtain⟨σ3,H3,I3,n3⟩:=q3
   obtain⟨m',hm,w3⟩:=hN σ3 H3 n3
   exact⟨m',hm,σ3,H3,I3,w3⟩
  |cont=>
   obtain⟨σ3,H3,I3,n3⟩:=q3
   obtain⟨m',hm,w3⟩:=hN σ3 H3 n3
   exact⟨m',hm,σ3,H3,I3,w3⟩
  |brk=>exact q3
  |ret v=>exact q3
 |false=>
  rw[if_neg a0]
  exact gh ⟨σ1,H2,I2,q2⟩
end
structure It where
 go:Nat->Hp->Prop
 Ha:Nat->Hp->V->Hp->Prop
 stop:Nat->Hp->Prop
def GF(X:Cx)(pins:List (ag×Obj))(H:Hp)(b:ag):Prop:=
 H b=none/\b≠X.env.locals/\b∉X.fs/\(b∈X.ex\/X.JR.heap.objs.size<=b)/\(∀x c,X.env.cells.lookup x=some c->c≠b)/\∀p∈X.pn++pins,p.1≠b
theorem Inv.Qc{X:Cx}{pins:List (ag×Obj)}{σ:St}{H H':Hp}{s:au}{b:ag}(I:Inv X pins σ H s)(hb:s.heap.objs.size<=b)(hn:H' b=none):GF X pins H' b:=by
 refine⟨hn,fZ (aU I.lt hb),I.aef hb,.inr (aT I.sz hb),λ x c e z=>?_,λ p hp z=>?_⟩
 ·obtain⟨v,q⟩:=I.cell x c e
  exact absurd (aU q.lt (by rw[z];exact hb)) (cX _)
 ·exact absurd (aU (Heap.lt_size (I.pin p hp).1) (by rw[z];exact hb)) (cX _)
structure Turn(P:aJ)(w:aY)(K:ah)(tg:bJ)(J:It)(fp:List ag)(it:ag)(tn:Nat->bw->Prop):Prop where
 mem:it∈fp
 obj:∀i h,tn i h->∀b∈fp,∃o,h.get? b=some o/\∀v,o.data≠ .cell v
 keep:∀i h h',tn i h->(∀b∈fp,∀o,h.get? b=some o->h'.get? b=some o)->tn i h'
 item:∀(X:Cx),X.prog=P->X.w=w->X.K=K->X.calm=true->∀(i:Nat) (pins:List (ag×Obj)) (s:au) (σ:St) (H:Hp) (E:ao->au->Prop),Inv X pins σ H s->(∀b∈fp,GF X pins H b)->tn i s.heap->J.go i H->
  aV (aS P w) X.A (jU (.ref it)) (λ r s1=>∃u,r=some u/\
   aV (aS P w) X.A (iy tg (.ref it) u) (λ _ s2=>∃x H',Inv X pins σ H' s2/\RelV x u/\J.Ha i H x H'/\tn (i+1) s2.heap/\∀b∈fp,H' b=none) E s1) E s
 done:∀(X:Cx),X.prog=P->X.w=w->X.K=K->X.calm=true->∀(i:Nat) (pins:List (ag×Obj)) (s:au) (σ:St) (H:Hp) (E:ao->au->Prop),Inv X pins σ H s->(∀b∈fp,GF X pins H b)->tn i s.heap->J.stop i H->
  aV (aS P w) X.A (jU (.ref it)) (λ r s1=>r=none/\Inv X pins σ H s1) E s
 self:∀(A:bU) (i:Nat) (s:au) (Q:ao->au->Prop) (E:ao->au->Prop),tn i s.heap->Q (.ref it) s->aV (aS P w) A (mL (.ref it)) Q E s
abbrev TI:=St->Hp->(It->Hp->Prop)->Prop
def PIE(X:Cx)(pins:List (ag×Obj))(σ:St)(tg:bJ)(R:It->Hp->Prop)(itv:ao)(s2:au):Prop:=
 ∃(it:ag) (fp:List ag) (tn:Nat->bw->Prop) (J:It) (H':Hp),itv= .ref it/\Inv X pins σ H' s2/\Turn X.prog X.w X.K tg J fp it tn/\tn 0 s2.heap/\(∀b∈fp,GF X pins H' b)/\R J H'
def PI(X:Cx)(tg iter:bJ)(wi:TI):Prop:=
 ∀(pins:List (ag×Obj)) (s:au) (σ:St) (H:Hp) (R:It->Hp->Prop),Inv X pins σ H s->wi σ H R->
  aV (aS X.prog X.w) X.A (cu iter X.env) (λ v s1=>aV (aS X.prog X.w) X.A (mL v) (PIE X pins σ tg R) X.xe s1) X.xe s
theorem Sx{M:jJ}{A:bU}{E:ao->au->Prop}{s:au}{tg:bJ}{it:ag}{u:ao}{o:Obj}{n:String}{vs:Array ao}{Q:Unit->au->Prop}(ho:s.heap.get? it=some o)(hc:o.cls= .type n)(hd:o.data= .fields vs)
  (hn:["enumerate","zip","dict_itemiterator","dict_reverseitemiterator","odict_iterator","itertools.zip_longest","itertools.pairwise"].contains n=false)(hQ:Q () s):aV M A (iy tg (.ref it) u) Q E s:=by
 unfold iy
 cases tg <;> first
  |exact aM hQ
  |(cases u <;> first
    |exact aM hQ
    |(refine aq (wpAny_load ho ?_)
      rw[hc,hd]
      show aV M A (if(["enumerate","zip","dict_itemiterator","dict_reverseitemiterator","odict_iterator","itertools.zip_longest","itertools.pairwise"].contains n && vs[0]? == some (dM _))=true then _ else _) Q E s
      rw[if_neg (by intro h;rw[hn,ik]at h;cases h)]
      exact aM hQ))
def Itl(K:ah)(a:ag):It:=
 ⟨λ i H=>∃xs x,nF K H a xs/\xs[i]? =some x,λ i H x H'=>H'=H/\∀xs,nF K H a xs->xs[i]? =some x,λ i H=>∃xs,nF K H a xs/\xs.length<=i⟩
def Itr(lo:Int)(n:Nat):It:=⟨λ i _=>i<n,λ i H x H'=>H'=H/\x= .int (lo+i),λ i _=>n<=i⟩
theorem Ul{P:aJ}{w:aY}{K:ah}{tg:bJ}(a it:ag):Turn P w K tg (Itl K a) [it] it (λ i h=>h.IsListIter it a i) where
 mem:=by simp
 obj:=λ i h st b hb=>by
  have e:b=it:=by simpa using hb
  subst e
  obtain⟨o,e,c,d⟩:=st
  exact⟨o,e,λ v z=>by rw[d]at z;cases z⟩
 keep:=λ i h h' st k=>st.at λ o e=>k it (by simp) o e
 item:=by
  intro X hP hw hK hc i pins s σ H E I hf st hg
  subst hP hw hK
  obtain⟨xs,x,hq,hx⟩:=hg
  obtain⟨oo,rv,p,hz⟩:=I.list hq
  obtain⟨u,hu,ru⟩:=rv.get hx
  obtain⟨f0,f1,f2,f3,f4,f5⟩:=hf it (by simp)
  refine wpAny_pyNext_list_item st p.isList (x:=u) (by simpa using hu) λ h' Ec sb=>?_
  have I1:Inv X pins σ H { s with heap:=h' }:=I.turned (t':=s.toks) (λ b o hb e=>(sb.2 b hb).trans e) f0 f1 f3 f4 f5
  obtain⟨o,e,c,d⟩:=id Ec
  exact⟨u,rfl,Sx (s:={ s with heap:=h' }) e c d (by decide) ⟨x,H,I1,ru,⟨rfl,λ ys hy=>by rw[I.vj hy hq];exact hx⟩,Ec,λ b hb=>(hf b hb).1⟩⟩
 done:=by
  intro X hP hw hK hc i pins s σ H E I hf st hg
  subst hP hw hK
  obtain⟨xs,hq,hx⟩:=hg
  obtain⟨oo,rv,p,hz⟩:=I.list hq
  obtain⟨f0,f1,f2,f3,f4,f5⟩:=hf it (by simp)
  have hl:=rv.length
  exact wpAny_pyNext_list_end (I.ok.hd hc) st p.isList (by simp;omega) λ h' eb=>⟨rfl,I.turned (t':=s.toks) (λ b o hb e=>eb b o hb e) f0 f1 f3 f4 f5⟩
 self:=λ _ _ _ _ _ st h=>wpAny_pyIter_listiter st h
theorem Qd{P:aJ}{w:aY}{K:ah}{tg:bJ}(it:ag)(lo:Int)(n:Nat):Turn P w K tg (Itr lo n) [it] it (λ i h=>jK h it (lo+(i:Nat)*1) ((n:Int)-(i:Nat)) 1) where
 mem:=by simp
 obj:=λ i h st b hb=>by
  have e:b=it:=by simpa using hb
  subst e
  exact⟨_,st,λ v z=>by
   have z':Data.fields _=Data.cell v:=z
   cases z'⟩
 keep:=λ i h h' st k=>k it (by simp) _ st
 item:=by
  intro X hP hw hK hc i pins s σ H E I hf st hg
  subst hP hw hK
  obtain⟨f0,f1,f2,f3,f4,f5⟩:=hf it (by simp)
  have W:=Walks.range (prog:=X.prog) (w:=X.w) (I.ok.hd hc) it lo 1 n
  refine W.item i s _ _ hg st λ v h' tk hv Ec kk=>?_
  obtain⟨t,rfl⟩:=hv
  have I1:Inv X pins σ H { s with heap:=h',toks:=tk }:=I.turned (λ b o hb e=>kk b o (by simpa using hb) e) f0 f1 f3 f4 f5
  refine⟨_,rfl,Sx (s:={ s with heap:=h',toks:=tk }) (n:="range_iterator") Ec rfl rfl (by decide) ⟨.int (lo+i),H,I1,⟨t,?_⟩,⟨rfl,rfl⟩,Ec,λ b hb=>(hf b hb).1⟩⟩
  rw[Int.mul_one]
 done:=by
  intro X hP hw hK hc i pins s σ H E I hf st hg
  subst hP hw hK
  obtain⟨f0,f1,f2,f3,f4,f5⟩:=hf it (by simp)
  exact kM (I.ok.hd hc) st (by have:n<=i:=hg;omega) λ h' eb=>⟨rfl,I.turned (t':=s.toks) (λ b o hb e=>eb b o hb e) f0 f1 f3 f4 f5⟩
 self:=λ _ _ _ _ _ st h=>kN st h
end L2
namespace L2
open PySem PySem.Spec PyProof.Rows
section
variable{X:Cx}{tg:bJ}
def ac4(K:ah)(tl:TE):TI:=λ σ H R=>tl σ H λ x H1=>∃a,x= .ref a/\(∃xs,nF K H1 a xs)/\R (Itl K a) H1
theorem oO{l:bJ}{tl:TE}(hl:PE X l tl):PI X tg l (ac4 X.K tl):=by
 intro pins s σ H R I h
 refine pN (hl pins s σ H _ I h) λ v s1 ⟨x,H1,I1,r1,q1⟩=>?_
 obtain⟨a,e,⟨xs,hq⟩,q⟩:=q1
 subst e
 cases r1
 obtain⟨oo,rv,p,hz⟩:=I1.list hq
 refine fC p.isList ?_
 refine⟨s1.heap.objs.size,[s1.heap.objs.size],_,_,H1,rfl,I1.kept (t':=s1.toks) λ b o e=>Heap.get?_push_of_some _ e,Ul a _,⟨_,Heap.get?_push_size _ rfl,rfl,rfl⟩,λ b hb=>?_,q⟩
 have e:b=s1.heap.objs.size:=by simpa using hb
 subst e
 exact I1.Qc (ax _) (I1.oY.fresh (ax _))
theorem NA{pins:List (ag×Obj)}{σ:St}{H:Hp}{s:au}{R:It->Hp->Prop}{E:ao->au->Prop}{lo hi:Int}{t u v:Tok}{tk:Nat}(I:Inv X pins σ H s)(h1: -(2 ^ 62)<=lo)(h2:lo<2 ^ 62)(h3: -(2 ^ 62)<=hi)(h4:hi<2 ^ 62)
  (q:R (Itr lo (hi-lo).toNat) H):aV (aS X.prog X.w) X.A (mL (.ref s.heap.objs.size)) (PIE X pins σ tg R) E { s with heap:=s.heap.push { cls:=.type "range",data:=.fields #[.int lo t,.int hi u,.int 1 v] },toks:=tk }:=by
 refine lP (IsRange.new ..) (small_one h1 h2 h3 h4) ?_
 have I1:Inv X pins σ H { s with heap:=s.heap.push { cls:=.type "range",data:=.fields #[.int lo t,.int hi u,.int 1 v] },toks:=tk }:=I.kept λ b o e=>Heap.get?_push_of_some _ e
 refine⟨(s.heap.push { cls:=.type "range",data:=.fields #[.int lo t,.int hi u,.int 1 v] }).objs.size,[(s.heap.push { cls:=.type "range",data:=.fields #[.int lo t,.int hi u,.int 1 v] }).objs.size],_,_,H,rfl,
  I1.kept (t':=tk) λ b o e=>Heap.get?_push_of_some _ e,Qd _ lo (hi-lo).toNat,?_,λ b hb=>?_,q⟩
 ·have e1:lo+((0:Nat):Int)*1=lo:=by simp
  have e2:(((hi-lo).toNat:Nat):Int)-((0:Nat):Int)=Builtin.Range.rangeSize lo hi 1:=by rw[mS];split <;> omega
  show jK _ _ (lo+((0:Nat):Int)*1) ((((hi-lo).toNat:Nat):Int)-((0:Nat):Int)) 1
  rw[e1,e2]
  exact Heap.get?_push_size _ rfl
 ·have e:b=(s.heap.push { cls:=.type "range",data:=.fields #[.int lo t,.int hi u,.int 1 v] }).objs.size:=by simpa using hb
  subst e
  exact I1.Qc (ax _) (I1.oY.fresh (ax _))
def ac5(ta:TA):TI:=λ σ H R=>ta σ H λ vs H1=>∃j:Int,vs=[.int j]/\ -(2 ^ 62)<=j/\j<2 ^ 62/\R (Itr 0 j.toNat) H1
def ac6(ta:TA):TI:=λ σ H R=>ta σ H λ vs H1=>∃i j:Int,vs=[.int i,.int j]/\(-(2 ^ 62)<=i/\i<2 ^ 62/\ -(2 ^ 62)<=j/\j<2 ^ 62)/\R (Itr i (j-i).toNat) H1
theorem xy{a:bJ}{ta:TA}{p pos:Pos}(hg:Gl X "range")(hm:X.mg "range"=none)(ha:PA X [a] ta)(hs:aN [a] X.env=[(false,cu a X.env)]:=by rfl):PI X tg (.Call (.Name "range" p) [a] [] pos) (ac5 ta):=by
 intro pins s σ H R I h
 refine ly (vh I hg hm j0 (bS (pN (ha pos pins s σ H _ I h) λ us s1 ⟨vs,H1,I1,r1,q1⟩=>?_) hs rfl))
 obtain⟨j,e,q1,q2,q⟩:=q1
 subst e
 cases r1 with
 |cons r rr=>
  cases rr
  obtain⟨t,rfl⟩:=r
  exact call_range_1 (NA I1 (by omega) (by omega) q1 q2 (by simpa using q))
theorem Kg{a b:bJ}{ta:TA}{p pos:Pos}(hg:Gl X "range")(hm:X.mg "range"=none)(ha:PA X [a,b] ta)(hs:aN [a,b] X.env=[(false,cu a X.env),(false,cu b X.env)]:=by rfl)(Um:aN [b] X.env=[(false,cu b X.env)]:=by rfl):
  PI X tg (.Call (.Name "range" p) [a,b] [] pos) (ac6 ta):=by
 intro pins s σ H R I h
 refine ly (vh I hg hm j0 (bS (pN (ha pos pins s σ H _ I h) λ us s1 ⟨vs,H1,I1,r1,q1⟩=>?_) (by rw[hs,Um]) (by rw[Um];rfl)))
 obtain⟨i,j,e,⟨q1,q2,q3,q4⟩,q⟩:=q1
 subst e
 cases r1 with
 |cons r rr=>
  cases rr with
  |cons r' rr=>
   cases rr
   obtain⟨t,rfl⟩:=r
   obtain⟨t',rfl⟩:=r'
   exact call_range_2 (NA I1 q1 q2 q3 q4 q)
def aeo(wi:TI)(g:TG)(tb:TS):TS:=λ D σ H=>wi σ H λ J H1=>∃W:Nat->Nat->St->Hp->Prop,(∃m,W 0 m σ H1)/\∀i m σ H,W i m σ H->
 (J.stop i H/\D.nx σ H)\/(J.go i H/\∃N:St->Hp->Prop,(∀σ' H',N σ' H'->∃m',m'<m/\W (i+1) m' σ' H')/\∀x H',J.Ha i H x H'->g x σ H' λ σ2 H2=>tb { D with nx:=N,ct:=N,bk:=D.nx } σ2 H2)
def Hb(fp:List ag)(h:bw):List (ag×Obj):=fp.filterMap λ b=>(h.get? b).map λ o=>(b,o)
theorem BD{fp:List ag}{h:bw}{b:ag}{o:Obj}(hb:b∈fp)(e:h.get? b=some o):(b,o)∈Hb fp h:=List.mem_filterMap.mpr ⟨b,hb,by rw[e];rfl⟩
theorem Uo{fp:List ag}{h:bw}{p:ag×Obj}(hp:p∈Hb fp h):p.1∈fp/\h.get? p.1=some p.2:=by
 obtain⟨b,hb,e⟩:=List.mem_filterMap.mp hp
 cases q:h.get? b with
 |none=>rw[q]at e;cases e
 |some o=>
  rw[q]at e
  have e':(b,o)=p:=Option.some.inj e
  subst e'
  exact⟨hb,q⟩
theorem Inv.pinned{pins:List (ag×Obj)}{σ:St}{H:Hp}{s:au}{fp:List ag}(I:Inv X pins σ H s)(hf:∀b∈fp,GF X pins H b)(ho:∀b∈fp,∃o,s.heap.get? b=some o/\∀v,o.data≠ .cell v):Inv X (pins++Hb fp s.heap) σ H s:=
 I.Lw λ p hp=>(List.mem_append.mp hp).elim (λ z=>I.pin p (cy _ z)) λ z=>by
  obtain⟨hb,e⟩:=Uo z
  obtain⟨f0,f1,f2,_⟩:=hf p.1 hb
  obtain⟨o,e',d⟩:=ho p.1 hb
  rw[e]at e';cases e'
  exact⟨e,f0,f1,f2,d⟩
theorem Inv.xA{pins pl:List (ag×Obj)}{σ:St}{H:Hp}{s:au}(I:Inv X (pins++pl) σ H s):Inv X pins σ H s:=I.Lw λ p hp=>I.pin p (cy _ (ic _ hp))
theorem qC{iter:bJ}{body:List bA}{wi:TI}{g:TG}{tb:TS}{pos:Pos}(hp:mx (aS X.prog X.w) X.A X.env X.xe)(hc:X.calm=true)(hi:PI X tg iter wi)(hg:PG X tg g)(hb:Lx X body tb)
  (hs:∀x,gL iter X.env x=pure x:=by intro _;rfl):PS X (.For tg iter body [] pos) (aeo wi g tb):=by
 intro pins s σ H D I h
 refine wpAny_For (pN (hi pins s σ H _ I h) λ v s1 h1=>pN h1 λ itv s2 h2=>?_) hs
 obtain⟨it,fp,tn,J,H2,e,I2,T,st2,f2,W,⟨m0,w0⟩,turn⟩:=h2
 subst e
 have Qe:∀{H':Hp},(∀b∈fp,H' b=none)->∀b∈fp,GF X pins H' b:=λ hn b hb=>⟨hn b hb,(f2 b hb).2⟩
 refine codeAny_forLoop_any (λ n s'=>∃i σ' H',Inv X pins σ' H' s'/\tn i s'.heap/\(∀b∈fp,H' b=none)/\W i n σ' H') ?_ m0 ⟨0,σ,H2,I2,st2,λ b hb=>(f2 b hb).1,w0⟩
 rintro n s3 ⟨i,σ3,H3,I3,st3,fr3,w3⟩
 rcases turn i n σ3 H3 w3 with⟨stop,qn⟩|⟨go,N,hN,step⟩
 ·refine d6 hp (pN (T.done X rfl rfl rfl hc i pins s3 σ3 H3 X.xe I3 (Qe fr3) st3 stop) λ r s4 ⟨hr,I4⟩=>?_)
  subst hr
  exact gh ⟨σ3,H3,I4,qn⟩
 ·refine d6 hp (pN (T.item X rfl rfl rfl hc i pins s3 σ3 H3 X.xe I3 (Qe fr3) st3 go) λ r s4 ⟨u,hr,h4⟩=>?_)
  subst hr
  refine d6 hp (pN h4 λ _ s5 ⟨x,H5,I5,r5,y5,st5,fr5⟩=>?_)
  have I5':=I5.pinned (Qe fr5) (T.obj _ _ st5)
  refine d6 hp (pN (hg _ s5 σ3 H5 x u _ I5' r5 (step x H5 y5)) λ _ s6 ⟨σ6,H6,I6,q6⟩=>?_)
  refine d6 hp (pN (hb _ s6 σ6 H6 _ I6 q6) λ f s7 q7=>?_)
  have again:∀{σ7:St} {H7:Hp},Inv X (pins++Hb fp s5.heap) σ7 H7 s7->N σ7 H7->∃m,m<n/\∃i σ' H',Inv X pins σ' H' s7/\tn i s7.heap/\(∀b∈fp,H' b=none)/\W i m σ' H':=λ{σ7 H7} I7 n7=>by
   obtain⟨m',hm,w7⟩:=hN σ7 H7 n7
   refine⟨m',hm,i+1,σ7,H7,I7.xA,T.keep _ _ _ st5 λ b hb o e=>(I7.pin (b,o) (cy _ (cy _ (BD hb e)))).1,λ b hb=>?_,w7⟩
   obtain⟨o,e,d⟩:=T.obj _ _ st5 b hb
   exact(I7.pin (b,o) (cy _ (cy _ (BD hb e)))).2.1
  cases f with
  |next=>obtain⟨σ7,H7,I7,n7⟩:=q7;exact again I7 n7
  |cont=>obtain⟨σ7,H7,I7,n7⟩:=q7;exact again I7 n7
  |brk=>obtain⟨σ7,H7,I7,q7⟩:=q7;exact⟨σ7,H7,I7.xA,q7⟩
  |ret v=>obtain⟨x7,σ7,H7,I7,r7,q7⟩:=q7;exact⟨x7,σ7,H7,I7.xA,r7,q7⟩
end
theorem rj{K:ah}{a:ag}{xs:List V}{g:TG}{tb:TS}{D:Ends}{σ:St}{H:Hp}(Pv:Nat->St->Hp->Prop)(h0:Pv 0 σ H)(hl:∀i σ H,i<=xs.length->Pv i σ H->nF K H a xs)
  (hs:∀i x σ H,xs[i]? =some x->Pv i σ H->g x σ H λ σ2 H2=>tb { D with nx:=Pv (i+1),ct:=Pv (i+1),bk:=D.nx } σ2 H2)(hd:∀σ H,Pv xs.length σ H->D.nx σ H):
  ∃W:Nat->Nat->St->Hp->Prop,(∃m,W 0 m σ H)/\∀i m σ H,W i m σ H->
   ((Itl K a).stop i H/\D.nx σ H)\/((Itl K a).go i H/\∃N:St->Hp->Prop,(∀σ' H',N σ' H'->∃m',m'<m/\W (i+1) m' σ' H')/\∀x H',(Itl K a).Ha i H x H'->g x σ H' λ σ2 H2=>tb { D with nx:=N,ct:=N,bk:=D.nx } σ2 H2):=by
 refine⟨λ i m σ H=>m=xs.length-i/\i<=xs.length/\Pv i σ H,⟨xs.length,by simp,aE _,h0⟩,?_⟩
 rintro i m σ H ⟨rfl,hi,p⟩
 have q:=hl i σ H hi p
 by_cases rO:i<xs.length
 ·refine .inr ⟨⟨xs,xs[i],q,by simp[rO]⟩,Pv (i+1),λ σ' H' p'=>⟨xs.length-(i+1),by omega,rfl,rO,p'⟩,λ x H' y=>?_⟩
  obtain⟨e,y⟩:=y
  subst e
  exact hs i x σ _ (y xs q) p
 ·have e:i=xs.length:=by omega
  subst e
  exact .inl ⟨⟨xs,q,ax _⟩,hd σ H p⟩
theorem Up{lo:Int}{n:Nat}{g:TG}{tb:TS}{D:Ends}{σ:St}{H:Hp}(Pv:Nat->St->Hp->Prop)(h0:Pv 0 σ H)
  (hs:∀i σ H,i<n->Pv i σ H->g (.int (lo+i)) σ H λ σ2 H2=>tb { D with nx:=Pv (i+1),ct:=Pv (i+1),bk:=D.nx } σ2 H2)(hd:∀σ H,Pv n σ H->D.nx σ H):
  ∃W:Nat->Nat->St->Hp->Prop,(∃m,W 0 m σ H)/\∀i m σ H,W i m σ H->
   ((Itr lo n).stop i H/\D.nx σ H)\/((Itr lo n).go i H/\∃N:St->Hp->Prop,(∀σ' H',N σ' H'->∃m',m'<m/\W (i+1) m' σ' H')/\∀x H',(Itr lo n).Ha i H x H'->g x σ H' λ σ2 H2=>tb { D with nx:=N,ct:=N,bk:=D.nx } σ2 H2):=by
 refine⟨λ i m σ H=>m=n-i/\i<=n/\Pv i σ H,⟨n,by simp,aE _,h0⟩,?_⟩
 rintro i m σ H ⟨rfl,hi,p⟩
 by_cases rO:i<n
 ·refine .inr ⟨rO,Pv (i+1),λ σ' H' p'=>⟨n-(i+1),by omega,rfl,rO,p'⟩,λ x H' y=>?_⟩
  obtain⟨e,y⟩:=y
  subst e y
  exact hs i σ _ rO p
 ·have e:i=n:=by omega
  subst e
  exact .inl ⟨ax _,hd σ H p⟩
end L2
namespace L2
open PySem PySem.Spec PyProof.Rows
abbrev R2:=V->V->Hp->VK->Prop
def Ed(X:Cx)(f:ao->ao->Sem ao)(r:R2):Prop:=
 ∀(pins:List (ag×Obj)) (s:au) (σ:St) (H:Hp) (x y:V) (v u:ao) (Q:VK),Inv X pins σ H s->RelV x v->RelV y u->r x y H Q->
  aV (aS X.prog X.w) X.A (f v u) (EP X pins σ Q) X.xe s
def UnR(X:Cx)(f:ao->Sem ao)(r:V->Hp->VK->Prop):Prop:=
 ∀(pins:List (ag×Obj)) (s:au) (σ:St) (H:Hp) (x:V) (v:ao) (Q:VK),Inv X pins σ H s->RelV x v->r x H Q->
  aV (aS X.prog X.w) X.A (f v) (EP X pins σ Q) X.xe s
def zI(X:Cx)(f:ao)(r:List V->Hp->VK->Prop):Prop:=
 ∀(pins:List (ag×Obj)) (s:au) (σ:St) (H:Hp) (xs:List V) (us:List ao) (Q:VK),Inv X pins σ H s->Vals xs us->r xs H Q->
  aV (aS X.prog X.w) X.A (call f us) (EP X pins σ Q) X.xe s
def aep(X:Cx)(r:V->Hp->(Bool->Hp->Prop)->Prop):Prop:=
 ∀(pins:List (ag×Obj)) (s:au) (σ:St) (H:Hp) (x:V) (v:ao) (Q:Bool->Hp->Prop),Inv X pins σ H s->RelV x v->r x H Q->
  aV (aS X.prog X.w) X.A (truthy v) (TP X pins σ Q) X.xe s
def tOp(r:R2)(ta tb:TE):TE:=λ σ H Q=>ta σ H λ x H1=>tb σ H1 λ y H2=>r x y H2 Q
def tUn(r:V->Hp->VK->Prop)(ta:TE):TE:=λ σ H Q=>ta σ H λ x H1=>r x H1 Q
def rI(C:Int->Int->Prop)(g:Int->Int->V):R2:=λ x y H Q=>∃i j,x= .int i/\y= .int j/\C i j/\Q (g i j) H
def Sy(g:Int->Int->V):R2:=λ x y H Q=>∃i j,x= .int i/\y= .int j/\Q (g i j) H
def rU(g:Int->V):V->Hp->VK->Prop:=λ x H Q=>∃i,x= .int i/\Q (g i) H
section
variable{X:Cx}{a b c:bJ}{ta tb tc:TE}{pos:Pos}
theorem abv(ha:PE X a ta)(hb:PE X b tb){pins:List (ag×Obj)}{s:au}{σ:St}{H:Hp}{R:V->V->Hp->Prop}(I:Inv X pins σ H s)
  (h:ta σ H λ x H1=>tb σ H1 λ y H2=>R x y H2){Q:ao->au->Prop}{f:ao->ao->Sem ao}
  (hf:∀v u s2 x y H2,Inv X pins σ H2 s2->RelV x v->RelV y u->R x y H2->aV (aS X.prog X.w) X.A (f v u) Q X.xe s2):
  aV (aS X.prog X.w) X.A (cu a X.env) (λ v s₁=>aV (aS X.prog X.w) X.A (cu b X.env) (λ u s₂=>aV (aS X.prog X.w) X.A (f v u) Q X.xe s₂) X.xe s₁) X.xe s:=by
 refine pN (ha pins s σ H _ I h) λ v s1 ⟨x,H1,I1,r1,q1⟩=>?_
 refine pN (hb pins s1 σ H1 _ I1 q1) λ u s2 ⟨y,H2,I2,r2,q2⟩=>?_
 exact hf v u s2 x y H2 I2 r1 r2 q2
theorem om{op:js}{r:R2}(ho:Ed X (gE op) r)(ha:PE X a ta)(hb:PE X b tb):PE X (.BinOp a op b pos) (tOp r ta tb):=by
 intro pins s σ H Q I h
 exact wpAny_BinOp (abv ha hb I h λ v u s2 x y H2 I2 rx ry q=>ho pins s2 σ H2 x y v u Q I2 rx ry q)
theorem Sz{op:UnaryOp}{r:V->Hp->VK->Prop}(ho:UnR X (unaryOp op) r)(ha:PE X a ta):PE X (.UnaryOp op a pos) (tUn r ta):=by
 intro pins s σ H Q I h
 exact UnaryOp_ (pN (ha pins s σ H _ I h) λ v s1 ⟨x,H1,I1,r1,q1⟩=>ho pins s1 σ H1 x v Q I1 r1 q1)
theorem opI{f:ao->ao->Sem ao}{C:Int->Int->Prop}{g:Int->Int->Int}
  (lr:∀(i j:Int) (t u:Tok) (s:au) (Q:ao->au->Prop) (E:ao->au->Prop),C i j->Q (.int (g i j) s.toks) { s with toks:=s.toks+1 }->aV (aS X.prog X.w) X.A (f (.int i t) (.int j u)) Q E s):
  Ed X f (rI C λ i j=>.int (g i j)):=by
 intro pins s σ H x y v u Q I rx ry h
 obtain⟨i,j,rfl,rfl,hc,q⟩:=h
 obtain⟨t,rfl⟩:=rx
 obtain⟨t',rfl⟩:=ry
 exact lr i j t t' s _ _ hc ⟨.int (g i j),H,I.tok _,⟨_,rfl⟩,q⟩
theorem ac7{f:ao->ao->Sem ao}{g:Int->Int->Int}
  (lr:∀(i j:Int) (t u:Tok) (s:au) (Q:ao->au->Prop) (E:ao->au->Prop),Q (.int (g i j) s.toks) { s with toks:=s.toks+1 }->aV (aS X.prog X.w) X.A (f (.int i t) (.int j u)) Q E s):
  Ed X f (Sy λ i j=>.int (g i j)):=by
 intro pins s σ H x y v u Q I rx ry h
 obtain⟨i,j,rfl,rfl,q⟩:=h
 obtain⟨t,rfl⟩:=rx
 obtain⟨t',rfl⟩:=ry
 exact lr i j t t' s _ _ ⟨.int (g i j),H,I.tok _,⟨_,rfl⟩,q⟩
theorem Zu{f:ao->ao->Sem ao}{g:Int->Int->Bool}
  (lr:∀(i j:Int) (t u:Tok) (s:au) (Q:ao->au->Prop) (E:ao->au->Prop),Q (.bool (g i j)) s->aV (aS X.prog X.w) X.A (f (.int i t) (.int j u)) Q E s):
  Ed X f (Sy λ i j=>.bl (g i j)):=by
 intro pins s σ H x y v u Q I rx ry h
 obtain⟨i,j,rfl,rfl,q⟩:=h
 obtain⟨t,rfl⟩:=rx
 obtain⟨t',rfl⟩:=ry
 exact lr i j t t' s _ _ ⟨.bl (g i j),H,I,rfl,q⟩
def ac8(i j:Int):Prop:=0<=j/\j<=1000000/\i.natAbs<2 ^ 64
def Qg(i j:Int):Prop:=(-(2 ^ 64)<i/\i<2 ^ 64)\/(-(2 ^ 64)<j/\j<2 ^ 64)
theorem Qg.ok{i j:Int}(h:Qg i j):IntMulOk i j:=by
 rcases h with⟨h1,h2⟩|⟨h1,h2⟩
 ·exact .of_left (mU h1 h2)
 ·exact .of_right (mU h1 h2)
theorem qW:Ed X (gE .Add) (Sy λ i j=>.int (i+j)):=ac7 λ _ _ _ _ _ _ _ q=>add_int q
theorem sI:Ed X (gE .Sub) (Sy λ i j=>.int (i-j)):=ac7 λ _ _ _ _ _ _ _ q=>sub_int q
theorem wR:Ed X (gE .Mult) (rI Qg λ i j=>.int (i*j)):=opI λ _ _ _ _ _ _ _ hc q=>mul_int q hc.ok
theorem abw:Ed X (gE .Mod) (rI (λ _ j=>0<j) λ i j=>.int (i % j)):=opI λ i j _ _ _ _ _ hc q=>by
 have h1:(0:Int)<j:=hc
 exact mod_int' (by omega) (by rw[Int.fmod_eq_emod_of_nonneg i (by omega)];exact q)
theorem abx:Ed X (gE .Pow) (rI ac8 λ i j=>.int (i ^ j.toNat)):=opI λ _ _ _ _ _ _ _ hc q=>pow_int_small hc.1 hc.2.1 hc.2.2 q
theorem unI{f:ao->Sem ao}{g:Int->Int}
  (lr:∀(i:Int) (t:Tok) (s:au) (Q:ao->au->Prop) (E:ao->au->Prop),Q (.int (g i) s.toks) { s with toks:=s.toks+1 }->aV (aS X.prog X.w) X.A (f (.int i t)) Q E s):
  UnR X f (rU λ i=>.int (g i)):=by
 intro pins s σ H x v Q I rx h
 obtain⟨i,rfl,q⟩:=h
 obtain⟨t,rfl⟩:=rx
 exact lr i t s _ _ ⟨.int (g i),H,I.tok _,⟨_,rfl⟩,q⟩
theorem LD:UnR X (unaryOp .USub) (rU λ i=>.int (-i)):=unI λ _ _ _ _ _ q=>neg_int q
end
def aby:V->V->Bool
 | .qB,.qB=>true| .qB,.int _=>true| .int _,.qB=>true| .qB,.bl _=>true| .bl _,.qB=>true| .qB,.str _=>true| .str _,.qB=>true
 | .int _,.int _=>true| .bl _,.bl _=>true| .str _,.str _=>true| .Lu _,.Lu _=>true
 | .int _,.str _=>true| .str _,.int _=>true| .bl _,.str _=>true| .str _,.bl _=>true
 |_,_=>false
def rEq:R2:=λ x y H Q=>aby x y=true/\Q (.bl (decide (x=y))) H
def rNe:R2:=λ x y H Q=>aby x y=true/\Q (.bl (!decide (x=y))) H
theorem SA{i j:Int}:decide (V.int i=V.int j)=(i == j):=by
 rw[du]
 simp
theorem Wm{i j:Bool}:decide (V.bl i=V.bl j)=(i == j):=by
 rw[du]
 simp
theorem wm{i j:Str}:decide (V.str i=V.str j)=(i == j):=by
 rw[du]
 simp
theorem SD{i j:Array UInt8}:decide (V.Lu i=V.Lu j)=(i.toList == j.toList):=by
 rw[du]
 cases i
 cases j
 simp
section
variable{X:Cx}{a b c:bJ}{ta tb tc:TE}{pos:Pos}
theorem pC{pins:List (ag×Obj)}{σ:St}{H:Hp}{s:au}{Q:VK}{k k':Bool}(I:Inv X pins σ H s)(q:Q (.bl k) H)(e:k=k'):EP X pins σ Q (.bool k') s:=by
 subst e
 exact⟨.bl k,H,I,rfl,q⟩
theorem ud:Ed X (cR .Eq) rEq:=by
 intro pins s σ H x y v u Q I rx ry h
 obtain⟨hs,q⟩:=h
 cases x with
 |qB=>
  cases rx
  cases y with
  |qB=>cases ry;exact PySem.EqNone.eq_none_none (pC I q (by simp))
  |bl j=>cases ry;exact PySem.EqNone.eq_none_bool (pC I q (by simp))
  |int j=>obtain⟨t',rfl⟩:=ry;exact PySem.EqNone.eq_none_int (pC I q (by simp))
  |str j=>obtain⟨t',rfl⟩:=ry;exact PySem.EqNone.eq_none_str (pC I q (by simp))
  |_=>exact absurd (show false=true from hs) a0
 |bl i=>
  cases rx
  cases y with
  |qB=>cases ry;exact PySem.EqNone.eq_bool_none (pC I q (by simp))
  |bl j=>cases ry;exact eq_bool (pC I q Wm)
  |str j=>obtain⟨t',rfl⟩:=ry;exact PySem.EqMixed.eq_bool_str (pC I q (by simp))
  |_=>exact absurd (show false=true from hs) a0
 |int i=>
  obtain⟨t,rfl⟩:=rx
  cases y with
  |qB=>cases ry;exact PySem.EqNone.eq_int_none (pC I q (by simp))
  |int j=>obtain⟨t',rfl⟩:=ry;exact eq_int (pC I q SA)
  |str j=>obtain⟨t',rfl⟩:=ry;exact PySem.EqMixed.eq_int_str (pC I q (by simp))
  |_=>exact absurd (show false=true from hs) a0
 |str i=>
  obtain⟨t,rfl⟩:=rx
  cases y with
  |qB=>cases ry;exact PySem.EqNone.eq_str_none (pC I q (by simp))
  |bl j=>cases ry;exact PySem.EqMixed.eq_str_bool (pC I q (by simp))
  |int j=>obtain⟨t',rfl⟩:=ry;exact PySem.EqMixed.eq_str_int (pC I q (by simp))
  |str j=>obtain⟨t',rfl⟩:=ry;exact eq_str (pC I q wm)
  |_=>exact absurd (show false=true from hs) a0
 |Lu i=>
  obtain⟨t,rfl⟩:=rx
  cases y with
  |Lu j=>obtain⟨t',rfl⟩:=ry;exact PySem.W.eq_bytes (pC I q SD)
  |_=>exact absurd (show false=true from hs) a0
 |_=>cases y <;> exact absurd (show false=true from hs) a0
theorem ac9:Ed X (cR .NotEq) rNe:=by
 intro pins s σ H x y v u Q I rx ry h
 obtain⟨hs,q⟩:=h
 cases x with
 |qB=>
  cases rx
  cases y with
  |qB=>cases ry;exact PySem.EqNone.ne_none_none (pC I q (by simp))
  |bl j=>cases ry;exact PySem.EqNone.ne_none_bool (pC I q (by simp))
  |int j=>obtain⟨t',rfl⟩:=ry;exact PySem.EqNone.ne_none_int (pC I q (by simp))
  |str j=>obtain⟨t',rfl⟩:=ry;exact PySem.EqNone.ne_none_str (pC I q (by simp))
  |_=>exact absurd (show false=true from hs) a0
 |bl i=>
  cases rx
  cases y with
  |qB=>cases ry;exact PySem.EqNone.ne_bool_none (pC I q (by simp))
  |bl j=>cases ry;exact ne_bool (pC I q (congrArg not Wm))
  |str j=>obtain⟨t',rfl⟩:=ry;exact PySem.EqMixed.ne_bool_str (pC I q (by simp))
  |_=>exact absurd (show false=true from hs) a0
 |int i=>
  obtain⟨t,rfl⟩:=rx
  cases y with
  |qB=>cases ry;exact PySem.EqNone.ne_int_none (pC I q (by simp))
  |int j=>obtain⟨t',rfl⟩:=ry;exact ne_int (pC I q (congrArg not SA))
  |str j=>obtain⟨t',rfl⟩:=ry;exact PySem.EqMixed.ne_int_str (pC I q (by simp))
  |_=>exact absurd (show false=true from hs) a0
 |str i=>
  obtain⟨t,rfl⟩:=rx
  cases y with
  |qB=>cases ry;exact PySem.EqNone.ne_str_none (pC I q (by simp))
  |bl j=>cases ry;exact PySem.EqMixed.ne_str_bool (pC I q (by simp))
  |int j=>obtain⟨t',rfl⟩:=ry;exact PySem.EqMixed.ne_str_int (pC I q (by simp))
  |str j=>obtain⟨t',rfl⟩:=ry;exact ne_str (pC I q (congrArg not wm))
  |_=>exact absurd (show false=true from hs) a0
 |Lu i=>
  obtain⟨t,rfl⟩:=rx
  cases y with
  |Lu j=>obtain⟨t',rfl⟩:=ry;exact PySem.W.ne_bytes (pC I q (congrArg not SD))
  |_=>exact absurd (show false=true from hs) a0
 |_=>cases y <;> exact absurd (show false=true from hs) a0
theorem Hc:Ed X (cR .Lt) (Sy λ i j=>.bl (decide (i<j))):=Zu λ _ _ _ _ _ _ _ q=>lt_int q
theorem p_:Ed X (cR .LtE) (Sy λ i j=>.bl (decide (i<=j))):=Zu λ _ _ _ _ _ _ _ q=>le_int q
theorem Bk:Ed X (cR .Gt) (Sy λ i j=>.bl (decide (j<i))):=Zu λ _ _ _ _ _ _ _ q=>gt_int q
theorem ac_:Ed X (cR .GtE) (Sy λ i j=>.bl (decide (j<=i))):=Zu λ _ _ _ _ _ _ _ q=>ge_int q
theorem oM(b:bJ){op:kC}(h:op≠ .In:=by decide)(h2:op≠ .NotIn:=by decide):eT op b=false:=by
 have e1:(op == CmpOp.In)=false:=by cases op <;> first|rfl|exact absurd rfl h
 have e2:(op == CmpOp.NotIn)=false:=by cases op <;> first|rfl|exact absurd rfl h2
 cases b <;> simp[eT,e1,e2]
theorem rS{op:kC}{r:R2}(ho:Ed X (cR op) r)(ha:PE X a ta)(hb:PE X b tb)(hm:eT op b=false):PE X (.Compare a [op] [b] pos) (tOp r ta tb):=by
 intro pins s σ H Q I h
 exact wpAny_Compare1 (abv ha hb I h λ v u s2 x y H2 I2 rx ry q=>ho pins s2 σ H2 x y v u Q I2 rx ry q) hm
def SE(t:TE):TT:=λ σ H Q=>t σ H λ x H'=>∃k,x= .bl k/\Q k H'
theorem ot{op:kC}{r:R2}(ho:Ed X (cR op) r)(ha:PE X a ta)(hb:PE X b tb)(hm:eT op b=false):PT X (.Compare a [op] [b] pos) (SE (tOp r ta tb)):=by
 intro pins s σ H Q I h
 refine kX (pN (ha pins s σ H _ I h) λ v s1 ⟨x,H1,I1,r1,q1⟩=>pN (hb pins s1 σ H1 _ I1 q1) λ u s2 ⟨y,H2,I2,r2,q2⟩=>
  pN (ho pins s2 σ H2 x y v u _ I2 r1 r2 q2) λ c s3 ⟨z,H3,I3,r3,k,e,q3⟩=>?_) hm
 subst e
 cases r3
 exact cP ⟨H3,I3,q3⟩
def Hd(r r':R2)(ta tb tc:TE):TE:=λ σ H Q=>ta σ H λ x H1=>tb σ H1 λ y H2=>r x y H2 λ z H3=>∃k,z= .bl k/\
 (if k=true then tc σ H3 λ w' H4=>r' y w' H4 Q else Q (.bl false) H3)
theorem vk{op op':kC}{r r':R2}(ho:Ed X (cR op) r)(Su:Ed X (cR op') r')(ha:PE X a ta)(hb:PE X b tb)(hc:PE X c tc)
  (hm:lastMarks [op,op'] [b,c]=false:=by with_unfolding_all rfl):PE X (.Compare a [op,op'] [b,c] pos) (Hd r r' ta tb tc):=by
 intro pins s σ H Q I h
 refine Compare_chain (pN (ha pins s σ H _ I h) λ v s1 ⟨x,H1,I1,r1,q1⟩=>chain_link (pN (hb pins s1 σ H1 _ I1 q1) λ u s2 ⟨y,H2,I2,r2,q2⟩=>
  pN (ho pins s2 σ H2 x y v u _ I2 r1 r2 q2) λ d s3 ⟨z,H3,I3,r3,k,e,q3⟩=>?_)) hm
 subst e
 cases r3
 refine cP ?_
 cases k with
 |false=>exact ite_ff ⟨.bl false,H3,I3,rfl,q3⟩
 |true=>exact ite_tt (chain_last (pN (hc pins s3 σ H3 _ I3 q3) λ w' s4 ⟨z',H4,I4,r4,q4⟩=>Su pins s4 σ H4 y z' u w' Q I4 r2 r4 q4))
theorem vm{op op':kC}{r r':R2}(ho:Ed X (cR op) r)(Su:Ed X (cR op') r')(ha:PE X a ta)(hb:PE X b tb)(hc:PE X c tc)
  (hm:lastMarks [op,op'] [b,c]=false:=by with_unfolding_all rfl):PT X (.Compare a [op,op'] [b,c] pos) (SE (Hd r r' ta tb tc)):=by
 intro pins s σ H Q I h
 refine isTrue_chain (pN (ha pins s σ H _ I h) λ v s1 ⟨x,H1,I1,r1,q1⟩=>test_link (pN (hb pins s1 σ H1 _ I1 q1) λ u s2 ⟨y,H2,I2,r2,q2⟩=>
  pN (ho pins s2 σ H2 x y v u _ I2 r1 r2 q2) λ d s3 ⟨z,H3,I3,r3,k,e,q3⟩=>?_)) hm
 subst e
 cases r3
 refine cP ?_
 cases k with
 |false=>
  obtain⟨k',e',q'⟩:=q3
  cases e'
  exact ite_ff ⟨H3,I3,q'⟩
 |true=>
  refine ite_tt (test_last (pN (hc pins s3 σ H3 _ I3 q3) λ w' s4 ⟨z',H4,I4,r4,q4⟩=>pN (Su pins s4 σ H4 y z' u w' _ I4 r2 r4 q4) λ d' s5 ⟨z2,H5,I5,r5,k2,e2,q5⟩=>?_))
  subst e2
  cases r5
  exact cP ⟨H5,I5,q5⟩
def ada(K:ah)(x:V)(H:Hp)(k:Bool):Prop:=
 match x with
 | .qB=>k=false
 | .bl b=>k=b
 | .int i=>k=(i != 0)
 | .str y=>y.length<=ay/\k=((y.length:Int) != 0)
 | .Lu y=>y.size<=ay/\k=((y.size:Int) != 0)
 | .ref p=>(∃xs,nF K H p xs/\k= !xs.isEmpty)\/(∃xs,Bj K H p xs/\k= !xs.isEmpty)\/∃oJ,H p=some (.dK oJ)/\k= !oJ.isEmpty
 |_=>False
theorem Qh{κ:Type}{oJ:List (κ×V)}{vs:List (κ×ao)}(r:KV oJ vs):(!vs.isEmpty)= !oJ.isEmpty:=by
 cases r <;> rfl
theorem He{xs:List V}{oo:List ao}(r:Vals xs oo):(!oo.toArray.isEmpty)= !xs.isEmpty:=by
 cases r <;> simp
theorem BE:(ay:Nat)<2 ^ 63:=by rw[aA];decide
theorem abz:aep X (λ x H Q=>∃k,ada X.K x H k/\Q k H):=by
 intro pins s σ H x v Q I rx h
 obtain⟨k,e,q⟩:=h
 have hl:=BE
 have hs:ay=16777216:=aA
 cases x with
 |qB=>
  cases rx
  have e':k=false:=e
  subst e'
  exact truthy_none ⟨H,I,q⟩
 |bl b=>
  cases rx
  have e':k=b:=e
  subst e'
  exact cP ⟨H,I,q⟩
 |int i=>
  obtain⟨t,rfl⟩:=rx
  have e':k=(i != 0):=e
  subst e'
  exact PySem.P.truthy_int ⟨H,I,q⟩
 |str y=>
  obtain⟨t,rfl⟩:=rx
  obtain⟨hy,e'⟩:y.length<=ay/\k=((y.length:Int) != 0):=e
  subst e'
  exact PySem.P.truthy_str (by omega) ⟨H,I.tok _,q⟩
 |Lu y=>
  obtain⟨t,rfl⟩:=rx
  obtain⟨hy,e'⟩:y.size<=ay/\k=((y.size:Int) != 0):=e
  subst e'
  exact PySem.W.truthy_bytes (by omega) ⟨H,I.tok _,q⟩
 |ref p=>
  cases rx
  have e':(∃xs,nF X.K H p xs/\k= !xs.isEmpty)\/(∃xs,Bj X.K H p xs/\k= !xs.isEmpty)\/∃oJ,H p=some (.dK oJ)/\k= !oJ.isEmpty:=e
  rcases e' with⟨xs,hx,e'⟩|⟨xs,hx,e'⟩|⟨oJ,hx,e'⟩
  ·subst e'
   obtain⟨oo,r,pl,hz⟩:=I.list hx
   have hlen:=r.length
   exact wpAny_truthy_list pl.isList (by simp only[aK];omega) ⟨H,I.tok _,by rw[He r];exact q⟩
  ·subst e'
   obtain⟨oo,r,pl,hz⟩:=I.tuple hx
   have hlen:=r.length
   exact truthy_tuple pl (by simp only[aK];omega) ⟨H,I.tok _,by rw[He r];exact q⟩
  ·subst e'
   obtain⟨hz,hS,vs,r,m⟩:oJ.length<=ay/\(p == eg)=false/\∃vs,KV oJ vs/\s.heap.DictOf (q_ X.prog X.w) p vs:=I.oY p _ hx
   have hlen:oJ.length=vs.length:=Paired.length r
   exact wpAny_truthy_dict hS m (by omega) ⟨H,I.tok _,by rw[Qh r];exact q⟩
 |_=>exact(show False from e).elim
theorem xB(ha:PE X a ta)(he:∀whole,kQ a X.env whole=(do let v <-whole;iu a.pos;gp [v] (truthy v))):
  PT X a (λ σ H Q=>ta σ H λ x H'=>∃k,ada X.K x H' k/\Q k H'):=by
 intro pins s σ H Q I h
 exact isTrue_plain (pN (ha pins s σ H _ I h) λ v s1 ⟨x,H1,I1,r1,q1⟩=>abz pins s1 σ H1 x v Q I1 r1 q1) (he _)
theorem Qi:Ed X (gE .Add) (λ x y H Q=>∃i j,x= .str i/\y= .str j/\i.length+j.length<=ay/\Q (.str (i++j)) H):=by
 intro pins s σ H x y v u Q I rx ry h
 obtain⟨i,j,rfl,rfl,hz,q⟩:=h
 obtain⟨t,rfl⟩:=rx
 obtain⟨t',rfl⟩:=ry
 exact add_str (λ t' tk=>⟨.str (i++j),H,I.tok _,⟨_,rfl⟩,q⟩) hz
theorem vals1{x:V}{us:List ao}(r:Vals [x] us):∃u,us=[u]/\RelV x u:=by
 cases r with
 |cons r1 r2=>cases r2;exact⟨_,rfl,r1⟩
theorem sJ:zI X (.type "str") (λ xs H Q=>∃i,xs=[.int i]/\i.natAbs.log2<1920/\Q (.str (toString i)) H):=by
 intro pins s σ H xs us Q I r h
 obtain⟨i,rfl,hz,q⟩:=h
 obtain⟨u,rfl,t,rfl⟩:=vals1 r
 exact PySem.P.str_of_int hz ⟨.str _,H,I.tok _,⟨_,rfl⟩,q⟩
theorem Wn:zI X (.builtin "ord") (λ xs H Q=>∃x,xs=[.str x]/\x.length=1/\Q (.int (x.cps.getD 0 0:Nat)) H):=by
 intro pins s σ H xs us Q I r h
 obtain⟨x,rfl,hz,q⟩:=h
 obtain⟨u,rfl,t,rfl⟩:=vals1 r
 exact ord_of_one hz ⟨.int _,H,I.tok _,⟨_,rfl⟩,q⟩
end
end L2
namespace L2
open PySem PySem.Spec PyProof.Rows
structure Qj(h:bw)(x dx C:ag)(mA:Str->Option ao):Prop where
 obj:h.get? x=some (dm C dx)
 ns:h.Ns1 dx mA
 ne:dx≠x
theorem Kh{h:bw}{dx:ag}{mA:Str->Option ao}(n:h.Ns1 dx mA):∃od,h.get? dx=some od/\∀name,eS name od=some (mA name):=by
 obtain⟨o,es,ep,ho,hd,hk,_,hm⟩:=n
 refine⟨o,ho,λ name=>?_⟩
 have e:=hm name
 unfold mM findBy at e
 rw[<-Array.find?_toList]at e
 unfold eS
 rw[hd]
 dsimp only
 split
 ·rename_i y q
  rw[q]at e
  exact congrArg some e
 ·rename_i q
  rw[q]at e
  have a:es.toList.any (·.refKey)=false:=by
   rw[iT]
   intro y hy
   obtain⟨z,t,aeq⟩:=hk y (Array.mem_toList_iff.mp hy)
   simp[DictEntry.refKey,aeq]
  have a':¬ es.toList.any (·.refKey)=true:=by rw[a];exact a0
  rw[if_neg a']
  exact congrArg some e
theorem Qj.look{h:bw}{x dx C:ag}{mA:Str->Option ao}(I:Qj h x dx C mA):∃od,kL h x (dm C dx) C (some od)/\∀name,eS name od=some (mA name):=
 let⟨od,ho,hl⟩:=Kh I.ns
 ⟨od,⟨I.obj,rfl,rfl,ho⟩,hl⟩
section
variable{prog:aJ}{w:aY}{A:bU}{E:ao->au->Prop}{s:au}{K:ah}{x dx C f:ag}{mA:Str->Option ao}{name:Str}{v:ao}
theorem get_map{expr:Bool}{Q:ao->au->Prop}(X:K.In s.heap)(I:Qj s.heap x dx C mA)(hg:e_ K C name=true)(hh:f9 K C=true)
  (ha:bx K (.ref C) name=some none)(hv:mA name=some v)(hv':ke v=true)(h:Q v { s with toks:=s.toks+1 }):
  aV (aS prog w) A (kR (.ref x) name expr) Q E s:=by
 obtain⟨od,J,hl⟩:=I.look
 exact PySem.W.get_value X J (g_ hg).1 (PySem.W.findObj_own hh ha rfl (by rw[hl,hv])) hv' h
theorem Wo{pl:Sem Bool}{Q:ao×List ao->au->Prop}(X:K.In s.heap)(I:Qj s.heap x dx C mA)(hg:e_ K C name=true)
  (hf:bx K (.ref C) name=some (some (.ref f)))(ht:gC K (.ref f)=true)(hv:mA name=none)(h:Q (.ref f,[.ref x]) s):
  aV (aS prog w) A (hZ (.ref x) name pl) Q E s:=by
 obtain⟨od,J,hl⟩:=I.look
 exact PySem.W.method_fn X J (g_ hg).1 (g_ hg).2 hf (beq_iff_eq.mp ht) (by show(eS name od).map (·.isSome)=some false;rw[hl,hv];rfl) h
theorem Zv{ns:List Str}{Q:Unit->au->Prop}(X:K.In s.heap)(I:Qj s.heap x dx C mA)
  (hs:bx K (.ref C) "__setattr__"=some (some (.builtin "object.__setattr__")))(hp:iB K C=true)(ht:iV K C name=some none)(hh:f9 K C=true)
  (hw:eU mA ns)(hsz:ns.length<=ay)
  (h:∀h',Qj h' x dx C (λ y=>if y=name then some v else mA y)->Heap.SameBut dx s.heap h'->Q () { s with heap:=h',toks:=s.toks+2 }):
  aV (aS prog w) A (mh (.ref x) name v) Q E s:=by
 obtain⟨od,J,hl⟩:=I.look
 refine PySem.W.set_plain X J hs (PySem.W.osa_open (s:={ s with toks:=s.toks+1 }) (r:=none) X J hp ht λ b=>?_)
 obtain⟨cd,hc,V8⟩:=PySem.W.any_some hh
 have hx:s.heap.get? x=some ⟨.ref C,some dx,.plain,#[]⟩:=I.obj
 refine aq (aM (aq (aq (jT hx (aq (PySem.W.Looks.here (s:={ s with toks:=s.toks+1 }) (hJ X hc) ?_))))))
 rw[V8]
 refine aM (a:=some dx) (aq (aM (aq ?_)))
 refine kO (s:={ s with toks:=s.toks+1 }) I.ns λ h' PL Um=>?_
 obtain⟨oD,esD,epD,hoD,hdD,hcD⟩:=PL.count (PySem.Within.cons name v hw)
 refine aq (jx hoD (by rw[hdD];exact jz (aT hcD (by rw[aD];omega))) ?_)
 exact aM (h _ ⟨(Um.2 _ (Ne.symm I.ne)).trans I.obj,PL,I.ne⟩ Um)
theorem Wq{R:lU->au->Prop}{vs:List ao}{kw:List (Str×ao)}(X:K.In s.heap)(hm:iW K C=true)
  (hi:bx K (.ref C) "__init__"=some (some (.ref f)))(hf:fN K (.ref f)=some (.type "function"))
  (h:fS (aS prog w) (A.under (.builtin "type.__call__" ⟨.ref C::vs,kw⟩)) (.call (.ref f) ⟨.ref (s.heap.objs.size+1)::vs,kw⟩) (PySem.W.InitBack (s.heap.objs.size+1) R)
   { s with heap:=(s.heap.push cM).push (dm C s.heap.objs.size) }):
  fS (aS prog w) A (.call (.ref C) ⟨vs,kw⟩) R s:=by
 obtain⟨hh,g,d,t,os⟩:=s
 exact PySem.W.make_core (PySem.W.makes_of X hm) (PySem.W.looks_findIn X hi) (λ self=>PySem.W.bind_fn X self hf) (.inl rfl) h
end
def wb(f:Str)(v:V):List (Str×V)->List (Str×V)
 |[]=>[(f,v)]
 |(g,x)::r=>if g=f then(g,v)::r else(g,x)::wb f v r
theorem zJ(f g:Str)(v:V):∀fs:List (Str×V),(wb f v fs).lookup g=if g=f then some v else fs.lookup g
 |[]=>by
  show dv g [(f,v)]=_
  by_cases h:g=f
  ·have hb:(g == f)=true:=beq_iff_eq.mpr h
   simp only[dv,hb,if_pos h]
  ·have hb:(g == f)=false:=beq_eq_false_iff_ne.mpr h
   simp only[dv,hb,if_neg h]
 |(k,x)::r=>by
  have ih:=zJ f g v r
  rw[show wb f v ((k,x)::r)=(if k=f then(k,v)::r else(k,x)::wb f v r)from rfl]
  by_cases hk:k=f
  ·rw[if_pos hk]
   by_cases h:g=k
   ·have hb:(g == k)=true:=beq_iff_eq.mpr h
    simp only[dv,hb,if_pos (h.trans hk)]
   ·have hb:(g == k)=false:=beq_eq_false_iff_ne.mpr h
    simp only[dv,hb,if_neg (λ e:g=f=>h (e.trans hk.symm))]
  ·rw[if_neg hk]
   by_cases h:g=k
   ·have hb:(g == k)=true:=beq_iff_eq.mpr h
    simp only[dv,hb,if_neg (λ e:g=f=>hk (h.symm.trans e))]
   ·have hb:(g == k)=false:=beq_eq_false_iff_ne.mpr h
    simp only[dv,hb]
    exact ih
theorem Ej(f:Str)(v:V):∀fs:List (Str×V),f∈(wb f v fs).map (·.1)/\∀g,g∈fs.map (·.1)->g∈(wb f v fs).map (·.1)
 |[]=>⟨by simp[wb],λ g h=>by simp at h⟩
 |(k,x)::r=>by
  obtain⟨i1,i2⟩:=Ej f v r
  rw[show wb f v ((k,x)::r)=(if k=f then(k,v)::r else(k,x)::wb f v r)from rfl]
  by_cases hk:k=f
  ·rw[if_pos hk]
   subst hk
   exact⟨by simp,λ g h=>by simpa using h⟩
  ·rw[if_neg hk]
   refine⟨?_,λ g h=>?_⟩
   ·rw[aG]
    exact aQ _ i1
   ·rw[aG]at h ⊢
    rcases List.mem_cons.mp h with e|e
    ·exact List.mem_cons.mpr (.inl e)
    ·exact aQ _ (i2 g e)
theorem Fg(f:Str)(v:V):∀fs:List (Str×V),(wb f v fs).length<=fs.length+1
 |[]=>by simp[wb]
 |(k,x)::r=>by
  have ih:=Fg f v r
  rw[show wb f v ((k,x)::r)=(if k=f then(k,v)::r else(k,x)::wb f v r)from rfl]
  by_cases hk:k=f
  ·rw[if_pos hk,aD,aD];omega
  ·rw[if_neg hk,aD,aD];omega
theorem wQ.some_of{v:V}{o:Option ao}(r:wQ (some v) o):∃u,o=some u/\RelV v u:=by
 cases o with
 |none=>exact(show False from r).elim
 |some u=>exact⟨u,rfl,r⟩
theorem wQ.none_of{o:Option ao}(r:wQ none o):o=none:=by
 cases o with
 |none=>rfl
 |some u=>exact(show False from r).elim
theorem Ki{v:V}{u:ao}(r:RelV v u):ke u=true:=by
 cases v with
 |qB=>cases(show u=Value.none from r);rfl
 |bl b=>cases(show u=Value.bool b from r);rfl
 |int i=>obtain⟨t,e⟩:=(show ∃t,u=Value.int i t from r);cases e;rfl
 |str x=>obtain⟨t,e⟩:=(show ∃t,u=Value.str x t from r);cases e;rfl
 |Lu b=>obtain⟨t,e⟩:=(show ∃t,u=Value.bytes b t from r);cases e;rfl
 |flt b=>obtain⟨t,e⟩:=(show ∃t,u=Value.float b t from r);cases e;rfl
 |ref a=>cases(show u=Value.ref a from r);rfl
 |ty n=>cases(show u=Value.type n from r);rfl
section
variable{P:aJ}{w:aY}{H H':Hp}{h h':bw}{a C dx:ag}{fs fs':List (Str×V)}
theorem LF(oY:zE P w H h)(e:H a=some (.ins C dx fs)):∃mA,Qj h a dx C mA/\(∀f,wQ (fs.lookup f) (mA f))/\eU mA (fs.map (·.1))/\fs.length<=1000/\H dx=some (.own a):=by
 obtain⟨d,z,ne,ob,mA,n,r,q⟩:=(show pQ P w H h a (.ins C dx fs)from oY a _ e)
 exact⟨mA,⟨ob,n,ne⟩,r,q,z,d⟩
end
structure GP(K:ah)(C:ag):Prop where
 pg:e_ K C Str.empty=true
 hd:f9 K C=true
 po:iB K C=true
 sa:bx K (.ref C) "__setattr__"=some (some (.builtin "object.__setattr__"))
theorem GP.get{K:ah}{C:ag}(c:GP K C)(f:Str):e_ K C f=true:=c.pg
def oE(K:ah)(C:ag)(f:Str):Prop:=bx K (.ref C) f=some none
theorem oE.adb{K:ah}{C:ag}{f:Str}(n:oE K C f):iV K C f=some none:=by
 unfold iV
 rw[show bx K (.ref C) f=some none from n]
 rfl
structure Meth(K:ah)(C:ag)(m:Str)(f:ag):Prop where
 at_:bx K (.ref C) m=some (some (.ref f))
 fn:gC K (.ref f)=true
 kp:bY K (.ref f)=true
section
variable{X:Cx}{pins:List (ag×Obj)}{σ:St}{H:Hp}{s:au}{a C dx:ag}{fs:List (Str×V)}{f:Str}{v:V}{A:bU}{E:ao->au->Prop}
theorem Hf{b:Bool}{Q:ao->au->Prop}(I:Inv X pins σ H s)(e:H a=some (.ins C dx fs))(c:GP X.K C)(n:oE X.K C f)(l:fs.lookup f=some v)
  (h:∀u s',Inv X pins σ H s'->RelV v u->Q u s'):aV (aS X.prog X.w) A (kR (.ref a) f b) Q E s:=by
 obtain⟨mA,O,r,_,_,_⟩:=LF I.oY e
 obtain⟨u,hu,ru⟩:=wQ.some_of (v:=v) (o:=mA f) (by rw[<-l];exact r f)
 exact get_map I.Ff O (c.get f) c.hd n hu (Ki ru) (h u _ (I.tok _) ru)
theorem Hg{m:Str}{g:ag}{pl:Sem Bool}{Q:ao×List ao->au->Prop}(I:Inv X pins σ H s)(e:H a=some (.ins C dx fs))(c:GP X.K C)(k:Meth X.K C m g)(l:fs.lookup m=none)
  (h:Q (.ref g,[.ref a]) s):aV (aS X.prog X.w) A (hZ (.ref a) m pl) Q E s:=by
 obtain⟨mA,O,r,_,_,_⟩:=LF I.oY e
 have hn:mA m=none:=wQ.none_of (by rw[<-l];exact r m)
 exact Wo I.Ff O (c.get m) k.at_ k.fn hn h
theorem Hh{y:V}{u:ao}{Q:Unit->au->Prop}(I:Inv X pins σ H s)(e:H a=some (.ins C dx fs))(c:GP X.K C)(n:oE X.K C f)(hl:fs.length<1000)(ry:RelV y u)
  (h:∀s',Inv X pins σ (upd H a (.ins C dx (wb f y fs))) s'->Q () s'):aV (aS X.prog X.w) A (mh (.ref a) f u) Q E s:=by
 obtain⟨mA,O,r,wi,_,ho⟩:=LF I.oY e
 have hz:(fs.map (·.1)).length<=ay:=by rw[aa,aA];omega
 refine Zv I.Ff O c.sa c.po n.adb c.hd wi hz λ h' O' sb=>h _ ?_
 have hd:∃o,h'.get? dx=some o:=let⟨o,_,_,e',_⟩:=O'.ns;⟨o,e'⟩
 refine I.write (x:=a) (e:=dx) (by rw[e];exact True.intro) (.inr ho) (λ b q hb z=>(sb.2 b hb).trans z) hd ?_
 refine⟨by rw[m5 O.ne];exact ho,?_,O.ne,O'.obj,_,O'.ns,λ g=>?_,λ g hg=>?_⟩
 ·have:=Fg f y fs;omega
 ·show wQ ((wb f y fs).lookup g) (if g=f then some u else mA g)
  rw[zJ]
  by_cases q:g=f
  ·rw[if_pos q,if_pos q];exact ry
  ·rw[if_neg q,if_neg q];exact r g
 ·by_cases q:g=f
  ·rw[q];exact(Ej f y fs).1
  ·refine(Ej f y fs).2 g (wi g λ z=>hg ?_)
   show(if g=f then some u else mA g)=none
   rw[if_neg q];exact z
theorem Inv.made(I:Inv X pins σ H s):Inv X pins σ (upd (upd H s.heap.objs.size (.own (s.heap.objs.size+1))) (s.heap.objs.size+1) (.ins C s.heap.objs.size []))
  { s with heap:=(s.heap.push cM).push (dm C s.heap.objs.size) }:=by
 have e1:(s.heap.push cM).get? s.heap.objs.size=some cM:=Heap.get?_push_size s.heap rfl
 have e2:((s.heap.push cM).push (dm C s.heap.objs.size)).get? (s.heap.objs.size+1)=some (dm C s.heap.objs.size):=by
  have:=Heap.get?_push_size (s.heap.push cM) (o:=dm C s.heap.objs.size) rfl
  rwa [Heap.size_push]at this
 have e3:(s.heap.push cM).Ns s.heap.objs.size (λ _=>none):=⟨cM,#[],_,e1,rfl,(λ e he=>absurd he (by simp)),λ _=>rfl⟩
 have I1:=I.laid (a:=s.heap.objs.size) (o:=.own (s.heap.objs.size+1)) (h':=s.heap.push cM) (t':=s.toks) (λ b u q=>Heap.get?_push_of_some _ q) (ax _) ⟨_,e1⟩
 refine I1.laid (a:=s.heap.objs.size+1) (o:=.ins C s.heap.objs.size []) (t':=s.toks) (λ b u q=>Heap.get?_push_of_some _ q) (gS (Heap.size_push _ _)) ?_
 have ne:s.heap.objs.size≠s.heap.objs.size+1:=bL (cK _)
 refine⟨by rw[m5 ne,m4],aE _,ne,e2,λ _=>none,(Heap.Ns1.of_empty e3).at λ o q=>Heap.get?_push_of_some _ q,λ _=>True.intro,λ y hy=>absurd rfl hy⟩
theorem SG{prog:aJ}{w:aY}{env:Env}{e:bJ}{f:Str}{pos:Pos}{s:au}{Q:ao->au->Prop}(hb:dN e f env (cu e env)=cu e env)
  (h:aV (aS prog w) A (cu e env) (λ o s₁=>aV (aS prog w) A (kR o f true) Q E s₁) E s):aV (aS prog w) A (cu (.Attribute e f pos) env) Q E s:=
 Attribute_any_ h (by rw[arm_eval_Attribute,hb])
end
def abA(K:ah)(ta:TE)(f:Str):TE:=λ σ H Q=>ta σ H λ x H1=>∃a C dx fs v,x= .ref a/\H1 a=some (.ins C dx fs)/\GP K C/\oE K C f/\fs.lookup f=some v/\Q v H1
def aer(K:ah)(ta tv:TE)(f:Str):TS:=λ D σ H=>tv σ H λ y H1=>ta σ H1 λ x H2=>∃a C dx fs,x= .ref a/\H2 a=some (.ins C dx fs)/\GP K C/\oE K C f/\fs.length<1000/\
 D.nx σ (upd H2 a (.ins C dx (wb f y fs)))
def ade(X:Cx)(op:js)(rd:V->V->Hp->VK->Prop):Prop:=
 ∀(pins:List (ag×Obj)) (s:au) (σ:St) (H:Hp) (x y:V) (u v:ao) (Q:VK),Inv X pins σ H s->RelV x u->RelV y v->rd x y H Q->aV (aS X.prog X.w) X.A (mw op u v) (EP X pins σ Q) X.xe s
def Zw(K:ah)(ta tv:TE)(rd:V->V->Hp->VK->Prop)(f:Str):TS:=λ D σ H=>ta σ H λ x H1=>∃a C dx fs v,x= .ref a/\H1 a=some (.ins C dx fs)/\GP K C/\oE K C f/\fs.lookup f=some v/\
 tv σ H1 λ y H2=>rd v y H2 λ z H3=>∃dx' fs',H3 a=some (.ins C dx' fs')/\fs'.length<1000/\D.nx σ (upd H3 a (.ins C dx' (wb f z fs')))
section
variable{X:Cx}{o e value:bJ}{f:Str}{pos pos' Bh:Pos}{ta tv:TE}
theorem nr(he:PE X e ta)(hb:dN e f X.env (cu e X.env)=cu e X.env):PE X (.Attribute e f pos) (abA X.K ta f):=by
 intro pins s σ H Q I h
 refine SG hb (pN (he pins s σ H _ I h) λ u s1 ⟨x,H1,I1,rx,a,C,dx,fs,v,ex,ea,c,n,l,q⟩=>?_)
 subst ex
 obtain rfl:u=Value.ref a:=rx
 exact Hf I1 ea c n l λ u' s2 I2 ru=>⟨v,H1,I2,ru,q⟩
theorem pV(ha:PE X o ta)(hv:PE X value tv)(hs:hX value (some (.Attribute o f pos')) pos.line X.env=pure false):PS X (.Assign [.Attribute o f pos'] value pos) (aer X.K ta tv f):=by
 intro pins s σ H D I h
 refine fJ (pN (hv pins s σ H _ I h) λ u s1 ⟨y,H1,I1,ry,q⟩=>pN (ha pins s1 σ H1 _ I1 q) λ ov s2 ⟨x,H2,I2,rx,a,C,dx,fs,ex,ea,c,n,l,q2⟩=>?_) hs
 subst ex
 obtain rfl:ov=Value.ref a:=rx
 exact Hh I2 ea c n l ry λ s3 I3=>⟨σ,_,I3,q2⟩
theorem Uq{op:js}{rd:V->V->Hp->VK->Prop}(ha:PE X o ta)(hv:PE X value tv)(hop:ade X op rd):PS X (.AugAssign (.Attribute o f Bh) op value pos) (Zw X.K ta tv rd f):=by
 intro pins s σ H D I h
 refine wpAny_AugAssign_AttributeAny (pN (ha pins s σ H _ I h) λ ov s1 ⟨x,H1,I1,rx,a,C,dx,fs,v,ex,ea,c,n,l,q⟩=>?_)
 subst ex
 obtain rfl:ov=Value.ref a:=rx
 refine Hf I1 ea c n l λ u s2 I2 ru=>pN (hv pins s2 σ H1 _ I2 q) λ w3 s3 ⟨y,H2,I3,ry,q3⟩=>pN (hop pins s3 σ H2 v y u w3 _ I3 ru ry q3) λ w4 s4 ⟨z,H3,I4,rz,dx',fs',ea',l',q4⟩=>?_
 exact Hh I4 ea' c n l' rz λ s5 I5=>⟨σ,_,I5,q4⟩
def aes:V->V->Hp->VK->Prop:=λ x y H Q=>∃i j,x= .int i/\y= .int j/\Q (.int (i+j)) H
theorem abB:ade X .Add aes:=by
 rintro pins s σ H x y u v Q I rx ry ⟨i,j,rfl,rfl,q⟩
 obtain⟨t,rfl⟩:=(show ∃t,u=Value.int i t from rx)
 obtain⟨t',rfl⟩:=(show ∃t',v=Value.int j t' from ry)
 exact kY ⟨.int (i+j),H,I.tok _,⟨_,rfl⟩,q⟩
end
section
variable{X:Cx}{pins:List (ag×Obj)}{σ:St}{H:Hp}{s:au}{A:bU}{E:ao->au->Prop}{Q:ao->au->Prop}{c:ao}{b:Bool}
end
end L2
namespace L2
open PySem PySem.Spec PyProof.Rows
structure qT(k:Nat)(A:bU):Prop where
 hd:A.handled=none
 dp:A.depth+3*k+5<mK
 un:A.units+16*k+200<jI
theorem qT.mono{j k:Nat}{A:bU}(r:qT k A)(h:j<=k):qT j A:=⟨r.hd,by have:=r.dp;omega,by have:=r.un;omega⟩
theorem qT.deeper{k:Nat}{A:bU}(r:qT (k+1) A)(env:Env):qT k (A.deeper env):=
 ⟨r.hd,by have:=r.dp;show A.depth+1+3*k+5< _;omega,by have:=r.un;show A.units+3+16*k+200< _;omega⟩
theorem Qk{A:bU}{C:ag}{us:List ao}{kw:List (Str×ao)}:(A.under (.builtin "type.__call__" ⟨.ref C::us,kw⟩)).depth=A.depth+1:=by
 first|rfl|simp[Around.under,Code.weight,Code.isCreation,Code.isGuard,Code.isCaller,Code.frames,Code.isFrame,guardIds]
theorem Ql{A:bU}{C:ag}{us:List ao}{kw:List (Str×ao)}:(A.under (.builtin "type.__call__" ⟨.ref C::us,kw⟩)).units=A.units+1:=by
 first|rfl|simp[Around.under,Code.cUnits,Code.frames,Code.isFrame]
theorem qT.make{k:Nat}{A:bU}(r:qT (k+1) A)(C:ag)(us:List ao)(kw:List (Str×ao)):qT k (A.under (.builtin "type.__call__" ⟨.ref C::us,kw⟩)):=
 ⟨r.hd,by have:=r.dp;rw[Qk];omega,by have:=r.un;rw[Ql];omega⟩
theorem qT.depth{k:Nat}{A:bU}(r:qT k A):A.depth<mK:=by have:=r.dp;omega
theorem qT.units{k:Nat}{A:bU}(r:qT k A):A.units+64<jI:=by have:=r.un;omega
def Ws:TA:=λ _ H Q=>Q [] H
def adf(ta:TE)(tr:TA):TA:=λ σ H Q=>ta σ H λ x H1=>tr σ H1 λ xs H2=>Q (x::xs) H2
section
variable{X:Cx}{e:bJ}{es:List bJ}{te:TE}{t:TA}{pos:Pos}
theorem mZ:PA X [] Ws:=λ _ _ _ _ H Q I h=>Calls.spliced_nil ⟨[],H,I,.nil,h⟩
theorem mX(ha:PE X e te)(hr:PA X es t)(hs:aN (e::es) X.env=(false,cu e X.env)::aN es X.env:=by rfl):PA X (e::es) (adf te t):=by
 intro pos pins s σ H Q I h
 rw[hs]
 show aV _ _ (spliced ((false,cu e X.env)::c7 pos (aN es X.env))) _ _ s
 refine Calls.spliced_cons (pN (ha pins s σ H _ I h) λ u s1 ⟨x,H1,I1,r1,q1⟩=>?_)
 exact pN (hr pos pins s1 σ H1 _ I1 q1) λ us s2 ⟨xs,H2,I2,r2,q2⟩=>⟨x::xs,H2,I2,.cons r1 r2,q2⟩
def aet(t:TA):TE:=λ σ H Q=>t σ H λ xs H1=>xs.length<=ay/\∀p,H1 p=none->Q (.ref p) (upd H1 p (.tup xs))
def aeu(t:TA):TE:=λ σ H Q=>t σ H λ xs H1=>xs.length<=ay/\∀p,H1 p=none->Q (.ref p) (upd H1 p (.lst xs))
theorem abC{x1}(h:PA X es t):PE X (.Tuple es x1 pos) (aet t):=by
 intro pins s σ H Q I hq
 refine wpAny_Tuple_spliced (pN (h pos pins s σ H _ I hq) λ us s1 ⟨xs,H1,I1,r,z,q⟩=>⟨by rw[<-r.length];exact z,?_⟩)
 have hf:H1 s1.heap.objs.size=none:=I1.oY.fresh (ax _)
 refine⟨.ref s1.heap.objs.size,upd H1 s1.heap.objs.size (.tup xs),I1.laid (t':=s1.toks) (λ b u e=>Heap.get?_push_of_some _ e) (ax _) ?_,rfl,q _ hf⟩
 exact⟨z,us,r,⟨_,Heap.get?_push_size _ rfl,rfl,_,rfl⟩⟩
theorem nQ(h:PA X es t):PE X (.List es pos) (aeu t):=by
 intro pins s σ H Q I hq
 refine wpAny_List_spliced (pN (h pos pins s σ H _ I hq) λ us s1 ⟨xs,H1,I1,r,z,q⟩=>⟨by rw[<-r.length];exact z,?_⟩)
 have hf:H1 s1.heap.objs.size=none:=I1.oY.fresh (ax _)
 refine⟨.ref s1.heap.objs.size,upd H1 s1.heap.objs.size (.lst xs),I1.laid (t':=s1.toks) (λ b u e=>Heap.get?_push_of_some _ e) (ax _) ?_,rfl,q _ hf⟩
 exact⟨z,us,0,r,Heap.get?_push_size _ rfl⟩
end
abbrev Sp:=List V->Hp->VK->XK->Prop
abbrev CY:=List Env->Hp->au->XK->ao->au->Prop
structure LG(P:aJ)(w:aY)(K:ah)(mg:Str->Option ao)(base:bw)(A:bU)(outer:List Env)(s:au)(H:Hp):Prop where
 frames:A.frames=some outer
 mod:Mod K mg base
 bs:∀b o,base.get? b=some o->s.heap.get? b=some o/\H b=none
 Ss:base.objs.size<=s.heap.objs.size
 Bg:s.heap.FunFrames base outer
 VZ:∀b∈PX outer,H b=none
 oY:zE P w H s.heap
 bare:gq s.gens
def CE(outer:List Env)(P:aJ)(w:aY)(H:Hp)(s:au)(Q:VK)(u:ao)(s':au):Prop:=
 ∃v H',s'.os=s.os/\gq s'.gens/\Un (PX outer) [] H H' s.heap s'.heap/\zE P w H' s'.heap/\RelV v u/\Q v H'
def CR(CX:CY)(outer:List Env)(P:aJ)(w:aY)(H:Hp)(s:au)(Q:VK)(E:XK)(r:lU)(s':au):Prop:=
 match r with
 | .ok (.ret u)=>CE outer P w H s Q u s'
 | .ok _=>False
 | .error e=>CX outer H s E e s'
structure nU(P:aJ)(w:aY)(K:ah)(mg:Str->Option ao)(base:bw)(CX:CY)(k:Nat)(f:ag)(fd:bK)(ps:List Str)(sp:Sp):Prop where
 len:∀vs H Q E,sp vs H Q E->vs.length=ps.length
 run:∀(A:bU) (outer:List Env) (s:au) (H:Hp) (args:Args) (us:List ao) (vs:List V) (Q:VK) (E:XK),qT k A->LG P w K mg base A outer s H->iQ s fd args (ps.zip us)->Vals vs us->sp vs H Q E->
  fS (aS P w) A (.call (.ref f) args) (CR CX outer P w H s Q E) s
theorem nU.mono{P:aJ}{w:aY}{K:ah}{mg:Str->Option ao}{base:bw}{CX:CY}{j k:Nat}{f:ag}{fd:bK}{ps:List Str}{sp:Sp}(F:nU P w K mg base CX j f fd ps sp)(h:j<=k):
  nU P w K mg base CX k f fd ps sp:=⟨F.len,λ A outer s H args us vs Q E hr=>F.run A outer s H args us vs Q E (hr.mono h)⟩
theorem nU.imp{P:aJ}{w:aY}{K:ah}{mg:Str->Option ao}{base:bw}{CX:CY}{k:Nat}{f:ag}{fd:bK}{ps:List Str}{sp sp':Sp}(F:nU P w K mg base CX k f fd ps sp)
  (h:∀vs H Q E,sp' vs H Q E->sp vs H Q E):nU P w K mg base CX k f fd ps sp':=
 ⟨λ vs H Q E q=>F.len vs H Q E (h _ _ _ _ q),λ A outer s H args us vs Q E hr he hb hv hs=>F.run A outer s H args us vs Q E hr he hb hv (h _ _ _ _ hs)⟩
theorem LG.make{P:aJ}{w:aY}{K:ah}{mg:Str->Option ao}{base:bw}{A:bU}{outer:List Env}{s:au}{H:Hp}(e:LG P w K mg base A outer s H)(C:ag)(us:List ao)(kw:List (Str×ao)):
  LG P w K mg base (A.under (.builtin "type.__call__" ⟨.ref C::us,kw⟩)) outer s H:=⟨by first|exact e.frames|(simpa [Around.under,Code.envs,Code.isFrame,pushEnvs]using e.frames),e.mod,e.bs,e.Ss,e.Bg,e.VZ,e.oY,e.bare⟩
section
variable{X:Cx}{pins:List (ag×Obj)}{σ:St}{H:Hp}{s s':au}
theorem Inv.abD(I:Inv X pins σ H s):LG X.prog X.w X.K X.mg X.base X.A X.stack s H:=
 ⟨I.ok.frames,I.ok.mod,I.bs,aT I.ok.Ss I.sz,I.stack,I.Lv,I.oY,I.bare⟩
theorem Inv.after{Q:VK}{u:ao}(I:Inv X pins σ H s)(h:CE X.stack X.prog X.w H s Q u s'):EP X pins σ Q u s':=by
 obtain⟨v,H',os,bare,un,oY,r,q⟩:=h
 obtain⟨hh,g,d,t,os'⟩:=s'
 obtain rfl:os'=s.os:=os
 exact⟨v,H',I.call (h':=hh) (g':=g) (d':=d) (t':=t) (ch:=[]) un oY bare (λ b z=>absurd z (by simp)),r,q⟩
end
def adg(sp:Sp)(JS:List V)(E:XK)(t:TA):TE:=λ σ H Q=>t σ H λ vs H1=>sp (vs++JS) H1 Q E
def aa1(C:ag)(m:Str)(sp:Sp)(JS:List V)(E:XK)(ta:TE)(t:TA):TE:=λ σ H Q=>ta σ H λ x H1=>∃a dx fs,x= .ref a/\H1 a=some (.ins C dx fs)/\fs.lookup m=none/\
 t σ H1 λ vs H2=>sp (x::(vs++JS)) H2 Q E
def adh(C:ag)(sp:Sp)(JS:List V)(E:XK)(t:TA):TE:=λ σ H Q=>t σ H λ vs H1=>∀x dx,H1 x=none->H1 dx=none->dx≠x->
 sp (.ref x::(vs++JS)) (upd (upd H1 dx (.own x)) x (.ins C dx [])) (λ v H2=>v= .qB/\Q (.ref x) H2) E
def Binds(K:ah)(fd:bK)(ps:List Str)(ds:List ao):Prop:=
 ∀(s:au) (us:List ao),K.In s.heap->(us++ds).length=ps.length->iQ s fd ⟨us,[]⟩ (ps.zip (us++ds))
theorem Binds.all{K:ah}{fd:bK}{ps:List Str}(h:∀us:List ao,us.length=ps.length->iM fd ⟨us,[]⟩=pure (ps.zip us)):Binds K fd ps []:=λ s us _ hl=>by
 rw[bD]at hl ⊢
 exact .of_eq (h us hl)
def Passes(CX:CY)(X:Cx)(E:XK):Prop:=∀(pins:List (ag×Obj)) (σ:St) (H:Hp) (s:au) (e:ao) (s':au),Inv X pins σ H s->CX X.stack H s E e s'->X.xe e s'
section
variable{X:Cx}{CX:CY}{k:Nat}{f C:ag}{fd:bK}{ps:List Str}{sp:Sp}{JS:List V}{ds:List ao}{E:XK}{x m:Str}{p pos apos:Pos}{e o:bJ}{es:List bJ}{ta:TE}{t:TA}
theorem LH{pins:List (ag×Obj)}{σ:St}{H:Hp}{s:au}{Q:VK}{us:List ao}{vs:List V}(F:nU X.prog X.w X.K X.mg X.base CX k f fd ps sp)(hr:qT k X.A)(hb:Binds X.K fd ps ds)(hd:Vals JS ds)(hx:Passes CX X E)
  (I:Inv X pins σ H s)(r:Vals vs us)(h:sp (vs++JS) H Q E):aV (aS X.prog X.w) X.A (call (.ref f) us) (EP X pins σ Q) X.xe s:=by
 have r2:Vals (vs++JS) (us++ds):=r.append hd
 have hl:(us++ds).length=ps.length:=by rw[<-r2.length];exact F.len _ _ _ _ h
 refine jd (dX (F.run X.A X.stack s H ⟨us,[]⟩ (us++ds) (vs++JS) Q E hr I.abD (hb s us I.Ff hl) r2 h) λ r s' hq=>?_)
 cases r with
 |error e=>exact hx pins σ H s e s' I hq
 |ok fl=>
  cases fl with
  |ret u=>exact I.after hq
  |next=>exact False.elim hq
  |brk=>exact False.elim hq
  |cont=>exact False.elim hq
theorem Zx(F:nU X.prog X.w X.K X.mg X.base CX k f fd ps sp)(hr:qT k X.A)(hg:Gl X x)(hm:X.mg x=some (.ref f))(hk:bY X.K (.ref f)=true)(hb:Binds X.K fd ps ds)(hd:Vals JS ds)(hx:Passes CX X E)
  (ha:PA X (e::es) t)(PM:(x == ("__debug__":Str))=false:=by decide)(he:aN (e::es) X.env=(false,cu e X.env)::aN es X.env:=by rfl)(vo:(c7 pos (aN es X.env)).any (·.1)=false:=by rfl):
  PE X (.Call (.Name x p) (e::es) [] pos) (adg sp JS E t):=by
 intro pins s σ H Q I h
 refine cZ (xR I hg hm ?_ PM)
 refine dJ (h₀:=X.base) I.ok.mod.Zo hk (pN (ha pos pins s σ H _ I h) λ us s1 ⟨vs,H1,I1,r,q⟩=>⟨I1.Ff,?_⟩) he vo
 exact LH F hr hb hd hx I1 r q
theorem Zy{pl:Sem Bool}(he:PE X o ta)(c:GP X.K C)(hm:Meth X.K C m f)(F:nU X.prog X.w X.K X.mg X.base CX k f fd ps sp)(hr:qT k X.A)(hb:Binds X.K fd ps ds)(hd:Vals JS ds)(hx:Passes CX X E)(ha:PA X (e::es) t)
  (LC:aN (e::es) X.env=(false,cu e X.env)::aN es X.env:=by rfl)(vo:(c7 pos (aN es X.env)).any (·.1)=false:=by rfl)
  (ht:cu (.Call (.Attribute o m apos) (e::es) [] pos) X.env=(do
   let ov <-cu o X.env
   iu apos.atName
   let(f,first) <-gp [ov] (hZ ov m pl)
   jq pos f first (c7 pos (aN (e::es) X.env)) (h_ pos (fj [] X.env))):=by rfl):
  PE X (.Call (.Attribute o m apos) (e::es) [] pos) (aa1 C m sp JS E ta t):=by
 intro pins s σ H Q I h
 refine gJ (pl:=pl) (pN (he pins s σ H _ I h) λ u s1 ⟨x,H1,I1,rx,a,dx,fs,ex,ea,l,q⟩=>?_) ht
 subst ex
 obtain rfl:u=Value.ref a:=rx
 refine Hg I1 ea c hm l ?_
 refine dJ (first:=[.ref a]) (h₀:=X.base) I.ok.mod.Zo hm.kp (pN (ha pos pins s1 σ H1 _ I1 q) λ us s2 ⟨vs,H2,I2,r,q2⟩=>⟨I2.Ff,?_⟩) LC vo
 exact LH (us:=.ref a::us) (vs:=.ref a::vs) F hr hb hd hx I2 (.cons rfl r) q2
theorem Wt{pl:Sem Bool}(he:PE X o ta)(c:GP X.K C)(hm:Meth X.K C m f)(F:nU X.prog X.w X.K X.mg X.base CX k f fd ps sp)(hr:qT k X.A)(hb:Binds X.K fd ps ds)(hd:Vals JS ds)(hx:Passes CX X E)
  (ht:cu (.Call (.Attribute o m apos) [] [] pos) X.env=(do
   let ov <-cu o X.env
   iu apos.atName
   let(f,first) <-gp [ov] (hZ ov m pl)
   jq pos f first (c7 pos (aN [] X.env)) (h_ pos (fj [] X.env))):=by rfl):
  PE X (.Call (.Attribute o m apos) [] [] pos) (aa1 C m sp JS E ta Ws):=by
 intro pins s σ H Q I h
 refine gJ (pl:=pl) (pN (he pins s σ H _ I h) λ u s1 ⟨x,H1,I1,rx,a,dx,fs,ex,ea,l,q⟩=>?_) ht
 subst ex
 obtain rfl:u=Value.ref a:=rx
 refine Hg I1 ea c hm l ?_
 exact jM (first:=[.ref a]) I1.Ff hm.kp (LH (us:=[.ref a]) (vs:=[.ref a]) F hr hb hd hx I1 (.cons rfl .nil) q)
structure Mk(K:ah)(C f:ag):Prop where
 makes:iW K C=true
 init:bx K (.ref C) "__init__"=some (some (.ref f))
 fn:gC K (.ref f)=true
 kp:bY K (.ref C)=true
theorem Hi{pins:List (ag×Obj)}{σ:St}{H:Hp}{s:au}{Q:VK}{us:List ao}{vs:List V}(M:Mk X.K C f)(F:nU X.prog X.w X.K X.mg X.base CX k f fd ps sp)(hr:qT (k+1) X.A)(hb:Binds X.K fd ps ds)(hd:Vals JS ds)
  (hx:Passes CX X E)(I:Inv X pins σ H s)(r:Vals vs us)
  (h:∀x dx,H x=none->H dx=none->dx≠x->sp (.ref x::(vs++JS)) (upd (upd H dx (.own x)) x (.ins C dx [])) (λ v H2=>v= .qB/\Q (.ref x) H2) E):
  aV (aS X.prog X.w) X.A (call (.ref C) us) (EP X pins σ Q) X.xe s:=by
 have hq:=h (s.heap.objs.size+1) s.heap.objs.size (I.oY.fresh (km _)) (I.oY.fresh (ax _)) (bL (cK _))
 have I2:=Inv.made (C:=C) I
 have r2:Vals (V.ref (s.heap.objs.size+1)::(vs++JS)) (Value.ref (s.heap.objs.size+1)::(us++ds)):=.cons rfl (r.append hd)
 have hl:(Value.ref (s.heap.objs.size+1)::us++ds).length=ps.length:=by
  have e:=r2.length
  rw[F.len _ _ _ _ hq]at e
  exact e.symm
 refine jd (Wq (f:=f) I.Ff M.makes M.init (beq_iff_eq.mp M.fn) (dX (F.run _ X.stack _ _ ⟨Value.ref (s.heap.objs.size+1)::us,[]⟩ (Value.ref (s.heap.objs.size+1)::(us++ds)) _ _ E (hr.make C us [])
  (I2.abD.make C us []) (hb _ (Value.ref (s.heap.objs.size+1)::us) I2.Ff hl) r2 hq) λ r s' SH=>?_))
 cases r with
 |error e=>exact hx pins σ _ _ e s' I2 SH
 |ok fl=>
  cases fl with
  |ret u=>
   obtain⟨v,H',I3,rv,ev,q3⟩:=I2.after SH
   subst ev
   exact⟨rv,⟨V.ref (s.heap.objs.size+1),H',I3,rfl,q3⟩⟩
  |next=>exact False.elim SH
  |brk=>exact False.elim SH
  |cont=>exact False.elim SH
theorem Wu(M:Mk X.K C f)(F:nU X.prog X.w X.K X.mg X.base CX k f fd ps sp)(hr:qT (k+1) X.A)(hg:Gl X x)(hm:X.mg x=some (.ref C))(hb:Binds X.K fd ps ds)(hd:Vals JS ds)(hx:Passes CX X E)
  (PM:(x == ("__debug__":Str))=false:=by decide):PE X (.Call (.Name x p) [] [] pos) (adh C sp JS E Ws):=by
 intro pins s σ H Q I h
 refine cZ (xR I hg hm ?_ PM)
 exact jM I.Ff M.kp (Hi (us:=[]) M F hr hb hd hx I .nil h)
end
section
variable{X:Cx}{CX:CY}{k:Nat}{f C:ag}{fd:bK}{ps ks:List Str}{sp:Sp}{E:XK}{x m:Str}{p pos apos afk:Pos}{e o:bJ}{es:List bJ}{kws:List kS}{te ta:TE}{t tk:TA}{nm:Option Str}
variable{g:List ao->List ao->List ao}{gV:List V->List V->List V}
end
structure m_(N P:List Str)(sc:eQ):Prop where
 kind:sc.kind= .function
 co:sc.isCoroutine=false
 gen:sc.isGenerator=false
 nd:N.Nodup
 pre:N.take P.length=P
 par:∀x∈P,sc.names.lookup x=some .local\/sc.names.lookup x=some .cell
 abE:∀y∈sc.names,y.2≠ .free
theorem Kj{gj:Str->Option dF}{x:Str}:∀{binds:List (Str×ao)} {m:Str->Option ao},(∀v,(x,v)∉binds)->ky gj binds m x=m x
 |[],_,_=>rfl
 |(n,v)::r,m,h=>by
  unfold ky
  rw[Kj λ w hw=>h w (aQ _ hw)]
  split
  ·have:x≠n:=by rintro rfl;exact h v bT
   simp[this]
  ·rfl
theorem Kk{gj:Str->Option dF}{x:Str}:∀{binds:List (Str×ao)} {m:Str->Option ao},(∀v,(x,v)∉binds)->kz gj binds m x=m x
 |[],_,_=>rfl
 |(n,v)::r,m,h=>by
  unfold kz
  rw[Kk λ w hw=>h w (aQ _ hw)]
  split
  ·rfl
  ·have:x≠n:=by rintro rfl;exact h v bT
   simp[this]
theorem Kl{gj:Str->Option dF}{x:Str}{v:ao}:∀{P:List Str} {vs:List ao} {i:Nat} {m:Str->Option ao},P.Nodup->P[i]? =some x->vs[i]? =some v->gj x=some .local->
  ky gj (P.zip vs) m x=some v
 |[],_,_,_,_,h,_,_=>by simp at h
 |_::_,[],_,_,_,_,h,_=>by simp at h
 |p::P,w::vs,0,m,nd,h1,h2,hk=>by
  simp at h1 h2;subst h1;subst h2
  show ky gj ((p,w)::P.zip vs) m p=_
  unfold ky
  rw[Kj λ v hv=>(List.nodup_cons.mp nd).1 (gT hv).1,if_pos hk]
  simp
 |p::P,w::vs,i+1,m,nd,h1,h2,hk=>by
  show ky gj ((p,w)::P.zip vs) m x=_
  unfold ky
  exact Kl (i:=i) (List.nodup_cons.mp nd).2 (by simpa using h1) (by simpa using h2) hk
theorem Km{gj:Str->Option dF}{x:Str}{v:ao}:∀{P:List Str} {vs:List ao} {i:Nat} {m:Str->Option ao},P.Nodup->P[i]? =some x->vs[i]? =some v->gj x≠some .local->
  kz gj (P.zip vs) m x=some v
 |[],_,_,_,_,h,_,_=>by simp at h
 |_::_,[],_,_,_,_,h,_=>by simp at h
 |p::P,w::vs,0,m,nd,h1,h2,hk=>by
  simp at h1 h2;subst h1;subst h2
  show kz gj ((p,w)::P.zip vs) m p=_
  unfold kz
  rw[Kk λ v hv=>(List.nodup_cons.mp nd).1 (gT hv).1,if_neg hk]
  simp
 |p::P,w::vs,i+1,m,nd,h1,h2,hk=>by
  show kz gj ((p,w)::P.zip vs) m x=_
  unfold kz
  exact Km (i:=i) (List.nodup_cons.mp nd).2 (by simpa using h1) (by simpa using h2) hk
def start(N:List Str)(vs:List V):St:=vs.map some++cG (N.length-vs.length) none
def LI(CX:CY)(P:aJ)(w:aY)(K:ah)(mg:Str->Option ao)(base:bw)(N:List Str)(qual:Str)(scope:eQ)(f:ag)(cd:ao)(A:bU)(outer:List Env)(s:au)(H:Hp)(E:XK):Cx where
 prog:=P
 w:=w
 K:=K
 mg:=mg
 base:=base
 A:=A.deeper (iN qual scope s.heap.objs.size f cd)
 N:=N
 JR:=s
 H_0:=H
 env:=iN qual scope s.heap.objs.size f cd
 outer:=outer
 stack:=iN qual scope s.heap.objs.size f cd::outer
 ex:=[]
 calm:=true
 fn:=λ _=>true
 pn:=[]
 xe:=λ e s'=>aV (aS P w) (A.deeper (iN qual scope s.heap.objs.size f cd)) (leaving (iN qual scope s.heap.objs.size f cd) e) (λ _ s''=>CX outer H s E e s'') (λ e' s''=>CX outer H s E e' s'') s'
theorem NB{sc:eQ}{n:Nat}{x:Str}(h:sc.names.lookup x=some .cell):∃c,(cE n sc.names []).lookup x=some c:=by
 have q:=jw sc.names n [] (.inl h)
 exact Option.isSome_iff_exists.mp q
theorem Ur{CX:CY}{P:aJ}{w:aY}{K:ah}{mg:Str->Option ao}{base:bw}{N ps:List Str}{qual:Str}{scope:eQ}{f:ag}{cd:ao}{A:bU}{outer:List Env}{s s1:au}{H:Hp}{E:XK}{us:List ao}{vs:List V}
  (S:m_ N ps scope)(hd:A.handled=none)(e0:LG P w K mg base A outer s H)(hl:vs.length=ps.length)(r:Vals vs us)
  (x:InCallC s s.heap.objs.size (ky (iN qual scope s.heap.objs.size f cd).kindOf (ps.zip us) λ _=>none) (cE (s.heap.objs.size+1) scope.names []) (kz (iN qual scope s.heap.objs.size f cd).kindOf (ps.zip us) λ _=>none) s1):
  Inv (LI CX P w K mg base N qual scope f cd A outer s H E) [] (start N vs) H s1:=by
 have vo:ps.length<=N.length:=by have:=congrArg ig S.pre;rw[bW]at this;omega
 obtain⟨h1,tk,rfl,hk⟩:=x.done
 have noA:∀b:ag,b∉(LI CX P w K mg base N qual scope f cd A outer s H E).ex:=λ b z=>absurd (show b∈([]:List ag)from z) (by simp)
 refine⟨⟨e0.mod,S.kind,rfl,rfl,ax _,λ y z c h1 h2=>?_,λ y hy=>?_,λ y c _ h=>?_,λ _=>hd,Around.frames_deeper e0.frames,.inr ⟨rfl,rfl⟩,λ b z=>absurd z (noA b),e0.bs,e0.Ss,λ b _ _=>noA b,λ b z=>absurd z (noA b),e0.Bg,e0.VZ⟩,
  rfl,e0.bare,Un.kept hk,⟨_,x.toInCall.ns,λ i y v h1 h2 h3=>?_⟩,λ y c h=>⟨_,x.cell y c h⟩,e0.oY.fresh (ax _),λ y c h=>?_,λ p hp=>absurd (show p∈([]:List (ag×Obj))from hp) (by simp),e0.oY.kept hk,?_⟩
 ·exact name_of_addr x.apart (bG h1) (bG h2)
 ·have hy:scope.names.lookup y=some .cell\/scope.names.lookup y=some .free:=hy
  rcases hy with hy|hy
  ·exact NB hy
  ·exact absurd rfl (S.abE _ (bG hy))
 ·exact ff (x.above y c (bG h))
 ·have hi:i<vs.length:=by
   unfold start at h2
   by_cases hi:i<vs.length
   ·exact hi
   ·rw[bg (by simpa using hi)]at h2
    rw[gH]at h2
    split at h2 <;> cases h2
  have ha:vs[i]? =some v:=by
   unfold start at h2
   rw[bp (by simpa using hi),ak]at h2
   cases e:vs[i]? with
   |none=>rw[e]at h2;cases h2
   |some a=>rw[e]at h2;cases h2;rfl
  obtain⟨u,hu,rv⟩:=r.get ha
  have hp:ps[i]? =some y:=by
   rw[<-S.pre,List.getElem?_take_of_lt (by omega)];exact h1
  have ndP:ps.Nodup:=by rw[<-S.pre];exact S.nd.sublist (List.take_sublist _ _)
  refine⟨u,rv,?_⟩
  rcases S.par y (aC hp)with k|k
  ·exact .inl ⟨k,Kl ndP hp hu k⟩
  ·obtain⟨c,e⟩:=NB (n:=s.heap.objs.size+1) k
   refine .inr ⟨.inl k,c,e,?_⟩
   have q:=x.cell y c e
   rw[Km ndP hp hu (by show scope.names.lookup y≠_;rw[k];decide)]at q
   exact q
 ·exact e0.oY.fresh (ff (x.above y c (bG h)))
 ·unfold start
  show _=N.length
  rw[aw,aa,fo]
  omega
theorem aa2{CX:CY}{P:aJ}{w:aY}{K:ah}{mg:Str->Option ao}{base:bw}{k:Nat}{f:ag}{name qual:Str}{params:Arguments}{body:List bA}{scope:eQ}{dV kV doc pm oX ct oc:ao}{an od:Option ag}
  {Kn:Array (Option ao)}{N ps:List Str}{sp:Sp}(lk:K.lookup f=some ⟨oc,od,.func (cz name qual params body scope dV kV doc pm an oX ct),Kn⟩)(Ly:dW K oX qual=true)(S:m_ N ps scope)
  (len:∀vs H Q E,sp vs H Q E->vs.length=ps.length)
  (NC:∀(A:bU) (outer:List Env) (s:au) (H:Hp) (vs:List V) (Q:VK) (E:XK),qT k (A.deeper (iN qual scope s.heap.objs.size f oX))->sp vs H Q E->
   ∃t,Lx (LI CX P w K mg base N qual scope f oX A outer s H E) body t/\t { nx:=λ _ H'=>Q .qB H',rt:=Q } (start N vs) H):
  nU P w K mg base CX (k+1) f (cz name qual params body scope dV kV doc pm an oX ct) ps sp:=by
 refine⟨len,λ A outer s H args us vs Q E hr e0 hb r ND=>?_⟩
 have hl:=len _ _ _ _ ND
 have KX:K.In s.heap:=e0.mod.Zo.keeps λ b o e=>(e0.bs b o e).1
 have lim:s.heap.NoLimit:=e0.mod.nolimit.keeps λ b o e=>(e0.bs b o e).1
 have adi:∀y∈ps.zip us,scope.names.lookup y.1=some .local\/(scope.names.lookup y.1=some .cell/\((cE (s.heap.objs.size+1) scope.names []).lookup y.1).isSome=true):=λ⟨n,v⟩ hy=>by
  rcases S.par n (gT hy).1 with q|q
  ·exact .inl q
  ·exact .inr ⟨q,jw _ _ _ (.inl q)⟩
 refine codeAny_call_function hr.depth (KX _ _ lk) rfl S.co S.gen rfl (PySem.W.codeRec_of KX Ly) (hb _ _ _ _ ?_)
 refine wpAny_newFunctionEnv_cells S.kind adi λ env he s1 x=>?_
 subst he
 refine⟨lim.keeps x.toInCall.keep,codeAny_func ?_⟩
 obtain⟨t,ht,hq⟩:=NC A outer s H vs Q E (hr.deeper _) ND
 have I:Inv (LI CX P w K mg base N qual scope f oX A outer s H E) [] (start N vs) H s1:=Ur S hr.hd e0 hl r x
 refine cQ (ht [] s1 (start N vs) H _ I hq) (λ fl s' hs=>?_) λ e s' hs=>hs
 have fin:∀{σ':St} {H':Hp} {v:V} {u:ao},Inv (LI CX P w K mg base N qual scope f oX A outer s H E) [] σ' H' s'->RelV v u->Q v H'->CE outer P w H s Q u s':=
  λ{σ' H' v u} J rv q=>⟨v,H',J.os,J.bare,J.base,J.oY,rv,q⟩
 cases fl with
 |ret u=>
  obtain⟨v,σ',H',J,rv,q⟩:=hs
  exact fin J rv q
 |next=>
  obtain⟨σ',H',J,q⟩:=hs
  exact fin (v:=V.qB) (u:=Value.none) J rfl q
 |brk=>
  obtain⟨_,_,_,q⟩:=hs
  exact False.elim q
 |cont=>
  obtain⟨_,_,_,q⟩:=hs
  exact False.elim q
end L2
namespace L2
open PySem PySem.Spec PyProof.Rows
section
variable{X:Cx}{x:Str}{p pos:Pos}{e:bJ}{es:List bJ}{t:TA}{id T:String}{r:List V->Hp->VK->Prop}
def tCB(r:List V->Hp->VK->Prop)(t:TA):TE:=λ σ H Q=>t σ H λ vs H1=>r vs H1 Q
theorem nN(hc:zI X (.builtin id) r)(hg:Gl X x)(hm:X.mg x=none)(hv:fE x=some (.builtin id))(ha:PA X (e::es) t)(hn:x≠"__name__":=by decide)(PM:(x == ("__debug__":Str))=false:=by decide)
  (he:aN (e::es) X.env=(false,cu e X.env)::aN es X.env:=by rfl)(vo:(c7 pos (aN es X.env)).any (·.1)=false:=by rfl):PE X (.Call (.Name x p) (e::es) [] pos) (tCB r t):=by
 intro pins s σ H Q I h
 refine cZ (vh I hg hm hv ?_ hn PM)
 exact ib (pN (ha pos pins s σ H _ I h) λ us s1 ⟨vs,H1,I1,r1,q1⟩=>hc pins s1 σ H1 vs us Q I1 r1 q1) he vo
theorem sx(hc:zI X (.type T) r)(hg:Gl X x)(hm:X.mg x=none)(hv:fE x=some (.type T))(ha:PA X (e::es) t)(hn:x≠"__name__":=by decide)(PM:(x == ("__debug__":Str))=false:=by decide)
  (he:aN (e::es) X.env=(false,cu e X.env)::aN es X.env:=by rfl)(vo:(c7 pos (aN es X.env)).any (·.1)=false:=by rfl):PE X (.Call (.Name x p) (e::es) [] pos) (tCB r t):=by
 intro pins s σ H Q I h
 refine cZ (vh I hg hm hv ?_ hn PM)
 exact bS (pN (ha pos pins s σ H _ I h) λ us s1 ⟨vs,H1,I1,r1,q1⟩=>hc pins s1 σ H1 vs us Q I1 r1 q1) he vo
end
end L2
namespace HT
open PySem PyProof.Rows
section
open PySem.SeqAt
open PySem.AutoSeq1 (wpAny_loadPart')
open PySem.MeetsSeq PySem.MeetsSeq2 PySem.MeetsSeq3
end
section
variable{prog:aJ}{w:aY}{A:bU}{E:ao->au->Prop}{s:au}
def PN(n d:Nat):Option Int->Nat
 |none=>d
 |some v=>if v<0 then(v+(n:Int)).toNat else min v.toNat n
theorem GQ(n d k:Nat):PN n d (some (k:Int))=min k n:=by
 show(if(k:Int)<0 then((k:Int)+(n:Int)).toNat else min (k:Int).toNat n)=min k n
 rw[if_neg (by omega),Int.toNat_natCast]
end
end HT
namespace L2
open PySem PySem.Spec PyProof.Rows
abbrev TO:=St->Hp->(Option Int->Hp->Prop)->Prop
def PO(X:Cx)(e:Option bJ)(t:TO):Prop:=
 ∀(pins:List (ag×Obj)) (s:au) (σ:St) (H:Hp) (Q:Option Int->Hp->Prop),Inv X pins σ H s->t σ H Q->
  aV (aS X.prog X.w) X.A (evalPart e X.env) (λ u s'=>∃o H',Inv X pins σ H' s'/\IsPart u o/\Q o H') X.xe s
def adj(t:TE):TO:=λ σ H Q=>t σ H λ x H1=>∃i,x= .int i/\Q (some i) H1
section
variable{X:Cx}{e:bJ}{te:TE}{lo hi:Option bJ}{tl th:TO}{pos p2:Pos}
theorem wo(h:PE X e te):PO X (some e) (adj te):=by
 intro pins s σ H Q I hw
 rw[evalPart_some]
 refine pN (h pins s σ H _ I hw) λ u s1 ⟨x,H1,I1,r1,q1⟩=>?_
 obtain⟨i,rfl,q⟩:=q1
 obtain⟨t,rfl⟩:=r1
 exact⟨some i,H1,I1,.int i t,q⟩
def SlR(X:Cx)(r:V->Option Int->Option Int->Hp->VK->Prop):Prop:=
 ∀(pins:List (ag×Obj)) (s:au) (σ:St) (H:Hp) (x:V) (v vl vu:ao) (lo hi:Option Int) (sl:ag) (Q:VK),Inv X pins σ H s->RelV x v->s.heap.IsSliceOf sl vl vu .none->IsPart vl lo->IsPart vu hi->r x lo hi H Q->
  ∃T id,typeLookup (.type T) "__getitem__"=pure (some (.builtin id))/\s.TypeIs v T/\aV (aS X.prog X.w) X.A (jo v (.ref sl)) (EP X pins σ Q) X.xe s
def tSl(r:V->Option Int->Option Int->Hp->VK->Prop)(te:TE)(tl th:TO):TE:=λ σ H Q=>te σ H λ x H1=>tl σ H1 λ l H2=>th σ H2 λ u H3=>r x l u H3 Q
theorem C2{r:V->Option Int->Option Int->Hp->VK->Prop}(hr:SlR X r)(he:PE X e te)(hl:PO X lo tl)(hu:PO X hi th):PE X (.Subscript e (.Slice lo hi none p2) pos) (tSl r te tl th):=by
 intro pins s σ H Q I h
 refine lV (pN (he pins s σ H _ I h) λ v s1 ⟨x,H1,I1,r1,q1⟩=>?_)
 refine wpAny_Slice (pN (hl pins s1 σ H1 _ I1 q1) λ vl s2 ⟨l,H2,I2,pl,q2⟩=>pN (hu pins s2 σ H2 _ I2 q2) λ vu s3 ⟨u,H3,I3,pu,q3⟩=>?_)
 rw[evalPart_none]
 refine aM ?_
 have I4:Inv X pins σ H3 { s3 with heap:=s3.heap.push { cls:=.type "slice",data:=.fields #[vl,vu,.none] } }:=I3.kept (t':=s3.toks) λ b ob q=>Heap.get?_push_of_some _ q
 obtain⟨T,id,hT,ht,hg⟩:=hr pins { s3 with heap:=s3.heap.push { cls:=.type "slice",data:=.fields #[vl,vu,.none] } } σ H3 x v vl vu l u s3.heap.objs.size Q I4 r1 (Heap.IsSliceOf.new ..) pl pu q3
 show aV (aS X.prog X.w) X.A (ki e (.Slice lo hi none p2) v (.ref s3.heap.objs.size)) (EP X pins σ Q) X.xe { s3 with heap:=s3.heap.push { cls:=.type "slice",data:=.fields #[vl,vu,.none] } }
 exact tail_any (ops:=[.ref s3.heap.objs.size,v]) ht hT hg (by with_unfolding_all rfl)
def BF(xs:List V)(lo hi:Option Int):List V:=(xs.drop (HT.PN xs.length 0 lo)).take (HT.PN xs.length xs.length hi-HT.PN xs.length 0 lo)
theorem NF(xs:List V)(lo hi:Option Int):(BF xs lo hi).length<=xs.length:=by
 unfold BF
 rw[bW,gG]
 omega
end
end L2
namespace L2
open PySem PySem.Spec PyProof.Rows
def Zz(n:Nat)(i:Int):Option Nat:=if 0<=i then(if i<n then some i.toNat else none)else if -(n:Int)<=i then some (i+n).toNat else none
def Y6{α:Type}(xs:List α)(i:Int):Option α:=(Zz xs.length i).bind λ j=>xs[j]?
theorem SJ{n:Nat}{i:Int}{j:Nat}(h:Zz n i=some j):seqIndex? i n=some j/\j<n/\ -(n:Int)<=i/\i<n:=by
 unfold Zz at h
 by_cases h0:0<=i
 ·rw[if_pos h0]at h
  by_cases h1:i<n
  ·rw[if_pos h1]at h
   have e:i.toNat=j:=Option.some.inj h
   exact⟨by rw[lq h0 h1,e],by omega,by omega,h1⟩
  ·rw[if_neg h1]at h;cases h
 ·rw[if_neg h0]at h
  by_cases h1: -(n:Int)<=i
  ·rw[if_pos h1]at h
   have e:(i+n).toNat=j:=Option.some.inj h
   exact⟨by rw[kP (by omega) h1,e],by omega,h1,by omega⟩
  ·rw[if_neg h1]at h;cases h
theorem LJ{α:Type}{xs:List α}{i:Int}{v:α}(h:Y6 xs i=some v):∃j,seqIndex? i xs.length=some j/\xs[j]? =some v/\j<xs.length/\ -(xs.length:Int)<=i/\i<xs.length:=by
 unfold Y6 at h
 cases e:Zz xs.length i with
 |none=>rw[e]at h;cases h
 |some j=>
  rw[e]at h
  obtain⟨h1,h2,h3,h4⟩:=SJ e
  exact⟨j,h1,h,h2,h3,h4⟩
theorem ou{α:Type}{xs:List α}{j:Nat}{v:α}(h:xs[j]? =some v):Y6 xs (j:Int)=some v:=by
 have hj:j<xs.length:=(List.getElem?_eq_some_iff.mp h).1
 have e:Zz xs.length (j:Int)=some j:=by
  unfold Zz
  rw[if_pos (by omega),if_pos (by omega)];simp
 unfold Y6;rw[e];exact h
def SK(b:bJ):Prop:=∀o i,jH b false o i=operate [o,i] (jo o i)
def IxR(X:Cx)(r:R2):Prop:=
 ∀(value slice:bJ) (pins:List (ag×Obj)) (s:au) (σ:St) (H:Hp) (x y:V) (v u:ao) (Q:VK),Inv X pins σ H s->RelV x v->RelV y u->r x y H Q->
  jH slice false v u=operate [v,u] (jo v u)->aV (aS X.prog X.w) X.A (ki value slice v u) (EP X pins σ Q) X.xe s
def MtR(X:Cx)(id:String)(r:V->List V->Hp->VK->Prop):Prop:=
 ∀(pins:List (ag×Obj)) (s:au) (σ:St) (H:Hp) (x:V) (xs:List V) (v:ao) (us:List ao) (Q:VK),Inv X pins σ H s->RelV x v->Vals xs us->r x xs H Q->
  aV (aS X.prog X.w) X.A (call (.builtin id) (v::us)) (EP X pins σ Q) X.xe s
section
variable{X:Cx}{a b:bJ}{ta tb:TE}{pos:Pos}
theorem pd{r:R2}(hr:IxR X r)(ha:PE X a ta)(hb:PE X b tb)(hs:SK b):PE X (.Subscript a b pos) (tOp r ta tb):=by
 intro pins s σ H Q I h
 exact lV (abv ha hb I h λ v u s2 x y H2 I2 rx ry q=>hr a b pins s2 σ H2 x y v u Q I2 rx ry q (hs _ _))
def adk(K:ah):R2:=λ x y H Q=>∃p xs i v,x= .ref p/\y= .int i/\nF K H p xs/\Y6 xs i=some v/\Q v H
def aev(K:ah):R2:=λ x y H Q=>∃p xs i v,x= .ref p/\y= .int i/\Bj K H p xs/\Y6 xs i=some v/\Q v H
def aew:R2:=λ x y H Q=>∃z i c,x= .str z/\y= .int i/\z.length<=ay/\Y6 z.cps.toList i=some c/\Q (.str ⟨#[c]⟩) H
theorem oh:IxR X (adk X.K):=by
 intro value slice pins s σ H x y v u Q I rx ry h hs
 obtain⟨p,xs,i,z,rfl,rfl,hq,he,q⟩:=h
 cases rx
 obtain⟨t,rfl⟩:=ry
 obtain⟨oo,r,pl,hz⟩:=I.list hq
 obtain⟨j,h1,h2,h3,h4,h5⟩:=LJ he
 obtain⟨w,ew,wc⟩:=r.get h2
 have hl:=r.length
 have hn:=BE
 have fin:EP X pins σ Q w s:=⟨z,H,I,wc,q⟩
 by_cases h0:0<=i
 ·have hj:i.toNat=j:=by
   rw[lq h0 h5]at h1
   exact Option.some.inj h1
  exact item_listR pl.isList h0 (by omega) (by rw[hj];simpa using ew) fin hs
 ·have hj:(i+(oo.toArray.size:Int)).toNat=j:=by
   rw[kP (by omega) h4]at h1
   rw[aK,<-hl]
   exact Option.some.inj h1
  exact kT (x:=w) pl.isList.typeIs slot_list_getitem.lookup
   (wpAny_getItem_list_neg (Q:=λ r s'=>r=w/\EP X pins σ Q r s') pl.isList (by omega) (by rw[aK] <;> omega) (by omega) (by rw[hj];simpa using ew) ⟨rfl,fin⟩) hs
theorem Wv:IxR X (aev X.K):=by
 intro value slice pins s σ H x y v u Q I rx ry h hs
 obtain⟨p,xs,i,z,rfl,rfl,hq,he,q⟩:=h
 cases rx
 obtain⟨t,rfl⟩:=ry
 obtain⟨oo,r,pl,hz⟩:=I.tuple hq
 obtain⟨j,h1,h2,h3,h4,h5⟩:=LJ he
 obtain⟨w,ew,wc⟩:=r.get h2
 have hl:=r.length
 have hn:=BE
 have fin:EP X pins σ Q w s:=⟨z,H,I,wc,q⟩
 exact kT (x:=w) pl.typeIs slot_tuple_getitem.lookup
  (getItem_tuple (j:=j) (Q:=λ r s'=>r=w/\EP X pins σ Q r s') pl (by omega) (by omega) (by rw[aK,<-hl];exact h1) (by simpa using ew) ⟨rfl,fin⟩) hs
theorem abF:IxR X aew:=by
 intro value slice pins s σ H x y v u Q I rx ry h hs
 obtain⟨z,i,c,rfl,rfl,hz,he,q⟩:=h
 obtain⟨t,rfl⟩:=rx
 obtain⟨t',rfl⟩:=ry
 obtain⟨j,h1,h2,h3,h4,h5⟩:=LJ he
 have hl:z.cps.toList.length=z.length:=by simp[Str.length]
 rw[hl]at h1 h4 h5
 have hn:=BE
 exact tail_any (lS s z t) slot_str_getitem.lookup (getItem_str (c:=c) (by
  have e1:decide (i< -(2 ^ 63:Int))=false:=decide_eq_false (by omega)
  have e2:decide (i ≥ 2 ^ 63)=false:=decide_eq_false (by omega)
  rw[e1,e2,lZ]) (by rw[h1];simpa using h2) ⟨.str ⟨#[c]⟩,H,I.tok _,⟨_,rfl⟩,q⟩) hs
theorem Qm(oo:List ao)(n j:Nat)(u:ao):Obj.mapSeq (·.setIfInBounds j u) { cls:=.type "list",data:=.seq oo.toArray n }={ cls:=.type "list",data:=.seq (oo.set j u).toArray n }:=by
 simp[Obj.mapSeq]
theorem Inv.lst{pins:List (ag×Obj)}{σ:St}{H:Hp}{s:au}{p:ag}{xs:List V}(I:Inv X pins σ H s)(h:H p=some (.lst xs)):
  ∃(oo:List ao) (n:Nat),Vals xs oo/\s.heap.get? p=some { cls:=.type "list",data:=.seq oo.toArray n }/\xs.length<=ay:=by
 obtain⟨z,oo,n,r,e⟩:=I.oY p _ h
 exact⟨oo,n,r,e,z⟩
theorem Inv.abG{pins:List (ag×Obj)}{σ:St}{H:Hp}{s:au}{p:ag}{xs ys:List V}{oo its':List ao}{n n':Nat}{f:Obj->Obj}(I:Inv X pins σ H s)(h:H p=some (.lst xs))
  (ho:s.heap.get? p=some { cls:=.type "list",data:=.seq oo.toArray n })(hf:f { cls:=.type "list",data:=.seq oo.toArray n }={ cls:=.type "list",data:=.seq its'.toArray n' })(r:Vals ys its')(hz:ys.length<=ay)(t:Nat):
  Inv X pins σ (upd H p (.lst ys)) { s with heap:=s.heap.update p f,toks:=t }:=by
 have e:(s.heap.update p f).get? p=some { cls:=.type "list",data:=.seq its'.toArray n' }:=by
  rw[Heap.get?_update_self f ho (by rw[hf] <;> rfl),hf]
 refine I.write (x:=p) (e:=p) (by rw[h];trivial) (.inl rfl) (λ b u hb q=>(Heap.get?_update_other _ _ (Ne.symm hb)).trans q) ⟨_,e⟩ ?_
 exact⟨hz,its',n',r,e⟩
def adl:V->V->V->Hp->(Hp->Prop)->Prop:=λ o i v H Q=>∃p xs k j,o= .ref p/\i= .int k/\H p=some (.lst xs)/\Zz xs.length k=some j/\Q (upd H p (.lst (xs.set j v)))
theorem set_list:abp X adl:=by
 intro pins s σ H o i v ov iv u Q I ro ri rv h
 obtain⟨p,xs,k,j,rfl,rfl,hp,hj,q⟩:=h
 cases ro
 obtain⟨t,rfl⟩:=ri
 obtain⟨oo,n,r,ho,hz⟩:=I.lst hp
 obtain⟨h1,h2,h3,h4⟩:=SJ hj
 have hl:=r.length
 have hn:=BE
 have I':Inv X pins σ (upd H p (.lst (xs.set j v))) { s with heap:=s.heap.update p (Obj.mapSeq (·.setIfInBounds j u)) }:=
  I.abG hp ho (Qm oo n j u) (r.set rv j) (by rw[fK];exact hz) s.toks
 by_cases h0:0<=k
 ·have hk:k.toNat=j:=by
   rw[lq h0 h4]at h1
   exact Option.some.inj h1
  exact PySem.W.ki_setAt ho h0 (by omega) (by rw[aK,<-hl];exact h4) (by rw[hk];exact⟨_,I',q⟩)
 ·have hk:(k+(oo.toArray.size:Int)).toNat=j:=by
   rw[kP (by omega) h3]at h1
   rw[aK,<-hl]
   exact Option.some.inj h1
  exact PySem.W.ki_setBack ho (by omega) (by rw[aK,<-hl];exact h3) (by omega) (by rw[hk];exact⟨_,I',q⟩)
theorem LK(lo hi:Option Int)(n:Nat):(fX lo hi none n).1=((HT.PN n 0 lo:Nat):Int)/\(fX lo hi none n).2.1=((HT.PN n n hi:Nat):Int)/\(fX lo hi none n).2.2=1:=by
 refine⟨?_,?_,rfl⟩
 ·cases lo with
  |none=>simp[fX,HT.PN]
  |some i=>
   simp only[fX,HT.PN,kE,show(1:Int) > 0 by decide,if_true]
   by_cases h:i<0
   ·simp only[h,if_true] <;> omega
   ·simp only[h,if_false] <;> omega
 ·cases hi with
  |none=>simp[fX,HT.PN]
  |some i=>
   simp only[fX,HT.PN,kE,show(1:Int) > 0 by decide,if_true]
   by_cases h:i<0
   ·simp only[h,if_true] <;> omega
   ·simp only[h,if_false] <;> omega
theorem JT(oo:List ao)(lo hi:Option Int):slicePick oo.toArray lo hi none=((oo.drop (HT.PN oo.length 0 lo)).take (HT.PN oo.length oo.length hi-HT.PN oo.length 0 lo)).toArray:=by
 obtain⟨h1,h2,h3⟩:=LK lo hi oo.toArray.size
 unfold slicePick
 rw[h1,h2,h3]
 simp only[sliceRange_one,pick_run,aK] <;> rfl
def aex(K:ah):V->Option Int->Option Int->Hp->VK->Prop:=λ x lo hi H Q=>∃a xs,x= .ref a/\nF K H a xs/\∀p,H p=none->Q (.ref p) (upd H p (.lst (BF xs lo hi)))
theorem GR:SlR X (aex X.K):=by
 intro pins s σ H x v vl vu lo hi sl Q I rx hs pl pu h
 obtain⟨a,xs,rfl,hx,q⟩:=h
 cases rx
 obtain⟨oo,r,ht,hz⟩:=I.list hx
 have hlen:=r.length
 refine⟨"list",_,slot_list_getitem.lookup,ht.isList.typeIs,?_⟩
 refine wpAny_getItem_list_slice ht.isList hs pl pu .none (by simp) ?_ (by rw[aK] <;> omega)
 rw[JT,<-hlen]
 refine⟨.ref s.heap.objs.size,_,I.laid (t':=s.toks) (o:=.lst (BF xs lo hi)) (λ b ob q=>Heap.get?_push_of_some _ q) (ax _) ?_,rfl,q _ (I.oY.fresh (ax _))⟩
 exact⟨aT (NF xs lo hi) hz,_,0,(r.drop (HT.PN xs.length 0 lo)).take (HT.PN xs.length xs.length hi-HT.PN xs.length 0 lo),Heap.get?_push_size _ rfl⟩
def zx:V->Bool
 | .qB=>true
 | .bl _=>true
 | .int _=>true
 | .str _=>true
 |_=>false
def Y7:V->V->Bool
 | .qB,.qB=>true
 | .bl a,.bl b=>a == b
 | .bl a,.int b=>(if a then 1 else 0) == b
 | .int a,.bl b=>a == (if b then 1 else 0)
 | .int a,.int b=>a == b
 | .str a,.str b=>a == b
 |_,_=>false
theorem abH{A:bU}{s:au}{y x:V}{u v:ao}(ry:RelV y u)(rx:RelV x v)(fy:zx y=true)(fx:zx x=true):SeqAt.EqAt A s u v (Y7 y x):=by
 cases y with
 |qB=>
  cases ry
  cases x with
  |qB=>cases rx;exact SeqAt.EqAt.same _
  |bl b=>cases rx;exact SeqAt.EqAt.none_bool b
  |int b=>obtain⟨t,rfl⟩:=rx;exact SeqAt.EqAt.none_int b t
  |str b=>obtain⟨t,rfl⟩:=rx;exact SeqAt.EqAt.none_str b t
  |_=>exact absurd (show false=true from fx) a0
 |bl a=>
  cases ry
  cases x with
  |qB=>cases rx;exact SeqAt.EqAt.bool_none a
  |bl b=>cases rx;exact SeqAt.EqAt.bool_bool a b
  |int b=>obtain⟨t,rfl⟩:=rx;exact SeqAt.EqAt.bool_int a b t
  |str b=>obtain⟨t,rfl⟩:=rx;exact SeqAt.EqAt.bool_str a b t
  |_=>exact absurd (show false=true from fx) a0
 |int a=>
  obtain⟨t',rfl⟩:=ry
  cases x with
  |qB=>cases rx;exact SeqAt.EqAt.int_none a t'
  |bl b=>cases rx;exact SeqAt.EqAt.int_bool a t' b
  |int b=>obtain⟨t,rfl⟩:=rx;exact SeqAt.EqAt.int_int a t' b t
  |str b=>obtain⟨t,rfl⟩:=rx;exact SeqAt.EqAt.int_str a t' b t
  |_=>exact absurd (show false=true from fx) a0
 |str a=>
  obtain⟨t',rfl⟩:=ry
  cases x with
  |qB=>cases rx;exact SeqAt.EqAt.str_none a t'
  |bl b=>cases rx;exact SeqAt.EqAt.str_bool a t' b
  |int b=>obtain⟨t,rfl⟩:=rx;exact SeqAt.EqAt.str_int a t' b t
  |str b=>obtain⟨t,rfl⟩:=rx;exact SeqAt.EqAt.str_str a t' b t
  |_=>exact absurd (show false=true from fx) a0
 |_=>exact absurd (show false=true from fy) a0
def PQ(x:V)(u:ao):Bool:=match u with
 | .none=>Y7 .qB x
 | .bool b=>Y7 (.bl b) x
 | .int i _=>Y7 (.int i) x
 | .str z _=>Y7 (.str z) x
 |_=>false
theorem LL{x y:V}{u:ao}(r:RelV y u)(f:zx y=true):PQ x u=Y7 y x:=by
 cases y with
 |qB=>cases r;rfl
 |bl b=>cases r;rfl
 |int i=>obtain⟨t,rfl⟩:=r;rfl
 |str z=>obtain⟨t,rfl⟩:=r;rfl
 |_=>exact absurd (show false=true from f) a0
theorem C3{x:V}:∀{xs:List V} {us:List ao},Vals xs us->xs.all zx=true->us.any (PQ x)=xs.any λ y=>Y7 y x
 |_,_,.nil,_=>rfl
 |y::xs,u::us,.cons r t,f=>by
  rw[gA,bj]at f
  rw[eF,eF,LL r f.1,C3 t f.2]
theorem xC{A:bU}{s:au}{x:V}{v:ao}(rx:RelV x v)(fx:zx x=true):∀{xs:List V} {us:List ao},Vals xs us->xs.all zx=true->∀u∈us,SeqAt.EqAt A s u v (PQ x u)
 |_,_,.nil,_=>λ u hu=>by cases hu
 |y::xs,u::us,.cons r t,f=>λ u' hu=>by
  rw[gA,bj]at f
  rcases List.mem_cons.mp hu with rfl|hu
  ·rw[LL r f.1];exact abH r rx f.1 fx
  ·exact xC rx fx t f.2 u' hu
def GS(x:V)(xs:List V):Bool:=xs.any λ y=>Y7 y x
def rIn(K:ah)(neg:Bool):R2:=λ x y H Q=>∃p xs,y= .ref p/\(nF K H p xs\/Bj K H p xs)/\zx x=true/\xs.all zx=true/\Q (.bl (if neg then !GS x xs else GS x xs)) H
theorem AS:Ed X (cR .In) (rIn X.K false):=by
 intro pins s σ H x y v u Q I rx ry h
 obtain⟨p,xs,rfl,hq,fx,fs,q⟩:=h
 cases ry
 rcases hq with hq|hq
 ·obtain⟨oo,r,pl,hz⟩:=I.list hq
  refine SeqAt.in_listAt (PQ x) pl.isList (λ w hw=>xC rx fx r fs w (by simpa using hw)) ⟨.bl _,H,I,rfl,?_⟩
  rw[show oo.toArray.any (PQ x)=oo.any (PQ x) by simp,C3 r fs]
  exact q
 ·obtain⟨oo,r,pl,hz⟩:=I.tuple hq
  refine SeqAt.in_tupleAt (PQ x) pl (λ w hw=>xC rx fx r fs w (by simpa using hw)) ⟨.bl _,H,I,rfl,?_⟩
  rw[show oo.toArray.any (PQ x)=oo.any (PQ x) by simp,C3 r fs]
  exact q
theorem uH:Ed X (cR .NotIn) (rIn X.K true):=by
 intro pins s σ H x y v u Q I rx ry h
 obtain⟨p,xs,rfl,hq,fx,fs,q⟩:=h
 cases ry
 rcases hq with hq|hq
 ·obtain⟨oo,r,pl,hz⟩:=I.list hq
  refine SeqAt.notIn_listAt (PQ x) pl.isList (λ w hw=>xC rx fx r fs w (by simpa using hw)) ⟨.bl _,H,I,rfl,?_⟩
  rw[show oo.toArray.any (PQ x)=oo.any (PQ x) by simp,C3 r fs]
  exact q
 ·obtain⟨oo,r,pl,hz⟩:=I.tuple hq
  refine SeqAt.notIn_tupleAt (PQ x) pl (λ w hw=>xC rx fx r fs w (by simpa using hw)) ⟨.bl _,H,I,rfl,?_⟩
  rw[show oo.toArray.any (PQ x)=oo.any (PQ x) by simp,C3 r fs]
  exact q
theorem nO:zI X (.builtin "len") (λ xs H Q=>∃p ys,xs=[.ref p]/\(nF X.K H p ys\/Bj X.K H p ys)/\Q (.int ys.length) H):=by
 intro pins s σ H xs us Q I r h
 obtain⟨p,ys,rfl,hq,q⟩:=h
 obtain⟨u,rfl,rx⟩:=vals1 r
 cases rx
 have hn:=BE
 rcases hq with hq|hq
 ·obtain⟨oo,r',pl,hz⟩:=I.list hq
  have hlen:=r'.length
  exact Calls.call_len_list pl.isList (by simp only[aK] <;> omega) ⟨.int ys.length,H,I.tok _,⟨s.toks+1,by rw[aK,hlen]⟩,q⟩
 ·obtain⟨oo,r',pl,hz⟩:=I.tuple hq
  have hlen:=r'.length
  exact len_tuple pl (by simp only[aK] <;> omega) ⟨.int ys.length,H,I.tok _,⟨s.toks+1,by rw[aK,hlen]⟩,q⟩
theorem xT:zI X (.type "list") (λ xs H Q=>∃p ys,xs=[.ref p]/\(nF X.K H p ys\/Bj X.K H p ys)/\∀l,H l=none->Q (.ref l) (upd H l (.lst ys))):=by
 intro pins s σ H xs us Q I r h
 obtain⟨p,ys,rfl,hq,q⟩:=h
 obtain⟨u,rfl,rx⟩:=vals1 r
 cases rx
 have fin:∀(oo:List ao),Vals ys oo->ys.length<=ay->∀(h':bw) (c':Nat),(∀b o',s.heap.get? b=some o'->h'.get? b=some o')->
   h'.get? s.heap.objs.size=some { cls:=.type "list",dict:=none,data:=.seq oo.toArray c',slots:= #[] }->EP X pins σ Q (.ref s.heap.objs.size) { s with heap:=h' }:=λ oo r' hz h' c' kp e=>
  ⟨.ref s.heap.objs.size,_,I.laid (t':=s.toks) kp (ax _) (show pQ X.prog X.w _ h' _ (.lst ys)from⟨hz,oo,c',r',e⟩),rfl,q _ (I.oY.fresh (ax _))⟩
 rcases hq with hq|hq
 ·obtain⟨oo,r',pl,hz⟩:=I.list hq
  have hlen:=r'.length
  obtain⟨o,ho,hc,n,hd⟩:=pl.isList
  exact mW p (.inl rfl) ho hc hd (λ h' c' kp e=>fin oo r' hz h' c' kp e) (by simp only[aK] <;> omega)
 ·obtain⟨oo,r',pl,hz⟩:=I.tuple hq
  have hlen:=r'.length
  obtain⟨o,ho,hc,n,hd⟩:=pl
  exact mW p (.inr rfl) ho hc hd (λ h' c' kp e=>fin oo r' hz h' c' kp e) (by simp only[aK] <;> omega)
def tyV(K:ah)(T:String)(x:V)(H:Hp):Prop:=match x with
 | .str _=>T="str"
 | .int _=>T="int"
 | .ref p=>(T="list"/\∃xs,nF K H p xs)\/(T="tuple"/\∃o,K.lookup p=some o/\o.cls= .type "tuple"/\o.dict=none)\/
   (T="dict"/\((∃oJ,H p=some (.dK oJ))\/∃oJ,H p=some (.dT oJ)))\/(T="set"/\∃S n,H p=some (.set S n))
 |_=>False
theorem abI{pins:List (ag×Obj)}{σ:St}{H:Hp}{s:au}{T:String}{x:V}{v:ao}(I:Inv X pins σ H s)(r:RelV x v)(ty:tyV X.K T x H):
  s.TypeIs v T/\∀a,v= .ref a->∃ob,s.heap.get? a=some ob/\ob.dict=none:=by
 cases x with
 |str z=>
  obtain⟨t,rfl⟩:=r
  cases(show T="str" from ty)
  exact⟨lS s z t,λ _ e=>nomatch e⟩
 |int i=>
  obtain⟨t,rfl⟩:=r
  cases(show T="int" from ty)
  exact⟨typeIs_int s i t,λ _ e=>nomatch e⟩
 |ref p=>
  cases r
  rcases ty with⟨rfl,xs,hq⟩|⟨rfl,o,hk,hc,hd⟩|⟨rfl,hk⟩|⟨rfl,S,n,hk⟩
  ·obtain⟨oo,_,pl,_⟩:=I.list hq
   refine⟨pl.isList.typeIs,λ a e=>?_⟩
   cases e
   obtain⟨o,n,e,c,hd,_⟩:=pl
   exact⟨o,e,hd⟩
  ·refine⟨⟨o,I.Ff p o hk,hc⟩,λ a e=>?_⟩
   cases e
   exact⟨o,I.Ff _ o hk,hd⟩
  ·have z:∃o,s.heap.get? p=some o/\o.ExactDict:=by
    rcases hk with⟨oJ,hk⟩|⟨oJ,hk⟩
    ·obtain⟨_,_,_,_,o,_,_,e,ex,_⟩:=I.oY p _ hk
     exact⟨o,e,ex⟩
    ·obtain⟨_,_,_,_,o,_,_,e,ex,_⟩:=I.oY p _ hk
     exact⟨o,e,ex⟩
   obtain⟨o,e,ex⟩:=z
   refine⟨⟨o,e,ex.1⟩,λ a e2=>?_⟩
   cases e2
   exact⟨o,e,ex.2.1⟩
  ·obtain⟨o,_,_,_,e,ex,_⟩:=I.oY p _ hk
   refine⟨⟨o,e,ex.1⟩,λ a e2=>?_⟩
   cases e2
   exact⟨o,e,ex.2.1⟩
 |_=>exact False.elim ty
def tBM(K:ah)(T:String)(r:V->List V->Hp->VK->Prop)(to:TE)(t:TA):TE:=λ σ H Q=>to σ H λ x H1=>tyV K T x H1/\t σ H1 λ xs H2=>r x xs H2 Q
variable{o e:bJ}{es:List bJ}{to:TE}{t:TA}{name:Str}{apos xD:Pos}{T id:String}{r:V->List V->Hp->VK->Prop}
theorem qU(pa:PlainAttrs T)(slot:Slot T name id)(hty:lR (.builtin id)=pure (.type "method_descriptor"))(hm:MtR X id r)(ho:PE X o to)(ha:PA X (e::es) t)
  (Hj:dN o name X.env (cu o X.env)=cu o X.env:=by rfl)
  (abJ:((c7 xD (aN (e::es) X.env)).all (λ x=> !x.1) && (h_ xD (fj [] X.env)).all (λ x=>x.1.isSome)
   && decide ((e::es).length+([]:List kS).length+(if([]:List kS).isEmpty then 0 else 1)<30))=true:=by rfl)
  (Hk:(apos.endLine == xD.line)=true:=by rfl)(hs:aN (e::es) X.env=(false,cu e X.env)::aN es X.env:=by rfl)(abK:(c7 xD (aN es X.env)).any (·.1)=false:=by rfl):
  PE X (.Call (.Attribute o name apos) (e::es) [] xD) (tBM X.K T r to t):=by
 intro pins s σ H Q I h
 refine wpAny_Call_method_late Hj abJ Hk rfl (pN (ho pins s σ H _ I h) λ v s1 ⟨x,H1,I1,r1,ty,q1⟩=>?_)
 obtain⟨h1,h2⟩:=abI I1 r1 ty
 refine⟨T,id,pa,slot,hty,h1,h2,?_⟩
 have hA:=ha xD pins s1 σ H1 _ I1 q1
 rw[hs]at hA ⊢
 refine Calls.callWith_builtin (by show(false || (c7 xD (aN es X.env)).any (·.1))=false;rw[abK] <;> rfl) (Calls.evalArgs_plain ?_)
 exact pN hA λ us s2 ⟨vs,H2,I2,r2,q2⟩=>hm pins s2 σ H2 x vs v us Q I2 r1 r2 q2
end
end L2
namespace L2
open PySem PySem.Spec PyProof.Rows
def MtM(X:Cx)(id:String)(r:V->List V->Hp->VK->Prop):Prop:=
 ∀(pins:List (ag×Obj)) (s:au) (σ:St) (H:Hp) (x:V) (xs:List V) (v:ao) (us:List ao) (Q:VK),Inv X pins σ H s->RelV x v->Vals xs us->r x xs H Q->
  aV (aS X.prog X.w) X.A (call (.builtin id) (v::us)) (EP X pins σ Q) X.xe s
theorem Vals.one:∀{x:V} {us:List ao},Vals [x] us->∃u,us=[u]/\RelV x u
 |_,_,.cons r .nil=>⟨_,rfl,r⟩
section
variable{X:Cx}{pins:List (ag×Obj)}{σ:St}{H:Hp}{s:au}{l b:ag}{xs ys zs:List V}
theorem Inv.abL{oo its':List ao}{n:Nat}{f:Array ao->Array ao}{t':Nat}(I:Inv X pins σ H s)(hH:H l=some (.lst xs))
  (e:s.heap.get? l=some { cls:=.type "list",data:=.seq oo.toArray n })(hf:f oo.toArray=its'.toArray)(hv:Vals ys its')(hz:ys.length<=ay):
  Inv X pins σ (upd H l (.lst ys)) { s with heap:=s.heap.update l (Obj.mapSeq f),toks:=t' }:=by
 have q:=PySem.IsL.update e f
 rw[hf]at q
 refine I.write (x:=l) (e:=l) (by rw[hH];exact trivial) (.inl rfl) (λ b' u hb hu=>(Heap.get?_update_other s.heap (Obj.mapSeq f) (Ne.symm hb)).trans hu) ⟨_,q⟩ ?_
 exact⟨hz,its',_,hv,q⟩
theorem Inv.aey{oo:List ao}{t':Nat}(I:Inv X pins σ H s)(hv:Vals ys oo)(hz:ys.length<=ay):
  Inv X pins σ (upd H s.heap.objs.size (.lst ys)) { s with heap:=s.heap.push { cls:=.type "list",data:=.seq oo.toArray },toks:=t' }:=
 I.laid (λ _ _ q=>Heap.get?_push_of_some _ q) (ax _) ⟨hz,oo,0,hv,Heap.get?_push_size _ rfl⟩
theorem Inv.fresh(I:Inv X pins σ H s):H s.heap.objs.size=none:=I.oY.fresh (ax _)
theorem Inv.Us(I:Inv X pins σ H s)(hH:H l=some (.lst xs)):xs.length<=ay/\∃(oo:List ao) (n:Nat),Vals xs oo/\xs.length=oo.length/\s.heap.get? l=some { cls:=.type "list",data:=.seq oo.toArray n }:=by
 obtain⟨z,oo,n,r,e⟩:=I.oY l _ hH
 exact⟨z,oo,n,r,r.length,e⟩
theorem Ww{n:Nat}(h:n<=ay):Builtin.List.listTooLong n=false:=by
 unfold Builtin.List.listTooLong
 exact decide_eq_false (by omega)
end
section
variable{X:Cx}
def ZA:V->List V->Hp->VK->Prop:=λ x vs H Q=>∃l xs y,x= .ref l/\vs=[y]/\H l=some (.lst xs)/\xs.length<ay/\Q .qB (upd H l (.lst (xs++[y])))
theorem pG:MtM X "list.append" ZA:=by
 intro pins s σ H x vs v us Q I rx rv h
 obtain⟨l,xs,y,rfl,rfl,hH,hz,q⟩:=h
 cases rx
 obtain⟨u,rfl,ru⟩:=rv.one
 obtain⟨z,oo,n,r,hl,e⟩:=I.Us hH
 refine jV F.slot_list_append ⟨_,e,rfl⟩ F.entry_list_append (F.args_list_append_2 _ _) (PySem.list_append l oo.toArray n u (by rw[aK];omega)) ⟨e,?_⟩
 refine⟨.qB,_,I.abL (its':=oo++[u]) hH e (by simp) (r.append (.cons ru .nil)) ?_,rfl,q⟩
 rw[aw,List.length_singleton]
 omega
def ZC:V->List V->Hp->VK->Prop:=λ x vs H Q=>∃l b xs zs,x= .ref l/\vs=[.ref b]/\H l=some (.lst xs)/\H b=some (.lst zs)/\xs.length+zs.length<=ay/\Q .qB (upd H l (.lst (xs++zs)))
theorem vb:MtM X "list.extend" ZC:=by
 intro pins s σ H x vs v us Q I rx rv h
 obtain⟨l,b,xs,zs,rfl,rfl,hH,hB,hz,q⟩:=h
 cases rx
 obtain⟨u,rfl,ru⟩:=rv.one
 cases ru
 obtain⟨z,oo,n,r,hl,e⟩:=I.Us hH
 obtain⟨z2,Ek,n2,r2,Nn,e2⟩:=I.Us hB
 have hsz:oo.toArray.size+Ek.toArray.size<=ay:=by rw[aK,aK];omega
 have adm:¬ (!oo.toArray.isEmpty && Builtin.List.listTooLong (oo.toArray.size+Ek.toArray.size))=true:=by
  rw[Ww hsz,lK]
  exact a0
 refine jV F.slot_list_extend ⟨_,e,rfl⟩ F.entry_list_extend (F.args_list_extend_2 _ _)
  (AutoSeq1.list_extend_list_list_0 l oo.toArray n b Ek.toArray n2 adm (by rw[aK];omega) (by omega)) ⟨e,e2,?_⟩
 refine⟨.qB,_,I.abL (its':=oo++Ek) hH e (by simp) (r.append r2) ?_,rfl,q⟩
 rw[aw]
 omega
def aez:R2:=λ x y H Q=>∃l b xs zs,x= .ref l/\y= .ref b/\H l=some (.lst xs)/\H b=some (.lst zs)/\xs.length+zs.length<=ay/\∀p,H p=none->Q (.ref p) (upd H p (.lst (xs++zs)))
theorem qX:Ed X (gE .Add) aez:=by
 intro pins s σ H x y v u Q I rx ry h
 obtain⟨l,b,xs,zs,rfl,rfl,hH,hB,hz,q⟩:=h
 cases rx
 cases ry
 obtain⟨z,oo,n,r,hl,e⟩:=I.Us hH
 obtain⟨z2,Ek,n2,r2,Nn,e2⟩:=I.Us hB
 refine PySem.P.add_list e e2 ?_ (by rw[aK,aK];omega)
 have ea:oo.toArray++Ek.toArray=(oo++Ek).toArray:=by simp
 rw[ea]
 exact⟨.ref _,_,I.aey (t':=s.toks) (r.append r2) (by rw[aw];omega),rfl,q _ I.fresh⟩
end
section
variable{prog:aJ}{w:aY}{A:bU}{E:ao->au->Prop}{s:au}
set_option maxRecDepth 100000 in
end
section
variable{X:Cx}
end
end L2
namespace L2
open PySem PySem.Spec PyProof.Rows
theorem Vals.ints:∀{ns:List Int} {us:List ao},Vals (ns.map V.int) us->iR us ns
 |[],us,h=>by
  rw[eW]at h
  cases h
  exact IntsAre.nil
 |n::ns,us,h=>by
  rw[aG]at h
  cases h with
  |cons r t=>
   obtain⟨k,rfl⟩:=r
   exact IntsAre.cons n k (Vals.ints t)
theorem Vals.bls:∀{bs:List Bool} {us:List ao},Vals (bs.map V.bl) us->us=bs.map Value.bool
 |[],us,h=>by
  rw[eW]at h
  cases h
  rfl
 |b::bs,us,h=>by
  rw[aG]at h
  cases h with
  |cons r t=>
   cases r
   rw[Vals.bls t,aG]
theorem Vals.ZD{a:ag}{us:List ao}(r:Vals [V.ref a] us):us=[Value.ref a]:=by
 cases r with
 |cons r t=>
  cases t
  cases r
  rfl
section
variable{prog:aJ}{w:aY}{A:bU}{E:ao->au->Prop}{s:au}{l:ag}{oo:List ao}{ns:List Int}{Q:ao->au->Prop}
theorem ZE(hh:A.handled=none)(hl:s.heap.IsList l oo.toArray)(hi:iR oo ns)
  (h:∀h' tk t',(∀b o,s.heap.get? b=some o->h'.get? b=some o)->Q (.int ns.sum t') { s with heap:=h',toks:=tk }):aV (aS prog w) A (call (.builtin "sum") [.ref l]) Q E s:=by
 obtain⟨xs,e⟩:=hi.allInts.items
 have hn:numsOf (intItems xs).toList=ns:=by rw[<-e];exact hi.numsOf
 rw[mT]at hn
 rw[e]at hl
 refine PySem.sum_intListG hh hl λ h' tk t' hk=>?_
 have:=h h' tk t' hk
 rw[preSum_eq,cq (by simp),hn];exact this
theorem ZF(hh:A.handled=none)(hl:s.heap.IsList l oo.toArray)(hi:iR oo ns)(xE:0<ns.length)
  (h:∀h' tk M t',(∀b o,s.heap.get? b=some o->h'.get? b=some o)->M∈ns->(∀a,a∈ns->a<=M)->Q (.int M t') { s with heap:=h',toks:=tk }):aV (aS prog w) A (call (.builtin "max") [.ref l]) Q E s:=by
 obtain⟨xs,e⟩:=hi.allInts.items
 have hn:numsOf (intItems xs).toList=ns:=by rw[<-e];exact hi.numsOf
 rw[mT]at hn
 subst hn
 rw[e]at hl
 have hsz:0<xs.size:=by simpa using xE
 refine PySem.max_intList hh hl hsz λ v h' tk hv hk=>?_
 obtain⟨t,rfl⟩:=intItems_at hv
 obtain⟨h1,h2⟩:=argBest_gt (numAt xs) (xs.size-1)
 refine h h' tk _ t hk ?_ λ a ha=>?_
 ·rw[numAt_eq];exact PySem.getD_mem (by rw[aa,Array.length_toList];omega)
 ·obtain⟨j,hj,rfl⟩:=mem_getD ha
  rw[aa,Array.length_toList]at hj
  rw[<-numAt_eq];exact h2 j (by omega)
end
section
variable{X:Cx}
def aeA(K:ah):List V->Hp->VK->Prop:=λ vs H Q=>∃(a:ag) (ns:List Int),vs=[V.ref a]/\nF K H a (ns.map V.int)/\Q (.int ns.sum) H
def adn(K:ah):List V->Hp->VK->Prop:=λ vs H Q=>∃(a:ag) (ns:List Int),vs=[V.ref a]/\nF K H a (ns.map V.int)/\0<ns.length/\∀m,m∈ns->(∀y,y∈ns->y<=m)->Q (.int m) H
theorem BG(hc:X.calm=true):zI X (.builtin "sum") (aeA X.K):=by
 intro pins s σ H vs us Q I r h
 obtain⟨a,ns,rfl,hs,q⟩:=h
 obtain⟨oo,rv,hl,_⟩:=I.list hs
 rw[Vals.ZD r]
 exact ZE (I.ok.hd hc) hl.isList rv.ints λ h' tk t' hk=>⟨.int _,H,I.kept hk,⟨_,rfl⟩,q⟩
theorem Qn(hc:X.calm=true):zI X (.builtin "max") (adn X.K):=by
 intro pins s σ H vs us Q I r h
 obtain⟨a,ns,rfl,hs,xE,q⟩:=h
 obtain⟨oo,rv,hl,_⟩:=I.list hs
 rw[Vals.ZD r]
 exact ZF (I.ok.hd hc) hl.isList rv.ints xE λ h' tk m t' hk h1 h2=>⟨.int _,H,I.kept hk,⟨_,rfl⟩,q m h1 h2⟩
end
section
variable{X:Cx}
def abM(K:ah):V->List V->Hp->VK->Prop:=λ x xs H Q=>∃(a:ag) (ys:List V) (y:V) (j:Nat) (z:V),x=V.ref a/\xs=[y]/\nF K H a ys/\zx y=true/\ys.all zx=true/\ys[j]? =some z/\Y7 z y=true/\
 (∀(m:Nat) (z':V),m<j->ys[m]? =some z'->Y7 z' y=false)/\Q (.int (j:Nat)) H
theorem SM{ys:List V}(f:ys.all zx=true){j:Nat}{z:V}(h:ys[j]? =some z):zx z=true:=List.all_eq_true.mp f z (aC h)
theorem Wx:MtR X "list.index" (abM X.K):=by
 intro pins s σ H x xs v us Q I rx rxs h
 obtain⟨a,ys,y,j,z,rfl,rfl,hs,fy,fys,hz,hzj,hno,q⟩:=h
 cases rx
 cases rxs with
 |cons ry rt=>
  rename_i uy ut
  cases rt
  obtain⟨oo,rv,⟨⟨cls,dd,data,sl⟩,n,ho,hc,hdn,hd⟩,hlen⟩:=I.list hs
  simp only at hc hd
  subst hc hd
  obtain⟨u,hu,ru⟩:=rv.get hz
  obtain⟨hjl,hje⟩:=List.getElem?_eq_some_iff.mp hu
  have hvl:=rv.length
  have hj:j<oo.toArray.size:=by simpa using hjl
  have hsl:=aA
  refine jV jt ⟨_,ho,rfl⟩ PySem.F.entry_list_index (PySem.F.args_list_index_2 _ _)
   (SeqAt.list_indexAt a oo.toArray n dd sl uy (PQ y) j hj (by omega) ?_ ?_) ⟨ho,λ u' hu'=>xC ry fy rv fys u' (by simpa using hu'),?_⟩
  ·have e1:oo.toArray[j]=u:=by simpa using hje
   rw[e1,LL ru (SM fys hz)]
   exact hzj
  ·intro m hm hmj
   have hml:m<oo.length:=by simpa using hm
   have hmy:m<ys.length:=by omega
   have hy':ys[m]? =some ys[m]:=af hmy
   obtain⟨u2,hu2,ru2⟩:=rv.get hy'
   obtain⟨_,hme⟩:=List.getElem?_eq_some_iff.mp hu2
   have e1:oo.toArray[m]=u2:=by simpa using hme
   rw[e1,LL ru2 (SM fys hy')]
   exact hno m _ hmj hy'
  ·exact⟨.int (j:Nat),H,I.tok _,⟨_,rfl⟩,q⟩
end
section
variable{X:Cx}
end
theorem Wy{prog:aJ}{w:aY}{A:bU}{E:ao->au->Prop}{s:au}{l:ag}{items:Array ao}{Q:ao->au->Prop}(hl:s.heap.IsList l items)
  (h:∀s₂:au,s₂={ s with heap:=s.heap.push { cls:=.type "list_iterator",data:=.fields #[.ref l,.int 0 0] } }->
   (s₂.heap.IsListIter s.heap.objs.size l 0/\s₂.heap.IsList l items)->l≠s.heap.objs.size->Q (.ref s.heap.objs.size) s₂):aV (aS prog w) A (mL (.ref l)) Q E s:=by
 have rO:l<s.heap.objs.size:=by obtain⟨_,e,_⟩:=hl;exact Heap.lt_size e
 exact fC hl (h _ rfl ⟨⟨_,Heap.get?_push_size _ rfl,rfl,rfl⟩,hl.push _⟩ (bL rO))
theorem NG{prog:aJ}{w:aY}{A:bU}{bs:List Bool}{oo:List ao}(e:oo=bs.map Value.bool):
  TruthOf prog w A (λ i v=>oo.toArray[i]? =some v) (λ i=>bs.getD i false):=λ i v s Q E hv hq=>by
 have hv':oo[i]? =some v:=by simpa using hv
 rw[e,ak]at hv'
 obtain⟨b,hb,rfl⟩:=Option.map_eq_some_iff.mp hv'
 have hg:bs.getD i false=b:=by rw[aB,hb] <;> rfl
 have SH:Q (bs.getD i false) s:=hq
 rw[hg]at SH
 exact cP SH
theorem all_range:∀bs:List Bool,(az bs.length).all (λ i=>bs.getD i false)=bs.all id
 |[]=>rfl
 |b::bs=>by
  rw[aD,List.range_succ_eq_map,gA,cH,gA,<-all_range bs]
  all_goals rfl
section
variable{X:Cx}
def aeB(K:ah):List V->Hp->VK->Prop:=λ vs H Q=>∃(a:ag) (bs:List Bool),vs=[V.ref a]/\nF K H a (bs.map V.bl)/\Q (.bl (bs.all id)) H
theorem BH(hc:X.calm=true):zI X (.builtin "all") (aeB X.K):=by
 intro pins s σ H vs us Q I r h
 obtain⟨a,bs,rfl,hs,q⟩:=h
 obtain⟨oo,rv,hl,_⟩:=I.list hs
 rw[Vals.ZD r]
 have hb:=rv.bls
 refine call_all_walk (Wy hl.isList λ s₂ e2 st xE=>?_)
 subst e2
 refine⟨_,_,_,_,_,_,_,rfl,Walks.list (A:=X.A.in1) (I.ok.hd hc) _ a xE oo.toArray,st,NG hb,λ h' tk hk=>?_⟩
 refine⟨.bl _,H,I.kept λ b o eo=>hk b o (λ abN=>?_) (Heap.get?_push_of_some _ eo),?_,q⟩
 ·rcases List.mem_cons.mp abN with e1|abN
  ·exact absurd (e1 ▸ Heap.lt_size eo) (cX _)
  ·cases abN
 ·show Value.bool _=Value.bool _
  rw[<-all_range,hb,aK,aa]
end
mutual
inductive Dp (K:ah) (H:Hp):V->jA->Prop
 |qB:Dp K H .qB .none
 |bl (b:Bool):Dp K H (.bl b) (.bool b)
 |int (i:Int):Dp K H (.int i) (.int i)
 |str (x:Str):Dp K H (.str x) (.str x)
 |lst {a:ag} {xs:List V} {ds:List jA}:nF K H a xs->Hl K H xs ds->Dp K H (.ref a) (.list ds)
 |tup {a:ag} {xs:List V} {ds:List jA}:Bj K H a xs->Hl K H xs ds->Dp K H (.ref a) (.tuple ds)
inductive Hl (K:ah) (H:Hp):List V->List jA->Prop
 |nil:Hl K H [] []
 |cons {v:V} {vs:List V} {d:jA} {ds:List jA}:Dp K H v d->Hl K H vs ds->Hl K H (v::vs) (d::ds)
end
section
variable{X:Cx}{pins:List (ag×Obj)}{σ:St}{H:Hp}{s:au}
mutual
theorem Dp.reads(I:Inv X pins σ H s):∀(d:jA) (v:V) (u:ao),Dp X.K H v d->RelV v u->∃as,Reads s.heap u d as
 | .none,_,_,h,r=>by
  cases h
  cases r
  exact⟨_,Reads.none⟩
 | .bool b,_,_,h,r=>by
  cases h
  cases r
  exact⟨_,Reads.bool b⟩
 | .int i,_,_,h,r=>by
  cases h
  obtain⟨t,rfl⟩:=r
  exact⟨_,Reads.int i t⟩
 | .str x,_,_,h,r=>by
  cases h
  obtain⟨t,rfl⟩:=r
  exact⟨_,Reads.str x t⟩
 | .list ds,_,_,h,r=>by
  cases h with
  |lst hs ha=>
   cases r
   obtain⟨oo,rv,⟨o,n,ho,hc,_,hd⟩,_⟩:=I.list hs
   obtain⟨as,hr⟩:=Dp.readsAll I ds _ oo ha rv
   exact⟨_,Reads.list ho hc hd hr⟩
 | .tuple ds,_,_,h,r=>by
  cases h with
  |tup hs ha=>
   cases r
   obtain⟨oo,rv,⟨o,ho,hc,n,hd⟩,_⟩:=I.tuple hs
   obtain⟨as,hr⟩:=Dp.readsAll I ds _ oo ha rv
   exact⟨_,Reads.tuple ho hc hd hr⟩
 | .dict _,_,_,h,_=>by cases h
theorem Dp.readsAll(I:Inv X pins σ H s):∀(ds:List jA) (vs:List V) (us:List ao),Hl X.K H vs ds->Vals vs us->∃as,ReadsAll s.heap us ds as
 |[],_,_,h,r=>by
  cases h
  cases r
  exact⟨_,ReadsAll.nil⟩
 |d::ds,_,_,h,r=>by
  cases h with
  |cons h1 h2=>
   cases r with
   |cons r1 r2=>
    obtain⟨as,q1⟩:=Dp.reads I d _ _ h1 r1
    obtain⟨bs,q2⟩:=Dp.readsAll I ds _ _ h2 r2
    exact⟨_,ReadsAll.cons q1 q2⟩
end
end
section
variable{X:Cx}
def aeC(K:ah):R2:=λ x y H Q=>∃d e,Dp K H x d/\Dp K H y e/\SeqAt.shaped d=true/\SeqAt.shaped e=true/\Q (.bl (!PyData.eqv d e)) H
theorem abO(hu:X.A.units+64<jI):Ed X (cR .NotEq) (aeC X.K):=by
 intro pins s σ H x y v u Q I rx ry h
 obtain⟨d,e,hd,he,sd,se,q⟩:=h
 obtain⟨as,r1⟩:=Dp.reads I d x v hd rx
 obtain⟨bs,r2⟩:=Dp.reads I e y u he ry
 exact SeqAt.compareNe_shaped r1 r2 sd se hu ⟨.bl _,H,I,rfl,q⟩
end
end L2
namespace L2
open PySem PySem.Spec PyProof.Rows
abbrev BI(h:bw)(c:ag)(v:Option ao):Prop:=h.IsCell c v
def aeD(scope sc:eQ):eQ:=
 { scope with names:=scope.names.map λ(n,k)=>if(k == .free && sc.kind == .function && sc.names.lookup n == some .cell)then(n,.cell)else(n,k) }
def pS(cells:List (Str×ag)):List (Str×dF)->List (Str×ag)->List (Str×ag)
 |[],acc=>acc
 |(n,k)::r,acc=>if k == .free then pS cells r ((n,(cells.lookup n).getD 0)::acc)else pS cells r acc
theorem C4(env:Env)(f:Str×dF->List (Str×ag)->Sem (ForInStep (List (Str×ag))))
  (hf:∀n k c,f (n,k) c=if k == .free then(do let a <-cellOf env n;pure (.yield ((n,a)::c)))else pure (.yield c)):
  ∀(names:List (Str×dF)) (acc:List (Str×ag)),(∀y∈names,y.2= .free->∃c,env.cells.lookup y.1=some c)->forIn names acc f=pure (pS env.cells names acc)
 |[],acc,_=>by rw[ij];rfl
 |(n,k)::r,acc,h=>by
  rw[jh,hf]
  have ih:=λ acc=>C4 env f hf r acc λ y hy=>h y (aQ _ hy)
  unfold pS
  by_cases hk:(k == NameKind.free)=true
  ·rw[if_pos hk,if_pos hk]
   obtain⟨c,hc⟩:=h (n,k) bT (by simpa using hk)
   have e:cellOf env n=pure c:=by unfold cellOf;rw[hc]
   rw[e]
   have e2:(env.cells.lookup n).getD 0=c:=by rw[hc];rfl
   rw[e2]
   exact ih _
  ·rw[if_neg hk,if_neg hk]
   exact ih _
theorem Qo{scope:eQ}{env:Env}(h:∀y∈scope.names,y.2= .free->∃c,env.cells.lookup y.1=some c):closureFor scope env=pure (pS env.cells scope.names []):=by
 simp only[closureFor]
 rw[C4 env _ (λ n k c=>rfl) scope.names [] h]
 rfl
theorem mem_lookup{α:Type}:∀{l:List (Str×α)} {n:Str} {c:α},(n,c)∈l->∃c',l.lookup n=some c'
 |(k,v)::r,n,c,h=>by
  rw[dH]
  cases hb:n == k with
  |true=>exact⟨_,rfl⟩
  |false=>
   rcases List.mem_cons.mp h with e|h
   ·cases e;simp at hb
   ·exact mem_lookup h
theorem wq{cells:List (Str×ag)}:∀{names:List (Str×dF)} {acc:List (Str×ag)} {n:Str} {c:ag},(n,c)∈pS cells names acc->(n,c)∈acc\/((n,.free)∈names/\c=(cells.lookup n).getD 0)
 |[],_,_,_,h=>.inl h
 |(m,k)::r,acc,n,c,h=>by
  unfold pS at h
  split at h
  ·rename_i hk
   have hk:k= .free:=by simpa using hk
   rcases wq h with h|⟨h1,h2⟩
   ·rcases List.mem_cons.mp h with e|h
    ·cases e;exact .inr ⟨hk ▸ bT,rfl⟩
    ·exact .inl h
   ·exact .inr ⟨aQ _ h1,h2⟩
  ·rcases wq h with h|⟨h1,h2⟩
   ·exact .inl h
   ·exact .inr ⟨aQ _ h1,h2⟩
theorem zK{cells:List (Str×ag)}:∀{names:List (Str×dF)} {acc:List (Str×ag)} {p:Str×ag},p∈acc->p∈pS cells names acc
 |[],_,_,h=>h
 |(m,k)::r,acc,p,h=>by
  unfold pS
  split
  ·exact zK (aQ _ h)
  ·exact zK h
theorem zL{cells:List (Str×ag)}:∀{names:List (Str×dF)} {acc:List (Str×ag)} {n:Str},(n,.free)∈names->(n,(cells.lookup n).getD 0)∈pS cells names acc
 |(m,k)::r,acc,n,h=>by
  unfold pS
  rcases List.mem_cons.mp h with e|h
  ·cases e
   exact zK bT
  ·split
   ·exact zL h
   ·exact zL h
theorem xF:∀{names:List (Str×dF)} {h:bw} {acc:List (Str×ag)} {x:Str} {c:ag},(x,c)∈cE h.objs.size names acc->
  (x,c)∈acc\/((x,.cell)∈names/\h.objs.size<=c/\BI (gx h names) c none)
 |[],_,_,_,_,h=>.inl h
 |(n,k)::r,h,acc,x,c,hm=>by
  unfold cE at hm
  unfold gx
  split at hm
  ·rename_i hk
   rw[if_pos hk]
   have hk:k= .cell:=by simpa using hk
   rw[<-Heap.size_push h { cls:=.type "cell",data:=.cell none }]at hm
   rcases xF hm with hm|⟨h1,h2,h3⟩
   ·rcases List.mem_cons.mp hm with e|hm
    ·cases e
     exact .inr ⟨hk ▸ bT,ax _,_,iw r _ _ _ (Heap.get?_push_size _ rfl),rfl⟩
    ·exact .inl hm
   ·rw[Heap.size_push]at h2
    exact .inr ⟨aQ _ h1,gz h2,h3⟩
  ·rename_i hk
   rw[if_neg hk]
   rcases xF hm with hm|⟨h1,h2,h3⟩
   ·exact .inl hm
   ·exact .inr ⟨aQ _ h1,h2,h3⟩
theorem AU:∀{names:List (Str×dF)} {n:Nat} {acc:List (Str×ag)} {p:Str×ag},p∈acc->p∈cE n names acc
 |[],_,_,_,h=>h
 |(m,k)::r,n,acc,p,h=>by
  unfold cE
  split
  ·exact AU (aQ _ h)
  ·exact AU h
theorem El:∀{names:List (Str×dF)} {n:Nat} {acc:List (Str×ag)} {x:Str},(x,.cell)∈names->∃c,(x,c)∈cE n names acc
 |(m,k)::r,n,acc,x,h=>by
  unfold cE
  rcases List.mem_cons.mp h with e|h
  ·cases e
   exact⟨n,AU bT⟩
  ·split
   ·exact El h
   ·exact El h
theorem Em:∀{names:List (Str×dF)} {h:bw} {acc:List (Str×ag)} {x y:Str} {c:ag},(∀p∈acc,p.2<h.objs.size)->(∀x y c,(x,c)∈acc->(y,c)∈acc->x=y)->
  (x,c)∈cE h.objs.size names acc->(y,c)∈cE h.objs.size names acc->x=y
 |[],_,_,_,_,_,_,hi,h1,h2=>hi _ _ _ h1 h2
 |(n,k)::r,h,acc,x,y,c,hl,hi,h1,h2=>by
  unfold cE at h1 h2
  split at h1
  ·rename_i hk
   rw[if_pos hk]at h2
   rw[<-Heap.size_push h { cls:=.type "cell",data:=.cell none }]at h1 h2
   refine Em (h:=h.push _) (λ p hp=>?_) (λ x y c a b=>?_) h1 h2
   ·rw[Heap.size_push]
    rcases List.mem_cons.mp hp with rfl|hp
    ·exact cK _
    ·exact i_ (hl p hp)
   ·rcases List.mem_cons.mp a with e|a <;> rcases List.mem_cons.mp b with e'|b
    ·cases e;cases e';rfl
    ·cases e;exact absurd (hl _ b) (cX _)
    ·cases e';exact absurd (hl _ a) (cX _)
    ·exact hi _ _ _ a b
  ·rename_i hk
   rw[if_neg hk]at h2
   exact Em hl hi h1 h2
theorem NH{M:jJ}{A:bU}{E:ao->au->Prop}{s:au}{scope:eQ}{globals:ag}{closure:List (Str×ag)}{qual:Str}{func:Option ag}{code:ao}{around:Env}{builtins:ag}{Q:Env->au->Prop}
  (h:Q (newEnv scope s.heap.objs.size globals (cE (s.heap.objs.size+1) scope.names closure) qual func code (some around) builtins)
   { s with heap:=gx (s.heap.push { cls:=.type "dict",data:=.dict #[] }) scope.names }):
  aV M A (mO scope globals closure [] qual func code (some around) builtins) Q E s:=by
 simp only[mO,j9,if_true]
 refine aq (wpAny_alloc ?_)
 refine aq (wpAny_layCells _ (λ n k c=>rfl) scope.names closure _ _ ?_)
 rw[show({ s with heap:=s.heap.push { cls:=.type "dict",data:=.dict #[] } }:au).heap.objs.size=s.heap.objs.size+1 from Heap.size_push ..]
 rw[ij]
 exact aq (aM (aM h))
theorem zM{sc:eQ}:∀{names:List (Str×dF)} {x:Str} {k:dF},
  (names.map λ(n,k)=>if(k == NameKind.free && sc.kind == .function && sc.names.lookup n == some .cell)then(n,NameKind.cell)else(n,k)).lookup x=some k->
  ∃k',names.lookup x=some k'/\(k=k'\/(k'= .free/\k= .cell))
 |[],_,_,h=>by simp at h
 |(n,k₀)::r,x,k,h=>by
  have ih:=@zM sc r x k
  have h':dv x ((if(k₀ == NameKind.free && sc.kind == .function && sc.names.lookup n == some .cell)=true then(n,NameKind.cell)else(n,k₀))::(r.map _))=some k:=h
  cases hx:x == n with
  |true=>
   simp only[dH,hx]
   by_cases hc:(k₀ == NameKind.free && sc.kind == .function && sc.names.lookup n == some .cell)=true
   ·rw[if_pos hc]at h'
    simp only[dH,hx]at h'
    cases h'
    simp only[bj,beq_iff_eq]at hc
    exact⟨k₀,rfl,.inr ⟨hc.1.1,rfl⟩⟩
   ·rw[if_neg hc]at h'
    simp only[dH,hx]at h'
    cases h'
    exact⟨_,rfl,.inl rfl⟩
  |false=>
   simp only[dH,hx]
   by_cases hc:(k₀ == NameKind.free && sc.kind == .function && sc.names.lookup n == some .cell)=true
   ·rw[if_pos hc]at h'
    simp only[dH,hx]at h'
    exact ih h'
   ·rw[if_neg hc]at h'
    simp only[dH,hx]at h'
    exact ih h'
structure pD(N:List Str)(sc scope:eQ)(own:List (Str×Nat)):Prop where
 kind:scope.kind= .function
 uniq:∀y∈scope.names,scope.names.lookup y.1=some y.2
 ix:∀p∈own,N[p.2]? =some p.1
 free:∀y∈scope.names,y.2= .free->sc.names.lookup y.1=some .cell\/sc.names.lookup y.1=some .free
 own:∀y∈scope.names,y.2= .local\/y.2= .cell->y.1∈own.map (·.1)\/y.1∉N
def wipe(σ:St):List Nat->St
 |[]=>σ
 |v::vs=>(wipe σ vs).set v none
theorem zN(σ:St):∀vs:List Nat,(wipe σ vs).length=σ.length
 |[]=>rfl
 |v::vs=>by unfold wipe;rw[fK,zN σ vs]
theorem En{σ:St}{i:Nat}{x:V}:∀{vs:List Nat},(wipe σ vs)[i]? =some (some x)->σ[i]? =some (some x)/\i∉vs
 |[],h=>⟨h,by simp⟩
 |v::vs,h=>by
  unfold wipe at h
  by_cases hi:v=i
  ·subst hi
   by_cases hv:v<(wipe σ vs).length
   ·rw[cO hv]at h;cases h
   ·rw[aI (by simpa using hv)]at h;cases h
  ·rw[fH hi]at h
   obtain⟨h1,h2⟩:=En h
   exact⟨h1,by simp only[dh,not_or];exact⟨λ e=>hi e.symm,h2⟩⟩
abbrev Cx.LM(X:Cx)(s:au)(H:Hp)(scope:eQ)(sD:Env)(fp:List ag):Cx:={ X with JR:=s,H_0:=H,env:=sD,outer:=X.stack,ex:=fp,fn:=λ x=>scope.names.lookup x == some .cell,pn:=[],xe:=λ _ _=>False }
section
variable{X:Cx}{pins:List (ag×Obj)}{σ:St}{H:Hp}{s:au}
theorem NI{scope:eQ}{own:List (Str×Nat)}{fp:List ag}(I:Inv X pins σ H s)(ok:pD X.N X.env.scope scope own)(hN:X.N.Nodup)(hfp:∀b∈fp,GF X pins H b/\b<s.heap.objs.size):
  Inv (X.LM s H scope (eh scope (cE (s.heap.objs.size+1) scope.names (pS X.env.cells scope.names [])) s.heap.objs.size X.env) fp) [] (wipe σ (own.map (·.2))) H { s with heap:=gx (s.heap.push { cls:=.type "dict",data:=.dict #[] }) scope.names }:=by
 have Kf:∀y∈scope.names,y.2= .free->∃c,X.env.cells.lookup y.1=some c:=λ y hy e=>by
  rcases ok.free y hy e with k|k
  ·exact I.ok.has _ (.inl k)
  ·exact I.ok.has _ (.inr k)
 generalize NJ:eh scope (cE (s.heap.objs.size+1) scope.names (pS X.env.cells scope.names [])) s.heap.objs.size X.env=sD
 have kp:∀b o,s.heap.get? b=some o->(gx (s.heap.push { cls:=.type "dict",data:=.dict #[] }) scope.names).get? b=some o:=λ b o e=>iw _ _ _ _ (Heap.get?_push_of_some _ e)
 have hL:sD.locals=s.heap.objs.size:=by rw[<-NJ];rfl
 have Ee:sD.cells=cE (s.heap.objs.size+1) scope.names (pS X.env.cells scope.names []):=by rw[<-NJ];rfl
 have hsc:sD.scope=aeD scope X.env.scope:=by rw[<-NJ];rfl
 rw[<-Heap.size_push s.heap { cls:=.type "dict",data:=.dict #[] }]at Ee
 have cm:∀{y c},(y,c)∈pS X.env.cells scope.names []->X.env.cells.lookup y=some c/\c<s.heap.objs.size:=λ{y c} hm=>by
  rcases wq hm with hm|⟨h1,rfl⟩
  ·cases hm
  ·obtain⟨c,hc⟩:=Kf _ h1 rfl
   rw[hc]
   obtain⟨w,z⟩:=I.cell _ _ hc
   exact⟨rfl,z.lt⟩
 have mem:∀{y c},sD.cells.lookup y=some c->(X.env.cells.lookup y=some c/\c<s.heap.objs.size)\/(s.heap.objs.size+1<=c/\BI (gx (s.heap.push { cls:=.type "dict",data:=.dict #[] }) scope.names) c none):=λ{y c} e=>by
  rw[Ee]at e
  rcases xF (bG e)with hm|⟨_,h2,h3⟩
  ·exact .inl (cm hm)
  ·rw[Heap.size_push]at h2;exact .inr ⟨h2,h3⟩
 have look:∀{y},scope.names.lookup y=some .free->∃c,sD.cells.lookup y=some c/\X.env.cells.lookup y=some c:=λ{y} hl=>by
  have hy:(y,NameKind.free)∈scope.names:=bG hl
  obtain⟨c',e'⟩:=mem_lookup (AU (names:=scope.names) (n:=(s.heap.push { cls:=.type "dict",data:=.dict #[] }).objs.size) (zL (cells:=X.env.cells) (acc:=[]) hy))
  rw[<-Ee]at e'
  refine⟨c',e',?_⟩
  rw[Ee]at e'
  rcases xF (bG e')with hm|⟨h1,_,_⟩
  ·exact(cm hm).1
  ·have:=ok.uniq _ h1
   rw[hl]at this;cases this
 have okB:(X.LM s H scope sD fp).Ok:=by
  refine⟨I.ok.mod,by show sD.scope.kind=_;rw[hsc];exact ok.kind,by show sD.globals=_;rw[<-NJ];exact I.ok.glob,by show sD.builtins=_;rw[<-NJ];exact I.ok.blt,by show s.heap.objs.size<=sD.locals;rw[hL];exact ax _,
   λ y z c e1 e2=>?_,λ y hy=>?_,λ y c z e=>?_,I.ok.hd,I.ok.frames,.inl rfl,λ b hb=>⟨?_,λ y c e z=>?_⟩,I.bs,aT I.ok.Ss I.sz,λ b o e hb=>?_,λ b hb z=>?_,I.stack,I.Lv⟩
  ·have e1:sD.cells.lookup y=some c:=e1
   have e2:sD.cells.lookup z=some c:=e2
   rw[Ee]at e1 e2
   refine Em (λ p hp=>?_) (λ y z c a b=>I.ok.inj y z c (cm a).1 (cm b).1) (bG e1) (bG e2)
   rw[Heap.size_push]
   exact i_ (cm (y:=p.1) (c:=p.2) hp).2
  ·show ∃c,sD.cells.lookup y=some c
   have key:∀k,sD.kindOf y=some k->(k= .cell\/k= .free)->∃c,sD.cells.lookup y=some c:=λ k hk hk'=>by
    unfold Env.kindOf at hk
    rw[hsc]at hk
    obtain⟨k',e,r⟩:=zM hk
    have:k'= .cell\/k'= .free:=by
     rcases r with rfl|⟨rfl,_⟩
     ·exact hk'
     ·exact .inr rfl
    rcases this with rfl|rfl
    ·obtain⟨c,hm⟩:=El (n:=(s.heap.push { cls:=.type "dict",data:=.dict #[] }).objs.size) (acc:=pS X.env.cells scope.names []) (bG e)
     obtain⟨c',e'⟩:=mem_lookup hm
     exact⟨c',by rw[Ee];exact e'⟩
    ·obtain⟨c,h1,_⟩:=look e
     exact⟨c,h1⟩
   rcases hy with hy|hy
   ·exact key _ hy (.inl rfl)
   ·exact key _ hy (.inr rfl)
  ·have z:(scope.names.lookup y == some NameKind.cell)=true:=z
   have z:scope.names.lookup y=some .cell:=by simpa using z
   have e:sD.cells.lookup y=some c:=e
   rw[Ee]at e
   rcases xF (bG e)with hm|⟨_,h2,_⟩
   ·rcases wq hm with hm|⟨h1,_⟩
    ·cases hm
    ·have q:=ok.uniq _ h1
     rw[z]at q;cases q
   ·rw[Heap.size_push]at h2
    exact gz h2
  ·show b≠sD.locals
   rw[hL];exact bL (hfp b hb).2
  ·have e:sD.cells.lookup y=some c:=e
   rcases mem e with⟨h1,_⟩|⟨h1,_⟩
   ·exact(hfp b hb).1.2.2.2.2.1 y c h1 z
   ·have h2:s.heap.objs.size+1<=b:=by rw[<-z];exact h1
    exact absurd (aU (hfp b hb).2 (gz h2)) (cX _)
  ·rcases(hfp b hb).1.2.2.2.1 with z|z
   ·exact I.ok.Nv b o e z
   ·exact absurd (aU (Heap.lt_size e) (aT I.ok.Ss z)) (cX _)
  ·rcases List.mem_cons.mp (I.PY b z)with z|z
   ·exact(hfp b hb).1.2.1 z
   ·exact(hfp b hb).1.2.2.1 z
 refine⟨okB,rfl,I.bare,Un.kept kp,⟨λ _=>none,?_,λ i y av e1 e2 e3=>?_⟩,λ y c e=>?_,?_,λ y c e=>?_,λ p hp=>?_,I.oY.kept kp,by rw[zN];exact I.len⟩
 ·show Heap.Ns _ sD.locals _
  rw[hL]
  exact Heap.Ns.keeps (Heap.Ns.new ..) λ b o e=>iw _ _ _ _ e
 ·obtain⟨e2,xE⟩:=En e2
  have JM:scope.names.lookup y=some .free/\(sD.kindOf y=some .cell\/sD.kindOf y=some .free):=by
   have key:∀k,sD.scope.names.lookup y=some k->k= .local\/k= .cell\/k= .free->scope.names.lookup y=some .free/\(sD.kindOf y=some .cell\/sD.kindOf y=some .free):=λ k hk hk'=>by
    have hk0:=hk
    rw[hsc]at hk
    obtain⟨k',e,r⟩:=zM hk
    have no:¬ (k'= .local\/k'= .cell):=λ hh=>by
     rcases ok.own _ (bG e) hh with e'|e'
     ·obtain⟨p,hp,hpy⟩:=List.mem_map.mp e'
      have e3:=ok.ix p hp
      have:p.1=y:=hpy
      rw[this]at e3
      exact xE (List.mem_map.mpr ⟨p,hp,C0 hN e3 e1⟩)
     ·exact e' (aC e1)
    rcases r with rfl|⟨rfl,rfl⟩
    ·rcases hk' with rfl|rfl|rfl
     ·exact absurd (.inl rfl) no
     ·exact absurd (.inr rfl) no
     ·exact⟨e,.inr hk0⟩
    ·exact⟨e,.inl hk0⟩
   have e3:Vis sD.scope y:=e3
   rcases e3 with e3|e3|e3
   ·exact key _ e3 (.inl rfl)
   ·exact key _ e3 (.inr (.inl rfl))
   ·exact key _ e3 (.inr (.inr rfl))
  obtain⟨m,hn,hl⟩:=I.loc
  have aeE:Vis X.env.scope y:=(ok.free _ (bG JM.1) rfl).elim (λ k=>.inr (.inl k)) (λ k=>.inr (.inr k))
  obtain⟨w,r,q⟩:=hl i y av e1 e2 aeE
  refine⟨w,r,.inr ⟨JM.2,?_⟩⟩
  obtain⟨c,h1,h2⟩:=look JM.1
  rcases q with⟨k,_⟩|⟨_,c',e',z⟩
  ·have k:X.env.scope.names.lookup y=some .local:=k
   rcases ok.free _ (bG JM.1) rfl with k'|k' <;> rw[show X.env.scope.names.lookup y=_ from k']at k <;> cases k
  ·rw[h2]at e';cases e'
   exact⟨c,h1,z.keeps kp⟩
 ·have e:sD.cells.lookup y=some c:=e
  rcases mem e with⟨h1,_⟩|⟨_,z⟩
  ·obtain⟨w,z⟩:=I.cell y c h1
   exact⟨w,z.keeps kp⟩
  ·exact⟨_,z⟩
 ·show H sD.locals=none
  rw[hL];exact I.oY.fresh (ax _)
 ·have e:sD.cells.lookup y=some c:=e
  rcases mem e with⟨h1,_⟩|⟨h1,_⟩
  ·exact I.uC y c h1
  ·exact I.oY.fresh (gz h1)
 ·exact absurd (show p∈([]:List (ag×Obj))++[]from hp) (by simp)
theorem abP{E:ao->au->Prop}{D:ag}{xs:List V}{y:V}{v:ao}{Q:ao->au->Prop}(I:Inv X pins σ H s)(hD:H D=some (.lst xs))(hz:xs.length<ay)(r:RelV y v)
  (h:∀s',Inv X pins σ (upd H D (.lst (xs++[y]))) s'->Q .none s'):aV (aS X.prog X.w) X.A (call (.builtin "list.append") [.ref D,v]) Q E s:=by
 obtain⟨Wa,oo,n,ri,e⟩:=I.oY D _ hD
 have hl:=ri.length
 refine append_at (hsz:=by rw[aK];omega) e λ h' sb Su=>?_
 refine h { s with heap:=h' } (I.write (t':=s.toks) (by rw[hD];trivial) (.inl rfl) (λ b u hb q=>(sb.2 b hb).trans q) ⟨_,Su⟩ ⟨by rw[aw];exact hz,oo++[v],n+1,ri.append (.cons r .nil),?_⟩)
 rw[Su]
 simp
def PTs(X:Cx)(ifs:List bJ)(t:TT):Prop:=
 ∀(pins:List (ag×Obj)) (s:au) (σ:St) (H:Hp) (Q:Bool->Hp->Prop),Inv X pins σ H s->t σ H Q->
  aV (aS X.prog X.w) X.A (forIn ifs true λ c r=>if r=true then do let ok <-kQ c X.env (cu c X.env);pure (ForInStep.yield ok)else pure (ForInStep.yield r)) (TP X pins σ Q) X.xe s
def ado:TT:=λ _ H Q=>Q true H
theorem oS:PTs X [] ado:=λ _ _ _ H _ I h=>wpAny_tests_nil ⟨H,I,h⟩
theorem LN{c:bJ}{t:TT}(h:PT X c t):PTs X [c] t:=λ pins s σ H Q I hw=>wpAny_tests_one (h pins s σ H Q I hw)
end
theorem Ut{α:Type}{t:Sem α}{Q Q':α->au->Prop}{M:jJ}{A:bU}{E:ao->au->Prop}{s:au}(h:aV M A t Q (λ _ _=>False) s)(hQ:∀a s,Q a s->Q' a s):aV M A t Q' E s:=cQ h hQ λ _ _ z=>False.elim z
theorem LO{prog:aJ}{w:aY}{A:bU}{R:lU->au->Prop}{s:au}{elt target iter:bJ}{ifs:List bJ}{scope:eQ}{pos:Pos}{it acc:ao}{env:Env}(I:Nat->au->Prop)
  (turn:∀n s,I n s->aV (aS prog w) A (jU it) (λ r s₁=>match r with
   |none=>R (.ok .next) s₁
   |some v=>aV (aS prog w) A (iy target it v) (λ _ s₁'=>aV (aS prog w) A (jY target env v) (λ _ s₂=>
     aV (aS prog w) A (forIn ifs true λ c r=>if r=true then do let ok <-kQ c env (cu c env);pure (ForInStep.yield ok)else pure (ForInStep.yield r)) (λ ok s₃=>
      if ok=true then aV (aS prog w) A (cu elt env) (λ x s₄=>
       aV (aS prog w) A (call (.builtin "list.append") [acc,x]) (λ _ s₅=>∃m,m<n/\I m s₅) (jN (aS prog w) A env λ e s'=>R (.error e) s') s₄) (jN (aS prog w) A env λ e s'=>R (.error e) s') s₃
      else ∃m,m<n/\I m s₃) (jN (aS prog w) A env λ e s'=>R (.error e) s') s₂) (jN (aS prog w) A env λ e s'=>R (.error e) s') s₁') (jN (aS prog w) A env λ e s'=>R (.error e) s') s₁) (jN (aS prog w) A env λ e s'=>R (.error e) s') s)
  (n:Nat)(h:I n s):
  fS (aS prog w) A (.compLoop (.ListComp elt [⟨target,iter,ifs,0⟩] scope pos) 0 it acc env) R s:=by
 refine codeAny_loop rfl I (λ n s hI=>?_) n h
 show aV _ A ((compTurn (.ListComp elt [⟨target,iter,ifs,0⟩] scope pos) 0 it acc env).onRaise (λ x=>do mv x env;theTreesLotGoes x)) _ _ s
 refine wpAny_noted ?_
 rw[compTurn_list]
 refine aq (gQ (aq (cQ (turn n s hI) (λ r s₁ h₁=>?_) λ _ _ h'=>h')))
 cases r with
 |none=>exact aM h₁
 |some v=>
  refine aq (cQ h₁ (λ _ s₁' h₁'=>?_) λ _ _ h'=>h')
  refine aq (cQ h₁' (λ _ s₂ h₂=>aq (cQ h₂ (λ ok s₃ h₃=>?_) λ _ _ h'=>h')) λ _ _ h'=>h')
  cases ok with
  |false=>exact aM ⟨rfl,h₃⟩
  |true=>
   exact aq (aq (cQ h₃ (λ x s₄ h₄=>aq (cQ h₄ (λ _ s₅ h₅=>aM (aM ⟨rfl,h₅⟩)) λ _ _ h'=>h')) λ _ _ h'=>h'))
section
variable{X:Cx}
def tLc(wi:TI)(g:TG)(tt:TT)(te:TE)(vs:List Nat):TE:=λ σ H Q=>wi σ H λ J H1=>∀D,H1 D=none->∃W:Nat->Nat->Hp->Prop,(∃m,W 0 m (upd H1 D (.lst [])))/\∀i m H,W i m H->
 (J.stop i H/\Q (.ref D) H)\/(J.go i H/\∃Nx:Hp->Prop,(∀H',Nx H'->∃m',m'<m/\W (i+1) m' H')/\∀x H',J.Ha i H x H'->g x (wipe σ vs) H' λ σ2 H2=>wipe σ2 vs=wipe σ vs/\tt σ2 H2 λ b H3=>
  if b=true then te σ2 H3 λ y H4=>∃acc,H4 D=some (.lst acc)/\acc.length<ay/\Nx (upd H4 D (.lst (acc++[y])))else Nx H3)
theorem SN{pins:List (ag×Obj)}{s:au}{σ:St}{H:Hp}{Q:VK}{elt tg iter:bJ}{ifs:List bJ}{scope:eQ}{own:List (Str×Nat)}{pos pos':Pos}{wi:TI}{g:TG}{tt:TT}{te:TE}{use:Option (ao->Sem Unit)}{Qf:ao->au->Prop}
  (hc:X.calm=true)(hN:X.N.Nodup)(I:Inv X pins σ H s)(hi:PI X tg iter wi)(ok:pD X.N X.env.scope scope own)
  (hg:∀(s:au) (H:Hp) (C:ag) (cl:List (Str×ag)) (fp:List ag),PG (X.LM s H scope (eh scope cl C X.env) fp) tg g)(ht:∀(s:au) (H:Hp) (C:ag) (cl:List (Str×ag)) (fp:List ag),PTs (X.LM s H scope (eh scope cl C X.env) fp) ifs tt)
  (he:∀(s:au) (H:Hp) (C:ag) (cl:List (Str×ag)) (fp:List ag),PE (X.LM s H scope (eh scope cl C X.env) fp) elt te)(hs:∀x,gL iter X.env x=pure x)
  (h:tLc wi g tt te (own.map (·.2)) σ H Q)
  (hRR:∀D C s' m H',Inv X pins σ H' s'->Q (.ref D) H'->s'.heap.Ns C m->GF X pins H' C->mP (aS X.prog X.w) X.A X.xe use Qf (.ref D) C (.ok .next) s'):
  aV (aS X.prog X.w) X.A (mV (.ListComp elt [⟨tg,iter,ifs,0⟩] scope pos) scope X.env pos' (newList []) false (cu iter X.env) use) Qf X.xe s:=by
 have Kf:∀y∈scope.names,y.2= .free->∃c,X.env.cells.lookup y.1=some c:=λ y hy e=>by
  rcases ok.free y hy e with k|k
  ·exact I.ok.has _ (.inl k)
  ·exact I.ok.has _ (.inr k)
 refine wpAny_comprehension_free (use:=use) rfl hs (Qo Kf) ok.kind (λ y hy e=>by rw[ok.uniq y hy,e])
  (pN (hi pins s σ H _ I h) λ xv s1 hx=>pN hx λ itv s2 h2=>?_)
 obtain⟨it,fp,tn,J,H2,e,I2,T,st2,f2,q⟩:=h2
 subst e
 refine jm (NH ?_) (by show 0<=ay;decide)
 generalize hD:s2.heap.objs.size=D
 have hDn:H2 D=none:=I2.oY.fresh (gS hD)
 obtain⟨W,⟨m0,w0⟩,turn⟩:=q D hDn
 generalize hs3:({ s2 with heap:=s2.heap.push { cls:=.type "list",data:=.seq ([]:List ao).toArray } }:au)=s3
 have I3:Inv X pins σ (upd H2 D (.lst [])) s3:=by
  rw[<-hs3]
  refine I2.laid (t':=s2.toks) (λ b o e=>Heap.get?_push_of_some _ e) (gS hD) ⟨aE _,[],0,.nil,?_⟩
  rw[<-hD]
  exact Heap.get?_push_size _ rfl
 have h3:s3.heap=s2.heap.push { cls:=.type "list",data:=.seq ([]:List ao).toArray }:=by rw[<-hs3]
 have sz:∀b∈fp,b<s2.heap.objs.size:=λ b hb=>by
  obtain⟨o,e,_⟩:=T.obj _ _ st2 b hb
  exact Heap.lt_size e
 have f3:∀b∈fp,GF X pins (upd H2 D (.lst [])) b/\b<s3.heap.objs.size:=λ b hb=>by
  have rO:=sz b hb
  refine⟨⟨?_,(f2 b hb).2⟩,by rw[h3,Heap.size_push];exact i_ rO⟩
  rw[m5 (by rw[<-hD];exact bL rO)]
  exact(f2 b hb).1
 have st3:tn 0 s3.heap:=T.keep _ _ _ st2 λ b _ o e=>by rw[h3];exact Heap.get?_push_of_some _ e
 have I4:=NI I3 ok hN f3
 have pg:=hg s3 (upd H2 D (.lst [])) s3.heap.objs.size (cE (s3.heap.objs.size+1) scope.names (pS X.env.cells scope.names [])) fp
 have pt:=ht s3 (upd H2 D (.lst [])) s3.heap.objs.size (cE (s3.heap.objs.size+1) scope.names (pS X.env.cells scope.names [])) fp
 have pe:=he s3 (upd H2 D (.lst [])) s3.heap.objs.size (cE (s3.heap.objs.size+1) scope.names (pS X.env.cells scope.names [])) fp
 show fS _ _ (.compStart (.ListComp elt [⟨tg,iter,ifs,0⟩] scope pos) 0 (.ref it) (.ref D) (eh scope (cE (s3.heap.objs.size+1) scope.names (pS X.env.cells scope.names [])) s3.heap.objs.size X.env)) (mP (aS X.prog X.w) X.A X.xe use Qf (.ref D) s3.heap.objs.size) { s3 with heap:=gx (s3.heap.push { cls:=.type "dict",data:=.dict #[] }) scope.names }
 have nfp:∀b∈fp,(upd H2 D (.lst [])) b=none:=λ b hb=>(f3 b hb).1.1
 generalize hce:eh scope (cE (s3.heap.objs.size+1) scope.names (pS X.env.cells scope.names [])) s3.heap.objs.size X.env=ce at I4 pg pt pe ⊢
 have cL:ce.locals=s3.heap.objs.size:=by subst hce;rfl
 generalize hH3:upd H2 D (.lst [])=H3 at I3 I4 pg pt pe w0 nfp f3
 generalize hs4:({ s3 with heap:=gx (s3.heap.push { cls:=.type "dict",data:=.dict #[] }) scope.names }:au)=s4 at I4 ⊢
 have st4:tn 0 s4.heap:=T.keep _ _ _ st3 λ b _ o e=>by rw[<-hs4];exact iw _ _ _ _ (Heap.get?_push_of_some _ e)
 have Qe:∀{σ':St} {H':Hp} {s':au},Inv (X.LM s3 H3 scope ce fp) [] σ' H' s'->(∀b∈fp,H' b=none)->∀b∈fp,GF (X.LM s3 H3 scope ce fp) [] H' b:=λ{σ' H' s'} I' hn b hb=>
  ⟨hn b hb,(I'.ok.exf b hb).1,I'.ok.Nw b hb,.inl hb,λ x c e=>(I'.ok.exf b hb).2 x c e,λ p hp=>absurd (show p∈([]:List (ag×Obj))++[]from hp) (by simp)⟩
 have loop:fS (aS X.prog X.w) X.A (.compLoop (.ListComp elt [⟨tg,iter,ifs,0⟩] scope pos) 0 (.ref it) (.ref D) ce) (mP (aS X.prog X.w) X.A X.xe use Qf (.ref D) s3.heap.objs.size) s4:=by
  refine LO (λ n s'=>∃i H',Inv (X.LM s3 H3 scope ce fp) [] (wipe σ (own.map (·.2))) H' s'/\tn i s'.heap/\(∀b∈fp,H' b=none)/\W i n H') ?_ m0 ⟨0,H3,I4,st4,nfp,w0⟩
  rintro n s5 ⟨i,H5,I5,st5,n5,w5⟩
  rcases turn i n H5 w5 with⟨stop,qq⟩|⟨go,Nx,hNx,step⟩
  ·have td:=T.done (X.LM s3 H3 scope ce fp) rfl rfl rfl hc i [] s5 _ H5 (λ _ _=>False) I5 (Qe I5 n5) st5 stop
   refine Ut td λ r s6 ⟨hr,I6⟩=>?_
   subst hr
   have I7:Inv X pins σ H5 s6:=I3.aaY (ch:=fp) I6.os I6.base I6.oY I6.bare λ b hb=>⟨(f3 b hb).1.2.2.2.1,(f3 b hb).1.2.1,(f3 b hb).1.2.2.2.2.1,(f3 b hb).1.2.2.2.2.2⟩
   have nC:H5 s3.heap.objs.size=none:=by
    have z:H5 ce.locals=none:=I6.free
    rw[cL]at z
    exact z
   obtain⟨m,hn,_⟩:=I6.loc
   have hn:s6.heap.Ns ce.locals m:=hn
   rw[cL]at hn
   exact hRR D s3.heap.objs.size s6 m H5 I7 qq hn (I3.Qc (ax _) nC)
  ·have ti:=T.item (X.LM s3 H3 scope ce fp) rfl rfl rfl hc i [] s5 _ H5 (λ _ _=>False) I5 (Qe I5 n5) st5 go
   refine Ut ti λ r s6 ⟨u,hr,h6⟩=>?_
   subst hr
   refine Ut h6 λ _ s7 ⟨x,H7,I7,r7,y7,st7,n7⟩=>?_
   have I7':=I7.pinned (Qe I7 n7) (T.obj _ _ st7)
   refine Ut (pg _ s7 _ H7 x u _ I7' r7 (step x H7 y7)) λ _ s8 ⟨σ8,H8,I8,hw8,q8⟩=>?_
   refine Ut (pt _ s8 σ8 H8 _ I8 q8) λ b s9 ⟨H9,I9,q9⟩=>?_
   have fin:∀{s':au} {H':Hp},Inv (X.LM s3 H3 scope ce fp) ([]++Hb fp s7.heap) σ8 H' s'->Nx H'->∃m,m<n/\∃i H',Inv (X.LM s3 H3 scope ce fp) [] (wipe σ (own.map (·.2))) H' s'/\tn i s'.heap/\(∀b∈fp,H' b=none)/\W i m H':=λ{s' H'} I' nx=>by
    obtain⟨m',hm,w'⟩:=hNx H' nx
    have adp:∀b∈fp,∀o,s7.heap.get? b=some o->s'.heap.get? b=some o/\H' b=none:=λ b hb o e=>
     let z:=I'.pin (b,o) (cy _ (cy _ (BD hb e)))
     ⟨z.1,z.2.1⟩
    have hl:(wipe σ (own.map (·.2))).length=σ8.length:=by rw[<-hw8,zN]
    refine⟨m',hm,i+1,H',(I'.xA (pins:=[])).weak hl (λ j v e=>?_),T.keep _ _ _ st7 λ b hb o e=>(adp b hb o e).1,λ b hb=>?_,w'⟩
    ·rw[<-hw8]at e
     exact(En e).1
    ·obtain⟨o,e,_⟩:=T.obj _ _ st7 b hb
     exact(adp b hb o e).2
   cases b with
   |false=>
    simp only[kJ,if_false]at q9 ⊢
    exact fin I9 q9
   |true=>
    simp only[if_true]at q9 ⊢
    refine Ut (pe _ s9 σ8 H9 _ I9 q9) λ z s10 ⟨yv,H10,I10,r10,acc,aeF,aeG,nx⟩=>?_
    exact abP (X:=X.LM s3 H3 scope ce fp) I10 aeF aeG r10 λ s11 I11=>fin I11 nx
 exact codeAny_compStart_list loop (T.self X.A 0 _ _ _ st4 loop)
theorem qw{elt tg iter:bJ}{ifs:List bJ}{scope:eQ}{own:List (Str×Nat)}{pos:Pos}{wi:TI}{g:TG}{tt:TT}{te:TE}(hc:X.calm=true)(hN:X.N.Nodup)(hi:PI X tg iter wi)(ok:pD X.N X.env.scope scope own)
  (hg:∀(s:au) (H:Hp) (C:ag) (cl:List (Str×ag)) (fp:List ag),PG (X.LM s H scope (eh scope cl C X.env) fp) tg g)(ht:∀(s:au) (H:Hp) (C:ag) (cl:List (Str×ag)) (fp:List ag),PTs (X.LM s H scope (eh scope cl C X.env) fp) ifs tt)
  (he:∀(s:au) (H:Hp) (C:ag) (cl:List (Str×ag)) (fp:List ag),PE (X.LM s H scope (eh scope cl C X.env) fp) elt te)(hs:∀x,gL iter X.env x=pure x:=by intro _;rfl):
  PE X (.ListComp elt [⟨tg,iter,ifs,0⟩] scope pos) (tLc wi g tt te (own.map (·.2))):=by
 intro pins s σ H Q I h
 rw[eval_ListComp]
 refine SN hc hN I hi ok hg ht he hs h λ D C s' m H' I' q hn f=>⟨m,hn,λ Wb sb=>?_⟩
 obtain⟨f0,f1,f2,f3,f4,f5⟩:=f
 exact⟨.ref D,H',I'.turned (t':=s'.toks) (λ b o hb e=>(sb.2 b hb).trans e) f0 f1 f3 f4 f5,rfl,q⟩
theorem zO{i:Nat}{y:Str}{py:Pos}{elt tg iter:bJ}{ifs:List bJ}{scope:eQ}{own:List (Str×Nat)}{pos adq:Pos}{wi:TI}{g:TG}{tt:TT}{te:TE}(hc:X.calm=true)(hN:X.N.Nodup)(hy:X.N[i]? =some y)(hyl:X.env.scope.names.lookup y=some .local)
  (hsw:hX (.ListComp elt [⟨tg,iter,ifs,0⟩] scope pos) (some (.Name y py)) adq.line X.env=pure true)(hi:PI X tg iter wi)(ok:pD X.N X.env.scope scope own)
  (hg:∀(s:au) (H:Hp) (C:ag) (cl:List (Str×ag)) (fp:List ag),PG (X.LM s H scope (eh scope cl C X.env) fp) tg g)(ht:∀(s:au) (H:Hp) (C:ag) (cl:List (Str×ag)) (fp:List ag),PTs (X.LM s H scope (eh scope cl C X.env) fp) ifs tt)
  (he:∀(s:au) (H:Hp) (C:ag) (cl:List (Str×ag)) (fp:List ag),PE (X.LM s H scope (eh scope cl C X.env) fp) elt te)(hs:∀x,gL iter X.env x=pure x:=by intro _;rfl):
  PS X (.Assign [.Name y py] (.ListComp elt [⟨tg,iter,ifs,0⟩] scope pos) adq) (abr (tLc wi g tt te (own.map (·.2))) (Sw i)):=by
 intro pins s σ H D I h
 rw[exec_Assign_Name_used _ _ _ _ hsw]
 refine aq (gQ (aq ?_))
 show aV _ X.A (do let _ <-mV (.ListComp elt [⟨tg,iter,ifs,0⟩] scope pos) scope X.env (firstIterPos [⟨tg,iter,ifs,0⟩] pos) (newList []) false (cu iter X.env) (some (jY (.Name y py) X.env))) _ _ s
 have h:tLc wi g tt te (own.map (·.2)) σ H (λ x H1=>Sw i x σ H1 D.nx):=h
 refine aq (pN (SN (Qf:=λ _ s'=>SP X pins D .next s') hc hN I hi ok hg ht he hs h λ L C s' m H' I' q hn f=>?_) λ _ s' hq=>aM (aM hq))
 show aV _ _ (jY (.Name y py) X.env (.ref L)) _ _ _
 refine me (Ke (v:=V.ref L) I' hN hy (.inl hyl) rfl (λ s2 I2 ⟨a,sb,ha⟩=>?_) (.inr hyl))
 obtain⟨f0,f1,f2,f3,f4,f5⟩:=f
 have haC:C≠a:=by
  rcases ha with z|z
  ·rw[z];exact f1
  ·exact λ e=>f4 y a z e.symm
 refine⟨m,hn.sameBut sb haC,λ h3 sb3=>?_⟩
 exact⟨_,H',I2.turned (t':=s2.toks) (λ b o hb e=>(sb3.2 b hb).trans e) f0 f1 f3 f4 f5,q⟩
end
end L2
namespace L2
open PySem PySem.Spec PyProof.Rows
section
variable{prog:aJ}{w:aY}{A:bU}{R:lU->au->Prop}{s:au}{elt t0 i0 t1 i1:bJ}{afl afm:List bJ}{scope:eQ}{pos:Pos}{it acc:ao}{env:Env}
end
section
variable{X:Cx}
end
end L2
namespace L2
open PySem PySem.Spec PyProof.Rows
section
variable{κ:Type}[DecidableEq κ]
def vp(oJ:List (κ×V))(k:κ):Option V:=(oJ.find? λ kv=>decide (kv.1=k)).map (·.2)
def putK(oJ:List (κ×V))(k:κ)(v:V):List (κ×V):=
 if(oJ.any λ kv=>decide (kv.1=k))=true then oJ.map (λ kv=>if kv.1=k then(kv.1,v)else kv)else oJ++[(k,v)]
theorem Wz{k:κ}:vp ([]:List (κ×V)) k=none:=rfl
theorem rk{p:κ×V}{r:List (κ×V)}{k:κ}(e:p.1=k):vp (p::r) k=some p.2:=by simp[vp,eK,e]
theorem rn{p:κ×V}{r:List (κ×V)}{k:κ}(e:¬ p.1=k):vp (p::r) k=vp r k:=by simp[vp,eK,e]
theorem C5(k:κ):∀oJ:List (κ×V),(oJ.any λ kv=>decide (kv.1=k))=(vp oJ k).isSome
 |[]=>rfl
 |p::r=>by
  rw[eF]
  by_cases e:p.1=k
  ·simp only[rk e,decide_eq_true e,Bool.true_or,j9]
  ·rw[rn e,decide_eq_false e,Bool.false_or];exact C5 k r
theorem NK(k j:κ)(y:V):∀oJ:List (κ×V),vp (oJ.map λ kv=>if kv.1=k then(kv.1,y)else kv) j=(vp oJ j).map λ x=>if j=k then y else x
 |[]=>rfl
 |p::r=>by
  have ih:=NK k j y r
  rw[aG]
  by_cases h:p.1=k
  ·rw[if_pos h]
   by_cases e:p.1=j
   ·rw[rk (p:=(p.1,y)) e,rk e,gK,if_pos (e.symm.trans h)]
   ·rw[rn (p:=(p.1,y)) e,rn e,ih]
  ·rw[if_neg h]
   by_cases e:p.1=j
   ·rw[rk (p:=p) e,rk e,gK,if_neg (λ z=>h (e.trans z))]
   ·rw[rn (p:=p) e,rn e,ih]
theorem Ko(k j:κ)(y:V):∀oJ:List (κ×V),vp oJ k=none->vp (oJ++[(k,y)]) j=if j=k then some y else vp oJ j
 |[],_=>by
  by_cases e:k=j
  ·rw[if_pos e.symm];exact rk (p:=(k,y)) e
  ·rw[if_neg (λ z=>e z.symm)];exact rn (p:=(k,y)) e
 |p::r,hn=>by
  rw[jc]
  have hk:¬ p.1=k:=λ z=>by rw[rk z]at hn;cases hn
  rw[rn hk]at hn
  have ih:=Ko k j y r hn
  by_cases e:p.1=j
  ·rw[rk e,rk e,if_neg (λ z=>hk (e.trans z))]
  ·rw[rn e,rn e,ih]
theorem WA(oJ:List (κ×V))(k j:κ)(y:V):vp (putK oJ k y) j=if j=k then some y else vp oJ j:=by
 unfold putK
 by_cases a:(oJ.any λ kv=>decide (kv.1=k))=true
 ·rw[if_pos a,NK]
  rw[C5]at a
  by_cases e:j=k
  ·obtain⟨x,hx⟩:=Option.isSome_iff_exists.mp a
   rw[if_pos e,e,hx,gK,if_pos rfl]
  ·rw[if_neg e]
   cases vp oJ j with
   |none=>rfl
   |some x=>rw[gK,if_neg e]
 ·rw[if_neg a]
  refine Ko k j y oJ ?_
  rw[C5]at a
  cases q:vp oJ k with
  |none=>rfl
  |some x=>rw[q]at a;exact(a rfl).elim
theorem Fh(oJ:List (κ×V))(k:κ)(v:V):(putK oJ k v).length<=oJ.length+1:=by
 unfold putK
 split
 ·rw[aa];omega
 ·rw[aw,aD,List.length_nil];omega
theorem wQ.Eo{o:Option V}{u:Option ao}(r:wQ o u):o.isSome=u.isSome:=by
 cases o with
 |none=>cases u with
  |none=>rfl
  |some _=>exact(show False from r).elim
 |some _=>cases u with
  |none=>exact(show False from r).elim
  |some _=>rfl
theorem KV.val{oJ:List (κ×V)}{vs:List (κ×ao)}(r:KV oJ vs)(k:κ):wQ (vp oJ k) (jn vs k):=by
 unfold KV at r
 induction r with
 |nil=>exact True.intro
 | @cons p q ps qs h t ih=>
  obtain⟨h1,h2⟩:=h
  by_cases e:p.1=k
  ·have e':q.1=k:=h1.symm.trans e
   have b:jn (q::qs) k=some q.2:=by simp[jn,eK,e']
   rw[rk e,b];exact h2
  ·have e':¬ q.1=k:=λ z=>e (h1.trans z)
   have b:jn (q::qs) k=jn qs k:=by simp[jn,eK,e']
   rw[rn e,b];exact ih
theorem KV.any{oJ:List (κ×V)}{vs:List (κ×ao)}(r:KV oJ vs)(k:κ):(oJ.any λ kv=>decide (kv.1=k))=vs.any λ kv=>decide (kv.1=k):=by
 unfold KV at r
 induction r with
 |nil=>rfl
 |cons h t ih=>rw[eF,eF,ih,h.1]
theorem KV.abQ{oJ:List (κ×V)}{vs:List (κ×ao)}(r:KV oJ vs)(k:κ){y:V}{u:ao}(ry:RelV y u):
  KV (oJ.map λ kv=>if kv.1=k then(kv.1,y)else kv) (vs.map λ kv=>if kv.1=k then(kv.1,u)else kv):=by
 unfold KV at r ⊢
 induction r with
 |nil=>exact .nil
 | @cons p q ps qs h t ih=>
  rw[aG,aG]
  refine .cons ?_ ih
  obtain⟨h1,h2⟩:=h
  by_cases e:p.1=k
  ·rw[if_pos e,if_pos (h1.symm.trans e)];exact⟨h1,ry⟩
  ·rw[if_neg e,if_neg (λ z=>e (h1.trans z))];exact⟨h1,h2⟩
theorem KV.put{oJ:List (κ×V)}{vs:List (κ×ao)}(r:KV oJ vs)(k:κ){y:V}{u:ao}(ry:RelV y u):KV (putK oJ k y) (stored vs k u):=by
 unfold putK stored
 rw[r.any k]
 by_cases e:(vs.any λ kv=>decide (kv.1=k))=true
 ·rw[if_pos e,if_pos e];exact r.abQ k ry
 ·rw[if_neg e,if_neg e];exact Paired.snoc r ⟨rfl,ry⟩
theorem KV.length{oJ:List (κ×V)}{vs:List (κ×ao)}(r:KV oJ vs):oJ.length=vs.length:=Paired.length r
end
theorem SO{P:aJ}{w:aY}{k:Key}{u:ao}(r:RelV (kV k) u):(q_ P w).is k u=true:=by
 cases k with
 |inl i=>obtain⟨t,e⟩:=(show ∃t,u=Value.int i t from r);subst e;exact Nr P w i t
 |inr x=>obtain⟨t,e⟩:=(show ∃t,u=Value.str x t from r);subst e;exact Nt P w x t
theorem Kp{P:aJ}{w:aY}:∀{ks:List Key} {us:List ao},Vals (ks.map kV) us->ItemsAre (q_ P w) ks us
 |[],_,r=>by rw[eW]at r;cases r;exact .nil
 |k::ks,_,r=>by
  rw[aG]at r
  cases r with
  |cons h t=>exact .cons (SO h) (Kp t)
abbrev KT(H:Hp):List (List Key×V)->List (List Key×ag×ao)->Prop:=Paired λ p q=>p.1=q.1/\H q.2.1=some (.tup (p.1.map kV))/\RelV p.2 q.2.2
theorem KT.val{H:Hp}{oJ:List (List Key×V)}{xs:List (List Key×ag×ao)}(r:KT H oJ xs)(k:List Key):wQ (vp oJ k) ((jX xs k).map (·.2)):=by
 induction r with
 |nil=>exact True.intro
 | @cons p q ps qs h t ih=>
  obtain⟨h1,_,h2⟩:=h
  by_cases e:p.1=k
  ·have e':q.1=k:=h1.symm.trans e
   have b:jX (q::qs) k=some q.2:=by simp[jX,eK,e']
   rw[rk e,b];exact h2
  ·have e':¬ q.1=k:=λ z=>e (h1.trans z)
   have b:jX (q::qs) k=jX qs k:=by simp[jX,eK,e']
   rw[rn e,b];exact ih
theorem KT.abQ{H:Hp}{oJ:List (List Key×V)}{xs:List (List Key×ag×ao)}(r:KT H oJ xs)(k:List Key){y:V}{u:ao}(ry:RelV y u):
  KT H (oJ.map λ kv=>if kv.1=k then(kv.1,y)else kv) (xs.map (putAt k u)):=by
 induction r with
 |nil=>exact .nil
 | @cons p q ps qs h t ih=>
  rw[aG,aG]
  refine .cons ?_ ih
  obtain⟨h1,h2,h3⟩:=h
  unfold putAt
  by_cases e:p.1=k
  ·rw[if_pos e,if_pos (h1.symm.trans e)];exact⟨h1,h2,ry⟩
  ·rw[if_neg e,if_neg (λ z=>e (h1.trans z))];exact⟨h1,h2,h3⟩
theorem KT.put{H:Hp}{oJ:List (List Key×V)}{xs:List (List Key×ag×ao)}(r:KT H oJ xs)(k:List Key){b:ag}{y:V}{u:ao}(hb:H b=some (.tup (k.map kV)))(ry:RelV y u):
  KT H (putK oJ k y) (storedH xs k b u):=by
 have e:(oJ.any λ kv=>decide (kv.1=k))=(jX xs k).isSome:=by
  rw[C5,(r.val k).Eo,kl]
 unfold putK storedH
 rw[e]
 by_cases q:(jX xs k).isSome=true
 ·rw[if_pos q,if_pos q];exact r.abQ k ry
 ·rw[if_neg q,if_neg q];exact Paired.snoc r ⟨rfl,hb,ry⟩
theorem KT.keeps{H H':Hp}{oJ:List (List Key×V)}{xs:List (List Key×ag×ao)}(r:KT H oJ xs)(ht:∀b ys,H b=some (.tup ys)->H' b=some (.tup ys)):KT H' oJ xs:=
 Paired.abk r λ _ _ z=>⟨z.1,ht _ _ z.2.1,z.2.2⟩
section
variable{P:aJ}{w:aY}{H:Hp}{h:bw}{a:ag}
theorem aa3{u:HO}(ok:zE P w H h)(e:Rd H a u):pQ P w H h a u:=e.ok ok
theorem SQ{oJ:List (Key×V)}(ok:zE P w H h)(e:Rd H a (.dK oJ)):oJ.length<=ay/\(a == eg)=false/\∃vs,KV oJ vs/\h.DictOf (q_ P w) a vs:=
 show pQ P w H h a (.dK oJ)from aa3 ok e
theorem ads{oJ:List (Key×V)}(ok:zE P w H h)(e:H a=some (.dK oJ)):oJ.length<=ay/\(a == eg)=false/\∃vs,KV oJ vs/\h.DictOf (q_ P w) a vs:=SQ ok (.inl e)
theorem LP{ks:List Key}(ok:zE P w H h)(e:H a=some (.tup (ks.map kV))):(jy (q_ P w)).is h ks a:=by
 obtain⟨_,oo,r,o,h1,h2,n,h3⟩:=(show pQ P w H h a (.tup (ks.map kV))from ok a _ e)
 exact⟨o,oo.toArray,n,h1,h2,h3,by simpa using Kp r⟩
theorem SR{oJ:List (List Key×V)}(ok:zE P w H h)(e:Rd H a (.dT oJ)):oJ.length<=ay/\(a == eg)=false/\
  ∃xs,KT H oJ xs/\h.DictOfH (jy (q_ P w)) a xs:=by
 obtain⟨z,y,xs,r,o,es,ep,h1,h2,h3,h4,h5⟩:=(show pQ P w H h a (.dT oJ)from aa3 ok e)
 refine⟨z,y,xs,r,o,es,ep,h1,h2,h3,h4,λ x hx=>?_,h5⟩
 have all:∀{l:List (List Key×V)} {m:List (List Key×ag×ao)},KT H l m->∀x∈m,(jy (q_ P w)).is h x.1 x.2.1:=by
  intro l m q
  induction q with
  |nil=>intro x hx;exact nomatch hx
  | @cons p q ps qs hq t ih=>
   intro x hx
   rcases List.mem_cons.mp hx with e|hx
   ·subst e
    exact LP ok (by rw[<-hq.1];exact hq.2.1)
   ·exact ih x hx
 exact all r x hx
theorem adt{oJ:List (List Key×V)}(ok:zE P w H h)(e:H a=some (.dT oJ)):oJ.length<=ay/\(a == eg)=false/\
  ∃xs,KT H oJ xs/\h.DictOfH (jy (q_ P w)) a xs:=SR ok (.inl e)
end
def JU(H:Hp)(a:ag)(y:V)(r:Option V):Prop:=
 (∃oJ k,Rd H a (.dK oJ)/\y=kV k/\r=vp oJ k)\/∃oJ k b,Rd H a (.dT oJ)/\y= .ref b/\H b=some (.tup (k.map kV))/\r=vp oJ k
def WB(H:Hp)(a:ag)(y v:V)(H':Hp):Prop:=
 (∃oJ k,H a=some (.dK oJ)/\y=kV k/\oJ.length<ay/\H'=upd H a (.dK (putK oJ k v)))\/
 ∃oJ k b,H a=some (.dT oJ)/\y= .ref b/\H b=some (.tup (k.map kV))/\oJ.length<ay/\H'=upd H a (.dT (putK oJ k v))
theorem JU.k{H:Hp}{a:ag}{oJ:List (Key×V)}{k:Key}(e:H a=some (.dK oJ)):JU H a (kV k) (vp oJ k):=.inl ⟨oJ,k,.inl e,rfl,rfl⟩
theorem WB.k{H:Hp}{a:ag}{oJ:List (Key×V)}{k:Key}{v:V}(e:H a=some (.dK oJ))(hl:oJ.length<ay):WB H a (kV k) v (upd H a (.dK (putK oJ k v))):=.inl ⟨oJ,k,e,rfl,hl,rfl⟩
section
variable{X:Cx}{pins:List (ag×Obj)}{σ:St}{H:Hp}{s:au}{a:ag}{y v:V}{u r:ao}{o:Option V}{A:bU}{E:ao->au->Prop}
theorem Inv.big(I:Inv X pins σ H s):eg<s.heap.objs.size:=by
 have h:aO<s.heap.objs.size:=(I.mod.glob.keeps I.bk).lt
 exact iZ (by decide) h
theorem Uu{Q:ao->au->Prop}(hu:A.units+1<jI)(I:Inv X pins σ H s)(g:JU H a y (some v))(ry:RelV y u)(h:∀w' s',Inv X pins σ H s'->RelV v w'->Q w' s'):
  aV (aS X.prog X.w) A (jo (.ref a) u) Q E s:=by
 rcases g with⟨oJ,k,e,ey,l⟩|⟨oJ,k,b,e,ey,eb,l⟩
 ·subst ey
  obtain⟨z,hd,vs,rel,dd⟩:=SQ I.oY e
  obtain⟨w',hw,wc⟩:=wQ.some_of (v:=v) (o:=jn vs k) (by rw[l];exact rel.val k)
  exact wpAny_getItem_of (SO ry) dd.mapOf hw (h w' _ (I.tok _) wc)
 ·subst ey
  cases(show u=Value.ref b from ry)
  obtain⟨z,hd,xs,rel,dd⟩:=SR I.oY e
  obtain⟨w',hw,wc⟩:=wQ.some_of (v:=v) (o:=(jX xs k).map (·.2)) (by rw[l];exact rel.val k)
  obtain⟨p,hp,ZG⟩:=Option.map_eq_some_iff.mp hw
  refine wpAny_getItem_heap (je hu) (LP I.oY eb) dd hp ?_
  rw[ZG]
  exact h w' _ (I.tok _) wc
theorem ZH{Q:ao->au->Prop}(hu:A.units+1<jI)(I:Inv X pins σ H s)(g:JU H a y o)(ry:RelV y u)(h:∀s',Inv X pins σ H s'->Q (.bool (!o.isSome)) s'):
  aV (aS X.prog X.w) A (cR .NotIn u (.ref a)) Q E s:=by
 rcases g with⟨oJ,k,e,ey,l⟩|⟨oJ,k,b,e,ey,eb,l⟩
 ·subst ey
  obtain⟨z,hd,vs,rel,dd⟩:=SQ I.oY e
  refine wpAny_notIn_of (SO ry) hd dd.mapOf ?_
  rw[<-(rel.val k).Eo,<-l]
  exact h _ (I.tok _)
 ·subst ey
  cases(show u=Value.ref b from ry)
  obtain⟨z,hd,xs,rel,dd⟩:=SR I.oY e
  refine wpAny_notIn_heap (je hu) (LP I.oY eb) hd dd ?_
  have q:=(rel.val k).Eo
  rw[kl]at q
  rw[<-q,<-l]
  exact h _ (I.tok _)
theorem SS{h':bw}{t':Nat}{ob:HO}(I:Inv X pins σ H s)(mu:Mut (H a))(hs:Heap.SameBut a s.heap h')(he:∃q,h'.get? a=some q)(new:pQ X.prog X.w (upd H a ob) h' a ob):
  Inv X pins σ (upd H a ob) { s with heap:=h',toks:=t' }:=
 I.write (x:=a) (e:=a) mu (.inl rfl) (λ b q hb z=>(hs.2 b hb).trans z) he new
theorem abR{P:aJ}{w:aY}{H':Hp}{h':bw}{oJ:List (Key×V)}{vs:List (Key×ao)}(z:oJ.length<=ay)(hd:(a == eg)=false)(rel:KV oJ vs)(dd:h'.DictOf (q_ P w) a vs):
  pQ P w H' h' a (.dK oJ):=⟨z,hd,vs,rel,dd⟩
theorem Uv{H':Hp}{Q:Unit->au->Prop}(hu:A.units+1<jI)(I:Inv X pins σ H s)(g:WB H a y v H')(ry:RelV y u)(rv:RelV v r)(h:∀s',Inv X pins σ H' s'->Q () s'):
  aV (aS X.prog X.w) A (mf (.ref a) u r) Q E s:=by
 rcases g with⟨oJ,k,e,ey,l,eH⟩|⟨oJ,k,b,e,ey,eb,l,eH⟩
 ·subst ey eH
  obtain⟨z,hd,vs,rel,dd⟩:=ads I.oY e
  have hz:vs.length<=ay:=by rw[<-rel.length];exact z
  have hl:(putK oJ k v).length<=ay:=by have:=Fh oJ k v;omega
  refine wpAny_setItem_pairs (hsz:=hz) (SO ry) dd λ h' dd' hs=>h _ ?_
  have he:∃q,h'.get? a=some q:=let⟨q,_,_,hq,_⟩:=dd';⟨q,hq⟩
  exact SS I (by rw[e];exact True.intro) hs he (abR hl hd (rel.put k rv) dd')
 ·subst ey eH
  cases(show u=Value.ref b from ry)
  obtain⟨z,hd,xs,rel,dd⟩:=adt I.oY e
  have hz:xs.length<=ay:=by rw[<-Paired.length rel];exact z
  have hl:(putK oJ k v).length<=ay:=by have:=Fh oJ k v;omega
  refine wpAny_setItem_heap (hsz:=hz) (je hu) (LP I.oY eb) dd λ h' dd' hs=>h _ ?_
  obtain⟨q,es,ep,hq,h2,h3,h4,_,h5⟩:=dd'
  refine SS I (by rw[e];exact True.intro) hs ⟨q,hq⟩ ⟨hl,hd,_,(rel.put k eb rv).keeps λ c ys ec=>?_,q,es,ep,hq,h2,h3,h4,h5⟩
  rw[m5 (acT ec e (λ z=>nomatch z))]
  exact ec
end
section
variable{X:Cx}{pins:List (ag×Obj)}{σ:St}{H:Hp}{s:au}{a:ag}{oJ:List (Key×V)}{k:Key}{u:ao}{A:bU}{E:ao->au->Prop}
end
def adu(i:bJ):Prop:=∀ov iv,jH i false ov iv=operate [ov,iv] (jo ov iv)
theorem ZI{prog:aJ}{w:aY}{A:bU}{E:ao->au->Prop}{s:au}{env:Env}{value slice:bJ}{pos:Pos}{T id:String}{Q:ao->au->Prop}
  (hl:typeLookup (.type T) "__getitem__"=pure (some (.builtin id)))(hs:adu slice)
  (h:aV (aS prog w) A (cu value env) (λ o s₁=>aV (aS prog w) A (cu slice env) (λ i s₂=>s₂.TypeIs o T/\aV (aS prog w) A (jo o i) Q E s₂) E s₁) E s):
  aV (aS prog w) A (cu (.Subscript value slice pos) env) Q E s:=by
 refine lV (cQ h (λ o s₁ h₁=>cQ h₁ (λ i s₂ h₂=>?_) λ _ _ x=>x) λ _ _ x=>x)
 obtain⟨hT,h₂⟩:=h₂
 unfold ki
 refine aq ?_
 rw[getitemInPython_of_ne hT.not_modules]
 refine aq (wpAny_specialOf hT hl ?_)
 have fin:aV (aS prog w) A (jH slice false o i) (λ r s₃=>aV (aS prog w) A (letTemporaryGo value o r >>= λ _=>pure r) Q E s₃) E s₂:=by
  rw[hs o i]
  exact wpAny_operating (cQ h₂ (λ r s₃ h₃=>aq (wpAny_letTemporaryGo (aM h₃))) λ _ _ x=>x)
 first
  |exact aM (aq fin)
  |exact aq (aM (aq fin))
  |exact aq fin
theorem NL{X:Cx}{pins:List (ag×Obj)}{σ:St}{H:Hp}{s:au}{a:ag}{y:V}{o:Option V}(I:Inv X pins σ H s)(g:JU H a y o):s.TypeIs (.ref a) "dict":=by
 rcases g with⟨oJ,k,e,_,_⟩|⟨oJ,k,b,e,_,_,_⟩
 ·obtain⟨_,_,vs,_,dd⟩:=SQ I.oY e
  exact dd.typeIs
 ·obtain⟨_,_,xs,_,dd⟩:=SR I.oY e
  exact dd.typeIs
def adv(td ty:TE):TE:=λ σ H Q=>td σ H λ x H1=>ty σ H1 λ y H2=>∃a v,x= .ref a/\JU H2 a y (some v)/\Q v H2
def ZJ(ty td:TE):TE:=λ σ H Q=>ty σ H λ y H1=>td σ H1 λ x H2=>∃a o,x= .ref a/\JU H2 a y o/\Q (.bl (!o.isSome)) H2
def adw(td ty tv:TE):TS:=λ D σ H=>tv σ H λ v H1=>td σ H1 λ x H2=>ty σ H2 λ y H3=>∃a H4,x= .ref a/\WB H3 a y v H4/\D.nx σ H4
section
variable{X:Cx}{o i e value:bJ}{pos pos' Bh:Pos}{td ty tv:TE}
theorem SU(hu:X.A.units+1<jI)(ho:PE X o td)(hi:PE X i ty)(hs:adu i):PE X (.Subscript o i pos) (adv td ty):=by
 intro pins s σ H Q I h
 refine ZI PySem.F.slot_dict_getitem.lookup hs (pN (ho pins s σ H _ I h) λ u s1 ⟨x,H1,I1,rx,q1⟩=>pN (hi pins s1 σ H1 _ I1 q1) λ iv s2 ⟨y,H2,I2,ry,a,v,ex,g,q2⟩=>?_)
 subst ex
 obtain rfl:u=Value.ref a:=rx
 exact⟨NL I2 g,Uu hu I2 g ry λ w' s3 I3 wc=>⟨v,H2,I3,wc,q2⟩⟩
theorem Uw(hu:X.A.units+1<jI)(hi:PE X i ty)(ho:PE X o td):PC X .NotIn i o (ZJ ty td):=by
 intro pins s σ H Q I h
 refine pN (hi pins s σ H _ I h) λ iv s1 ⟨y,H1,I1,ry,q1⟩=>pN (ho pins s1 σ H1 _ I1 q1) λ u s2 ⟨x,H2,I2,rx,a,ov,ex,g,q2⟩=>?_
 subst ex
 obtain rfl:u=Value.ref a:=rx
 exact ZH hu I2 g ry λ s3 I3=>⟨.bl (!ov.isSome),H2,I3,rfl,q2⟩
theorem ZK(hu:X.A.units+1<jI)(ho:PE X o td)(hi:PE X i ty)(hv:PE X value tv)(hs:hX value (some (.Subscript o i pos')) pos.line X.env=pure false):
  PS X (.Assign [.Subscript o i pos'] value pos) (adw td ty tv):=by
 intro pins s σ H D I h
 refine wpAny_Assign_Subscript (pN (hv pins s σ H _ I h) λ r s1 ⟨v,H1,I1,rv,q1⟩=>pN (ho pins s1 σ H1 _ I1 q1) λ u s2 ⟨x,H2,I2,rx,q2⟩=>pN (hi pins s2 σ H2 _ I2 q2) λ iv s3 ⟨y,H3,I3,ry,a,H4,ex,g,q3⟩=>?_) hs
 subst ex
 obtain rfl:u=Value.ref a:=rx
 exact Uv hu I3 g ry rv λ s4 I4=>⟨σ,H4,I4,q3⟩
end
theorem WC{P:aJ}{w:aY}{H:Hp}(h:bw)(hb:eg<h.objs.size):pQ P w H (h.push { cls:=.type "dict",data:=.dict #[] }) h.objs.size (.dK []):=
 ⟨aE _,beq_eq_false_iff_ne.mpr (Ne.symm (bL hb)),[],.nil,Heap.DictOf.new h⟩
def abS:TE:=λ _ H Q=>∀p,H p=none->Q (.ref p) (upd H p (.dK []))
section
variable{X:Cx}{pos:Pos}
theorem WD:PE X (.Dict [] [] pos) abS:=λ pins s σ H Q I h=>
 wpAny_Dict_empty ⟨.ref s.heap.objs.size,_,I.laid (a:=s.heap.objs.size) (o:=.dK []) (t':=s.toks) (λ _ _ q=>Heap.get?_push_of_some _ q) (ax _) (WC s.heap I.big),rfl,h _ (I.oY.fresh (ax _))⟩
end
section
variable{X:Cx}{pins:List (ag×Obj)}{σ:St}{H:Hp}{s:au}{a:ag}{y d:V}{u r:ao}{o:Option V}{A:bU}{E:ao->au->Prop}
end
section
variable{X:Cx}{o e f:bJ}{apos xD:Pos}{td ty tx:TE}
end
section
variable{X:Cx}{pins:List (ag×Obj)}{σ:St}{H:Hp}{s:au}{a:ag}{oJ:List (Key×V)}{A:bU}{E:ao->au->Prop}
end
section
variable{X:Cx}{pins:List (ag×Obj)}{σ:St}{H:Hp}{s:au}{a:ag}{y:V}{u:ao}{A:bU}{E:ao->au->Prop}
end
end L2
namespace L2
open PySem PySem.Spec PyProof.Rows
section
variable{prog:aJ}{w:aY}{A:bU}{E:ao->au->Prop}
end
section
variable{X:Cx}
end
end L2
namespace L2
open PySem PySem.Spec PyProof.Rows
section
variable{X:Cx}{pins:List (ag×Obj)}{σ:St}{H:Hp}{s:au}{h':bw}
theorem Inv.SV{t':Nat}{ch:List ag}(I:Inv X pins σ H s)(k:∀b o,b∉ch->s.heap.get? b=some o->h'.get? b=some o)(hf:∀b∈ch,GF X pins H b):Inv X pins σ H { s with heap:=h',toks:=t' }:=by
 have nit:∀b u,H b=some u->b∉ch:=λ b u e z=>by
  have q:=(hf b z).1
  rw[q]at e;cases e
 refine I.step (g':=s.gens) (d':=s.drawn) (ch:=ch) (λ b hb=>⟨(hf b hb).2.2.2.1,(hf b hb).2.1,(hf b hb).2.2.2.2.1,(hf b hb).2.2.2.2.2⟩) (λ b o _ _ hc e _=>k b o hc e) (λ b o _ _ hc e _=>⟨o.slots,k b o hc e⟩)
  (λ _ _ _ _ n=>n) (λ b o hc e=>⟨o,k b o hc e⟩) (λ _ _ e=>e) (λ _ _ _ e=>e) (λ b ps e=>⟨#[],by rw[e];simp⟩) (λ m hm=>?_) (λ b u e=>?_) I.bare
 ·obtain⟨o,es,ep,ho,r⟩:=hm
  exact⟨o,es,ep,k _ o (λ z=>(hf _ z).2.1 rfl) ho,r⟩
 ·refine(I.oY b u e).Eh (λ c v hc q=>k c v ?_ q) (λ _ q=>q) λ _ _ q=>q
  rcases hc with z|z
  ·rw[z];exact nit b u e
  ·exact nit c _ z
theorem Inv.Ep{t':Nat}{ch:List ag}{T:ag}{ob:HO}(I:Inv X pins σ H s)(k:∀b o,b∉ch->s.heap.get? b=some o->h'.get? b=some o)(hf:∀b∈ch,GF X pins H b)(hT:s.heap.objs.size<=T)
  (new:pQ X.prog X.w (upd H T ob) h' T ob):Inv X pins σ (upd H T ob) { s with heap:=h',toks:=t' }:=by
 have hn:H T=none:=I.oY.fresh hT
 have nit:∀b u,H b=some u->b∉ch:=λ b u e z=>by
  have q:=(hf b z).1
  rw[q]at e;cases e
 refine I.step (g':=s.gens) (d':=s.drawn) (ch:=ch) (λ b hb=>⟨(hf b hb).2.2.2.1,(hf b hb).2.1,(hf b hb).2.2.2.2.1,(hf b hb).2.2.2.2.2⟩) (λ b o _ _ hc e _=>k b o hc e) (λ b o _ _ hc e _=>⟨o.slots,k b o hc e⟩)
  (λ b o _ e n=>?_) (λ b o hc e=>⟨o,k b o hc e⟩) (λ b xs e=>?_) (λ b o u e=>?_) (λ b ps e=>⟨#[],?_⟩) (λ m hm=>?_) (λ b u e=>?_) I.bare
 ·rw[m5 (bL (aU (Heap.lt_size e) hT))];exact n
 ·rw[m5 (nH e hn)];exact e
 ·rw[m5 (nH e hn)];exact e
 ·rw[m5 (nH e hn),e];simp
 ·obtain⟨o,es,ep,ho,r⟩:=hm
  exact⟨o,es,ep,k _ o (λ z=>(hf _ z).2.1 rfl) ho,r⟩
 ·by_cases hb:b=T
  ·subst hb
   rw[m4]at e
   cases e
   exact new
  ·rw[m5 hb]at e
   refine(I.oY b u e).Eh (λ c v hc q=>k c v ?_ q) (λ c q=>by rw[m5 (nH q hn)];exact q) λ c xs q=>by rw[m5 (nH q hn)];exact q
   rcases hc with z|z
   ·rw[z];exact nit b u e
   ·exact nit c _ z
end
section
variable{X:Cx}
theorem Qp{tg:bJ}{pins:List (ag×Obj)}{σ:St}{H:Hp}{s:au}{R:It->Hp->Prop}{J:It}{tn:Nat->bw->Prop}{tk:Nat}(I:Inv X pins σ H s)(o:Obj)
  (T:Turn X.prog X.w X.K tg J [s.heap.objs.size] s.heap.objs.size tn)(st:tn 0 (s.heap.push o))(q:R J H):PIE X pins σ tg R (.ref s.heap.objs.size) { s with heap:=s.heap.push o,toks:=tk }:=by
 refine⟨s.heap.objs.size,[s.heap.objs.size],tn,J,H,rfl,I.kept λ b ob e=>Heap.get?_push_of_some _ e,T,st,λ b hb=>?_,q⟩
 have e:b=s.heap.objs.size:=by simpa using hb
 subst e
 exact I.Qc (ax _) (I.oY.fresh (ax _))
end
def Itc(lo c:Int)(n:Nat):It:=⟨λ i _=>i<n,λ i H x H'=>H'=H/\x= .int (lo+(i:Nat)*c),λ i _=>n<=i⟩
theorem NM{P:aJ}{w:aY}{K:ah}{tg:bJ}(it:ag)(lo c:Int)(n:Nat):Turn P w K tg (Itc lo c n) [it] it (λ i h=>jK h it (lo+(i:Nat)*c) ((n:Int)-(i:Nat)) c) where
 mem:=by simp
 obj:=λ i h st b hb=>by
  have e:b=it:=by simpa using hb
  subst e
  exact⟨_,st,λ v z=>nomatch z⟩
 keep:=λ i h h' st k=>k it (by simp) _ st
 item:=by
  intro X hP hw hK hc i pins s σ H E I hf st hg
  subst hP hw hK
  obtain⟨f0,f1,f2,f3,f4,f5⟩:=hf it (by simp)
  have W:=Walks.range (prog:=X.prog) (w:=X.w) (I.ok.hd hc) it lo c n
  refine W.item i s _ _ hg st λ v h' tk hv Ec kk=>?_
  obtain⟨t,rfl⟩:=hv
  have I1:Inv X pins σ H { s with heap:=h',toks:=tk }:=I.turned (λ b o hb e=>kk b o (by simpa using hb) e) f0 f1 f3 f4 f5
  exact⟨_,rfl,Sx (s:={ s with heap:=h',toks:=tk }) (n:="range_iterator") Ec rfl rfl (by decide) ⟨.int (lo+(i:Nat)*c),H,I1,⟨t,rfl⟩,⟨rfl,rfl⟩,Ec,λ b hb=>(hf b hb).1⟩⟩
 done:=by
  intro X hP hw hK hc i pins s σ H E I hf st hg
  subst hP hw hK
  obtain⟨f0,f1,f2,f3,f4,f5⟩:=hf it (by simp)
  exact kM (I.ok.hd hc) st (by have:n<=i:=hg;omega) λ h' eb=>⟨rfl,I.turned (t':=s.toks) (λ b o hb e=>eb b o hb e) f0 f1 f3 f4 f5⟩
 self:=λ A i s Q E st h=>kN st h
def RgC(i j c:Int)(n:Nat):Prop:=c≠0/\c.natAbs<1073741824/\Builtin.Range.small i j c=true/\Builtin.Range.rangeSize i j c=n
theorem RgC.neg{i j:Int}(ha: -(2 ^ 62)<=i)(SW:i<2 ^ 62)(hb: -(2 ^ 62)<=j)(hb':j<2 ^ 62):RgC i j (-1) (i-j).toNat:=
 ⟨by decide,by decide,PySem.W.small_down ha SW hb hb',PySem.W.rangeSize_downNat i j⟩
def adx(ta:TA):TI:=λ σ H R=>ta σ H λ vs H1=>∃(i j c:Int) (n:Nat),vs=[.int i,.int j,.int c]/\RgC i j c n/\R (Itc i c n) H1
section
variable{X:Cx}{tg:bJ}
theorem Ux{a b c:bJ}{ta:TA}{p pos:Pos}(hg:Gl X "range")(hm:X.mg "range"=none)(ha:PA X [a,b,c] ta)
  (hs:aN [a,b,c] X.env=(false,cu a X.env)::aN [b,c] X.env:=by rfl)(vo:(c7 pos (aN [b,c] X.env)).any (·.1)=false:=by rfl):
  PI X tg (.Call (.Name "range" p) [a,b,c] [] pos) (adx ta):=by
 intro pins s σ H R I h
 refine ly (vh I hg hm j0 (bS (pN (ha pos pins s σ H _ I h) λ us s1 ⟨vs,H1,I1,r1,q1⟩=>?_) hs vo))
 obtain⟨i,j,k,n,e,⟨c0,c1,c2,c3⟩,q⟩:=q1
 subst e
 cases r1 with
 |cons r rr=>
  cases rr with
  |cons r' rr=>
   cases rr with
   |cons r'' rr=>
    cases rr
    obtain⟨t,rfl⟩:=r
    obtain⟨t',rfl⟩:=r'
    obtain⟨t'',rfl⟩:=r''
    refine call_range_3 c0 ?_ (.inl (PyProof.noPylong_small c1))
    refine lP (IsRange.new ..) c2 ?_
    have I2:Inv X pins σ H1 { s1 with heap:=s1.heap.push { cls:=.type "range",data:=.fields #[.int i t,.int j t',.int k t''] } }:=I1.kept (t':=s1.toks) λ b o e=>Heap.get?_push_of_some _ e
    refine Qp (tk:=s1.toks) I2 _ (NM _ i k n) ?_ q
    have e1:i+((0:Nat):Int)*k=i:=by simp
    have e2:(n:Int)-((0:Nat):Int)=Builtin.Range.rangeSize i j k:=by rw[c3];simp
    show jK _ _ (i+((0:Nat):Int)*k) ((n:Int)-((0:Nat):Int)) k
    rw[e1,e2]
    exact Heap.get?_push_size _ rfl
end
theorem Qq{lo c:Int}{n:Nat}{g:TG}{tb:TS}{D:Ends}{σ:St}{H:Hp}(Pv:Nat->St->Hp->Prop)(h0:Pv 0 σ H)
  (hs:∀i σ H,i<n->Pv i σ H->g (.int (lo+(i:Nat)*c)) σ H λ σ2 H2=>tb { D with nx:=Pv (i+1),ct:=Pv (i+1),bk:=D.nx } σ2 H2)(hd:∀σ H,Pv n σ H->D.nx σ H):
  ∃W:Nat->Nat->St->Hp->Prop,(∃m,W 0 m σ H)/\∀i m σ H,W i m σ H->
   ((Itc lo c n).stop i H/\D.nx σ H)\/((Itc lo c n).go i H/\∃N:St->Hp->Prop,(∀σ' H',N σ' H'->∃m',m'<m/\W (i+1) m' σ' H')/\∀x H',(Itc lo c n).Ha i H x H'->g x σ H' λ σ2 H2=>tb { D with nx:=N,ct:=N,bk:=D.nx } σ2 H2):=by
 refine⟨λ i m σ H=>m=n-i/\i<=n/\Pv i σ H,⟨n,by simp,aE _,h0⟩,?_⟩
 rintro i m σ H ⟨rfl,hi,p⟩
 by_cases rO:i<n
 ·refine .inr ⟨rO,Pv (i+1),λ σ' H' p'=>⟨n-(i+1),by omega,rfl,rO,p'⟩,λ x H' y=>?_⟩
  obtain⟨e,y⟩:=y
  subst e y
  exact hs i σ _ rO p
 ·have e:i=n:=by omega
  subst e
  exact .inl ⟨ax _,hd σ H p⟩
section
variable{X:Cx}{tg:bJ}
end
def Its(x:Str):It:=⟨λ i _=>i<x.cps.size,λ i H v H'=>H'=H/\∃c,x.cps[i]? =some c/\v= .str ⟨#[c]⟩,λ i _=>x.cps.size<=i⟩
theorem NN{P:aJ}{w:aY}{K:ah}{tg:bJ}(it:ag)(x:Str)(t:Tok)(ty:String)(hty:ty="str_ascii_iterator"\/ty="str_iterator"):
  Turn P w K tg (Its x) [it] it (λ i h=>h.IsStrIter it ty x t i) where
 mem:=by simp
 obj:=λ i h st b hb=>by
  have e:b=it:=by simpa using hb
  subst e
  obtain⟨o,e,c,d⟩:=st
  exact⟨o,e,λ v z=>by rw[d]at z;cases z⟩
 keep:=λ i h h' st k=>let⟨o,ho,r⟩:=st;⟨o,k it (by simp) o ho,r⟩
 item:=by
  intro X hP hw hK hc i pins s σ H E I hf st hg
  subst hP hw hK
  obtain⟨f0,f1,f2,f3,f4,f5⟩:=hf it (by simp)
  have W:Walks X.prog X.w X.A it [it] [it] x.cps.size (SignAt x) (λ i h=>h.IsStrIter it ty x t i):=by
   rcases hty with e|e
   ·rw[e];exact Walks.strAscii (I.ok.hd hc) it x t
   ·rw[e];exact Walks.strWide (I.ok.hd hc) it x t
  have hno:["enumerate","zip","dict_itemiterator","dict_reverseitemiterator","odict_iterator","itertools.zip_longest","itertools.pairwise"].contains ty=false:=by
   rcases hty with e|e
   ·rw[e];decide
   ·rw[e];decide
  refine W.item i s _ _ hg st λ v h' tk hv Ec kk=>?_
  obtain⟨c,u,hcx,rfl⟩:=hv
  have I1:Inv X pins σ H { s with heap:=h',toks:=tk }:=I.turned (λ b o hb e=>kk b o (by simpa using hb) e) f0 f1 f3 f4 f5
  obtain⟨oi,e,cc,dd⟩:=id Ec
  exact⟨_,rfl,Sx (s:={ s with heap:=h',toks:=tk }) e cc dd hno ⟨.str ⟨#[c]⟩,H,I1,⟨u,rfl⟩,⟨rfl,c,hcx,rfl⟩,Ec,λ b hb=>(hf b hb).1⟩⟩
 done:=by
  intro X hP hw hK hc i pins s σ H E I hf st hg
  subst hP hw hK
  obtain⟨f0,f1,f2,f3,f4,f5⟩:=hf it (by simp)
  have hx:x.cps[i]? =none:=Array.getElem?_eq_none hg
  rcases hty with e|e
  ·rw[e]at st
   exact wpAny_pyNext_ascii_end (I.ok.hd hc) st hx λ h' eb=>⟨rfl,I.turned (t':=s.toks) (λ b o hb e=>eb b o hb e) f0 f1 f3 f4 f5⟩
  ·rw[e]at st
   exact wpAny_pyNext_wide_end (I.ok.hd hc) st hx λ h' eb=>⟨rfl,I.turned (t':=s.toks) (λ b o hb e=>eb b o hb e) f0 f1 f3 f4 f5⟩
 self:=λ A i s Q E st h=>by
  rcases hty with e|e
  ·rw[e]at st;exact wpAny_pyIter_striter_ascii st h
  ·rw[e]at st;exact wpAny_pyIter_striter_wide st h
def aeH(te:TE):TI:=λ σ H R=>te σ H λ v H1=>∃x,v= .str x/\R (Its x) H1
theorem abT{X:Cx}{tg e:bJ}{te:TE}(he:PE X e te):PI X tg e (aeH te):=by
 intro pins s σ H R I h
 refine pN (he pins s σ H _ I h) λ v s1 ⟨y,H1,I1,r1,x,ex,q⟩=>?_
 subst ex
 obtain⟨t,rfl⟩:=r1
 cases ha:x.cps.all (· <128)
 ·exact wpAny_pyIter_wide ha (Qp (tk:=s1.toks) I1 _ (NN _ x t "str_iterator" (.inr rfl)) ⟨_,Heap.get?_push_size _ rfl,rfl,rfl⟩ q)
 ·exact wpAny_pyIter_ascii ha (Qp (tk:=s1.toks) I1 _ (NN _ x t "str_ascii_iterator" (.inl rfl)) ⟨_,Heap.get?_push_size _ rfl,rfl,rfl⟩ q)
section
variable{prog:aJ}{w:aY}{A:bU}{E:ao->au->Prop}{s:au}
end
section
variable{X:Cx}{pins:List (ag×Obj)}{σ:St}{H:Hp}{s:au}{d:ag}{o:Obj}
end
section
variable{P:aJ}{w:aY}{K:ah}{tg:bJ}{d:ag}{o:Obj}{es:Array my}{ep:Nat}
end
section
variable{X:Cx}{tg e:bJ}{td:TE}{apos xD:Pos}
end
def Ite(K:ah)(a:ag):It:=
 ⟨λ i H=>∃(xs:List V) (x:V),nF K H a xs/\xs[i]? =some x,λ i H v H'=>∃T x,v= .ref T/\H T=none/\H'=upd H T (.tup [.int (i:Nat),x])/\∀xs,nF K H a xs->xs[i]? =some x,λ i H=>∃xs:List V,nF K H a xs/\xs.length<=i⟩
theorem Uy{P:aJ}{w:aY}{K:ah}{elts:List bJ}{kk:Nat}{Bh:Pos}(a e it:ag):
  Turn P w K (.Tuple elts kk Bh) (Ite K a) [e,it] e (λ i h=>(∃old,IsEnum h e it ((i:Nat):Int) old)/\h.IsListIter it a i/\e≠it) where
 mem:=by simp
 obj:=λ i h st b hb=>by
  obtain⟨⟨old,he⟩,⟨o,ho,hc,hd⟩,_⟩:=st
  have e':b=e\/b=it:=by simpa using hb
  rcases e' with z|z
  ·rw[z];exact⟨_,he,λ v q=>nomatch q⟩
  ·rw[z];exact⟨o,ho,λ v q=>by rw[hd]at q;cases q⟩
 keep:=λ i h h' st k=>let⟨⟨old,he⟩,hi,xE⟩:=st;⟨⟨old,k e (by simp) _ he⟩,hi.at λ o q=>k it (by simp) o q,xE⟩
 item:=by
  intro X hP hw hK hc i pins s σ H E I hf st hg
  subst hP hw hK
  obtain⟨⟨old,he⟩,hit,xE⟩:=st
  obtain⟨xs,x,hq,hx⟩:=hg
  obtain⟨oo,rv,p,hz⟩:=I.list hq
  obtain⟨u,hu,ru⟩:=rv.get hx
  have hel:e<s.heap.objs.size:=Heap.lt_size he
  have WE:it<s.heap.objs.size:=by obtain⟨_,q,_⟩:=hit;exact Heap.lt_size q
  refine wpAny_pyNext_enum_item he hit p.isList (x:=u) (by simpa using hu) xE λ h' ho aeI hT hsz hk=>?_
  refine⟨_,rfl,wpAny_letOwnedTupleGo_enum (s:={ s with heap:=h',toks:=s.toks+1 }) ho λ Wb he' sb=>?_⟩
  have LQ:Wb.get? s.heap.objs.size=some { cls:=.type "tuple",data:=.seq #[.int i s.toks,u] }:=(sb.2 _ (fZ hel)).trans hT
  have new:pQ X.prog X.w (upd H s.heap.objs.size (.tup [.int (i:Nat),x])) Wb s.heap.objs.size (.tup [.int (i:Nat),x]):=
   ⟨by show 2<=ay;decide,[.int i s.toks,u],.cons ⟨_,rfl⟩ (.cons ru .nil),⟨_,LQ,rfl,_,rfl⟩⟩
  have I1:Inv X pins σ (upd H s.heap.objs.size (.tup [.int (i:Nat),x])) { s with heap:=Wb,toks:=s.toks+1 }:=
   I.Ep (ch:=[e,it]) (λ b ob hb q=>(sb.2 b (λ z=>hb (by simp[z]))).trans (hk b ob (λ z=>hb (by simp[z])) (λ z=>hb (by simp[z])) q)) hf (ax _) new
  refine⟨.ref s.heap.objs.size,_,I1,rfl,⟨_,x,rfl,I.oY.fresh (ax _),rfl,λ ys hy=>by rw[I.vj hy hq];exact hx⟩,⟨⟨u,?_⟩,aeI.at λ o q=>(sb.2 it (Ne.symm xE)).trans q,xE⟩,λ b hb=>?_⟩
  ·have e1:((i+1:Nat):Int)=(i:Int)+1:=by omega
   rw[e1];exact he'
  ·have hb':b<s.heap.objs.size:=by
    have e':b=e\/b=it:=by simpa using hb
    rcases e' with z|z
    ·rw[z];exact hel
    ·rw[z];exact WE
   rw[m5 (bL hb')]
   exact(hf b hb).1
 done:=by
  intro X hP hw hK hc i pins s σ H E I hf st hg
  subst hP hw hK
  obtain⟨⟨old,he⟩,hit,xE⟩:=st
  obtain⟨xs,hq,hx⟩:=hg
  obtain⟨oo,rv,p,hz⟩:=I.list hq
  obtain⟨f0,f1,f2,f3,f4,f5⟩:=hf it (by simp)
  have hl:=rv.length
  exact wpAny_pyNext_enum_end (I.ok.hd hc) he hit p.isList (by simp;omega) λ h' eb=>⟨rfl,I.turned (t':=s.toks) (λ b o hb q=>eb b o hb q) f0 f1 f3 f4 f5⟩
 self:=λ A i s Q E st h=>let⟨⟨_,he⟩,_⟩:=st;md he h
def ady(K:ah)(ta:TA):TI:=λ σ H R=>ta σ H λ vs H1=>∃a xs,vs=[.ref a]/\nF K H1 a xs/\R (Ite K a) H1
theorem C6{X:Cx}{e:bJ}{ta:TA}{p pos Bh:Pos}{elts:List bJ}{kk:Nat}(hg:Gl X "enumerate")(hm:X.mg "enumerate"=none)(ha:PA X [e] ta)(hs:aN [e] X.env=[(false,cu e X.env)]:=by rfl):
  PI X (.Tuple elts kk Bh) (.Call (.Name "enumerate" p) [e] [] pos) (ady X.K ta):=by
 intro pins s σ H R I h
 refine ly (vh I hg hm boot_enumerate (bS (pN (ha pos pins s σ H _ I h) λ us s1 ⟨vs,H1,I1,r1,q1⟩=>?_) hs rfl))
 obtain⟨a,xs,ex,hq,q⟩:=q1
 subst ex
 cases r1 with
 |cons r rr=>
  cases rr
  cases r
  obtain⟨oo,rv,p',hz⟩:=I1.list hq
  refine call_enumerate_list p'.isList λ h' he hit hsz hk=>md he ?_
  have I2:Inv X pins σ H1 { s1 with heap:=h' }:=I1.kept (t':=s1.toks) hk
  refine⟨s1.heap.objs.size+1,[s1.heap.objs.size+1,s1.heap.objs.size],_,_,H1,rfl,I2,Uy a (s1.heap.objs.size+1) s1.heap.objs.size,⟨⟨.none,he⟩,hit,Nat.succ_ne_self _⟩,λ b hb=>?_,q⟩
  have e':b=s1.heap.objs.size+1\/b=s1.heap.objs.size:=by simpa using hb
  have hle:s1.heap.objs.size<=b:=by
   rcases e' with z|z
   ·rw[z];exact cB _ _
   ·rw[z];exact ax _
  exact I1.Qc hle (I1.oY.fresh hle)
theorem Kq:fE "zip"=some (.type "zip"):=by decide +kernel
def Itz(K:ah)(a b:ag):It:=
 ⟨λ i H=>∃(xs ys:List V) (x y:V),nF K H a xs/\nF K H b ys/\xs[i]? =some x/\ys[i]? =some y,
  λ i H v H'=>∃T x y,v= .ref T/\H T=none/\H'=upd H T (.tup [x,y])/\(∀xs,nF K H a xs->xs[i]? =some x)/\∀ys,nF K H b ys->ys[i]? =some y,
  λ i H=>∃xs ys:List V,nF K H a xs/\nF K H b ys/\(xs.length<=i\/ys.length<=i)⟩
theorem WG{P:aJ}{w:aY}{K:ah}{elts:List bJ}{kk:Nat}{Bh:Pos}{a b z TI TO i1 i2:ag}(D:ZipApart z TI TO i1 i2 a b):
  Turn P w K (.Tuple elts kk Bh) (Itz K a b) [z,TI,TO,i1,i2] z (λ i h=>gN h z TI TO .none/\IsPair h TI (.ref i1) (.ref i2)/\(∃x y,IsPair h TO x y)/\h.IsListIter i1 a i/\h.IsListIter i2 b i) where
 mem:=by simp
 obj:=λ i h st c hc=>by
  obtain⟨hz,WH,⟨x,y,Y8⟩,⟨o1,e1,_,d1⟩,⟨o2,e2,_,d2⟩⟩:=st
  have e':c=z\/c=TI\/c=TO\/c=i1\/c=i2:=by simpa using hc
  rcases e' with q|q|q|q|q
  ·rw[q];exact⟨_,hz,λ v q=>nomatch q⟩
  ·rw[q];exact⟨_,WH,λ v q=>nomatch q⟩
  ·rw[q];exact⟨_,Y8,λ v q=>nomatch q⟩
  ·rw[q];exact⟨o1,e1,λ v q=>by rw[d1]at q;cases q⟩
  ·rw[q];exact⟨o2,e2,λ v q=>by rw[d2]at q;cases q⟩
 keep:=λ i h h' st k=>by
  obtain⟨hz,WH,⟨x,y,Y8⟩,h1,h2⟩:=st
  exact⟨k z (by simp) _ hz,k TI (by simp) _ WH,⟨x,y,k TO (by simp) _ Y8⟩,h1.at λ o q=>k i1 (by simp) o q,h2.at λ o q=>k i2 (by simp) o q⟩
 item:=by
  intro X hP hw hK hc i pins s σ H E I hf st hg
  subst hP hw hK
  obtain⟨hz,WH,⟨x0,y0,Y8⟩,h1,h2⟩:=st
  obtain⟨xs,ys,x,y,hqx,hqy,hx,hy⟩:=hg
  obtain⟨oo,rv,p,_⟩:=I.list hqx
  obtain⟨Ek,rv2,p2,_⟩:=I.list hqy
  obtain⟨u,hu,ru⟩:=rv.get hx
  obtain⟨u2,hu2,ru2⟩:=rv2.get hy
  have hzl:z<s.heap.objs.size:=Heap.lt_size hz
  refine wpAny_pyNext_zip_item D hz WH Y8 h1 h2 p.isList p2.isList (x:=u) (y:=u2) (by simpa using hu) (by simpa using hu2) λ h' z' TO' h1' h2' hT hsz hk=>?_
  refine⟨_,rfl,j6 (s:={ s with heap:=h' }) z' λ Wb z'' sb=>?_⟩
  have LQ:Wb.get? s.heap.objs.size=some { cls:=.type "tuple",data:=.seq #[u,u2] }:=(sb.2 _ (fZ hzl)).trans hT
  have new:pQ X.prog X.w (upd H s.heap.objs.size (.tup [x,y])) Wb s.heap.objs.size (.tup [x,y]):=
   ⟨by show 2<=ay;decide,[u,u2],.cons ru (.cons ru2 .nil),⟨_,LQ,rfl,_,rfl⟩⟩
  have I1:Inv X pins σ (upd H s.heap.objs.size (.tup [x,y])) { s with heap:=Wb }:=
   I.Ep (t':=s.toks) (ch:=[z,TI,TO,i1,i2]) (λ c o hb q=>(sb.2 c (λ q'=>hb (by simp[q']))).trans (hk c o (λ q'=>hb (by simp[q'])) (λ q'=>hb (by simp[q'])) (λ q'=>hb (by simp[q'])) (λ q'=>hb (by simp[q'])) q)) hf (ax _) new
  refine⟨.ref s.heap.objs.size,_,I1,rfl,⟨_,x,y,rfl,I.oY.fresh (ax _),rfl,λ l hl=>by rw[I.vj hl hqx];exact hx,λ l hl=>by rw[I.vj hl hqy];exact hy⟩,⟨z'',?_,⟨u,u2,?_⟩,?_,?_⟩,λ c ZL=>?_⟩
  ·exact(sb.2 _ D.TIz).trans (hk _ _ D.TIz D.TITO D.TIi1 D.TIi2 WH)
  ·exact(sb.2 _ D.TOz).trans TO'
  ·exact h1'.at λ o q=>(sb.2 _ D.i1z).trans q
  ·exact h2'.at λ o q=>(sb.2 _ D.i2z).trans q
  ·have rO:c<s.heap.objs.size:=by
    have e':c=z\/c=TI\/c=TO\/c=i1\/c=i2:=by simpa using ZL
    rcases e' with q|q|q|q|q
    ·rw[q];exact hzl
    ·rw[q];exact Heap.lt_size WH
    ·rw[q];exact Heap.lt_size Y8
    ·rw[q];obtain⟨_,e1,_⟩:=h1;exact Heap.lt_size e1
    ·rw[q];obtain⟨_,e2,_⟩:=h2;exact Heap.lt_size e2
   rw[m5 (bL rO)]
   exact(hf c ZL).1
 done:=by
  intro X hP hw hK hc i pins s σ H E I hf st hg
  subst hP hw hK
  obtain⟨hz,WH,⟨x0,y0,Y8⟩,h1,h2⟩:=st
  obtain⟨xs,ys,hqx,hqy,adz⟩:=hg
  obtain⟨oo,rv,p,_⟩:=I.list hqx
  obtain⟨Ek,rv2,p2,_⟩:=I.list hqy
  have l1:=rv.length
  have l2:=rv2.length
  have he:oo.toArray[i]? =none\/Ek.toArray[i]? =none:=by
   rcases adz with q|q
   ·exact .inl (by simp;omega)
   ·exact .inr (by simp;omega)
  exact wpAny_pyNext_zip_end (I.ok.hd hc) D hz WH Y8 h1 h2 p.isList p2.isList he λ h' hk=>⟨rfl,I.SV (t':=s.toks) (ch:=[z,TI,TO,i1,i2]) (λ c o hb q=>
   hk c o (λ q'=>hb (by simp[q'])) (λ q'=>hb (by simp[q'])) (λ q'=>hb (by simp[q'])) (λ q'=>hb (by simp[q'])) q) hf⟩
 self:=λ A i s Q E st h=>hU st.1 h
def aeJ(K:ah)(ta:TA):TI:=λ σ H R=>ta σ H λ vs H1=>∃a b xs ys,vs=[.ref a,.ref b]/\nF K H1 a xs/\nF K H1 b ys/\R (Itz K a b) H1
theorem Er{X:Cx}{e e2:bJ}{ta:TA}{p pos Bh:Pos}{elts:List bJ}{kk:Nat}(hg:Gl X "zip")(hm:X.mg "zip"=none)(ha:PA X [e,e2] ta)
  (hs:aN [e,e2] X.env=(false,cu e X.env)::aN [e2] X.env:=by rfl)(vo:(c7 pos (aN [e2] X.env)).any (·.1)=false:=by rfl):
  PI X (.Tuple elts kk Bh) (.Call (.Name "zip" p) [e,e2] [] pos) (aeJ X.K ta):=by
 intro pins s σ H R I h
 refine ly (vh I hg hm Kq (bS (pN (ha pos pins s σ H _ I h) λ us s1 ⟨vs,H1,I1,r1,q1⟩=>?_) hs vo))
 obtain⟨a,b,xs,ys,ex,hqx,hqy,q⟩:=q1
 subst ex
 cases r1 with
 |cons r rr=>
  cases rr with
  |cons r' rr=>
   cases rr
   cases r
   cases r'
   obtain⟨oo,rv,p1,_⟩:=I1.list hqx
   obtain⟨Ek,rv2,p2,_⟩:=I1.list hqy
   have la:a<s1.heap.objs.size:=p1.lt
   have lb:b<s1.heap.objs.size:=p2.lt
   refine call_zip_2 p1.isList p2.isList λ h' hz WH Y8 h1 h2 hsz hk=>hU hz ?_
   have I2:Inv X pins σ H1 { s1 with heap:=h' }:=I1.kept (t':=s1.toks) hk
   refine⟨s1.heap.objs.size+4,[s1.heap.objs.size+4,s1.heap.objs.size+2,s1.heap.objs.size+3,s1.heap.objs.size,s1.heap.objs.size+1],_,_,H1,rfl,I2,WG (PySem.W.ktu_apart s1.heap.objs.size a b la lb),⟨hz,WH,⟨_,_,Y8⟩,h1,h2⟩,λ c ZL=>?_,q⟩
   have e':c=s1.heap.objs.size+4\/c=s1.heap.objs.size+2\/c=s1.heap.objs.size+3\/c=s1.heap.objs.size\/c=s1.heap.objs.size+1:=by simpa using ZL
   have hle:s1.heap.objs.size<=c:=by
    rcases e' with z|z|z|z|z
    ·rw[z];exact cB _ _
    ·rw[z];exact cB _ _
    ·rw[z];exact cB _ _
    ·rw[z];exact ax _
    ·rw[z];exact cB _ _
   exact I1.Qc hle (I1.oY.fresh hle)
end L2
namespace aeK
open PySem PyProof.Rows
end aeK
namespace TL
open PySem PySem.Builtin PySem.Builtin.Str PySem.StrLaws
abbrev tl(x:Str):List Nat:=x.cps.toList
theorem abU(x:Str):x.length=(tl x).length:=by simp[tl,Str.length]
theorem Qr{x y:Str}(h:tl x=tl y):x=y:=Str.ext' (Array.toList_inj.mp h)
theorem Kr(x y:Str):tl (x++y)=tl x++tl y:=by
 show(x++y).cps.toList=_
 rw[Str.cps_append,Array.toList_append]
def pre(S l:List Nat):Bool:=l.take S.length == S
def spl(S:List Nat):Nat->List Nat->List Nat->List (List Nat)
 |_,acc,[]=>[acc]
 |0,acc,c::r=>if pre S (c::r)=true then acc::spl S (S.length-1) [] r else spl S 0 (acc++[c]) r
 |k+1,acc,_::r=>spl S k acc r
def par(S:List Nat):List Nat->List Nat->Option (List Nat×List Nat)
 |_,[]=>none
 |acc,c::r=>if pre S (c::r)=true then some (acc,(c::r).drop S.length)else par S (acc++[c]) r
theorem adA{y:Str}(hy:tl y≠[]):1<=y.length:=by
 have e2:0<(tl y).length:=List.length_pos_iff.mpr hy
 rw[abU y]
 exact e2
def Fi(S:List Nat):List (List Nat)->List Nat
 |[]=>[]
 |[p]=>p
 |p::q::r=>p++(S++Fi S (q::r))
theorem GU(y:Str):∀parts:List Str,tl (Str.join y parts)=Fi (tl y) (parts.map tl)
 |[]=>rfl
 |[_]=>rfl
 |x::z::r=>by
  show tl (x++y++Str.join y (z::r))=tl x++(tl y++Fi (tl y) ((z::r).map tl))
  rw[Kr,Kr,GU y (z::r),bB]
theorem join_eq(y:Str)(parts:List Str):Txt.join y parts=Str.join y parts:=glued_eq_join y parts
end TL
namespace L2
open PySem PySem.Spec PyProof.Rows
theorem xU:∀{ys:List Str} {us:List ao},Vals (ys.map V.str) us->StrsAre us ys
 |[],_,.nil=>.nil
 |y::ys,_,.cons r t=>by
  obtain⟨k,rfl⟩:=r
  exact .cons y k (xU t)
section
variable{X:Cx}{pins:List (ag×Obj)}{σ:St}{H:Hp}{s:au}{Q:VK}
end
section
variable{X:Cx}
theorem ZM:MtR X "str.join" (λ x xs H Q=>∃a p,∃ys:List Str,x= .str a/\xs=[.ref p]/\(nF X.K H p (ys.map V.str)\/Bj X.K H p (ys.map V.str))/\
  (ys.map (·.length)).sum+ys.length*a.length<=16777216/\Q (.str (Txt.join a ys)) H):=by
 intro pins s σ H x xs v us Q I rx rs h
 obtain⟨a,p,ys,rfl,rfl,hp,hz,h⟩:=h
 obtain⟨t,rfl⟩:=rx
 cases rs with
 |cons r1 rs=>
  cases rs
  cases r1
  rcases hp with hp|hp
  ·obtain⟨oo,r,⟨o,n,ho,hc,_,hd⟩,_⟩:=I.list hp
   exact mH (items:=oo.toArray) ⟨o,ho,hc,n,hd⟩ (by rw[ko];exact xU r) hz λ t' k=>⟨.str _,H,I.tok k,⟨t',rfl⟩,h⟩
  ·obtain⟨oo,r,ht,_⟩:=I.tuple hp
   exact mG (items:=oo.toArray) ht (by rw[ko];exact xU r) hz λ t' k=>⟨.str _,H,I.tok k,⟨t',rfl⟩,h⟩
end
section
variable{X:Cx}{o e:bJ}{to te:TE}
def tM1(r:V->List V->Hp->VK->Prop)(to te:TE):TE:=λ σ H Q=>to σ H λ x H1=>(∃a,x= .str a)/\te σ H1 λ y H2=>r x [y] H2 Q
theorem adB{id:String}{name:Str}{apos pos:Pos}{r:V->List V->Hp->VK->Prop}(slot:Slot "str" name id)(ty:lR (.builtin id)=pure (.type "method_descriptor"))(lr:MtR X id r)(ho:PE X o to)(he:PE X e te)
  (hs:aN [e] X.env=[(false,cu e X.env)]:=by rfl)(Hj:dN o name X.env (cu o X.env)=cu o X.env:=by rfl)(Hk:(apos.endLine == pos.line)=true:=by rfl):
  PE X (.Call (.Attribute o name apos) [e] [] pos) (tM1 r to te):=by
 intro pins s σ H Q I h
 refine PySem.Call_method1 Hj hs Hk (pN (ho pins s σ H _ I h) λ v s1 ⟨x,H1,I1,r1,q1⟩=>?_)
 obtain⟨⟨a,rfl⟩,q1⟩:=q1
 obtain⟨t,rfl⟩:=_root_.id r1
 refine⟨"str",_,F.plainAttrs_str,slot,ty,lS _ _ _,(λ _ e=>nomatch e),Calls.callWith_builtin rfl (Calls.evalArgs_plain (Calls.spliced_cons ?_))⟩
 exact pN (he pins s1 σ H1 _ I1 q1) λ u s2 ⟨y,H2,I2,r2,q2⟩=>Calls.spliced_nil (lr pins s2 σ H2 _ [y] _ [u] Q I2 r1 (.cons r2 .nil) q2)
theorem LR{apos pos:Pos}(ho:PE X o to)(he:PE X e te)(hs:aN [e] X.env=[(false,cu e X.env)]:=by rfl)(Hj:dN o "join" X.env (cu o X.env)=cu o X.env:=by rfl)(Hk:(apos.endLine == pos.line)=true:=by rfl):
  PE X (.Call (.Attribute o "join" apos) [e] [] pos) (tM1 (λ x xs H Q=>∃a p,∃ys:List Str,x= .str a/\xs=[.ref p]/\(nF X.K H p (ys.map V.str)\/Bj X.K H p (ys.map V.str))/\
   (ys.map (·.length)).sum+ys.length*a.length<=16777216/\Q (.str (Txt.join a ys)) H) to te):=
 adB F.slot_str_join F.type_str_join ZM ho he hs Hj Hk
end
end L2
namespace L2
open PySem PySem.Spec PyProof.Rows
section
variable{X:Cx}
end
end L2
namespace Att
open PySem PySem.W PySem.Calls PyProof.Rows
theorem GG{P:gR}{h:bw}:∀(ns:List Int) (vs:List ao),WellAll P h vs (ns.map WData.int)->iR vs ns:=by
 intro ns
 induction ns with
 |nil=>
  intro vs w
  rw[eW]at w
  cases w
  exact .nil
 |cons n ns ih=>
  intro vs w
  rw[aG]at w
  cases w with
  |cons a b=>
   cases a
   exact .cons _ _ (ih _ b)
theorem Uz{l:OpenLaw}{n:Nat}(hn:l.most=some n){P:gR}{h:bw}{args:List WData}{vals:List ao}
  (UA:l.row.toRowW.claim.pre args=true)(GV:WellAll P h vals args):
  ∃a vs ns,vals=[Value.ref a]/\args=[WData.list (ns.map WData.int)]/\h.get? a=some { cls:=.type "list",data:=.seq vs.toArray }/\iR vs ns/\ns.length<=n:=by
 have hsh:WShape.hasAll [] args [.list .int]=true:=(pre_splitW UA).1
 have hc:l.pre.holds [] { args:=args }=true:=(pre_splitW UA).2
 obtain⟨d,r,rfl,h1,h2⟩:=hasAllW_cons hsh
 obtain rfl:=hasAllW_nil h2
 obtain⟨xs,rfl,h3⟩:=hasW_list h1
 obtain⟨ns,rfl⟩:=items_int h3
 have hlen:ns.length<=n:=by
  unfold OpenLaw.pre at hc
  have h4:(WTm.not (.lt (.lit (.int (n:Int))) (.len (.arg 0)))).holds [] { args:=[.list (ns.map .int)] }=true:=by
   have h4:=(holds_andW hc).1
   rw[hn]at h4
   exact h4
  have h5:=condW_of h4 (w_not (w_lt w_lit (w_len_list (w_arg rfl))))
  rw[aa]at h5
  refine Nat.le_of_not_lt λ q=>?_
  have q':(n:Int)<((ns.length:Nat):Int):=by omega
  first
   |(rw[decide_eq_true q']at h5;exact absurd h5 (by decide))
   |(simp at h5;omega)
 cases GV with
 |cons w1 w2=>
  cases w2
  cases w1 with
  |list ho BJ=>exact⟨_,_,ns,rfl,rfl,ho,GG ns _ BJ,hlen⟩
theorem UB(l:OpenLaw)(args:List WData):l.row.toRowW.claim.post args (.bool true) args=true:=
 postW_of (r:=l.row.toRowW) (X:=(true == true))
  (show WShape.has [] (.bool true) .bool=true by first|rfl|decide|simp[WShape.has,WShape.arms,WShape.armsAll])
  (show(WTm.eq .res (.lit (.bool true))).value [] { args:=args,res:=some (.bool true),after:=args }=some (.bool (true == true))from w_eq_bool (w_res rfl) w_lit) rfl
theorem NO{l:OpenLaw}{n:Nat}{q:aJ}{loose:List Str}{XP:(Str->Option ao)->bw->Prop}{YP:aY->bw->Prop}{d:mQ}
  (hn:l.most=some n)(hdf:d.params.defaults=[])
  (call:∀(w:aY) (s₀ s₁:au) (mg mb:Str->Option ao) (fa:ag) (o:Obj) (pm cd doc:ao) (a:ag) (vs:List ao) (ns:List Int),
   Ground q loose [] XP w s₀ mg mb s₁.heap->YP w s₁.heap->
   s₁.heap.get? fa=some o->o.data= .func (docDef d.name d.params d.body d.scope pm cd doc)->s₁.heap.CodeRec cd d.name->mg d.name=some (.ref fa)->
   s₁.heap.get? a=some { cls:=.type "list",data:=.seq vs.toArray }->iR vs ns->ns.length<=n->s₁.gens= #[]->
   fS (aS l.prog w) fD (.call (.ref fa) ⟨[.ref a],[]⟩) (λ r s'=>r= .ok (.ret (.bool true))/\OldK s₁.heap s'.heap/\s'.os=s₁.os/\gq s'.gens) s₁):
  WalkO q loose XP YP l.row.toRowW d [] (λ f vs=>jr f vs):=by
 intro w s₀ s₁ mg mb G Y fa o pm cd doc dV kV ho hd Ly hD hmg hg args vals as UA adC WJ GV hlo
 obtain rfl:dV= .none:=Dflts.none hD hdf
 obtain rfl:kV= .none:=Dflts.noKw hD
 obtain⟨a,vs,ns,rfl,rfl,abV,hints,hlen⟩:=Uz hn UA GV
 refine enter_call (dX (call w s₀ s₁ mg mb fa o pm cd doc a vs ns G Y ho (fd_plain hd) Ly hmg abV hints hlen hg) λ r s' hq=>?_)
 obtain⟨rfl,h2,h3,h4⟩:=hq
 exact⟨.inl ⟨.bool true,.bool true,[],rfl,λ _=>rfl,.bool true,UB l _,λ _=>⟨List.Pairwise.nil,λ _ hm=>(nomatch hm)⟩⟩,h2,h3,h4⟩
section
variable{prog:aJ}{w:aY}{A:bU}{E:ao->au->Prop}{s:au}{K:Frag}
def ledger(h:bw)(L d:ag):List (ag×Obj):=(az h.objs.size).filterMap λ a=>if a=L\/a=d then none else(h.get? a).map λ o=>(a,o)
end
end Att
namespace L2
open PySem PySem.Spec PyProof.Rows
theorem Ks:∀{vs:List ao} {ns:List Int},iR vs ns->Vals (ns.map V.int) vs
 |_,_,.nil=>.nil
 |_,_,.cons n t h=>.cons ⟨t,rfl⟩ (Ks h)
def abW(H:Hp):Prop:=∀b,H b=none\/∃o xs,H b=some (.JL o (.lst xs))
theorem WK{P:aJ}{w:aY}{K:ah}{mg mb:Str->Option ao}{CX:CY}{k:Nat}{fa a:ag}{fd:bK}{x:Str}{sp:Sp}{s₁:au}{vs:List ao}{ns:List Int}
  (KX:K.In s₁.heap)(SX:s₁.heap.Ns aO mg)(hb:s₁.heap.Ns jW mb)(hbb:∀x:Str,x≠"__name__"->mb x=fE x)(abX:s₁.heap.NoLimit)(hg:s₁.gens= #[])
  (ha:s₁.heap.get? a=some { cls:=.type "list",data:=.seq vs.toArray })(hi:iR vs ns)(hl:ns.length<=ay)(hr:qT k fD)
  (F:∀base:bw,K.In base->base.Ns aO mg->nU P w K mg base CX k fa fd [x] sp)(WL:∀(s:au) (u:ao),iQ s fd ⟨[u],[]⟩ [(x,u)])
  (ND:∀H:Hp,abW H->nF K H a (ns.map V.int)->sp [.ref a] H (λ v _=>v= .bl true) λ _ _ _=>False)
  (ZN:∀H e s',CX [] H s₁ (λ _ _ _=>False) e s'->False):
  fS (aS P w) fD (.call (.ref fa) ⟨[.ref a],[]⟩) (λ r s'=>r= .ok (.ret (.bool true))/\OldK s₁.heap s'.heap/\s'.os=s₁.os/\gq s'.gens) s₁:=by
 have rv:=Ks hi
 have aeL:=hi.length
 have core:∀H:Hp,abW H->nF K H a (ns.map V.int)->zE P w H s₁.heap->(∀b,H b≠none->b=a)->(H a≠none->K.lookup a=none)->
   fS (aS P w) fD (.call (.ref fa) ⟨[.ref a],[]⟩) (λ r s'=>r= .ok (.ret (.bool true))/\OldK s₁.heap s'.heap/\s'.os=s₁.os/\gq s'.gens) s₁:=by
  intro H hO hS oY hA hK
  have C7:∀{b:ag} {o:Obj},s₁.heap.get? b=some o->H b=none->(CZ s₁.heap H).get? b=some o:=λ e n=>Nu e n
  have noA:∀{b:ag} {o:Obj} {es:Array my} {ep:Nat},s₁.heap.get? b=some o->o.data= .dict es ep->H b=none:=λ{b o es ep} e d=>by
   cases q:H b with
   |none=>rfl
   |some u=>
    have e':b=a:=hA b (by rw[q];simp)
    subst e'
    rw[ha]at e;cases e
    have d':Data.seq vs.toArray _=Data.dict es ep:=d
    cases d'
  have ZO:∀{b:ag} {m:Str->Option ao},s₁.heap.Ns b m->(CZ s₁.heap H).Ns b m:=λ{b m} ⟨o,es,ep,e,d,r⟩=>⟨o,es,ep,C7 e (noA e d),d,r⟩
  have hKb:K.In (CZ s₁.heap H):=λ b o e=>C7 (KX b o e) (by
   cases q:H b with
   |none=>rfl
   |some u=>
    have e':b=a:=hA b (by rw[q];simp)
    subst e'
    rw[hK (by rw[q];simp)]at e;cases e)
  have hM:Mod K mg (CZ s₁.heap H):=⟨hKb,ZO SX,⟨mb,ZO hb,hbb⟩,let⟨mc,h1,h2⟩:=abX;⟨mc,ZO h1,h2⟩⟩
  have e0:LG P w K mg (CZ s₁.heap H) fD [] s₁ H:=⟨rfl,hM,λ b o e=>Sr e,gS (Kd _ _),trivial,λ b hb=>absurd (show b∈([]:List ag)from hb) (by simp),oY,.of_eq hg⟩
  refine dX ((F _ hKb (ZO SX)).run fD [] s₁ H ⟨[.ref a],[]⟩ [.ref a] [.ref a] _ _ hr e0 (WL s₁ (.ref a)) (.cons rfl .nil) (ND H hO hS)) λ r s' h=>?_
  cases r with
  |error e=>exact(ZN H e s' h).elim
  |ok fl=>
   cases fl with
   |next=>exact False.elim h
   |brk=>exact False.elim h
   |cont=>exact False.elim h
   |ret u=>
    obtain⟨v,H',os,bare,un,ZP,r',q⟩:=h
    have q':v= .bl true:=q
    subst q'
    obtain rfl:u=Value.bool true:=r'
    refine⟨rfl,OldK.of_keep λ b o e=>?_,os,bare⟩
    cases q:H b with
    |none=>exact un.keep b o e q (by intro z;exact absurd (show b∈([]:List ag)from z) (by simp)) (by simp)
    |some u=>
     rcases hO b with z|⟨ob,xs,z⟩
     ·rw[q]at z;cases z
     ·have z2:=un.GC b ob _ z
      obtain⟨e1,_⟩:=oY b _ z
      obtain⟨e2,_⟩:=ZP b _ z2
      rw[e]at e1;cases e1
      exact e2
 cases hk:K.lookup a with
 |some o=>
  have e:=KX a o hk
  rw[ha]at e
  cases e
  refine core (λ _=>none) (λ _=>.inl rfl) (.inr ⟨_,vs.toArray,_,hk,rfl,rfl,rfl,by rw[aK,aeL];exact hl,by simpa using rv⟩) (λ b u z=>by have z':(none:Option HO)=some u:=z;cases z') (λ b z=>absurd rfl z) λ z=>absurd rfl z
 |none=>
  refine core (λ b=>if b=a then some (.JL { cls:=.type "list",data:=.seq vs.toArray } (.lst (ns.map V.int)))else none) (λ b=>?_) (.inl (.inr ⟨{ cls:=.type "list",data:=.seq vs.toArray },if_pos rfl⟩)) (λ b u z=>?_) (λ b z=>?_) λ _=>hk
  ·by_cases hb:b=a
   ·exact .inr ⟨_,_,if_pos hb⟩
   ·exact .inl (if_neg hb)
  ·by_cases hb:b=a
   ·have z':=(if_pos hb).symm.trans z
    cases z'
    subst hb
    exact⟨ha,by rw[aa];exact hl,vs,_,rv,ha⟩
   ·have z':=(if_neg hb).symm.trans z
    cases z'
  ·by_cases hb:b=a
   ·exact hb
   ·exact absurd (if_neg hb) z
end L2
namespace L2
open PySem PySem.Spec PyProof.Rows
abbrev KOf{K:ah}{h:bw}(_:K.In h):ah:=K
theorem aea{l:PySem.W.OpenLaw}{n k:Nat}{q:aJ}{loose:List Str}{XP:(Str->Option ao)->bw->Prop}{YP:aY->bw->Prop}{d:mQ}{K:gR->ah}{CX:aY->CY}{sp:aY->Sp}{x:Str}
  (hn:l.most=some n)(PL:n<=ay)(hdf:d.params.defaults=[])(hr:qT k fD)
  (hY:∀(w:aY) (h:bw),YP w h->(K w.params).In h)
  (F:∀(w:aY) (mg:Str->Option ao) (fa:ag) (h:bw),(K w.params).In h->h.Ns aO mg->mg d.name=some (.ref fa)->
   ∃fd:bK,(∀(s:au) (u:ao),iQ s fd ⟨[u],[]⟩ [(x,u)])/\
    ∀base:bw,(K w.params).In base->base.Ns aO mg->nU l.prog w (K w.params) mg base (CX w) k fa fd [x] (sp w))
  (ND:∀(w:aY) (H:Hp) (a:ag) (ns:List Int),ns.length<=n->abW H->nF (K w.params) H a (ns.map V.int)->sp w [.ref a] H (λ v _=>v= .bl true) λ _ _ _=>False)
  (ZN:∀(w:aY) (H:Hp) (s:au) (e:ao) (s':au),CX w [] H s (λ _ _ _=>False) e s'->False):
  PySem.W.WalkO q loose XP YP l.row.toRowW d [] (λ f vs=>jr f vs):=by
 refine Att.NO hn hdf λ w s₀ s₁ mg mb fa o pm cd doc a vs ns G Y ho hd Ly hmg abV hints hlen hg=>?_
 have KX:=hY w _ Y
 obtain⟨fd,hb,hF⟩:=F w mg fa _ KX G.T.g hmg
 exact WK KX G.T.g G.T.b G.T.builtins G.T.nolimit hg abV hints (aT hlen PL) hr hF hb (λ H hO hS=>ND w H a ns hlen hO hS) λ H e s'=>ZN w H s₁ e s'
end L2
namespace L2
open PySem PySem.Spec PyProof.Rows
def inClass(s:bA)(j:Nat):bA:=match s with
 | .ClassDef _ _ _ body _ _ _ _ _ _ _=>body.getD j (.Pass ⟨0,0,0,0⟩)
 |_=>.Pass ⟨0,0,0,0⟩
def rE(s:bA):Arguments:=match s with
 | .FunctionDef _ a _ _ _ _ _ _ _ _=>a
 |_=>{ posonlyargs:=[],args:=[],vararg:=none,kwonlyargs:=[],kw_defaults:=[],kwarg:=none,defaults:=[] }
def qK(s:bA):List bA:=match s with
 | .FunctionDef _ _ b _ _ _ _ _ _ _=>b
 |_=>[]
def m6(s:bA):eQ:=match s with
 | .FunctionDef _ _ _ _ _ _ sc _ _ _=>sc
 |_=>{ kind:=.function,names:=[],isGenerator:=false,isCoroutine:=false }
abbrev oH:CY:=λ _ _ _ _ _ _=>False
abbrev E0:XK:=λ _ _ _=>False
theorem nv{X:Cx}:Passes oH X E0:=λ _ _ _ _ _ _ _ h=>h.elim
structure pJ(K:ah)(x qual:Str)(st:bA)(f:ag)(fd:bK):Prop where
 ex:∃(oc:ao) (od:Option ag) (kV doc pm:ao) (an:Option ag) (oX ct:ao) (Kn:Array (Option ao)),
  fd=cz x qual (rE st) (qK st) (m6 st) .none kV doc pm an oX ct/\K.lookup f=some ⟨oc,od,.func fd,Kn⟩/\dW K oX qual=true
 kp:bY K (.ref f)=true
section
variable{P:aJ}{w:aY}{K:ah}{mg:Str->Option ao}{base:bw}
theorem pJ.ok{x qual:Str}{st:bA}{f:ag}{fd:bK}{N ps:List Str}{k:Nat}{sp:Sp}(F:pJ K x qual st f fd)(S:m_ N ps (m6 st))(len:∀vs H Q E,sp vs H Q E->vs.length=ps.length)
  (NC:∀(oX:ao) (A:bU) (outer:List Env) (s:au) (H:Hp) (vs:List V) (Q:VK) (E:XK),qT k (A.deeper (iN qual (m6 st) s.heap.objs.size f oX))->sp vs H Q E->
   ∃t,Lx (LI oH P w K mg base N qual (m6 st) f oX A outer s H E).nox (qK st) t/\t { nx:=λ _ H'=>Q .qB H',rt:=Q } (start N vs) H):nU P w K mg base oH (k+1) f fd ps sp:=by
 obtain⟨oc,od,kV,doc,pm,an,oX,ct,Kn,rfl,lk,Ly⟩:=F.ex
 refine aa2 lk Ly S len λ A outer s H vs Q E hr ND=>?_
 obtain⟨t,h,q⟩:=NC oX A outer s H vs Q E hr ND
 exact⟨t,h.nox,q⟩
theorem pJ.binds{x qual:Str}{st:bA}{f:ag}{fd:bK}{ps:List Str}(F:pJ K x qual st f fd)
  (h:∀(kV doc pm:ao) (an:Option ag) (oX ct:ao) (us:List ao),us.length=ps.length->iM (cz x qual (rE st) (qK st) (m6 st) .none kV doc pm an oX ct) ⟨us,[]⟩=pure (ps.zip us)):Binds K fd ps []:=by
 obtain⟨oc,od,kV,doc,pm,an,oX,ct,Kn,rfl,lk,Ly⟩:=F.ex
 exact .all (h kV doc pm an oX ct)
theorem LS{x qual:Str}{st:bA}{f:ag}{oc:ao}{od an:Option ag}{Kn:Array (Option ao)}{kV doc pm oX ct:ao}(l:K.lookup f=some ⟨oc,od,.func (cz x qual (rE st) (qK st) (m6 st) .none kV doc pm an oX ct),Kn⟩)
  (c:dW K oX qual=true)(k:bY K (.ref f)=true):pJ K x qual st f (cz x qual (rE st) (qK st) (m6 st) .none kV doc pm an oX ct):=⟨⟨oc,od,kV,doc,pm,an,oX,ct,Kn,rfl,l,c⟩,k⟩
end
theorem SY{A:bU}{k:Nat}(hr:qT k A):A.units+1<jI:=bH (eu (by decide:1<=64) _) hr.units
section
variable{X:Cx}
theorem pv(i:Nat){x:Str}{pos:Pos}(hN:X.N[i]? =some x:=by rfl)(hv:Vis X.env.scope x:=by first|exact Or.inl rfl|exact Or.inr (Or.inl rfl)|exact Or.inr (Or.inr rfl))(hd:(x == ("__debug__":Str))=false:=by decide)
  (Ly:(x == ("__classdict__":Str))=false:=by decide):PE X (.Name x pos) (Zq i):=abm hN hv hd Ly
end
theorem rK{A B:Prop}(h:B):if false=true then A else B:=by
 rw[if_neg a0]
 exact h
theorem tq{A B:Prop}(h:A):if true=true then A else B:=by
 rw[if_pos rfl]
 exact h
theorem qa{c A B:Prop}[Decidable c](h1:c->A)(h2:¬ c->B):if c then A else B:=by
 by_cases h:c
 ·rw[if_pos h]
  exact h1 h
 ·rw[if_neg h]
  exact h2 h
def m8(H H':Hp):Prop:=∀b o,H b=some o->H' b=some o
theorem m8.refl(H:Hp):m8 H H:=λ _ _ h=>h
theorem m8.trans{H H1 H2:Hp}(a:m8 H H1)(b:m8 H1 H2):m8 H H2:=λ c o h=>b c o (a c o h)
theorem m8.free{H H':Hp}(e:m8 H H'){l:ag}(h:H' l=iY):H l=iY:=by
 cases q:H l with
 |none=>rfl
 |some o=>
  rw[e l o q]at h
  cases h
theorem m8.seq{K:ah}{H H':Hp}{a:ag}{xs:List V}(e:m8 H H')(h:nF K H a xs):nF K H' a xs:=by
 rcases h with (h|⟨o,h⟩)|h
 ·exact .inl (.inl (e _ _ h))
 ·exact .inl (.inr ⟨o,e _ _ h⟩)
 ·exact .inr h
section
variable{κ:Type}[DecidableEq κ]
end
theorem at_of{xs:List V}{z:Int}{j:Nat}{v:V}(e:z=(j:Int))(h:xs[j]? =some v):Y6 xs z=some v:=by
 rw[e]
 exact ou h
theorem adD{α:Type}{l:List α}(hN:l.Nodup){i j:Nat}{x:α}(a:l[i]? =some x)(b:l[j]? =some x):i=j:=by
 obtain⟨h1,e1⟩:=List.getElem?_eq_some_iff.mp a
 obtain⟨h2,e2⟩:=List.getElem?_eq_some_iff.mp b
 exact(k_ hN).mp (e1.trans e2.symm)
theorem m8.made{H H1:Hp}{x dx C:ag}(nx:H x=iY)(nd:H dx=iY)(k:∀b o,(upd (upd H dx (.own x)) x (.ins C dx [])) b=some o->b≠x->H1 b=some o):m8 H H1:=λ b o e=>
 k b o (by rw[m5 (nH e nx),m5 (nH e nd)];exact e) (nH e nx)
end L2
section
set_option maxHeartbeats 2000000
namespace L2
open PySem PySem.Spec PyProof.Rows
open PySem.W (WData Codec OpenSpec Well WellAll ReadsW ReadsAllW)
mutual
inductive Dw (K:ah) (H:Hp):V->WData->Prop
 |qB:Dw K H .qB .none
 |bl (b:Bool):Dw K H (.bl b) (.bool b)
 |int (i:Int):Dw K H (.int i) (.int i)
 |str (x:Str):Dw K H (.str x) (.str x)
 |Lu (b:Array UInt8):Dw K H (.Lu b) (.bytes b.toList)
 |lst {a:ag} {xs:List V} {ds:List WData}:nF K H a xs->zy K H xs ds->Dw K H (.ref a) (.list ds)
 |tup {a:ag} {xs:List V} {ds:List WData}:Bj K H a xs->zy K H xs ds->Dw K H (.ref a) (.tuple ds)
inductive zy (K:ah) (H:Hp):List V->List WData->Prop
 |nil:zy K H [] []
 |cons {v:V} {vs:List V} {d:WData} {ds:List WData}:Dw K H v d->zy K H vs ds->zy K H (v::vs) (d::ds)
end
theorem S9{K:ah}{H:Hp}:∀ns:List Int,zy K H (ns.map V.int) (ns.map WData.int)
 |[]=>.nil
 |n::r=>.cons (.int n) (S9 r)
theorem S_{K:ah}{H:Hp}:∀(ns:List Int) (xs:List V),zy K H xs (ns.map WData.int)->xs=ns.map V.int
 |[],xs,h=>by
  cases h
  rfl
 |n::r,xs,h=>by
  cases h with
  |cons h1 h2=>
   cases h1
   rw[S_ r _ h2] <;> rfl
section
variable{P:aJ}{w:aY}{K:ah}{H:Hp}{h:bw}{R:kg}{cl:Str->Option ag}
theorem abY{a:ag}{xs:List V}(oY:zE P w H h)(KX:K.In h)(q:nF K H a xs):∃(oo:List ao) (o:Obj) (n:Nat),Vals xs oo/\h.get? a=some o/\o.cls= .type "list"/\o.data= .seq oo.toArray n:=by
 rcases q with q|⟨o,oo,n,e,hc,_,hd,_,hv⟩
 ·obtain⟨_,oo,n,hv,e⟩:=(show pQ P w H h a (.lst xs)from q.ok oY)
  exact⟨oo,_,n,hv,e,rfl,rfl⟩
 ·exact⟨oo.toList,o,n,hv,KX _ _ e,hc,by simp[hd]⟩
theorem abZ{a:ag}{xs:List V}(oY:zE P w H h)(KX:K.In h)(q:Bj K H a xs):∃(oo:List ao) (o:Obj) (n:Nat),Vals xs oo/\h.get? a=some o/\o.cls= .type "tuple"/\o.data= .seq oo.toArray n:=by
 rcases q with q|⟨o,oo,n,e,hc,hd,_,hv⟩
 ·obtain⟨_,oo,hv,o,e,hc,n,hd⟩:=(show pQ P w H h a (.tup xs)from q.ok oY)
  exact⟨oo,o,n,hv,e,hc,hd⟩
 ·exact⟨oo.toList,o,n,hv,KX _ _ e,hc,by simp[hd]⟩
mutual
theorem Dw.reads(oY:zE P w H h)(KX:K.In h):∀(d:WData) (v:V) (u:ao),Dw K H v d->RelV v u->∃as,ReadsW R cl h u d as
 | .none,_,_,x,r=>by
  cases x
  cases r
  exact⟨_,ReadsW.none⟩
 | .bool b,_,_,x,r=>by
  cases x
  cases r
  exact⟨_,ReadsW.bool b⟩
 | .int i,_,_,x,r=>by
  cases x
  obtain⟨t,rfl⟩:=r
  exact⟨_,ReadsW.int i t⟩
 | .str s,_,_,x,r=>by
  cases x
  obtain⟨t,rfl⟩:=r
  exact⟨_,ReadsW.str s t⟩
 | .bytes b,_,_,x,r=>by
  cases x
  obtain⟨t,rfl⟩:=r
  exact⟨_,ReadsW.bytes _ t⟩
 | .list ds,_,_,x,r=>by
  cases x with
  |lst hs ha=>
   cases r
   obtain⟨oo,o,n,rv,ho,hc,hd⟩:=abY oY KX hs
   obtain⟨as,hr⟩:=Dw.readsAll oY KX ds _ oo ha rv
   exact⟨_,ReadsW.list ho hc hd hr⟩
 | .tuple ds,_,_,x,r=>by
  cases x with
  |tup hs ha=>
   cases r
   obtain⟨oo,o,n,rv,ho,hc,hd⟩:=abZ oY KX hs
   obtain⟨as,hr⟩:=Dw.readsAll oY KX ds _ oo ha rv
   exact⟨_,ReadsW.tuple ho hc hd hr⟩
 | .float _,_,_,x,_=>by cases x
 | .dict _,_,_,x,_=>by cases x
 | .bytearray _,_,_,x,_=>by cases x
 | .set _,_,_,x,_=>by cases x
 | .frozenset _,_,_,x,_=>by cases x
 | .obj _ _,_,_,x,_=>by cases x
theorem Dw.readsAll(oY:zE P w H h)(KX:K.In h):∀(ds:List WData) (vs:List V) (us:List ao),zy K H vs ds->Vals vs us->∃as,ReadsAllW R cl h us ds as
 |[],_,_,x,r=>by
  cases x
  cases r
  exact⟨_,ReadsAllW.nil⟩
 |d::ds,_,_,x,r=>by
  cases x with
  |cons h1 h2=>
   cases r with
   |cons r1 r2=>
    obtain⟨as,q1⟩:=Dw.reads oY KX d _ _ h1 r1
    obtain⟨bs,q2⟩:=Dw.readsAll oY KX ds _ _ h2 r2
    exact⟨_,ReadsAllW.cons q1 q2⟩
end
end
mutual
def Ta:WData->Bool
 | .none=>true
 | .bool _=>true
 | .int _=>true
 | .str _=>true
 | .bytes _=>true
 | .list xs=>GH xs
 | .tuple xs=>GH xs
 |_=>false
def GH:List WData->Bool
 |[]=>true
 |x::r=>Ta x && GH r
end
theorem NP{α:Type}{f:α->WData}(h:∀a,Ta (f a)=true):∀l:List α,GH (l.map f)=true
 |[]=>rfl
 |x::r=>by
  show(Ta (f x) && GH (r.map f))=true
  rw[h x,NP h r] <;> rfl
theorem zP:∀(c:Codec) (a:c.denote),Ta (c.enc a)=true
 | .unit,_=>rfl
 | .bool,_=>rfl
 | .int _ _,_=>rfl
 | .nat _ _,_=>rfl
 | .u8,_=>rfl
 | .bytes _ _,_=>rfl
 | .text _ _ _ _,_=>rfl
 | .list _ _ c,a=>NP (λ x=>zP c x) a
 | .pair c d,a=>by
  show(Ta (c.enc a.1) && (Ta (d.enc a.2) && true))=true
  rw[zP c a.1,zP d a.2] <;> rfl
 | .triple c d e,a=>by
  show(Ta (c.enc a.1) && (Ta (d.enc a.2.1) && (Ta (e.enc a.2.2) && true)))=true
  rw[zP c a.1,zP d a.2.1,zP e a.2.2] <;> rfl
 | .option c,none=>rfl
 | .option c,some x=>zP c x
theorem Kt:∀(cs:List Codec) (a:Codec.denoteAll cs),GH (Codec.encAll cs a)=true
 |[],_=>rfl
 |c::cs,a=>by
  show(Ta (c.enc a.1) && GH (Codec.encAll cs a.2))=true
  rw[zP c a.1,Kt cs a.2] <;> rfl
theorem BK:∀{xs:List WData} {d:WData},d∈xs->d.weight<=WData.weightAll xs
 |[],d,h=>absurd h (by simp)
 |x::r,d,h=>by
  show d.weight<=x.weight+1+WData.weightAll r
  rcases List.mem_cons.mp h with e|m
  ·rw[e]
   omega
  ·have z:=BK m
   omega
def toV:ao->V
 | .none=>.qB
 | .bool b=>.bl b
 | .int i _=>.int i
 | .str x _=>.str x
 | .bytes b _=>.Lu b
 | .ref a=>.ref a
 |_=>.qB
def UC(A:List ag):ao->Prop
 | .none=>True
 | .bool _=>True
 | .int _ _=>True
 | .str _ _=>True
 | .bytes _ _=>True
 | .ref a=>a∈A
 |_=>False
theorem UC.mono{A B:List ag}(h:∀a∈A,a∈B):∀{u:ao},UC A u->UC B u:=λ{u} x=>by
 cases u with
 |ref a=>exact h a x
 |none=>trivial
 |bool b=>trivial
 |int i t=>trivial
 |str s t=>trivial
 |bytes b t=>trivial
 |_=>exact False.elim x
theorem WM{A:List ag}{u:ao}(x:UC A u):RelV (toV u) u:=by
 cases u with
 |ref a=>rfl
 |none=>rfl
 |bool b=>rfl
 |int i t=>exact⟨t,rfl⟩
 |str s t=>exact⟨t,rfl⟩
 |bytes b t=>exact⟨t,rfl⟩
 |_=>exact False.elim x
theorem xG{A:List ag}:∀{vs:List ao},(∀u∈vs,UC A u)->Vals (vs.map toV) vs
 |[],_=>.nil
 |u::r,h=>.cons (WM (h u (bT ..))) (xG λ x hx=>h x (aQ _ hx))
def zA(h:bw)(A:List ag)(a:ag):Prop:=∃vs:List ao,vs.length<=ay/\(∀u∈vs,UC A u)/\
 (h.get? a=some { cls:=.type "list",data:=.seq vs.toArray }\/h.get? a=some { cls:=.type "tuple",data:=.seq vs.toArray })
theorem zA.mono{h:bw}{A B:List ag}{a:ag}(k:∀a∈A,a∈B)(x:zA h A a):zA h B a:=by
 obtain⟨vs,h1,h2,h3⟩:=x
 exact⟨vs,h1,λ u hu=>(h2 u hu).mono k,h3⟩
theorem wt{P:gR}{h:bw}:∀{vs:List ao} {ds:List WData},WellAll P h vs ds->vs.length=ds.length
 |_,_,.nil=>rfl
 |_,_,.cons _ b=>by
  show _+1=_+1
  rw[wt b]
theorem Ku{P:gR}{h:bw}{v:ao}{ds:List WData}(x:Well P h v (.list ds)):∃(a:ag) (vs:List ao),v= .ref a/\h.get? a=some { cls:=.type "list",data:=.seq vs.toArray }/\WellAll P h vs ds:=by
 cases x with
 |list ho BJ=>exact⟨_,_,rfl,ho,BJ⟩
theorem Hm{P:gR}{h:bw}{v:ao}{ds:List WData}(x:Well P h v (.tuple ds)):∃(a:ag) (vs:List ao),v= .ref a/\h.get? a=some { cls:=.type "tuple",data:=.seq vs.toArray }/\WellAll P h vs ds:=by
 cases x with
 |tuple ho BJ=>exact⟨_,_,rfl,ho,BJ⟩
theorem Kv{P:gR}{h:bw}{us:List ao}{d:WData}{ds:List WData}(x:WellAll P h us (d::ds)):∃(v:ao) (vs:List ao),us=v::vs/\Well P h v d/\WellAll P h vs ds:=by
 cases x with
 |cons a b=>exact⟨_,_,rfl,a,b⟩
theorem Tb{n:Nat}(h:n<=1048576):n<=ay:=aT h (by decide)
section
variable{P:gR}{h:bw}
mutual
theorem WN:∀(d:WData) (v:ao),Well P h v d->Ta d=true->d.weight<=1048576->∃A:List ag,UC A v/\∀a∈A,zA h A a
 | .none,_,x,_,_=>by
  cases x
  exact⟨[],trivial,λ a m=>absurd m (by simp)⟩
 | .bool b,_,x,_,_=>by
  cases x
  exact⟨[],trivial,λ a m=>absurd m (by simp)⟩
 | .int i,_,x,_,_=>by
  cases x
  exact⟨[],trivial,λ a m=>absurd m (by simp)⟩
 | .str s,_,x,_,_=>by
  cases x
  exact⟨[],trivial,λ a m=>absurd m (by simp)⟩
 | .bytes b,_,x,_,_=>by
  cases x
  exact⟨[],trivial,λ a m=>absurd m (by simp)⟩
 | .list ds,_,x,p,z=>by
  obtain⟨a,vs,rfl,ho,BJ⟩:=Ku x
  have z2:WData.weightAll ds<=1048576:=z
  obtain⟨A,h1,h2⟩:=C8 ds _ BJ p λ d hd=>aT (BK hd) z2
  have k:∀b∈A,b∈a::A:=λ b hb=>aQ _ hb
  refine⟨a::A,bT ..,λ b hb=>?_⟩
  rcases List.mem_cons.mp hb with e|m
  ·rw[e]
   exact⟨vs,Tb (by rw[wt BJ];exact aT (iX ds) z2),λ u hu=>(h1 u hu).mono k,.inl ho⟩
  ·exact(h2 b m).mono k
 | .tuple ds,_,x,p,z=>by
  obtain⟨a,vs,rfl,ho,BJ⟩:=Hm x
  have z2:WData.weightAll ds<=1048576:=z
  obtain⟨A,h1,h2⟩:=C8 ds _ BJ p λ d hd=>aT (BK hd) z2
  have k:∀b∈A,b∈a::A:=λ b hb=>aQ _ hb
  refine⟨a::A,bT ..,λ b hb=>?_⟩
  rcases List.mem_cons.mp hb with e|m
  ·rw[e]
   exact⟨vs,Tb (by rw[wt BJ];exact aT (iX ds) z2),λ u hu=>(h1 u hu).mono k,.inr ho⟩
  ·exact(h2 b m).mono k
 | .float _,_,_,p,_=>cf (show false=true from p)
 | .dict _,_,_,p,_=>cf (show false=true from p)
 | .bytearray _,_,_,p,_=>cf (show false=true from p)
 | .set _,_,_,p,_=>cf (show false=true from p)
 | .frozenset _,_,_,p,_=>cf (show false=true from p)
 | .obj _ _,_,_,p,_=>cf (show false=true from p)
theorem C8:∀(ds:List WData) (vs:List ao),WellAll P h vs ds->GH ds=true->(∀d∈ds,d.weight<=1048576)->∃A:List ag,(∀u∈vs,UC A u)/\∀a∈A,zA h A a
 |[],_,x,_,_=>by
  cases x
  exact⟨[],λ u m=>absurd m (by simp),λ a m=>absurd m (by simp)⟩
 |d::ds,_,x,p,z=>by
  obtain⟨v,vs,rfl,x1,x2⟩:=Kv x
  have q:Ta d=true/\GH ds=true:=Bool.and_eq_true_iff.mp p
  obtain⟨A,a1,a2⟩:=WN d v x1 q.1 (z d (bT ..))
  obtain⟨B,b1,b2⟩:=C8 ds vs x2 q.2 λ e he=>z e (aQ _ he)
  have kA:∀b∈A,b∈A++B:=λ b hb=>List.mem_append.mpr (.inl hb)
  have kB:∀b∈B,b∈A++B:=λ b hb=>List.mem_append.mpr (.inr hb)
  refine⟨A++B,λ u hu=>?_,λ b hb=>?_⟩
  ·rcases List.mem_cons.mp hu with e|m
   ·rw[e]
    exact a1.mono kA
   ·exact(b1 u m).mono kB
  ·rcases List.mem_append.mp hb with m|m
   ·exact(a2 b m).mono kA
   ·exact(b2 b m).mono kB
end
end
def ZQ(o:Obj):Option HO:=match o.data with
 | .seq vs _=>if(o.cls == Value.type "list")=true then some (.JL o (.lst (vs.toList.map toV)))else some (.JL o (.tup (vs.toList.map toV)))
 |_=>none
def xV(K:ah)(h:bw)(A:List ag):Hp:=λ b=>if b∈A then(if(K.lookup b).isNone=true then(h.get? b).bind ZQ else none)else none
def NQ(H:Hp):Prop:=∀b,H b=none\/∃o u,H b=some (.JL o u)
theorem NR(vs:List ao):ZQ { cls:=.type "list",data:=.seq vs.toArray }=some (.JL { cls:=.type "list",data:=.seq vs.toArray } (.lst (vs.map toV))):=by
 show(if(Value.type "list" == Value.type "list")=true then some (HO.JL { cls:=.type "list",data:=.seq vs.toArray } (.lst (vs.toArray.toList.map toV)))else some (HO.JL { cls:=.type "list",data:=.seq vs.toArray } (.tup (vs.toArray.toList.map toV))))=_
 rw[if_pos (beq_self_eq_true _)]
theorem NS(vs:List ao):ZQ { cls:=.type "tuple",data:=.seq vs.toArray }=some (.JL { cls:=.type "tuple",data:=.seq vs.toArray } (.tup (vs.map toV))):=by
 show(if(Value.type "tuple" == Value.type "list")=true then some (HO.JL { cls:=.type "tuple",data:=.seq vs.toArray } (.lst (vs.toArray.toList.map toV)))else some (HO.JL { cls:=.type "tuple",data:=.seq vs.toArray } (.tup (vs.toArray.toList.map toV))))=_
 rw[if_neg (by decide)]
section
variable{P:aJ}{w:aY}{K:ah}{h:bw}{A:List ag}
theorem GW{b:ag}{o:Obj}(hb:b∈A)(hk:K.lookup b=none)(e:h.get? b=some o):xV K h A b=ZQ o:=by
 unfold xV
 rw[if_pos hb,hk,if_pos (show(none:Option Obj).isNone=true from rfl),e] <;> rfl
theorem ZR{b:ag}{u:HO}(q:xV K h A b=some u):b∈A/\K.lookup b=none:=by
 unfold xV at q
 by_cases hb:b∈A
 ·rw[if_pos hb]at q
  cases hk:K.lookup b with
  |none=>exact⟨hb,rfl⟩
  |some o=>
   rw[hk,if_neg (by simp)]at q
   cases q
 ·rw[if_neg hb]at q
  cases q
theorem GX(ar:∀a∈A,zA h A a){b:ag}{u:HO}(q:xV K h A b=some u):K.lookup b=none/\∃vs:List ao,vs.length<=ay/\(∀u∈vs,UC A u)/\
  ((h.get? b=some { cls:=.type "list",data:=.seq vs.toArray }/\u= .JL { cls:=.type "list",data:=.seq vs.toArray } (.lst (vs.map toV)))\/
   (h.get? b=some { cls:=.type "tuple",data:=.seq vs.toArray }/\u= .JL { cls:=.type "tuple",data:=.seq vs.toArray } (.tup (vs.map toV)))):=by
 obtain⟨hb,hk⟩:=ZR q
 obtain⟨vs,h1,h2,h3⟩:=ar b hb
 refine⟨hk,vs,h1,h2,?_⟩
 rcases h3 with e|e
 ·rw[GW hb hk e,NR]at q
  exact .inl ⟨e,(Option.some.inj q).symm⟩
 ·rw[GW hb hk e,NS]at q
  exact .inr ⟨e,(Option.some.inj q).symm⟩
theorem UD(ar:∀a∈A,zA h A a):NQ (xV K h A):=λ b=>by
 cases q:xV K h A b with
 |none=>exact .inl rfl
 |some u=>
  obtain⟨_,vs,_,_,⟨_,e⟩|⟨_,e⟩⟩:=GX ar q
  ·exact .inr ⟨_,_,by rw[e]⟩
  ·exact .inr ⟨_,_,by rw[e]⟩
theorem ZS(ar:∀a∈A,zA h A a):zE P w (xV K h A) h:=λ b u q=>by
 obtain⟨_,vs,h1,h2,⟨e,rfl⟩|⟨e,rfl⟩⟩:=GX ar q
 ·exact⟨e,by rw[aa];exact h1,vs,_,xG h2,e⟩
 ·exact⟨e,by rw[aa];exact h1,vs,xG h2,_,e,rfl,_,rfl⟩
theorem GY{c c':ao}{vs us:List ao}(e:(some { cls:=c,data:=.seq vs.toArray }:Option Obj)=some { cls:=c',data:=.seq us.toArray }):c=c'/\vs=us:=by
 have e1:=Option.some.inj e
 have e2:c=c':=congrArg Obj.cls e1
 have e3:Data.seq vs.toArray=Data.seq us.toArray:=congrArg Obj.data e1
 injection e3 with e4
 refine⟨e2,?_⟩
 have e5:=congrArg Array.toList e4
 simpa using e5
theorem aeM(KX:K.In h)(ar:∀a∈A,zA h A a){a:ag}{vs:List ao}(ha:a∈A)(e:h.get? a=some { cls:=.type "list",data:=.seq vs.toArray }):(∀u∈vs,UC A u)/\nF K (xV K h A) a (vs.map toV):=by
 obtain⟨us,h1,h2,h3⟩:=ar a ha
 have hu:us=vs:=by
  rcases h3 with q|q
  ·rw[e]at q
   exact(GY q).2.symm
  ·rw[e]at q
   exact absurd (Value.type.inj (GY q).1) (by decide)
 subst hu
 refine⟨h2,?_⟩
 cases hk:K.lookup a with
 |none=>exact .inl (.inr ⟨_,by rw[GW ha hk e,NR]⟩)
 |some o=>
  have e2:=KX a o hk
  rw[e]at e2
  obtain rfl:=Option.some.inj e2
  exact .inr ⟨_,us.toArray,_,hk,rfl,rfl,rfl,by rw[aK];exact h1,by simpa using xG h2⟩
theorem aeN(KX:K.In h)(ar:∀a∈A,zA h A a){a:ag}{vs:List ao}(ha:a∈A)(e:h.get? a=some { cls:=.type "tuple",data:=.seq vs.toArray }):(∀u∈vs,UC A u)/\Bj K (xV K h A) a (vs.map toV):=by
 obtain⟨us,h1,h2,h3⟩:=ar a ha
 have hu:us=vs:=by
  rcases h3 with q|q
  ·rw[e]at q
   exact absurd (Value.type.inj (GY q).1) (by decide)
  ·rw[e]at q
   exact(GY q).2.symm
 subst hu
 refine⟨h2,?_⟩
 cases hk:K.lookup a with
 |none=>exact .inl (.inr ⟨_,by rw[GW ha hk e,NS]⟩)
 |some o=>
  have e2:=KX a o hk
  rw[e]at e2
  obtain rfl:=Option.some.inj e2
  exact .inr ⟨_,us.toArray,_,hk,rfl,rfl,by rw[aK];exact h1,by simpa using xG h2⟩
mutual
theorem ab0{Pm:gR}(KX:K.In h)(ar:∀a∈A,zA h A a):∀(d:WData) (v:ao),Well Pm h v d->Ta d=true->UC A v->Dw K (xV K h A) (toV v) d
 | .none,_,x,_,_=>by
  cases x
  exact .qB
 | .bool b,_,x,_,_=>by
  cases x
  exact .bl b
 | .int i,_,x,_,_=>by
  cases x
  exact .int i
 | .str s,_,x,_,_=>by
  cases x
  exact .str s
 | .bytes b,_,x,_,_=>by
  cases x
  have z:=Dw.Lu (K:=K) (H:=xV K h A) b.toArray
  exact z
 | .list ds,_,x,p,hu=>by
  obtain⟨a,vs,rfl,ho,BJ⟩:=Ku x
  obtain⟨h2,hs⟩:=aeM KX ar hu ho
  exact .lst hs (LU KX ar ds _ BJ p h2)
 | .tuple ds,_,x,p,hu=>by
  obtain⟨a,vs,rfl,ho,BJ⟩:=Hm x
  obtain⟨h2,hs⟩:=aeN KX ar hu ho
  exact .tup hs (LU KX ar ds _ BJ p h2)
 | .float _,_,_,p,_=>cf (show false=true from p)
 | .dict _,_,_,p,_=>cf (show false=true from p)
 | .bytearray _,_,_,p,_=>cf (show false=true from p)
 | .set _,_,_,p,_=>cf (show false=true from p)
 | .frozenset _,_,_,p,_=>cf (show false=true from p)
 | .obj _ _,_,_,p,_=>cf (show false=true from p)
theorem LU{Pm:gR}(KX:K.In h)(ar:∀a∈A,zA h A a):∀(ds:List WData) (vs:List ao),WellAll Pm h vs ds->GH ds=true->(∀u∈vs,UC A u)->zy K (xV K h A) (vs.map toV) ds
 |[],_,x,_,_=>by
  cases x
  exact .nil
 |d::ds,_,x,p,hu=>by
  obtain⟨v,vs,rfl,x1,x2⟩:=Kv x
  have q:Ta d=true/\GH ds=true:=Bool.and_eq_true_iff.mp p
  exact .cons (ab0 KX ar d v x1 q.1 (hu _ (bT ..))) (LU KX ar ds vs x2 q.2 λ u m=>hu u (aQ _ m))
end
end
theorem UE{P:aJ}{w:aY}{K:ah}{mg mb:Str->Option ao}{CX:CY}{k:Nat}{fa:ag}{fd:bK}{ps:List Str}{sp:Sp}{s₁:au}{vals:List ao}{ds:List WData}{R:kg}{cl:Str->Option ag}{d0:WData}
  (KX:K.In s₁.heap)(SX:s₁.heap.Ns aO mg)(hb:s₁.heap.Ns jW mb)(hbb:∀x:Str,x≠"__name__"->mb x=fE x)(abX:s₁.heap.NoLimit)(hg:s₁.gens= #[])
  (GV:WellAll w.params s₁.heap vals ds)(vo:GH ds=true)(hwt:∀d∈ds,d.weight<=1048576)(hr:qT k fD)
  (F:∀base:bw,K.In base->base.Ns aO mg->nU P w K mg base CX k fa fd ps sp)(WL:∀(s:au) (us:List ao),us.length=ps.length->iQ s fd ⟨us,[]⟩ (ps.zip us))(hlen:ds.length=ps.length)
  (ND:∀(H:Hp) (xs:List V),NQ H->zy K H xs ds->sp xs H (λ v H'=>Dw K H' v d0) λ _ _ _=>False)
  (ZN:∀H e s',CX [] H s₁ (λ _ _ _=>False) e s'->False):
  fS (aS P w) fD (.call (.ref fa) ⟨vals,[]⟩) (λ r s'=>∃u as,r= .ok (.ret u)/\ReadsW R cl s'.heap u d0 as/\OldK s₁.heap s'.heap/\s'.os=s₁.os/\gq s'.gens) s₁:=by
 obtain⟨A,ho,ar⟩:=C8 ds vals GV vo hwt
 have hO:NQ (xV K s₁.heap A):=UD ar
 have oY:zE P w (xV K s₁.heap A) s₁.heap:=ZS ar
 have hS:=LU KX ar ds vals GV vo ho
 have hV:=xG ho
 have hK:∀b u,xV K s₁.heap A b=some u->K.lookup b=none:=λ b u q=>(GX ar q).1
 have noA:∀{b:ag} {o:Obj} {es:Array my} {ep:Nat},s₁.heap.get? b=some o->o.data= .dict es ep->xV K s₁.heap A b=none:=λ{b o es ep} e d=>by
  cases q:xV K s₁.heap A b with
  |none=>rfl
  |some u=>
   obtain⟨_,vs,_,_,⟨e2,_⟩|⟨e2,_⟩⟩:=GX ar q
   ·rw[e2]at e
    cases e
    have d':Data.seq vs.toArray _=Data.dict es ep:=d
    cases d'
   ·rw[e2]at e
    cases e
    have d':Data.seq vs.toArray _=Data.dict es ep:=d
    cases d'
 generalize xV K s₁.heap A=H at hO oY hS hK noA
 have C7:∀{b:ag} {o:Obj},s₁.heap.get? b=some o->H b=none->(CZ s₁.heap H).get? b=some o:=λ e n=>Nu e n
 have ZO:∀{b:ag} {m:Str->Option ao},s₁.heap.Ns b m->(CZ s₁.heap H).Ns b m:=λ{b m} ⟨o,es,ep,e,d,r⟩=>⟨o,es,ep,C7 e (noA e d),d,r⟩
 have nK:∀b o,K.lookup b=some o->H b=none:=λ b o e=>by
  cases q:H b with
  |none=>rfl
  |some u=>
   rw[hK b u q]at e
   cases e
 have hKb:K.In (CZ s₁.heap H):=λ b o e=>C7 (KX b o e) (nK b o e)
 have hM:Mod K mg (CZ s₁.heap H):=⟨hKb,ZO SX,⟨mb,ZO hb,hbb⟩,let⟨mc,h1,h2⟩:=abX;⟨mc,ZO h1,h2⟩⟩
 have e0:LG P w K mg (CZ s₁.heap H) fD [] s₁ H:=⟨rfl,hM,λ b o e=>Sr e,gS (Kd _ _),trivial,λ b hb=>absurd (show b∈([]:List ag)from hb) (by simp),oY,.of_eq hg⟩
 have hl:vals.length=ps.length:=by rw[wt GV];exact hlen
 refine dX ((F _ hKb (ZO SX)).run fD [] s₁ H ⟨vals,[]⟩ vals (vals.map toV) _ _ hr e0 (WL s₁ vals hl) hV (ND H _ hO hS)) λ r s' x=>?_
 cases r with
 |error e=>exact(ZN H e s' x).elim
 |ok fl=>
  cases fl with
  |next=>exact False.elim x
  |brk=>exact False.elim x
  |cont=>exact False.elim x
  |ret u=>
   obtain⟨v,H',os,bare,un,ZP,r',q⟩:=x
   have kept:∀b o,s₁.heap.get? b=some o->s'.heap.get? b=some o:=λ b o e=>by
    cases q2:H b with
    |none=>exact un.keep b o e q2 (by intro z;exact absurd (show b∈([]:List ag)from z) (by simp)) (by simp)
    |some u2=>
     rcases hO b with z|⟨ob,u3,z⟩
     ·rw[q2]at z
      cases z
     ·have z2:=un.GC b ob _ z
      obtain⟨e1,_⟩:=oY b _ z
      obtain⟨e2,_⟩:=ZP b _ z2
      rw[e]at e1
      cases e1
      exact e2
   have KX':K.In s'.heap:=λ b o e=>kept b o (KX b o e)
   obtain⟨as,WJ⟩:=Dw.reads (R:=R) (cl:=cl) ZP KX' d0 v u q r'
   exact⟨u,as,rfl,WJ,OldK.of_keep kept,os,bare⟩
theorem Hn{ds:List WData}(h:WData.layableAll ds=true):∀d∈ds,d.weight<=1048576:=λ d hd=>
 (PySem.W.layableW_iff.mp (List.all_eq_true.mp h d hd)).2.2
theorem Ho:∀(cs:List Codec) (a:Codec.denoteAll cs),(Codec.encAll cs a).length=cs.length
 |[],_=>rfl
 |c::cs,a=>by
  show(Codec.encAll cs a.2).length+1=cs.length+1
  rw[Ho cs a.2]
theorem UG{r:OpenSpec}{k:Nat}{q:aJ}{loose:List Str}{XP:(Str->Option ao)->bw->Prop}{YP:aY->bw->Prop}{d:mQ}{K:gR->ah}{CX:aY->CY}{ps:List Str}{sp:aY->Sp}
  (WO:r.wellSaid=true)(hdf:d.params.defaults=[])(hlen:r.args.length=ps.length)(hr:qT k fD)
  (hY:∀(w:aY) (h:bw),YP w h->(K w.params).In h)
  (F:∀(w:aY) (mg:Str->Option ao) (fa:ag) (h:bw),YP w h->(K w.params).In h->h.Ns aO mg->mg d.name=some (.ref fa)->
   ∃fd:bK,(∀(s:au) (us:List ao),us.length=ps.length->iQ s fd ⟨us,[]⟩ (ps.zip us))/\
    ∀base:bw,(K w.params).In base->base.Ns aO mg->nU r.prog w (K w.params) mg base (CX w) k fa fd ps (sp w))
  (ND:∀(w:aY) (H:Hp) (xs:List V) (a:Codec.denoteAll r.args),NQ H->Codec.withinAll r.args a=true->Codec.app r.args r.asked a=true->zy (K w.params) H xs (Codec.encAll r.args a)->
   sp w xs H (λ v H'=>Dw (K w.params) H' v (r.ret.enc (Codec.app r.args r.f a))) λ _ _ _=>False)
  (ZN:∀(w:aY) (H:Hp) (s:au) (e:ao) (s':au),CX w [] H s (λ _ _ _=>False) e s'->False):
  kK q loose XP YP r d [] (λ f vs=>jr f vs):=by
 intro w JR s₁ mg mb G Y fa o pm cd doc dV kV ho hd Ly hD hmg hg args vals as UA adC WJ GV hlo
 obtain⟨a,e1,e2⟩:=PySem.W.os_pre_some UA
 obtain⟨e3,hwi⟩:=Codec.encAll_of_decAll r.args args a e1
 subst e3
 have KX:=hY w _ Y
 obtain⟨fd,hb,hF⟩:=F w mg fa _ Y KX G.T.g hmg
 refine PySem.W.enter_call (dX (UE (R:=[]) (cl:=classAt JR.heap) (d0:=r.ret.enc (Codec.app r.args r.f a)) KX G.T.g G.T.b G.T.builtins G.T.nolimit hg GV (Kt _ _) (Hn adC) hr hF hb (by rw[Ho];exact hlen)
  (λ H xs hO hS=>ND w H xs a hO hwi e2 hS) λ H e s'=>ZN w H s₁ e s') λ r' s' hq=>?_)
 obtain⟨u,Ef,rfl,h1,h2,h3,h4⟩:=hq
 exact⟨.inl ⟨u,_,Ef,rfl,λ _=>rfl,h1,(OpenSpec.post_iff WO hwi _ _).mpr rfl,λ z=>cf (show false=true from z)⟩,h2,h3,h4⟩
theorem Qs{r:OpenSpec}{k:Nat}{q:aJ}{loose:List Str}{XP:(Str->Option ao)->bw->Prop}{YP:aY->bw->Prop}{d:mQ}{K:gR->ah}{CX:CY}{ps:List Str}{sp:ah->Sp}
  (WO:r.wellSaid=true)(hdf:d.params.defaults=[])(hlen:r.args.length=ps.length)(hr:qT k fD)
  (hY:∀(w:aY) (h:bw),YP w h->(K w.params).In h)
  (F:∀(w:aY) (mg:Str->Option ao) (fa:ag) (h:bw),YP w h->(K w.params).In h->h.Ns aO mg->mg d.name=some (.ref fa)->
   ∃fd:bK,(∀(s:au) (us:List ao),us.length=ps.length->iQ s fd ⟨us,[]⟩ (ps.zip us))/\
    ∀base:bw,(K w.params).In base->base.Ns aO mg->nU r.prog w (K w.params) mg base CX k fa fd ps (sp (K w.params)))
  (ND:∀(K:ah) (H:Hp) (xs:List V) (a:Codec.denoteAll r.args),NQ H->Codec.withinAll r.args a=true->Codec.app r.args r.asked a=true->zy K H xs (Codec.encAll r.args a)->
   sp K xs H (λ v H'=>Dw K H' v (r.ret.enc (Codec.app r.args r.f a))) λ _ _ _=>False)
  (ZN:∀(H:Hp) (s:au) (e:ao) (s':au),CX [] H s (λ _ _ _=>False) e s'->False):
  kK q loose XP YP r d [] (λ f vs=>jr f vs):=
 UG (K:=K) (CX:=λ _=>CX) (sp:=λ w=>sp (K w.params)) WO hdf hlen hr hY F (λ w H xs a h1 h2 h3 h4=>ND (K w.params) H xs a h1 h2 h3 h4) λ _ H s e s'=>ZN H s e s'
end L2
end
section
namespace L2
open PySem PySem.Spec PyProof.Rows
structure tI(K:ah)(C:ag):Prop where
 cd:∃cd,jl K C=some cd/\cd.mro=[.ref C,.type "Exception",.type "BaseException",.type "object"]/\cd.hasDict=true
 sa:bx K (.ref C) "__setattr__"=some (some (.builtin "object.__setattr__"))
 ga:bx K (.ref C) "__getattribute__"=some (some (.builtin "BaseException.__getattribute__"))
theorem Qt(self:ao)(C:ag):refuseLoop self "__setattr__" [.ref C,.type "Exception",.type "BaseException",.type "object"]=pure ():=by
 rw[refuseLoop_ref]
 kernel_rfl
section
variable{prog:aJ}{w:aY}{A:bU}{E:ao->au->Prop}{s:au}{K:ah}{x C:ag}{ox:Obj}{od:Option Obj}{name:Str}{v:ao}
open PySem.W in
theorem Tc{R:lU->au->Prop}{tk:Tok}(X:K.In s.heap)(I:kL s.heap x ox C od)(EC:tI K C)(hn:oE K C name)
  (h:∀b,aV (aS prog w) A.in1 (Builtin.ObjectAttr.storeInOwnDict (.ref x) (.ref C) (.str name tk) name v b)
   (λ fin s'=>match fin with | .done f=>R (.ok f) s'| .again c'=>c'.quiet=true/\fS (aS prog w) A c' R s') (λ e s'=>R (.error e) s') s):
  fS (aS prog w) A (.call (.builtin "object.__setattr__") ⟨[.ref x,.str name tk,v],[]⟩) R s:=by
 have SF:=PySem.F.store_object
 obtain⟨cd,hc,LV,hd⟩:=EC.cd
 have sub:Looks (aS prog w) s.heap (lT (.ref x) (.type "object")) true:=I.type.andThen (looks_mroIn X (by unfold mroIn;rw[hc,dE,LV];rfl))
 refine iK SF.slot.plain SF.entry (@check_slot (aS prog w) _ _ s "object.__setattr__" "object" "__setattr__" (.ref x) [.str name tk,v] [] _ SF.kind SF.split sub (SF.args (.ref x) (.str name tk) v) ?_)
 have hm:Looks (aS prog w) s.heap (mroOf (.ref C)) cd.mro:=(looks_clsIn X hc).andThen .now
 rw[osa_eq,refuse_eq]
 refine aq (aq (I.type.here (aq (hm.here ?_))))
 rw[LV,Qt]
 refine aM (aq (I.type.here (aq ((looks_findIn X hn).here (aq (Looks.now.here ?_))))))
 exact h _
open PySem.W in
theorem WQ{vs:Array ao}{Q:Unit->au->Prop}(X:K.In s.heap)(hx:s.heap.get? x=some ⟨.ref C,none,.fields vs,#[]⟩)(EC:tI K C)(hn:oE K C name)
  (h:∀h',h'.get? x=some ⟨.ref C,some s.heap.objs.size,.fields vs,#[]⟩->h'.Ns1 s.heap.objs.size (λ y=>if y=name then some v else none)->(∀b o,b≠x->s.heap.get? b=some o->h'.get? b=some o)->Q () { s with heap:=h',toks:=s.toks+2 }):
  aV (aS prog w) A (mh (.ref x) name v) Q E s:=by
 have I:InstAt s.heap x ⟨.ref C,none,.fields vs,#[]⟩ C none:=⟨hx,rfl,rfl,True.intro⟩
 refine set_plain X I EC.sa (Tc (s:={ s with toks:=s.toks+1 }) X I EC hn λ b=>?_)
 obtain⟨cd,hc,LV,V8⟩:=EC.cd
 refine aq (aM (aq (aq (jT hx (aq (PySem.W.Looks.here (s:={ s with toks:=s.toks+1 }) (hJ X hc) ?_))))))
 rw[V8]
 have e1:(s.heap.push emptyDict).get? s.heap.objs.size=some emptyDict:=Heap.get?_push_size s.heap rfl
 have hx1:=Heap.get?_push_of_some (h:=s.heap) emptyDict hx
 have rO:=Heap.lt_size hx
 have C9:=Heap.get?_update_self (λ o=>{ o with dict:=some s.heap.objs.size }) hx1 rfl
 have e2:((s.heap.push emptyDict).update x λ o=>{ o with dict:=some s.heap.objs.size }).get? s.heap.objs.size=some emptyDict:=by
  rw[Heap.get?_update_other _ _ (bL rO)];exact e1
 have e3:((s.heap.push emptyDict).update x λ o=>{ o with dict:=some s.heap.objs.size }).Ns s.heap.objs.size (λ _=>none):=⟨emptyDict,#[],_,e2,rfl,(λ e he=>absurd he (by simp)),λ _=>rfl⟩
 refine aq (wpAny_alloc (aq (wpAny_update hx1 (aM (aq (aM (aq ?_)))))))
 refine kO (s:={ s with heap:=(s.heap.push emptyDict).update x λ o=>{ o with dict:=some s.heap.objs.size },toks:=s.toks+1 }) (Heap.Ns1.of_empty e3) λ h' PL Um=>?_
 have wi:eU (λ _:Str=>(none:Option ao)) []:=λ y hy=>absurd rfl hy
 obtain⟨oD,esD,epD,hoD,hdD,hcD⟩:=PL.count (PySem.Within.cons name v wi)
 refine aq (jx hoD (by rw[hdD];exact jz (aT hcD (by simp[aA]))) ?_)
 refine aM (h _ ((Um.2 _ (bL rO)).trans C9) PL λ b o hb e=>?_)
 rw[Um.2 b (bL (Heap.lt_size e))]
 show((s.heap.push emptyDict).update x _).get? b=_
 rw[Heap.get?_update_other _ _ (Ne.symm hb)]
 exact Heap.get?_push_of_some _ e
open PySem.W in
theorem WR{vs:Array ao}{dx:ag}{mA:Str->Option ao}{ns:List Str}{Q:Unit->au->Prop}(X:K.In s.heap)(hx:s.heap.get? x=some ⟨.ref C,some dx,.fields vs,#[]⟩)(xE:dx≠x)(SX:s.heap.Ns1 dx mA)(EC:tI K C)(hn:oE K C name)
  (hw:eU mA ns)(hsz:ns.length<=100)
  (h:∀h',h'.get? x=some ⟨.ref C,some dx,.fields vs,#[]⟩->h'.Ns1 dx (λ y=>if y=name then some v else mA y)->(∀b o,b≠dx->s.heap.get? b=some o->h'.get? b=some o)->Q () { s with heap:=h',toks:=s.toks+2 }):
  aV (aS prog w) A (mh (.ref x) name v) Q E s:=by
 obtain⟨od,hod⟩:∃od,s.heap.get? dx=some od:=let⟨o,_,_,e,_⟩:=SX;⟨o,e⟩
 have I:InstAt s.heap x ⟨.ref C,some dx,.fields vs,#[]⟩ C (some od):=⟨hx,rfl,rfl,hod⟩
 refine set_plain X I EC.sa (Tc (s:={ s with toks:=s.toks+1 }) X I EC hn λ b=>?_)
 obtain⟨cd,hc,LV,V8⟩:=EC.cd
 refine aq (aM (aq (aq (jT hx (aq (PySem.W.Looks.here (s:={ s with toks:=s.toks+1 }) (hJ X hc) ?_))))))
 rw[V8]
 refine aM (a:=some dx) (aq (aM (aq ?_)))
 refine kO (s:={ s with toks:=s.toks+1 }) SX λ h' PL Um=>?_
 obtain⟨oD,esD,epD,hoD,hdD,hcD⟩:=PL.count (PySem.Within.cons name v hw)
 refine aq (jx hoD (by rw[hdD];exact jz (aT hcD (by rw[aD,aA];omega))) ?_)
 exact aM (h _ ((Um.2 _ (Ne.symm xE)).trans hx) PL λ b o hb e=>(Um.2 b hb).trans e)
end
end L2
namespace L2
open PySem PySem.Spec PyProof.Rows
theorem LW:builtinKind "BaseException.__getattribute__"=some .slot:=by decide +kernel
theorem JV:splitId "BaseException.__getattribute__"=some ("BaseException","__getattribute__"):=by decide +kernel
section
variable{prog:aJ}{w:aY}{A:bU}{E:ao->au->Prop}{s:au}{K:ah}{x C:ag}{ox:Obj}{od:Option Obj}{name:Str}{v:ao}
open PySem.W in
theorem ZT{expr:Bool}{Q:ao->au->Prop}(X:K.In s.heap)(I:InstAt s.heap x ox C od)(EC:tI K C)(hk:findIn K (.ref C) "__getattr__"=some none)
  (hf:findObj K C od name=some (.value v))(hh:handedIn v=true)(h:Q v { s with toks:=s.toks+1 }):aV (aS prog w) A (kR (.ref x) name expr) Q E s:=by
 obtain⟨hh',g,d,t,os⟩:=s
 have L0:=I.type (M:=aS prog w)
 have L1:=looks_findIn (M:=aS prog w) X EC.ga
 have L2:=looks_findIn (M:=aS prog w) X hk
 have L3:=looks_find (M:=aS prog w) X I hf
 obtain⟨cd,hc,LV,hd⟩:=EC.cd
 have sub:Looks (aS prog w) hh' (lT (.ref x) (.type "BaseException")) true:=I.type.andThen (looks_mroIn X (by unfold mroIn;rw[hc,dE,LV];rfl))
 unfold kR getAttrBy
 refine aq (wpAny_mkText (fR (aq (L0.at (aq (L1.at ?_))))))
 have C9:(Value.builtin "BaseException.__getattribute__" == Value.builtin "object.__getattribute__")=false:=by decide +kernel
 dsimp only
 rw[C9,lK,if_neg (by decide)]
 unfold getAttrByItsOwn
 refine aq (L2.at ?_)
 refine aq (kh (fR ?_))
 unfold callGetattribute
 have hx0:(expr && onTheHeap (Value.builtin "BaseException.__getattribute__"))=false:=by cases expr <;> rfl
 rw[hx0,if_neg (by decide)]
 unfold boundAndCalled
 have FX:Slot "BaseException" "__getattribute__" "BaseException.__getattribute__":=.of (owner:="BaseException") (n:="__getattribute__") (by rw[typeLookup_type,builtinLookup_eq_fast];kernel_rfl) (by decide +kernel) (by decide +kernel) (by decide +kernel)
  (by first|exact .inl (by decide +kernel)|exact .inr (by decide +kernel)) (by rw[isSubtype_type];kernel_rfl)
 rw[FX.bind]
 refine aq (aM (jd ?_))
 refine iK FX.plain PySem.F.entry_bexc_ga (@check_slot (aS prog w) _ _ _ "BaseException.__getattribute__" "BaseException" "__getattribute__" (.ref x) [.str name t] [] _ LW JV sub (PySem.F.args_bexc_ga _ _) ?_)
 unfold jg.«object.__getattribute__»
 refine aq (aM (aq (aM (aq (L0.at (aq (L3.at ?_)))))))
 refine aM ?_
 show aV _ _ (handedOut v) _ _ _
 rw[handedOut_of hh];exact aM h
end
end L2
namespace L2
open PySem PySem.Spec PyProof.Rows
def aa4(C:ag)(dx:Option ag)(tv:ao)(o:Obj):Prop:=∃vs:Array ao,o=⟨.ref C,dx,.fields vs,#[]⟩/\vs[1]? =some tv
def Fj(C e:ag)(dx:Option ag)(tv:ao):HO:=.ext λ h=>∃o,h.get? e=some o/\aa4 C dx tv o
def ZU(T:ag)(fl:ao):HO:=.ext λ h=>∃o ts,h.get? T=some o/\o.data= .fields ts/\ts[3]? =some fl
theorem rZ{P:aJ}{w:aY}{H:Hp}{h:bw}{C e:ag}{dx:Option ag}{tv:ao}:pQ P w H h e (Fj C e dx tv)↔ ∃o,h.get? e=some o/\aa4 C dx tv o:=by
 constructor
 ·intro z
  exact z.1
 ·intro z
  obtain⟨o,e1,f⟩:=z
  exact⟨⟨o,e1,f⟩,⟨o,e1⟩,λ h1 h2 ⟨o',e2,f'⟩ k=>⟨o',k o' e2,f'⟩⟩
theorem Hq{P:aJ}{w:aY}{H:Hp}{h:bw}{T:ag}{fl:ao}:pQ P w H h T (ZU T fl)↔ ∃o ts,h.get? T=some o/\o.data= .fields ts/\ts[3]? =some fl:=by
 constructor
 ·intro z
  exact z.1
 ·intro z
  obtain⟨o,ts,e1,f⟩:=z
  exact⟨⟨o,ts,e1,f⟩,⟨o,e1⟩,λ h1 h2 ⟨o',ts',e2,f'⟩ k=>⟨o',ts',k o' e2,f'⟩⟩
def NE(H H':Hp):Prop:=∀b o,H b=some o->(∀φ,o≠ .ext φ)->H' b=some o
theorem NE.refl(H:Hp):NE H H:=λ _ _ e _=>e
theorem NE.trans{H H1 H2:Hp}(a:NE H H1)(b:NE H1 H2):NE H H2:=λ c o e n=>b c o (a c o e n) n
theorem NE.upd{H:Hp}{a:ag}{o:HO}(h:H a=none\/∃φ,H a=some (.ext φ)):NE H (upd H a o):=λ b u e n=>by
 rw[m5]
 ·exact e
 ·rintro rfl
  rcases h with q|⟨φ,q⟩
  ·rw[q]at e;cases e
  ·rw[q]at e;cases e;exact n φ rfl
def Td(C L:ag)(H:Hp)(e:ag)(dx:Option ag):Prop:=
 H e=some (Fj C e dx .none)\/∃T fl,H e=some (Fj C e dx (.ref T))/\T≠e/\H T=some (ZU T fl)/\(fl= .none\/fl=dM L)
def C_(C:ag)(fl:ao)(H:Hp)(e:ag)(dx:Option ag):Prop:=
 ∃T,H e=some (Fj C e dx (.ref T))/\T≠e/\H T=some (ZU T fl)
section
variable{X:Cx}{pins:List (ag×Obj)}{σ:St}{H:Hp}{s:au}
theorem Inv.slots{h':bw}(I:Inv X pins σ H s)(x:Heap.SlotsOnly (PX X.stack) s.heap h'):Inv X pins σ H { s with heap:=h' }:=by
 refine I.call (g':=s.gens) (t':=s.toks) (d':=s.drawn) (ch:=[]) ⟨λ b o e n hb _=>(x.2.1 b hb).trans e,λ b o e n hb _=>x.2.2 b o e,λ b o e n _=>n,λ b o e _=>let⟨sl,q⟩:=x.2.2 b o e;⟨_,q⟩,
  λ _ _ q=>q,λ _ _ _ q=>q,λ _ ps q=>⟨#[],by rw[q];simp⟩⟩ ?_ I.bare (λ b z=>absurd z (by simp))
 intro a o e
 refine(I.oY a o e).Eh (λ b u hb q=>?_) (λ _ q=>q) λ _ _ q=>q
 have hn:∀c u,H c=some u->c∉PX X.stack:=λ c u q z=>by rw[I.Lv c z]at q;cases q
 rcases hb with rfl|hb
 ·exact(x.2.1 b (hn b o e)).trans q
 ·exact(x.2.1 b (hn b _ hb)).trans q
theorem UH{C e T:ag}{dx:Option ag}{fl:ao}{fr:Option ag}{Q:Unit->au->Prop}{A:bU}{E:ao->au->Prop}{M:jJ}(I:Inv X pins σ H s)(he:H e=some (Fj C e dx (.ref T)))(ht:H T=some (ZU T fl))(xE:T≠e)
  (h:∀s',Inv X pins σ (upd H T (ZU T (fr.elim .none λ f=>dM f))) s'->Q () s'):aV M A (kx (.ref e) fr) Q E s:=by
 obtain⟨o,e1,vs,rfl,v1⟩:=rZ.mp (I.oY e _ he)
 obtain⟨oT,ts,e2,d2,v2⟩:=Hq.mp (I.oY T _ ht)
 unfold kx
 refine aq (cN e1 rfl v1 ?_)
 rw[if_pos (show(Value.ref T != Value.none)=true from by simp)]
 have hsz:3<ts.size:=(Array.getElem?_eq_some_iff.mp v2).1
 refine iJ e2 d2 hsz (h _ ?_)
 have d3:=Obj.data_mapFields d2 (·.setIfInBounds 3 (fr.elim Value.none λ f=>dM f))
 have e3:=Heap.get?_update_self (Obj.mapFields (·.setIfInBounds 3 (fr.elim Value.none λ f=>dM f))) e2 (Obj.isFreed_of_fields d3)
 refine I.write (x:=T) (e:=T) (t':=s.toks) (by rw[ht];exact True.intro) (.inl rfl) (λ b u hb q=>?_) ⟨_,e3⟩ (Hq.mpr ⟨_,_,e3,d3,by simp[hsz]⟩)
 rw[Heap.get?_update_other _ _ (Ne.symm hb)]
 exact q
theorem LX{C e:ag}{dx:Option ag}{Q:Unit->au->Prop}{E:ao->au->Prop}{M:jJ}(I:Inv X pins σ H s)(LC:X.stack=X.env::X.outer)(JM:X.env.frame=some X.env.locals)(fl:Td C X.env.locals H e dx)
  (h:∀s' H',Inv X pins σ H' s'->C_ C (dM X.env.locals) H' e dx->NE H H'->Q () s'):aV M X.A (mv (.ref e) X.env) Q E s:=by
 have entry:∀(head:ao) (b:Bool) (tv:ao) (H:Hp) (s:au),Inv X pins σ H s->H e=some (Fj C e dx tv)->(∀s' H',Inv X pins σ H' s'->C_ C (dM X.env.locals) H' e dx->NE H H'->Q () s')->
   aV M X.A (do setField (.ref e) 1 (<-EntryCells.newEntry head (<-frameOf X.env) .none (dM X.env.locals) .none (<-entryPlaceOf X.env.locals b))) Q E s:=by
  intro head b tv H s I he h
  have hF:s.heap.FunFrames X.base (X.env::X.outer):=by have q:=I.stack;rw[LC]at q;exact q
  refine aq (wpAny_frameOf_fun (by rw[I.ok.frames,LC]) hF JM λ h1 hs1=>?_)
  have I1:=I.slots (h':=h1) (by rw[LC];exact hs1)
  refine aq (wpAny_entryPlaceOf λ pl vo=>?_)
  unfold EntryCells.newEntry newFields
  refine aq (jm ?_ (vo.sizeOk5 _ _ _ _ _))
  obtain⟨o,e1,vs,rfl,v1⟩:=rZ.mp (I1.oY e _ he)
  have e1:h1.get? e=some ⟨.ref C,dx,.fields vs,#[]⟩:=e1
  have I2:=I1.laid (a:=h1.objs.size) (o:=ZU h1.objs.size (dM X.env.locals)) (t':=s.toks) (h':=h1.push { cls:=.type "traceback",dict:=none,data:=.fields ([head,.ref X.env.locals,.none,dM X.env.locals,.none]++(if pl.isEmpty then cG 6 Value.none else pl)).toArray })
   (λ b u q=>Heap.get?_push_of_some _ q) (ax _) (Hq.mpr ⟨_,_,Heap.get?_push_size _ rfl,rfl,by simp⟩)
  have ne:h1.objs.size≠e:=fZ (Heap.lt_size e1)
  have e2:=Heap.get?_push_of_some (h:=h1) { cls:=.type "traceback",dict:=none,data:=.fields ([head,.ref X.env.locals,.none,dM X.env.locals,.none]++(if pl.isEmpty then cG 6 Value.none else pl)).toArray } e1
  have hsz:1<vs.size:=(Array.getElem?_eq_some_iff.mp v1).1
  refine iJ e2 rfl hsz ?_
  have e3:=Heap.get?_update_self (Obj.mapFields (·.setIfInBounds 1 (Value.ref h1.objs.size))) e2 rfl
  have he2:upd H h1.objs.size (ZU h1.objs.size (dM X.env.locals)) e=some (Fj C e dx tv):=by rw[m5 (Ne.symm ne)];exact he
  refine h _ (upd (upd H h1.objs.size (ZU h1.objs.size (dM X.env.locals))) e (Fj C e dx (.ref h1.objs.size)))
   (I2.write (x:=e) (e:=e) (t':=s.toks) (by rw[he2];exact True.intro) (.inl rfl) (λ b u hb q=>?_) ⟨_,e3⟩ (rZ.mpr ⟨_,e3,_,rfl,by simp[hsz]⟩))
   ⟨_,m4,ne,by rw[m5 ne,m4]⟩ ((NE.upd (.inl (I1.oY.fresh (ax _)))).trans (NE.upd (.inr ⟨_,he2⟩)))
  rw[Heap.get?_update_other _ _ (Ne.symm hb)]
  exact q
 unfold mv
 simp only[JM]
 rcases fl with he|⟨T,fl,he,xE,ht,hfl⟩
 ·obtain⟨o,e1,vs,rfl,v1⟩:=rZ.mp (I.oY e _ he)
  refine aq (cN e1 rfl v1 ?_)
  rw[if_neg (by decide)]
  exact entry _ _ _ H s I he h
 ·obtain⟨o,e1,vs,rfl,v1⟩:=rZ.mp (I.oY e _ he)
  obtain⟨oT,ts,e2,d2,v2⟩:=Hq.mp (I.oY T _ ht)
  refine aq (cN e1 rfl v1 ?_)
  rw[if_pos (show(Value.ref T != Value.none)=true from by simp)]
  refine aq (cN e2 d2 v2 ?_)
  rcases hfl with rfl|rfl
  ·rw[if_neg (show ¬ ((Value.none == dM X.env.locals)=true)from by simp[dM])]
   have hsz:3<ts.size:=(Array.getElem?_eq_some_iff.mp v2).1
   refine aq (iJ e2 d2 hsz ?_)
   have d3:=Obj.data_mapFields d2 (·.setIfInBounds 3 Value.none)
   have e3:=Heap.get?_update_self (Obj.mapFields (·.setIfInBounds 3 Value.none)) e2 (Obj.isFreed_of_fields d3)
   have I2:=I.write (x:=T) (e:=T) (o:=ZU T .none) (t':=s.toks) (h':=s.heap.update T (Obj.mapFields (·.setIfInBounds 3 Value.none))) (by rw[ht];exact True.intro) (.inl rfl) (λ b u hb q=>by rw[Heap.get?_update_other _ _ (Ne.symm hb)];exact q) ⟨_,e3⟩ (Hq.mpr ⟨_,_,e3,d3,by simp[hsz]⟩)
   exact entry _ _ _ _ _ I2 (by rw[m5 (Ne.symm xE)];exact he) λ s' H' I' n' k=>h s' H' I' n' ((NE.upd (.inr ⟨_,ht⟩)).trans k)
  ·rw[if_pos (show(dM X.env.locals == dM X.env.locals)=true from by first|(simp;done)|exact beq_self_eq_true _)]
   exact aM (h s H I ⟨T,he,xE,ht⟩ (NE.refl H))
end
end L2
namespace L2
open PySem PySem.Spec PyProof.Rows
def Calm(E:XK):Prop:=∀c d H H',NE H H'->E c d H->E c d H'
def BL(P:aJ)(w:aY)(C:ag):CY:=λ outer H s E e s'=>
 ∃a dx H',e= .ref a/\s'.os=s.os/\gq s'.gens/\Un (PX outer) [] H H' s.heap s'.heap/\zE P w H' s'.heap/\C_ C .none H' a (some dx)/\E (.ref C) (some dx) H'
def XW(X:Cx)(C:ag)(E:XK):ao->au->Prop:=λ e s'=>
 ∃a dx σ H',e= .ref a/\Inv X [] σ H' s'/\Td C X.env.locals H' a (some dx)/\E (.ref C) (some dx) H'
theorem C_.adE{C L:ag}{H:Hp}{e:ag}{dx:Option ag}(n:C_ C .none H e dx):Td C L H e dx:=by
 obtain⟨T,h1,h2,h3⟩:=n
 exact .inr ⟨T,_,h1,h2,h3,.inl rfl⟩
theorem C_.here{C L:ag}{H:Hp}{e:ag}{dx:Option ag}(n:C_ C (dM L) H e dx):Td C L H e dx:=by
 obtain⟨T,h1,h2,h3⟩:=n
 exact .inr ⟨T,_,h1,h2,h3,.inr rfl⟩
theorem Inv.WS{X:Cx}{pins:List (ag×Obj)}{σ:St}{H:Hp}{s:au}(I:Inv X pins σ H s):Inv X [] σ H s:=I.Lw λ p hp=>absurd hp (by simp)
section
variable{X:Cx}{pins:List (ag×Obj)}{σ:St}{H:Hp}{s:au}{C:ag}{E:XK}
theorem pq(hx:X.xe=XW X C E):Passes (BL X.prog X.w C) X E:=by
 intro pins σ H s e s' I h
 obtain⟨a,dx,H',rfl,os,bare,un,oY,n,q⟩:=h
 rw[hx]
 exact⟨a,dx,σ,H',rfl,(I.aaY os un oY bare (λ b z=>absurd z (by simp))).WS,n.adE,q⟩
theorem uI{fl:ao}{fr:Option ag}{e:ag}{dx:Option ag}{Q:Unit->au->Prop}{A:bU}{E':ao->au->Prop}{M:jJ}(I:Inv X pins σ H s)(n:C_ C fl H e dx)
  (h:∀s' H',Inv X pins σ H' s'->C_ C (fr.elim .none λ f=>dM f) H' e dx->NE H H'->Q () s'):aV M A (kx (.ref e) fr) Q E' s:=by
 obtain⟨T,h1,h2,h3⟩:=n
 exact UH I h1 h3 h2 λ s' I'=>h s' _ I' ⟨T,by rw[m5 (Ne.symm h2)];exact h1,h2,m4⟩ (NE.upd (.inr ⟨_,h3⟩))
theorem Te(LC:X.stack=X.env::X.outer)(JM:X.env.frame=some X.env.locals)(hx:X.xe=XW X C E)(hE:Calm E):mx (aS X.prog X.w) X.A X.env X.xe:=by
 rw[hx]
 rintro e s' ⟨a,dx,σ,H',rfl,I,fl,q⟩
 refine LX I LC JM fl λ s1 H1 I1 n1 k1=>?_
 obtain⟨T,h1,h2,h3⟩:=id n1
 obtain⟨o,e1,vs,rfl,v1⟩:=rZ.mp (I1.oY a _ h1)
 unfold cameBackBy
 refine aq (cN e1 rfl v1 ?_)
 rw[if_neg (show ¬ ((Value.ref T == Value.none)=true)from by simp)]
 rw[JM]
 refine uI I1 n1 λ s2 H2 I2 n2 k2=>⟨a,dx,σ,H2,rfl,I2,n2.here,hE _ _ _ _ (k1.trans k2) q⟩
end
theorem ZV{P:aJ}{w:aY}{K:ah}{mg:Str->Option ao}{base:bw}{N:List Str}{qual:Str}{scope:eQ}{f C:ag}{cd:ao}{A:bU}{outer:List Env}{s:au}{H:Hp}{E:XK}(hE:Calm E)(e:ao)(s':au)
  (h:XW (LI (BL P w C) P w K mg base N qual scope f cd A outer s H E) C E e s'):(LI (BL P w C) P w K mg base N qual scope f cd A outer s H E).xe e s':=by
 obtain⟨a,dx,σ,H1,rfl,I,fl,q⟩:=h
 show aV _ _ (leaving _ _) _ _ _
 unfold leaving
 refine aq (LX I rfl rfl fl λ s1 H1 I1 n1 k1=>uI (fr:=none) I1 n1 λ s2 H2 I2 n2 k2=>?_)
 exact⟨a,dx,H2,rfl,I2.os,I2.bare,I2.base,I2.oY,n2,hE _ _ _ _ (k1.trans k2) q⟩
abbrev Cx.err(X:Cx)(C:ag)(E:XK):Cx:=X.xS (XW X C E)
theorem XW.xS{X:Cx}{C:ag}{E:XK}{E':ao->au->Prop}:XW (X.xS E') C E=XW X C E:=by
 funext e s'
 refine propext ⟨?_,?_⟩
 ·rintro⟨a,dx,σ,H',h1,I,h3⟩
  exact⟨a,dx,σ,H',h1,I.sG,h3⟩
 ·rintro⟨a,dx,σ,H',h1,I,h3⟩
  exact⟨a,dx,σ,H',h1,I.xS _,h3⟩
theorem Cx.oF(X:Cx)(C:ag)(E:XK):(X.err C E).xe=XW (X.err C E) C E:=XW.xS.symm
theorem Lx.toX{X:Cx}{E':ao->au->Prop}{st:List bA}{t:TS}(h:Lx (X.xS E') st t)(hE:∀e s,E' e s->X.xe e s):Lx X st t:=λ pins s σ H D I hw=>
 cQ (h pins s σ H D (I.xS _) hw) (λ _ _ q=>q.sG) hE
theorem pJ.Wc{P:aJ}{w:aY}{K:ah}{mg:Str->Option ao}{base:bw}{x qual:Str}{st:bA}{f C:ag}{fd:bK}{N ps:List Str}{k:Nat}{sp:Sp}(F:pJ K x qual st f fd)(S:m_ N ps (m6 st))(len:∀vs H Q E,sp vs H Q E->vs.length=ps.length)
  (calm:∀vs H Q E,sp vs H Q E->Calm E)
  (NC:∀(oX:ao) (A:bU) (outer:List Env) (s:au) (H:Hp) (vs:List V) (Q:VK) (E:XK),qT k (A.deeper (iN qual (m6 st) s.heap.objs.size f oX))->sp vs H Q E->
   ∃t,Lx ((LI (BL P w C) P w K mg base N qual (m6 st) f oX A outer s H E).err C E) (qK st) t/\t { nx:=λ _ H'=>Q .qB H',rt:=Q } (start N vs) H):nU P w K mg base (BL P w C) (k+1) f fd ps sp:=by
 obtain⟨oc,od,kV,doc,pm,an,oX,ct,Kn,rfl,lk,Ly⟩:=F.ex
 refine aa2 lk Ly S len λ A outer s H vs Q E hr ND=>?_
 obtain⟨t,h,q⟩:=NC oX A outer s H vs Q E hr ND
 exact⟨t,h.toX λ e s' z=>ZV (calm _ _ _ _ ND) e s' z,q⟩
end L2
namespace L2
open PySem PySem.Spec PyProof.Rows
abbrev WT:List ao:=[.type "Exception",.type "BaseException",.type "object"]
structure ZW(K:ah)(C f:ag):Prop where
 obj:∃nm q N bs LY sn sub ab col dd k0 k1 k2 k3 k5,K.lookup C=some (lu nm q C N bs WT LY sn sub ab col dd k0 k1 k2 k3 k5 "Exception.__new__")/\
  ∃oN es ep,K.lookup N=some oN/\oN.data= .dict es ep/\StrKeys es/\mM es "__init__"=some (.ref f)
 fn:∃oI,K.lookup f=some oI/\oI.cls= .type "function"
 kp:bY K (.ref C)=true
theorem pQ.there{P:aJ}{w:aY}{H:Hp}{h:bw}{a:ag}{o:HO}(x:pQ P w H h a o):∃u,h.get? a=some u:=by
 cases o with
 |lst xs=>obtain⟨_,_,_,_,e⟩:=x;exact⟨_,e⟩
 |tup xs=>obtain⟨_,_,_,o,e,_⟩:=x;exact⟨_,e⟩
 |dK oJ=>obtain⟨_,_,_,_,o,_,_,e,_⟩:=x;exact⟨_,e⟩
 |dT oJ=>obtain⟨_,_,_,_,o,_,_,e,_⟩:=x;exact⟨_,e⟩
 |set S n=>obtain⟨o,_,_,_,e,_⟩:=x;exact⟨_,e⟩
 |ins C dx fs=>obtain⟨_,_,_,e,_⟩:=x;exact⟨_,e⟩
 |own y=>exact x
 |xd fs=>obtain⟨_,⟨_,_,_,e,_⟩,_⟩:=x;exact⟨_,e⟩
 |rng lo hi=>obtain⟨_,_,_,e⟩:=x;exact⟨_,e⟩
 |JL ob u=>obtain⟨e,_⟩:=x;exact⟨_,e⟩
 |tbl ps=>exact⟨_,(show h.get? a=some _ from x)⟩
 |met f y=>exact⟨_,(show h.get? a=some _ from x)⟩
 |ext φ=>exact x.2.1
section
variable{X:Cx}{pins:List (ag×Obj)}{σ:St}{H:Hp}{s:au}
theorem Inv.gap(I:Inv X pins σ H s){a:ag}(h:s.heap.get? a=none):H a=none:=by
 cases q:H a with
 |none=>rfl
 |some o=>
  obtain⟨u,e⟩:=(I.oY a o q).there
  rw[h]at e;cases e
theorem Inv.adF{a:ag}{o:HO}{t':Nat}{h':bw}(I:Inv X pins σ H s)(k:∀b u,s.heap.get? b=some u->h'.get? b=some u)(hp:s.heap.get? a=none)(new:pQ X.prog X.w (upd H a o) h' a o):
  Inv X pins σ (upd H a o) { s with heap:=h',toks:=t' }:=by
 have hn:=I.gap hp
 refine I.un ⟨λ b u q _ _ _=>k b u q,λ b u q _ _ _=>⟨u.slots,k b u q⟩,λ b u q n _=>?_,λ b u q _=>⟨u,k b u q⟩,λ b xs q=>by rw[m5 (nH q hn)];exact q,λ b u xs q=>by rw[m5 (nH q hn)];exact q,λ b ps q=>⟨#[],by rw[m5 (nH q hn),q];simp⟩⟩ ?_
 ·rw[m5 (by rintro rfl;rw[hp]at q;cases q)];exact n
 ·intro b u e
  by_cases hb:b=a
  ·subst hb;rw[m4]at e;cases e;exact new
  ·rw[m5 hb]at e
   exact(I.oY b u e).Eh (λ c v _ q=>k c v q) (λ c q=>by rw[m5 (nH q hn)];exact q) λ c xs q=>by rw[m5 (nH q hn)];exact q
theorem UI{CX:CY}{k:Nat}{C f:ag}{fd:bK}{ps:List Str}{sp:Sp}{E:XK}{Q:VK}{us:List ao}{vs:List V}(M:ZW X.K C f)(F:nU X.prog X.w X.K X.mg X.base CX k f fd ps sp)(hr:qT (k+1) X.A)(hb:Binds X.K fd ps [])
  (hx:Passes CX X E)(I:Inv X pins σ H s)(r:Vals vs us)(hlen:us.length<=ay)
  (h:∀e,H e=none->sp (.ref e::vs) (upd H e (Fj C e none .none)) (λ v H2=>v= .qB/\Q (.ref e) H2) E):
  aV (aS X.prog X.w) X.A (call (.ref C) us) (EP X pins σ Q) X.xe s:=by
 obtain⟨nm,q,N,bs,LY,sn,sub,ab,col,dd,k0,k1,k2,k3,k5,hC,oN,es,ep,hN,hNd,hNk,hNi⟩:=M.obj
 obtain⟨oI,hI,hIc⟩:=M.fn
 have KX:=I.Ff
 obtain⟨hh,g,d,t,os⟩:=s
 refine wpAny_call_exc_init (mN:=λ x=>mM es x) (F:=jf) (KX _ _ hC) ⟨oN,es,ep,KX _ _ hN,hNd,hNk,λ _=>rfl⟩ hNi (KX _ _ hI) hIc (λ h' e hm=>?_) hlen
 obtain⟨ta,he,_,_⟩:=hm.there
 have I2:=I.adF (a:=e) (o:=Fj C e none .none) (t':=t) (h':=h') hm.keeps hm.new (rZ.mpr ⟨_,he,_,rfl,rfl⟩)
 have hq:=h e (I.gap hm.new)
 have r2:Vals (V.ref e::vs) (Value.ref e::us):=.cons rfl r
 have hl:(Value.ref e::us++[]).length=ps.length:=by
  have z:=r2.length
  rw[F.len _ _ _ _ hq]at z
  rw[bD]
  exact z.symm
 refine jd (dX (F.run _ X.stack _ _ ⟨Value.ref e::us,[]⟩ (Value.ref e::us) _ _ E (hr.make C us []) (I2.abD.make C us []) (by have z:=hb ⟨h',g,d,t,os⟩ (Value.ref e::us) I2.Ff hl;rw[bD]at z;exact z) r2 hq) λ r s' SH=>?_)
 cases r with
 |error e=>exact hx pins σ _ _ e s' I2 SH
 |ok fl=>
  cases fl with
  |ret u=>
   obtain⟨v,H',I3,rv,ev,q3⟩:=I2.after SH
   subst ev
   exact⟨rv,⟨V.ref e,H',I3,rfl,q3⟩⟩
  |next=>exact False.elim SH
  |brk=>exact False.elim SH
  |cont=>exact False.elim SH
end
def ab1(C:ag)(sp:Sp)(E:XK)(t:TA):TE:=λ σ H Q=>t σ H λ vs H1=>vs.length<=1000/\∀e,H1 e=none->sp (.ref e::vs) (upd H1 e (Fj C e none .none)) (λ v H2=>v= .qB/\Q (.ref e) H2) E
theorem WU{X:Cx}{CX:CY}{k:Nat}{f C:ag}{fd:bK}{ps:List Str}{sp:Sp}{E:XK}{x:Str}{p pos:Pos}{e:bJ}{es:List bJ}{t:TA}(M:ZW X.K C f)(F:nU X.prog X.w X.K X.mg X.base CX k f fd ps sp)(hr:qT (k+1) X.A)(hg:Gl X x)(hm:X.mg x=some (.ref C))(hb:Binds X.K fd ps [])(hx:Passes CX X E)
  (ha:PA X (e::es) t)(PM:(x == ("__debug__":Str))=false:=by decide)(he:aN (e::es) X.env=(false,cu e X.env)::aN es X.env:=by rfl)(vo:(c7 pos (aN es X.env)).any (·.1)=false:=by rfl):
  PE X (.Call (.Name x p) (e::es) [] pos) (ab1 C sp E t):=by
 intro pins s σ H Q I h
 refine cZ (xR I hg hm ?_ PM)
 refine dJ (h₀:=X.base) I.ok.mod.Zo M.kp (pN (ha pos pins s σ H _ I h) λ us s1 ⟨vs,H1,I1,r,z,q⟩=>⟨I1.Ff,?_⟩) he vo
 exact UI M F hr hb hx I1 r (by rw[gW,<-r.length];exact aT z (by decide)) q
def ab2(C:ag)(E:XK)(te:TE):TS:=λ D σ H=>te σ H λ v H1=>∃e dx,v= .ref e/\H1 e=some (Fj C e (some dx) .none)/\E (.ref C) (some dx) H1
theorem WV{X:Cx}{C:ag}{E:XK}{te:TE}{x:bJ}{pos:Pos}(hc:X.calm=true)(hx:X.xe=XW X C E)(EC:tI X.K C)(hty:fN X.K (.ref C)=some (.type "type"))(he:PE X x te):PS X (.Raise (some x) none pos) (ab2 C E te):=by
 intro pins s σ H D I h
 rw[arm_exec_Raise]
 refine aq (gQ ?_)
 show aV _ _ (raiseStmt X.env (some (do let v <-cu x X.env;iu pos;pure v)) none) _ _ _
 unfold raiseStmt
 refine aq (aq (pN (he pins s σ H _ I h) λ v s1 ⟨vv,H1,I1,rv,q⟩=>aq (gQ (aM ?_))))
 obtain⟨e,dx,rfl,h1,q⟩:=q
 obtain rfl:v=Value.ref e:=rv
 obtain⟨o,e1,vs,rfl,v1⟩:=rZ.mp (I1.oY e _ h1)
 obtain⟨cd,Ly,LV,_⟩:=EC.cd
 have KX:=I1.Ff
 have TY:ia (aS X.prog X.w) s1.heap (lR (.ref e)) (.ref C):=(PySem.W.Looks.ld e1).andThen .now
 have IT:ia (aS X.prog X.w) s1.heap (isType (.ref e)) false:=(PySem.W.Looks.ld e1).andThen .now
 have IB:ia (aS X.prog X.w) s1.heap (lT (.ref e) (.type "BaseException")) true:=TY.andThen (PySem.W.looks_mroIn KX (by unfold PySem.W.mroIn;rw[Ly,dE,LV];rfl))
 have TC:ia (aS X.prog X.w) s1.heap (lR (.ref C)) (.type "type"):=PySem.W.looks_typeIn KX hty
 refine aq (aM (aq (fR ?_)))
 unfold excFromValue isExcClass
 refine aq (aq (IT.here (aM ?_)))
 rw[if_neg (by decide)]
 refine aq (IB.here ?_)
 rw[if_pos rfl]
 refine aM ?_
 refine aq (IT.here ?_)
 rw[if_neg (by decide)]
 unfold raisedInstance
 refine aq (aq (TY.here (aq (TC.here ?_))))
 rw[if_pos (show(Value.type "type" == Value.type "type")=true from by decide)]
 refine aM (aq ?_)
 unfold kx
 refine aq (cN e1 rfl v1 ?_)
 rw[if_neg (by decide)]
 refine aM (wpAny_raiseNew_none (I1.ok.hd hc) ?_)
 rw[hx]
 exact⟨e,dx,σ,H1,rfl,I1.WS,.inl h1,q⟩
end L2
namespace L2
open PySem PySem.Spec PyProof.Rows
def UJ(C:ag)(t:TA):TE:=λ σ H Q=>t σ H λ vs H1=>∃e dx tv rest,vs= .ref e::rest/\rest.length<=1000/\H1 e=some (Fj C e dx tv)/\Q .qB H1
section
variable{X:Cx}{pins:List (ag×Obj)}{σ:St}{H:Hp}{s:au}
theorem UK{C e f:ag}{dx:Option ag}{tv:ao}{us:List ao}{Q:VK}(M:ZW X.K C f)(I:Inv X pins σ H s)(he:H e=some (Fj C e dx tv))(hl:us.length<=ay)(q:Q .qB H):
  aV (aS X.prog X.w) X.A (call (.builtin "Exception.__init__") (.ref e::us)) (EP X pins σ Q) X.xe s:=by
 obtain⟨nm,qn,N,bs,LY,sn,sub,ab,col,dd,k0,k1,k2,k3,k5,hC,_⟩:=M.obj
 obtain⟨o,e1,vs,rfl,v1⟩:=rZ.mp (I.oY e _ he)
 have hC':=I.Ff _ _ hC
 have F:=jf
 have hsz:0<vs.size:=iZ Nat.zero_lt_one (Array.getElem?_eq_some_iff.mp v1).1
 have fin:∀h',(∀b o,b≠e->s.heap.get? b=some o->h'.get? b=some o)->h'.get? e=some ⟨.ref C,dx,.fields (vs.setIfInBounds 0 (.ref s.heap.objs.size)),#[]⟩->EP X pins σ Q .none { s with heap:=h' }:=by
  intro h' k e3
  refine⟨.qB,upd H e (Fj C e dx tv),I.write (x:=e) (e:=e) (t':=s.toks) (by rw[he];exact True.intro) (.inl rfl) (λ b u hb z=>k b u hb z) ⟨_,e3⟩ (rZ.mpr ⟨_,e3,_,rfl,?_⟩),rfl,?_⟩
  ·rw[Array.getElem?_setIfInBounds_ne (by decide)];exact v1
  ·have z:upd H e (Fj C e dx tv)=H:=by
    funext b
    by_cases hb:b=e
    ·subst hb;rw[m4,he]
    ·rw[m5 hb]
   rw[z];exact q
 obtain⟨hh,g,d,t,os⟩:=s
 refine jd (iK F.init.plain F.initEntry (wpAny_check_init_sub F hC' e1 rfl ?_))
 unfold jg.«BaseException.__init__» Builtin.BaseException.bexcPut newTuple
 refine aq (jm ?_ hl)
 obtain⟨old,h0⟩:∃old,vs[0]? =some old:=⟨_,Array.getElem?_eq_getElem hsz⟩
 have e2:=Heap.get?_push_of_some (h:=hh) { cls:=.type "tuple",data:=.seq us.toArray } e1
 refine aq (aq (cN e2 rfl h0 (aq (iJ e2 rfl hsz ?_))))
 have e3:=Heap.get?_update_self (Obj.mapFields (·.setIfInBounds 0 (Value.ref hh.objs.size))) e2 rfl
 have z:=fin ((hh.push { cls:=.type "tuple",data:=.seq us.toArray }).update e (Obj.mapFields (·.setIfInBounds 0 (Value.ref hh.objs.size)))) (λ b o hb q=>by rw[Heap.get?_update_other _ _ (Ne.symm hb)];exact Heap.get?_push_of_some _ q) e3
 cases old <;> first|exact aM (aM z)|exact jG (aM z)
theorem WW:lR (.type "Exception")=pure (.type "type"):=by kernel_rfl
theorem WX:Manifest.isStub "Exception"=false:=by decide +kernel
theorem JW(K:ah):PySem.W.findCls K (.type "Exception") (.type "type") "__init__"=some (.val (.builtin "Exception.__init__")):=by rfl
theorem NT{C f:ag}{e:bJ}{es:List bJ}{t:TA}{p0 apos pos:Pos}{pl:Sem Bool}(M:ZW X.K C f)(hg:Gl X "Exception")(hm:X.mg "Exception"=none)(ha:PA X (e::es) t)
  (he:aN (e::es) X.env=(false,cu e X.env)::aN es X.env:=by rfl)(vo:(c7 pos (aN es X.env)).any (·.1)=false:=by rfl)
  (ht:cu (.Call (.Attribute (.Name "Exception" p0) "__init__" apos) (e::es) [] pos) X.env=(do
   let ov <-cu (.Name "Exception" p0) X.env
   iu apos.atName
   let(f,first) <-gp [ov] (hZ ov "__init__" pl)
   jq pos f first (c7 pos (aN (e::es) X.env)) (h_ pos (fj [] X.env))):=by rfl):
  PE X (.Call (.Attribute (.Name "Exception" p0) "__init__" apos) (e::es) [] pos) (UJ C t):=by
 intro pins s σ H Q I h
 refine gJ (pl:=pl) (vh I hg hm (u:=.type "Exception") (by rfl) ?_) ht
 obtain⟨m,Fr⟩:=I.fr
 refine PySem.W.method_type Fr I.ok.mod.Zo WW WX (JW X.K) (by decide +kernel) ?_
 have I':=I.tok (s.toks+1)
 refine ib (pN (ha pos pins _ σ H _ I' h) λ us s1 ⟨vs,H1,I1,r1,e',dx,tv,rest,ev,hl,h1,q1⟩=>?_) he vo
 subst ev
 cases r1 with
 |cons r0 r2=>
  cases r0
  exact UK M I1 h1 (by rw[<-r2.length];exact aT hl (by decide)) q1
def DxO(dx:ag)(fs:List (Str×V)):HO:=.ext λ h=>∃mA,h.Ns1 dx mA/\(∀f,wQ (fs.lookup f) (mA f))/\eU mA (fs.map (·.1))
theorem WY{P:aJ}{w:aY}{H:Hp}{h:bw}{dx:ag}{fs:List (Str×V)}:pQ P w H h dx (DxO dx fs)↔ ∃mA,h.Ns1 dx mA/\(∀f,wQ (fs.lookup f) (mA f))/\eU mA (fs.map (·.1)):=by
 constructor
 ·intro z
  exact z.1
 ·intro z
  obtain⟨mA,n,r,w'⟩:=z
  obtain⟨o,es,ep,e,c⟩:=id n
  exact⟨⟨mA,n,r,w'⟩,⟨o,e⟩,λ h1 h2 ⟨mB,⟨o',V9,ep',e',c'⟩,r',w2⟩ k=>⟨mB,⟨o',V9,ep',k o' e',c'⟩,r',w2⟩⟩
def ab3(K:ah)(C:ag)(ta tv:TE)(f:Str):TS:=λ D σ H=>tv σ H λ y H1=>ta σ H1 λ x H2=>∃e tv,x= .ref e/\H2 e=some (Fj C e none tv)/\oE K C f/\∀dx,H2 dx=none->dx≠e->
 D.nx σ (upd (upd H2 e (Fj C e (some dx) tv)) dx (DxO dx [(f,y)]))
theorem WZ{C:ag}{o value:bJ}{f:Str}{pos pos':Pos}{ta tv:TE}(EC:tI X.K C)(ha:PE X o ta)(hv:PE X value tv)(hs:hX value (some (.Attribute o f pos')) pos.line X.env=pure false:=by rfl):PS X (.Assign [.Attribute o f pos'] value pos) (ab3 X.K C ta tv f):=by
 intro pins s σ H D I h
 refine fJ (pN (hv pins s σ H _ I h) λ u s1 ⟨y,H1,I1,ry,q⟩=>pN (ha pins s1 σ H1 _ I1 q) λ ov s2 ⟨x,H2,I2,rx,e,tv,ex,h2,n,q2⟩=>?_) hs
 subst ex
 obtain rfl:ov=Value.ref e:=rx
 obtain⟨o,e1,vs,rfl,v1⟩:=rZ.mp (I2.oY e _ h2)
 have lt:=Heap.lt_size e1
 refine WQ I2.Ff e1 EC n λ h' g1 g2 g3=>?_
 have hn:=I2.oY.fresh (ax s2.heap.objs.size)
 refine⟨σ,_,?_,q2 s2.heap.objs.size hn (fZ lt)⟩
 have nx:∀b u,s2.heap.get? b=some u->b≠s2.heap.objs.size:=λ b u z=>bL (Heap.lt_size z)
 have tr:∀b u,H2 b=some u->(∀φ,u≠ .ext φ)->b≠e/\b≠s2.heap.objs.size:=λ b u z nu=>⟨λ w=>(by rw[w,h2]at z;exact nu _ (Option.some.inj z).symm),nH z hn⟩
 refine I2.un (h':=h') (t':=s2.toks+2) ⟨λ b u z n _ _=>g3 b u (λ w=>by rw[w,h2]at n;cases n) z,λ b u z n _ _=>⟨u.slots,g3 b u (λ w=>by rw[w,h2]at n;cases n) z⟩,λ b u z n _=>?_,λ b u z _=>?_,λ b xs z=>?_,λ b u xs z=>?_,λ b ps z=>?_⟩ ?_
 ·rw[m5 (nx b u z),m5 (λ w=>by rw[w,h2]at n;cases n)];exact n
 ·by_cases hb:b=e
  ·exact⟨_,by rw[hb];exact g1⟩
  ·exact⟨u,g3 b u hb z⟩
 ·obtain⟨p1,p2⟩:=tr b _ z (λ φ=>by intro w;cases w)
  rw[m5 p2,m5 p1];exact z
 ·obtain⟨p1,p2⟩:=tr b _ z (λ φ=>by intro w;cases w)
  rw[m5 p2,m5 p1];exact z
 ·obtain⟨p1,p2⟩:=tr b _ z (λ φ=>by intro w;cases w)
  exact⟨#[],by rw[m5 p2,m5 p1,z];simp⟩
 ·intro b u z
  by_cases hb:b=s2.heap.objs.size
  ·subst hb
   rw[m4]at z;cases z
   refine WY.mpr ⟨_,g2,λ g=>?_,λ g hg=>?_⟩
   ·show wQ (dv g [(f,y)]) (if g=f then some u else none)
    by_cases q:g=f
    ·have hb:(g == f)=true:=beq_iff_eq.mpr q
     simp only[dv,hb,if_pos q];exact ry
    ·have hb:(g == f)=false:=beq_eq_false_iff_ne.mpr q
     simp only[dv,hb,if_neg q];exact True.intro
   ·by_cases q:g=f
    ·simp[q]
    ·exact absurd (show(if g=f then some u else none)=none from if_neg q) hg
  ·rw[m5 hb]at z
   by_cases Wi:b=e
   ·subst Wi
    rw[m4]at z;cases z
    exact rZ.mpr ⟨_,g1,_,rfl,v1⟩
   ·rw[m5 Wi]at z
    refine(I2.oY b u z).Eh (λ c v hc w=>g3 c v ?_ w) (λ c w=>?_) λ c xs w=>?_
    ·rcases hc with rfl|hc
     ·exact Wi
     ·exact(tr c _ hc (λ φ=>by intro w;cases w)).1
    ·obtain⟨p1,p2⟩:=tr c _ w (λ φ=>by intro w;cases w)
     rw[m5 p2,m5 p1];exact w
    ·obtain⟨p1,p2⟩:=tr c _ w (λ φ=>by intro w;cases w)
     rw[m5 p2,m5 p1];exact w
def ab4(K:ah)(C:ag)(ta tv:TE)(f:Str):TS:=λ D σ H=>tv σ H λ y H1=>ta σ H1 λ x H2=>∃e tv dx fs,x= .ref e/\H2 e=some (Fj C e (some dx) tv)/\dx≠e/\H2 dx=some (DxO dx fs)/\fs.length<=50/\oE K C f/\
 D.nx σ (upd H2 dx (.xd (wb f y fs)))
theorem W9{C:ag}{o value:bJ}{f:Str}{pos pos':Pos}{ta tv:TE}(EC:tI X.K C)(ha:PE X o ta)(hv:PE X value tv)(hs:hX value (some (.Attribute o f pos')) pos.line X.env=pure false:=by rfl):PS X (.Assign [.Attribute o f pos'] value pos) (ab4 X.K C ta tv f):=by
 intro pins s σ H D I h
 refine fJ (pN (hv pins s σ H _ I h) λ u s1 ⟨y,H1,I1,ry,q⟩=>pN (ha pins s1 σ H1 _ I1 q) λ ov s2 ⟨x,H2,I2,rx,e,tv,dx,fs,ex,h2,ne,hd,hl,n,q2⟩=>?_) hs
 subst ex
 obtain rfl:ov=Value.ref e:=rx
 obtain⟨o,e1,vs,rfl,v1⟩:=rZ.mp (I2.oY e _ h2)
 obtain⟨mA,hn,hr,hw⟩:=WY.mp (I2.oY dx _ hd)
 refine WR I2.Ff e1 ne hn EC n hw (by rw[aa];omega) λ h' g1 g2 g3=>?_
 refine⟨σ,upd H2 dx (.xd (wb f y fs)),I2.write (x:=dx) (e:=dx) (o:=.xd (wb f y fs)) (t':=s2.toks+2) (by rw[hd];exact True.intro) (.inl rfl) (λ b v hb z=>g3 b v hb z) (let⟨o,_,_,w,_⟩:=g2;⟨o,w⟩) ⟨_,g2,λ g=>?_⟩,q2⟩
 show wQ ((wb f y fs).lookup g) (if g=f then some u else mA g)
 rw[zJ]
 by_cases q:g=f
 ·rw[if_pos q,if_pos q];exact ry
 ·rw[if_neg q,if_neg q];exact hr g
def aa5(K:ah)(C:ag)(ta:TE)(f:Str):TE:=λ σ H Q=>ta σ H λ x H1=>∃e tv dx fs v,x= .ref e/\H1 e=some (Fj C e (some dx) tv)/\H1 dx=some (.xd fs)/\oE K C f/\fs.lookup f=some v/\Q v H1
theorem ZX{C:ag}{e:bJ}{f:Str}{pos:Pos}{ta:TE}(EC:tI X.K C)(hk:oE X.K C "__getattr__")(he:PE X e ta)(hb:dN e f X.env (cu e X.env)=cu e X.env:=by rfl):PE X (.Attribute e f pos) (aa5 X.K C ta f):=by
 intro pins s σ H Q I h
 refine SG hb (pN (he pins s σ H _ I h) λ u s1 ⟨x,H1,I1,rx,a,tv,dx,fs,v,ex,h1,hd,n,l,q⟩=>?_)
 subst ex
 obtain rfl:u=Value.ref a:=rx
 obtain⟨o,e1,vs,rfl,v1⟩:=rZ.mp (I1.oY a _ h1)
 obtain⟨mA,hn,hr⟩:=(show pQ X.prog X.w H1 s1.heap dx (.xd fs)from I1.oY dx _ hd)
 obtain⟨w,hw,wc⟩:=wQ.some_of (v:=v) (o:=mA f) (by rw[<-l];exact hr f)
 obtain⟨od,ho,hlk⟩:=Kh hn
 obtain⟨cd,Ly,LV,hhd⟩:=EC.cd
 have lk:eS f od=some (some w):=by rw[hlk f,hw]
 refine ZT (od:=some od) I1.Ff ⟨e1,rfl,rfl,ho⟩ EC hk ?_ (Ki wc) ⟨v,H1,I1.tok _,wc,q⟩
 unfold PySem.W.findObj
 rw[Ly,dE,show bx X.K (.ref C) f=some none from n]
 unfold PySem.W.ownOf
 rw[hhd]
 show((eS f od).bind _)=_
 rw[lk]
 rfl
end
end L2
namespace L2
open PySem PySem.Spec PyProof.Rows
abbrev Cx.pinned(X:Cx)(pn:List (ag×Obj)):Cx:={ X with pn:=pn }
abbrev Cx.inH(X:Cx)(e:ag):Cx:={ X with A:=X.A.mark (some (.ref e)),calm:=false,xe:=λ _ _=>False }
section
variable{X:Cx}{pins:List (ag×Obj)}{σ:St}{H:Hp}{s:au}
theorem Cx.Ok.pinned(ok:X.Ok)(pn:List (ag×Obj)):(X.pinned pn).Ok:=⟨ok.mod,ok.kind,ok.glob,ok.blt,ok.above,ok.inj,ok.has,ok.cab,ok.hd,ok.frames,ok.stk,ok.exf,ok.bs,ok.Ss,ok.Nv,ok.Nw,ok.Bg,ok.VZ⟩
theorem Cx.Ok.xA{pn:List (ag×Obj)}(ok:(X.pinned pn).Ok):X.Ok:=⟨ok.mod,ok.kind,ok.glob,ok.blt,ok.above,ok.inj,ok.has,ok.cab,ok.hd,ok.frames,ok.stk,ok.exf,ok.bs,ok.Ss,ok.Nv,ok.Nw,ok.Bg,ok.VZ⟩
theorem Inv.ab5(I:Inv X pins σ H s):Inv (X.pinned (X.pn++pins)) [] σ H s:=⟨I.ok.pinned _,I.os,I.bare,I.base,I.loc,I.cell,I.free,I.uC,λ p hp=>I.pin p (by simpa using hp),I.oY,I.len⟩
theorem Inv.tY(I:Inv (X.pinned (X.pn++pins)) [] σ H s):Inv X pins σ H s:=⟨I.ok.xA,I.os,I.bare,I.base,I.loc,I.cell,I.free,I.uC,λ p hp=>I.pin p (by simpa using hp),I.oY,I.len⟩
theorem Inv.inH(I:Inv X pins σ H s)(e:ag):Inv (X.inH e) pins σ H s:=⟨⟨I.ok.mod,I.ok.kind,I.ok.glob,I.ok.blt,I.ok.above,I.ok.inj,I.ok.has,I.ok.cab,(λ z=>cf z),I.ok.frames,I.ok.stk,I.ok.exf,I.ok.bs,I.ok.Ss,I.ok.Nv,I.ok.Nw,I.ok.Bg,I.ok.VZ⟩,I.os,I.bare,I.base,I.loc,I.cell,I.free,I.uC,I.pin,I.oY,I.len⟩
theorem Inv.ZY{e:ag}(ok:X.Ok)(I:Inv (X.inH e) pins σ H s):Inv X pins σ H s:=⟨ok,I.os,I.bare,I.base,I.loc,I.cell,I.free,I.uC,I.pin,I.oY,I.len⟩
theorem SP.tY{E':ao->au->Prop}{D:Ends}{f:Flow}(h:SP ((X.pinned (X.pn++pins)).xS E') [] D f s):SP X pins D f s:=by
 cases f with
 |next=>obtain⟨σ',H',I,q⟩:=h;exact⟨σ',H',I.sG.tY,q⟩
 |brk=>obtain⟨σ',H',I,q⟩:=h;exact⟨σ',H',I.sG.tY,q⟩
 |cont=>obtain⟨σ',H',I,q⟩:=h;exact⟨σ',H',I.sG.tY,q⟩
 |ret u=>obtain⟨v,σ',H',I,r,q⟩:=h;exact⟨v,σ',H',I.sG.tY,r,q⟩
theorem GZ{M:jJ}{A:bU}{E:ao->au->Prop}{i:Nat}{n:Str}{pos:Pos}{Q:Unit->au->Prop}(I:Inv X pins σ H s)(hN:X.N.Nodup)(hi:X.N[i]? =some n)(hk:X.env.scope.names.lookup n=some .local)
  (h:∀s',Inv X pins (σ.set i none) H s'->Q () s'):aV M A (do bindName X.env n .none;unbindBehindTheSuite X.env n pos) Q E s:=by
 obtain⟨m,hn,hl⟩:=id I.loc
 have abl:(X.env.scope.kind == .class || (X.env.scope.kind == .module && X.env.locals != X.env.globals))=false:=by rw[I.ok.kind];rfl
 have hiσ:i<σ.length:=by rw[I.len];exact(List.getElem?_eq_some_iff.mp hi).1
 refine wpAny_nameGoes_keeps hk hn abl λ h' v hn' hs=>h _ ?_
 obtain⟨oL,_,_,hoL,_⟩:=id hn
 have below:∀b o,X.JR.heap.get? b=some o->b≠X.env.locals:=λ b o e=>bL (aU (Heap.lt_size e) I.ok.above)
 refine⟨I.ok,I.os,I.bare,⟨λ b o e n hb hx=>(hs.2 b (below b o e)).trans (I.base.keep b o e n hb hx),λ b o e n hb hx=>?_,I.base.free,λ b o e hx=>?_,I.base.JP,I.base.GC,I.base.JQ⟩,⟨_,hn',λ j y v' e1 e2 e3=>?_⟩,λ y c e=>?_,I.free,I.uC,λ p hp=>?_,λ b ob e=>?_,by simpa using I.len⟩
 ·obtain⟨sl,e1⟩:=I.base.slot b o e n hb hx
  exact⟨sl,(hs.2 b (below b o e)).trans e1⟩
 ·obtain⟨o',e1⟩:=I.base.there b o e hx
  exact⟨o',(hs.2 b (below b o e)).trans e1⟩
 ·have hj:j≠i:=by
   rintro rfl
   rw[cO hiσ]at e2
   cases e2
  rw[fH (Ne.symm hj)]at e2
  obtain⟨u',r',q⟩:=hl j y v' e1 e2 e3
  refine⟨u',r',?_⟩
  rcases q with⟨k,e⟩|⟨k,c,e,z⟩
  ·refine .inl ⟨k,?_⟩
   have ne:y≠n:=λ e=>hj (C0 hN e1 (e ▸ hi))
   simp[ne,e]
  ·exact .inr ⟨k,c,e,z.sameBut hs (I.Zp y c e)⟩
 ·obtain⟨w',z⟩:=I.cell y c e
  exact⟨w',z.sameBut hs (I.Zp y c e)⟩
 ·obtain⟨e,n,ne,nf,d⟩:=I.pin p hp
  exact⟨(hs.2 p.1 ne).trans e,n,ne,nf,d⟩
 ·refine(I.oY b ob e).Eh (λ c w' hc q=>(hs.2 c ?_).trans q) (λ _ q=>q) λ _ _ q=>q
  rintro rfl
  rcases hc with rfl|hc
  ·rw[I.free]at e;cases e
  ·rw[I.free]at hc;cases hc
def aeO(C:ag)(i:Nat)(tb th:TS)(Eb:XK):TS:=λ D σ H=>tb D σ H/\∀(σ':St) (H1:Hp) (e dx:ag) (tv:ao),σ'.length=σ.length->H1 e=some (Fj C e (some dx) tv)->Eb (.ref C) (some dx) H1->
 th { nx:=λ σ2 H2=>D.nx (σ2.set i none) H2,rt:=D.rt,bk:=λ σ2 H2=>D.bk (σ2.set i none) H2,ct:=λ σ2 H2=>D.ct (σ2.set i none) H2 } (σ'.set i (some (.ref e))) H1
theorem ab6{C f:ag}{i:Nat}{n x:Str}{body:List bA}{b0:bA}{aa6:List bA}{tb th:TS}{Eb:XK}{xD aeP pos:Pos}(LC:X.stack=X.env::X.outer)(JM:X.env.frame=some X.env.locals)(M:ZW X.K C f)
  (hg:Gl X x)(hm:X.mg x=some (.ref C))(hN:X.N.Nodup)(hi:X.N[i]? =some n)(hk:X.env.scope.names.lookup n=some .local)(hE:Calm Eb)
  (hb:∀pn,Lx ((X.pinned pn).err C Eb) body tb)(hh:∀e,Lx (X.inH e) (b0::aa6) th)(PM:(x == ("__debug__":Str))=false:=by decide):
  PS X (.Try body [.ExceptHandler (some (.Name x xD)) (some n) (b0::aa6) aeP] [] [] pos) (aeO C i tb th Eb):=by
 intro pins s σ H D I h
 obtain⟨h1,h2⟩:=h
 refine wpAny_Try_except (cQ (hb (X.pn++pins) [] s σ H D (I.ab5.xS _) h1) (λ fl s1 q=>?_) λ ev s1 q=>?_)
 ·cases fl with
  |next=>exact gh (SP.tY q)
  |brk=>exact SP.tY q
  |cont=>exact SP.tY q
  |ret v=>exact SP.tY q
 ·obtain⟨a,dx,σ1,H1,rfl,I1,fl,q⟩:=q
  refine LX (X:=X.pinned (X.pn++pins)) I1 LC JM fl λ s2 H2 I2 n2 k2=>?_
  refine uI (fr:=none) I2 n2 λ s3 H3 I3 n3 k3=>?_
  have J3:Inv X pins σ1 H3 s3:=I3.tY
  obtain⟨nm,qn,N,bs,LY,sn,sub,ab,col,dd,k0,k1,k2',k3',k5,hC,_⟩:=M.obj
  have hC3:=J3.Ff _ _ hC
  have lenσ:σ1.length=σ.length:=I3.len.trans I.len.symm
  obtain⟨T3,x1,x2,x3⟩:=id n3
  obtain⟨o,e1,vs,rfl,v1⟩:=rZ.mp (J3.oY a _ x1)
  refine wpAny_handleBy_cons (codeAny_handlers_test (xR (X:=X.inH a) (J3.inH a) hg hm ?_ PM)) (by intro w;cases w)
  obtain⟨NU,g3,d3,t3,os3⟩:=s3
  refine wpAny_excMatches_sub_self hC3 e1 rfl (by decide +kernel) ?_
  refine codeAny_handlers_suite_as (uI (fr:=none) (A:=X.A.mark (some (.ref a))) J3 n3 λ s4 H4 I4 n4 k4=>?_)
  refine C1 (v:=.ref a) I4 hN hi (.inl hk) rfl (λ s5 I5=>?_) (.inr hk)
  obtain⟨T4,y1,y2,y3⟩:=n4
  have E4:Eb (.ref C) (some dx) H4:=hE _ _ _ _ ((k2.trans k3).trans k4) q
  refine cQ (hh a pins s5 _ H4 _ (I5.inH a) (h2 σ1 H4 a dx _ lenσ y1 E4)) (λ fl s6 q6=>?_) λ _ _ z=>z.elim
  cases fl with
  |next=>
   obtain⟨σ6,H6,I6,q6⟩:=q6
   exact GZ (I6.ZY I.ok) hN hi hk λ s7 I7=>⟨_,H6,I7,q6⟩
  |brk=>
   obtain⟨σ6,H6,I6,q6⟩:=q6
   exact GZ (I6.ZY I.ok) hN hi hk λ s7 I7=>⟨_,H6,I7,q6⟩
  |cont=>
   obtain⟨σ6,H6,I6,q6⟩:=q6
   exact GZ (I6.ZY I.ok) hN hi hk λ s7 I7=>⟨_,H6,I7,q6⟩
  |ret v=>
   obtain⟨v',σ6,H6,I6,r6,q6⟩:=q6
   exact GZ (I6.ZY I.ok) hN hi hk λ s7 I7=>⟨v',_,H6,I7,r6,q6⟩
end
end L2
namespace L2
open PySem PySem.Spec PyProof.Rows
structure Walk(J:It)(H1:Hp)(n:Nat)(F:Nat->V->Hp->Prop):Prop where
 go:∀i H,i<n->m8 H1 H->J.go i H
 Ha:∀i H x H',i<n->m8 H1 H->J.Ha i H x H'->F i x H'/\m8 H H'
 stop:∀H,m8 H1 H->J.stop n H
theorem oZ{J:It}{H1:Hp}{n:Nat}{F:Nat->V->Hp->Prop}{g:TG}{tt:TT}{te:TE}{vs:List Nat}{σ:L2.St}{Q:ag->Hp->Prop}(W:Walk J H1 n F)(ys:List V)(hlen:ys.length=n)(hz:n<=ay)
  (hs:∀i x y H (R:V->Hp->Prop) (N:Hp->Prop),ys[i]? =some y->m8 H1 H->F i x H->(∀H4,m8 H H4->R y H4)->g x (wipe σ vs) H λ σ2 H2=>wipe σ2 vs=wipe σ vs/\tt σ2 H2 λ b H3=>if b=true then te σ2 H3 R else N H3)
  (fin:∀D H,H1 D=none->m8 H1 H->H D=some (.lst ys)->Q D H)(D:ag)(hD:H1 D=none):
  ∃W:Nat->Nat->Hp->Prop,(∃m,W 0 m (upd H1 D (.lst [])))/\∀i m H,W i m H->
   (J.stop i H/\Q D H)\/(J.go i H/\∃Nx:Hp->Prop,(∀H',Nx H'->∃m',m'<m/\W (i+1) m' H')/\∀x H',J.Ha i H x H'->g x (wipe σ vs) H' λ σ2 H2=>wipe σ2 vs=wipe σ vs/\tt σ2 H2 λ b H3=>
    if b=true then te σ2 H3 λ y H4=>∃acc,H4 D=some (.lst acc)/\acc.length<ay/\Nx (upd H4 D (.lst (acc++[y])))else Nx H3):=by
 refine⟨λ i m H=>m=n-i/\i<=n/\m8 H1 H/\H D=some (.lst (ys.take i)),⟨n,by omega,aE _,λ b o e=>by rw[m5 (nH e hD)];exact e,m4⟩,?_⟩
 rintro i m H ⟨rfl,hi,sm,hd⟩
 by_cases rO:i<n
 ·refine .inr ⟨W.go i H rO sm,λ H'=>i+1<=n/\m8 H1 H'/\H' D=some (.lst (ys.take (i+1))),λ H' z=>⟨n-(i+1),by omega,rfl,z⟩,λ x H' y=>?_⟩
  obtain⟨hF,wg⟩:=W.Ha i H x H' rO sm y
  have hy:ys[i]? =some ys[i]:=af (by omega)
  refine hs i x _ H' _ _ hy (sm.trans wg) hF λ H4 Np=>?_
  have hd4:H4 D=some (.lst (ys.take i)):=Np _ _ (wg _ _ hd)
  refine⟨_,hd4,?_,rO,λ b o e=>?_,?_⟩
  ·rw[bW];omega
  ·rw[m5 (nH e hD)];exact Np _ _ (wg _ _ (sm _ _ e))
  ·rw[m4,bZ,hy];rfl
 ·have e:i=n:=by omega
  subst e
  refine .inl ⟨W.stop H sm,fin D H hD sm ?_⟩
  rw[hd,cq (by omega)]
theorem oU{K:ah}{H1:Hp}{a:ag}{xs:List V}(h:nF K H1 a xs):Walk (Itl K a) H1 xs.length (λ i x _=>xs[i]? =some x) where
 go:=λ i H hi sm=>⟨xs,xs[i],sm.seq h,af hi⟩
 Ha:=λ i H x H' hi sm y=>by
  obtain⟨rfl,y⟩:=y
  exact⟨y xs (sm.seq h),m8.refl _⟩
 stop:=λ H sm=>⟨xs,sm.seq h,ax _⟩
theorem m8.new{H:Hp}{T:ag}{o:HO}(h:H T=none):m8 H (upd H T o):=λ b u e=>by
 rw[m5 (nH e h)];exact e
theorem UL{K:ah}{H1:Hp}{a:ag}{xs:List V}(h:nF K H1 a xs):Walk (Ite K a) H1 xs.length (λ i v H=>∃T x,v= .ref T/\xs[i]? =some x/\H T=some (.tup [.int (i:Nat),x])) where
 go:=λ i H hi sm=>⟨xs,xs[i],sm.seq h,af hi⟩
 Ha:=λ i H x H' hi sm y=>by
  obtain⟨T,z,rfl,hT,rfl,y⟩:=y
  exact⟨⟨T,z,rfl,y xs (sm.seq h),m4⟩,m8.new hT⟩
 stop:=λ H sm=>⟨xs,sm.seq h,ax _⟩
theorem Hr{K:ah}{H1:Hp}{a b:ag}{xs ys:List V}(h:nF K H1 a xs)(h':nF K H1 b ys)(hl:xs.length=ys.length):Walk (Itz K a b) H1 xs.length (λ i v H=>∃T x y,v= .ref T/\xs[i]? =some x/\ys[i]? =some y/\H T=some (.tup [x,y])) where
 go:=λ i H hi sm=>⟨xs,ys,xs[i],ys[i],sm.seq h,sm.seq h',af hi,af (by omega)⟩
 Ha:=λ i H x H' hi sm y=>by
  obtain⟨T,z,z',rfl,hT,rfl,y,y'⟩:=y
  exact⟨⟨T,z,z',rfl,y xs (sm.seq h),y' ys (sm.seq h'),m4⟩,m8.new hT⟩
 stop:=λ H sm=>⟨xs,ys,sm.seq h,sm.seq h',.inl (ax _)⟩
theorem xW(K:ah){X:Cx}{e:bJ}{f:Str}{pos:Pos}{ta:TE}(he:PE X e ta)(hK:X.K=K:=by rfl)(hb:dN e f X.env (cu e X.env)=cu e X.env:=by rfl):PE X (.Attribute e f pos) (abA K ta f):=by
 subst hK;exact nr he hb
theorem tZ(K:ah){X:Cx}{a b:bJ}{pos:Pos}{ta tb:TE}(ha:PE X a ta)(hb:PE X b tb)(hK:X.K=K:=by rfl)(hs:SK b:=by exact λ _ _=>rfl):PE X (.Subscript a b pos) (tOp (adk K) ta tb):=by
 subst hK;exact pd oh ha hb hs
theorem sE{σ:L2.St}{H:Hp}{A B:Hp->Prop}(h:A H):ado σ H λ b H3=>if b=true then A H3 else B H3:=by
 show if true=true then A H else B H
 rw[if_pos rfl];exact h
theorem pD.of{N:List Str}{sc scope:eQ}{own:List (Str×Nat)}(h:scope.kind= .function/\(∀y∈scope.names,scope.names.lookup y.1=some y.2)/\(∀p∈own,N[p.2]? =some p.1)/\
  (∀y∈scope.names,y.2= .free->sc.names.lookup y.1=some .cell\/sc.names.lookup y.1=some .free)/\∀y∈scope.names,y.2= .local\/y.2= .cell->y.1∈own.map (·.1)\/y.1∉N):pD N sc scope own:=⟨h.1,h.2.1,h.2.2.1,h.2.2.2.1,h.2.2.2.2⟩
def Keeps(X:Cx)(CX:CY)(g:ag)(sp:Sp):Prop:=∃k fd ps,nU X.prog X.w X.K X.mg X.base CX k g fd ps sp/\qT k X.A/\bY X.K (.ref g)=true/\Binds X.K fd ps []
def ab7(X:Cx)(CX:CY)(E:XK)(tf:TE)(t:TA):TE:=λ σ H Q=>tf σ H λ v H1=>∃g sp,v= .ref g/\Keeps X CX g sp/\t σ H1 λ vs H2=>sp vs H2 Q E
theorem W_{X:Cx}{CX:CY}{E:XK}{o i e:bJ}{es:List bJ}{tf:TE}{t:TA}{ZZ pos:Pos}(hf:PE X (.Subscript o i ZZ) tf)(hx:Passes CX X E)(ha:PA X (e::es) t)
  (he:aN (e::es) X.env=(false,cu e X.env)::aN es X.env:=by rfl)(vo:(c7 pos (aN es X.env)).any (·.1)=false:=by rfl)
  (ht:cu (.Call (.Subscript o i ZZ) (e::es) [] pos) X.env=(do jq pos (<-cu (.Subscript o i ZZ) X.env) [] (c7 pos (aN (e::es) X.env)) (h_ pos (fj [] X.env))):=by rfl):
  PE X (.Call (.Subscript o i ZZ) (e::es) [] pos) (ab7 X CX E tf t):=by
 intro pins s σ H Q I h
 rw[ht]
 refine aq (pN (hf pins s σ H _ I h) λ u s1 ⟨v,H1,I1,rv,g,sp,ev,kp,q⟩=>?_)
 subst ev
 obtain rfl:u=Value.ref g:=rv
 obtain⟨k,fd,ps,F,hr,hk,hb⟩:=kp
 refine dJ (h₀:=X.base) I.ok.mod.Zo hk (pN (ha pos pins s1 σ H1 _ I1 q) λ us s2 ⟨vs,H2,I2,r,q2⟩=>⟨I2.Ff,?_⟩) he vo
 have q3:sp (vs++[]) H2 Q E:=by rw[bD];exact q2
 exact LH F hr hb .nil hx I2 r q3
end L2
namespace L2
open PySem PySem.Spec PyProof.Rows
theorem qi{N P:List Str}{sc:eQ}(a:sc.kind= .function:=by rfl)(b:sc.isCoroutine=false:=by rfl)(c:sc.isGenerator=false:=by rfl)(d:N.Nodup:=by decide +kernel)(e:N.take P.length=P:=by rfl)(f:∀x∈P,sc.names.lookup x=some .local\/sc.names.lookup x=some .cell:=by decide +kernel)(g:∀y∈sc.names,y.2≠ .free:=by decide +kernel):m_ N P sc:=⟨a,b,c,d,e,f,g⟩
abbrev tu:List Str:=["search","numbers","row"]
end L2
namespace oj
end oj
open PySem PySem.Spec PyProof.Rows L2
open Vbmrac (Tok Toks Bad bytesOf wordAhead mustWord semi numAt nameAt placeOf KEYS cellOf cellsAt membersAt teamsAt tokens isLetter isDigit isText nats inside mass gain left total more cellAt greatest gains deal less line decimal written wouldFind lowest timeSum goesAhead putIn ordered thriftRow thriftTable thriftFrom thrift slots canSearch augment slotFor teamsFrom teamDeal canMake Use State Field isRow isCell nums qRow tooMany room timesOf expected listed doing efforts none_ weighed)
variable{P:aJ}{w:aY}{K:ah}{mg:Str->Option ao}{base:bw}{f CS CF CC CT CB C CR CP:ag}{fd:bK}
namespace oj
def top(i:Nat):bA:=PySem.Challenge.pw_searchefforts_s01_answers.main.body.getD i (.Pass ⟨0,0,0,0⟩)
abbrev Es:bA:=top 2
abbrev BM:bA:=top 3
abbrev Dc:bA:=top 4
abbrev AV:bA:=top 5
abbrev Qu:bA:=top 6
abbrev Et:bA:=top 7
abbrev BN:bA:=top 8
abbrev LZ:bA:=top 9
abbrev Eu:bA:=top 11
abbrev BO:bA:=top 12
abbrev BP:bA:=top 13
abbrev BQ:bA:=top 14
abbrev wU:bA:=top 17
abbrev xX:bA:=top 18
abbrev Ew:bA:=inClass (top 20) 0
abbrev Ex:bA:=inClass (top 21) 0
abbrev BR:bA:=inClass (top 22) 0
abbrev BS:bA:=inClass (top 38) 0
abbrev L4:bA:=top 39
abbrev xY:bA:=top 40
abbrev xZ:bA:=top 41
abbrev Ey:bA:=top 42
abbrev Hs:bA:=top 43
abbrev ab8:bA:=top 44
abbrev tJ:bA:=inClass (top 60) 0
abbrev zQ:bA:=inClass (top 61) 0
abbrev x9:bA:=inClass (top 61) 1
abbrev wV:bA:=inClass (top 61) 2
abbrev zR:bA:=inClass (top 61) 3
abbrev uj:bA:=inClass (top 61) 4
abbrev uk:bA:=inClass (top 61) 5
abbrev um:bA:=inClass (top 61) 6
abbrev sL:bA:=inClass (top 61) 7
abbrev vq:bA:=inClass (top 61) 8
abbrev AW:bA:=top 62
abbrev BU:bA:=top 63
abbrev zS:bA:=top 64
abbrev Ez:bA:=top 65
abbrev x_:bA:=top 66
abbrev BV:bA:=top 67
abbrev zT:bA:=inClass (top 69) 0
abbrev sM:bA:=inClass (top 69) 1
abbrev wW:bA:=inClass (top 69) 2
abbrev wX:bA:=inClass (top 69) 3
abbrev uJ:bA:=inClass (top 69) 4
abbrev sN:bA:=inClass (top 69) 5
abbrev sO:bA:=inClass (top 69) 6
abbrev uK:bA:=inClass (top 69) 7
abbrev t6:bA:=inClass (top 69) 8
abbrev zU:bA:=inClass (top 69) 9
abbrev Dd:bA:=top 71
abbrev Xa:bA:=top 72
abbrev EA:bA:=top 73
abbrev AX:bA:=top 74
abbrev Qv:bA:=top 75
abbrev BW:bA:=inClass (top 77) 0
abbrev wu:bA:=inClass (top 77) 1
abbrev uL:bA:=top 78
abbrev ya:bA:=top 79
abbrev AY:bA:=top 80
abbrev De:bA:=top 81
abbrev vt:bA:=top 82
abbrev AZ:bA:=top 83
abbrev yc:bA:=top 85
abbrev Df:bA:=top 86
abbrev vw:bA:=top 87
abbrev yd:bA:=top 88
abbrev ye:bA:=top 103
abbrev BX:bA:=top 104
abbrev BY:bA:=top 105
abbrev EB:bA:=top 106
abbrev ED:bA:=top 107
abbrev rP:bA:=top 108
abbrev yf:bA:=top 109
abbrev A0:bA:=top 110
abbrev Ht:bA:=top 111
abbrev BZ:bA:=top 112
abbrev EE:bA:=top 113
abbrev B0:bA:=top 114
abbrev B_:bA:=top 115
abbrev zV:bA:=top 116
abbrev Ca:bA:=top 117
abbrev yg:bA:=top 118
abbrev Cb:bA:=top 119
abbrev Hu:bA:=top 120
abbrev Cc:bA:=top 121
abbrev zW:bA:=top 122
abbrev Cd:bA:=top 123
abbrev EF:bA:=top 128
abbrev Hv:bA:=top 129
end oj
namespace L2
section
variable{X:Cx}
def Tf:Nat:=2 ^ 8000
def Tg(i j:Int):Prop:=0<j/\j<(Tf:Int)
theorem Dg:Ed X (gE .FloorDiv) (rI Tg λ i j=>.int (i / j)):=opI λ i j _ _ _ _ _ hc q=>by
 have h1:(0:Int)<j:=hc.1
 have h2:j<(Tf:Int):=hc.2
 refine floordiv_int (by omega) (by rw[Int.fdiv_eq_ediv_of_nonneg i (by omega)];exact q) (.inl (PyProof.noPylong_of_log2 ?_))
 have h3:j.natAbs<Tf:=by omega
 by_cases hz:j.natAbs=0
 ·rw[hz];decide
 ·exact iZ ((mI hz).mpr h3) (by decide)
end
end L2
namespace oj
def GI(H:Hp)(Q:VK)(xs:List V):Prop:=∀H' p,m8 H H'->H p=none->H' p=some (.lst xs)->Q (.ref p) H'
def Hw:Sp:=λ vs H Q _=>∃u l:Nat,vs=[.int u,.int l]/\0<l/\l<Tf/\u<Tf/\GI H Q [.int ((u / k6 u l:Nat)),.int ((l / k6 u l:Nat))]
theorem Hx:m_ ["upper","lower","divisor","rest","smaller"] ["upper","lower"] (m6 Es):=qi
theorem Qw(F:pJ K "fraction" "fraction" Es f fd):nU P w K mg base oH 1 f fd ["upper","lower"] Hw:=by
 refine F.ok Hx (λ vs H Q E h=>?_) (λ oX A outer s H vs Q E hr h=>?_)
 ·obtain⟨u,l,rfl,_⟩:=h
  rfl
 ·obtain⟨u,l,rfl,hl,hb,hub,k⟩:=h
  have nd:=Hx.nd
  refine⟨_,mY (m9 (i:=2) nd rfl (Or.inl rfl) (pv 1)) (mY (m9 (i:=3) nd rfl (Or.inl rfl) (pv 0))
   (mY (rN PassesOwn.never (ot Bk (pv 3) nP (oM _))
    (mY (m9 (i:=4) nd rfl (Or.inl rfl) (om abw (pv 2) (pv 3))) (mY (m9 (i:=2) nd rfl (Or.inl rfl) (pv 3)) (m7 (m9 (i:=3) nd rfl (Or.inl rfl) (pv 4))))))
   (m7 (nq (nQ (mX (om Dg (pv 0) (pv 2)) (mX (om Dg (pv 1) (pv 2)) mZ))))))),?_⟩
  refine⟨_,rfl,_,rfl,?_⟩
  refine⟨λ m σ H'=>∃(d:Nat) (sm:Option V),H'=H/\σ=[some (.int u),some (.int l),some (.int d),some (.int (m:Nat)),sm]/\0<d/\d<Tf/\m<Tf/\k6 d m=k6 u l,⟨u,l,none,rfl,rfl,hl,hb,hub,j4 l u⟩,?_⟩
  rintro r σ H' ⟨d,sm,rfl,rfl,hd,PM,hrb,hg⟩
  refine⟨_,rfl,_,_,rfl,rfl,_,rfl,qa (λ hc=>?_) λ hc=>?_⟩
  ·have Xb:0<r:=by
    have:=of_decide_eq_true hc
    omega
   refine⟨_,λ _ _ z=>z,_,rfl,_,rfl,_,_,rfl,rfl,(by show(0:Int)<(r:Int);omega),_,rfl,_,rfl,?_⟩
   have e:((d:Int) % (r:Int))=((d % r:Nat):Int):=(Int.natCast_emod d r).symm
   refine⟨d % r,mR d Xb,r,some (.int ((d % r:Nat):Int)),rfl,?_,Xb,hrb,iZ (mR d Xb) hrb,?_⟩
   ·rw[<-e];rfl
   ·rw[<-hg,j4 d r,Nat.gcd_rec r d,j4]
  ·have Xb:r=0:=by
    have:¬ (0:Int)<(r:Int):=λ q=>hc (decide_eq_true q)
    omega
   subst Xb
   rw[Nat.gcd_zero_right]at hg
   have e1:∀x:Int,Tg x (d:Int):=λ x=>⟨by omega,by omega⟩
   refine⟨_,rfl,_,rfl,_,_,rfl,rfl,e1 _,_,rfl,_,rfl,_,_,rfl,rfl,e1 _,(by show 2<=ay;decide),λ p hp=>?_⟩
   refine k _ p (λ b o e=>by rw[m5 (nH e hp)];exact e) hp ?_
   rw[m4,hg]
   rfl
end oj
namespace L2
def L5(o:Obj):Bool:=match o.data with
 | .dict es _=>es.toList.all λ e=>match e.key with | .str _ _=>true|_=>false
 |_=>false
theorem ab9{K:ah}{C f N:ag}{nm q:Str}{bs:List ao}{LY:Bool}{sn:List Str}{sub:List ao}{ab:Bool}{col:Option Bool}{dd:Option ag}{k0 k1 k2 k3 k5:Option ao}{oN oI:Obj}
  (lC:K.lookup C=some (lu nm q C N bs WT LY sn sub ab col dd k0 k1 k2 k3 k5 "Exception.__new__"))(lN:K.lookup N=some oN)(hN:L5 oN=true)(hi:bt K N "__init__"=some (some (.ref f)))(lI:K.lookup f=some oI)(cI:oI.cls= .type "function")
  (kp:bY K (.ref C)=true):ZW K C f:=by
 refine⟨⟨nm,q,N,bs,LY,sn,sub,ab,col,dd,k0,k1,k2,k3,k5,lC,oN,?_⟩,⟨oI,lI,cI⟩,kp⟩
 obtain⟨oc,od,da,sl⟩:=oN
 unfold L5 at hN
 cases da with
 |dict es ep=>
  refine⟨es,ep,lN,rfl,λ e he=>?_,?_⟩
  ·have z:=List.all_eq_true.mp hN e (by simpa using he)
   split at z
   ·rename_i n t hk
    exact⟨n,t,hk⟩
   ·cases z
  ·unfold bt at hi
   rw[lN]at hi
   dsimp only at hi
   split at hi
   ·rename_i en he
    have ev:en.val=Value.ref f:=Option.some.inj (Option.some.inj hi)
    unfold mM findBy
    rw[<-Array.find?_toList,he,<-ev]
    rfl
   ·split at hi <;> cases hi
 |_=>cases hN
theorem UM{K:ah}{C:ag}{cd:ClassData}(c:jl K C=some cd)(m:cd.mro=[.ref C,.type "Exception",.type "BaseException",.type "object"])(h:cd.hasDict=true)
  (sa:bx K (.ref C) "__setattr__"=some (some (.builtin "object.__setattr__")))(ga:bx K (.ref C) "__getattribute__"=some (some (.builtin "BaseException.__getattribute__"))):tI K C:=⟨⟨cd,c,m,h⟩,sa,ga⟩
end L2
namespace oj
abbrev wd(k p:V):HO:=.xd (wb "place" p [("kind",k)])
def Fl(C:ag):Sp:=λ vs H Q _=>∃(e:ag) (tv:ao) (k p:V),vs=[.ref e,k,p]/\H e=some (Fj C e none tv)/\
 ∀H' dx,H' e=some (Fj C e (some dx) tv)->H' dx=some (wd k p)->NE H H'->Q .qB H'
theorem NV:m_ ["self","kind","place"] ["self","kind","place"] (m6 tJ):=qi
theorem NW{f C:ag}{fd:bK}(F:pJ K "__init__" "Wrong.__init__" tJ f fd)(M:ZW K C f)(EC:tI K C)(hm:mg "Exception"=none)(n1:oE K C "kind")(n2:oE K C "place"):
  nU P w K mg base oH 1 f fd ["self","kind","place"] (Fl C):=by
 refine F.ok NV (λ vs H Q E h=>?_) (λ oX A outer s H vs Q E hr h=>?_)
 ·obtain⟨e,tv,k,p,rfl,_⟩:=h
  rfl
 ·obtain⟨e,tv,k,p,rfl,he,kk⟩:=h
  refine⟨_,mY (og (NT M rfl hm (mX (pv 0) (mX qp mZ)))) (mY (WZ EC (pv 0) (pv 1)) (m7 (W9 EC (pv 0) (pv 2)))),?_⟩
  refine⟨_,rfl,e,none,tv,_,rfl,(by show 1<=1000;decide),he,_,rfl,_,rfl,e,tv,rfl,he,n1,λ dx hdx xE=>?_⟩
  refine⟨_,rfl,_,rfl,e,tv,dx,_,rfl,?_,xE,m4,(by show 1<=50;decide),n2,?_⟩
  ·rw[m5 (Ne.symm xE),m4]
  ·refine kk _ dx ?_ m4 ?_
   ·rw[m5 (Ne.symm xE),m5 (Ne.symm xE),m4]
   ·have a1:NE H (upd H e (Fj C e (some dx) tv)):=NE.upd (.inr ⟨_,he⟩)
    have a2:NE (upd H e (Fj C e (some dx) tv)) (upd (upd H e (Fj C e (some dx) tv)) dx (DxO dx [("kind",k)])):=NE.upd (.inl (by rw[m5 xE];exact hdx))
    exact(a1.trans a2).trans (NE.upd (.inr ⟨_,m4⟩))
abbrev nY(t:List Nat):List V:=t.map λ(n:Nat)=>V.int (n:Int)
def ph(t:List Nat)(start lo hi:Nat):Nat:=((t.drop start).takeWhile λ c=>decide (lo<=c) && decide (c<=hi)).length
theorem NX{t:List Nat}{start lo hi:Nat}(h:t.length<=start):ph t start lo hi=0:=by
 unfold ph;rw[gP h];rfl
theorem rp{t:List Nat}{start lo hi c:Nat}(h:t[start]? =some c):ph t start lo hi=if lo<=c/\c<=hi then ph t (start+1) lo hi+1 else 0:=by
 unfold ph
 obtain⟨hl,e⟩:=List.getElem?_eq_some_iff.mp h
 rw[d9 hl,e,List.takeWhile_cons]
 by_cases h1:lo<=c <;> by_cases h2:c<=hi <;> simp[h1,h2]
theorem Kw(t:List Nat)(start lo hi:Nat):start+ph t start lo hi<=max start t.length:=by
 unfold ph
 have h1:((t.drop start).takeWhile λ c=>decide (lo<=c) && decide (c<=hi)).length<=(t.drop start).length:=(g0 _).length_le
 rw[gG]at h1
 omega
theorem oV{t:List Nat}{i c:Nat}(h:t[i]? =some c):(nY t)[i]? =some (V.int c):=by rw[ak,h];rfl
def NY(K:ah):Sp:=λ vs H Q _=>∃(a:ag) (t:List Nat) (start lo hi:Nat),vs=[.ref a,.int start,.int lo,.int hi]/\nF K H a (nY t)/\start<=t.length/\Q (.int ((start+ph t start lo hi:Nat))) H
theorem NZ:m_ ["text","start","low","high","end"] ["text","start","low","high"] (m6 L4):=qi
theorem Xc(F:pJ K "run_end" "run_end" L4 f fd)(hlen:mg "len"=none):nU P w K mg base oH 1 f fd ["text","start","low","high"] (NY K):=by
 refine F.ok NZ (λ vs H Q E h=>?_) (λ oX A outer s H vs Q E hr h=>?_)
 ·obtain⟨a,t,start,lo,hi,rfl,_⟩:=h
  rfl
 ·obtain⟨a,t,start,lo,hi,rfl,hs,LC,k⟩:=h
  have nd:=NZ.nd
  refine⟨_,mY (m9 (i:=4) nd rfl (Or.inl rfl) (pv 1)) (mY (rN PassesOwn.never (PW.pt (Ei (ot Hc (pv 4) (nN nO rfl hlen aX (mX (pv 0) mZ)) (oM _)) (AQ (vm p_ p_ (pv 2) (pd oh (pv 0) (pv 4) (λ _ _=>rfl)) (pv 3)))))
   (m7 (G_ (i:=4) nd rfl (Or.inl rfl) nP zH))) (m7 (nq (pv 4)))),?_⟩
  refine⟨_,rfl,λ m σ H'=>∃e:Nat,H'=H/\σ=[some (.ref a),some (.int start),some (.int lo),some (.int hi),some (.int e)]/\e<=t.length/\m=t.length-e/\e+ph t e lo hi=start+ph t start lo hi,⟨_,start,rfl,rfl,LC,rfl,rfl⟩,?_⟩
  rintro m σ H' ⟨e,rfl,rfl,he,rfl,heq⟩
  refine⟨_,rfl,_,rfl,a,_,rfl,.inl hs,_,_,rfl,rfl,_,rfl,?_⟩
  have fin:ph t e lo hi=0->acZ (Zq 4) { nx:=λ _ H''=>Q .qB H'',rt:=Q } [some (.ref a),some (.int start),some (.int lo),some (.int hi),some (.int e)] H':=λ z=>by
   refine⟨_,rfl,?_⟩
   have z2:e=start+ph t start lo hi:=by omega
   show Q (.int (e:Int)) H'
   rw[z2];exact k
  refine qa (λ hc=>?_) λ hc=>?_
  ·have rO:e<t.length:=by
    have z:=of_decide_eq_true hc
    rw[aa]at z
    omega
   have EG:t[e]? =some t[e]:=af rO
   have Xd:=rp (lo:=lo) (hi:=hi) EG
   refine⟨_,rfl,_,rfl,_,rfl,a,_,_,_,rfl,rfl,hs,ou (oV EG),_,_,rfl,rfl,_,rfl,?_⟩
   refine qa (λ h1=>?_) λ h1=>?_
   ·refine⟨_,rfl,_,_,rfl,rfl,_,rfl,qa (λ h2=>?_) λ h2=>?_⟩
    ·have g1:=of_decide_eq_true h1
     have g2:=of_decide_eq_true h2
     rw[if_pos ⟨by omega,by omega⟩]at Xd
     refine⟨_,λ _ _ z=>z,_,rfl,_,_,rfl,rfl,t.length-(e+1),by omega,e+1,rfl,?_,rO,rfl,by omega⟩
     show[_,_,_,_,some (V.int ((e:Int)+1))]=_
     rw[show((e:Int)+1)=((e+1:Nat):Int)from rfl]
    ·have g2:¬ ((t[e]:Nat):Int)<=hi:=λ q=>h2 (decide_eq_true q)
     rw[if_neg (by omega)]at Xd
     exact fin Xd
   ·have g1:¬ (lo:Int)<=((t[e]:Nat):Int):=λ q=>h1 (decide_eq_true q)
    rw[if_neg (by omega)]at Xd
    exact⟨_,rfl,rK (fin Xd)⟩
  ·have hge:t.length<=e:=by
    have z:¬ (e:Int)<((nY t).length:Int):=λ q=>hc (decide_eq_true q)
    rw[aa]at z
    omega
   exact rK (fin (NX hge))
end oj
namespace L2
def oG(mg:Str->Option ao)(x:Str)(n:Int):Prop:=∃t,mg x=some (.int n t)
def Bi(mg:Str->Option ao)(x:Str)(z:Str):Prop:=∃t,mg x=some (.str z t)
theorem nV{X:Cx}{x:Str}{n:Int}{pos:Pos}(hm:oG X.mg x n)(hg:Gl X x:=by rfl)(hd:(x == ("__debug__":Str))=false:=by decide):PE X (.Name x pos) (tC (.int n)):=by
 obtain⟨t,e⟩:=hm
 exact Lz hg e ⟨t,rfl⟩ hd
theorem wx{X:Cx}{x z:Str}{pos:Pos}(hm:Bi X.mg x z)(hg:Gl X x:=by rfl)(hd:(x == ("__debug__":Str))=false:=by decide):PE X (.Name x pos) (tC (.str z)):=by
 obtain⟨t,e⟩:=hm
 exact Lz hg e ⟨t,rfl⟩ hd
def rC(P:aJ)(w:aY)(K:ah)(mg:Str->Option ao)(base:bw)(CX:CY)(k:Nat)(x:Str)(ps:List Str)(sp:Sp):Prop:=
 ∃f fd,nU P w K mg base CX k f fd ps sp/\mg x=some (.ref f)/\bY K (.ref f)=true/\Binds K fd ps []
theorem nA{X:Cx}{CX:CY}{E:XK}{k j:Nat}{x:Str}{ps:List Str}{sp:Sp}{e:bJ}{es:List bJ}{t:TA}{p pos:Pos}(h:rC X.prog X.w X.K X.mg X.base CX k x ps sp)(hr:qT j X.A)(hj:k<=j)(hx:Passes CX X E)(ha:PA X (e::es) t)(hg:Gl X x:=by rfl)
  (PM:(x == ("__debug__":Str))=false:=by decide)(he:aN (e::es) X.env=(false,cu e X.env)::aN es X.env:=by rfl)(vo:(c7 pos (aN es X.env)).any (·.1)=false:=by rfl):
  PE X (.Call (.Name x p) (e::es) [] pos) (tCB (λ vs H Q=>sp vs H Q E) t):=by
 obtain⟨f,fd,F,m,kp,b⟩:=h
 intro pins s σ H Q I hw
 have z:=Zx (pos:=pos) (p:=p) F (hr.mono hj) hg m kp b .nil hx ha PM he vo
 refine z pins s σ H Q I ?_
 show t σ H λ vs H1=>sp (vs++[]) H1 Q E
 have e2:(λ vs H1=>sp (vs++[]) H1 Q E)=(λ(vs:List V) (H1:Hp)=>sp vs H1 Q E):=by funext vs H1;rw[bD]
 rw[e2];exact hw
def Hy(C:ag)(fl:List Str):Sp:=λ vs H Q _=>∃x dx args,vs= .ref x::args/\args.length=fl.length/\H x=some (.ins C dx [])/\∀H',H' x=some (.ins C dx (fl.zip args))->(∀b o,H b=some o->b≠x->H' b=some o)->Q .qB H'
structure Rec(P:aJ)(w:aY)(K:ah)(mg:Str->Option ao)(base:bw)(x:Str)(C:ag)(fl:List Str):Prop where
 cl:GP K C
 nm:mg x=some (.ref C)
 na:∀f∈fl,oE K C f
 mkr:∃f fd,Mk K C f/\nU P w K mg base oH 1 f fd ("self"::fl) (Hy C fl)/\Binds K fd ("self"::fl) []
def aeQ(C:ag)(fl:List Str)(t:TA):TE:=λ σ H Q=>t σ H λ vs H1=>vs.length=fl.length/\∀x dx H2,H1 x=none->H2 x=some (.ins C dx (fl.zip vs))->m8 H1 H2->Q (.ref x) H2
theorem vx{X:Cx}{j:Nat}{x:Str}{C:ag}{fl:List Str}{e:bJ}{es:List bJ}{t:TA}{p pos:Pos}(h:Rec X.prog X.w X.K X.mg X.base x C fl)(hr:qT j X.A)(hj:2<=j)(ha:PA X (e::es) t)(hg:Gl X x:=by rfl)
  (PM:(x == ("__debug__":Str))=false:=by decide)(he:aN (e::es) X.env=(false,cu e X.env)::aN es X.env:=by rfl)(vo:(c7 pos (aN es X.env)).any (·.1)=false:=by rfl):
  PE X (.Call (.Name x p) (e::es) [] pos) (aeQ C fl t):=by
 obtain⟨f,fd,M,F,b⟩:=h.mkr
 intro pins s σ H Q I hw
 refine cZ (xR I hg h.nm ?_ PM)
 refine dJ (h₀:=X.base) I.ok.mod.Zo M.kp (pN (ha pos pins s σ H _ I hw) λ us s1 ⟨vs,H1,I1,r,hl,q⟩=>⟨I1.Ff,?_⟩) he vo
 refine Hi (E:=E0) M F (hr.mono hj) b .nil (λ _ _ _ _ _ _ _ z=>z.elim) I1 r λ y dy hy hdy ne=>?_
 refine⟨y,dy,vs,by rw[bD],hl,m4,λ H' h1 h2=>⟨rfl,q y dy H' hy h1 (m8.made hy hdy h2)⟩⟩
end L2
namespace oj
theorem N0:m_ ["self","kind","value","place"] ["self","kind","value","place"] (m6 BS):=qi
theorem N1{f C:ag}{fd:bK}(F:pJ K "__init__" "Piece.__init__" BS f fd)(cl:GP K C)(na:∀g∈(["kind","value","place"]:List Str),oE K C g):nU P w K mg base oH 1 f fd ["self","kind","value","place"] (Hy C ["kind","value","place"]):=by
 refine F.ok N0 (λ vs H Q E h=>?_) (λ oX A outer s H vs Q E hr h=>?_)
 ·obtain⟨x,dx,args,rfl,hl,_⟩:=h
  rw[aD,hl];rfl
 ·obtain⟨x,dx,args,rfl,hl,hx,k⟩:=h
  match args,hl with
  |[a,b,c],_=>
   have n1:=na "kind" (by simp)
   have n2:=na "value" (by simp)
   have n3:=na "place" (by simp)
   refine⟨_,mY (pV (pv 0) (pv 1) rfl) (mY (pV (pv 0) (pv 2) rfl) (m7 (pV (pv 0) (pv 3) rfl))),?_⟩
   refine⟨_,rfl,_,rfl,x,C,dx,_,rfl,hx,cl,n1,(by show 0<1000;decide),_,rfl,_,rfl,x,C,dx,_,rfl,m4,cl,n2,(by show 1<1000;decide),_,rfl,_,rfl,x,C,dx,_,rfl,m4,cl,n3,(by show 2<1000;decide),?_⟩
   refine k _ m4 λ b o e hb=>?_
   rw[m5 hb,m5 hb,m5 hb];exact e
inductive Pc where
 |word (w:List Nat)|num (n:Nat)|stop|bad|fin
abbrev strOf(w:List Nat):Str:=⟨w.toArray⟩
def Pc.kd:Pc->V
 | .word _=>.str "word" | .num _=>.str "number" | .stop=>.str "stop" | .bad=>.str "bad" | .fin=>.str "end"
def Pc.vl:Pc->V
 | .word w=>.str (strOf w)| .num n=>.int n|_=>.qB
abbrev JX:List Str:=["kind","value","place"]
def rF(C:ag)(H:Hp)(a:ag)(p:Pc×Nat):Prop:=∃dx,H a=some (.ins C dx (JX.zip [p.1.kd,p.1.vl,.int p.2]))
def ab_(C:ag)(H:Hp)(Q:VK)(p:Pc×Nat):Prop:=∀H' x,m8 H H'->H x=none->rF C H' x p->Q (.ref x) H'
def zX(t:List Nat)(i e:Nat):Pc:=if 8<e-i then .bad else .word ((t.drop i).take (e-i))
def Fm(K:ah)(C:ag):Sp:=λ vs H Q _=>∃(a:ag) (t:List Nat) (i e:Nat),vs=[.ref a,.int i,.int e]/\nF K H a (nY t)/\i<=e/\e<=t.length/\t.length<=2000/\(∀c∈(t.drop i).take (e-i),97<=c/\c<=122)/\ab_ C H Q (zX t i e,i)
abbrev Hz:List Str:=["text","start","end","letters","byte"]
theorem Fn:m_ Hz ["text","start","end"] (m6 xY):=qi
theorem Th(t:List Nat){i e:Nat}(h1:i<=e)(h2:e<=t.length):BF (nY t) (some (i:Int)) (some (e:Int))=nY ((t.drop i).take (e-i)):=by
 unfold BF
 rw[HT.GQ,HT.GQ,aa,fP (aT h1 h2),fP h2,<-lY,<-lX]
theorem Qx{c:Nat}(h1:97<=c)(h2:c<=122):Y6 (Str.ofString "abcdefghijklmnopqrstuvwxyz").cps.toList ((c:Int)-97)=some c:=by
 obtain⟨k,rfl⟩:∃k,c=97+k:=⟨c-97,by omega⟩
 have hk:k<26:=by omega
 have e:((97+k:Nat):Int)-97=(k:Int):=by omega
 rw[e]
 have all:∀k:Nat,k<26->Y6 (Str.ofString "abcdefghijklmnopqrstuvwxyz").cps.toList (k:Int)=some (97+k):=by decide +kernel
 exact all k hk
theorem Fo:∀u:List Nat,TL.Fi [] ((u.map λ c=>(⟨#[c]⟩:Str)).map TL.tl)=u
 |[]=>rfl
 |[c]=>rfl
 |c::d::r=>by
  have:=Fo (d::r)
  exact congrArg (c::·) this
theorem Qy(u:List Nat):Txt.join "" (u.map λ c=>(⟨#[c]⟩:Str))=strOf u:=by
 rw[TL.join_eq]
 have h:=TL.GU "" (u.map λ c=>(⟨#[c]⟩:Str))
 rw[show TL.tl ("":Str)=[]from rfl,Fo]at h
 exact TL.Qr h
theorem N2:∀u:List Nat,(u.map ((λ z:Str=>z.length) ∘ λ c=>(⟨#[c]⟩:Str))).sum=u.length
 |[]=>rfl
 |c::r=>by
  rw[aG,iE,N2 r,aD]
  show 1+ _=_
  omega
theorem ow{t:List Nat}{i:Nat}{x:V}(h:(nY t)[i]? =some x):∃c,t[i]? =some c/\x=V.int (c:Nat):=by
 rw[ak]at h
 cases q:t[i]? with
 |none=>rw[q]at h;cases h
 |some c=>rw[q]at h;exact⟨c,rfl,(Option.some.inj h).symm⟩
theorem N6{f C:ag}{fd:bK}(F:pJ K "word_piece" "word_piece" xY f fd)(R:Rec P w K mg base "Piece" C JX)(g1:oG mg "LONGEST_WORD" 8)(g2:Bi mg "BAD" "bad")(g3:Bi mg "WORD" "word")(g4:Bi mg "LETTERS" "abcdefghijklmnopqrstuvwxyz")(g5:oG mg "FIRST_LETTER" 97):
  nU P w K mg base oH 3 f fd ["text","start","end"] (Fm K C):=by
 refine F.ok Fn (λ vs H Q E h=>?_) (λ oX A outer s H vs Q E hr h=>?_)
 ·obtain⟨a,t,i,e,rfl,_⟩:=h
  rfl
 ·obtain⟨a,t,i,e,rfl,hs,h1,h2,h3,hl,k⟩:=h
  have nd:=Fn.nd
  refine⟨_,mY (pk (ot Bk (om sI (pv 2) (pv 1)) (nV g1) (oM _)) (m7 (nq (vx R hr (by decide) (mX (wx g2) (mX zF (mX (pv 1) mZ)))))) n9)
   (mY (zO (i:=3) (own:=[("byte",4)]) rfl nd rfl rfl rfl (oO (C2 GR (pv 0) (wo (pv 1)) (wo (pv 2)))) (by exact pD.of (N:=Hz) (sc:=m6 xY) (by decide +kernel))
    (λ _ _ _ _ _=>nB (i:=4) nd rfl (Or.inl rfl)) (λ _ _ _ _ _=>oS) (λ _ _ _ _ _=>pd abF (wx g4) (om sI (pv 4) (nV g5)) (λ _ _=>rfl)))
   (m7 (nq (vx R hr (by decide) (mX (wx g3) (mX (LR qp (pv 3)) (mX (pv 1) mZ))))))),?_⟩
  refine⟨_,rfl,_,rfl,_,_,rfl,rfl,_,_,rfl,rfl,_,rfl,qa (λ hc=>?_) λ hc=>?_⟩
  ·have hc:=of_decide_eq_true hc
   refine⟨_,rfl,rfl,λ x dx H2 hx C9 sm=>k H2 x sm hx ⟨dx,?_⟩⟩
   rw[C9]
   unfold zX
   rw[if_pos (by omega)]
   rfl
  ·have hc:¬ (8:Int)<(e:Int)-(i:Int):=λ q=>hc (decide_eq_true q)
   have hw:zX t i e= .word ((t.drop i).take (e-i)):=by unfold zX;rw[if_neg (by omega)]
   refine⟨_,rfl,_,rfl,_,rfl,_,rfl,_,rfl,a,_,rfl,hs,λ p hp=>⟨p,rfl,⟨_,nF.of m4⟩,?_⟩⟩
   rw[Th t h1 h2]
   generalize hu:(t.drop i).take (e-i)=u at hl hw ⊢
   have hul:u.length<=8:=by rw[<-hu,bW];omega
   refine oZ (oU (K:=K) (a:=p) (xs:=nY u) (nF.of m4)) (u.map λ c=>V.str ⟨#[c]⟩) (by simp) (by rw[aa,aA];omega) (λ j x y H3 R3 N3 hy sm hF kk=>?_) (λ D H3 hD sm uD=>?_)
   ·obtain⟨c,hc1,rfl⟩:=ow hF
    rw[ak,hc1]at hy
    cases hy
    have Ee:=hl c (aC hc1)
    refine⟨rfl,sE ?_⟩
    refine⟨_,rfl,_,_,rfl,rfl,_,_,_,rfl,rfl,(by decide),Qx Ee.1 Ee.2,kk H3 (m8.refl _)⟩
   ·have wg:m8 H H3:=(m8.new hp).trans sm
    have hDH:H D=none:=(m8.new hp).free hD
    refine⟨⟨_,rfl⟩,_,rfl,_,D,u.map (λ c=>(⟨#[c]⟩:Str)),rfl,rfl,.inl (nF.of (by rw[uD,aW];rfl)),?_,_,rfl,rfl,λ x dx H4 hx hx4 Np=>?_⟩
    ·rw[aW,aa]
     have e1:=N2 u
     rw[e1]
     show _+ _*0<=_
     omega
    ·refine k H4 x (wg.trans Np) (wg.free hx) ⟨dx,?_⟩
     rw[hx4,hw]
     show some (HO.ins C dx (JX.zip [V.str "word",V.str (Txt.join "" (u.map λ c=>(⟨#[c]⟩:Str))),V.int i]))=_
     rw[Qy]
     rfl
theorem Qz(l:List Nat)(c:Nat):cU (l++[c])=10*cU l+(c-48):=by
 unfold cU
 rw[gu];rfl
theorem Xe:∀(l:List Nat),(∀c∈l,48<=c/\c<=57)->l.length<=4->cU l<10000:=by
 intro l h hl
 have step:∀(l:List Nat) (n:Nat),(∀c∈l,48<=c/\c<=57)->l.foldl (λ n c=>10*n+(c-48)) n<(n+1)*10 ^ l.length:=by
  intro l
  induction l with
  |nil=>intro n _;simp
  |cons c r ih=>
   intro n h
   have h1:=h c (by simp)
   have h2:=ih (10*n+(c-48)) (λ d hd=>h d (by simp[hd]))
   rw[ck,aD,fY]
   refine aU h2 ?_
   rw[f6 (10 ^ r.length) 10,<-fG]
   exact c6 _ (by omega)
 have h3:=step l 0 h
 unfold cU
 have h4:10 ^ l.length<=10 ^ 4:=dw (by decide) hl
 omega
def HC(t:List Nat)(i e:Nat):Pc:=if 4<e-i\/(1<e-i/\t[i]? =some 48)then .bad else .num (cU ((t.drop i).take (e-i)))
def Bl(K:ah)(C:ag):Sp:=λ vs H Q _=>∃(a:ag) (t:List Nat) (i e:Nat),vs=[.ref a,.int i,.int e]/\nF K H a (nY t)/\i<e/\e<=t.length/\t.length<=2000/\(∀c∈(t.drop i).take (e-i),48<=c/\c<=57)/\ab_ C H Q (HC t i e,i)
abbrev L6:List Str:=["text","start","end","length","number","byte"]
theorem Bm:m_ L6 ["text","start","end"] (m6 xZ):=qi
theorem JY{f C:ag}{fd:bK}(F:pJ K "number_piece" "number_piece" xZ f fd)(R:Rec P w K mg base "Piece" C JX)(g1:oG mg "LONGEST_NUMBER" 4)(g2:oG mg "FIRST_DIGIT" 48)(g3:Bi mg "BAD" "bad")(g4:Bi mg "NUMBER" "number"):
  nU P w K mg base oH 3 f fd ["text","start","end"] (Bl K C):=by
 refine F.ok Bm (λ vs H Q E h=>?_) (λ oX A outer s H vs Q E hr h=>?_)
 ·obtain⟨a,t,i,e,rfl,_⟩:=h
  rfl
 ·obtain⟨a,t,i,e,rfl,hs,h1,h2,h3,hl,k⟩:=h
  have nd:=Bm.nd
  refine⟨_,mY (m9 (i:=3) nd rfl (Or.inl rfl) (om sI (pv 2) (pv 1)))
   (mY (pk (PW.pt (Wk (ot Bk (pv 3) (nV g1) (oM _)) (Qa (PW.pt (Ei (ot Bk (pv 3) nP (oM _)) (AQ (ot ud (pd oh (pv 0) (pv 1) (λ _ _=>rfl)) (nV g2) (oM _))))))))
    (m7 (nq (vx R hr (by decide) (mX (wx g3) (mX zF (mX (pv 1) mZ)))))) n9)
   (mY (m9 (i:=4) nd rfl (Or.inl rfl) nP)
   (mY (qC PassesOwn.never rfl (oO (C2 GR (pv 0) (wo (pv 1)) (wo (pv 2)))) (nB (i:=5) nd rfl (Or.inl rfl))
    (m7 (m9 (i:=4) nd rfl (Or.inl rfl) (om sI (om qW (om wR (pv 4) nP) (pv 5)) (nV g2)))))
   (m7 (nq (vx R hr (by decide) (mX (wx g4) (mX (pv 4) (mX (pv 1) mZ))))))))),?_⟩
  have EG:t[i]? =some t[i]:=af (by omega)
  refine⟨_,rfl,_,rfl,_,_,rfl,rfl,_,rfl,_,_,rfl,rfl,_,rfl,?_⟩
  have bad:∀H2 x dx,(4<e-i\/(1<e-i/\t[i]? =some 48))->H x=none->H2 x=some (.ins C dx (JX.zip [.str "bad",.qB,.int i]))->m8 H H2->Q (.ref x) H2:=λ H2 x dx hc hx C9 sm=>by
   refine k H2 x sm hx ⟨dx,?_⟩
   rw[C9,show HC t i e= .bad from if_pos hc]
   rfl
  refine qa (λ hc=>tq ⟨_,rfl,rfl,λ x dx H2 hx C9 sm=>bad H2 x dx (.inl (by have:=of_decide_eq_true hc;omega)) hx C9 sm⟩) λ hc=>⟨_,rfl,_,_,rfl,rfl,_,rfl,qa (λ hd=>⟨_,rfl,_,rfl,a,_,_,_,rfl,rfl,hs,ou (oV EG),rfl,_,rfl,
   qa (λ he=>⟨_,rfl,rfl,λ x dx H2 hx C9 sm=>bad H2 x dx (.inr ⟨by have:=of_decide_eq_true hd;omega,by rw[EG];have:=V.int.inj (of_decide_eq_true he);exact congrArg some (by omega)⟩) hx C9 sm⟩) λ he=>?_⟩) λ hd=>rK ?_⟩
  all_goals
   have nb:¬ (4<e-i\/(1<e-i/\t[i]? =some 48)):=by
    have hc:¬ (4:Int)<(e:Int)-i:=λ q=>hc (decide_eq_true q)
    rintro(q|⟨q1,q2⟩)
    ·omega
    ·first
      |(have hd:¬ (1:Int)<(e:Int)-i:=λ q=>hd (decide_eq_true q)
        omega)
      |(rw[EG]at q2
        have q3:=Option.some.inj q2
        exact he (decide_eq_true (by rw[q3];rfl)))
   have hw:HC t i e= .num (cU ((t.drop i).take (e-i))):=if_neg nb
   refine⟨_,rfl,_,rfl,_,rfl,_,rfl,_,rfl,a,_,rfl,hs,λ p hp=>⟨p,rfl,⟨_,nF.of m4⟩,?_⟩⟩
   rw[Th t (ff h1) h2]
   have hul:((t.drop i).take (e-i)).length<=4:=by rw[bW];omega
   generalize hu:(t.drop i).take (e-i)=u at hl hw hul ⊢
   refine rj (K:=K) (a:=p) (xs:=nY u) (λ j σ H'=>∃b:Option V,H'=upd H p (.lst (nY u))/\σ=[some (.ref a),some (.int i),some (.int e),some (.int ((e:Int)-i)),some (.int (cU (u.take j):Nat)),b])
    ⟨none,rfl,rfl⟩ (λ j σ H' _ ⟨b,z,_⟩=>by rw[z];exact nF.of m4) ?_ ?_
   ·rintro j x σ H' hx ⟨b,rfl,rfl⟩
    obtain⟨c,hc1,rfl⟩:=ow hx
    have Ee:=hl c (aC hc1)
    have hv:cU (u.take j)<10000:=Xe _ (λ d hd=>hl d (j_ hd)) (by rw[bW];omega)
    refine⟨_,rfl,_,_,rfl,rfl,.inl ⟨by omega,by omega⟩,_,rfl,_,_,rfl,rfl,_,_,rfl,rfl,some (.int c),rfl,?_⟩
    have e1:u.take (j+1)=u.take j++[c]:=by rw[bZ,hc1];rfl
    rw[e1,Qz]
    show[_,_,_,_,some (V.int (((cU (u.take j):Nat):Int)*10+(c:Int)-48)),_]=_
    rw[show((cU (u.take j):Nat):Int)*10+(c:Int)-48=((10*cU (u.take j)+(c-48):Nat):Int) by omega]
   ·rintro σ H' ⟨b,rfl,rfl⟩
    rw[aa,dj]
    refine⟨_,rfl,_,rfl,rfl,λ x dx H4 hx hx4 Np=>?_⟩
    refine k H4 x ((m8.new hp).trans Np) ((m8.new hp).free hx) ⟨dx,?_⟩
    rw[hx4,hw]
    rfl
end oj
namespace L2
theorem Z5{X:Cx}(hc:X.calm=true):zI X (.builtin "max") (λ xs H Q=>∃i j k:Int,xs=[.int i,.int j,.int k]/\Q (.int (max i (max j k))) H):=by
 intro pins s σ H xs us Q I r h
 obtain⟨i,j,k,rfl,q⟩:=h
 cases r with
 |cons r1 r=>
  cases r with
  |cons r2 r=>
   cases r with
   |cons r3 r=>
    cases r
    obtain⟨t1,rfl⟩:=r1
    obtain⟨t2,rfl⟩:=r2
    obtain⟨t3,rfl⟩:=r3
    refine max_three_ints (I.ok.hd hc) λ h' tk hk=>⟨_,H,I.kept hk,?_,q⟩
    by_cases h1:j > i
    ·rw[if_pos h1]
     by_cases h2:k > j
     ·rw[if_pos h2];exact⟨t3,by rw[show max i (max j k)=k by omega]⟩
     ·rw[if_neg h2];exact⟨t2,by rw[show max i (max j k)=j by omega]⟩
    ·rw[if_neg h1]
     by_cases h2:k > i
     ·rw[if_pos h2];exact⟨t3,by rw[show max i (max j k)=k by omega]⟩
     ·rw[if_neg h2];exact⟨t1,by rw[show max i (max j k)=i by omega]⟩
end L2
namespace L2
def Gives(ta:TE)(σ:L2.St)(H:Hp)(v:V):Prop:=∀Q:VK,Q v H->ta σ H Q
theorem gv{i:Nat}{σ:L2.St}{H:Hp}{v:V}(h:σ[i]? =some (some v):=by rfl):Gives (Zq i) σ H v:=λ Q q=>⟨v,h,q⟩
theorem gc{σ:L2.St}{H:Hp}{v:V}:Gives (tC v) σ H v:=λ Q q=>q
theorem N7{σ:L2.St}{H:Hp}{ta tb tc:TE}{lo x hi:Int}{t u:TS}{D:Ends}(ha:Gives ta σ H (.int lo))(hb:Gives tb σ H (.int x))(hc:Gives tc σ H (.int hi))(h1:lo<=x/\x<=hi->t D σ H)(h2:¬ (lo<=x/\x<=hi)->u D σ H):
  abo (SE (Hd (Sy λ i j=>.bl (decide (i<=j))) (Sy λ i j=>.bl (decide (i<=j))) ta tb tc)) t u D σ H:=by
 refine ha _ (hb _ ⟨_,_,rfl,rfl,_,rfl,qa (λ a=>hc _ ⟨_,_,rfl,rfl,_,rfl,?_⟩) λ a=>⟨_,rfl,rK (h2 λ z=>a (decide_eq_true z.1))⟩⟩)
 exact qa (λ z=>h1 ⟨of_decide_eq_true a,of_decide_eq_true z⟩) λ z=>h2 λ y=>z (decide_eq_true y.2)
end L2
namespace oj
def nZ(t:List Nat)(i:Nat):Nat:=max (i+ph t i 97 122) (max (i+ph t i 48 57) (i+1))
def HD(K:ah):Sp:=λ vs H Q _=>∃(a:ag) (t:List Nat) (i:Nat),vs=[.ref a,.int i]/\nF K H a (nY t)/\i<=t.length/\Q (.int (nZ t i:Nat)) H
abbrev UN:List Str:=["text","start","word_end","number_end"]
theorem HE:m_ UN ["text","start"] (m6 Ey):=qi
theorem QA(F:pJ K "piece_end" "piece_end" Ey f fd)(R:rC P w K mg base oH 1 "run_end" ["text","start","low","high"] (NY K))(g1:oG mg "FIRST_LETTER" 97)(g2:oG mg "LAST_LETTER" 122)(g3:oG mg "FIRST_DIGIT" 48)(g4:oG mg "LAST_DIGIT" 57)(aeR:mg "max"=none):
  nU P w K mg base oH 2 f fd ["text","start"] (HD K):=by
 refine F.ok HE (λ vs H Q E h=>?_) (λ oX A outer s H vs Q E hr h=>?_)
 ·obtain⟨a,t,i,rfl,_⟩:=h
  rfl
 ·obtain⟨a,t,i,rfl,hs,h1,k⟩:=h
  have nd:=HE.nd
  refine⟨_,mY (m9 (i:=2) nd rfl (Or.inl rfl) (nA (E:=E0) R hr (by decide) nv (mX (pv 0) (mX (pv 1) (mX (nV g1) (mX (nV g2) mZ))))))
   (mY (m9 (i:=3) nd rfl (Or.inl rfl) (nA (E:=E0) R hr (by decide) nv (mX (pv 0) (mX (pv 1) (mX (nV g3) (mX (nV g4) mZ))))))
   (m7 (nq (nN (Z5 rfl) rfl aeR lx (mX (pv 2) (mX (pv 3) (mX (om qW (pv 1) nP) mZ))))))),?_⟩
  refine⟨_,rfl,_,rfl,a,t,i,97,122,rfl,hs,h1,_,rfl,_,rfl,a,t,i,48,57,rfl,hs,h1,_,rfl,_,rfl,_,rfl,_,_,rfl,rfl,_,_,_,rfl,?_⟩
  show Q (.int _) H
  rw[show max (((i+ph t i 97 122:Nat):Int)) (max (((i+ph t i 48 57:Nat):Int)) ((i:Int)+1))=((nZ t i:Nat):Int) by unfold nZ;omega]
  exact k
def pieceAt(t:List Nat)(i c:Nat):Pc:=if 97<=c/\c<=122 then zX t i (nZ t i)else if 48<=c/\c<=57 then HC t i (nZ t i)else if c=59 then .stop else .bad
theorem Ti{t:List Nat}{i lo hi e:Nat}(he:e=i+ph t i lo hi):∀c∈(t.drop i).take (e-i),lo<=c/\c<=hi:=by
 have h1:e-i=ph t i lo hi:=by omega
 rw[h1]
 unfold ph
 have h2:=g0 (p:=λ c=>decide (lo<=c) && decide (c<=hi)) (l:=t.drop i)
 rw[<-List.prefix_iff_eq_take.mp h2]
 intro c hc
 have:=List.all_takeWhile (p:=λ c=>decide (lo<=c) && decide (c<=hi)) (l:=t.drop i)
 have h3:=List.all_eq_true.mp this c hc
 simpa using h3
theorem HF{t:List Nat}{i c:Nat}(h:t[i]? =some c)(hc:97<=c/\c<=122):nZ t i=i+ph t i 97 122:=by
 unfold nZ
 have h1:=rp (lo:=97) (hi:=122) h
 have h2:=rp (lo:=48) (hi:=57) h
 rw[if_pos hc]at h1
 rw[if_neg (by omega)]at h2
 omega
theorem Kx{t:List Nat}{i c:Nat}(h:t[i]? =some c)(hc:48<=c/\c<=57):nZ t i=i+ph t i 48 57:=by
 unfold nZ
 have h1:=rp (lo:=97) (hi:=122) h
 have h2:=rp (lo:=48) (hi:=57) h
 rw[if_pos hc]at h2
 rw[if_neg (by omega)]at h1
 omega
theorem vy{t:List Nat}{i:Nat}(h:i<t.length):i<nZ t i/\nZ t i<=t.length:=by
 unfold nZ
 have h1:=Kw t i 97 122
 have h2:=Kw t i 48 57
 omega
def Ky(K:ah)(C:ag):Sp:=λ vs H Q _=>∃(a:ag) (t:List Nat) (i c:Nat),vs=[.ref a,.int i,.int (nZ t i:Nat)]/\nF K H a (nY t)/\t[i]? =some c/\t.length<=2000/\ab_ C H Q (pieceAt t i c,i)
abbrev Xf:List Str:=["text","start","end","byte"]
theorem Kz:m_ Xf ["text","start","end"] (m6 Hs):=qi
theorem UO{f C:ag}{fd:bK}(F:pJ K "piece_at" "piece_at" Hs f fd)(R:Rec P w K mg base "Piece" C JX)(W:rC P w K mg base oH 3 "word_piece" ["text","start","end"] (Fm K C))(N:rC P w K mg base oH 3 "number_piece" ["text","start","end"] (Bl K C))
  (g1:oG mg "FIRST_LETTER" 97)(g2:oG mg "LAST_LETTER" 122)(g3:oG mg "FIRST_DIGIT" 48)(g4:oG mg "LAST_DIGIT" 57)(g5:oG mg "SEMICOLON" 59)(g6:Bi mg "STOP" "stop")(g7:Bi mg "BAD" "bad"):
  nU P w K mg base oH 4 f fd ["text","start","end"] (Ky K C):=by
 refine F.ok Kz (λ vs H Q E h=>?_) (λ oX A outer s H vs Q E hr h=>?_)
 ·obtain⟨a,t,i,c,rfl,_⟩:=h
  rfl
 ·obtain⟨a,t,i,c,rfl,hs,EG,h3,k⟩:=h
  have nd:=Kz.nd
  refine⟨_,mY (m9 (i:=3) nd rfl (Or.inl rfl) (pd oh (pv 0) (pv 1) (λ _ _=>rfl)))
   (mY (pk (vm p_ p_ (nV g1) (pv 3) (nV g2)) (m7 (nq (nA (E:=E0) W hr (by decide) nv (mX (pv 0) (mX (pv 1) (mX (pv 2) mZ)))))) n9)
   (mY (pk (vm p_ p_ (nV g3) (pv 3) (nV g4)) (m7 (nq (nA (E:=E0) N hr (by decide) nv (mX (pv 0) (mX (pv 1) (mX (pv 2) mZ)))))) n9)
   (mY (pk (ot ud (pv 3) (nV g5) (oM _)) (m7 (nq (vx R hr (by decide) (mX (wx g6) (mX zF (mX (pv 1) mZ)))))) n9)
   (m7 (nq (vx R hr (by decide) (mX (wx g7) (mX zF (mX (pv 1) mZ))))))))),?_⟩
  have hi:i<t.length:=(List.getElem?_eq_some_iff.mp EG).1
  have eb:=vy hi
  refine⟨_,rfl,_,rfl,a,_,_,_,rfl,rfl,hs,ou (oV EG),?_⟩
  refine N7 gc gv gc (λ hc=>?_) λ hc=>?_
  ·have hc:97<=c/\c<=122:=by omega
   refine⟨_,rfl,_,rfl,_,rfl,a,t,i,_,rfl,hs,ff eb.1,eb.2,h3,Ti (HF EG hc),?_⟩
   rw[show zX t i (nZ t i)=pieceAt t i c from(if_pos hc).symm];exact k
  have n1:¬ (97<=c/\c<=122):=by omega
  refine N7 gc gv gc (λ hc=>?_) λ hc=>?_
  ·have hc:48<=c/\c<=57:=by omega
   refine⟨_,rfl,_,rfl,_,rfl,a,t,i,_,rfl,hs,eb.1,eb.2,h3,Ti (Kx EG hc),?_⟩
   rw[show HC t i (nZ t i)=pieceAt t i c by unfold pieceAt;rw[if_neg n1,if_pos hc]];exact k
  have n2:¬ (48<=c/\c<=57):=by omega
  refine⟨_,rfl,rfl,_,rfl,qa (λ hc=>?_) λ hc=>?_⟩
  ·have hc:c=59:=by have:=V.int.inj (of_decide_eq_true hc);omega
   refine⟨_,rfl,rfl,λ x dx H2 hx C9 sm=>k H2 x sm hx ⟨dx,?_⟩⟩
   rw[C9];unfold pieceAt;rw[if_neg n1,if_neg n2,if_pos hc];rfl
  ·have hc:¬ c=59:=λ q=>hc (decide_eq_true (by rw[q];rfl))
   refine⟨_,rfl,rfl,λ x dx H2 hx C9 sm=>k H2 x sm hx ⟨dx,?_⟩⟩
   rw[C9];unfold pieceAt;rw[if_neg n1,if_neg n2,if_neg hc];rfl
end oj
namespace L2
def N8(K:ah)(mg:Str->Option ao)(x:Str)(a:ag)(xs:List V):Prop:=mg x=some (.ref a)/\∀H:Hp,Bj K H a xs
theorem KA{X:Cx}{x:Str}{a:ag}{xs:List V}{pos:Pos}(hm:N8 X.K X.mg x a xs)(hg:Gl X x:=by rfl)(hd:(x == ("__debug__":Str))=false:=by decide):PE X (.Name x pos) (tC (.ref a)):=Lz hg hm.1 rfl hd
end L2
namespace oj
def qg(t:List Nat):Nat->Nat->List (Pc×Nat)
 |0,_=>[]
 |n+1,i=>match t[i]? with
  |none=>[]
  |some c=>(if c=32\/c=10 then[]else[(pieceAt t i c,i)])++qg t n (nZ t i)
theorem qk{t:List Nat}{i:Nat}(h:t.length<=i):∀n,qg t n i=[]
 |0=>rfl
 |n+1=>by
  unfold qg
  rw[aI h]
theorem L7(t:List Nat):∀(n m i:Nat),t.length-i<=n->t.length-i<=m->qg t n i=qg t m i:=by
 intro n
 induction n with
 |zero=>
  intro m i h1 h2
  rw[qk (by omega),qk (by omega)]
 |succ n ih=>
  intro m i h1 h2
  cases m with
  |zero=>rw[qk (by omega),qk (by omega)]
  |succ m=>
   by_cases hi:i<t.length
   ·have EG:t[i]? =some t[i]:=af hi
    unfold qg
    rw[EG]
    have eb:=vy hi
    show _++qg t n (nZ t i)=_++qg t m (nZ t i)
    rw[ih m (nZ t i) (by omega) (by omega)]
   ·rw[qk (by omega),qk (by omega)]
theorem Dh{t:List Nat}{i c:Nat}(h:t[i]? =some c):qg t (t.length-i) i=(if c=32\/c=10 then[]else[(pieceAt t i c,i)])++qg t (t.length-nZ t i) (nZ t i):=by
 have hi:i<t.length:=(List.getElem?_eq_some_iff.mp h).1
 obtain⟨n,hn⟩:∃n,t.length-i=n+1:=⟨t.length-i-1,by omega⟩
 rw[hn,show qg t (n+1) i=(match t[i]? with
  |none=>[]
  |some c=>(if c=32\/c=10 then[]else[(pieceAt t i c,i)])++qg t n (nZ t i))from rfl,h]
 have eb:=vy hi
 show _++qg t n (nZ t i)=_
 rw[L7 t n (t.length-nZ t i) (nZ t i) (by omega) (by omega)]
def Ce(t:List Nat):List (Pc×Nat):=qg t t.length 0++[(.fin,t.length)]
def qD(C:ag)(H:Hp)(as:List ag)(ps:List (Pc×Nat)):Prop:=as.length=ps.length/\∀(j:Nat) (a:ag) (p:Pc×Nat),as[j]? =some a->ps[j]? =some p->rF C H a p
theorem rF.same{C:ag}{H H':Hp}{a:ag}{p:Pc×Nat}(h:rF C H a p)(s:m8 H H'):rF C H' a p:=let⟨dx,e⟩:=h;⟨dx,s _ _ e⟩
theorem qD.same{C:ag}{H H':Hp}{as:List ag}{ps:List (Pc×Nat)}(h:qD C H as ps)(s:∀a o,a∈as->H a=some o->H' a=some o):qD C H' as ps:=
 ⟨h.1,λ j a p h1 h2=>let⟨dx,e⟩:=h.2 j a p h1 h2;⟨dx,s a _ (aC h1) e⟩⟩
theorem qD.snoc{C:ag}{H:Hp}{as:List ag}{ps:List (Pc×Nat)}{a:ag}{p:Pc×Nat}(h:qD C H as ps)(h':rF C H a p):qD C H (as++[a]) (ps++[p]):=by
 refine⟨by simp[h.1],λ j b q h1 h2=>?_⟩
 by_cases hj:j<as.length
 ·rw[bp hj]at h1
  rw[bp (by rw[<-h.1];exact hj)]at h2
  exact h.2 j b q h1 h2
 ·rw[bg (by omega)]at h1
  rw[bg (by rw[<-h.1];omega)]at h2
  have e:j-as.length=0:=by
   obtain⟨z,_⟩:=List.getElem?_eq_some_iff.mp h1
   simp at z;omega
  rw[e]at h1
  rw[<-h.1,e]at h2
  cases h1;cases h2
  exact h'
def aa7(K:ah)(C:ag):Sp:=λ vs H Q _=>∃(a:ag) (t:List Nat),vs=[.ref a]/\nF K H a (nY t)/\t.length<=2000/\
 ∀H' p as,m8 H H'->H p=none->(∀x∈as,H x=none)->H' p=some (.lst (as.map V.ref))->qD C H' as (Ce t)->Q (.ref p) H'
abbrev aeS:List Str:=["text","pieces","at","end"]
theorem aa8:m_ aeS ["text"] (m6 ab8):=qi
theorem adG{f C b:ag}{fd:bK}(F:pJ K "cut" "cut" ab8 f fd)(R:Rec P w K mg base "Piece" C JX)(PE':rC P w K mg base oH 2 "piece_end" ["text","start"] (HD K))(PA':rC P w K mg base oH 4 "piece_at" ["text","start","end"] (Ky K C))
  (g1:N8 K mg "BLANKS" b [.int 32,.int 10])(g2:Bi mg "END" "end")(hlen:mg "len"=none):nU P w K mg base oH 5 f fd ["text"] (aa7 K C):=by
 refine F.ok aa8 (λ vs H Q E h=>?_) (λ oX A outer s H vs Q E hr h=>?_)
 ·obtain⟨a,t,rfl,_⟩:=h
  rfl
 ·obtain⟨a,t,rfl,hs,h3,k⟩:=h
  have nd:=aa8.nd
  refine⟨_,mY (m9 (i:=1) nd rfl (Or.inl rfl) (nQ mZ)) (mY (m9 (i:=2) nd rfl (Or.inl rfl) nP)
   (mY (rN PassesOwn.never (ot Hc (pv 2) (nN nO rfl hlen aX (mX (pv 0) mZ)) (oM _))
    (mY (m9 (i:=3) nd rfl (Or.inl rfl) (nA (E:=E0) PE' hr (by decide) nv (mX (pv 0) (mX (pv 2) mZ))))
    (mY (pk (ot uH (pd oh (pv 0) (pv 2) (λ _ _=>rfl)) (KA g1) (by with_unfolding_all rfl))
     (m7 (og (qU aH bc a_ pG (pv 1) (mX (nA (E:=E0) PA' hr (by decide) nv (mX (pv 0) (mX (pv 2) (mX (pv 3) mZ)))) mZ)))) n9)
    (m7 (m9 (i:=2) nd rfl (Or.inl rfl) (pv 3))))))
   (mY (og (qU aH bc a_ pG (pv 1) (mX (vx R hr (by decide) (mX (wx g2) (mX zF (mX (nN nO rfl hlen aX (mX (pv 0) mZ)) mZ)))) mZ)))
   (m7 (nq (pv 1)))))),?_⟩
  refine⟨aE _,λ p hp=>?_⟩
  refine⟨λ m σ H'=>∃(i:Nat) (en:Option V) (as:List ag) (ps:List (Pc×Nat)),σ=[some (.ref a),some (.ref p),some (.int i),en]/\m8 H H'/\H' p=some (.lst (as.map V.ref))/\(∀x∈as,H x=none/\x≠p)/\qD C H' as ps/\
   m=t.length-i/\i<=t.length/\ps.length<=i/\ps++qg t (t.length-i) i=qg t t.length 0,⟨t.length,0,none,[],[],rfl,m8.new hp,m4,by simp,⟨rfl,λ j x q z=>by simp at z⟩,by omega,aE _,ax _,by simp⟩,?_⟩
  rintro m σ H' ⟨i,en,as,ps,rfl,sm,JZ,fr,pa,rfl,hi,vo,heq⟩
  refine⟨_,rfl,_,rfl,a,_,rfl,.inl (sm.seq hs),_,_,rfl,rfl,_,rfl,qa (λ hc=>?_) λ hc=>?_⟩
  ·have rO:i<t.length:=by
    have z:=of_decide_eq_true hc
    rw[aa]at z
    omega
   have EG:t[i]? =some t[i]:=af rO
   have eb:=vy rO
   have st:=Dh EG
   refine⟨_,λ _ _ z=>z,_,rfl,_,rfl,a,t,i,rfl,sm.seq hs,hi,?_⟩
   refine⟨_,rfl,_,rfl,a,_,_,_,rfl,rfl,sm.seq hs,ou (oV EG),b,_,rfl,.inr (g1.2 _),rfl,rfl,_,rfl,qa (λ hb=>?_) λ hb=>?_⟩
   ·have nb:¬ (t[i]=32\/t[i]=10):=by
     intro q
     rcases q with q|q <;> (rw[q]at hb;exact absurd hb (by decide))
    rw[if_neg nb]at st
    refine⟨_,rfl,.inl ⟨rfl,_,nF.of JZ⟩,_,rfl,_,rfl,_,rfl,a,t,i,_,rfl,sm.seq hs,EG,h3,λ H2 x wg hx px=>?_⟩
    have ZG:H2 p=some (.lst (as.map V.ref)):=wg _ _ JZ
    refine⟨p,_,_,rfl,rfl,ZG,?_,_,rfl,?_⟩
    ·rw[aa,pa.1,aA];omega
    ·have xp:x≠p:=λ q=>(by rw[q,JZ]at hx;cases hx)
     refine⟨t.length-nZ t i,by omega,nZ t i,_,as++[x],ps++[(pieceAt t i t[i],i)],rfl,λ c o e=>?_,?_,?_,?_,rfl,eb.2,?_,?_⟩
     ·rw[m5 (nH e hp)];exact wg _ _ (sm _ _ e)
     ·rw[m4,aF];rfl
     ·intro y hy
      rcases List.mem_append.mp hy with hy|hy
      ·exact fr y hy
      ·rw[List.mem_singleton.mp hy];exact⟨sm.free hx,xp⟩
     ·refine qD.snoc (pa.same λ c o hc e=>?_) ?_
      ·rw[m5 (fr c hc).2];exact wg _ _ e
      ·obtain⟨dx,e⟩:=px
       exact⟨dx,by rw[m5 xp];exact e⟩
     ·rw[aw];simp;omega
     ·rw[bB,<-st];exact heq
   ·have yb:t[i]=32\/t[i]=10:=by
     refine Decidable.byContradiction λ q=>hb ?_
     have q1:¬ t[i]=32:=λ z=>q (.inl z)
     have q2:¬ t[i]=10:=λ z=>q (.inr z)
     show(!(((32:Int) == ((t[i]:Nat):Int)) || (((10:Int) == ((t[i]:Nat):Int)) || false)))=true
     rw[show((32:Int) == ((t[i]:Nat):Int))=false from beq_eq_false_iff_ne.mpr (by omega),show((10:Int) == ((t[i]:Nat):Int))=false from beq_eq_false_iff_ne.mpr (by omega)]
     rfl
    rw[if_pos yb,gW]at st
    refine⟨_,rfl,t.length-nZ t i,by omega,nZ t i,_,as,ps,rfl,sm,JZ,fr,pa,rfl,eb.2,by omega,?_⟩
    rw[<-st];exact heq
  ·have hge:t.length<=i:=by
    have z:¬ (i:Int)<((nY t).length:Int):=λ q=>hc (decide_eq_true q)
    rw[aa]at z
    omega
   rw[qk hge,bD]at heq
   refine⟨_,rfl,.inl ⟨rfl,_,nF.of JZ⟩,_,rfl,a,_,rfl,.inl (sm.seq hs),rfl,λ x dx H2 hx C9 wg=>?_⟩
   have ZG:H2 p=some (.lst (as.map V.ref)):=wg _ _ JZ
   have xp:x≠p:=λ q=>(by rw[q,JZ]at hx;cases hx)
   refine⟨p,_,_,rfl,rfl,ZG,?_,_,rfl,?_⟩
   ·rw[aa,pa.1,aA];omega
   ·refine k _ p (as++[x]) (λ c o e=>?_) hp ?_ ?_ ?_
    ·rw[m5 (nH e hp)];exact wg _ _ (sm _ _ e)
    ·intro y hy
     rcases List.mem_append.mp hy with hy|hy
     ·exact(fr y hy).1
     ·rw[List.mem_singleton.mp hy];exact sm.free hx
    ·rw[m4,aF];rfl
    ·unfold Ce
     rw[<-heq]
     refine qD.snoc (pa.same λ c o hc e=>?_) ⟨dx,?_⟩
     ·rw[m5 (fr c hc).2];exact wg _ _ e
     ·rw[m5 xp,C9,aa];rfl
end oj
namespace L2
def upA(t:TA):TA:=λ σ H Q=>∃Q1,t σ H Q1/\∀vs H1,Q1 vs H1->Q vs H1
theorem PA.up{X:Cx}{es:List bJ}{t:TA}(h:PA X es t):PA X es (upA t):=by
 intro pos pins s σ H Q I hw
 obtain⟨Q1,h1,h2⟩:=hw
 exact pN (h pos pins s σ H Q1 I h1) λ us s1 ⟨vs,H1,I1,r,q⟩=>⟨vs,H1,I1,r,h2 _ _ q⟩
end L2
namespace oj
structure t7(P:aJ)(w:aY)(K:ah)(mg:Str->Option ao)(base:bw)(C:ag):Prop where
 nm:mg "Wrong"=some (.ref C)
 ec:tI K C
 ty:fN K (.ref C)=some (.type "type")
 ng:oE K C "__getattr__"
 n1:oE K C "kind"
 n2:oE K C "place"
 mkx:∃f fd,ZW K C f/\nU P w K mg base oH 1 f fd ["self","kind","place"] (Fl C)/\Binds K fd ["self","kind","place"] []
def aca(C:ag)(E:XK)(t:TA):TS:=λ D σ H=>t σ H λ vs H1=>∃k p,vs=[k,p]/\∀H2 dx,H2 dx=some (wd k p)->NE H1 H2->E (.ref C) (some dx) H2
theorem vz{X:Cx}{C:ag}{E:XK}{t:TA}{ek ep:bJ}{p xD pos:Pos}{j:Nat}(W:t7 X.prog X.w X.K X.mg X.base C)(hc:X.calm=true)(hx:X.xe=XW X C E)(hr:qT j X.A)(hj:2<=j)(ha:PA X [ek,ep] t)(hg:Gl X "Wrong":=by rfl)
  (he:aN [ek,ep] X.env=(false,cu ek X.env)::aN [ep] X.env:=by rfl)(vo:(c7 xD (aN [ep] X.env)).any (·.1)=false:=by rfl):
  PS X (.Raise (some (.Call (.Name "Wrong" p) [ek,ep] [] xD)) none pos) (aca C E t):=by
 obtain⟨f,fd,M,F,b⟩:=W.mkx
 have z:=WV (pos:=pos) (E:=E) hc hx W.ec W.ty (WU (pos:=xD) (p:=p) M F (hr.mono hj) hg W.nm b (nv (X:=X)) ha.up (by decide) he vo)
 intro pins s σ H D I h
 refine z pins s σ H D I ?_
 refine⟨_,h,λ vs H1 ⟨k,q,ev,kk⟩=>?_⟩
 subst ev
 refine⟨by show 2<=1000;decide,λ e he=>⟨e,.none,k,q,rfl,m4,λ H2 dx h1 h2 ne=>⟨rfl,e,dx,rfl,h1,?_⟩⟩⟩
 exact kk H2 dx h2 ((NE.upd (.inl he)).trans ne)
end oj
namespace L2
def uo(P:aJ)(w:aY)(K:ah)(mg:Str->Option ao)(base:bw)(CX:CY)(k:Nat)(C:ag)(m:Str)(ps:List Str)(sp:Sp):Prop:=
 ∃f fd,Meth K C m f/\nU P w K mg base CX k f fd ps sp/\Binds K fd ps []
def tHm(C:ag)(m:Str)(sp:Sp)(E:XK)(ta:TE)(t:TA):TE:=λ σ H Q=>ta σ H λ x H1=>∃a dx fs,x= .ref a/\H1 a=some (.ins C dx fs)/\fs.lookup m=none/\t σ H1 λ vs H2=>sp (x::vs) H2 Q E
section
variable{X:Cx}{CX:CY}{E:XK}{k j:Nat}{C:ag}{m:Str}{ps:List Str}{sp:Sp}{o e:bJ}{es:List bJ}{ta:TE}{t:TA}{apos pos:Pos}
theorem pR{pl:Sem Bool}(h:uo X.prog X.w X.K X.mg X.base CX k C m ps sp)(c:GP X.K C)(hr:qT j X.A)(hj:k<=j)(hx:Passes CX X E)(ho:PE X o ta)(ha:PA X (e::es) t)
  (LC:aN (e::es) X.env=(false,cu e X.env)::aN es X.env:=by rfl)(vo:(c7 pos (aN es X.env)).any (·.1)=false:=by rfl)
  (ht:cu (.Call (.Attribute o m apos) (e::es) [] pos) X.env=(do
   let ov <-cu o X.env
   iu apos.atName
   let(f,first) <-gp [ov] (hZ ov m pl)
   jq pos f first (c7 pos (aN (e::es) X.env)) (h_ pos (fj [] X.env))):=by rfl):
  PE X (.Call (.Attribute o m apos) (e::es) [] pos) (tHm C m sp E ta t):=by
 obtain⟨f,fd,M,F,b⟩:=h
 intro pins s σ H Q I hw
 have z:=Zy (pos:=pos) (apos:=apos) ho c M F (hr.mono hj) b .nil hx ha LC vo ht
 refine z pins s σ H Q I ?_
 have e2:(λ(x:V) (H1:Hp)=>∃a dx fs,x= .ref a/\H1 a=some (.ins C dx fs)/\fs.lookup m=none/\t σ H1 λ vs H2=>sp (x::(vs++[])) H2 Q E)=(λ(x:V) (H1:Hp)=>∃a dx fs,x= .ref a/\H1 a=some (.ins C dx fs)/\fs.lookup m=none/\t σ H1 λ vs H2=>sp (x::vs) H2 Q E):=by
  simp only[bD]
 show ta σ H _
 rw[e2];exact hw
theorem oW{pl:Sem Bool}(h:uo X.prog X.w X.K X.mg X.base CX k C m ps sp)(c:GP X.K C)(hr:qT j X.A)(hj:k<=j)(hx:Passes CX X E)(ho:PE X o ta)
  (ht:cu (.Call (.Attribute o m apos) [] [] pos) X.env=(do
   let ov <-cu o X.env
   iu apos.atName
   let(f,first) <-gp [ov] (hZ ov m pl)
   jq pos f first (c7 pos (aN [] X.env)) (h_ pos (fj [] X.env))):=by rfl):
  PE X (.Call (.Attribute o m apos) [] [] pos) (tHm C m sp E ta Ws):=by
 obtain⟨f,fd,M,F,b⟩:=h
 exact Wt (pos:=pos) (apos:=apos) ho c M F (hr.mono hj) b .nil hx ht
end
end L2
namespace oj
abbrev N9(l:ag)(i:Nat):List (Str×V):=[(Str.ofString "pieces",V.ref l),(Str.ofString "at",V.int (i:Nat))]
def QB(CR CP:ag)(H:Hp)(r:ag)(tk:List (Pc×Nat)):Prop:=
 ∃dx l i as ps,H r=some (.ins CR dx (N9 l i))/\H l=some (.lst (as.map V.ref))/\qD CP H as ps/\ps.drop i=tk/\i<=ps.length
def sF(r:ag)(H H':Hp):Prop:=∀b o,H b=some o->b≠r->(∀φ,o≠ .ext φ)->H' b=some o
theorem sF.refl(r:ag)(H:Hp):sF r H H:=λ _ _ e _ _=>e
theorem sF.trans{r:ag}{H H1 H2:Hp}(a:sF r H H1)(b:sF r H1 H2):sF r H H2:=λ c o e n x=>b c o (a c o e n x) n x
theorem sF.of_same{r:ag}{H H1:Hp}(a:m8 H H1):sF r H H1:=λ c o e _ _=>a c o e
theorem sF.ne{r:ag}{H H1:Hp}(a:NE H H1):sF r H H1:=λ c o e _ x=>a c o e x
def Raise(C r:ag)(H:Hp)(E:XK)(k p:Nat):Prop:=∀H' dx,H' dx=some (wd (.int k) (.int p))->sF r H H'->E (.ref C) (some dx) H'
theorem Raise.mono{C r:ag}{H H1:Hp}{E:XK}{k p:Nat}(h:Raise C r H E k p)(b:sF r H H1):Raise C r H1 E k p:=λ H' dx h1 h2=>h H' dx h1 (b.trans h2)
def Tj(CR CP:ag):Sp:=λ vs H Q _=>∃r p tk,vs=[.ref r]/\QB CR CP H r (p::tk)/\∀a,rF CP H a p->Q (.ref a) H
theorem Z6:m_ ["self"] ["self"] (m6 x9):=qi
theorem Z_(F:pJ K "ahead" "Reader.ahead" x9 f fd)(cl:GP K CR)(n1:oE K CR "pieces")(n2:oE K CR "at"):nU P w K mg base oH 1 f fd ["self"] (Tj CR CP):=by
 refine F.ok Z6 (λ vs H Q E h=>?_) (λ oX A outer s H vs Q E hr h=>?_)
 ·obtain⟨r,p,tk,rfl,_⟩:=h
  rfl
 ·obtain⟨r,p,tk,rfl,⟨dx,l,i,as,ps,h1,h2,h3,h4,h5⟩,k⟩:=h
  refine⟨_,m7 (nq (pd oh (nr (pv 0) rfl) (nr (pv 0) rfl) (λ _ _=>rfl))),?_⟩
  have hp:ps[i]? =some p:=by
   have z:=kG (xs:=ps) (i:=i) (j:=0)
   rw[h4]at z
   simpa using z.symm
  obtain⟨a,ha⟩:∃a,as[i]? =some a:=⟨_,af (by rw[h3.1];exact(List.getElem?_eq_some_iff.mp hp).1)⟩
  refine⟨_,rfl,r,CR,dx,_,_,rfl,h1,cl,n1,rfl,_,rfl,r,CR,dx,_,_,rfl,h1,cl,n2,rfl,l,_,_,_,rfl,rfl,nF.of h2,ou (by rw[ak,ha];rfl),k a (h3.2 i a p ha hp)⟩
def isW(p:Pc)(z:Str):Bool:=match p with
 | .word w=>decide (strOf w=z)
 |_=>false
structure vA(P:aJ)(w:aY)(K:ah)(mg:Str->Option ao)(base:bw)(CR CP:ag):Prop where
 cl:GP K CR
 n1:oE K CR "pieces"
 n2:oE K CR "at"
 pc:Rec P w K mg base "Piece" CP JX
def HG(CR CP:ag):Sp:=λ vs H Q _=>∃r z p tk,vs=[.ref r,.str z]/\QB CR CP H r (p::tk)/\Q (.bl (isW p.1 z)) H
theorem N_:m_ ["self","word","piece"] ["self","word"] (m6 wV):=qi
theorem Tn(p:Pc):decide (p.kd=V.str (Str.ofString "word"))=(match p with | .word _=>true|_=>false):=by
 cases p <;> simp[Pc.kd] <;> decide
abbrev Hz1(P:aJ)(w:aY)(K:ah)(mg:Str->Option ao)(base:bw)(CR:ag)(CP:ag):Prop:=uo P w K mg base oH 1 CR "ahead" ["self"] (Tj CR CP)
theorem Xg(F:pJ K "is_word" "Reader.is_word" wV f fd)(T:vA P w K mg base CR CP)(A1:Hz1 P w K mg base CR CP)(g:Bi mg "WORD" "word"):
  nU P w K mg base oH 2 f fd ["self","word"] (HG CR CP):=by
 refine F.ok N_ (λ vs H Q E h=>?_) (λ oX A outer s H vs Q E hr h=>?_)
 ·obtain⟨r,z,p,tk,rfl,_⟩:=h
  rfl
 ·obtain⟨r,z,p,tk,rfl,hR,k⟩:=h
  have nd:=N_.nd
  have Eg:=T.pc.cl
  have m1:=T.pc.na "kind" (by simp)
  have m2:=T.pc.na "value" (by simp)
  refine⟨_,mY (m9 (i:=2) nd rfl (Or.inl rfl) (oW (E:=E0) A1 T.cl hr (by decide) nv (pv 0))) (m7 (nq (LB (rS ud (nr (pv 2) rfl) (wx g) (oM _)) (LA (rS ud (nr (pv 2) rfl) (pv 1) (oM _)))))),?_⟩
  obtain⟨dx,l,i,as,ps,h1,h2⟩:=id hR
  refine⟨_,rfl,r,dx,_,rfl,h1,rfl,r,p,tk,rfl,hR,λ a ⟨dp,ha⟩=>?_⟩
  refine⟨_,rfl,a,CP,dp,_,_,rfl,ha,Eg,m1,rfl,(by cases p.1 <;> rfl),_,rfl,?_⟩
  rw[Tn]
  cases hp:p.1 with
  |word w=>
   refine tq ⟨_,rfl,a,CP,dp,_,_,rfl,ha,Eg,m2,rfl,_,rfl,(by rw[hp];rfl),?_⟩
   rw[hp]at k ⊢
   have e:decide (Pc.vl (.word w)=V.str z)=decide (strOf w=z):=by
    show decide (V.str (strOf w)=V.str z)=_
    by_cases q:strOf w=z
    ·rw[decide_eq_true q,q];simp
    ·rw[decide_eq_false q,decide_eq_false (λ y=>q (V.str.inj y))]
   rw[e];exact k
  |num n=>rw[hp]at k;exact rK k
  |stop=>rw[hp]at k;exact rK k
  |bad=>rw[hp]at k;exact rK k
  |fin=>rw[hp]at k;exact rK k
def L8(CR CP C:ag):Sp:=λ vs H Q E=>Calm E/\∃r b p tk,vs=[.ref r,.bl b]/\QB CR CP H r (p::tk)/\
 (b=true->∀H' a,QB CR CP H' r tk->sF r H H'->rF CP H' a p->Q (.ref a) H')/\(b=false->Raise C r H E 1 p.2)
theorem Xh:m_ ["self","fits","piece"] ["self","fits"] (m6 zR):=qi
theorem acb(F:pJ K "take" "Reader.take" zR f fd)(T:vA P w K mg base CR CP)(W:t7 P w K mg base C)(A1:Hz1 P w K mg base CR CP)(g:oG mg "MISPLACED" 1):
  nU P w K mg base (BL P w C) 3 f fd ["self","fits"] (L8 CR CP C):=by
 refine F.Wc Xh (λ vs H Q E h=>?_) (λ vs H Q E h=>h.1) (λ oX A outer s H vs Q E hr h=>?_)
 ·obtain⟨_,r,b,p,tk,rfl,_⟩:=h
  rfl
 ·obtain⟨hE,r,b,p,tk,rfl,hR,kt,kf⟩:=h
  have nd:=Xh.nd
  have Eg:=T.pc.cl
  have m3:=T.pc.na "place" (by simp)
  refine⟨_,mY (m9 (i:=2) nd rfl (Or.inl rfl) (oW (E:=E0) A1 T.cl hr (by decide) nv (pv 0)))
   (mY (pk (vi (tH (pv 1))) (m7 (vz W rfl (Cx.oF _ _ _) hr (by decide) (mX (nV g) (mX (nr (pv 2) rfl) mZ)))) n9)
   (mY (Uq (pv 0) nP abB) (m7 (nq (pv 2))))),?_⟩
  obtain⟨dx,l,i,as,ps,h1,h2,h3,h4,h5⟩:=id hR
  refine⟨_,rfl,r,dx,_,rfl,h1,rfl,r,p,tk,rfl,hR,λ a pa=>?_⟩
  obtain⟨dp,ha⟩:=id pa
  refine⟨_,rfl,b,rfl,?_⟩
  cases b with
  |false=>
   refine tq ⟨_,rfl,a,CP,dp,_,_,rfl,ha,Eg,m3,rfl,_,_,rfl,λ H2 Xi hd ne=>?_⟩
   exact kf rfl H2 Xi hd (sF.ne ne)
  |true=>
   have rO:i<ps.length:=by
    refine Nat.lt_of_le_of_ne h5 λ q=>?_
    rw[q,fv]at h4;cases h4
   refine rK ⟨_,rfl,r,CR,dx,_,_,rfl,h1,T.cl,T.n2,rfl,_,_,rfl,rfl,dx,_,h1,(by show 2<1000;decide),_,rfl,?_⟩
   have ra:∀b o,H b=some o->o≠ .ins CR dx (N9 l i)->b≠r:=λ b o e n q=>n (by rw[q,h1]at e;exact(Option.some.inj e).symm)
   refine kt rfl _ a ⟨dx,l,i+1,as,ps,?_,?_,⟨h3.1,λ j y q e1 e2=>?_⟩,?_,rO⟩ (λ b o e n _=>by rw[m5 n];exact e) ⟨dp,?_⟩
   ·rw[m4];rfl
   ·rw[m5 (ra l _ h2 (by intro z;cases z))];exact h2
   ·obtain⟨dy,ey⟩:=h3.2 j y q e1 e2
    exact⟨dy,by rw[m5 (ra y _ ey (by intro z;cases z))];exact ey⟩
   ·rw[<-eY,h4];rfl
   ·rw[m5 (ra a _ ha (by intro z;cases z))];exact ha
inductive tK (en:Nat):List (Pc×Nat)->cA->Prop
 |fin:tK en [(.fin,en)] []
 |word {w:List Nat} {i:Nat} {tk:List (Pc×Nat)} {l:cA}:tK en tk l->tK en ((.word w,i)::tk) ((i,.word w)::l)
 |num {n i:Nat} {tk:List (Pc×Nat)} {l:cA}:tK en tk l->tK en ((.num n,i)::tk) ((i,.num n)::l)
 |semi {i:Nat} {tk:List (Pc×Nat)} {l:cA}:tK en tk l->tK en ((.stop,i)::tk) ((i,.semi)::l)
 |bad {i:Nat} {tk:List (Pc×Nat)}:tK en ((.bad,i)::tk) [(i,.wrong)]
def JN(CR CP:ag)(en:Nat)(H:Hp)(r:ag)(l:cA):Prop:=∃tk,QB CR CP H r tk/\tK en tk l
def rh(CR CP C:ag)(en:Nat)(r:ag)(H:Hp)(Q:VK)(E:XK){α:Type}(val:α->Hp->V->Prop):Except Bad (α×cA)->Prop
 | .ok (x,l)=>∀H' v,JN CR CP en H' r l->sF r H H'->val x H' v->Q v H'
 | .error b=>Raise C r H E b.kind b.place
def L9(CR CP C:ag){α β:Type}(args:β->List V)(f:Nat->β->cA->Except Bad (α×cA))(val:ag->α->Hp->V->Prop):Sp:=λ vs H Q E=>Calm E/\∃r en b l,vs= .ref r::args b/\JN CR CP en H r l/\rh CR CP C en r H Q E (val CP) (f en b l)
abbrev aaa:ag->Unit->Hp->V->Prop:=λ _ _ _ v=>v= .qB
abbrev vInt:ag->Nat->Hp->V->Prop:=λ _ n _ v=>v= .int n
abbrev aa9:ag->Nat×List Nat->Hp->V->Prop:=λ CP p H v=>∃a,v= .ref a/\rF CP H a (.word p.2,p.1)
def un(x:Except Bad cA):Except Bad (Unit×cA):=x.map λ l=>((),l)
theorem oP(s:String):Str.ofString s=strOf (bX s):=by rw[Str.ofString_eq_toList];rfl
theorem A2{a b:List Nat}(h:strOf a=strOf b):a=b:=by
 have:=congrArg (λ z:Str=>z.cps.toList) h
 simpa using this
theorem Xj(w:List Nat)(s:String):isW (.word w) (Str.ofString s)=decide (w=bX s):=by
 show decide (strOf w=Str.ofString s)=_
 rw[oP]
 by_cases q:w=bX s
 ·rw[q];simp
 ·rw[decide_eq_false q,decide_eq_false λ z=>q (A2 z)]
theorem tK.ahead{en:Nat}{tk:List (Pc×Nat)}{l:cA}(h:tK en tk l):∃p t,tk=p::t/\p.2=placeOf en l:=by
 cases h <;> exact⟨_,_,rfl,rfl⟩
theorem tK.isW{en:Nat}{p:Pc×Nat}{t:List (Pc×Nat)}{l:cA}(h:tK en (p::t) l)(s:String):isW p.1 (Str.ofString s)=dC s l:=by
 cases h with
 |fin=>rfl
 |word h=>
  rw[Xj]
  unfold dC
  rename_i w i l
  show decide (w=bX s)=(some (Tok.word w) == some (Tok.word (bX s)))
  by_cases q:w=bX s
  ·rw[q];simp
  ·rw[decide_eq_false q]
   exact(beq_eq_false_iff_ne.mpr λ z=>q (Tok.word.inj (Option.some.inj z))).symm
 |num h=>rfl
 |semi h=>rfl
 |bad=>rfl
theorem tK.UP{en:Nat}{p:Pc×Nat}{t:List (Pc×Nat)}{l:cA}(h:tK en (p::t) l){s:String}(hw:dC s l=true):tK en t (l.drop 1):=by
 cases h with
 |fin=>exact absurd hw (by simp[dC])
 |word h=>exact h
 |num h=>exact h
 |semi h=>exact h
 |bad=>exact absurd hw (by simp[dC])
abbrev HH(CR CP C:ag):Sp:=L9 CR CP C (λ s:String=>[.str (Str.ofString s)]) (λ en s l=>un (bN en s l)) aaa
theorem QC:m_ ["self","word"] ["self","word"] (m6 uj):=qi
abbrev Hz2(P:aJ)(w:aY)(K:ah)(mg:Str->Option ao)(base:bw)(C:ag)(CR:ag)(CP:ag):Prop:=uo P w K mg base (BL P w C) 3 CR "take" ["self","fits"] (L8 CR CP C)
theorem QD(F:pJ K "take_word" "Reader.take_word" uj f fd)(T:vA P w K mg base CR CP)(TK:Hz2 P w K mg base C CR CP)(IW:uo P w K mg base oH 2 CR "is_word" ["self","word"] (HG CR CP)):
  nU P w K mg base (BL P w C) 4 f fd ["self","word"] (HH CR CP C):=by
 refine F.Wc QC (λ vs H Q E h=>?_) (λ vs H Q E h=>h.1) (λ oX A outer s H vs Q E hr h=>?_)
 ·obtain⟨_,r,en,b,l,rfl,_⟩:=h
  rfl
 ·obtain⟨hE,r,en,s,l,rfl,⟨tk,hR,hT⟩,k⟩:=h
  have k:rh CR CP C en r H Q E (aaa CP) (un (bN en s l)):=k
  obtain⟨p,t,rfl,vo⟩:=hT.ahead
  refine⟨_,m7 (og (pR TK T.cl hr (by decide) (pq (Cx.oF _ _ _)) (pv 0) (mX (pR (E:=E0) IW T.cl hr (by decide) nv (pv 0) (mX (pv 1) mZ)) mZ))),?_⟩
  obtain⟨dx,lp,i,as,ps,h1,h2⟩:=id hR
  refine⟨_,rfl,r,dx,_,rfl,h1,rfl,_,rfl,r,dx,_,rfl,h1,rfl,_,rfl,r,_,p,t,rfl,hR,hE,r,_,p,t,rfl,hR,λ hb H' a Nq hB pa=>?_,λ hb=>?_⟩
  ·rw[hT.isW]at hb
   have e:bN en s l= .ok (l.drop 1):=if_pos hb
   rw[e]at k
   exact k H' .qB ⟨t,Nq,hT.UP hb⟩ hB rfl
  ·rw[hT.isW]at hb
   have e:bN en s l= .error ⟨1,placeOf en l⟩:=if_neg (by rw[hb];decide)
   rw[e]at k
   rw[vo];exact k
abbrev HI(CR CP C:ag):Sp:=L9 CR CP C (λ _:Unit=>[]) (λ en _ l=>un (semi en l)) aaa
theorem QE:m_ ["self"] ["self"] (m6 uk):=qi
theorem Xk(p:Pc):decide (p.kd=V.str (Str.ofString "stop"))=(match p with | .stop=>true|_=>false)/\decide (p.kd=V.str (Str.ofString "end"))=(match p with | .fin=>true|_=>false)/\decide (p.kd=V.str (Str.ofString "number"))=(match p with | .num _=>true|_=>false):=by
 cases p <;> refine⟨?_,?_,?_⟩ <;> simp[Pc.kd] <;> decide
theorem Di(p:Pc)(z:Str):aby p.kd (.str z)=true:=by cases p <;> rfl
theorem EH{en:Nat}{p:Pc×Nat}{t:List (Pc×Nat)}{l:cA}(h:tK en (p::t) l):(decide (p.1.kd=V.str (Str.ofString "stop"))=true/\semi en l= .ok (l.drop 1)/\tK en t (l.drop 1))\/(decide (p.1.kd=V.str (Str.ofString "stop"))=false/\semi en l= .error ⟨1,p.2⟩):=by
 rw[(Xk p.1).1]
 cases h with
 |fin=>exact .inr ⟨rfl,rfl⟩
 |word h=>exact .inr ⟨rfl,rfl⟩
 |num h=>exact .inr ⟨rfl,rfl⟩
 |semi h=>exact .inl ⟨rfl,rfl,h⟩
 |bad=>exact .inr ⟨rfl,rfl⟩
theorem QF(F:pJ K "take_stop" "Reader.take_stop" uk f fd)(T:vA P w K mg base CR CP)(TK:Hz2 P w K mg base C CR CP)(A1:Hz1 P w K mg base CR CP)(g:Bi mg "STOP" "stop"):
  nU P w K mg base (BL P w C) 4 f fd ["self"] (HI CR CP C):=by
 refine F.Wc QE (λ vs H Q E h=>?_) (λ vs H Q E h=>h.1) (λ oX A outer s H vs Q E hr h=>?_)
 ·obtain⟨_,r,en,b,l,rfl,_⟩:=h
  rfl
 ·obtain⟨hE,r,en,s,l,rfl,⟨tk,hR,hT⟩,k⟩:=h
  have k:rh CR CP C en r H Q E (aaa CP) (un (semi en l)):=k
  obtain⟨p,t,rfl,vo⟩:=hT.ahead
  refine⟨_,m7 (og (pR TK T.cl hr (by decide) (pq (Cx.oF _ _ _)) (pv 0) (mX (rS ud (nr (oW (E:=E0) A1 T.cl hr (by decide) nv (pv 0)) rfl) (wx g) (oM _)) mZ))),?_⟩
  obtain⟨dx,lp,i,as,ps,h1,h2⟩:=id hR
  refine⟨_,rfl,r,dx,_,rfl,h1,rfl,_,rfl,r,dx,_,rfl,h1,rfl,r,p,t,rfl,hR,λ a ⟨dp,ha⟩=>⟨a,CP,dp,_,_,rfl,ha,T.pc.cl,T.pc.na "kind" (by simp),rfl,Di _ _,hE,r,_,p,t,rfl,hR,λ hb H' a Nq hB pa=>?_,λ hb=>?_⟩⟩
  ·rcases EH hT with⟨z1,z2,z3⟩|⟨z1,z2⟩
   ·rw[z2]at k
    exact k H' .qB ⟨t,Nq,z3⟩ hB rfl
   ·exact absurd (hb.symm.trans z1) (by decide)
  ·rcases EH hT with⟨z1,z2,z3⟩|⟨z1,z2⟩
   ·exact absurd (z1.symm.trans hb) (by decide)
   ·rw[z2]at k;exact k
abbrev KC(CR CP C:ag):Sp:=λ vs H Q E=>Calm E/\∃r en l,vs=[.ref r]/\JN CR CP en H r l/\(l=[]->∀H',sF r H H'->Q .qB H')/\(l≠[]->Raise C r H E 1 (placeOf en l))
theorem UQ:m_ ["self"] ["self"] (m6 vq):=qi
theorem Oa{en:Nat}{p:Pc×Nat}{t:List (Pc×Nat)}{l:cA}(h:tK en (p::t) l):(decide (p.1.kd=V.str (Str.ofString "end"))=true/\l=[])\/(decide (p.1.kd=V.str (Str.ofString "end"))=false/\l≠[]):=by
 rw[(Xk p.1).2.1]
 cases h with
 |fin=>exact .inl ⟨rfl,rfl⟩
 |word h=>exact .inr ⟨rfl,by simp⟩
 |num h=>exact .inr ⟨rfl,by simp⟩
 |semi h=>exact .inr ⟨rfl,by simp⟩
 |bad=>exact .inr ⟨rfl,by simp⟩
theorem UR(F:pJ K "take_end" "Reader.take_end" vq f fd)(T:vA P w K mg base CR CP)(TK:Hz2 P w K mg base C CR CP)(A1:Hz1 P w K mg base CR CP)(g:Bi mg "END" "end"):
  nU P w K mg base (BL P w C) 4 f fd ["self"] (KC CR CP C):=by
 refine F.Wc UQ (λ vs H Q E h=>?_) (λ vs H Q E h=>h.1) (λ oX A outer s H vs Q E hr h=>?_)
 ·obtain⟨_,r,en,l,rfl,_⟩:=h
  rfl
 ·obtain⟨hE,r,en,l,rfl,⟨tk,hR,hT⟩,k1,k2⟩:=h
  obtain⟨p,t,rfl,vo⟩:=hT.ahead
  refine⟨_,m7 (og (pR TK T.cl hr (by decide) (pq (Cx.oF _ _ _)) (pv 0) (mX (rS ud (nr (oW (E:=E0) A1 T.cl hr (by decide) nv (pv 0)) rfl) (wx g) (oM _)) mZ))),?_⟩
  obtain⟨dx,lp,i,as,ps,h1,h2⟩:=id hR
  refine⟨_,rfl,r,dx,_,rfl,h1,rfl,_,rfl,r,dx,_,rfl,h1,rfl,r,p,t,rfl,hR,λ a ⟨dp,ha⟩=>⟨a,CP,dp,_,_,rfl,ha,T.pc.cl,T.pc.na "kind" (by simp),rfl,Di _ _,hE,r,_,p,t,rfl,hR,λ hb H' a Nq hB pa=>?_,λ hb=>?_⟩⟩
  ·rcases Oa hT with⟨z1,z2⟩|⟨z1,z2⟩
   ·exact k1 z2 H' hB
   ·exact absurd (hb.symm.trans z1) (by decide)
  ·rcases Oa hT with⟨z1,z2⟩|⟨z1,z2⟩
   ·exact absurd (z1.symm.trans hb) (by decide)
   ·rw[vo];exact k2 z2
end oj
namespace L2
theorem gf{K:ah}{ta:TE}{σ:L2.St}{H:Hp}{a C dx:ag}{fs:List (Str×V)}{f:Str}{v:V}(h:Gives ta σ H (.ref a))(ha:H a=some (.ins C dx fs))(c:GP K C)(n:oE K C f)(l:fs.lookup f=some v):Gives (abA K ta f) σ H v:=λ Q q=>h _ ⟨a,C,dx,fs,v,rfl,ha,c,n,l,q⟩
theorem KD{σ:L2.St}{H:Hp}{ta tb tc:TE}{lo x hi:Int}{t u:TS}{D:Ends}(ha:Gives ta σ H (.int lo))(hb:Gives tb σ H (.int x))(hc:Gives tc σ H (.int hi))(h1:¬ (lo<=x/\x<=hi)->t D σ H)(h2:lo<=x/\x<=hi->u D σ H):
  abo (acW (SE (Hd (Sy λ i j=>.bl (decide (i<=j))) (Sy λ i j=>.bl (decide (i<=j))) ta tb tc))) t u D σ H:=by
 refine ha _ (hb _ ⟨_,_,rfl,rfl,_,rfl,qa (λ a=>hc _ ⟨_,_,rfl,rfl,_,rfl,?_⟩) λ a=>⟨_,rfl,tq (h1 λ z=>a (decide_eq_true z.1))⟩⟩)
 by_cases z:x<=hi
 ·rw[decide_eq_true z];exact rK (h2 ⟨of_decide_eq_true a,z⟩)
 ·rw[decide_eq_false z];exact tq (h1 λ y=>z y.2)
end L2
namespace oj
abbrev Xl:List V:=[.str "parts",.str "cell",.str "weight",.str "finds",.str "time",.str "team",.str "in"]
theorem Xm(w:List Nat):GS (.str (strOf w)) Xl=KEYS.contains w:=by
 have e:Xl=KEYS.map λ k=>V.str (strOf k):=by
  unfold KEYS
  simp only[aW,aG,eW,Function.comp]
  rw[<-oP,<-oP,<-oP,<-oP,<-oP,<-oP,<-oP]
 rw[e]
 generalize KEYS=ks
 unfold GS
 rw[jQ]
 induction ks with
 |nil=>rfl
 |cons k r ih=>
  rw[eF,kI,ih]
  congr 1
  show(strOf k == strOf w)=(w == k)
  by_cases q:w=k
  ·rw[q];simp
  ·rw[beq_eq_false_iff_ne.mpr q]
   exact beq_eq_false_iff_ne.mpr λ z=>q (A2 z).symm
def isN(p:Pc):Bool:=match p with
 | .word w=> !KEYS.contains w
 |_=>false
theorem KG{en:Nat}{p:Pc×Nat}{t:List (Pc×Nat)}{l:cA}(h:tK en (p::t) l):(∃w,p.1= .word w/\isN p.1=true/\nameAt en l= .ok ((p.2,w),l.drop 1)/\tK en t (l.drop 1))\/(isN p.1=false/\nameAt en l= .error ⟨1,p.2⟩):=by
 cases h with
 |fin=>exact .inr ⟨rfl,rfl⟩
 |word h=>
  rename_i w i l
  by_cases q:KEYS.contains w=true
  ·refine .inr ⟨?_,?_⟩
   ·show(!KEYS.contains w)=false
    rw[q];rfl
   ·show(if KEYS.contains w=true then _ else _)=_
    rw[if_pos q]
  ·refine .inl ⟨w,rfl,?_,?_,h⟩
   ·show(!KEYS.contains w)=true
    rw[gI]at q
    rw[q];rfl
   ·show(if KEYS.contains w=true then _ else _)=_
    rw[if_neg q];rfl
 |num h=>exact .inr ⟨rfl,rfl⟩
 |semi h=>exact .inr ⟨rfl,rfl⟩
 |bad=>exact .inr ⟨rfl,rfl⟩
theorem Ob{en:Nat}{p:Pc×Nat}{t:List (Pc×Nat)}{l:cA}(h:tK en (p::t) l)(lo hi:Nat):(∃n,p.1= .num n/\decide (p.1.kd=V.str (Str.ofString "number"))=true/\numAt en lo hi l=(if lo<=n/\n<=hi then .ok (n,l.drop 1)else .error ⟨4,p.2⟩)/\tK en t (l.drop 1))\/(decide (p.1.kd=V.str (Str.ofString "number"))=false/\numAt en lo hi l= .error ⟨1,p.2⟩):=by
 rw[(Xk p.1).2.2]
 cases h with
 |fin=>exact .inr ⟨rfl,rfl⟩
 |word h=>exact .inr ⟨rfl,rfl⟩
 |num h=>exact .inl ⟨_,rfl,rfl,rfl,h⟩
 |semi h=>exact .inr ⟨rfl,rfl⟩
 |bad=>exact .inr ⟨rfl,rfl⟩
abbrev HJ(CR CP C:ag):Sp:=L9 CR CP C (λ _:Unit=>[]) (λ en _ l=>nameAt en l) aa9
theorem HK:m_ ["self","piece"] ["self"] (m6 um):=qi
theorem QG{f rs:ag}{fd:bK}(F:pJ K "take_name" "Reader.take_name" um f fd)(T:vA P w K mg base CR CP)(TK:Hz2 P w K mg base C CR CP)(A1:Hz1 P w K mg base CR CP)(g:Bi mg "WORD" "word")(g2:N8 K mg "RESERVED" rs Xl):
  nU P w K mg base (BL P w C) 4 f fd ["self"] (HJ CR CP C):=by
 refine F.Wc HK (λ vs H Q E h=>?_) (λ vs H Q E h=>h.1) (λ oX A outer s H vs Q E hr h=>?_)
 ·obtain⟨_,r,en,b,l,rfl,_⟩:=h
  rfl
 ·obtain⟨hE,r,en,s,l,rfl,⟨tk,hR,hT⟩,k⟩:=h
  have k:rh CR CP C en r H Q E (aa9 CP) (nameAt en l):=k
  obtain⟨p,t,rfl,vo⟩:=hT.ahead
  have nd:=HK.nd
  have Eg:=T.pc.cl
  have m1:=T.pc.na "kind" (by simp)
  have m2:=T.pc.na "value" (by simp)
  refine⟨_,mY (m9 (i:=1) nd rfl (Or.inl rfl) (oW (E:=E0) A1 T.cl hr (by decide) nv (pv 0)))
   (m7 (nq (pR TK T.cl hr (by decide) (pq (Cx.oF _ _ _)) (pv 0) (mX (LB (rS ud (nr (pv 1) rfl) (wx g) (oM _)) (LA (rS uH (nr (pv 1) rfl) (KA g2) (by with_unfolding_all rfl)))) mZ)))),?_⟩
  obtain⟨dx,lp,i,as,ps,h1,h2⟩:=id hR
  refine⟨_,rfl,r,dx,_,rfl,h1,rfl,r,p,t,rfl,hR,λ a ⟨dp,ha⟩=>?_⟩
  refine⟨_,rfl,r,dx,_,rfl,h1,rfl,_,rfl,a,CP,dp,_,_,rfl,ha,Eg,m1,rfl,Di _ _,_,rfl,?_⟩
  have fin:L8 CR CP C [V.ref r,V.bl (isN p.1)] H Q E:=by
   refine⟨hE,r,_,p,t,rfl,hR,λ hb H' a Nq hB pa=>?_,λ hb=>?_⟩
   ·rcases KG hT with⟨w,z0,z1,z2,z3⟩|⟨z1,z2⟩
    ·rw[z2]at k
     refine k H' _ ⟨t,Nq,z3⟩ hB ⟨a,rfl,?_⟩
     obtain⟨pp,pn⟩:=p
     have z0:pp= .word w:=z0
     subst z0
     exact pa
    ·exact absurd (hb.symm.trans z1) (by decide)
   ·rcases KG hT with⟨w,z0,z1,z2,z3⟩|⟨z1,z2⟩
    ·exact absurd (z1.symm.trans hb) (by decide)
    ·rw[z2]at k;exact k
  rw[Tn]
  cases hp:p.1 with
  |word w=>
   refine tq ⟨_,rfl,a,CP,dp,_,_,rfl,ha,Eg,m2,rfl,rs,_,rfl,.inr (g2.2 _),(by rw[hp];rfl),rfl,?_⟩
   rw[hp]at fin ⊢
   show L8 CR CP C [V.ref r,V.bl (!GS (.str (strOf w)) Xl)] H Q E
   rw[Xm];exact fin
  |num n=>rw[hp]at fin;exact rK fin
  |stop=>rw[hp]at fin;exact rK fin
  |bad=>rw[hp]at fin;exact rK fin
  |fin=>rw[hp]at fin;exact rK fin
abbrev Dj(CR CP C:ag):Sp:=L9 CR CP C (λ b:Nat×Nat=>[.int b.1,.int b.2]) (λ en b l=>numAt en b.1 b.2 l) vInt
theorem Dk:m_ ["self","least","most","piece"] ["self","least","most"] (m6 sL):=qi
theorem L_(F:pJ K "take_number" "Reader.take_number" sL f fd)(T:vA P w K mg base CR CP)(W:t7 P w K mg base C)(TK:Hz2 P w K mg base C CR CP)(A1:Hz1 P w K mg base CR CP)(g:Bi mg "NUMBER" "number")(g2:oG mg "OUT_OF_RANGE" 4):
  nU P w K mg base (BL P w C) 4 f fd ["self","least","most"] (Dj CR CP C):=by
 refine F.Wc Dk (λ vs H Q E h=>?_) (λ vs H Q E h=>h.1) (λ oX A outer s H vs Q E hr h=>?_)
 ·obtain⟨_,r,en,b,l,rfl,_⟩:=h
  rfl
 ·obtain⟨hE,r,en,⟨lo,hi⟩,l,rfl,⟨tk,hR,hT⟩,k⟩:=h
  have k:rh CR CP C en r H Q E (vInt CP) (numAt en lo hi l):=k
  obtain⟨p,t,rfl,vo⟩:=hT.ahead
  have nd:=Dk.nd
  have Eg:=T.pc.cl
  have m1:=T.pc.na "kind" (by simp)
  have m2:=T.pc.na "value" (by simp)
  have m3:=T.pc.na "place" (by simp)
  refine⟨_,mY (m9 (i:=3) nd rfl (Or.inl rfl) (pR TK T.cl hr (by decide) (pq (Cx.oF _ _ _)) (pv 0) (mX (rS ud (nr (oW (E:=E0) A1 T.cl hr (by decide) nv (pv 0)) rfl) (wx g) (oM _)) mZ)))
   (mY (pk (vi (vm p_ p_ (pv 1) (nr (pv 3) rfl) (pv 2))) (m7 (vz W rfl (Cx.oF _ _ _) hr (by decide) (mX (nV g2) (mX (nr (pv 3) rfl) mZ)))) n9)
   (m7 (nq (nr (pv 3) rfl)))),?_⟩
  obtain⟨dx,lp,i,as,ps,h1,h2⟩:=id hR
  refine⟨_,rfl,r,dx,_,rfl,h1,rfl,_,rfl,r,dx,_,rfl,h1,rfl,r,p,t,rfl,hR,λ a ⟨dp,ha⟩=>⟨a,CP,dp,_,_,rfl,ha,Eg,m1,rfl,Di _ _,hE,r,_,p,t,rfl,hR,λ hb H' a Nq hB pa=>?_,λ hb=>?_⟩⟩
  ·rcases Ob hT lo hi with⟨n,z0,z1,z2,z3⟩|⟨z1,z2⟩
   ·obtain⟨pp,pn⟩:=p
    have z0:pp= .num n:=z0
    subst z0
    obtain⟨dp',SW⟩:=pa
    rw[z2]at k
    refine KD gv (gf gv SW Eg m2 rfl) gv (λ hc=>?_) λ hc=>?_
    ·rw[if_neg (by omega)]at k
     exact⟨_,rfl,a,CP,dp',_,_,rfl,SW,Eg,m3,rfl,_,_,rfl,λ H2 Xi hd ne=>k H2 Xi hd (hB.trans (sF.ne ne))⟩
    ·rw[if_pos (by omega)]at k
     exact⟨_,rfl,a,CP,dp',_,_,rfl,SW,Eg,m2,rfl,k H' _ ⟨t,Nq,z3⟩ hB rfl⟩
   ·exact absurd (hb.symm.trans z1) (by decide)
  ·rcases Ob hT lo hi with⟨n,z0,z1,z2,z3⟩|⟨z1,z2⟩
   ·exact absurd (z1.symm.trans hb) (by decide)
   ·rw[z2]at k;exact k
theorem rh.by{en r:Nat}{H:Hp}{Q:VK}{E:XK}{α:Type}{val:α->Hp->V->Prop}{x:Except Bad (α×cA)}(he:∀b,x= .error b->Raise C r H E b.kind b.place)
  (hk:∀a l,x= .ok (a,l)->∀H' v,JN CR CP en H' r l->sF r H H'->val a H' v->Q v H'):rh CR CP C en r H Q E val x:=by
 cases x with
 |error b=>exact he b rfl
 |ok y=>exact hk y.1 y.2 rfl
structure RdM(P:aJ)(w:aY)(K:ah)(mg:Str->Option ao)(base:bw)(CR CP C:ag):Prop where
 ahead:Hz1 P w K mg base CR CP
 isWord:uo P w K mg base oH 2 CR "is_word" ["self","word"] (HG CR CP)
 word:uo P w K mg base (BL P w C) 4 CR "take_word" ["self","word"] (HH CR CP C)
 stop:uo P w K mg base (BL P w C) 4 CR "take_stop" ["self"] (HI CR CP C)
 name:uo P w K mg base (BL P w C) 4 CR "take_name" ["self"] (HJ CR CP C)
 number:uo P w K mg base (BL P w C) 4 CR "take_number" ["self","least","most"] (Dj CR CP C)
 fin:uo P w K mg base (BL P w C) 4 CR "take_end" ["self"] (KC CR CP C)
abbrev EI:List Str:=["name","weight","finds","time"]
def ceV(c:bF):List V:=[.str (strOf c.name),.int c.weight,.int c.finds,.int c.time]
def BI(CC:ag)(H:Hp)(a:ag)(c:bF):Prop:=∃dx,H a=some (.ins CC dx (EI.zip (ceV c)))
def qM(CC:ag)(H:Hp)(as:List ag)(cs:List bF):Prop:=as.length=cs.length/\∀(j:Nat) (a:ag) (c:bF),as[j]? =some a->cs[j]? =some c->BI CC H a c
def xH(en:Nat)(f:ae)(l:cA):Except Bad (bF×cA):=do
 let l <-bN en "cell" l
 let n <-nameAt en l
 if(cellOf f n.1.2).isSome=true\/iH<=f.cells.length then .error ⟨3,n.1.1⟩
 else do
  let l <-bN en "weight" n.2
  let w <-numAt en 0 d_ l
  let l <-bN en "finds" w.2
  let p <-numAt en 0 f.parts l
  let l <-bN en "time" p.2
  let t <-numAt en 1 fq l
  let r <-semi en t.2
  .ok (⟨n.1.2,w.1,p.1,t.1⟩,r)
def HL(K:ah)(CR CP C CC:ag):Sp:=λ vs H Q E=>Calm E/\∃r en parts lc as cs l,vs=[.ref r,.int (parts:Nat),.ref lc]/\JN CR CP en H r l/\H lc=some (.lst (as.map V.ref))/\qM CC H as cs/\cs.length<=16/\
 rh CR CP C en r H Q E (λ c H' v=>∃a,v= .ref a/\BI CC H' a c) (xH en ⟨parts,cs,[]⟩ l)
abbrev KH:List Str:=["reader","parts","cells","name","weight","finds","time","cell"]
theorem HM:m_ KH ["reader","parts","cells"] (m6 AW):=qi
theorem Xn(as:List ag)(cs:List bF)(nm:List Nat)(n:Nat):GS (.str (strOf nm)) (cs.map λ c=>V.str (strOf c.name))=(cellOf ⟨n,cs,[]⟩ nm).isSome:=by
 unfold cF
 show _=(cs.findIdx? λ c=>c.name == nm).isSome
 rw[kb]
 unfold GS
 rw[jQ]
 congr 1
 funext c
 show(strOf c.name == strOf nm)=(c.name == nm)
 by_cases q:c.name=nm
 ·rw[q];simp
 ·rw[beq_eq_false_iff_ne.mpr q]
  exact beq_eq_false_iff_ne.mpr λ z=>q (A2 z)
theorem JN.ins{en r:Nat}{H:Hp}{l:cA}(h:JN CR CP en H r l):∃dx a i,H r=some (.ins CR dx (N9 a i)):=by
 obtain⟨tk,⟨dx,a,i,as,ps,h1,_⟩,_⟩:=h
 exact⟨dx,a,i,h1⟩
theorem wY{x:Except Bad cA}{b:Bad}(h:un x= .error b):x= .error b:=by
 cases x with
 |error c=>cases h;rfl
 |ok l=>cases h
theorem wy{x:Except Bad cA}{a:Unit}{l:cA}(h:un x= .ok (a,l)):x= .ok l:=by
 cases x with
 |error c=>cases h
 |ok l=>cases h;rfl
theorem sF.lst{r lc dx a i:Nat}{H H':Hp}{xs:List V}(b:sF r H H')(h:H lc=some (.lst xs))(hr:H r=some (.ins CR dx (N9 a i))):H' lc=some (.lst xs):=
 b lc _ h (λ e=>by rw[e,hr]at h;cases h) (λ φ q=>by cases q)
theorem sF.cells{r dx a i:Nat}{H H':Hp}{as:List ag}{cs:List bF}(b:sF r H H')(h:qM CC H as cs)(hr:H r=some (.ins CR dx (N9 a i))):qM CC H' as cs:=
 ⟨h.1,λ j x c e1 e2=>let⟨dy,ey⟩:=h.2 j x c e1 e2;⟨dy,b x _ ey (λ e=>by rw[e,hr]at ey;cases ey) (λ φ q=>by cases q)⟩⟩
theorem sF.HP{r x dx a i:Nat}{H H':Hp}{p:Pc×Nat}(b:sF r H H')(h:rF CP H x p)(hr:H r=some (.ins CR dx (N9 a i))):rF CP H' x p:=
 let⟨dy,ey⟩:=h;⟨dy,b x _ ey (λ e=>by rw[e,hr]at ey;cases ey) (λ φ q=>by cases q)⟩
theorem QH(F:pJ K "read_cell" "read_cell" AW f fd)(T:vA P w K mg base CR CP)(W:t7 P w K mg base C)(M:RdM P w K mg base CR CP C)(oA:Rec P w K mg base "Cell" CC EI)(pf:mg "len"=none)
  (yi:oG mg "MOST_CELLS" 16)(pE:oG mg "TOLD_OR_FULL" 3)(wZ:oG mg "MOST_WEIGHT" 1000)(zY:oG mg "MOST_TIME" 20):nU P w K mg base (BL P w C) 5 f fd ["reader","parts","cells"] (HL K CR CP C CC):=by
 refine F.Wc HM (λ vs H Q E h=>?_) (λ vs H Q E h=>h.1) (λ oX A outer s H vs Q E hr h=>?_)
 ·obtain⟨_,r,en,parts,lc,as,cs,l,rfl,_⟩:=h
  rfl
 ·obtain⟨hE,r,en,parts,lc,as,cs,l,rfl,hR,hL,hC,Ee,k⟩:=h
  have nd:=HM.nd
  have oC:=T.cl
  have pW:=M.word
  have ue:=M.name
  have pT:=M.number
  have rq:=M.stop
  refine⟨_,(mY (og (pR pW oC hr (by decide) (pq (Cx.oF _ _ _)) (pv 0) (mX qp mZ)))
   (mY (m9 (i:=3) nd rfl (Or.inl rfl) (oW ue oC hr (by decide) (pq (Cx.oF _ _ _)) (pv 0)))
   (mY (pk (PW.pt (Wk (ot ud (nN nO rfl pf aX (mX (pv 2) mZ)) (nV yi) (oM _)) (Qa (ot AS (nr (pv 3) rfl) (qw (own:=[("cell",7)]) rfl nd (oO (pv 2)) (by exact pD.of (N:=KH) (sc:=m6 AW) (by decide +kernel)) (λ _ _ _ _ _=>(nB (i:=7) nd rfl (Or.inl rfl))) (λ _ _ _ _ _=>oS) (λ _ _ _ _ _=>by exact(xW K (pv 7)))) (by with_unfolding_all rfl))))) (m7 (vz W rfl (Cx.oF _ _ _) hr (by decide) (mX (nV pE) (mX (nr (pv 3) rfl) mZ)))) n9)
   (mY (og (pR pW oC hr (by decide) (pq (Cx.oF _ _ _)) (pv 0) (mX qp mZ)))
   (mY (m9 (i:=4) nd rfl (Or.inl rfl) (pR pT oC hr (by decide) (pq (Cx.oF _ _ _)) (pv 0) (mX nP (mX (nV wZ) mZ))))
   (mY (og (pR pW oC hr (by decide) (pq (Cx.oF _ _ _)) (pv 0) (mX qp mZ)))
   (mY (m9 (i:=5) nd rfl (Or.inl rfl) (pR pT oC hr (by decide) (pq (Cx.oF _ _ _)) (pv 0) (mX nP (mX (pv 1) mZ))))
   (mY (og (pR pW oC hr (by decide) (pq (Cx.oF _ _ _)) (pv 0) (mX qp mZ)))
   (mY (m9 (i:=6) nd rfl (Or.inl rfl) (pR pT oC hr (by decide) (pq (Cx.oF _ _ _)) (pv 0) (mX nP (mX (nV zY) mZ))))
   (mY (og (oW rq oC hr (by decide) (pq (Cx.oF _ _ _)) (pv 0)))
   (m7 (nq (vx oA hr (by decide) (mX (nr (pv 3) rfl) (mX (pv 4) (mX (pv 5) (mX (pv 6) mZ))))))))))))))))),?_⟩
  have Eg:=T.pc.cl
  have m2:=T.pc.na "value" (by simp)
  have m3:=T.pc.na "place" (by simp)
  obtain⟨dx,la,i,h1⟩:=hR.ins
  refine⟨_,rfl,r,dx,_,rfl,h1,rfl,hE,r,en,"cell",l,rfl,hR,rh.by (λ b e=>?_) λ _ l1 e1 H1 v Xo Y9 _=>?_⟩
  ·have e:=wY e
   unfold xH at k
   rw[e]at k;exact k
  have e1:=wy e1
  unfold xH at k
  rw[e1]at k
  dsimp only[Bind.bind,Except.bind]at k
  obtain⟨dx1,la1,i1,Y_⟩:=Xo.ins
  refine⟨_,rfl,r,dx1,_,rfl,Y_,rfl,hE,r,en,(),l1,rfl,Xo,rh.by (λ b e=>?_) λ nm l2 e2 H2 v PR Ma ⟨a,ev,pa⟩=>?_⟩
  ·have e:nameAt en l1= .error b:=e
   rw[e]at k;exact Raise.mono k Y9
  subst ev
  have e2:nameAt en l1= .ok (nm,l2):=e2
  rw[e2]at k
  dsimp only at k
  have B2:=Y9.trans Ma
  have Za:=B2.lst hL h1
  have hC2:=B2.cells hC h1
  obtain⟨dp,ha⟩:=id pa
  have wrong:((cF ⟨parts,cs,[]⟩ nm.2).isSome=true\/iH<=cs.length)->∀H3 H4 d4,NE H2 H3->H4 d4=some (wd (.int 3) (.int (nm.1:Nat)))->NE H3 H4->E (.ref C) (some d4) H4:=λ hc H3 H4 d4 ne1 hd ne2=>by
   rw[if_pos hc]at k
   exact k H4 d4 hd (B2.trans ((sF.ne ne1).trans (sF.ne ne2)))
  refine⟨_,rfl,lc,_,rfl,.inl (nF.of Za),rfl,_,rfl,qa (λ hc=>?_) λ hc=>?_⟩
  ·have hc:=V.int.inj (of_decide_eq_true hc)
   rw[aa,hC.1]at hc
   refine tq ⟨_,rfl,a,CP,dp,_,_,rfl,ha,Eg,m3,rfl,_,_,rfl,λ H4 d4 hd ne=>wrong (.inr (by show 16<=_;omega)) H2 H4 d4 (NE.refl _) hd ne⟩
  have adH:¬ iH<=cs.length:=by
   have z:¬ ((as.map V.ref).length:Int)=16:=λ q=>hc (decide_eq_true (congrArg V.int q))
   rw[aa,hC.1]at z
   show ¬ 16<=_
   omega
  refine⟨_,rfl,a,CP,dp,_,_,rfl,ha,Eg,m2,rfl,_,rfl,lc,rfl,⟨_,nF.of Za⟩,?_⟩
  refine oZ (oU (K:=K) (xs:=as.map V.ref) (nF.of Za)) (cs.map λ c=>V.str (strOf c.name)) (by rw[aa,aa,hC.1]) (by rw[aa,hC.1,aA];omega) (λ j x y H3 R3 N3 hy sm hF kk=>?_) (λ D H3 hD sm uD=>?_)
  ·rw[ak]at hF hy
   cases q1:as[j]? with
   |none=>rw[q1]at hF;cases hF
   |some aj=>
    cases q2:cs[j]? with
    |none=>rw[q2]at hy;cases hy
    |some cj=>
     rw[q1]at hF;rw[q2]at hy
     cases hF;cases hy
     obtain⟨dc,ec⟩:=hC2.2 j aj cj q1 q2
     exact⟨rfl,sE ⟨_,rfl,aj,CC,dc,_,_,rfl,sm _ _ ec,oA.cl,oA.na "name" (by simp),rfl,kk H3 (m8.refl _)⟩⟩
  refine⟨D,_,rfl,.inl (nF.of uD),rfl,(by rw[cH];exact List.all_eq_true.mpr λ _ _=>rfl),_,rfl,?_⟩
  have ein:GS (.str (strOf nm.2)) (cs.map λ c=>V.str (strOf c.name))=(cF ⟨parts,cs,[]⟩ nm.2).isSome:=Xn as cs nm.2 parts
  refine qa (λ hc=>?_) λ hc=>?_
  ·have hc:(cF ⟨parts,cs,[]⟩ nm.2).isSome=true:=ein.symm.trans hc
   exact⟨_,rfl,a,CP,dp,_,_,rfl,sm _ _ ha,Eg,m3,rfl,_,_,rfl,λ H4 d4 hd ne=>wrong (.inl hc) H3 H4 d4 (λ b o e _=>sm b o e) hd ne⟩
  have aeT:¬ (cF ⟨parts,cs,[]⟩ nm.2).isSome=true:=λ q=>hc (ein.trans q)
  rw[if_neg (λ q=>q.elim aeT adH)]at k
  have B3:sF r H H3:=B2.trans (sF.of_same sm)
  have hR3:JN CR CP en H3 r l2:=by
   obtain⟨tk,⟨d',l',i',Ef,ps',q1,q2,q3,q4,q5⟩,ht⟩:=PR
   exact⟨tk,⟨d',l',i',Ef,ps',sm _ _ q1,sm _ _ q2,q3.same λ x o _ e=>sm x o e,q4,q5⟩,ht⟩
  obtain⟨dx3,la3,i3,Zb⟩:=hR3.ins
  refine⟨_,rfl,r,dx3,_,rfl,Zb,rfl,hE,r,en,"weight",l2,rfl,hR3,rh.by (λ b e=>?_) λ _ l4 e4 H4 v Zc Xp _=>?_⟩
  ·rw[wY e]at k;exact Raise.mono k B3
  rw[wy e4]at k
  dsimp only at k
  have B4:=B3.trans Xp
  obtain⟨dx4,la4,i4,h14⟩:=Zc.ins
  refine⟨_,rfl,r,dx4,_,rfl,h14,rfl,hE,r,en,(0,1000),l4,rfl,Zc,rh.by (λ b e=>?_) λ nw l5 e5 H5 v Xq Oc ev=>?_⟩
  ·have e:numAt en 0 d_ l4= .error b:=e
   rw[e]at k;exact Raise.mono k B4
  have e5:numAt en 0 d_ l4= .ok (nw,l5):=e5
  rw[e5]at k
  dsimp only at k
  subst ev
  have B5:=B4.trans Oc
  obtain⟨dx5,la5,i5,Zd⟩:=Xq.ins
  refine⟨_,rfl,r,dx5,_,rfl,Zd,rfl,hE,r,en,"finds",l5,rfl,Xq,rh.by (λ b e=>?_) λ _ l6 e6 H6 v hR6 hB6 _=>?_⟩
  ·rw[wY e]at k;exact Raise.mono k B5
  rw[wy e6]at k
  dsimp only at k
  have B6:=B5.trans hB6
  obtain⟨dx6,la6,i6,GJ⟩:=hR6.ins
  refine⟨_,rfl,r,dx6,_,rfl,GJ,rfl,_,rfl,hE,r,en,(0,parts),l6,rfl,hR6,rh.by (λ b e=>?_) λ nf l7 e7 H7 v hR7 hB7 ev=>?_⟩
  ·have e:numAt en 0 parts l6= .error b:=e
   rw[e]at k;exact Raise.mono k B6
  have e7:numAt en 0 parts l6= .ok (nf,l7):=e7
  rw[e7]at k
  dsimp only at k
  subst ev
  have B7:=B6.trans hB7
  obtain⟨dx7,la7,i7,h17⟩:=hR7.ins
  refine⟨_,rfl,r,dx7,_,rfl,h17,rfl,hE,r,en,"time",l7,rfl,hR7,rh.by (λ b e=>?_) λ _ l8 e8 H8 v hR8 hB8 _=>?_⟩
  ·rw[wY e]at k;exact Raise.mono k B7
  rw[wy e8]at k
  dsimp only at k
  have B8:=B7.trans hB8
  obtain⟨dx8,la8,i8,h18⟩:=hR8.ins
  refine⟨_,rfl,r,dx8,_,rfl,h18,rfl,hE,r,en,(1,20),l8,rfl,hR8,rh.by (λ b e=>?_) λ nt l9 e9 H9 v hR9 hB9 ev=>?_⟩
  ·have e:numAt en 1 fq l8= .error b:=e
   rw[e]at k;exact Raise.mono k B8
  have e9:numAt en 1 fq l8= .ok (nt,l9):=e9
  rw[e9]at k
  dsimp only at k
  subst ev
  have B9:=B8.trans hB9
  obtain⟨dx9,la9,i9,h19⟩:=hR9.ins
  refine⟨_,rfl,r,dx9,_,rfl,h19,rfl,hE,r,en,(),l9,rfl,hR9,rh.by (λ b e=>?_) λ _ lA eA HA v hRA hBA _=>?_⟩
  ·rw[wY e]at k;exact Raise.mono k B9
  rw[wy eA]at k
  have BA:=B9.trans hBA
  have p3:rF CP H3 a (.word nm.2,nm.1):=pa.same sm
  have pA:rF CP HA a (.word nm.2,nm.1):=hBA.HP (hB9.HP (hB8.HP (hB7.HP (hB6.HP (Oc.HP (Xp.HP p3 Zb) h14) Zd) GJ) h17) h18) h19
  obtain⟨dpA,haA⟩:=pA
  refine⟨_,rfl,a,CP,dpA,_,_,rfl,haA,Eg,m2,rfl,_,rfl,_,rfl,_,rfl,rfl,λ x dx HB hx C9 smB=>?_⟩
  refine k HB (.ref x) ?_ (BA.trans (sF.of_same smB)) ⟨x,rfl,⟨dx,C9⟩⟩
  ·obtain⟨tk,⟨d',l',i',Ef,ps',q1,q2,q3,q4,q5⟩,ht⟩:=hRA
   exact⟨tk,⟨d',l',i',Ef,ps',smB _ _ q1,smB _ _ q2,q3.same λ x o _ e=>smB x o e,q4,q5⟩,ht⟩
theorem pF{en:Nat}{s:String}{l r:cA}(h:bN en s l= .ok r):r.length<l.length:=by
 unfold bN at h
 split at h
 ·cases h
  rename_i hw
  cases l with
  |nil=>exact absurd hw (by simp[dC])
  |cons x y=>simp
 ·cases h
theorem Od{en:Nat}{l r:cA}(h:semi en l= .ok r):r.length<l.length:=by
 unfold lL at h
 split at h
 ·cases h
  rename_i hw
  cases l with
  |nil=>exact absurd hw (by simp)
  |cons x y=>simp
 ·cases h
theorem tL{en lo hi:Nat}{l r:cA}{n:Nat}(h:numAt en lo hi l= .ok (n,r)):r.length<l.length:=by
 unfold jD at h
 split at h
 ·split at h
  ·cases h;simp
  ·cases h
 ·cases h
theorem Cf{en:Nat}{l r:cA}{n:Nat×List Nat}(h:nameAt en l= .ok (n,r)):r.length<l.length:=by
 unfold lj at h
 split at h
 ·split at h
  ·cases h
  ·cases h;simp
 ·cases h
theorem HQ{en:Nat}{f:ae}{l r:cA}{c:bF}(h:xH en f l= .ok (c,r)):r.length<l.length/\f.cells.length<16:=by
 unfold xH at h
 cases e1:bN en "cell" l with
 |error b=>rw[e1]at h;cases h
 |ok l1=>
  rw[e1]at h
  dsimp only[Bind.bind,Except.bind]at h
  cases e2:nameAt en l1 with
  |error b=>rw[e2]at h;cases h
  |ok x=>
   obtain⟨n,l2⟩:=x
   rw[e2]at h
   dsimp only at h
   split at h
   ·cases h
   ·rename_i hc
    cases e3:bN en "weight" l2 with
    |error b=>rw[e3]at h;cases h
    |ok l3=>
     rw[e3]at h
     dsimp only at h
     cases e4:numAt en 0 d_ l3 with
     |error b=>rw[e4]at h;cases h
     |ok x4=>
      obtain⟨n4,l4⟩:=x4
      rw[e4]at h
      dsimp only at h
      cases e5:bN en "finds" l4 with
      |error b=>rw[e5]at h;cases h
      |ok l5=>
       rw[e5]at h
       dsimp only at h
       cases e6:numAt en 0 f.parts l5 with
       |error b=>rw[e6]at h;cases h
       |ok x6=>
        obtain⟨n6,l6⟩:=x6
        rw[e6]at h
        dsimp only at h
        cases e7:bN en "time" l6 with
        |error b=>rw[e7]at h;cases h
        |ok l7=>
         rw[e7]at h
         dsimp only at h
         cases e8:numAt en 1 fq l7 with
         |error b=>rw[e8]at h;cases h
         |ok x8=>
          obtain⟨n8,l8⟩:=x8
          rw[e8]at h
          dsimp only at h
          cases e9:semi en l8 with
          |error b=>rw[e9]at h;cases h
          |ok l9=>
           rw[e9]at h
           dsimp only at h
           cases h
           have a1:=pF e1
           have a2:=Cf e2
           have a3:=pF e3
           have a4:=tL e4
           have a5:=pF e5
           have a6:=tL e6
           have a7:=pF e7
           have a8:=tL e8
           have a9:=Od e9
           refine⟨by omega,?_⟩
           have:¬ 16<=f.cells.length:=λ q=>hc (.inr q)
           omega
theorem yj(en k:Nat)(f:ae)(l:cA):fQ en (k+1) f l=if dC "cell" l=false/\f.cells.isEmpty=false then .ok (f,l)else
  match xH en f l with
  | .error b=>.error b
  | .ok (c,r)=>fQ en k { f with cells:=f.cells++[c] } r:=by
 show(if dC "cell" l=false/\f.cells.isEmpty=false then _ else _)=_
 by_cases hc:dC "cell" l=false/\f.cells.isEmpty=false
 ·rw[if_pos hc,if_pos hc]
 ·rw[if_neg hc,if_neg hc]
  unfold xH
  cases e1:bN en "cell" l with
  |error b=>rfl
  |ok l1=>
   dsimp only[Bind.bind,Except.bind]
   cases e2:nameAt en l1 with
   |error b=>rfl
   |ok x=>
    dsimp only
    by_cases hd:(cF f x.1.2).isSome=true\/iH<=f.cells.length
    ·rw[if_pos hd,if_pos hd]
    ·rw[if_neg hd,if_neg hd]
     cases bN en "weight" x.2 with
     |error b=>rfl
     |ok l3=>
      dsimp only
      cases numAt en 0 d_ l3 with
      |error b=>rfl
      |ok x4=>
       dsimp only
       cases bN en "finds" x4.2 with
       |error b=>rfl
       |ok l5=>
        dsimp only
        cases numAt en 0 f.parts l5 with
        |error b=>rfl
        |ok x6=>
         dsimp only
         cases bN en "time" x6.2 with
         |error b=>rfl
         |ok l7=>
          dsimp only
          cases numAt en 1 fq l7 with
          |error b=>rfl
          |ok x8=>
           dsimp only
           cases semi en x8.2 with
           |error b=>rfl
           |ok l9=>rfl
def Fp(CR CP C CC:ag):Sp:=λ vs H Q E=>Calm E/\∃r en parts l,vs=[.ref r,.int (parts:Nat)]/\JN CR CP en H r l/\
 rh CR CP C en r H Q E (λ(f:ae) H' v=>∃lc as,v= .ref lc/\H' lc=some (.lst (as.map V.ref))/\qM CC H' as f.cells) (fQ en (l.length+1) ⟨parts,[],[]⟩ l)
abbrev QI:List Str:=["reader","parts","cells"]
theorem Fq:m_ QI ["reader","parts"] (m6 BU):=qi
theorem qM.snoc{H:Hp}{as:List ag}{cs:List bF}{a:ag}{c:bF}(h:qM CC H as cs)(h':BI CC H a c):qM CC H (as++[a]) (cs++[c]):=by
 refine⟨by simp[h.1],λ j b q h1 h2=>?_⟩
 by_cases hj:j<as.length
 ·rw[bp hj]at h1
  rw[bp (by rw[<-h.1];exact hj)]at h2
  exact h.2 j b q h1 h2
 ·rw[bg (by omega)]at h1
  rw[bg (by rw[<-h.1];omega)]at h2
  have e:j-as.length=0:=by
   obtain⟨z,_⟩:=List.getElem?_eq_some_iff.mp h1
   simp at z;omega
  rw[e]at h1
  rw[<-h.1,e]at h2
  cases h1;cases h2
  exact h'
theorem JN.same{en r:Nat}{H H':Hp}{l:cA}(h:JN CR CP en H r l)(sm:m8 H H'):JN CR CP en H' r l:=by
 obtain⟨tk,⟨d',l',i',Ef,ps',q1,q2,q3,q4,q5⟩,ht⟩:=h
 exact⟨tk,⟨d',l',i',Ef,ps',sm _ _ q1,sm _ _ q2,q3.same λ x o _ e=>sm x o e,q4,q5⟩,ht⟩
theorem JN.sP{en r lc:Nat}{H:Hp}{l:cA}{xs ys:List V}(h:JN CR CP en H r l)(hl:H lc=some (.lst xs))(hp:∀(as:List ag) (ps:List (Pc×Nat)),as≠[]->qD CP H as ps->xs≠as.map V.ref):JN CR CP en (upd H lc (.lst ys)) r l:=by
 obtain⟨tk,⟨d',l',i',Ef,ps',q1,q2,q3,q4,q5⟩,ht⟩:=h
 have xE:Ef≠[]:=by
  intro e
  have hz:=q3.1
  rw[e]at hz
  have:ps'=[]:=List.eq_nil_of_length_eq_zero hz.symm
  rw[this,List.drop_nil]at q4
  obtain⟨p,t,e2,_⟩:=ht.ahead
  rw[<-q4]at e2;cases e2
 refine⟨tk,⟨d',l',i',Ef,ps',?_,?_,⟨q3.1,λ j x q e1 e2=>?_⟩,q4,q5⟩,ht⟩
 ·rw[m5 (λ e=>by rw[e,hl]at q1;cases q1)];exact q1
 ·rw[m5 (λ e=>by rw[e,hl]at q2;exact hp Ef ps' xE q3 (HO.lst.inj (Option.some.inj q2)))];exact q2
 ·obtain⟨dy,ey⟩:=q3.2 j x q e1 e2
  exact⟨dy,by rw[m5 (λ e=>by rw[e,hl]at ey;cases ey)];exact ey⟩
theorem zZ:∀{as bs:List ag},as.map V.ref=bs.map V.ref->as=bs
 |[],[],_=>rfl
 |[],_::_,h=>by cases h
 |_::_,[],h=>by cases h
 |a::as,b::bs,h=>by
  have h1:=(List.cons.inj h).1
  rw[V.ref.inj h1,zZ (List.cons.inj h).2]
theorem GK{H:Hp}{as:List ag}{cs:List bF}(h:qM CC H as cs)(xE:cs≠[]):∀(Ef:List ag) (ps:List (Pc×Nat)),Ef≠[]->qD CP H Ef ps->as.map V.ref≠Ef.map V.ref:=by
 intro Ef ps h1 h2 e
 have e:=zZ e
 subst e
 match as,cs,ps,h,xE,h1,h2 with
 |a::r,c::cr,p::pr,h,_,_,h2=>
  obtain⟨d1,e1⟩:=h.2 0 a c rfl rfl
  obtain⟨d2,e2⟩:=h2.2 0 a p rfl rfl
  rw[e1]at e2
  cases e2
 |a::r,c::cr,[],h,_,_,h2=>exact absurd h2.1 (by simp)
theorem qM.sP{lc:Nat}{H:Hp}{xs ys:List V}{as:List ag}{cs:List bF}(h:qM CC H as cs)(hl:H lc=some (.lst xs)):qM CC (upd H lc (.lst ys)) as cs:=
 ⟨h.1,λ j a c e1 e2=>let⟨dx,e⟩:=h.2 j a c e1 e2;⟨dx,by rw[m5 (λ q=>by rw[q,hl]at e;cases e)];exact e⟩⟩
theorem Oe(F:pJ K "read_cells" "read_cells" BU f fd)(T:vA P w K mg base CR CP)(M:RdM P w K mg base CR CP C)(wz:rC P w K mg base (BL P w C) 5 "read_cell" ["reader","parts","cells"] (HL K CR CP C CC)):
  nU P w K mg base (BL P w C) 6 f fd ["reader","parts"] (Fp CR CP C CC):=by
 refine F.Wc Fq (λ vs H Q E h=>?_) (λ vs H Q E h=>h.1) (λ oX A outer s H vs Q E hr h=>?_)
 ·obtain⟨_,r,en,parts,l,rfl,_⟩:=h
  rfl
 ·obtain⟨hE,r,en,parts,l,rfl,hR,k⟩:=h
  have nd:=Fq.nd
  have oC:=T.cl
  have vd:=M.isWord
  refine⟨_,(mY (m9 (i:=2) nd rfl (Or.inl rfl) (nQ (mX (nA wz hr (by decide) (pq (Cx.oF _ _ _)) (mX (pv 0) (mX (pv 1) (mX (nQ mZ) mZ)))) mZ)))
   (mY (rN (Te rfl rfl (Cx.oF _ _ _) hE) (tH (pR (E:=E0) vd oC hr (by decide) nv (pv 0) (mX qp mZ))) (m7 (og (qU aH bc a_ pG (pv 2) (mX (nA wz hr (by decide) (pq (Cx.oF _ _ _)) (mX (pv 0) (mX (pv 1) (mX (pv 2) mZ)))) mZ)))))
   (m7 (nq (pv 2))))),?_⟩
  refine⟨_,rfl,_,rfl,aE _,λ p0 hp0=>?_⟩
  have s0:m8 H (upd H p0 (.lst [])):=m8.new hp0
  have st:=yj en l.length ⟨parts,[],[]⟩ l
  rw[if_neg (λ z=>by simp at z)]at st
  refine⟨hE,r,en,parts,p0,[],[],l,rfl,hR.same s0,m4,⟨rfl,λ j a c e1=>by simp at e1⟩,aE _,rh.by (λ b e=>?_) λ c l1 e1 H1 v Xo Y9 ⟨a,ev,ca⟩=>?_⟩
  ·rw[st,e]at k;exact Raise.mono k (sF.of_same s0)
  subst ev
  rw[e1]at st
  have st:fQ en (l.length+1) ⟨parts,[],[]⟩ l=fQ en l.length ⟨parts,[c],[]⟩ l1:=st
  have adA:=HQ e1
  have B1:sF r H H1:=(sF.of_same s0).trans Y9
  refine⟨(by show 1<=ay;decide),λ lc hlc=>?_⟩
  have s1:m8 H1 (upd H1 lc (.lst [.ref a])):=m8.new hlc
  refine⟨λ m σ H'=>∃(as:List ag) (cs:List bF) (l':cA) (fu:Nat),σ=[some (.ref r),some (.int parts),some (.ref lc)]/\H' lc=some (.lst (as.map V.ref))/\qM CC H' as cs/\JN CR CP en H' r l'/\sF r H H'/\m=l'.length/\cs≠[]/\cs.length<=16/\l'.length<fu/\fQ en (l.length+1) ⟨parts,[],[]⟩ l=fQ en fu ⟨parts,cs,[]⟩ l',
   ⟨_,[a],[c],l1,l.length,rfl,m4,⟨rfl,λ j x y e1 e2=>?_⟩,Xo.same s1,B1.trans (sF.of_same s1),rfl,by simp,by simp,adA.1,st⟩,?_⟩
  ·match j,e1,e2 with
   |0,e1,e2=>
    cases e1;cases e2
    obtain⟨d,e⟩:=ca
    exact⟨d,s1 _ _ e⟩
   |j+1,e1,e2=>simp at e1
  rintro m σ H' ⟨as,cs,l',fu,rfl,GD,hC',Nq,hB',rfl,xE,GJ,hfu,heq⟩
  obtain⟨tk,hRA,hT⟩:=id Nq
  obtain⟨p,t,rfl,vo⟩:=hT.ahead
  obtain⟨dx,la,i,h1⟩:=Nq.ins
  obtain⟨f1,rfl⟩:∃f1,fu=f1+1:=⟨fu-1,by omega⟩
  have Ec:=yj en f1 ⟨parts,cs,[]⟩ l'
  have ce:(cs.isEmpty=false):=by cases cs with |nil=>exact absurd rfl xE|cons=>rfl
  refine⟨_,rfl,r,dx,_,rfl,h1,rfl,r,_,p,t,rfl,hRA,_,rfl,?_⟩
  rw[hT.isW]
  refine qa (λ hw=>?_) λ hw=>?_
  ·rw[if_neg (λ z=>by rw[hw]at z;exact absurd z.1 (by decide))]at Ec
   refine⟨_,λ _ _ z=>z,_,rfl,.inl ⟨rfl,_,nF.of GD⟩,_,rfl,_,rfl,_,rfl,hE,r,en,parts,lc,as,cs,l',rfl,Nq,GD,hC',GJ,rh.by (λ b e=>?_) λ c2 l2 e2 H2 v PR Ma ⟨a2,ev,ca2⟩=>?_⟩
   ·rw[heq,Ec,e]at k;exact Raise.mono k hB'
   subst ev
   rw[e2]at Ec
   have acd:=HQ e2
   have Nn:=Ma.lst GD h1
   have hC2:=Ma.cells hC' h1
   refine⟨lc,_,_,rfl,rfl,Nn,?_,?_⟩
   ·rw[aa,hC'.1,aA];omega
   refine⟨l2.length,acd.1,as++[a2],cs++[c2],l2,f1,rfl,?_,?_,PR.sP Nn (GK hC2 xE),?_,rfl,by simp,?_,by have:=acd.1;omega,?_⟩
   ·rw[m4,aF];rfl
   ·refine(hC2.sP Nn).snoc ?_
    obtain⟨d,e⟩:=ca2
    exact⟨d,by rw[m5 (λ q=>by rw[q,Nn]at e;cases e)];exact e⟩
   ·intro b o e n x
    rw[m5 (λ q=>by have z:=B1 b o e n x;rw[q,hlc]at z;cases z)]
    exact Ma b o (hB' b o e n x) n x
   ·rw[aw];have z:cs.length<16:=acd.2;simp;omega
   ·rw[heq,Ec]
  ·have hw:dC "cell" l'=false:=by rw[gI]at hw;exact hw
   rw[if_pos ⟨hw,ce⟩]at Ec
   rw[heq,Ec]at k
   exact⟨_,rfl,k H' (.ref lc) Nq hB' ⟨lc,as,rfl,GD,hC'⟩⟩
def NumOf(H:Hp)(dn:ag)(f:ae):Prop:=∃oJ,H dn=some (.dK oJ)/\∀nm:List Nat,vp oJ (Sum.inr (strOf nm))=(cF f nm).map λ(i:Nat)=>V.int (i:Int)
def wA(en:Nat)(f:ae)(m:List Nat)(l:cA):Except Bad (Nat×cA):=match nameAt en l with
 | .error b=>.error b
 | .ok (n,r)=>match cF f n.2 with
  |none=>.error ⟨2,n.1⟩
  |some c=>if m.contains c=true then .error ⟨3,n.1⟩else .ok (c,r)
def Dl(CR CP C:ag):Sp:=λ vs H Q E=>Calm E/\∃(r en dn ml:Nat) (ms:List Nat) (f:ae) (l:cA),vs=[.ref r,.ref dn,.ref ml]/\JN CR CP en H r l/\NumOf H dn f/\H ml=some (.lst (nY ms))/\
 rh CR CP C en r H Q E (λ(c:Nat) _ v=>v= .int c) (wA en f ms l)
abbrev Of:List Str:=["reader","number_of","members","name"]
theorem Dm:m_ Of ["reader","number_of","members"] (m6 zS):=qi
theorem sF.dict{r dn dx a i:Nat}{H H':Hp}{f:ae}(b:sF r H H')(h:NumOf H dn f)(hr:H r=some (.ins CR dx (N9 a i))):NumOf H' dn f:=
 let⟨oJ,e,q⟩:=h;⟨oJ,b dn _ e (λ z=>by rw[z,hr]at e;cases e) (λ φ z=>by cases z),q⟩
theorem Dn(c:Nat)(ms:List Nat):GS (.int (c:Nat)) (nY ms)=ms.contains c:=by
 unfold GS
 rw[jQ]
 induction ms with
 |nil=>rfl
 |cons m r ih=>
  rw[eF,kI,ih]
  congr 1
  show(((m:Nat):Int) == ((c:Nat):Int))=(c == m)
  by_cases q:c=m
  ·rw[q];simp
  ·rw[beq_eq_false_iff_ne.mpr q]
   exact beq_eq_false_iff_ne.mpr (by omega)
theorem Mb(F:pJ K "read_member" "read_member" zS f fd)(T:vA P w K mg base CR CP)(W:t7 P w K mg base C)(M:RdM P w K mg base CR CP C)(EJ:oG mg "NO_CELL" 2)(pE:oG mg "TOLD_OR_FULL" 3):
  nU P w K mg base (BL P w C) 5 f fd ["reader","number_of","members"] (Dl CR CP C):=by
 refine F.Wc Dm (λ vs H Q E h=>?_) (λ vs H Q E h=>h.1) (λ oX A outer s H vs Q E hr h=>?_)
 ·obtain⟨_,r,en,dn,ml,ms,f,l,rfl,_⟩:=h
  rfl
 ·obtain⟨hE,r,en,dn,ml,ms,f,l,rfl,hR,hD,hM,k⟩:=h
  have nd:=Dm.nd
  have oC:=T.cl
  have ue:=M.name
  have Eg:=T.pc.cl
  have m2:=T.pc.na "value" (by simp)
  have m3:=T.pc.na "place" (by simp)
  refine⟨_,(mY (m9 (i:=3) nd rfl (Or.inl rfl) (oW ue oC hr (by decide) (pq (Cx.oF _ _ _)) (pv 0)))
   (mY (pk (P_ (Uw (SY hr) (nr (pv 3) rfl) (pv 1))) (m7 (vz W rfl (Cx.oF _ _ _) hr (by decide) (mX (nV EJ) (mX (nr (pv 3) rfl) mZ)))) n9)
   (mY (pk (ot AS (SU (SY hr) (pv 1) (nr (pv 3) rfl) (λ _ _=>rfl)) (pv 2) (by with_unfolding_all rfl)) (m7 (vz W rfl (Cx.oF _ _ _) hr (by decide) (mX (nV pE) (mX (nr (pv 3) rfl) mZ)))) n9)
   (m7 (nq (SU (SY hr) (pv 1) (nr (pv 3) rfl) (λ _ _=>rfl))))))),?_⟩
  obtain⟨dx,la,i,h1⟩:=hR.ins
  refine⟨_,rfl,r,dx,_,rfl,h1,rfl,hE,r,en,(),l,rfl,hR,rh.by (λ b e=>?_) λ nm l2 e2 H2 v PR Ma ⟨a,ev,pa⟩=>?_⟩
  ·have e:nameAt en l= .error b:=e
   unfold wA at k
   rw[e]at k;exact k
  subst ev
  have e2:nameAt en l= .ok (nm,l2):=e2
  unfold wA at k
  rw[e2]at k
  dsimp only at k
  obtain⟨dp,ha⟩:=id pa
  obtain⟨oJ,hd2,hv⟩:=Ma.dict hD h1
  have hM2:=Ma.lst hM h1
  have hvn:=hv nm.2
  refine⟨_,rfl,a,CP,dp,_,_,rfl,ha,Eg,m2,rfl,_,rfl,dn,_,rfl,JU.k (k:=Sum.inr (strOf nm.2)) hd2,_,rfl,?_⟩
  cases hc:cF f nm.2 with
  |none=>
   rw[hc]at hvn k
   rw[hvn]
   refine tq ⟨_,rfl,a,CP,dp,_,_,rfl,ha,Eg,m3,rfl,_,_,rfl,λ H4 d4 hd ne=>k H4 d4 hd (Ma.trans (sF.ne ne))⟩
  |some c=>
   rw[hc]at hvn k
   rw[hvn]
   dsimp only at k
   have hg:JU H2 dn (.str (strOf nm.2)) (some (.int (c:Nat))):=by
    have z:=JU.k (k:=Sum.inr (strOf nm.2)) hd2
    rw[hvn]at z;exact z
   refine rK ⟨_,rfl,_,rfl,a,CP,dp,_,_,rfl,ha,Eg,m2,rfl,dn,_,rfl,hg,_,rfl,ml,_,rfl,.inl (nF.of hM2),rfl,(by rw[cH];exact List.all_eq_true.mpr λ _ _=>rfl),_,rfl,?_⟩
   rw[show(if false=true then !GS (.int (c:Nat)) (nY ms)else GS (.int (c:Nat)) (nY ms))=ms.contains c from Dn c ms]
   refine qa (λ hm=>?_) λ hm=>?_
   ·rw[if_pos hm]at k
    exact⟨_,rfl,a,CP,dp,_,_,rfl,ha,Eg,m3,rfl,_,_,rfl,λ H4 d4 hd ne=>k H4 d4 hd (Ma.trans (sF.ne ne))⟩
   ·rw[if_neg hm]at k
    exact⟨_,rfl,_,rfl,a,CP,dp,_,_,rfl,ha,Eg,m2,rfl,dn,_,rfl,hg,k H2 _ PR Ma rfl⟩
def KI(en:Nat)(f:ae)(k:Nat)(m:List Nat)(r:cA):Except Bad (List Nat×cA):=match r with
 |(_,.semi)::r'=>.ok (m,r')
 |r=>fL en f k m r
theorem EK(en k:Nat)(f:ae)(m:List Nat)(l:cA):fL en f (k+1) m l=match wA en f m l with
  | .error b=>.error b
  | .ok (c,r)=>KI en f k (m++[c]) r:=by
 unfold wA
 show(do let n <-nameAt en l;_)=_
 cases e2:nameAt en l with
 |error b=>rfl
 |ok x=>
  obtain⟨n,r⟩:=x
  dsimp only[Bind.bind,Except.bind]
  cases hc:cF f n.2 with
  |none=>rfl
  |some c=>
   dsimp only
   by_cases hm:m.contains c=true
   ·rw[if_pos hm,if_pos hm]
   ·rw[if_neg hm,if_neg hm]
    dsimp only
    unfold KI
    cases r with
    |nil=>rfl
    |cons x r'=>
     obtain⟨i,tok⟩:=x
     cases tok <;> rfl
theorem z6{en:Nat}{f:ae}{m:List Nat}{l r:cA}{c:Nat}(h:wA en f m l= .ok (c,r)):r.length<l.length:=by
 unfold wA at h
 cases e2:nameAt en l with
 |error b=>rw[e2]at h;cases h
 |ok x=>
  obtain⟨n,r'⟩:=x
  rw[e2]at h
  dsimp only at h
  split at h
  ·cases h
  ·split at h
   ·cases h
   ·cases h;exact Cf e2
def Dq(en:Nat)(f:ae)(l:cA):Except Bad (aL×cA):=match bN en "team" l with
 | .error b=>.error b
 | .ok l1=>match numAt en 1 12 l1 with
  | .error b=>.error b
  | .ok (n,l2)=>if lH<aZ (f.teams.map λ t=>t.efforts)+n then .error ⟨5,placeOf en l1⟩else match bN en "in" l2 with
   | .error b=>.error b
   | .ok l3=>match fL en f (l3.length+1) [] l3 with
    | .error b=>.error b
    | .ok (m,r)=>.ok (⟨n,m⟩,r)
abbrev J0:List Str:=["efforts","cells"]
def sQ(CT:ag)(H:Hp)(a:ag)(t:aL):Prop:=∃dx ml,H a=some (.ins CT dx (J0.zip [.int t.efforts,.ref ml]))/\H ml=some (.lst (nY t.cells))/\t.cells≠[]
def HR(CR CP C CT:ag):Sp:=λ vs H Q E=>Calm E/\∃(r en dn:Nat) (f:ae) (l:cA),vs=[.ref r,.ref dn,.int (24-(aZ (f.teams.map λ t=>t.efforts):Nat))]/\JN CR CP en H r l/\NumOf H dn f/\l.length<=5000/\
 rh CR CP C en r H Q E (λ(t:aL) H' v=>∃a,v= .ref a/\sQ CT H' a t) (Dq en f l)
abbrev US:List Str:=["reader","number_of","efforts_left","place","efforts","members"]
theorem HS:m_ US ["reader","number_of","efforts_left"] (m6 Ez):=qi
theorem NumOf.sP{H:Hp}{dn ml:ag}{f:ae}{xs ys:List V}(h:NumOf H dn f)(hl:H ml=some (.lst xs)):NumOf (upd H ml (.lst ys)) dn f:=
 let⟨oJ,e,q⟩:=h;⟨oJ,by rw[m5 (λ z=>by rw[z,hl]at e;cases e)];exact e,q⟩
theorem NumOf.same{H H':Hp}{dn:ag}{f:ae}(h:NumOf H dn f)(sm:m8 H H'):NumOf H' dn f:=let⟨oJ,e,q⟩:=h;⟨oJ,sm _ _ e,q⟩
theorem Xr(ms:List Nat)(c:Nat):nY (ms++[c])=nY ms++[V.int (c:Nat)]:=by simp[nY]
theorem Fs{ms:List Nat}:∀(Ef:List ag),Ef≠[]->nY ms≠Ef.map V.ref:=by
 intro Ef h e
 match ms,Ef,h,e with
 |[],a::r,_,e=>cases e
 |m::r',a::r,_,e=>exact absurd (List.cons.inj e).1 (by intro z;cases z)
theorem QJ(F:pJ K "read_team" "read_team" Ez f fd)(T:vA P w K mg base CR CP)(W:t7 P w K mg base C)(M:RdM P w K mg base CR CP C)(qr:Rec P w K mg base "Team" CT J0)
  (t8:rC P w K mg base (BL P w C) 5 "read_member" ["reader","number_of","members"] (Dl CR CP C))(rL:oG mg "MOST_TEAM_EFFORTS" 12)(r8:oG mg "TOO_MANY_EFFORTS" 5)(HU:Bi mg "STOP" "stop"):
  nU P w K mg base (BL P w C) 6 f fd ["reader","number_of","efforts_left"] (HR CR CP C CT):=by
 refine F.Wc HS (λ vs H Q E h=>?_) (λ vs H Q E h=>h.1) (λ oX A outer s H vs Q E hr h=>?_)
 ·obtain⟨_,r,en,dn,f,l,rfl,_⟩:=h
  rfl
 ·obtain⟨hE,r,en,dn,f,l,rfl,hR,hD,hl5,k⟩:=h
  have nd:=HS.nd
  have oC:=T.cl
  have pW:=M.word
  have pT:=M.number
  have rq:=M.stop
  have rT:=M.ahead
  have Eg:=T.pc.cl
  have m1:=T.pc.na "kind" (by simp)
  have m3:=T.pc.na "place" (by simp)
  refine⟨_,(mY (og (pR pW oC hr (by decide) (pq (Cx.oF _ _ _)) (pv 0) (mX qp mZ)))
   (mY (m9 (i:=3) nd rfl (Or.inl rfl) (nr (oW (E:=E0) rT oC hr (by decide) nv (pv 0)) rfl))
   (mY (m9 (i:=4) nd rfl (Or.inl rfl) (pR pT oC hr (by decide) (pq (Cx.oF _ _ _)) (pv 0) (mX nP (mX (nV rL) mZ))))
   (mY (pk (ot Bk (pv 4) (pv 2) (oM _)) (m7 (vz W rfl (Cx.oF _ _ _) hr (by decide) (mX (nV r8) (mX (pv 3) mZ)))) n9)
   (mY (og (pR pW oC hr (by decide) (pq (Cx.oF _ _ _)) (pv 0) (mX qp mZ)))
   (mY (m9 (i:=5) nd rfl (Or.inl rfl) (nQ (mX (nA t8 hr (by decide) (pq (Cx.oF _ _ _)) (mX (pv 0) (mX (pv 1) (mX (nQ mZ) mZ)))) mZ)))
   (mY (rN (Te rfl rfl (Cx.oF _ _ _) hE) (ot ac9 (nr (oW (E:=E0) rT oC hr (by decide) nv (pv 0)) rfl) (wx HU) (oM _)) (m7 (og (qU aH bc a_ pG (pv 5) (mX (nA t8 hr (by decide) (pq (Cx.oF _ _ _)) (mX (pv 0) (mX (pv 1) (mX (pv 5) mZ)))) mZ)))))
   (mY (og (oW rq oC hr (by decide) (pq (Cx.oF _ _ _)) (pv 0)))
   (m7 (nq (vx qr hr (by decide) (mX (pv 4) (mX (pv 5) mZ))))))))))))),?_⟩
  unfold Dq at k
  obtain⟨dx,la,i,h1⟩:=hR.ins
  refine⟨_,rfl,r,dx,_,rfl,h1,rfl,hE,r,en,"team",l,rfl,hR,rh.by (λ b e=>?_) λ _ l1 e1 H1 v Xo Y9 _=>?_⟩
  ·rw[wY e]at k;exact k
  rw[wy e1]at k
  dsimp only at k
  obtain⟨dx1,la1,i1,Y_⟩:=Xo.ins
  obtain⟨tk1,aeU,hT1⟩:=id Xo
  obtain⟨p1,t1,rfl,aeV⟩:=hT1.ahead
  refine⟨_,rfl,r,dx1,_,rfl,Y_,rfl,r,p1,t1,rfl,aeU,λ a1 ⟨dp1,ha1⟩=>⟨a1,CP,dp1,_,_,rfl,ha1,Eg,m3,rfl,?_⟩⟩
  refine⟨_,rfl,r,dx1,_,rfl,Y_,rfl,hE,r,en,(1,12),l1,rfl,Xo,rh.by (λ b e=>?_) λ n l2 e2 H2 v PR Ma ev=>?_⟩
  ·have e:numAt en 1 12 l1= .error b:=e
   rw[e]at k;exact Raise.mono k Y9
  have e2:numAt en 1 12 l1= .ok (n,l2):=e2
  rw[e2]at k
  dsimp only at k
  subst ev
  have B2:=Y9.trans Ma
  refine⟨_,rfl,_,rfl,_,_,rfl,rfl,_,rfl,qa (λ hc=>?_) λ hc=>?_⟩
  ·have hc:=of_decide_eq_true hc
   rw[if_pos (by show 24< _;omega)]at k
   refine⟨_,rfl,_,_,rfl,λ H4 d4 hd ne=>k H4 d4 ?_ (B2.trans (sF.ne ne))⟩
   rw[hd,aeV];rfl
  have hc:¬ (24-((aZ (f.teams.map λ t=>t.efforts):Nat):Int))<(n:Int):=λ q=>hc (decide_eq_true q)
  rw[if_neg (by show ¬ 24< _;omega)]at k
  obtain⟨Xi,la2,i2,h12⟩:=PR.ins
  refine⟨_,rfl,r,Xi,_,rfl,h12,rfl,hE,r,en,"in",l2,rfl,PR,rh.by (λ b e=>?_) λ _ l3 e3 H3 v hR3 hB3 _=>?_⟩
  ·rw[wY e]at k;exact Raise.mono k B2
  rw[wy e3]at k
  dsimp only at k
  have B3:=B2.trans hB3
  have uD:=B3.dict hD h1
  refine⟨_,rfl,_,rfl,aE _,λ p0 hp0=>?_⟩
  have s0:m8 H3 (upd H3 p0 (.lst [])):=m8.new hp0
  have st:=EK en l3.length f [] l3
  refine⟨hE,r,en,dn,p0,[],f,l3,rfl,hR3.same s0,uD.same s0,m4,rh.by (λ b e=>?_) λ c l4 e4 H4 v Zc Xp ev=>?_⟩
  ·rw[e]at st
   rw[st]at k;exact Raise.mono k (B3.trans (sF.of_same s0))
  subst ev
  rw[e4]at st
  dsimp only at st
  have aeW:=z6 e4
  have B4:sF r H H4:=(B3.trans (sF.of_same s0)).trans Xp
  have hD4:NumOf H4 dn f:=Xp.dict (uD.same s0) (s0 _ _ (hR3.ins.choose_spec.choose_spec.choose_spec))
  refine⟨(by show 1<=ay;decide),λ ml hml=>?_⟩
  have s4:m8 H4 (upd H4 ml (.lst [.int (c:Nat)])):=m8.new hml
  refine⟨λ m σ H'=>∃(ms:List Nat) (l':cA) (fu:Nat),σ=[some (.ref r),some (.ref dn),some (.int (24-(aZ (f.teams.map λ t=>t.efforts):Nat))),some (.int (p1.2:Nat)),some (.int (n:Nat)),some (.ref ml)]/\H' ml=some (.lst (nY ms))/\ms≠[]/\JN CR CP en H' r l'/\NumOf H' dn f/\sF r H H'/\m=l'.length/\ms.length+l'.length<=l3.length+1/\l'.length<fu/\fL en f (l3.length+1) [] l3=KI en f fu ms l',
   ⟨_,[c],l4,l3.length,rfl,m4,by simp,Zc.same s4,hD4.same s4,B4.trans (sF.of_same s4),rfl,by simp;omega,aeW,st⟩,?_⟩
  rintro m σ H' ⟨ms,l',fu,rfl,hm',xE,Nq,hD',hB',rfl,hlen,hfu,heq⟩
  obtain⟨tk',aeX,hT'⟩:=id Nq
  obtain⟨p,t,rfl,vo⟩:=hT'.ahead
  obtain⟨dx',la',i',h1'⟩:=Nq.ins
  refine⟨_,rfl,r,dx',_,rfl,h1',rfl,r,p,t,rfl,aeX,λ a ⟨dp,ha⟩=>⟨a,CP,dp,_,_,rfl,ha,Eg,m1,rfl,Di _ _,_,rfl,?_⟩⟩
  rcases EH hT' with⟨z1,z2,z3⟩|⟨z1,z2⟩
  ·rw[z1]
   refine rK ?_
   refine⟨_,rfl,r,dx',_,rfl,h1',rfl,hE,r,en,(),l',rfl,Nq,rh.by (λ b e=>?_) λ _ l5 e5 H5 v Xq Oc _=>?_⟩
   ·have e:=wY e
    rw[z2]at e;cases e
   have e5:=wy e5
   rw[z2]at e5
   cases e5
   have hr:KI en f fu ms l'= .ok (ms,l'.drop 1):=by
    cases hT' with
    |semi h=>rfl
    |fin=>cases z2
    |word h=>cases z2
    |num h=>cases z2
    |bad=>cases z2
   rw[heq,hr]at k
   dsimp only at k
   have hm5:=Oc.lst hm' h1'
   refine⟨_,rfl,_,rfl,rfl,λ x dx6 H6 hx hx6 sm6=>?_⟩
   exact k H6 _ (Xq.same sm6) ((hB'.trans Oc).trans (sF.of_same sm6)) ⟨x,rfl,dx6,ml,hx6,sm6 _ _ hm5,xE⟩
  ·rw[z1]
   refine tq ?_
   obtain⟨f1,rfl⟩:∃f1,fu=f1+1:=⟨fu-1,by omega⟩
   have hr:KI en f (f1+1) ms l'=fL en f (f1+1) ms l':=by
    cases hT' with
    |semi h=>cases z2
    |fin=>rfl
    |word h=>rfl
    |num h=>rfl
    |bad=>rfl
   have Ec:=EK en f1 f ms l'
   refine⟨_,λ _ _ z=>z,_,rfl,.inl ⟨rfl,_,nF.of hm'⟩,_,rfl,_,rfl,_,rfl,hE,r,en,dn,ml,ms,f,l',rfl,Nq,hD',hm',rh.by (λ b e=>?_) λ c2 l5 e5 H5 v Xq Oc ev=>?_⟩
   ·rw[e]at Ec
    rw[heq,hr,Ec]at k;exact Raise.mono k hB'
   subst ev
   rw[e5]at Ec
   dsimp only at Ec
   have ace:=z6 e5
   have hm5:=Oc.lst hm' h1'
   have hD5:=Oc.dict hD' h1'
   refine⟨ml,_,_,rfl,rfl,hm5,?_,?_⟩
   ·have a1:=pF (wy e1)
    have a2:=tL e2
    have a3:=pF (wy e3)
    rw[aa,aA];omega
   refine⟨l5.length,ace,ms++[c2],l5,f1,rfl,?_,by simp,Xq.sP hm5 (λ Ef ps h _=>Fs Ef h),hD5.sP hm5,?_,rfl,?_,by omega,?_⟩
   ·rw[m4,Xr]
   ·intro b o e n x
    rw[m5 (λ q=>by have z:=B4 b o e n x;rw[q,hml]at z;cases z)]
    exact Oc b o (hB' b o e n x) n x
   ·simp;omega
   ·rw[heq,hr,Ec]
end oj
namespace L2
theorem Dr{K:ah}{a:ag}{xs:List V}{g:TG}{tb:TS}{D:Ends}{σ:L2.St}{H:Hp}(Pv:Nat->L2.St->Hp->Prop)(h0:Pv 0 σ H)(hl:∀i σ H,i<=xs.length->Pv i σ H->nF K H a xs)
  (hs:∀i x T σ H,xs[i]? =some x->Pv i σ H->H T=none->g (.ref T) σ (upd H T (.tup [.int (i:Nat),x])) λ σ2 H2=>tb { D with nx:=Pv (i+1),ct:=Pv (i+1),bk:=D.nx } σ2 H2)(hd:∀σ H,Pv xs.length σ H->D.nx σ H):
  ∃W:Nat->Nat->L2.St->Hp->Prop,(∃m,W 0 m σ H)/\∀i m σ H,W i m σ H->
   ((Ite K a).stop i H/\D.nx σ H)\/((Ite K a).go i H/\∃N:L2.St->Hp->Prop,(∀σ' H',N σ' H'->∃m',m'<m/\W (i+1) m' σ' H')/\∀x H',(Ite K a).Ha i H x H'->g x σ H' λ σ2 H2=>tb { D with nx:=N,ct:=N,bk:=D.nx } σ2 H2):=by
 refine⟨λ i m σ H=>m=xs.length-i/\i<=xs.length/\Pv i σ H,⟨xs.length,by simp,aE _,h0⟩,?_⟩
 rintro i m σ H ⟨rfl,hi,p⟩
 have q:=hl i σ H hi p
 by_cases rO:i<xs.length
 ·refine .inr ⟨⟨xs,xs[i],q,by simp[rO]⟩,Pv (i+1),λ σ' H' p'=>⟨xs.length-(i+1),by omega,rfl,rO,p'⟩,λ x H' y=>?_⟩
  obtain⟨T,z,rfl,hT,rfl,y⟩:=y
  exact hs i z T σ H (y xs q) p hT
 ·have e:i=xs.length:=by omega
  subst e
  exact .inl ⟨⟨xs,q,ax _⟩,hd σ H p⟩
theorem To{K:ah}{a b:ag}{xs ys:List V}{g:TG}{tb:TS}{D:Ends}{σ:L2.St}{H:Hp}(hxy:xs.length=ys.length)(Pv:Nat->L2.St->Hp->Prop)(h0:Pv 0 σ H)(hl:∀i σ H,i<=xs.length->Pv i σ H->nF K H a xs/\nF K H b ys)
  (hs:∀i x y T σ H,xs[i]? =some x->ys[i]? =some y->Pv i σ H->H T=none->g (.ref T) σ (upd H T (.tup [x,y])) λ σ2 H2=>tb { D with nx:=Pv (i+1),ct:=Pv (i+1),bk:=D.nx } σ2 H2)(hd:∀σ H,Pv xs.length σ H->D.nx σ H):
  ∃W:Nat->Nat->L2.St->Hp->Prop,(∃m,W 0 m σ H)/\∀i m σ H,W i m σ H->
   ((Itz K a b).stop i H/\D.nx σ H)\/((Itz K a b).go i H/\∃N:L2.St->Hp->Prop,(∀σ' H',N σ' H'->∃m',m'<m/\W (i+1) m' σ' H')/\∀x H',(Itz K a b).Ha i H x H'->g x σ H' λ σ2 H2=>tb { D with nx:=N,ct:=N,bk:=D.nx } σ2 H2):=by
 refine⟨λ i m σ H=>m=xs.length-i/\i<=xs.length/\Pv i σ H,⟨xs.length,by simp,aE _,h0⟩,?_⟩
 rintro i m σ H ⟨rfl,hi,p⟩
 obtain⟨q,q'⟩:=hl i σ H hi p
 by_cases rO:i<xs.length
 ·refine .inr ⟨⟨xs,ys,xs[i],ys[i],q,q',by simp[rO],af (by omega)⟩,Pv (i+1),λ σ' H' p'=>⟨xs.length-(i+1),by omega,rfl,rO,p'⟩,λ x H' y=>?_⟩
  obtain⟨T,z,z',rfl,hT,rfl,y,y'⟩:=y
  exact hs i z z' T σ H (y xs q) (y' ys q') p hT
 ·have e:i=xs.length:=by omega
  subst e
  exact .inl ⟨⟨xs,ys,q,q',.inl (ax _)⟩,hd σ H p⟩
end L2
namespace oj
def rV(en:Nat):Nat->ae->cA->Except Bad (ae×cA)
 |0,f,l=>.ok (f,l)
 |k+1,f,l=>if dC "team" l=true then(if jF<=f.teams.length then .error ⟨3,placeOf en l⟩else match Dq en f l with
  | .error b=>.error b
  | .ok (t,r)=>rV en k { f with teams:=f.teams++[t] } r)else .ok (f,l)
theorem Bn(en:Nat)(f:ae):∀(k:Nat) (m:List Nat) (l:cA) (m':List Nat) (r:cA),fL en f k m l= .ok (m',r)->r.length<=l.length:=by
 intro k
 induction k with
 |zero=>intro m l m' r h;cases h;exact ax _
 |succ k ih=>
  intro m l m' r h
  rw[EK]at h
  cases e:wA en f m l with
  |error b=>rw[e]at h;cases h
  |ok x=>
   obtain⟨c,r1⟩:=x
   rw[e]at h
   dsimp only at h
   have a1:=z6 e
   unfold KI at h
   split at h
   ·cases h;simp at a1;omega
   ·have:=ih _ _ _ _ h;omega
theorem UT{en:Nat}{f:ae}{l r:cA}{t:aL}(h:Dq en f l= .ok (t,r)):r.length<l.length:=by
 unfold Dq at h
 split at h
 ·cases h
 ·rename_i l1 e1
  split at h
  ·cases h
  ·rename_i n l2 e2
   split at h
   ·cases h
   ·split at h
    ·cases h
    ·rename_i l3 e3
     split at h
     ·cases h
     ·rename_i m r' e4
      cases h
      have a1:=pF e1
      have a2:=tL e2
      have a3:=pF e3
      have a4:=Bn en f _ _ _ _ _ e4
      omega
theorem Xs(en:Nat):∀(k:Nat) (f:ae) (l:cA),l.length<k->teamsAt en k f l=match rV en k f l with
  | .error b=>.error b
  | .ok (f',l')=>if l'.isEmpty=true then .ok f' else .error ⟨1,placeOf en l'⟩:=by
 intro k
 induction k with
 |zero=>intro f l h;omega
 |succ k ih=>
  intro f l h
  show(if l.isEmpty=true then Except.ok f else _)=_
  unfold rV
  by_cases he:l.isEmpty=true
  ·rw[if_pos he]
   have e:l=[]:=List.isEmpty_iff.mp he
   subst e
   rfl
  ·rw[if_neg he]
   by_cases hw:dC "team" l=true
   ·rw[if_pos hw]
    have e1:bN en "team" l= .ok (l.drop 1):=if_pos hw
    unfold Dq
    rw[e1]
    dsimp only[Bind.bind,Except.bind]
    by_cases ht:jF<=f.teams.length
    ·rw[if_pos ht,if_pos ht]
    ·rw[if_neg ht,if_neg ht]
     cases e2:numAt en 1 12 (l.drop 1)with
     |error b=>rfl
     |ok x=>
      obtain⟨n,l2⟩:=x
      dsimp only
      by_cases hs:lH<aZ (f.teams.map λ t=>t.efforts)+n
      ·rw[if_pos hs,if_pos hs]
      ·rw[if_neg hs,if_neg hs]
       cases e3:bN en "in" l2 with
       |error b=>rfl
       |ok l3=>
        dsimp only
        cases e4:fL en f (l3.length+1) [] l3 with
        |error b=>rfl
        |ok y=>
         obtain⟨m,r⟩:=y
         dsimp only
         have a1:=pF e1
         have a2:=tL e2
         have a3:=pF e3
         have a4:=Bn en f _ _ _ _ _ e4
         exact ih _ r (by omega)
   ·rw[if_neg hw]
    have e1:bN en "team" l= .error ⟨1,placeOf en l⟩:=if_neg hw
    rw[e1]
    dsimp only[Bind.bind,Except.bind]
    rw[if_neg he]
theorem Xt(oJ:List (Key×V))(k:Key)(v:V):(putK oJ k v).length<=oJ.length+1:=by
 unfold putK
 split
 ·rw[aa];omega
 ·rw[aw];simp
theorem Xu{cs:List bF}{i:Nat}{c:bF}(hn:(cs.map (·.name)).Nodup)(hc:cs[i]? =some c)(nm:List Nat):
  (if(Sum.inr (strOf nm):Key)=Sum.inr (strOf c.name)then some (V.int (i:Nat))else((cs.take i).findIdx? λ c=>c.name == nm).map λ(i:Nat)=>V.int (i:Int))=((cs.take i++(some c).toList).findIdx? λ c=>c.name == nm).map λ(i:Nat)=>V.int (i:Int):=by
 have hi:i<cs.length:=(List.getElem?_eq_some_iff.mp hc).1
 rw[List.findIdx?_append]
 have e1:(some c).toList=[c]:=rfl
 rw[e1,List.findIdx?_singleton,bW,fP (ff hi)]
 by_cases q:nm=c.name
 ·have hb:(c.name == nm)=true:=by rw[q];exact beq_self_eq_true _
  have h0:(cs.take i).findIdx? (λ c=>c.name == nm)=none:=by
   rw[List.findIdx?_eq_none_iff]
   intro d hd
   rw[beq_eq_false_iff_ne]
   intro e
   obtain⟨j,hj,ej⟩:=cw hd
   rw[bW]at hj
   rw[List.getElem_take]at ej
   have a1:(cs.map (·.name))[j]? =some c.name:=by rw[ak,af (by omega),ej];exact congrArg some (e.trans q)
   have a2:(cs.map (·.name))[i]? =some c.name:=by rw[ak,hc];rfl
   have:=adD hn a1 a2
   omega
  rw[if_pos (by rw[q]),h0,hb]
  simp
 ·have hb:(c.name == nm)=false:=beq_eq_false_iff_ne.mpr (λ z=>q z.symm)
  rw[if_neg (λ z=>q (A2 (Sum.inr.inj z))),hb]
  simp
theorem tM(l:List Nat):((l.map λ(n:Nat)=>(n:Int)).sum)=((aZ l:Nat):Int):=by
 have step:∀(l:List Nat) (a:Nat),((l.foldl (λ a b=>a+b) a:Nat):Int)=(a:Int)+(l.map λ(n:Nat)=>(n:Int)).sum:=by
  intro l
  induction l with
  |nil=>intro a;simp
  |cons n r ih=>intro a;rw[ck,ih,aG,iE];omega
 unfold aZ
 rw[step l 0];simp
def Ds(CT:ag)(H:Hp)(as:List ag)(ts:List aL):Prop:=as.length=ts.length/\∀(j:Nat) (a:ag) (t:aL),as[j]? =some a->ts[j]? =some t->sQ CT H a t
def Ft(CR CP C CC CT:ag):Sp:=λ vs H Q E=>Calm E/\∃(r en lc:Nat) (as:List ag) (f:ae) (l:cA),vs=[.ref r,.ref lc]/\JN CR CP en H r l/\H lc=some (.lst (as.map V.ref))/\qM CC H as f.cells/\(f.cells.map (·.name)).Nodup/\f.cells.length<=16/\f.teams=[]/\l.length<=5000/\
 rh CR CP C en r H Q E (λ(g:ae) H' v=>∃lt bs,v= .ref lt/\H' lt=some (.lst (bs.map V.ref))/\Ds CT H' bs g.teams) (rV en (l.length+1) f l)
abbrev HV:List Str:=["reader","cells","number_of","number","cell","teams","together","team"]
theorem Fu:m_ HV ["reader","cells"] (m6 x_):=qi
theorem sQ.but{r dx a i x:Nat}{H H':Hp}{t:aL}(b:sF r H H')(h:sQ CT H x t)(hr:H r=some (.ins CR dx (N9 a i))):sQ CT H' x t:=by
 obtain⟨d,ml,e1,e2,e3⟩:=h
 exact⟨d,ml,b x _ e1 (λ e=>by rw[e,hr]at e1;cases e1) (λ φ q=>by cases q),b.lst e2 hr,e3⟩
theorem sQ.same{x:Nat}{H H':Hp}{t:aL}(h:sQ CT H x t)(sm:m8 H H'):sQ CT H' x t:=let⟨d,ml,e1,e2,e3⟩:=h;⟨d,ml,sm _ _ e1,sm _ _ e2,e3⟩
theorem sQ.sP{x lt:Nat}{H:Hp}{t:aL}{bs:List ag}{ys:List V}(h:sQ CT H x t)(hl:H lt=some (.lst (bs.map V.ref))):sQ CT (upd H lt (.lst ys)) x t:=by
 obtain⟨d,ml,e1,e2,e3⟩:=h
 refine⟨d,ml,by rw[m5 (λ e=>by rw[e,hl]at e1;cases e1)];exact e1,?_,e3⟩
 rw[m5 (λ e=>?_)]
 ·exact e2
 ·rw[e,hl]at e2
  have z:=HO.lst.inj (Option.some.inj e2)
  cases hb:bs with
  |nil=>
   rw[hb]at z
   cases hc:t.cells with
   |nil=>exact e3 hc
   |cons c r=>rw[hc]at z;cases z
  |cons b r=>exact Fs (ms:=t.cells) bs (by rw[hb];simp) z.symm
theorem Og(F:pJ K "read_teams" "read_teams" x_ f fd)(T:vA P w K mg base CR CP)(W:t7 P w K mg base C)(M:RdM P w K mg base CR CP C)(oA:Rec P w K mg base "Cell" CC EI)(qr:Rec P w K mg base "Team" CT J0)
  (z7:rC P w K mg base (BL P w C) 6 "read_team" ["reader","number_of","efforts_left"] (HR CR CP C CT))(qm:mg "enumerate"=none)(pf:mg "len"=none)(xI:mg "sum"=none)(yk:oG mg "MOST_TEAMS" 6)(pE:oG mg "TOLD_OR_FULL" 3)(qE:oG mg "MOST_EFFORTS_TOGETHER" 24):
  nU P w K mg base (BL P w C) 7 f fd ["reader","cells"] (Ft CR CP C CC CT):=by
 refine F.Wc Fu (λ vs H Q E h=>?_) (λ vs H Q E h=>h.1) (λ oX A outer s H vs Q E hr h=>?_)
 ·obtain⟨_,r,en,lc,as,f,l,rfl,_⟩:=h
  rfl
 ·obtain⟨hE,r,en,lc,as,f,l,rfl,hR,hL,hC,hnn,GJ,hft,hl5,k⟩:=h
  have nd:=Fu.nd
  have oC:=T.cl
  have vd:=M.isWord
  have rT:=M.ahead
  have Eg:=T.pc.cl
  have m3:=T.pc.na "place" (by simp)
  refine⟨_,(mY (m9 (i:=2) nd rfl (Or.inl rfl) WD)
   (mY (qC (Te rfl rfl (Cx.oF _ _ _) hE) rfl (C6 rfl qm (mX (pv 1) mZ)) (zG rfl (oK (nB (i:=3) nd rfl (Or.inl rfl)) (oK (nB (i:=4) nd rfl (Or.inl rfl)) rD))) (m7 (ZK (SY hr) (pv 2) (nr (pv 4) rfl) (pv 3) rfl)))
   (mY (m9 (i:=5) nd rfl (Or.inl rfl) (nQ mZ))
   (mY (rN (Te rfl rfl (Cx.oF _ _ _) hE) (tH (pR (E:=E0) vd oC hr (by decide) nv (pv 0) (mX qp mZ))) (mY (pk (ot ud (nN nO rfl pf aX (mX (pv 5) mZ)) (nV yk) (oM _)) (m7 (vz W rfl (Cx.oF _ _ _) hr (by decide) (mX (nV pE) (mX (nr (oW (E:=E0) rT oC hr (by decide) nv (pv 0)) rfl) mZ)))) n9)
   (mY (m9 (i:=6) nd rfl (Or.inl rfl) (nN (BG rfl) rfl xI iO (mX (qw (own:=[("team",7)]) rfl nd (oO (pv 5)) (by exact pD.of (N:=HV) (sc:=m6 x_) (by decide +kernel)) (λ _ _ _ _ _=>by exact(nB (i:=7) nd rfl (Or.inl rfl))) (λ _ _ _ _ _=>by exact oS) (λ _ _ _ _ _=>by exact(xW K (pv 7)))) mZ)))
   (m7 (og (qU aH bc a_ pG (pv 5) (mX (nA z7 hr (by decide) (pq (Cx.oF _ _ _)) (mX (pv 0) (mX (pv 2) (mX (om sI (nV qE) (pv 6)) mZ)))) mZ)))))))
   (m7 (nq (pv 5))))))),?_⟩
  refine λ dn hdn=>?_
  have s0:m8 H (upd H dn (.dK [])):=m8.new hdn
  refine⟨_,rfl,lc,_,rfl,nF.of (s0 _ _ hL),Dr (K:=K) (a:=lc) (xs:=as.map V.ref) (λ i σ H'=>∃(o3 o4:Option V) (oJ:List (Key×V)),σ=[some (.ref r),some (.ref lc),some (.ref dn),o3,o4,none,none,none]/\m8 H H'/\H' dn=some (.dK oJ)/\oJ.length<=i/\∀nm:List Nat,vp oJ (Sum.inr (strOf nm))=((f.cells.take i).findIdx? λ c=>c.name == nm).map λ(i:Nat)=>V.int (i:Int))
   ⟨none,none,[],rfl,s0,m4,ax _,λ nm=>by simp[Wz]⟩ (λ i σ H' _ ⟨_,_,_,_,sm,_⟩=>nF.of (sm _ _ hL)) ?_ ?_⟩
  ·rintro i x T σ H' hx ⟨o3,o4,oJ,rfl,sm,hd,hk,hv⟩ hT
   rw[ak]at hx
   cases q1:as[i]? with
   |none=>rw[q1]at hx;cases hx
   |some aj=>
    rw[q1]at hx;cases hx
    have hi:i<f.cells.length:=by rw[<-hC.1];exact(List.getElem?_eq_some_iff.mp q1).1
    have q2:f.cells[i]? =some f.cells[i]:=af hi
    obtain⟨dc,ec⟩:=hC.2 i aj _ q1 q2
    have dT:dn≠T:=λ q=>by rw[q,hT]at hd;cases hd
    have V8:upd H' T (.tup [.int (i:Nat),.ref aj]) dn=some (.dK oJ):=by rw[m5 dT];exact hd
    have sT:m8 H' (upd H' T (.tup [.int (i:Nat),.ref aj])):=m8.new hT
    refine⟨T,_,rfl,Bj.of m4,rfl,_,_,rfl,_,_,rfl,rfl,?_⟩
    refine⟨_,rfl,_,rfl,_,rfl,aj,CC,dc,_,_,rfl,sT _ _ (sm _ _ ec),oA.cl,oA.na "name" (by simp),rfl,dn,_,rfl,WB.k (k:=Sum.inr (strOf f.cells[i].name)) V8 (by rw[aA];omega),?_⟩
    refine⟨_,_,_,rfl,λ b o e=>?_,m4,?_,λ nm=>?_⟩
    ·rw[m5 (nH e hdn)];exact sT _ _ (sm _ _ e)
    ·have z:=Xt oJ (Sum.inr (strOf f.cells[i].name)) (V.int (i:Nat))
     omega
    ·rw[WA,hv nm,bZ,q2]
     exact Xu hnn q2 nm
  ·rintro σ H' ⟨o3,o4,oJ,rfl,sm,hd,hk,hv⟩
   rw[aa,hC.1,dj]at hv
   have hN:NumOf H' dn f:=⟨oJ,hd,hv⟩
   clear hk hv hd
   refine⟨aE _,λ lt rO=>?_⟩
   have s1:m8 H' (upd H' lt (.lst [])):=m8.new rO
   have ltH:∀b o,H b=some o->b≠lt:=λ b o e=>nH (sm _ _ e) rO
   refine⟨λ m σ H2=>∃(o6:Option V) (bs:List ag) (ts:List aL) (l':cA) (fu:Nat),σ=[some (.ref r),some (.ref lc),some (.ref dn),o3,o4,some (.ref lt),o6,none]/\H2 lt=some (.lst (bs.map V.ref))/\Ds CT H2 bs ts/\JN CR CP en H2 r l'/\NumOf H2 dn f/\sF r H H2/\m=l'.length/\ts.length<=6/\l'.length<fu/\l'.length<=5000/\rV en (l.length+1) f l=rV en fu { f with teams:=ts } l',
    ⟨_,none,[],[],l,l.length+1,rfl,m4,⟨rfl,λ j a t e1=>by simp at e1⟩,(hR.same sm).same s1,hN.same s1,(sF.of_same sm).trans (sF.of_same s1),rfl,aE _,cK _,hl5,by rw[<-hft]⟩,?_⟩
   rintro m σ H2 ⟨o6,bs,ts,l',fu,rfl,hb2,LQ,PR,hN2,Ma,rfl,h6,hfu,GD,heq⟩
   obtain⟨tk,hRA,hT⟩:=id PR
   obtain⟨p,t,rfl,vo⟩:=hT.ahead
   obtain⟨dx,la,i,h1⟩:=PR.ins
   obtain⟨f1,rfl⟩:∃f1,fu=f1+1:=⟨fu-1,by omega⟩
   have st:rV en (f1+1) { f with teams:=ts } l'=if dC "team" l'=true then(if jF<=ts.length then .error ⟨3,placeOf en l'⟩else match Dq en { f with teams:=ts } l' with
    | .error b=>.error b
    | .ok (t,r)=>rV en f1 { f with teams:=ts++[t] } r)else .ok ({ f with teams:=ts },l'):=rfl
   refine⟨_,rfl,r,dx,_,rfl,h1,rfl,r,_,p,t,rfl,hRA,_,rfl,?_⟩
   rw[hT.isW]
   refine qa (λ hw=>?_) λ hw=>?_
   ·rw[if_pos hw]at st
    refine⟨_,λ _ _ z=>z,_,rfl,lt,_,rfl,.inl (nF.of hb2),rfl,_,rfl,qa (λ hc=>?_) λ hc=>?_⟩
    ·have hc:=V.int.inj (of_decide_eq_true hc)
     rw[aa,LQ.1]at hc
     rw[if_pos (by show 6<=_;omega)]at st
     rw[heq,st]at k
     refine⟨_,rfl,r,dx,_,rfl,h1,rfl,r,p,t,rfl,hRA,λ a ⟨dp,ha⟩=>⟨a,CP,dp,_,_,rfl,ha,Eg,m3,rfl,_,_,rfl,λ H4 d4 hd ne=>k H4 d4 ?_ (Ma.trans (sF.ne ne))⟩⟩
     rw[hd,vo];rfl
    ·have hc:¬ ((bs.map V.ref).length:Int)=6:=λ q=>hc (decide_eq_true (congrArg V.int q))
     rw[aa,LQ.1]at hc
     rw[if_neg (by show ¬ 6<=_;omega)]at st
     refine⟨_,rfl,lt,rfl,⟨_,nF.of hb2⟩,?_⟩
     refine oZ (oU (K:=K) (xs:=bs.map V.ref) (nF.of hb2)) (ts.map λ t=>V.int (t.efforts:Nat)) (by rw[aa,aa,LQ.1]) (by rw[aa,LQ.1,aA];omega) (λ j x y H3 R3 N3 hy pH hF kk=>?_) (λ D H3 hD pH uD=>?_)
     ·rw[ak]at hF hy
      cases q1:bs[j]? with
      |none=>rw[q1]at hF;cases hF
      |some aj=>
       cases q2:ts[j]? with
       |none=>rw[q2]at hy;cases hy
       |some tj=>
        rw[q1]at hF;rw[q2]at hy
        cases hF;cases hy
        obtain⟨dc,ml,ec,_⟩:=LQ.2 j aj tj q1 q2
        exact⟨rfl,sE ⟨_,rfl,aj,CT,dc,_,_,rfl,pH _ _ ec,qr.cl,qr.na "efforts" (by simp),rfl,kk H3 (m8.refl _)⟩⟩
     have aeY:(ts.map λ t=>((t.efforts:Nat):Int)).sum=((aZ (ts.map λ t=>t.efforts):Nat):Int):=by
      rw[<-tM,aW];rfl
     refine⟨D,ts.map (λ t=>((t.efforts:Nat):Int)),rfl,nF.of (by rw[uD,aW];rfl),?_⟩
     rw[aeY]
     have B3:sF r H H3:=Ma.trans (sF.of_same pH)
     have hb3:=pH _ _ hb2
     have Zb:=pH _ _ h1
     refine⟨_,rfl,.inl ⟨rfl,_,nF.of hb3⟩,_,rfl,_,rfl,_,rfl,_,_,rfl,rfl,hE,r,en,dn,{ f with teams:=ts },l',rfl,PR.same pH,hN2.same pH,GD,rh.by (λ b e=>?_) λ tm l5 e5 H5 v Xq Oc ⟨a5,ev,ta⟩=>?_⟩
     ·rw[e]at st
      rw[heq,st]at k;exact Raise.mono k B3
     subst ev
     rw[e5]at st
     dsimp only at st
     have ace:=UT e5
     have hb5:=Oc.lst hb3 Zb
     refine⟨lt,_,_,rfl,rfl,hb5,?_,?_⟩
     ·rw[aa,LQ.1,aA];omega
     have hT5:Ds CT H5 bs ts:=⟨LQ.1,λ j a t e1 e2=>((LQ.2 j a t e1 e2).same pH).but Oc Zb⟩
     refine⟨l5.length,ace,_,bs++[a5],ts++[tm],l5,f1,rfl,?_,?_,Xq.sP hb5 ?_,(Oc.dict (hN2.same pH) Zb).sP hb5,?_,rfl,?_,by omega,by omega,?_⟩
     ·rw[m4,aF];rfl
     ·refine⟨by simp[LQ.1],λ j a t e1 e2=>?_⟩
      by_cases hj:j<bs.length
      ·rw[bp hj]at e1
       rw[bp (by rw[<-LQ.1];exact hj)]at e2
       exact(hT5.2 j a t e1 e2).sP hb5
      ·rw[bg (by omega)]at e1
       rw[bg (by rw[<-LQ.1];omega)]at e2
       have e:j-bs.length=0:=by
        obtain⟨z,_⟩:=List.getElem?_eq_some_iff.mp e1
        simp at z;omega
       rw[e]at e1
       rw[<-LQ.1,e]at e2
       cases e1;cases e2
       exact ta.sP hb5
     ·intro Ef ps h h2 e
      have e:=zZ e
      subst e
      match bs,ts,ps,hT5,h,h2 with
      |b::br,t::tr,q::pr,hT5,_,h2=>
       obtain⟨d1,ml,e1,_⟩:=hT5.2 0 b t rfl rfl
       obtain⟨d2,e2⟩:=h2.2 0 b q rfl rfl
       rw[e1]at e2
       cases e2
      |b::br,t::tr,[],hT5,_,h2=>exact absurd h2.1 (by simp)
      |b::br,[],_,hT5,_,h2=>exact absurd hT5.1 (by simp)
     ·intro b o e n x
      rw[m5 (ltH b o e)]
      exact Oc b o (B3 b o e n x) n x
     ·rw[aw];simp;omega
     ·rw[heq,st]
   ·rw[if_neg hw]at st
    rw[heq,st]at k
    exact⟨_,rfl,k H2 (.ref lt) PR Ma ⟨lt,bs,rfl,hb2,LQ⟩⟩
theorem Oh(t:List Nat)(i lo hi:Nat):(t.drop i).take (ph t i lo hi)=(t.drop i).takeWhile λ c=>decide (lo<=c) && decide (c<=hi):=by
 unfold ph
 exact(List.prefix_iff_eq_take.mp (g0 _)).symm
theorem EL{t:List Nat}{i c:Nat}(h:t[i]? =some c)(h1:¬ (97<=c/\c<=122))(h2:¬ (48<=c/\c<=57)):nZ t i=i+1:=by
 unfold nZ
 have a1:=rp (lo:=97) (hi:=122) h
 have a2:=rp (lo:=48) (hi:=57) h
 rw[if_neg h1]at a1
 rw[if_neg h2]at a2
 omega
theorem aab(t:List Nat):∀(n i f:Nat),t.length-i<=n->n<f->i<=t.length->tK t.length (qg t (t.length-i) i++[(.fin,t.length)]) (iI f i (t.drop i)):=by
 intro n
 induction n with
 |zero=>
  intro i f h1 h2 h3
  have e:i=t.length:=by omega
  subst e
  obtain⟨f',rfl⟩:∃f',f=f'+1:=⟨f-1,by omega⟩
  rw[qk (ax _),fv]
  exact .fin
 |succ n ih=>
  intro i f h1 h2 h3
  obtain⟨f',rfl⟩:∃f',f=f'+1:=⟨f-1,by omega⟩
  by_cases hi:i<t.length
  ·have EG:t[i]? =some t[i]:=af hi
   have Bo:t.drop i=t[i]::t.drop (i+1):=d9 hi
   rw[Dh EG]
   have eb:=vy hi
   have next:=ih (nZ t i) f' (by omega) (by omega) eb.2
   generalize hc:t[i]=c at EG Bo
   rw[Bo]
   show tK _ _ (if c=32\/c=10 then _ else _)
   by_cases hb:c=32\/c=10
   ·rw[if_pos hb,if_pos hb,gW]
    rw[EL EG (by omega) (by omega)]at next
    rw[EL EG (by omega) (by omega)]
    exact next
   ·rw[if_neg hb,if_neg hb]
    show tK _ ((pieceAt t i c,i)::(qg t (t.length-nZ t i) (nZ t i)++[(.fin,t.length)])) _
    by_cases hs:c=59
    ·rw[if_pos hs]
     have e:pieceAt t i c= .stop:=by unfold pieceAt;rw[if_neg (by omega),if_neg (by omega),if_pos hs]
     rw[e]
     rw[EL EG (by omega) (by omega)]at next ⊢
     exact .semi next
    ·rw[if_neg hs]
     by_cases hl:97<=c/\c<=122
     ·have hL:fk c=true:=by unfold fk;simp[hl]
      rw[if_pos hL]
      have e0:=HF EG hl
      have ew:(c::t.drop (i+1)).takeWhile fk=(t.drop i).take (ph t i 97 122):=by rw[Oh,<-Bo];rfl
      have el:((c::t.drop (i+1)).takeWhile fk).length=ph t i 97 122:=by rw[<-Bo];rfl
      have ep:pieceAt t i c=zX t i (nZ t i):=if_pos hl
      rw[ep]
      dsimp only
      rw[el]
      unfold zX
      rw[show nZ t i-i=ph t i 97 122 by omega]
      by_cases h8:8<ph t i 97 122
      ·rw[if_pos h8,if_pos h8];exact .bad
      ·rw[if_neg h8,if_neg h8,ew,<-Bo,eY]
       rw[e0]at next
       rw[e0]
       exact .word next
     ·have hL:¬ fk c=true:=by unfold fk;simp;omega
      rw[if_neg hL]
      by_cases hd:48<=c/\c<=57
      ·have hD:fV c=true:=by unfold fV;simp[hd]
       rw[if_pos hD]
       have e0:=Kx EG hd
       have ew:(c::t.drop (i+1)).takeWhile fV=(t.drop i).take (ph t i 48 57):=by rw[Oh,<-Bo];rfl
       have el:((c::t.drop (i+1)).takeWhile fV).length=ph t i 48 57:=by rw[<-Bo];rfl
       have ep:pieceAt t i c=HC t i (nZ t i):=by unfold pieceAt;rw[if_neg hl,if_pos hd]
       rw[ep]
       dsimp only
       rw[el]
       unfold HC
       rw[show nZ t i-i=ph t i 48 57 by omega,EG]
       by_cases h4:4<ph t i 48 57\/(1<ph t i 48 57/\c=48)
       ·rw[if_pos h4,if_pos (by rcases h4 with z|⟨z1,z2⟩;exact .inl z;exact .inr ⟨z1,congrArg some z2⟩)];exact .bad
       ·rw[if_neg h4,if_neg (by rintro(z|⟨z1,z2⟩);exact h4 (.inl z);exact h4 (.inr ⟨z1,Option.some.inj z2⟩)),ew,<-Bo,eY]
        rw[e0]at next
        rw[e0]
        exact .num next
      ·have hD:¬ fV c=true:=by unfold fV;simp;omega
       rw[if_neg hD]
       have ep:pieceAt t i c= .bad:=by unfold pieceAt;rw[if_neg hl,if_neg hd,if_neg hs]
       rw[ep];exact .bad
  ·have e:i=t.length:=by omega
   subst e
   rw[qk (ax _),fv]
   exact .fin
theorem aac(t:List Nat):tK t.length (Ce t) (iI (t.length+1) 0 t):=by
 have h:=aab t t.length 0 (t.length+1) (by omega) (cK _) (aE _)
 simpa [Ce]using h
theorem vB:∀(f i:Nat) (t:List Nat),(iI f i t).length<=f
 |0,_,_=>ax _
 |_+1,_,[]=>aE _
 |f+1,i,c::t=>by
  show(if c=32\/c=10 then _ else _:cA).length<=_
  split
  ·have:=vB f (i+1) t;omega
  ·split
   ·have:=vB f (i+1) t;simp;omega
   ·split
    ·dsimp only
     split
     ·simp
     ·have:=vB f (i+((c::t).takeWhile fk).length) ((c::t).drop ((c::t).takeWhile fk).length);simp at this ⊢;omega
    ·split
     ·dsimp only
      split
      ·simp
      ·have:=vB f (i+((c::t).takeWhile fV).length) ((c::t).drop ((c::t).takeWhile fV).length);simp at this ⊢;omega
     ·simp
def Dt(K:ah)(CR CP:ag):Sp:=λ vs H Q _=>∃(x dx a:ag) (t:List Nat),vs=[.ref x,.ref a]/\H x=some (.ins CR dx [])/\nF K H a (nY t)/\t.length<=2000/\∀H',QB CR CP H' x (Ce t)->(∀b o,H b=some o->b≠x->H' b=some o)->Q .qB H'
theorem Mc:m_ ["self","text"] ["self","text"] (m6 zQ):=qi
theorem Md(F:pJ K "__init__" "Reader.__init__" zQ f fd)(T:vA P w K mg base CR CP)(Xv:rC P w K mg base oH 5 "cut" ["text"] (aa7 K CP)):nU P w K mg base oH 6 f fd ["self","text"] (Dt K CR CP):=by
 refine F.ok Mc (λ vs H Q E h=>?_) (λ oX A outer s H vs Q E hr h=>?_)
 ·obtain⟨x,dx,a,t,rfl,_⟩:=h
  rfl
 ·obtain⟨x,dx,a,t,rfl,hx,hs,ht,k⟩:=h
  refine⟨_,mY (pV (pv 0) (nA (E:=E0) Xv hr (by decide) nv (mX (pv 1) mZ)) rfl) (m7 (pV (pv 0) nP rfl)),?_⟩
  refine⟨_,rfl,a,t,rfl,hs,ht,λ H1 p as sm hp hf JZ pa=>?_⟩
  have px:p≠x:=λ e=>by rw[e,hx]at hp;cases hp
  refine⟨_,rfl,x,CR,dx,_,rfl,sm _ _ hx,T.cl,T.n1,(by show 0<1000;decide),_,rfl,x,CR,dx,_,rfl,m4,T.cl,T.n2,(by show 1<1000;decide),?_⟩
  refine k _ ⟨dx,p,0,as,Ce t,?_,?_,pa.same λ y o hy e=>?_,rfl,aE _⟩ λ b o e n=>?_
  ·rw[m4];rfl
  ·rw[m5 px,m5 px];exact JZ
  ·have yx:y≠x:=λ q=>by have:=hf y hy;rw[q,hx]at this;cases this
   rw[m5 yx,m5 yx];exact e
  ·rw[m5 n,m5 n];exact sm _ _ e
structure Xw(parts:Nat)(c:bF):Prop where
 weight:c.weight<=1000
 finds:c.finds<=parts
 time:1<=c.time/\c.time<=20
structure CellsOk(f:ae):Prop where
 nd:(f.cells.map (·.name)).Nodup
 len:f.cells.length<=16
 each:∀c∈f.cells,Xw f.parts c
theorem z8{en lo hi:Nat}{l r:cA}{n:Nat}(h:numAt en lo hi l= .ok (n,r)):lo<=n/\n<=hi:=by
 unfold jD at h
 split at h
 ·split at h
  ·rename_i hc;cases h;exact hc
  ·cases h
 ·cases h
theorem Xx{en:Nat}{f:ae}{l r:cA}{c:bF}(h:xH en f l= .ok (c,r)):Xw f.parts c/\c.name∉f.cells.map (·.name):=by
 unfold xH at h
 cases e1:bN en "cell" l with
 |error b=>rw[e1]at h;cases h
 |ok l1=>
  rw[e1]at h
  dsimp only[Bind.bind,Except.bind]at h
  cases e2:nameAt en l1 with
  |error b=>rw[e2]at h;cases h
  |ok x=>
   obtain⟨n,l2⟩:=x
   rw[e2]at h
   dsimp only at h
   split at h
   ·cases h
   ·rename_i hc
    cases e3:bN en "weight" l2 with
    |error b=>rw[e3]at h;cases h
    |ok l3=>
     rw[e3]at h
     dsimp only at h
     cases e4:numAt en 0 d_ l3 with
     |error b=>rw[e4]at h;cases h
     |ok x4=>
      obtain⟨n4,l4⟩:=x4
      rw[e4]at h
      dsimp only at h
      cases e5:bN en "finds" l4 with
      |error b=>rw[e5]at h;cases h
      |ok l5=>
       rw[e5]at h
       dsimp only at h
       cases e6:numAt en 0 f.parts l5 with
       |error b=>rw[e6]at h;cases h
       |ok x6=>
        obtain⟨n6,l6⟩:=x6
        rw[e6]at h
        dsimp only at h
        cases e7:bN en "time" l6 with
        |error b=>rw[e7]at h;cases h
        |ok l7=>
         rw[e7]at h
         dsimp only at h
         cases e8:numAt en 1 fq l7 with
         |error b=>rw[e8]at h;cases h
         |ok x8=>
          obtain⟨n8,l8⟩:=x8
          rw[e8]at h
          dsimp only at h
          cases e9:semi en l8 with
          |error b=>rw[e9]at h;cases h
          |ok l9=>
           rw[e9]at h
           dsimp only at h
           cases h
           refine⟨⟨(z8 e4).2,(z8 e6).2,z8 e8⟩,λ q=>hc (.inl ?_)⟩
           obtain⟨d,hd,ed⟩:=List.mem_map.mp q
           unfold cF
           rw[kb,dI]
           exact⟨d,hd,beq_iff_eq.mpr ed⟩
theorem Cg(en:Nat):∀(k:Nat) (f:ae) (l:cA) (g:ae) (r:cA),l.length<k->CellsOk f->fQ en k f l= .ok (g,r)->CellsOk g/\g.parts=f.parts/\g.teams=f.teams/\g.cells≠[]/\r.length<=l.length:=by
 intro k
 induction k with
 |zero=>intro f l g r h0;omega
 |succ k ih=>
  intro f l g r h0 hf h
  rw[yj]at h
  split at h
  ·rename_i hc
   cases h
   exact⟨hf,rfl,rfl,λ q=>by rw[q]at hc;simp at hc,ax _⟩
  ·cases e:xH en f l with
   |error b=>rw[e]at h;cases h
   |ok x=>
    obtain⟨c,r1⟩:=x
    rw[e]at h
    dsimp only at h
    obtain⟨a1,a2⟩:=HQ e
    obtain⟨b1,b2⟩:=Xx e
    have hf':CellsOk { f with cells:=f.cells++[c] }:=by
     refine⟨?_,by simp;omega,λ d hd=>?_⟩
     ·show(ka _ (f.cells++[c])).Nodup
      rw[aF,kW]
      refine⟨hf.nd,by simp,λ x hx y hy=>?_⟩
      simp at hy
      subst hy
      exact λ q=>b2 (q ▸ hx)
     ·rcases List.mem_append.mp hd with q|q
      ·exact hf.each d q
      ·simp at q;subst q;exact b1
    by_cases hk:r1.length<k
    ·obtain⟨z1,z2,z3,z4,z5⟩:=ih _ _ _ _ hk hf' h
     exact⟨z1,z2,z3,z4,by omega⟩
    ·omega
structure Me(n:Nat)(t:aL):Prop where
 efforts:1<=t.efforts/\t.efforts<=12
 ne:t.cells≠[]
 nd:t.cells.Nodup
 lt:∀c∈t.cells,c<n
structure Mf(f:ae):Prop where
 len:f.teams.length<=6
 tot:aZ (f.teams.map λ t=>t.efforts)<=24
 each:∀t∈f.teams,Me f.cells.length t
theorem Mg(en:Nat)(f:ae):∀(k:Nat) (m:List Nat) (l:cA) (m':List Nat) (r:cA),0<k->l.length<k->m.Nodup->(∀c∈m,c<f.cells.length)->fL en f k m l= .ok (m',r)->m'≠[]/\m'.Nodup/\∀c∈m',c<f.cells.length:=by
 intro k
 induction k with
 |zero=>intro m l m' r h0;omega
 |succ k ih=>
  intro m l m' r _ hk hm1 hm2 h
  show m'≠[]/\_
  change (nameAt en l >>= λ n=>_)=_ at h
  cases e:nameAt en l with
  |error b=>rw[e]at h;cases h
  |ok x=>
   obtain⟨n,r1⟩:=x
   rw[e]at h
   dsimp only[Bind.bind,Except.bind]at h
   cases e2:cF f n.2 with
   |none=>rw[e2]at h;cases h
   |some c=>
    rw[e2]at h
    dsimp only at h
    have rO:c<f.cells.length:=by
     unfold cF at e2
     exact(List.findIdx?_eq_some_iff_getElem.mp e2).1
    split at h
    ·cases h
    ·rename_i hc
     have V_:c∉m:=λ q=>hc (List.contains_iff_mem.mpr q)
     have g1:(m++[c]).Nodup:=by
      rw[kW]
      refine⟨hm1,by simp,λ x hx y hy=>?_⟩
      simp at hy;subst hy
      exact λ q=>V_ (q ▸ hx)
     have g2:∀d∈m++[c],d<f.cells.length:=λ d hd=>by
      rcases List.mem_append.mp hd with q|q
      ·exact hm2 d q
      ·simp at q;subst q;exact rO
     have a1:=Cf e
     split at h
     ·cases h;exact⟨by simp,g1,g2⟩
     ·by_cases q:0<k
      ·exact ih _ _ _ _ q (by omega) g1 g2 h
      ·omega
theorem Ci(l:List Nat)(n:Nat):aZ (l++[n])=aZ l+n:=by
 unfold aZ
 rw[gu];rfl
theorem Xy{en:Nat}{f:ae}{l r:cA}{t:aL}(h:Dq en f l= .ok (t,r)):Me f.cells.length t/\aZ (f.teams.map λ t=>t.efforts)+t.efforts<=24:=by
 unfold Dq at h
 split at h
 ·cases h
 ·rename_i l1 e1
  split at h
  ·cases h
  ·rename_i n l2 e2
   split at h
   ·cases h
   ·rename_i hs
    split at h
    ·cases h
    ·rename_i l3 e3
     split at h
     ·cases h
     ·rename_i m r' e4
      cases h
      obtain⟨z1,z2,z3⟩:=Mg en f _ _ _ _ _ (mz _) (cK _) eV (λ c hc=>absurd hc (by simp)) e4
      have:¬ 24< _:=hs
      exact⟨⟨z8 e2,z1,z2,z3⟩,by dsimp only;omega⟩
theorem Cj(en:Nat):∀(k:Nat) (f:ae) (l:cA) (g:ae) (r:cA),Mf f->rV en k f l= .ok (g,r)->Mf g/\g.parts=f.parts/\g.cells=f.cells:=by
 intro k
 induction k with
 |zero=>intro f l g r hf h;cases h;exact⟨hf,rfl,rfl⟩
 |succ k ih=>
  intro f l g r hf h
  unfold rV at h
  split at h
  ·split at h
   ·cases h
   ·rename_i ht
    split at h
    ·cases h
    ·rename_i t r1 e
     obtain⟨b1,b2⟩:=Xy e
     have ht:¬ 6<=_:=ht
     obtain⟨z1,z2,z3⟩:=ih _ _ _ _ ⟨by simp;omega,by rw[aF];show aZ (_++[_])<=24;rw[Ci];exact b2,λ t' h'=>by
      rcases List.mem_append.mp h' with q|q
      ·exact hf.each t' q
      ·simp at q;subst q;exact b1⟩ h
     exact⟨z1,z2,z3⟩
  ·cases h;exact⟨hf,rfl,rfl⟩
theorem QK:m_ ["self","name","weight","finds","time"] ["self","name","weight","finds","time"] (m6 Ew):=qi
theorem QL{f C:ag}{fd:bK}(F:pJ K "__init__" "Cell.__init__" Ew f fd)(cl:GP K C)(na:∀g∈EI,oE K C g):nU P w K mg base oH 1 f fd ["self","name","weight","finds","time"] (Hy C EI):=by
 refine F.ok QK (λ vs H Q E h=>?_) (λ oX A outer s H vs Q E hr h=>?_)
 ·obtain⟨x,dx,args,rfl,hl,_⟩:=h
  rw[aD,hl];rfl
 ·obtain⟨x,dx,args,rfl,hl,hx,k⟩:=h
  match args,hl with
  |[a,b,c,d],_=>
   have n1:=na "name" (by simp)
   have n2:=na "weight" (by simp)
   have n3:=na "finds" (by simp)
   have n4:=na "time" (by simp)
   refine⟨_,mY (pV (pv 0) (pv 1) rfl) (mY (pV (pv 0) (pv 2) rfl) (mY (pV (pv 0) (pv 3) rfl) (m7 (pV (pv 0) (pv 4) rfl)))),?_⟩
   refine⟨_,rfl,_,rfl,x,C,dx,_,rfl,hx,cl,n1,(by show 0<1000;decide),_,rfl,_,rfl,x,C,dx,_,rfl,m4,cl,n2,(by show 1<1000;decide),_,rfl,_,rfl,x,C,dx,_,rfl,m4,cl,n3,(by show 2<1000;decide),_,rfl,_,rfl,x,C,dx,_,rfl,m4,cl,n4,(by show 3<1000;decide),?_⟩
   refine k _ m4 λ b o e hb=>?_
   rw[m5 hb,m5 hb,m5 hb,m5 hb];exact e
theorem QM:m_ ["self","efforts","cells"] ["self","efforts","cells"] (m6 Ex):=qi
theorem QN{f C:ag}{fd:bK}(F:pJ K "__init__" "Team.__init__" Ex f fd)(cl:GP K C)(na:∀g∈J0,oE K C g):nU P w K mg base oH 1 f fd ["self","efforts","cells"] (Hy C J0):=by
 refine F.ok QM (λ vs H Q E h=>?_) (λ oX A outer s H vs Q E hr h=>?_)
 ·obtain⟨x,dx,args,rfl,hl,_⟩:=h
  rw[aD,hl];rfl
 ·obtain⟨x,dx,args,rfl,hl,hx,k⟩:=h
  match args,hl with
  |[a,b],_=>
   have n1:=na "efforts" (by simp)
   have n2:=na "cells" (by simp)
   refine⟨_,mY (pV (pv 0) (pv 1) rfl) (m7 (pV (pv 0) (pv 2) rfl)),?_⟩
   refine⟨_,rfl,_,rfl,x,C,dx,_,rfl,hx,cl,n1,(by show 0<1000;decide),_,rfl,_,rfl,x,C,dx,_,rfl,m4,cl,n2,(by show 1<1000;decide),?_⟩
   refine k _ m4 λ b o e hb=>?_
   rw[m5 hb,m5 hb];exact e
abbrev Ck:List Str:=["parts","cells","teams"]
theorem Oi:m_ ["self","parts","cells","teams"] ["self","parts","cells","teams"] (m6 BR):=qi
theorem Oj{f C:ag}{fd:bK}(F:pJ K "__init__" "Field.__init__" BR f fd)(cl:GP K C)(na:∀g∈Ck,oE K C g):nU P w K mg base oH 1 f fd ["self","parts","cells","teams"] (Hy C Ck):=by
 refine F.ok Oi (λ vs H Q E h=>?_) (λ oX A outer s H vs Q E hr h=>?_)
 ·obtain⟨x,dx,args,rfl,hl,_⟩:=h
  rw[aD,hl];rfl
 ·obtain⟨x,dx,args,rfl,hl,hx,k⟩:=h
  match args,hl with
  |[a,b,c],_=>
   have n1:=na "parts" (by simp)
   have n2:=na "cells" (by simp)
   have n3:=na "teams" (by simp)
   refine⟨_,mY (pV (pv 0) (pv 1) rfl) (mY (pV (pv 0) (pv 2) rfl) (m7 (pV (pv 0) (pv 3) rfl))),?_⟩
   refine⟨_,rfl,_,rfl,x,C,dx,_,rfl,hx,cl,n1,(by show 0<1000;decide),_,rfl,_,rfl,x,C,dx,_,rfl,m4,cl,n2,(by show 1<1000;decide),_,rfl,_,rfl,x,C,dx,_,rfl,m4,cl,n3,(by show 2<1000;decide),?_⟩
   refine k _ m4 λ b o e hb=>?_
   rw[m5 hb,m5 hb,m5 hb];exact e
structure Du(f:ae):Prop where
 parts:2<=f.parts/\f.parts<=100
 ne:f.cells≠[]
 cells:CellsOk f
 teams:Mf f
theorem Mh(t:List Nat):cV t=(match bN t.length "parts" (iI (t.length+1) 0 t)with
  | .error b=>.error b
  | .ok l1=>match numAt t.length 2 100 l1 with
   | .error b=>.error b
   | .ok (p,l2)=>match semi t.length l2 with
    | .error b=>.error b
    | .ok l3=>match fQ t.length (l3.length+1) ⟨p,[],[]⟩ l3 with
     | .error b=>.error b
     | .ok (f,l4)=>match rV t.length (l4.length+1) f l4 with
      | .error b=>.error b
      | .ok (g,l5)=>if l5=[]then .ok g else .error ⟨1,placeOf t.length l5⟩):=by
 show(bN t.length "parts" (iI (t.length+1) 0 t) >>= _)=_
 cases bN t.length "parts" (iI (t.length+1) 0 t)with
 |error b=>rfl
 |ok l1=>
  dsimp only[Bind.bind,Except.bind]
  rw[show Vbmrac.PARTS=100 from rfl]
  cases numAt t.length 2 100 l1 with
  |error b=>rfl
  |ok x=>
   obtain⟨p,l2⟩:=x
   dsimp only
   cases semi t.length l2 with
   |error b=>rfl
   |ok l3=>
    dsimp only
    cases fQ t.length (l3.length+1) ⟨p,[],[]⟩ l3 with
    |error b=>rfl
    |ok y=>
     obtain⟨f,l4⟩:=y
     dsimp only
     rw[Xs _ _ _ _ (cK _)]
     cases rV t.length (l4.length+1) f l4 with
     |error b=>rfl
     |ok z=>
      obtain⟨g,l5⟩:=z
      dsimp only
      cases l5 <;> rfl
theorem aad{t:List Nat}{g:ae}(h:cV t= .ok g):Du g:=by
 rw[Mh]at h
 split at h
 ·cases h
 ·split at h
  ·cases h
  ·rename_i p l2 e2
   split at h
   ·cases h
   ·split at h
    ·cases h
    ·rename_i l3 e3 _ f l4 e4
     split at h
     ·cases h
     ·rename_i g' l5 e5
      split at h
      ·cases h
       obtain⟨a1,a2,a3,a4,_⟩:=Cg _ _ ⟨p,[],[]⟩ _ _ _ (cK _) ⟨eV,aE _,λ c hc=>absurd hc (by simp)⟩ e4
       obtain⟨b1,b2,b3⟩:=Cj _ _ _ _ _ _ ⟨by rw[a3];exact aE _,by rw[a3];exact aE _,λ c hc=>by rw[a3]at hc;exact absurd hc (by simp)⟩ e5
       have pp:=z8 e2
       refine⟨by rw[b2,a2];exact pp,by rw[b3];exact a4,⟨by rw[b3];exact a1.nd,by rw[b3];exact a1.len,λ c hc=>by rw[b2];exact a1.each c (b3 ▸ hc)⟩,b1⟩
      ·cases h
def rG(CF CC CT:ag)(H:Hp)(a:ag)(f:ae):Prop:=∃dx lc lt as bs,H a=some (.ins CF dx (Ck.zip [.int f.parts,.ref lc,.ref lt]))/\H lc=some (.lst (as.map V.ref))/\qM CC H as f.cells/\H lt=some (.lst (bs.map V.ref))/\Ds CT H bs f.teams
def z9(K:ah)(C CF CC CT:ag):Sp:=λ vs H Q E=>Calm E/\∃(a:ag) (t:List Nat),vs=[.ref a]/\nF K H a (nY t)/\t.length<=2000/\
 match cV t with
 | .ok g=>∀H' v,NE H H'->rG CF CC CT H' v g->Q (.ref v) H'
 | .error b=>∀H' dx,H' dx=some (wd (.int b.kind) (.int b.place))->NE H H'->E (.ref C) (some dx) H'
theorem Ol{H H':Hp}{a:ag}{xs:List V}(h:nF K H a xs)(sm:m8 H H'):nF K H' a xs:=by
 rcases h with (h|⟨o,h⟩)|h
 ·exact .inl (.inl (sm _ _ h))
 ·exact .inl (.inr ⟨o,sm _ _ h⟩)
 ·exact .inr h
structure Xz(P:aJ)(w:aY)(K:ah)(mg:Str->Option ao)(base:bw)(CR CP:ag):Prop where
 nm:mg "Reader"=some (.ref CR)
 mkr:∃f fd,Mk K CR f/\nU P w K mg base oH 6 f fd ["self","text"] (Dt K CR CP)/\Binds K fd ["self","text"] []
def aae(K:ah)(CR CP:ag)(t:TA):TE:=λ σ H Q=>t σ H λ vs H1=>∃(a:ag) (tx:List Nat),vs=[.ref a]/\nF K H1 a (nY tx)/\tx.length<=2000/\∀x H2,H1 x=none->QB CR CP H2 x (Ce tx)->m8 H1 H2->Q (.ref x) H2
theorem UU{X:Cx}{j:Nat}{e:bJ}{es:List bJ}{t:TA}{p pos:Pos}(h:Xz X.prog X.w X.K X.mg X.base CR CP)(hr:qT j X.A)(hj:7<=j)(ha:PA X (e::es) t)(hg:Gl X "Reader":=by rfl)
  (he:aN (e::es) X.env=(false,cu e X.env)::aN es X.env:=by rfl)(vo:(c7 pos (aN es X.env)).any (·.1)=false:=by rfl):
  PE X (.Call (.Name "Reader" p) (e::es) [] pos) (aae X.K CR CP t):=by
 obtain⟨f,fd,M,F,b⟩:=h.mkr
 intro pins s σ H Q I hw
 refine cZ (xR I hg h.nm ?_ (by decide))
 refine dJ (h₀:=X.base) I.ok.mod.Zo M.kp (pN (ha pos pins s σ H _ I hw) λ us s1 ⟨vs,H1,I1,r,a,tx,ev,hs,hl,q⟩=>⟨I1.Ff,?_⟩) he vo
 refine Hi (E:=E0) M F (hr.mono hj) b .nil (λ _ _ _ _ _ _ _ z=>z.elim) I1 r λ y dy hy hdy ne=>?_
 subst ev
 refine⟨y,dy,a,tx,rfl,m4,?_,hl,λ H' h1 h2=>⟨rfl,q y H' hy h1 (m8.made hy hdy h2)⟩⟩
 exact Ol hs (m8.made hy hdy λ b o e n=>e)
abbrev QO:List Str:=["text","reader","parts","cells","teams"]
theorem Fv:m_ QO ["text"] (m6 BV):=qi
theorem Om(F:pJ K "read_field" "read_field" BV f fd)(T:vA P w K mg base CR CP)(RM:Xz P w K mg base CR CP)(M:RdM P w K mg base CR CP C)(nJ:Rec P w K mg base "Field" CF Ck)
  (yl:rC P w K mg base (BL P w C) 6 "read_cells" ["reader","parts"] (Fp CR CP C CC))(ym:rC P w K mg base (BL P w C) 7 "read_teams" ["reader","cells"] (Ft CR CP C CC CT))(w6:oG mg "LEAST_PARTS" 2)(yn:oG mg "MOST_PARTS" 100):
  nU P w K mg base (BL P w C) 8 f fd ["text"] (z9 K C CF CC CT):=by
 refine F.Wc Fv (λ vs H Q E h=>?_) (λ vs H Q E h=>h.1) (λ oX A outer s H vs Q E hr h=>?_)
 ·obtain⟨_,a,t,rfl,_⟩:=h
  rfl
 ·obtain⟨hE,a,t,rfl,hs,ht,k⟩:=h
  have nd:=Fv.nd
  have oC:=T.cl
  have pW:=M.word
  have pT:=M.number
  have rq:=M.stop
  have Cm:=M.fin
  refine⟨_,(mY (m9 (i:=1) nd rfl (Or.inl rfl) (UU RM hr (by decide) (mX (pv 0) mZ)))
   (mY (og (pR pW oC hr (by decide) (pq (Cx.oF _ _ _)) (pv 1) (mX qp mZ)))
   (mY (m9 (i:=2) nd rfl (Or.inl rfl) (pR pT oC hr (by decide) (pq (Cx.oF _ _ _)) (pv 1) (mX (nV w6) (mX (nV yn) mZ))))
   (mY (og (oW rq oC hr (by decide) (pq (Cx.oF _ _ _)) (pv 1)))
   (mY (m9 (i:=3) nd rfl (Or.inl rfl) (nA yl hr (by decide) (pq (Cx.oF _ _ _)) (mX (pv 1) (mX (pv 2) mZ))))
   (mY (m9 (i:=4) nd rfl (Or.inl rfl) (nA ym hr (by decide) (pq (Cx.oF _ _ _)) (mX (pv 1) (mX (pv 3) mZ))))
   (mY (og (oW Cm oC hr (by decide) (pq (Cx.oF _ _ _)) (pv 1)))
   (m7 (nq (vx nJ hr (by decide) (mX (pv 2) (mX (pv 3) (mX (pv 4) mZ))))))))))))),?_⟩
  rw[Mh]at k
  refine⟨_,rfl,a,t,rfl,hs,ht,λ r H0 Xb hRA sm0=>?_⟩
  have l0:=vB (t.length+1) 0 t
  have hR:JN CR CP t.length H0 r (iI (t.length+1) 0 t):=⟨_,hRA,aac t⟩
  generalize htk:iI (t.length+1) 0 t=tk at hR k l0
  obtain⟨dx,la,i,h1⟩:=hR.ins
  have up:∀{H1:Hp},sF r H0 H1->NE H H1:=λ b c o e x=>b c o (sm0 _ _ e) (λ q=>by rw[q,Xb]at e;cases e) x
  have rs:∀{H1:Hp} {b:Bad},sF r H0 H1->(∀H' dx,H' dx=some (wd (.int b.kind) (.int b.place))->NE H H'->E (.ref C) (some dx) H')->Raise C r H1 E b.kind b.place:=λ b0 kk H' d e bb=>kk H' d e (up (b0.trans bb))
  refine⟨_,rfl,r,dx,_,rfl,h1,rfl,hE,r,t.length,"parts",tk,rfl,hR,rh.by (λ b e=>?_) λ _ l1 e1 H1 v Xo Y9 _=>?_⟩
  ·rw[wY e]at k;exact rs (sF.refl _ _) k
  rw[wy e1]at k
  dsimp only at k
  obtain⟨dx1,la1,i1,Y_⟩:=Xo.ins
  refine⟨_,rfl,r,dx1,_,rfl,Y_,rfl,hE,r,t.length,(2,100),l1,rfl,Xo,rh.by (λ b e=>?_) λ n l2 e2 H2 v PR Ma ev=>?_⟩
  ·have e:numAt t.length 2 100 l1= .error b:=e
   rw[e]at k;exact rs Y9 k
  have e2:numAt t.length 2 100 l1= .ok (n,l2):=e2
  rw[e2]at k
  dsimp only at k
  subst ev
  have B2:=Y9.trans Ma
  obtain⟨Xi,la2,i2,h12⟩:=PR.ins
  refine⟨_,rfl,r,Xi,_,rfl,h12,rfl,hE,r,t.length,(),l2,rfl,PR,rh.by (λ b e=>?_) λ _ l3 e3 H3 v hR3 hB3 _=>?_⟩
  ·rw[wY e]at k;exact rs B2 k
  rw[wy e3]at k
  dsimp only at k
  have B3:=B2.trans hB3
  refine⟨_,rfl,_,rfl,hE,r,t.length,n,l3,rfl,hR3,rh.by (λ b e=>?_) λ fc l4 e4 H4 v Zc Xp ⟨lc,as,ev,hlc,Mi⟩=>?_⟩
  ·rw[e]at k;exact rs B3 k
  rw[e4]at k
  dsimp only at k
  subst ev
  have B4:=B3.trans Xp
  obtain⟨a1,a2,a3,a4,a5⟩:=Cg _ _ ⟨n,[],[]⟩ _ _ _ (cK _) ⟨eV,aE _,λ c hc=>absurd hc (by simp)⟩ e4
  have q1:=pF (wy e1)
  have q2:=tL e2
  have q3:=Od (wy e3)
  obtain⟨dx4,la4,i4,h14⟩:=Zc.ins
  refine⟨_,rfl,_,rfl,hE,r,t.length,lc,as,fc,l4,rfl,Zc,hlc,Mi,a1.nd,a1.len,a3,by omega,rh.by (λ b e=>?_) λ fg l5 e5 H5 v Xq Oc ⟨lt,bs,ev,rO,hts⟩=>?_⟩
  ·rw[e]at k;exact rs B4 k
  rw[e5]at k
  dsimp only at k
  subst ev
  have B5:=B4.trans Oc
  obtain⟨b1,b2,b3⟩:=Cj _ _ _ _ _ _ ⟨by rw[a3];exact aE _,by rw[a3];exact aE _,λ c hc=>by rw[a3]at hc;exact absurd hc (by simp)⟩ e5
  obtain⟨dx5,la5,i5,Zd⟩:=Xq.ins
  refine⟨_,rfl,r,dx5,_,rfl,Zd,rfl,hE,r,t.length,l5,rfl,Xq,λ e H6 hB6=>?_,λ e=>?_⟩
  ·rw[if_pos e]at k
   refine⟨_,rfl,_,rfl,_,rfl,rfl,λ y dy H7 hy h7 sm7=>?_⟩
   have bE:sF r H4 H6:=Oc.trans hB6
   refine k H7 y (up ((B5.trans hB6).trans (sF.of_same sm7))) ⟨dy,lc,lt,as,bs,?_,sm7 _ _ (bE.lst hlc h14),?_,sm7 _ _ (hB6.lst rO Zd),hts.1,λ j x t e1 e2=>(sQ.but hB6 (hts.2 j x t e1 e2) Zd).same sm7⟩
   ·rw[h7,b2,a2]
   ·rw[b3]
    have hc6:=bE.cells Mi h14
    exact⟨hc6.1,λ j x c e1 e2=>let⟨d,z⟩:=hc6.2 j x c e1 e2;⟨d,sm7 _ _ z⟩⟩
  ·rw[if_neg e]at k
   exact rs B5 k
end oj
namespace L2
theorem Oo{K:ah}{X:Cx}{C:ag}{e:bJ}{f:Str}{pos:Pos}{ta:TE}(EC:tI K C)(hk:oE K C "__getattr__")(he:PE X e ta)(hK:X.K=K:=by rfl)(hb:dN e f X.env (cu e X.env)=cu e X.env:=by rfl):PE X (.Attribute e f pos) (aa5 K C ta f):=by
 subst hK;exact ZX EC hk he hb
end L2
namespace oj
def Fr(H:Hp)(p:ag):Prop:=∀o,H p=some o->∃φ,o= .ext φ
theorem Fr.of{H H':Hp}{p:ag}(n:NE H H')(h:H' p=none):Fr H p:=λ o e=>by
 apply Classical.byContradiction
 intro z
 have:=n p o e λ φ q=>z ⟨φ,q⟩
 rw[h]at this;cases this
theorem Fr.ne{H:Hp}{p b:ag}{o:HO}(f:Fr H p)(e:H b=some o)(x:∀φ,o≠ .ext φ):b≠p:=λ q=>by
 obtain⟨φ,z⟩:=f o (q ▸ e)
 exact x φ z
theorem _root_.L2.NE.of_same{H H1:Hp}(a:m8 H H1):NE H H1:=λ c o e _=>a c o e
theorem _root_.L2.NE.new{H H1:Hp}{p:ag}{o:HO}(n:NE H H1)(h:H1 p=none):NE H (upd H1 p o):=n.trans (NE.upd (.inl h))
def z_(H:Hp)(Q:VK)(xs:List V):Prop:=∀H' p,NE H H'->Fr H p->H' p=some (.lst xs)->Q (.ref p) H'
theorem z_.new{H H1:Hp}{Q:VK}{xs:List V}(k:z_ H Q xs)(n:NE H H1){p:ag}(h:H1 p=none):Q (.ref p) (upd H1 p (.lst xs)):=k _ p (n.new h) (Fr.of n h) m4
def iL(l:List Int):List V:=l.map V.int
def qF(zs:List Int):List Int:=if dD zs=false then[-1]else match cV (bV zs)with
 | .error b=>[1,(b.kind:Int),(b.place:Int)]
 | .ok _=>[0]
theorem Fw{zs:List Int}(h:dD zs=true):iL zs=nY (bV zs)/\(bV zs).length<=1500:=by
 unfold dD at h
 rw[bj,fA]at h
 have h1:zs.length<=1500:=of_decide_eq_true h.1
 refine⟨?_,by unfold bV;rw[aa];exact h1⟩
 unfold iL nY bV
 rw[aW]
 refine bP λ z hz=>?_
 have q:=h.2 z hz
 unfold bI at q
 simp at q
 show V.int z=V.int (z.toNat:Int)
 rw[Int.toNat_of_nonneg q.1]
theorem uf{σ:L2.St}{H:Hp}{ta tb tc:TE}{lo x hi:Int}{R:VK}(ha:Gives ta σ H (.int lo))(hb:Gives tb σ H (.int x))(hc:Gives tc σ H (.int hi))(k:R (.bl (bI x lo hi)) H):
  Hd (Sy λ i j=>.bl (decide (i<=j))) (Sy λ i j=>.bl (decide (i<=j))) ta tb tc σ H R:=by
 refine ha _ (hb _ ⟨_,_,rfl,rfl,_,rfl,qa (λ a=>hc _ ⟨_,_,rfl,rfl,?_⟩) λ a=>?_⟩)
 ·have e:bI x lo hi=decide (x<=hi):=by unfold bI;rw[a];rfl
  show R (V.bl (decide (x<=hi))) H
  rw[<-e];exact k
 ·have e:bI x lo hi=false:=by
   unfold bI
   cases q:decide (lo<=x)with
   |true=>exact absurd q a
   |false=>rfl
  rw[<-e];exact k
theorem pX(zs:List Int):(iL zs).length=zs.length:=aa _
def acf(H:Hp)(r:Except ma ae):XK:=λ _ d H'=>∃dx b,d=some dx/\r= .error b/\H' dx=some (wd (.int b.kind) (.int b.place))/\NE H H'
theorem acf.calm(H:Hp)(r:Except ma ae):Calm (acf H r):=λ c d H1 H2 n ⟨dx,b,e1,e2,e3,e4⟩=>⟨dx,b,e1,e2,n _ _ e3 (λ φ q=>by cases q),e4.trans n⟩
def Mj(K:ah):Sp:=λ vs H Q _=>∃(x y:V) (a:ag) (zs:List Int),vs=[x,y,.ref a]/\nF K H a (iL zs)/\zs.length<=1600/\z_ H Q (iL (qF zs))
abbrev HW:List Str:=["search","numbers","text","wrong","byte"]
theorem Fx:m_ HW ["search","numbers","text"] (m6 ye):=qi
theorem Fy(F:pJ K "call_where" "call_where" ye f fd)(W:t7 P w K mg base C)(qN:rC P w K mg base (BL P w C) 8 "read_field" ["text"] (z9 K C CF CC CT))(pf:mg "len"=none)(zB:mg "all"=none)(uM:oG mg "MOST_BYTES" 1500)(nI:oG mg "NOT_AS_TOLD" (-1))(uN:oG mg "TEXT_WRONG" 1)(nG:oG mg "DONE" 0):
  nU P w K mg base oH 9 f fd ["search","numbers","text"] (Mj K):=by
 refine F.ok Fx (λ vs H Q E h=>?_) (λ oX A outer s H vs Q E hr h=>?_)
 ·obtain⟨x,y,a,zs,rfl,_⟩:=h
  rfl
 ·obtain⟨x,y,a,zs,rfl,hs,hl,k⟩:=h
  have nd:=Fx.nd
  obtain⟨fi,fdi,XA,_⟩:=W.mkx
  have hEb:=acf.calm H (cV (bV zs))
  refine⟨_,(mY (pk (PW.pt (Wk (ot Bk (nN nO rfl pf aX (mX (pv 2) mZ)) (nV uM) (oM _)) (Qa (vi (tH (nN (BH rfl) rfl zB iP (mX (qw (own:=[("byte",4)]) rfl nd (oO (pv 2)) (by exact pD.of (N:=HW) (sc:=m6 ye) (by decide +kernel)) (λ _ _ _ _ _=>by exact(nB (i:=4) nd rfl (Or.inl rfl))) (λ _ _ _ _ _=>by exact oS) (λ _ _ _ _ _=>by exact(vk p_ p_ nP (pv 4) nP))) mZ))))))) (m7 (nq (nQ (mX (nV nI) mZ)))) n9)
   (mY (ab6 (i:=3) rfl rfl XA rfl W.nm nd rfl rfl hEb (λ _=>by exact(m7 (og (nA qN hr (by decide) (pq (Cx.oF _ _ _)) (mX (pv 2) mZ))))) (λ _=>by exact(m7 (nq (nQ (mX (nV uN) (mX (Oo W.ec W.ng (pv 3)) (mX (Oo W.ec W.ng (pv 3)) mZ))))))))
   (m7 (nq (nQ (mX (nV nG) mZ)))))),?_⟩
  have no:dD zs=false->∀H1 p,m8 H H1->H1 p=none->Q (.ref p) (upd H1 p (.lst [.int (-1)])):=λ hi H1 p sm hp=>by
   have e:qF zs=[-1]:=if_pos hi
   rw[e]at k
   exact k.new (NE.of_same sm) hp
  refine⟨_,rfl,a,_,rfl,.inl hs,_,_,rfl,rfl,_,rfl,qa (λ hc=>?_) λ hc=>?_⟩
  ·have hc:(1500:Int)<((iL zs).length:Int):=of_decide_eq_true hc
   unfold iL at hc
   rw[aa]at hc
   have hi:dD zs=false:=by
    unfold dD
    rw[decide_eq_false (show ¬ zs.length<=lO from λ(q:zs.length<=1500)=>by omega)];rfl
   exact tq ⟨(by show 1<=ay;decide),λ p hp=>no hi H p (m8.refl _) hp⟩
  have hc:¬ (1500:Int)<((iL zs).length:Int):=λ q=>hc (decide_eq_true q)
  unfold iL at hc
  rw[aa]at hc
  refine⟨_,rfl,a,rfl,⟨_,hs⟩,?_⟩
  refine oZ (oU (K:=K) (xs:=iL zs) hs) (zs.map λ z=>V.bl (bI z 0 255)) (by unfold iL;rw[aa,aa]) (by unfold iL;rw[aa,aA];omega) (λ j x y H3 R3 N3 hy pH hF kk=>?_) (λ D H3 hD pH uD=>?_)
  ·unfold iL at hF
   rw[ak]at hF hy
   cases q1:zs[j]? with
   |none=>rw[q1]at hF;cases hF
   |some z=>
    rw[q1]at hF hy
    cases hF;cases hy
    refine⟨rfl,sE ?_⟩
    exact uf gc gv gc (kk H3 (m8.refl _))
  have hin:dD zs=(zs.map λ z=>bI z 0 255).all id:=by
   unfold dD
   rw[decide_eq_true (show zs.length<=lO by show zs.length<=1500;omega),fF,cH];rfl
  refine⟨D,zs.map λ z=>bI z 0 255,rfl,nF.of (by rw[uD,aW];rfl),?_⟩
  rw[<-hin]
  refine⟨_,rfl,?_⟩
  cases hi:dD zs with
  |false=>exact tq ⟨(by show 1<=ay;decide),λ p hp=>no hi H3 p pH hp⟩
  |true=>
   refine rK ?_
   obtain⟨t1,t2⟩:=Fw hi
   have hs3:nF K H3 a (nY (bV zs)):=by rw[<-t1];exact Ol hs pH
   have wa:qF zs=match cV (bV zs)with
    | .error b=>[1,(b.kind:Int),(b.place:Int)]
    | .ok _=>[0]:=if_neg (by rw[hi];simp)
   refine⟨⟨_,rfl,hEb,a,bV zs,rfl,hs3,by omega,?_⟩,λ σ' H1 e dx tv hlen he ⟨dx',b,e1,e2,e3,e4⟩=>?_⟩
   ·cases q:cV (bV zs)with
    |error b=>exact λ H' dx h1 h2=>⟨dx,b,rfl,rfl,h1,λ c o e x=>h2 c o (pH _ _ e) x⟩
    |ok g=>
     intro H' v h1 h2
     rw[q]at wa
     rw[wa]at k
     refine⟨(by show 1<=ay;decide),λ p hp=>k.new ((NE.of_same pH).trans h1) hp⟩
   ·cases e1
    rw[e2]at wa
    rw[wa]at k
    have hv:(σ'.set 3 (some (V.ref e)))[3]? =some (some (V.ref e)):=cO (by rw[hlen];show 3<5;decide)
    refine⟨_,hv,e,tv,dx,_,_,rfl,he,e3,W.n1,rfl,_,hv,e,tv,dx,_,_,rfl,he,e3,W.n2,rfl,(by show 3<=ay;decide),λ p hp=>k.new e4 hp⟩
def rQ(w fi p n:Nat):Nat:=w*((p-fi) ^ n*p ^ (20-n))
def rH(w fi p:Nat):List Nat:=(az 21).map (rQ w fi p)
theorem QP(w fi p:Nat):rQ w fi p 0=w*p ^ 20:=by
 unfold rQ;rw[Nat.pow_zero,Nat.one_mul]
theorem QQ{w fi p n:Nat}(hp:0<p)(hn:n<20):rQ w fi p n*(p-fi) / p=rQ w fi p (n+1):=by
 unfold rQ
 have e:20-n=(20-(n+1))+1:=by omega
 rw[e]
 generalize 20-(n+1)=k
 rw[fY p k,fY (p-fi) n]
 have e2:w*((p-fi) ^ n*(p ^ k*p))*(p-fi)=(w*((p-fi) ^ n*(p-fi)*p ^ k))*p:=by
  simp only[fG,f6,gy]
 rw[e2,Nat.mul_div_cancel _ hp]
def Fz:Sp:=λ vs H Q _=>∃we fi p:Nat,vs=[.int we,.int fi,.int p]/\we<=1000000000000/\fi<=p/\0<p/\p<=100/\GI H Q (nY (rH we fi p))
abbrev QR:List Str:=["weight","finds","parts","mass","table"]
theorem FA:m_ QR ["weight","finds","parts"] (m6 BM):=qi
theorem Oq(F:pJ K "mass_table" "mass_table" BM f fd)(pf:mg "len"=none)(nE:oG mg "MOST_EFFORTS" 20):nU P w K mg base oH 1 f fd ["weight","finds","parts"] Fz:=by
 refine F.ok FA (λ vs H Q E h=>?_) (λ oX A outer s H vs Q E hr h=>?_)
 ·obtain⟨we,fi,p,rfl,_⟩:=h
  rfl
 ·obtain⟨we,fi,p,rfl,hw,hf,hp,JZ,k⟩:=h
  have nd:=FA.nd
  refine⟨_,(mY (m9 (i:=3) nd rfl (Or.inl rfl) (om wR (pv 0) (om abx (pv 2) nP)))
   (mY (m9 (i:=4) nd rfl (Or.inl rfl) (nQ (mX (pv 3) mZ)))
   (mY (rN PassesOwn.never (ot p_ (nN nO rfl pf aX (mX (pv 4) mZ)) (nV nE) (oM _)) (mY (m9 (i:=3) nd rfl (Or.inl rfl) (om Dg (om wR (pv 3) (om sI (pv 2) (pv 1))) (pv 2)))
   (m7 (og (qU aH bc a_ pG (pv 4) (mX (pv 3) mZ))))))
   (m7 (nq (pv 4)))))),?_⟩
  have c1:ac8 (p:Int) 20:=⟨by decide,by decide,by show p<2 ^ 64;omega⟩
  have c2:∀j:Int,Qg (we:Int) j:=λ j=>.inl ⟨by omega,by omega⟩
  have c3:∀i:Int,Qg i ((p:Int)-(fi:Int)):=λ i=>.inr ⟨by omega,by omega⟩
  have c4:∀i:Int,Tg i (p:Int):=λ i=>⟨by omega,by
   have z:(100:Nat)<Tf:=by exact aU (by decide:100<2 ^ 7) (dw (by decide:0<2) (by decide:7<=8000))
   omega⟩
  have e0:(we:Int)*(p:Int) ^ (20:Int).toNat=((rQ we fi p 0:Nat):Int):=by
   rw[QP,Int.natCast_mul,Int.natCast_pow];rfl
  refine⟨_,rfl,_,rfl,_,_,rfl,rfl,c1,_,_,rfl,rfl,c2 _,?_⟩
  refine⟨_,rfl,(by show 1<=ay;decide),λ t ht=>?_⟩
  refine⟨λ m σ H'=>∃(n:Nat) (x:Int),x=((rQ we fi p n:Nat):Int)/\m=20-n/\n<=20/\σ=[some (.int (we:Nat)),some (.int (fi:Nat)),some (.int (p:Nat)),some (.int x),some (.ref t)]/\m8 H H'/\H' t=some (.lst (nY ((az (n+1)).map (rQ we fi p)))),
   ⟨20,0,_,e0,rfl,aE _,rfl,m8.new ht,by rw[m4];show some (HO.lst [V.int _])=some (HO.lst [V.int _]);exact congrArg (λ z=>some (HO.lst [V.int z])) e0⟩,?_⟩
  rintro m σ H' ⟨n,x,hx,rfl,hn,rfl,sm,h1⟩
  have len:(nY ((az (n+1)).map (rQ we fi p))).length=n+1:=by unfold nY;simp
  refine⟨_,rfl,t,_,rfl,.inl (nF.of h1),_,_,rfl,rfl,_,rfl,?_⟩
  rw[len]
  refine qa (λ hc=>?_) λ hc=>?_
  ·have hc:((n+1:Nat):Int)<=20:=of_decide_eq_true hc
   have e1:x*((p:Int)-(fi:Int)) / (p:Int)=((rQ we fi p (n+1):Nat):Int):=by
    rw[hx,<-Int.ofNat_sub hf,<-Int.natCast_mul,<-Int.natCast_ediv,QQ hp (by omega)]
   refine⟨_,λ _ _ z=>z,_,rfl,_,rfl,_,rfl,_,_,rfl,rfl,_,_,rfl,rfl,c3 _,_,rfl,_,_,rfl,rfl,c4 _,?_⟩
   refine⟨_,rfl,.inl ⟨rfl,_,nF.of h1⟩,_,rfl,t,_,_,rfl,rfl,h1,?_,?_⟩
   ·rw[len,aA];omega
   ·refine⟨20-(n+1),by omega,n+1,_,e1,rfl,by omega,rfl,λ b o e=>by rw[m5 (nH e ht)];exact sm _ _ e,?_⟩
    rw[m4,eI (n:=n+1)]
    unfold nY
    rw[aF,aF]
    exact congrArg (λ z=>some (HO.lst (_++[V.int z]))) e1
  ·have hc:¬ ((n+1:Nat):Int)<=20:=λ q=>hc (decide_eq_true q)
   have e:n=20:=by omega
   subst e
   exact⟨_,rfl,k H' t sm ht h1⟩
end oj
namespace L2
theorem A3(K:ah){X:Cx}{es:List bJ}{k:Nat}{t:TGs}{n:Nat}{pos:Pos}(hc:X.calm=true)(h:PGs X es t)(hK:X.K=K:=by rfl)
  (hn:(fO es X.env).length=n:=by rfl)(LC:(fO es X.env).findIdx? (·.1)=none:=by rfl):PG X (.Tuple es k pos) (ac1 K n t):=by
 subst hK;exact zG hc h hn LC
end L2
namespace oj
theorem nj(l:List Nat):(nY l).length=l.length:=aa _
def TabsAt(H:Hp)(as:List ag)(ts:List (List Nat)):Prop:=as.length=ts.length/\∀(j:Nat) (a:ag) (t:List Nat),as[j]? =some a->ts[j]? =some t->H a=some (.lst (nY t))
theorem TabsAt.same{H H':Hp}{as:List ag}{ts:List (List Nat)}(h:TabsAt H as ts)(sm:m8 H H'):TabsAt H' as ts:=⟨h.1,λ j a t e1 e2=>sm _ _ (h.2 j a t e1 e2)⟩
def aaf(ts:List (List Nat))(d:List Nat):Nat:=aZ ((ts.zip d).map λ x=>x.1.getD x.2 0)
def Cn:Sp:=λ vs H Q _=>∃(a b:ag) (d e:List Nat),vs=[.ref a,.ref b]/\H a=some (.lst (nY d))/\H b=some (.lst (nY e))/\d.length=e.length/\d.length<=16/\GI H Q (nY (bC d e))
abbrev KJ:List Str:=["had","row","before","more"]
theorem HX:m_ KJ ["had","row"] (m6 AV):=qi
def KL:Sp:=λ vs H Q _=>∃(a b:ag) (as:List ag) (ts:List (List Nat)) (d:List Nat),vs=[.ref a,.ref b]/\H a=some (.lst (as.map V.ref))/\TabsAt H as ts/\H b=some (.lst (nY d))/\ts.length=d.length/\d.length<=16/\(∀(j:Nat) (t:List Nat) (n:Nat),ts[j]? =some t->d[j]? =some n->n<t.length)/\∀H',m8 H H'->Q (.int (aaf ts d)) H'
abbrev Ot:List Str:=["tables","had","table","efforts"]
theorem KO:m_ Ot ["tables","had"] (m6 Dc):=qi
theorem UW(F:pJ K "mass_sum" "mass_sum" Dc f fd)(xJ:mg "zip"=none)(xI:mg "sum"=none):nU P w K mg base oH 1 f fd ["tables","had"] KL:=by
 refine F.ok KO (λ vs H Q E h=>?_) (λ oX A outer s H vs Q E hr h=>?_)
 ·obtain⟨a,b,as,ts,d,rfl,_⟩:=h
  rfl
 ·obtain⟨a,b,as,ts,d,rfl,ha,hT,hb,hde,GJ,hin,k⟩:=h
  have nd:=KO.nd
  refine⟨_,(m7 (nq (nN (BG rfl) rfl xI iO (mX (qw (own:=[("table",2),("efforts",3)]) rfl nd (Er rfl xJ (mX (pv 0) (mX (pv 1) mZ))) (by exact pD.of (N:=Ot) (sc:=m6 Dc) (by decide +kernel)) (λ _ _ _ _ _=>by exact(A3 K (n:=2) rfl (oK (nB (i:=2) nd rfl (Or.inl rfl)) (oK (nB (i:=3) nd rfl (Or.inl rfl)) rD)))) (λ _ _ _ _ _=>by exact oS) (λ _ _ _ _ _=>by exact(tZ K (pv 2) (pv 3)))) mZ)))),?_⟩
  refine⟨_,rfl,_,rfl,a,b,_,_,rfl,nF.of ha,nF.of hb,?_⟩
  refine oZ (Hr (K:=K) (nF.of ha) (nF.of hb) (by rw[aa,nj,hT.1,hde])) (nY ((ts.zip d).map λ x=>x.1.getD x.2 0)) (by rw[nj,aa,aa,eJ,hde,f7,hT.1,hde]) (by rw[aa,hT.1,aA];omega) (λ j x y H3 R3 N3 hy pH hF kk=>?_) (λ D H3 hD pH uD=>?_)
  ·obtain⟨T,x1,y1,rfl,h1,h2,hTu⟩:=hF
   rw[ak]at h1
   cases q1:as[j]? with
   |none=>rw[q1]at h1;cases h1
   |some aj=>
    rw[q1]at h1;cases h1
    obtain⟨c2,q2,rfl⟩:=ow h2
    obtain⟨c3,q3,rfl⟩:=ow hy
    have hj:j<ts.length:=by rw[<-hT.1];exact(List.getElem?_eq_some_iff.mp q1).1
    have q4:ts[j]? =some ts[j]:=af hj
    have lt:=hin j _ c2 q4 q2
    have e3:ts[j][c2]? =some c3:=by
     rw[ak,gn (z:=(ts[j],c2)) |>.mpr ⟨q4,q2⟩]at q3
     have q3:ts[j].getD c2 0=c3:=Option.some.inj q3
     rw[aB]at q3
     rw[af lt]at q3 ⊢
     exact congrArg some q3
    refine⟨T,_,rfl,Bj.of hTu,rfl,_,_,rfl,_,_,rfl,rfl,rfl,sE ⟨_,rfl,_,rfl,aj,_,_,_,rfl,rfl,nF.of (pH _ _ (hT.2 j aj _ q1 q4)),ou (oV e3),kk H3 (m8.refl _)⟩⟩
  ·refine⟨D,((ts.zip d).map λ x=>x.1.getD x.2 0).map (λ(n:Nat)=>(n:Int)),rfl,nF.of (by rw[uD,aW];rfl),?_⟩
   rw[tM]
   exact k H3 pH
structure FW(f:ae):Prop where
 p0:0<f.parts
 p1:f.parts<=100
 len:f.cells.length<=16
 ne:f.cells≠[]
 we:∀c∈f.cells,c.weight<=1000000000000
 fi:∀c∈f.cells,c.finds<=f.parts
def n_(f:ae):List (List Nat):=f.cells.map λ c=>rH c.weight c.finds f.parts
theorem pP(f:ae):(n_ f).length=f.cells.length:=aa _
theorem Aa(w fi p:Nat):(rH w fi p).length=21:=by unfold rH;simp
theorem vC{w fi p n:Nat}(h:n<=20):(rH w fi p)[n]? =some (rQ w fi p n):=by
 unfold rH
 rw[ak,bf (by omega)];rfl
theorem wB{f:ae}{c:Nat}{x:bF}(h:f.cells[c]? =some x)(n:Nat):cY f c n=rQ x.weight x.finds f.parts n:=by
 have e:bz f c=x:=by unfold bz;rw[aB,h];rfl
 unfold cY rQ
 rw[e];rfl
theorem acg{f:ae}{c n:Nat}(hc:c<f.cells.length)(h:n<=20):((n_ f).getD c []).getD n 0=cY f c n:=by
 have e:f.cells[c]? =some f.cells[c]:=af hc
 have e2:(n_ f).getD c []=rH f.cells[c].weight f.cells[c].finds f.parts:=by
  unfold n_
  rw[aB,ak,e];rfl
 rw[wB e,e2,aB,vC h];rfl
theorem UX{α:Type}(d0:α)(ts:List α)(d:List Nat)(h:ts.length=d.length)(g:α->Nat->Nat):(ts.zip d).map (λ x=>g x.1 x.2)=d.zipIdx.map λ x=>g (ts.getD x.2 d0) x.1:=by
 apply bO
 intro i
 rw[ak,ak,bQ]
 by_cases hi:i<d.length
 ·have e1:d[i]? =some d[i]:=af hi
  have e2:ts[i]? =some (ts[i]'(by omega)):=af (by omega)
  rw[(gn (z:=(ts[i]'(by omega),d[i]))).mpr ⟨e2,e1⟩,e1]
  show some _=some _
  simp[aB,e2]
 ·have e1:d[i]? =none:=aI (by omega)
  have e2:(ts.zip d)[i]? =none:=aI (by rw[eJ];omega)
  rw[e1,e2];rfl
theorem tN{f:ae}{d:List Nat}(hl:d.length=f.cells.length)(wk:∀n∈d,n<=20):aaf (n_ f) d=left f d:=by
 unfold aaf lM
 rw[UX [] (n_ f) d (by rw[pP,hl]) λ t n=>t.getD n 0]
 refine congrArg aZ (bP λ x hx=>?_)
 have h1:=gX hx
 have h2:x.2<d.length:=by omega
 exact acg (by omega) (wk _ (by rw[h1.2.2];exact cp _))
theorem oy(a:Nat)(l:List Nat):aZ (a::l)=a+aZ l:=by
 have step:∀(l:List Nat) (a:Nat),l.foldl (λ a b=>a+b) a=a+l.foldl (λ a b=>a+b) 0:=by
  intro l
  induction l with
  |nil=>intro a;rfl
  |cons x r ih=>intro a;rw[ck,ih,ck,ih (0+x)];omega
 unfold aZ
 rw[ck,step];omega
theorem Dv{B:Nat}:∀(l:List Nat),(∀x∈l,x<=B)->aZ l<=l.length*B
 |[],_=>by simp[aZ]
 |a::l,h=>by
  rw[oy,aD,j3]
  have h1:=h a (by simp)
  have h2:=Dv l λ x hx=>h x (by simp[hx])
  omega
theorem Co:∀(l m:List Nat),l.length=m.length->(∀(i a b:Nat),l[i]? =some a->m[i]? =some b->a<=b)->aZ l<=aZ m
 |[],[],_,_=>ax _
 |a::l,b::m,h,g=>by
  rw[oy,oy]
  have h1:=g 0 a b rfl rfl
  have h2:=Co l m (by simpa using h) λ i x y e1 e2=>g (i+1) x y e1 e2
  omega
 |[],_::_,h,_=>by simp at h
 |_::_,[],h,_=>by simp at h
theorem XB{w fi p n:Nat}(hn:n<=20):rQ w fi p n<=w*p ^ 20:=by
 unfold rQ
 refine dg _ ?_
 have e:p ^ 20=p ^ n*p ^ (20-n):=by rw[<-Nat.pow_add];congr 1;omega
 rw[e]
 exact c6 _ (kF (kU _ _) n)
theorem QS{w fi p n:Nat}(hn:n<20):rQ w fi p (n+1)<=rQ w fi p n:=by
 unfold rQ
 refine dg _ ?_
 have e:20-n=(20-(n+1))+1:=by omega
 rw[e,fY,fY p]
 generalize 20-(n+1)=k
 have e2:(p-fi) ^ n*(p-fi)*p ^ k=(p-fi) ^ n*(p ^ k*(p-fi)):=by simp only[fG,f6,gy]
 rw[e2]
 exact dg _ (dg _ (kU _ _))
theorem HY{w fi p:Nat}:∀(k n:Nat),n+k<=20->rQ w fi p (n+k)<=rQ w fi p n
 |0,n,_=>ax _
 |k+1,n,h=>aT (QS (n:=n+k) (by omega)) (HY k n (by omega))
theorem A4{f:ae}{c n k:Nat}(h:n+k<=20)(hc:c<f.cells.length):cY f c (n+k)<=cY f c n:=by
 have e:f.cells[c]? =some f.cells[c]:=af hc
 rw[wB e,wB e];exact HY k n h
theorem XC:16*(1000000000000*100 ^ 20)<Tf:=by
 have h1:1000000000000<2 ^ 40:=by decide
 have h2:16*(1000000000000*100 ^ 20)<2 ^ 200:=by decide
 exact aU h2 (dw (by decide:0<2) (by decide:200<=8000))
theorem Ml{f:ae}(W:FW f){c n:Nat}(hc:c<f.cells.length)(hn:n<=20):cY f c n<=1000000000000*100 ^ 20:=by
 have e:f.cells[c]? =some f.cells[c]:=af hc
 rw[wB e]
 exact aT (XB hn) (lW (W.we _ (cp _)) (kF W.p1 20))
theorem ug{f:ae}(W:FW f){d:List Nat}(hl:d.length=f.cells.length)(wk:∀n∈d,n<=20):left f d<Tf:=by
 refine bH (Dv (B:=1000000000000*100 ^ 20) _ λ x hx=>?_) ?_
 ·obtain⟨y,hy,rfl⟩:=List.mem_map.mp hx
  have h1:=gX hy
  exact Ml W (by omega) (wk _ (by rw[h1.2.2];exact cp _))
 ·rw[aa,dP,hl]
  exact bH (c6 _ W.len) XC
theorem UY{f:ae}{d e:List Nat}(hl:d.length=f.cells.length)(he:e.length=d.length)(wk:∀n∈bC d e,n<=20):left f (bC d e)<=left f d:=by
 have lm:(bC d e).length=d.length:=by unfold bC;rw[c_,he,f7]
 refine Co _ _ (by simp[lm]) λ i a b h1 h2=>?_
 rw[ak,bQ]at h1 h2
 by_cases hi:i<d.length
 ·have e1:d[i]? =some d[i]:=af hi
  have e2:e[i]? =some (e[i]'(by omega)):=af (by omega)
  have e3:(bC d e)[i]? =some (d[i]+e[i]'(by omega)):=by unfold bC;rw[aP,e1,e2]
  rw[e3]at h1
  rw[e1]at h2
  cases h1;cases h2
  simp only[cW]
  exact A4 (wk _ (aC e3)) (by omega)
 ·rw[aI (by omega)]at h2;cases h2
def qL(q:mC):List Nat:=[q.n,q.d]
theorem Dy{d e:List Nat}(h:e.length=d.length):(bC d e).length=d.length:=by unfold bC;rw[c_,h,f7]
theorem more_le{d e:List Nat}(h:e.length=d.length)(wk:∀n∈bC d e,n<=20):∀n∈d,n<=20:=by
 intro n hn
 obtain⟨i,hi,rfl⟩:=cw hn
 have e1:d[i]? =some d[i]:=af hi
 have e2:e[i]? =some (e[i]'(by omega)):=af (by omega)
 have e3:(bC d e)[i]? =some (d[i]+e[i]'(by omega)):=by unfold bC;rw[aP,e1,e2]
 have:=wk _ (aC e3)
 omega
theorem A5{f:ae}{d:List Nat}(wk:∀n∈d,n<=20)(j:Nat)(t:List Nat)(n:Nat)(h1:(n_ f)[j]? =some t)(h2:d[j]? =some n):n<t.length:=by
 unfold n_ at h1
 rw[ak]at h1
 cases q:f.cells[j]? with
 |none=>rw[q]at h1;cases h1
 |some c=>
  rw[q]at h1
  have e:rH c.weight c.finds f.parts=t:=Option.some.inj h1
  rw[<-e,Aa]
  have:=wk n (aC h2)
  omega
def Tp:Sp:=λ vs H Q _=>∃(a b c:ag) (as:List ag) (f:ae) (d e:List Nat),vs=[.ref a,.ref b,.ref c]/\FW f/\H a=some (.lst (as.map V.ref))/\TabsAt H as (n_ f)/\H b=some (.lst (nY d))/\H c=some (.lst (nY e))/\d.length=f.cells.length/\e.length=d.length/\(∀n∈bC d e,n<=20)/\0<left f d/\GI H Q (nY (qL (dQ f d e)))
abbrev ach:List Str:=["tables","had","row","left"]
theorem Tq:m_ ach ["tables","had","row"] (m6 Qu):=qi
abbrev Hz3(P:aJ)(w:aY)(K:ah)(mg:Str->Option ao)(base:bw):Prop:=rC P w K mg base oH 1 "mass_sum" ["tables","had"] KL
abbrev Hz4(P:aJ)(w:aY)(K:ah)(mg:Str->Option ao)(base:bw):Prop:=rC P w K mg base oH 1 "fraction" ["upper","lower"] Hw
theorem aag(F:pJ K "found" "found" Qu f fd)(o9:Hz3 P w K mg base)(vD:rC P w K mg base oH 1 "together" ["had","row"] Cn)(oz:Hz4 P w K mg base):nU P w K mg base oH 2 f fd ["tables","had","row"] Tp:=by
 refine F.ok Tq (λ vs H Q E h=>?_) (λ oX A outer s H vs Q E hr h=>?_)
 ·obtain⟨a,b,c,as,f,d,e,rfl,_⟩:=h
  rfl
 ·obtain⟨a,b,c,as,f,d,e,rfl,W,ha,hT,hb,hc,hd,he,wk,hl0,k⟩:=h
  have nd:=Tq.nd
  refine⟨_,(mY (m9 (i:=3) nd rfl (Or.inl rfl) (nA (E:=E0) o9 hr (by decide) nv (mX (pv 0) (mX (pv 1) mZ))))
   (m7 (nq (nA (E:=E0) oz hr (by decide) nv (mX (om sI (pv 3) (nA (E:=E0) o9 hr (by decide) nv (mX (pv 0) (mX (nA (E:=E0) vD hr (by decide) nv (mX (pv 1) (mX (pv 2) mZ))) mZ)))) (mX (pv 3) mZ)))))),?_⟩
  have tE:=more_le he wk
  have wC:=W.len
  refine⟨_,rfl,_,rfl,a,b,as,n_ f,d,rfl,ha,hT,hb,by rw[pP,hd],by omega,A5 tE,λ H1 s1=>?_⟩
  rw[tN hd tE]
  refine⟨_,rfl,_,rfl,_,rfl,_,rfl,b,c,d,e,rfl,s1 _ _ hb,s1 _ _ hc,he.symm,by omega,λ H2 p s2 hp ZG=>?_⟩
  have vE:m8 H H2:=s1.trans s2
  have m1:=Dy he
  refine⟨a,p,as,n_ f,bC d e,rfl,vE _ _ ha,hT.same vE,ZG,by rw[pP,m1,hd],by omega,A5 wk,λ H3 s3=>?_⟩
  rw[tN (by rw[m1,hd]) wk]
  have le:=UY hd he wk
  refine⟨_,_,rfl,rfl,_,rfl,left f d-left f (bC d e),left f d,?_,hl0,ug W hd tE,bH (kU _ _) (ug W hd tE),λ H4 q s4 hq hq2=>k H4 q ((vE.trans s3).trans s4) ?_ hq2⟩
  ·rw[Int.ofNat_sub le]
  ·cases z:H q with
   |none=>rfl
   |some o=>rw[(vE.trans s3) _ _ z]at hq;cases hq
def FC(b:Option (Nat×Nat))(x:Option Nat×Nat):Option (Nat×Nat):=match x.1,b with
 |none,_=>b
 |some n,none=>some (x.2,n)
 |some n,some y=>if y.2<n then some (x.2,n)else b
def tF(l:List (Option Nat×Nat)):Option (Nat×Nat):=l.foldl FC none
theorem wD(l:List (Option Nat)):fW l=(tF l.zipIdx).map λ y=>y.1:=rfl
theorem QT(l:List (Option Nat×Nat))(x:Option Nat×Nat):tF (l++[x])=FC (tF l) x:=by
 unfold tF;rw[gu];rfl
def gM(o:Option (Nat×Nat)):Int:=match o with |none=> -1|some y=>y.2
theorem yo(b:Option (Nat×Nat))(c:Nat):FC b (none,c)=b:=by cases b <;> rfl
theorem yp(b:Option (Nat×Nat))(c n:Nat):FC b (some n,c)=if gM b<(n:Int)then some (c,n)else b:=by
 cases b with
 |none=>show some (c,n)=_;rw[if_pos (by show(-1:Int)< _;omega)]
 |some y=>
  show(if y.2<n then some (c,n)else some y)=_
  by_cases h:y.2<n
  ·rw[if_pos h,if_pos (by show(y.2:Int)<n;omega)]
  ·rw[if_neg h,if_neg (by show ¬ (y.2:Int)<n;omega)]
theorem H_{f:ae}{d:List Nat}{i n:Nat}(h:d[i]? =some n):(fm f d)[i]? =some (if n<20 then some (c8 f i n)else none):=by
 unfold fm
 rw[ak,bQ,h]
 show some (if n<20 then some (c8 f (0+i) n)else none)=_
 rw[cW]
theorem EM(f:ae)(d:List Nat):(fm f d).length=d.length:=by unfold fm;simp
theorem Ia:∀(l:List (Option Nat×Nat)) (b:Option (Nat×Nat)) (y:Nat×Nat),l.foldl FC b=some y->b=some y\/(some y.2,y.1)∈l
 |[],b,y,h=>.inl h
 |(o,c)::l,b,y,h=>by
  rw[ck]at h
  rcases Ia l _ y h with q|q
  ·cases o with
   |none=>rw[yo]at q;exact .inl q
   |some n=>
    rw[yp]at q
    split at q
    ·cases q;exact .inr (by simp)
    ·exact .inl q
  ·exact .inr (by simp[q])
theorem UZ(l:List (Option Nat×Nat))(y:Nat×Nat)(h:tF l=some y):(some y.2,y.1)∈l:=by
 rcases Ia l none y h with q|q
 ·cases q
 ·exact q
theorem FD:∀(l:List (Option Nat×Nat)) (b:Option (Nat×Nat)),l.foldl FC b=none->b=none/\∀x∈l,x.1=none
 |[],b,h=>⟨h,λ x hx=>by cases hx⟩
 |(o,c)::l,b,h=>by
  rw[ck]at h
  obtain⟨h1,h2⟩:=FD l _ h
  cases o with
  |none=>
   rw[yo]at h1
   refine⟨h1,λ x hx=>?_⟩
   rcases List.mem_cons.mp hx with q|q
   ·rw[q]
   ·exact h2 x q
  |some n=>
   rw[yp]at h1
   split at h1
   ·cases h1
   ·rename_i hc
    rw[h1]at hc
    exact absurd (show(-1:Int)<n by omega) hc
theorem Ib(l:List (Option Nat×Nat))(h:tF l=none):∀x∈l,x.1=none:=(FD l none h).2
theorem Bp{f:ae}{d:List Nat}(wk:∀n∈d,n<=20)(ht:aZ d<20*d.length):∃c n,fW (fm f d)=some c/\d[c]? =some n/\n<20:=by
 cases q:tF (fm f d).zipIdx with
 |none=>
  have h:=Ib _ q
  exfalso
  have all:∀(i:Nat) (a b:Nat),(cG d.length 20)[i]? =some a->d[i]? =some b->a<=b:=by
   intro i a b e1 e2
   have ea:a=20:=by
    rw[gH]at e1
    split at e1
    ·exact(Option.some.inj e1).symm
    ·cases e1
   have g:=H_ (f:=f) e2
   have:=h (if b<20 then some (c8 f i b)else none,i) (by
    apply aC (i:=i)
    rw[bQ,g]
    show some (_,0+i)=_
    rw[cW])
   by_cases hb:b<20
   ·rw[if_pos hb]at this;cases this
   ·omega
  have h2:=Co _ _ (by simp) all
  have e3:aZ (cG d.length 20)=20*d.length:=by
   generalize d.length=n
   induction n with
   |zero=>rfl
   |succ n ih=>rw[List.replicate_succ,oy,ih];omega
  omega
 |some y=>
  have m:=UZ _ y q
  have h1:=gX m
  have hy:y.1<d.length:=by have:=h1.2.1;rw[EM]at this;omega
  have e:d[y.1]? =some d[y.1]:=af hy
  refine⟨y.1,d[y.1],by rw[wD,q];rfl,e,?_⟩
  have g:=H_ (f:=f) e
  have g2:(fm f d)[y.1]? =some (some y.2):=by
   rw[af (by rw[EM];exact hy)]
   have:=h1.2.2
   simp only[Nat.sub_zero]at this
   rw[<-this]
  rw[g]at g2
  by_cases hb:d[y.1]<20
  ·exact hb
  ·rw[if_neg hb]at g2;cases g2
theorem EN:∀(l:List Nat) (c n m:Nat),l[c]? =some n->aZ (l.set c m)+n=aZ l+m
 |[],c,n,m,h=>by simp at h
 |a::l,0,n,m,h=>by cases h;rw[List.set_cons_zero,oy,oy];omega
 |a::l,c+1,n,m,h=>by
  rw[List.set_cons_succ,oy,oy]
  have:=EN l c n m (by simpa using h)
  omega
theorem XD(d r:List Nat)(c n:Nat)(h:r[c]? =some n)(hl:r.length=d.length):bC d (r.set c (n+1))=(bC d r).set c ((bC d r).getD c 0+1):=by
 unfold bC
 apply bO
 intro i
 have hc:c<r.length:=(List.getElem?_eq_some_iff.mp h).1
 rw[aP,dY,dY,aP]
 by_cases e:c=i
 ·subst e
  rw[if_pos rfl,if_pos rfl,if_pos hc,if_pos (by rw[c_,hl,f7];omega),aB,aP,h,af (show c<d.length by omega)]
  rfl
 ·rw[if_neg e,if_neg e]
theorem EO(d r:List Nat)(hl:r.length=d.length):eN (bC d r) d=r:=by
 unfold eN bC
 apply bO
 intro i
 rw[aP,aP]
 by_cases hi:i<d.length
 ·rw[af hi,af (show i<r.length by omega)]
  show some _=some _
  congr 1;omega
 ·rw[aI (show d.length<=i by omega),aI (show r.length<=i by omega)]
theorem U8{f:ae}{d:List Nat}{k c:Nat}(h:fW (fm f d)=some c):jS f (k+1) d=jS f k (d.set c (d.getD c 0+1)):=by
 show(match fW (fm f d)with |some c=>_|none=>_)=_
 rw[h]
end oj
namespace L2
def adI(K:ah):V->V->Hp->VK->Prop:=λ o i H Q=>∃(p:ag) (xs:List V) (k:Nat) (v:V),o= .ref p/\i= .int k/\nF K H p xs/\xs[k]? =some v/\Q v H
theorem xK{X:Cx}:ac3 X (adI X.K):=by
 intro pins s σ H o i ov iv Q I ro ri h
 obtain⟨p,xs,k,v,rfl,rfl,hq,he,q⟩:=h
 cases ro
 obtain⟨t,rfl⟩:=ri
 obtain⟨oo,r,pl,hz⟩:=I.list hq
 obtain⟨w,ew,wc⟩:=r.get he
 have hk:k<xs.length:=(List.getElem?_eq_some_iff.mp he).1
 have hn:=BE
 exact wpAny_getItem_list pl.isList (by omega) (by omega) (by simpa using ew) ⟨v,H,I,wc,q⟩
theorem yq{n k:Nat}(h:k<n):Zz n (k:Int)=some k:=by
 unfold Zz
 rw[if_pos (by omega),if_pos (by omega)];simp
end L2
namespace oj
theorem KP(d:List Nat):bC d (d.map λ _=>0)=d:=by
 unfold bC
 apply bO
 intro i
 rw[aP,ak]
 cases d[i]? <;> rfl
end oj
namespace L2
theorem QU{J:It}{H1:Hp}{n:Nat}{F:Nat->V->Hp->Prop}{g:TG}{tt:TT}{te:TE}{vs:List Nat}{σ:L2.St}{Q:ag->Hp->Prop}(W:Walk J H1 n F)(O:Nat->HO)(hz:n<=ay)
  (hs:∀i x H (R:V->Hp->Prop) (N:Hp->Prop),i<n->m8 H1 H->F i x H->(∀a H4,m8 H H4->H a=none->H4 a=some (O i)->R (.ref a) H4)->g x (wipe σ vs) H λ σ2 H2=>wipe σ2 vs=wipe σ vs/\tt σ2 H2 λ b H3=>if b=true then te σ2 H3 R else N H3)
  (fin:∀(D:ag) (H:Hp) (as:List ag),H1 D=none->m8 H1 H->H D=some (.lst (as.map V.ref))->as.length=n->(∀(j:Nat) (a:ag),as[j]? =some a->H1 a=none/\H a=some (O j))->Q D H)(D:ag)(hD:H1 D=none):
  ∃W:Nat->Nat->Hp->Prop,(∃m,W 0 m (upd H1 D (.lst [])))/\∀i m H,W i m H->
   (J.stop i H/\Q D H)\/(J.go i H/\∃Nx:Hp->Prop,(∀H',Nx H'->∃m',m'<m/\W (i+1) m' H')/\∀x H',J.Ha i H x H'->g x (wipe σ vs) H' λ σ2 H2=>wipe σ2 vs=wipe σ vs/\tt σ2 H2 λ b H3=>
    if b=true then te σ2 H3 λ y H4=>∃acc,H4 D=some (.lst acc)/\acc.length<ay/\Nx (upd H4 D (.lst (acc++[y])))else Nx H3):=by
 refine⟨λ i m H=>m=n-i/\i<=n/\m8 H1 H/\∃as:List ag,H D=some (.lst (as.map V.ref))/\as.length=i/\∀j a,as[j]? =some a->a≠D/\H1 a=none/\H a=some (O j),⟨n,by omega,aE _,λ b o e=>by rw[m5 (nH e hD)];exact e,[],m4,rfl,λ j a e=>by simp at e⟩,?_⟩
 rintro i m H ⟨rfl,hi,sm,as,hd,hl,ha⟩
 by_cases rO:i<n
 ·refine .inr ⟨W.go i H rO sm,λ H'=>i+1<=n/\m8 H1 H'/\∃as:List ag,H' D=some (.lst (as.map V.ref))/\as.length=i+1/\∀j a,as[j]? =some a->a≠D/\H1 a=none/\H' a=some (O j),λ H' z=>⟨n-(i+1),by omega,rfl,z⟩,λ x H' y=>?_⟩
  obtain⟨hF,wg⟩:=W.Ha i H x H' rO sm y
  refine hs i x H' _ _ rO (sm.trans wg) hF λ a H4 Np ha0 ha4=>?_
  have V8:H' D=some (.lst (as.map V.ref)):=wg _ _ hd
  have hd4:H4 D=some (.lst (as.map V.ref)):=Np _ _ V8
  have naD:a≠D:=λ q=>by rw[q,V8]at ha0;cases ha0
  refine⟨_,hd4,?_,rO,λ b o e=>?_,as++[a],?_,?_,λ j b e=>?_⟩
  ·rw[aa];omega
  ·rw[m5 (nH e hD)];exact Np _ _ (wg _ _ (sm _ _ e))
  ·rw[m4,aF];rfl
  ·rw[aw,hl];rfl
  ·by_cases hj:j<as.length
   ·rw[bp hj]at e
    obtain⟨z1,z2,z3⟩:=ha j b e
    exact⟨z1,z2,by rw[m5 z1];exact Np _ _ (wg _ _ z3)⟩
   ·rw[bg (by omega)]at e
    have ej:j-as.length=0:=by
     obtain⟨z,_⟩:=List.getElem?_eq_some_iff.mp e
     simp at z;omega
    rw[ej]at e
    cases e
    have e2:j=i:=by omega
    subst e2
    refine⟨naD,?_,by rw[m5 naD];exact ha4⟩
    cases q:H1 a with
    |none=>rfl
    |some o=>rw[wg _ _ (sm _ _ q)]at ha0;cases ha0
 ·have e:i=n:=by omega
  subst e
  exact .inl ⟨W.stop H sm,fin D H as hD sm hd hl λ j a e=>(ha j a e).2⟩
end L2
namespace oj
def pM(f:ae)(ws:List Nat):ae:={ f with cells:=jO (λ(c:bF) w=>{ c with weight:=w }) f.cells ws }
theorem qO{f:ae}{ws:List Nat}(h:ws.length=f.cells.length):(pM f ws).cells.length=f.cells.length:=by
 unfold pM;rw[c_,h,f7]
theorem QV{f:ae}{ws:List Nat}{j w:Nat}{c:bF}(h1:f.cells[j]? =some c)(h2:ws[j]? =some w):(n_ (pM f ws))[j]? =some (rH w c.finds f.parts):=by
 unfold n_ pM
 rw[ak,aP,h1,h2];rfl
abbrev J1:List Str:=["field","weights","had"]
def Ab(CS:ag)(H:Hp)(x:ag)(v:V)(wl hl:ag)(ws d:List Nat):Prop:=(∃dx,H x=some (.ins CS dx (J1.zip [v,.ref wl,.ref hl])))/\H wl=some (.lst (nY ws))/\H hl=some (.lst (nY d))
structure p7(K:ah)(CS:ag):Prop where
 cl:GP K CS
 n1:oE K CS "field"
 n2:oE K CS "weights"
 n3:oE K CS "had"
def Ic(CS:ag):Sp:=λ vs H Q _=>∃(x wl hl:ag) (v:V) (ws d:List Nat) (z:Int),vs=[.ref x,.int z]/\Ab CS H x v wl hl ws d/\Q (.bl (bI z 0 ((d.length:Int)-1))) H
theorem XE:m_ ["self","number"] ["self","number"] (m6 wX):=qi
theorem XF(F:pJ K "is_cell" "Search.is_cell" wX f fd)(S:p7 K CS)(pf:mg "len"=none):nU P w K mg base oH 1 f fd ["self","number"] (Ic CS):=by
 refine F.ok XE (λ vs H Q E h=>?_) (λ oX A outer s H vs Q E hr h=>?_)
 ·obtain⟨x,wl,hl,v,ws,d,z,rfl,_⟩:=h
  rfl
 ·obtain⟨x,wl,hl,v,ws,d,z,rfl,⟨⟨dx,h1⟩,h2,h3⟩,k⟩:=h
  refine⟨_,(m7 (nq (vk p_ Hc nP (pv 1) (nN nO rfl pf aX (mX (nr (pv 0) rfl) mZ))))),?_⟩
  have e:bI z 0 ((d.length:Int)-1)=(decide (0<=z) && decide (z<(((nY d).length:Nat):Int))):=by
   unfold bI
   rw[nj]
   congr 1
   exact decide_eq_decide.mpr (by omega)
  rw[e]at k
  refine⟨_,rfl,_,_,rfl,rfl,_,rfl,qa (λ a=>?_) λ a=>?_⟩
  ·refine⟨_,rfl,x,CS,dx,_,_,rfl,h1,S.cl,S.n3,rfl,hl,_,rfl,.inl (nF.of h3),_,_,rfl,rfl,?_⟩
   rw[a]at k
   exact k
  ·have a:decide (0<=z)=false:=by cases q:decide (0<=z)with |true=>exact absurd q a|false=>rfl
   rw[a]at k
   exact k
def Ie(CS CF CC CT:ag):Sp:=λ vs H Q _=>∃(x wl hl a:ag) (ws d:List Nat) (f:ae),vs=[.ref x]/\Ab CS H x (.ref a) wl hl ws d/\rG CF CC CT H a f/\ws.length=f.cells.length/\FW (pM f ws)/\
 ∀H' p as,m8 H H'->H p=none->H' p=some (.lst (as.map V.ref))->TabsAt H' as (n_ (pM f ws))->Q (.ref p) H'
abbrev Bq:List Str:=["self","parts","cells","weight","cell"]
theorem Ou:m_ Bq ["self"] (m6 t6):=qi
theorem XG(F:pJ K "tables" "Search.tables" t6 f fd)(S:p7 K CS)(nJ:Rec P w K mg base "Field" CF Ck)(oA:Rec P w K mg base "Cell" CC EI)(xJ:mg "zip"=none)(yr:rC P w K mg base oH 1 "mass_table" ["weight","finds","parts"] Fz):nU P w K mg base oH 2 f fd ["self"] (Ie CS CF CC CT):=by
 refine F.ok Ou (λ vs H Q E h=>?_) (λ oX A outer s H vs Q E hr h=>?_)
 ·obtain⟨x,wl,hl,a,ws,d,f,rfl,_⟩:=h
  rfl
 ·obtain⟨x,wl,hl,a,ws,d,f,rfl,⟨⟨dx,h1⟩,h2,h3⟩,⟨df,lc,lt,as,bs,f1,f2,f3,f4,f5⟩,hw,W,k⟩:=h
  have nd:=Ou.nd
  refine⟨_,(mY (m9 (i:=1) nd rfl (Or.inr rfl) (nr (nr (pv 0) rfl) rfl))
   (mY (m9 (i:=2) nd rfl (Or.inl rfl) (nr (nr (pv 0) rfl) rfl))
   (m7 (nq (qw (own:=[("weight",3),("cell",4)]) rfl nd (Er rfl xJ (mX (nr (pv 0) rfl) (mX (pv 2) mZ))) (by exact pD.of (N:=Bq) (sc:=m6 t6) (by decide +kernel)) (λ _ _ _ _ _=>by exact(A3 K (n:=2) rfl (oK (nB (i:=3) nd rfl (Or.inl rfl)) (oK (nB (i:=4) nd rfl (Or.inl rfl)) rD)))) (λ _ _ _ _ _=>by exact oS) (λ _ _ _ _ _=>by exact(nA (E:=E0) yr hr (by decide) nv (mX (pv 3) (mX (xW K (pv 4)) (mX (pv 1) mZ)))))))))),?_⟩
  refine⟨_,rfl,x,CS,dx,_,_,rfl,h1,S.cl,S.n1,rfl,a,CF,df,_,_,rfl,f1,nJ.cl,nJ.na "parts" (by simp),rfl,?_⟩
  refine⟨_,rfl,x,CS,dx,_,_,rfl,h1,S.cl,S.n1,rfl,a,CF,df,_,_,rfl,f1,nJ.cl,nJ.na "cells" (by simp),rfl,?_⟩
  refine⟨_,rfl,x,CS,dx,_,_,rfl,h1,S.cl,S.n2,rfl,_,rfl,wl,lc,_,_,rfl,nF.of h2,nF.of f2,?_⟩
  have wC:=W.len
  rw[qO hw]at wC
  refine QU (Hr (K:=K) (nF.of h2) (nF.of f2) (by rw[nj,aa,f3.1,hw])) (λ j=>.lst (nY ((n_ (pM f ws)).getD j []))) (by rw[nj,aA];omega) (λ j y H3 R3 N3 hj pH hF kk=>?_) (λ D H3 ts hD pH uD hlen hts=>?_)
  ·obtain⟨T,x1,y1,rfl,q1,q2,hT⟩:=hF
   obtain⟨wj,e1,rfl⟩:=ow q1
   rw[ak]at q2
   cases e2:as[j]? with
   |none=>rw[e2]at q2;cases q2
   |some aj=>
    rw[e2]at q2;cases q2
    have Ze:j<f.cells.length:=by rw[<-f3.1];exact(List.getElem?_eq_some_iff.mp e2).1
    have e3:f.cells[j]? =some f.cells[j]:=af Ze
    obtain⟨dc,ec⟩:=f3.2 j aj _ e2 e3
    have e4:=QV e3 e1
    have e5:(n_ (pM f ws)).getD j []=rH wj f.cells[j].finds f.parts:=by rw[aB,e4];rfl
    have ce:(pM f ws).cells[j]? =some { f.cells[j]with weight:=wj }:=by unfold pM;rw[aP,e3,e1]
    have b1:=W.we _ (aC ce)
    have b2:=W.fi _ (aC ce)
    refine⟨T,_,rfl,Bj.of hT,rfl,_,_,rfl,_,_,rfl,rfl,rfl,sE ⟨_,rfl,_,rfl,aj,CC,dc,_,_,rfl,pH _ _ ec,oA.cl,oA.na "finds" (by simp),rfl,_,rfl,wj,f.cells[j].finds,f.parts,rfl,b1,b2,W.p0,W.p1,λ H4 p s4 hp hp4=>kk p H4 s4 hp (by rw[hp4,e5])⟩⟩
  ·refine k H3 D ts pH hD uD ⟨by rw[hlen,nj,pP,qO hw,hw],λ j b t e1 e2=>?_⟩
   rw[(hts j b e1).2,aB,e2];rfl
def QW(CS CF CC CT:ag):Sp:=λ vs H Q _=>∃(x wl hl a:ag) (ws d:List Nat) (f:ae),vs=[.ref x]/\Ab CS H x (.ref a) wl hl ws d/\rG CF CC CT H a f/\ws.length=f.cells.length/\FW (pM f ws)/\d.length=f.cells.length/\(∀n∈d,n<=20)/\
 ∀H',m8 H H'->Q (.int (left (pM f ws) d)) H'
theorem aci:m_ ["self"] ["self"] (m6 zU):=qi
abbrev Wd(P:aJ)(w:aY)(K:ah)(mg:Str->Option ao)(base:bw)(CS:ag)(CF:ag)(CC:ag)(CT:ag):Prop:=uo P w K mg base oH 2 CS "tables" ["self"] (Ie CS CF CC CT)
theorem acj(F:pJ K "left" "Search.left" zU f fd)(S:p7 K CS)(nW:Wd P w K mg base CS CF CC CT)(o9:Hz3 P w K mg base):nU P w K mg base oH 3 f fd ["self"] (QW CS CF CC CT):=by
 refine F.ok aci (λ vs H Q E h=>?_) (λ oX A outer s H vs Q E hr h=>?_)
 ·obtain⟨x,wl,hl,a,ws,d,f,rfl,_⟩:=h
  rfl
 ·obtain⟨x,wl,hl,a,ws,d,f,rfl,hS,hF,hw,W,hd,tE,k⟩:=h
  have nM:=S.cl
  refine⟨_,(m7 (nq (nA (E:=E0) o9 hr (by decide) nv (mX (oW (E:=E0) nW nM hr (by decide) nv (pv 0)) (mX (nr (pv 0) rfl) mZ))))),?_⟩
  obtain⟨⟨dx,h1⟩,h2,h3⟩:=id hS
  have wC:=W.len
  rw[qO hw]at wC
  refine⟨_,rfl,x,dx,_,rfl,h1,rfl,x,wl,hl,a,ws,d,f,rfl,hS,hF,hw,W,λ H1 p ts s1 hp JZ ht=>?_⟩
  refine⟨_,rfl,x,CS,dx,_,_,rfl,s1 _ _ h1,S.cl,S.n3,rfl,p,hl,ts,n_ (pM f ws),d,rfl,JZ,ht,s1 _ _ h3,?_,?_,A5 tE,λ H2 s2=>?_⟩
  ·rw[pP,qO hw,hd]
  ·omega
  ·rw[tN (by rw[qO hw,hd]) tE]
   exact k H2 (s1.trans s2)
def Mm(CS:ag):Sp:=λ vs H Q _=>∃(x wl hl b:ag) (v:V) (ws d:List Nat) (zs:List Int),vs=[.ref x,.ref b]/\Ab CS H x v wl hl ws d/\H b=some (.lst (iL zs))/\zs.length<=1600/\∀H',m8 H H'->Q (.bl (zs.length == d.length && zs.all λ z=>bI z 0 20)) H'
abbrev XH:List Str:=["self","row","efforts"]
theorem Tr:m_ XH ["self","row"] (m6 uJ):=qi
theorem aah(F:pJ K "is_row" "Search.is_row" uJ f fd)(S:p7 K CS)(pf:mg "len"=none)(zB:mg "all"=none)(nE:oG mg "MOST_EFFORTS" 20):nU P w K mg base oH 1 f fd ["self","row"] (Mm CS):=by
 refine F.ok Tr (λ vs H Q E h=>?_) (λ oX A outer s H vs Q E hr h=>?_)
 ·obtain⟨x,wl,hl,b,v,ws,d,zs,rfl,_⟩:=h
  rfl
 ·obtain⟨x,wl,hl,b,v,ws,d,zs,rfl,⟨⟨dx,h1⟩,h2,h3⟩,hb,hz,k⟩:=h
  have nd:=Tr.nd
  refine⟨_,(m7 (nq (LB (rS ud (nN nO rfl pf aX (mX (pv 1) mZ)) (nN nO rfl pf aX (mX (nr (pv 0) rfl) mZ)) (oM _)) (LA (nN (BH rfl) rfl zB iP (mX (qw (own:=[("efforts",2)]) rfl nd (oO (pv 1)) (by exact pD.of (N:=XH) (sc:=m6 uJ) (by decide +kernel)) (λ _ _ _ _ _=>by exact(nB (i:=2) nd rfl (Or.inl rfl))) (λ _ _ _ _ _=>by exact oS) (λ _ _ _ _ _=>by exact(vk p_ p_ nP (pv 2) (nV nE)))) mZ)))))),?_⟩
  refine⟨_,rfl,b,_,rfl,.inl (nF.of hb),_,rfl,x,CS,dx,_,_,rfl,h1,S.cl,S.n3,rfl,hl,_,rfl,.inl (nF.of h3),rfl,?_⟩
  refine⟨_,rfl,qa (λ hc=>?_) λ hc=>?_⟩
  ·have hc:=V.int.inj (of_decide_eq_true hc)
   rw[pX,nj]at hc
   have e:(zs.length == d.length)=true:=by rw[beq_iff_eq];omega
   rw[e]at k
   refine⟨_,rfl,b,rfl,⟨_,nF.of hb⟩,?_⟩
   refine oZ (oU (K:=K) (xs:=iL zs) (nF.of hb)) (zs.map λ z=>V.bl (bI z 0 20)) (by rw[pX,aa]) (by rw[pX,aA];omega) (λ j x y H3 R3 N3 hy pH hF kk=>?_) (λ D H3 hD pH uD=>?_)
   ·unfold iL at hF
    rw[ak]at hF hy
    cases q1:zs[j]? with
    |none=>rw[q1]at hF;cases hF
    |some z=>
     rw[q1]at hF hy
     cases hF;cases hy
     refine⟨rfl,sE ?_⟩
     exact uf gc gv gc (kk H3 (m8.refl _))
   ·refine⟨D,zs.map λ z=>bI z 0 20,rfl,nF.of (by rw[uD,aW];rfl),?_⟩
    have k:=k H3 pH
    rw[fF]at k
    rw[cH];exact k
  ·have hc:¬ (V.int ((iL zs).length:Nat)=V.int ((nY d).length:Nat)):=λ q=>hc (decide_eq_true q)
   rw[pX,nj]at hc
   have e:(zs.length == d.length)=false:=by
    rw[beq_eq_false_iff_ne]
    intro q
    exact hc (by rw[q])
   rw[e]at k
   exact k H (m8.refl _)
def Mo(CS CF CC CT:ag):Sp:=λ vs H Q _=>∃(x dx a:ag) (v1 v2 v3:V) (f:ae),vs=[.ref x,.ref a]/\H x=some (.ins CS dx (J1.zip [v1,v2,v3]))/\rG CF CC CT H a f/\f.cells.length<=16/\x≠a/\
 ∀H' wl hl,sF x H H'->H wl=none->H hl=none->wl≠hl->Ab CS H' x (.ref a) wl hl (f.cells.map (·.weight)) (f.cells.map λ _=>0)->Q .qB H'
abbrev yt:List Str:=["self","field","cell"]
theorem Ts:m_ yt ["self","field"] (m6 sM):=qi
theorem aai(F:pJ K "begin" "Search.begin" sM f fd)(S:p7 K CS)(nJ:Rec P w K mg base "Field" CF Ck)(oA:Rec P w K mg base "Cell" CC EI)(ne:CS≠CC):nU P w K mg base oH 1 f fd ["self","field"] (Mo CS CF CC CT):=by
 refine F.ok Ts (λ vs H Q E h=>?_) (λ oX A outer s H vs Q E hr h=>?_)
 ·obtain⟨x,dx,a,v1,v2,v3,f,rfl,_⟩:=h
  rfl
 ·obtain⟨x,dx,a,v1,v2,v3,f,rfl,h1,⟨df,lc,lt,as,bs,f1,f2,f3,f4,f5⟩,wC,xa,k⟩:=h
  have nd:=Ts.nd
  refine⟨_,(mY (pV (pv 0) (pv 1) rfl)
   (mY (pV (pv 0) (qw (own:=[("cell",2)]) rfl nd (oO (nr (pv 1) rfl)) (by exact pD.of (N:=yt) (sc:=m6 sM) (by decide +kernel)) (λ _ _ _ _ _=>by exact(nB (i:=2) nd rfl (Or.inl rfl))) (λ _ _ _ _ _=>by exact oS) (λ _ _ _ _ _=>by exact(xW K (pv 2)))) rfl)
   (m7 (pV (pv 0) (qw (own:=[("cell",2)]) rfl nd (oO (nr (pv 1) rfl)) (by exact pD.of (N:=yt) (sc:=m6 sM) (by decide +kernel)) (λ _ _ _ _ _=>by exact(nB (i:=2) nd rfl (Or.inl rfl))) (λ _ _ _ _ _=>by exact oS) (λ _ _ _ _ _=>by exact nP)) rfl)))),?_⟩
  have lcx:lc≠x:=λ q=>by rw[q,h1]at f2;cases f2
  have aix:∀j b c,as[j]? =some b->f.cells[j]? =some c->b≠x:=λ j b c e1 e2 q=>by
   obtain⟨dc,ec⟩:=f3.2 j b c e1 e2
   rw[q,h1]at ec
   injection ec with ec
   injection ec with ec
   exact ne ec
  refine⟨_,rfl,_,rfl,x,CS,dx,_,rfl,h1,S.cl,S.n1,(by show 3<1000;decide),?_⟩
  generalize hH0:upd H x _=H0
  have k0:∀b o,b≠x->H b=some o->H0 b=some o:=λ b o n e=>by rw[<-hH0,m5 n];exact e
  have x0:H0 x=some (.ins CS dx (J1.zip [.ref a,v2,v3])):=by rw[<-hH0,m4];rfl
  refine⟨_,rfl,a,CF,df,_,_,rfl,k0 _ _ (Ne.symm xa) f1,nJ.cl,nJ.na "cells" (by simp),rfl,lc,rfl,⟨_,nF.of (k0 _ _ lcx f2)⟩,?_⟩
  have lz:(as.map V.ref).length<=ay:=by rw[aa,f3.1,aA];omega
  refine oZ (oU (K:=K) (xs:=as.map V.ref) (nF.of (k0 _ _ lcx f2))) (nY (f.cells.map (·.weight))) (by rw[nj,aa,aa,f3.1]) lz (λ j y z H3 R3 N3 hy pH hF kk=>?_) (λ D H3 hD pH uD=>?_)
  ·obtain⟨c,q,rfl⟩:=ow hy
   rw[ak]at hF q
   cases q1:as[j]? with
   |none=>rw[q1]at hF;cases hF
   |some aj=>
    cases q2:f.cells[j]? with
    |none=>rw[q2]at q;cases q
    |some cj=>
     rw[q1]at hF;rw[q2]at q
     cases hF;cases q
     obtain⟨dc,ec⟩:=f3.2 j aj cj q1 q2
     exact⟨rfl,sE ⟨_,rfl,aj,CC,dc,_,_,rfl,pH _ _ (k0 _ _ (aix j aj cj q1 q2) ec),oA.cl,oA.na "weight" (by simp),rfl,kk H3 (m8.refl _)⟩⟩
  have x3:=pH _ _ x0
  refine⟨_,rfl,x,CS,dx,_,rfl,x3,S.cl,S.n2,(by show 3<1000;decide),?_⟩
  have Dx:D≠x:=λ q=>by rw[q,x0]at hD;cases hD
  generalize U9:upd H3 x _=H4
  have k4:∀b o,b≠x->H0 b=some o->H4 b=some o:=λ b o n e=>by rw[<-U9,m5 n];exact pH _ _ e
  have x4:H4 x=some (.ins CS dx (J1.zip [.ref a,.ref D,v3])):=by rw[<-U9,m4];rfl
  have D4:H4 D=some (.lst (nY (f.cells.map (·.weight)))):=by rw[<-U9,m5 Dx];exact uD
  have f24:=k4 _ _ lcx (k0 _ _ lcx f2)
  refine⟨_,rfl,a,CF,df,_,_,rfl,k4 _ _ (Ne.symm xa) (k0 _ _ (Ne.symm xa) f1),nJ.cl,nJ.na "cells" (by simp),rfl,lc,rfl,⟨_,nF.of f24⟩,?_⟩
  refine oZ (oU (K:=K) (xs:=as.map V.ref) (nF.of f24)) (nY (f.cells.map λ _=>0)) (by rw[nj,aa,aa,f3.1]) lz (λ j y z H5 R5 N5 hy sm5 hF kk=>?_) (λ D2 H5 hD2 sm5 hD5=>?_)
  ·obtain⟨c,q,rfl⟩:=ow hy
   have e:c=0:=by
    rw[ak]at q
    cases z:f.cells[j]? with
    |none=>rw[z]at q;cases q
    |some n=>rw[z]at q;exact(Option.some.inj q).symm
   subst e
   exact⟨rfl,sE (kk H5 (m8.refl _))⟩
  refine⟨_,rfl,x,CS,dx,_,rfl,sm5 _ _ x4,S.cl,S.n3,(by show 3<1000;decide),?_⟩
  have D2x:D2≠x:=λ q=>by rw[q,x4]at hD2;cases hD2
  have D12:D≠D2:=λ q=>by rw[<-q,D4]at hD2;cases hD2
  have up:∀b o,b≠x->H b=some o->H5 b=some o:=λ b o n e=>sm5 _ _ (k4 b o n (k0 b o n e))
  refine k _ D D2 (λ b o e n _=>by rw[m5 n];exact up b o n e) ?_ ?_ D12 ⟨⟨dx,by rw[m4];rfl⟩,?_,?_⟩
  ·cases q:H D with
   |none=>rfl
   |some o=>rw[k0 _ _ Dx q]at hD;cases hD
  ·cases q:H D2 with
   |none=>rfl
   |some o=>rw[k4 _ _ D2x (k0 _ _ D2x q)]at hD2;cases hD2
  ·rw[m5 Dx];exact sm5 _ _ D4
  ·rw[m5 D2x];exact hD5
theorem Ov(r:List (List Nat)):∀(a:List Nat),r.foldl (λ a y=>a++(32::y)) a=a++(r.map λ y=>32::y).flatten:=by
 induction r with
 |nil=>intro a;simp
 |cons y r ih=>intro a;rw[ck,ih,aG,dZ,bB]
theorem wm(n:Nat):(Str.ofString (toString ((n:Nat):Int)))=strOf (dB n):=by
 rw[oP];rfl
theorem Ig:∀(r:List (List Nat)) (x:List Nat),TL.Fi [32] (x::r)=x++(r.map λ y=>32::y).flatten
 |[],x=>by show x=_;simp
 |y::r,x=>by
  show x++([32]++TL.Fi [32] (y::r))=_
  rw[Ig r y,aG,dZ]
  simp
theorem U_(a b:List Nat):strOf a++strOf b=strOf (a++b):=by
 show(⟨a.toArray++b.toArray⟩:Str)=⟨(a++b).toArray⟩
 rw[List.append_toArray]
theorem KQ(x:List Nat)(r:List (List Nat)):Txt.join (Str.ofString " ") ((x::r).map strOf)=strOf (x++(r.map λ y=>32::y).flatten):=by
 rw[TL.join_eq]
 apply TL.Qr
 rw[TL.GU,show TL.tl (Str.ofString " ")=[32] by decide,aW,show(TL.tl ∘ strOf)=id from rfl,ie,Ig]
theorem Ih:∀(r:List (List Nat)),(∀w∈r,w.length<=30)->((r.map λ y=>32::y).flatten).length<=31*r.length
 |[],_=>ax _
 |w::r,h=>by
  rw[aG,dZ,aw,aD,aD]
  have h1:=h w (by simp)
  have h2:=Ih r λ x hx=>h x (by simp[hx])
  omega
theorem Va(x:List Nat)(r:List (List Nat)):Txt.join (Str.ofString " ") ((x::r).map strOf)++Str.ofString ";\n"=strOf (il (x::r)):=by
 rw[KQ,oP ";\n",U_]
 unfold il
 dsimp only
 rw[Ov]
 rfl
def QX(l:List (List Nat)):List V:=l.map λ w=>V.str (strOf w)
def XI:Sp:=λ vs H Q _=>∃(a:ag) (l:List (List Nat)),vs=[.ref a]/\H a=some (.lst (QX l))/\l≠[]/\l.length<=30/\(∀w∈l,w.length<=30)/\Q (.str (strOf (il l))) H
theorem ack:m_ ["pieces"] ["pieces"] (m6 Xa):=qi
theorem Ii:∀(l:List (List Nat)),(∀w∈l,w.length<=30)->((l.map strOf).map (·.length)).sum<=30*l.length
 |[],_=>ax _
 |w::l,h=>by
  rw[aG,aG,iE,aD]
  have h1:(strOf w).length<=30:=by show w.toArray.size<=30;rw[aK];exact h w (by simp)
  have h2:=Ii l λ x hx=>h x (by simp[hx])
  omega
theorem acm(F:pJ K "line" "line" Xa f fd):nU P w K mg base oH 1 f fd ["pieces"] XI:=by
 refine F.ok ack (λ vs H Q E h=>?_) (λ oX A outer s H vs Q E hr h=>?_)
 ·obtain⟨a,l,rfl,_⟩:=h
  rfl
 ·obtain⟨a,l,rfl,ha,xE,hl,hw,k⟩:=h
  refine⟨_,(m7 (nq (om Qi (LR qp (pv 0)) qp))),?_⟩
  match l,xE with
  |x::r,_=>
   have sl:=Ii (x::r) hw
   have hx:=hw x (by simp)
   have fl:=Ih r λ z hz=>hw z (by simp[hz])
   rw[aD]at hl sl
   refine⟨⟨_,rfl⟩,_,rfl,_,a,(x::r).map strOf,rfl,rfl,.inl (nF.of (by rw[ha];unfold QX;rw[aW];rfl)),?_,_,_,rfl,rfl,?_,?_⟩
   ·rw[aa,aD,show(Str.ofString " ").length=1 by decide];omega
   ·rw[KQ,show(Str.ofString ";\n").length=2 by decide,aA]
    show(x++_).toArray.size+2<=_
    rw[aK,aw];omega
   ·rw[Va];exact k
def yu(l:cA):Prop:=∀x∈l,∀w,x.2=Vbmrac.Tok.word w->w.length<=8
theorem yu.tail{x:Nat×Vbmrac.Tok}{l:cA}(h:yu (x::l)):yu l:=λ y hy=>h y (by simp[hy])
theorem yu.drop{l:cA}(h:yu l)(n:Nat):yu (l.drop n):=λ y hy=>h y (List.mem_of_mem_drop hy)
theorem Ac:∀(f i:Nat) (t:List Nat),yu (iI f i t)
 |0,_,_=>λ x hx=>by cases hx
 |_+1,_,[]=>λ x hx=>by cases hx
 |f+1,i,c::t=>by
  show yu (if c=32\/c=10 then _ else _:cA)
  split
  ·exact Ac f (i+1) t
  ·split
   ·intro x hx w e
    rcases List.mem_cons.mp hx with q|q
    ·rw[q]at e;cases e
    ·exact Ac f (i+1) t x q w e
   ·split
    ·dsimp only
     split
     ·intro x hx w e
      simp at hx
      rw[hx]at e;cases e
     ·rename_i hl
      intro x hx w e
      rcases List.mem_cons.mp hx with q|q
      ·rw[q]at e;cases e;omega
      ·exact Ac f _ _ x q w e
    ·split
     ·dsimp only
      split
      ·intro x hx w e
       simp at hx
       rw[hx]at e;cases e
      ·intro x hx w e
       rcases List.mem_cons.mp hx with q|q
       ·rw[q]at e;cases e
       ·exact Ac f _ _ x q w e
     ·intro x hx w e
      simp at hx
      rw[hx]at e;cases e
theorem vF{en:Nat}{s:String}{l r:cA}(h:bN en s l= .ok r)(hl:yu l):yu r:=by
 unfold bN at h
 split at h
 ·cases h;exact hl.drop 1
 ·cases h
theorem XJ{en:Nat}{l r:cA}(h:semi en l= .ok r)(hl:yu l):yu r:=by
 unfold lL at h
 split at h
 ·cases h;exact hl.drop 1
 ·cases h
theorem G0{en lo hi:Nat}{l r:cA}{n:Nat}(h:numAt en lo hi l= .ok (n,r))(hl:yu l):yu r:=by
 unfold jD at h
 split at h
 ·split at h
  ·cases h;exact hl.tail
  ·cases h
 ·cases h
theorem XM{en:Nat}{l r:cA}{n:Nat×List Nat}(h:nameAt en l= .ok (n,r))(hl:yu l):yu r/\n.2.length<=8:=by
 unfold lj at h
 split at h
 ·split at h
  ·cases h
  ·cases h;exact⟨hl.tail,hl _ (bT ..) _ rfl⟩
 ·cases h
theorem aaj{en:Nat}{f:ae}{l r:cA}{c:bF}(h:xH en f l= .ok (c,r))(hl:yu l):yu r/\c.name.length<=8:=by
 unfold xH at h
 cases e1:bN en "cell" l with
 |error b=>rw[e1]at h;cases h
 |ok l1=>
  rw[e1]at h
  dsimp only[Bind.bind,Except.bind]at h
  cases e2:nameAt en l1 with
  |error b=>rw[e2]at h;cases h
  |ok x=>
   obtain⟨n,l2⟩:=x
   rw[e2]at h
   dsimp only at h
   split at h
   ·cases h
   ·cases e3:bN en "weight" l2 with
    |error b=>rw[e3]at h;cases h
    |ok l3=>
     rw[e3]at h
     dsimp only at h
     cases e4:numAt en 0 d_ l3 with
     |error b=>rw[e4]at h;cases h
     |ok x4=>
      obtain⟨n4,l4⟩:=x4
      rw[e4]at h
      dsimp only at h
      cases e5:bN en "finds" l4 with
      |error b=>rw[e5]at h;cases h
      |ok l5=>
       rw[e5]at h
       dsimp only at h
       cases e6:numAt en 0 f.parts l5 with
       |error b=>rw[e6]at h;cases h
       |ok x6=>
        obtain⟨n6,l6⟩:=x6
        rw[e6]at h
        dsimp only at h
        cases e7:bN en "time" l6 with
        |error b=>rw[e7]at h;cases h
        |ok l7=>
         rw[e7]at h
         dsimp only at h
         cases e8:numAt en 1 fq l7 with
         |error b=>rw[e8]at h;cases h
         |ok x8=>
          obtain⟨n8,l8⟩:=x8
          rw[e8]at h
          dsimp only at h
          cases e9:semi en l8 with
          |error b=>rw[e9]at h;cases h
          |ok l9=>
           rw[e9]at h
           dsimp only at h
           cases h
           obtain⟨a2,a3⟩:=XM e2 (vF e1 hl)
           exact⟨XJ e9 (G0 e8 (vF e7 (G0 e6 (vF e5 (G0 e4 (vF e3 a2)))))),a3⟩
theorem Vb(en:Nat):∀(k:Nat) (f:ae) (l:cA) (g:ae) (r:cA),yu l->(∀c∈f.cells,c.name.length<=8)->fQ en k f l= .ok (g,r)->∀c∈g.cells,c.name.length<=8:=by
 intro k
 induction k with
 |zero=>intro f l g r _ hf h;cases h;exact hf
 |succ k ih=>
  intro f l g r hl hf h
  rw[yj]at h
  split at h
  ·cases h;exact hf
  ·cases e:xH en f l with
   |error b=>rw[e]at h;cases h
   |ok x=>
    obtain⟨c,r1⟩:=x
    rw[e]at h
    dsimp only at h
    obtain⟨a1,a2⟩:=aaj e hl
    refine ih _ _ _ _ a1 (λ d hd=>?_) h
    rcases List.mem_append.mp hd with q|q
    ·exact hf d q
    ·simp at q;subst q;exact a2
theorem QY{t:List Nat}{g:ae}(h:cV t= .ok g):∀c∈g.cells,c.name.length<=8:=by
 rw[Mh]at h
 split at h
 ·cases h
 ·rename_i l1 e1
  split at h
  ·cases h
  ·rename_i p l2 e2
   split at h
   ·cases h
   ·rename_i l3 e3
    split at h
    ·cases h
    ·rename_i f l4 e4
     split at h
     ·cases h
     ·rename_i g' l5 e5
      split at h
      ·cases h
       obtain⟨a1,a2,a3,a4,_⟩:=Cg _ _ ⟨p,[],[]⟩ _ _ _ (cK _) ⟨eV,aE _,λ c hc=>absurd hc (by simp)⟩ e4
       obtain⟨b1,b2,b3⟩:=Cj _ _ _ _ _ _ ⟨by rw[a3];exact aE _,by rw[a3];exact aE _,λ c hc=>by rw[a3]at hc;exact absurd hc (by simp)⟩ e5
       rw[b3]
       exact Vb _ _ _ _ _ _ (XJ e3 (G0 e2 (vF e1 (Ac _ _ _)))) (λ c hc=>absurd hc (by simp)) e4
      ·cases h
theorem sR:∀n:Nat,n<=1000->(dB n).length<=30:=by decide +kernel
def Cp(c:bF):List Nat:=il [bX "cell",c.name,bX "weight",dB c.weight,bX "finds",dB c.finds,bX "time",dB c.time]
def w8(f:ae)(t:aL):List Nat:=il ([bX "team",dB t.efforts,bX "in"]++t.cells.map λ c=>(bz f c).name)
theorem xM{n:Nat}(h:n<=1000):((n:Nat):Int).natAbs.log2<1920:=by
 show n.log2<1920
 by_cases hz:n=0
 ·subst hz;decide
 ·exact aU ((mI hz).mpr (show n<2 ^ 10 by omega)) (by decide)
def Ij(CC:ag):Sp:=λ vs H Q _=>∃(a:ag) (c:bF),vs=[.ref a]/\BI CC H a c/\c.name.length<=8/\c.weight<=1000/\c.finds<=1000/\c.time<=1000/\∀H',m8 H H'->Q (.str (strOf (Cp c))) H'
theorem QZ:m_ ["cell"] ["cell"] (m6 EA):=qi
abbrev Hz6(P:aJ)(w:aY)(K:ah)(mg:Str->Option ao)(base:bw):Prop:=rC P w K mg base oH 1 "line" ["pieces"] XI
theorem Q0(F:pJ K "cell_line" "cell_line" EA f fd)(oA:Rec P w K mg base "Cell" CC EI)(yw:Hz6 P w K mg base)(Ik:mg "str"=none):nU P w K mg base oH 2 f fd ["cell"] (Ij CC):=by
 refine F.ok QZ (λ vs H Q E h=>?_) (λ oX A outer s H vs Q E hr h=>?_)
 ·obtain⟨a,c,rfl,_⟩:=h
  rfl
 ·obtain⟨a,c,rfl,⟨dx,ha⟩,hn,h1,h2,h3,k⟩:=h
  refine⟨_,(m7 (nq (nA (E:=E0) yw hr (by decide) nv (mX (nQ (mX qp (mX (nr (pv 0) rfl) (mX qp (mX (sx sJ rfl Ik jZ (mX (nr (pv 0) rfl) mZ)) (mX qp (mX (sx sJ rfl Ik jZ (mX (nr (pv 0) rfl) mZ)) (mX qp (mX (sx sJ rfl Ik jZ (mX (nr (pv 0) rfl) mZ)) mZ))))))))) mZ)))),?_⟩
  refine⟨_,rfl,a,CC,dx,_,_,rfl,ha,oA.cl,oA.na "name" (by simp),rfl,?_⟩
  refine⟨_,rfl,a,CC,dx,_,_,rfl,ha,oA.cl,oA.na "weight" (by simp),rfl,_,rfl,xM h1,?_⟩
  refine⟨_,rfl,a,CC,dx,_,_,rfl,ha,oA.cl,oA.na "finds" (by simp),rfl,_,rfl,xM h2,?_⟩
  refine⟨_,rfl,a,CC,dx,_,_,rfl,ha,oA.cl,oA.na "time" (by simp),rfl,_,rfl,xM h3,?_⟩
  refine⟨(by show 8<=ay;decide),λ p hp=>⟨p,[bX "cell",c.name,bX "weight",dB c.weight,bX "finds",dB c.finds,bX "time",dB c.time],rfl,?_,by simp,by simp,λ z hz=>?_,k _ (m8.new hp)⟩⟩
  ·rw[m4]
   show some (HO.lst [V.str (Str.ofString "cell"),V.str (strOf c.name),V.str (Str.ofString "weight"),V.str (Str.ofString (toString ((c.weight:Nat):Int))),V.str (Str.ofString "finds"),V.str (Str.ofString (toString ((c.finds:Nat):Int))),V.str (Str.ofString "time"),V.str (Str.ofString (toString ((c.time:Nat):Int)))])=_
   rw[wm,wm,wm,oP "cell",oP "weight",oP "finds",oP "time"]
   rfl
  ·have d1:=sR _ h1
   have d2:=sR _ h2
   have d3:=sR _ h3
   have b1:(bX "cell").length<=30:=by decide
   have b2:(bX "weight").length<=30:=by decide
   have b3:(bX "finds").length<=30:=by decide
   have b4:(bX "time").length<=30:=by decide
   simp only[dh,cJ,or_false]at hz
   rcases hz with rfl|rfl|rfl|rfl|rfl|rfl|rfl|rfl <;> omega
def Il(CC CT:ag):Sp:=λ vs H Q _=>∃(a lc:ag) (as:List ag) (f:ae) (t:aL),vs=[.ref a,.ref lc]/\sQ CT H a t/\H lc=some (.lst (as.map V.ref))/\qM CC H as f.cells/\f.cells.length<=16/\(∀c∈f.cells,c.name.length<=8)/\Me f.cells.length t/\∀H',m8 H H'->Q (.str (strOf (w8 f t))) H'
abbrev KR:List Str:=["team","cells","names","number"]
theorem Im:m_ KR ["team","cells"] (m6 AX):=qi
theorem Ad:∀{n:Nat} {l:List Nat},l.Nodup->(∀c∈l,c<n)->l.length<=n
 |0,[],_,_=>ax _
 |0,c::l,_,hl=>absurd (hl c (by simp)) (by omega)
 |n+1,l,h,hl=>by
  by_cases hn:n∈l
  ·have h1:=Ad (n:=n) (h.erase n) λ c hc=>by
    obtain⟨z1,z2⟩:=h.mem_erase_iff.mp hc
    have:=hl c z2
    omega
   rw[List.length_erase_of_mem hn]at h1
   omega
  ·have h1:=Ad (n:=n) h λ c hc=>by
    have:=hl c hc
    have:c≠n:=λ q=>hn (q ▸ hc)
    omega
   omega
theorem Q_(F:pJ K "team_line" "team_line" AX f fd)(oA:Rec P w K mg base "Cell" CC EI)(qr:Rec P w K mg base "Team" CT J0)(yw:Hz6 P w K mg base)(Ik:mg "str"=none):nU P w K mg base oH 2 f fd ["team","cells"] (Il CC CT):=by
 refine F.ok Im (λ vs H Q E h=>?_) (λ oX A outer s H vs Q E hr h=>?_)
 ·obtain⟨a,lc,as,f,t,rfl,_⟩:=h
  rfl
 ·obtain⟨a,lc,as,f,t,rfl,⟨dx,ml,h1,h2,h3⟩,hlc,Mi,wC,XN,tok,k⟩:=h
  have nd:=Im.nd
  refine⟨_,(mY (zO (i:=2) (own:=[("number",3)]) rfl nd rfl rfl rfl (oO (nr (pv 0) rfl)) (by exact pD.of (N:=KR) (sc:=m6 AX) (by decide +kernel)) (λ _ _ _ _ _=>by exact(nB (i:=3) nd rfl (Or.inl rfl))) (λ _ _ _ _ _=>by exact oS) (λ _ _ _ _ _=>by exact(xW K (tZ K (pv 1) (pv 3)))))
   (m7 (nq (nA (E:=E0) yw hr (by decide) nv (mX (om qX (nQ (mX qp (mX (sx sJ rfl Ik jZ (mX (nr (pv 0) rfl) mZ)) (mX qp mZ)))) (pv 2)) mZ))))),?_⟩
  have tl:=Ad tok.nd tok.lt
  refine⟨_,rfl,a,CT,dx,_,_,rfl,h1,qr.cl,qr.na "cells" (by simp),rfl,ml,rfl,⟨_,nF.of h2⟩,?_⟩
  refine oZ (oU (K:=K) (xs:=nY t.cells) (nF.of h2)) (QX (t.cells.map λ c=>(bz f c).name)) (by unfold QX;rw[nj,aa,aa]) (by rw[nj,aA];omega) (λ j y z H3 R3 N3 hy pH hF kk=>?_) (λ D H3 hD pH uD=>?_)
  ·obtain⟨c,q,rfl⟩:=ow hF
   have cm:=tok.lt c (aC q)
   unfold QX at hy
   rw[ak,ak,q]at hy
   cases hy
   have e1:f.cells[c]? =some f.cells[c]:=af cm
   have e2:as[c]? =some (as[c]'(by rw[Mi.1];exact cm)):=af _
   have ca:bz f c=f.cells[c]:=by unfold bz;rw[aB,e1];rfl
   obtain⟨dc,ec⟩:=Mi.2 c _ _ e2 e1
   have kk:=kk H3 (m8.refl _)
   refine⟨rfl,sE ⟨_,rfl,_,rfl,lc,_,_,_,rfl,rfl,nF.of (pH _ _ hlc),ou (by rw[ak,e2];rfl),_,CC,dc,_,_,rfl,pH _ _ ec,oA.cl,oA.na "name" (by simp),rfl,?_⟩⟩
   show R3 (V.str (strOf f.cells[c].name)) H3
   rw[<-ca];exact kk
  have e24:t.efforts<=1000:=by have:=tok.efforts;omega
  refine⟨_,rfl,a,CT,dx,_,_,rfl,pH _ _ h1,qr.cl,qr.na "efforts" (by simp),rfl,_,rfl,xM e24,(by show 3<=ay;decide),λ p hp=>?_⟩
  have sp:m8 H3 (upd H3 p (.lst [V.str (Str.ofString "team"),V.str (Str.ofString (toString ((t.efforts:Nat):Int))),V.str (Str.ofString "in")])):=m8.new hp
  refine⟨_,rfl,p,D,_,_,rfl,rfl,m4,sp _ _ uD,?_,λ q hq=>?_⟩
  ·unfold QX;rw[aa,aa,aA];show 3+ _<=_;omega
  refine⟨q,[bX "team",dB t.efforts,bX "in"]++t.cells.map (λ c=>(bz f c).name),rfl,?_,by simp,?_,λ z hz=>?_,k _ ((pH.trans sp).trans (m8.new hq))⟩
  ·rw[m4]
   show some (HO.lst ([V.str (Str.ofString "team"),V.str (Str.ofString (toString ((t.efforts:Nat):Int))),V.str (Str.ofString "in")]++QX (t.cells.map λ c=>(bz f c).name)))=_
   rw[wm,oP "team",oP "in"]
   unfold QX
   rw[aF];rfl
  ·rw[aw,aa];show 3+ _<=30;omega
  ·have d1:=sR _ e24
   have b1:(bX "team").length<=30:=by decide
   have b2:(bX "in").length<=30:=by decide
   rcases List.mem_append.mp hz with q1|q1
   ·simp only[dh,cJ,or_false]at q1
    rcases q1 with rfl|rfl|rfl <;> omega
   ·obtain⟨c,hc,rfl⟩:=List.mem_map.mp q1
    have cm:=tok.lt c hc
    have ca:bz f c=f.cells[c]:=by unfold bz;rw[aB,af cm];rfl
    rw[ca]
    have:=XN _ (cp cm)
    omega
end oj
namespace L2
theorem XO{H1:Hp}(x:Str):Walk (Its x) H1 x.cps.size (λ i v _=>∃c,x.cps[i]? =some c/\v= .str ⟨#[c]⟩) where
 go:=λ i H hi sm=>hi
 Ha:=λ i H v H' hi sm y=>by
  obtain⟨rfl,c,e1,e2⟩:=y
  exact⟨⟨c,e1,e2⟩,m8.refl _⟩
 stop:=λ H sm=>ax _
end L2
namespace oj
theorem KS:∀(l:List (List Nat)),TL.Fi [] l=l.flatten
 |[]=>rfl
 |[x]=>by show x=_;simp
 |x::y::r=>by
  show x++([]++TL.Fi [] (y::r))=_
  rw[KS (y::r),dZ];rfl
theorem XQ(l:List (List Nat)):Txt.join (Str.ofString "") (l.map strOf)=strOf l.flatten:=by
 rw[TL.join_eq]
 apply TL.Qr
 rw[TL.GU,show TL.tl (Str.ofString "")=[] by decide,aW,show(TL.tl ∘ strOf)=id from rfl,ie,KS]
theorem Dz{l:List (List Nat)}(hl:l.length<=30)(hw:∀w∈l,w.length<=30):(il l).length<=1000:=by
 unfold il
 cases l with
 |nil=>simp
 |cons x r=>
  dsimp only
  rw[Ov,aw,aw]
  have h1:=hw x (by simp)
  have h2:=Ih r λ z hz=>hw z (by simp[hz])
  rw[aD]at hl
  show _+2<=1000
  omega
theorem Mp{B:Nat}:∀(l:List (List Nat)),(∀w∈l,w.length<=B)->l.flatten.length<=l.length*B
 |[],_=>by simp
 |w::l,h=>by
  rw[dZ,aw,aD,j3]
  have h1:=h w (by simp)
  have h2:=Mp l λ x hx=>h x (by simp[hx])
  omega
theorem Tt:∀(l:List (List Nat)),((l.map strOf).map (·.length)).sum=l.flatten.length
 |[]=>rfl
 |w::l=>by
  rw[aG,aG,iE,Tt l,dZ,aw]
  show w.toArray.size+ _=_
  rw[aK]
theorem Io(f:ae):iF f=([il [bX "parts",dB f.parts]]++f.cells.map Cp++f.teams.map (w8 f)).flatten:=by
 rw[kq,kq]
 unfold iF
 rw[lh,lh,bB]
 congr 1
 simp
theorem Ip{c:bF}(hn:c.name.length<=8)(h1:c.weight<=1000)(h2:c.finds<=1000)(h3:c.time<=1000):(Cp c).length<=1000:=by
 refine Dz (by simp) λ z hz=>?_
 have d1:=sR _ h1
 have d2:=sR _ h2
 have d3:=sR _ h3
 have b1:(bX "cell").length<=30:=by decide
 have b2:(bX "weight").length<=30:=by decide
 have b3:(bX "finds").length<=30:=by decide
 have b4:(bX "time").length<=30:=by decide
 simp only[dh,cJ,or_false]at hz
 rcases hz with rfl|rfl|rfl|rfl|rfl|rfl|rfl|rfl <;> omega
theorem Iq{f:ae}{t:aL}(wC:f.cells.length<=16)(XN:∀c∈f.cells,c.name.length<=8)(tok:Me f.cells.length t):(w8 f t).length<=1000:=by
 have tl:=Ad tok.nd tok.lt
 have e24:t.efforts<=1000:=by have:=tok.efforts;omega
 refine Dz ?_ λ z hz=>?_
 ·rw[aw,aa];show 3+ _<=30;omega
 ·have d1:=sR _ e24
  have b1:(bX "team").length<=30:=by decide
  have b2:(bX "in").length<=30:=by decide
  rcases List.mem_append.mp hz with q1|q1
  ·simp only[dh,cJ,or_false]at q1
   rcases q1 with rfl|rfl|rfl <;> omega
  ·obtain⟨c,hc,rfl⟩:=List.mem_map.mp q1
   have cm:=tok.lt c hc
   have ca:bz f c=f.cells[c]:=by unfold bz;rw[aB,af cm];rfl
   rw[ca]
   have:=XN _ (cp cm)
   omega
def ER:Sp:=λ vs H Q _=>∃(x:List Nat),vs=[.str (strOf x)]/\x.length<=30000/\GI H Q (nY x)
abbrev Ow:List Str:=["text","sign"]
theorem KU:m_ Ow ["text"] (m6 Dd):=qi
theorem Vc(F:pJ K "to_bytes" "to_bytes" Dd f fd)(adJ:mg "ord"=none):nU P w K mg base oH 1 f fd ["text"] ER:=by
 refine F.ok KU (λ vs H Q E h=>?_) (λ oX A outer s H vs Q E hr h=>?_)
 ·obtain⟨x,rfl,_⟩:=h
  rfl
 ·obtain⟨x,rfl,hx,k⟩:=h
  have nd:=KU.nd
  refine⟨_,(m7 (nq (qw (own:=[("sign",1)]) rfl nd (abT (pv 0)) (by exact pD.of (N:=Ow) (sc:=m6 Dd) (by decide +kernel)) (λ _ _ _ _ _=>by exact(nB (i:=1) nd rfl (Or.inl rfl))) (λ _ _ _ _ _=>by exact oS) (λ _ _ _ _ _=>by exact(nN Wn rfl adJ boot_ord (mX (pv 1) mZ)))))),?_⟩
  refine⟨_,rfl,_,rfl,?_⟩
  refine oZ (XO (strOf x)) (nY x) (by rw[nj];show _=x.toArray.size;rw[aK]) (by show x.toArray.size<=_;rw[aK,aA];omega) (λ j y z H3 R3 N3 hy pH hF kk=>?_) (λ D H3 hD pH uD=>k H3 D pH hD uD)
  obtain⟨c,q,rfl⟩:=ow hy
  obtain⟨c',e1,rfl⟩:=hF
  have e2:c'=c:=by
   have:x.toArray[j]? =some c':=e1
   rw[List.getElem?_toArray,q]at this
   exact(Option.some.inj this).symm
  subst e2
  exact⟨rfl,sE ⟨_,rfl,_,rfl,rfl,kk H3 (m8.refl _)⟩⟩
def Tu(CF CC CT:ag):Sp:=λ vs H Q _=>∃(a:ag) (f:ae),vs=[.ref a]/\rG CF CC CT H a f/\Du f/\(∀c∈f.cells,c.name.length<=8)/\GI H Q (nY (iF f))
abbrev acn:List Str:=["field","lines","cell","team"]
theorem Tv:m_ acn ["field"] (m6 Qv):=qi
theorem aak(F:pJ K "shown" "shown" Qv f fd)(nJ:Rec P w K mg base "Field" CF Ck)(yw:Hz6 P w K mg base)(Ik:mg "str"=none)(Ae:rC P w K mg base oH 2 "cell_line" ["cell"] (Ij CC))(Af:rC P w K mg base oH 2 "team_line" ["team","cells"] (Il CC CT))(r9:rC P w K mg base oH 1 "to_bytes" ["text"] ER):nU P w K mg base oH 3 f fd ["field"] (Tu CF CC CT):=by
 refine F.ok Tv (λ vs H Q E h=>?_) (λ oX A outer s H vs Q E hr h=>?_)
 ·obtain⟨a,f,rfl,_⟩:=h
  rfl
 ·obtain⟨a,f,rfl,⟨df,lc,lt,as,bs,f1,f2,f3,f4,f5⟩,ok,XN,k⟩:=h
  have nd:=Tv.nd
  refine⟨_,(mY (m9 (i:=1) nd rfl (Or.inl rfl) (nQ (mX (nA (E:=E0) yw hr (by decide) nv (mX (nQ (mX qp (mX (sx sJ rfl Ik jZ (mX (nr (pv 0) rfl) mZ)) mZ))) mZ)) mZ)))
   (mY (qC PassesOwn.never rfl (oO (nr (pv 0) rfl)) (nB (i:=2) nd rfl (Or.inl rfl)) (m7 (og (qU aH bc a_ pG (pv 1) (mX (nA (E:=E0) Ae hr (by decide) nv (mX (pv 2) mZ)) mZ)))))
   (mY (qC PassesOwn.never rfl (oO (nr (pv 0) rfl)) (nB (i:=3) nd rfl (Or.inl rfl)) (m7 (og (qU aH bc a_ pG (pv 1) (mX (nA (E:=E0) Af hr (by decide) nv (mX (pv 3) (mX (nr (pv 0) rfl) mZ))) mZ)))))
   (m7 (nq (nA (E:=E0) r9 hr (by decide) nv (mX (LR qp (pv 1)) mZ))))))),?_⟩
  have XR:f.parts<=1000:=by have:=ok.parts;omega
  refine⟨_,rfl,a,CF,df,_,_,rfl,f1,nJ.cl,nJ.na "parts" (by simp),rfl,_,rfl,xM XR,(by show 2<=ay;decide),λ p hp=>?_⟩
  have s0:m8 H (upd H p (.lst [V.str (Str.ofString "parts"),V.str (Str.ofString (toString ((f.parts:Nat):Int)))])):=m8.new hp
  refine⟨p,[bX "parts",dB f.parts],rfl,?_,by simp,by simp,λ z hz=>?_,(by show 1<=ay;decide),λ ln hln=>?_⟩
  ·rw[m4]
   show some (HO.lst [V.str (Str.ofString "parts"),V.str (Str.ofString (toString ((f.parts:Nat):Int)))])=_
   rw[wm,oP "parts"];rfl
  ·have d1:=sR _ XR
   have b1:(bX "parts").length<=30:=by decide
   simp only[dh,cJ,or_false]at hz
   rcases hz with rfl|rfl <;> omega
  have hl0:H ln=none:=by
   cases q:H ln with
   |none=>rfl
   |some o=>rw[s0 _ _ q]at hln;cases hln
  have sm1:=s0.trans (m8.new (o:=.lst [V.str (strOf (il [bX "parts",dB f.parts]))]) hln)
  refine⟨_,rfl,a,CF,df,_,_,rfl,sm1 _ _ f1,nJ.cl,nJ.na "cells" (by simp),rfl,lc,rfl,⟨_,nF.of (sm1 _ _ f2)⟩,rj (K:=K) (a:=lc) (xs:=as.map V.ref) (λ i σ H'=>∃(o:Option V),σ=[some (.ref a),some (.ref ln),o,none]/\m8 H H'/\H' ln=some (.lst (QX ([il [bX "parts",dB f.parts]]++(f.cells.take i).map Cp))))
   ⟨none,rfl,sm1,by rw[m4];rfl⟩ (λ i σ H' _ ⟨_,_,sm,_⟩=>nF.of (sm _ _ f2)) ?_ ?_⟩
  ·rintro i x σ H' hx ⟨o,rfl,sm,hL⟩
   rw[ak]at hx
   cases q1:as[i]? with
   |none=>rw[q1]at hx;cases hx
   |some ai=>
    rw[q1]at hx;cases hx
    have hi:i<f.cells.length:=by rw[<-f3.1];exact(List.getElem?_eq_some_iff.mp q1).1
    have q2:f.cells[i]? =some f.cells[i]:=af hi
    obtain⟨dc,ec⟩:=f3.2 i ai _ q1 q2
    have co:=ok.cells.each _ (cp hi)
    have pp:=ok.parts
    refine⟨_,rfl,.inl ⟨rfl,_,nF.of hL⟩,_,rfl,ai,f.cells[i],rfl,⟨dc,sm _ _ ec⟩,XN _ (cp hi),co.weight,by have:=co.finds;omega,by have:=co.time;omega,λ H2 s2=>⟨ln,_,_,rfl,rfl,s2 _ _ hL,?_,_,rfl,λ b o e=>?_,?_⟩⟩
    ·have:=ok.cells.len
     unfold QX
     rw[aa,aw,aa,bW,aA]
     show 1+ _< _
     omega
    ·rw[m5 (nH e hl0)];exact s2 _ _ (sm _ _ e)
    ·rw[m4,bZ,q2]
     unfold QX
     rw[aF,aF,aF]
     simp
  ·rintro σ H' ⟨o,rfl,sm,hL⟩
   rw[aa,f3.1,dj]at hL
   refine⟨_,rfl,a,CF,df,_,_,rfl,sm _ _ f1,nJ.cl,nJ.na "teams" (by simp),rfl,lt,rfl,⟨_,nF.of (sm _ _ f4)⟩,rj (K:=K) (a:=lt) (xs:=bs.map V.ref) (λ i σ H'=>∃(o3:Option V),σ=[some (.ref a),some (.ref ln),o,o3]/\m8 H H'/\H' ln=some (.lst (QX ([il [bX "parts",dB f.parts]]++f.cells.map Cp++(f.teams.take i).map (w8 f)))))
    ⟨none,rfl,sm,by rw[hL];simp⟩ (λ i σ H' _ ⟨_,_,sm,_⟩=>nF.of (sm _ _ f4)) ?_ ?_⟩
   ·rintro i x σ H2 hx ⟨o3,rfl,wg,Za⟩
    rw[ak]at hx
    cases q1:bs[i]? with
    |none=>rw[q1]at hx;cases hx
    |some ai=>
     rw[q1]at hx;cases hx
     have hi:i<f.teams.length:=by rw[<-f5.1];exact(List.getElem?_eq_some_iff.mp q1).1
     have q2:f.teams[i]? =some f.teams[i]:=af hi
     have ta:=(f5.2 i ai _ q1 q2).same wg
     refine⟨_,rfl,.inl ⟨rfl,_,nF.of Za⟩,_,rfl,_,rfl,a,CF,df,_,_,rfl,wg _ _ f1,nJ.cl,nJ.na "cells" (by simp),rfl,ai,lc,as,f,f.teams[i],rfl,ta,wg _ _ f2,⟨f3.1,λ j b c e1 e2=>let⟨d,z⟩:=f3.2 j b c e1 e2;⟨d,wg _ _ z⟩⟩,ok.cells.len,XN,ok.teams.each _ (cp hi),λ H3 s3=>⟨ln,_,_,rfl,rfl,s3 _ _ Za,?_,_,rfl,λ b o e=>?_,?_⟩⟩
     ·have:=ok.cells.len
      have:=ok.teams.len
      unfold QX
      rw[aa,aw,aw,aa,aa,bW,aA]
      show 1+ _+ _< _
      omega
     ·rw[m5 (nH e hl0)];exact s3 _ _ (wg _ _ e)
     ·have e9:(f.teams.take (i+1)).map (w8 f)=(f.teams.take i).map (w8 f)++[w8 f f.teams[i]]:=by
       rw[bZ,q2,aF];rfl
      rw[m4,e9,<-bB]
      unfold QX
      rw[aF (l₂:=[w8 f f.teams[i]])];rfl
   ·rintro σ H2 ⟨o3,rfl,wg,Za⟩
    rw[aa,f5.1,dj]at Za
    generalize Zf:[il [bX "parts",dB f.parts]]++f.cells.map Cp++f.teams.map (w8 f)=ls at Za
    have we:iF f=ls.flatten:=by rw[Io,Zf]
    have afn:ls.flatten.length<=23000:=by
     have h1:ls.flatten.length<=ls.length*1000:=Mp ls λ z hz=>by
      rw[<-Zf]at hz
      rcases List.mem_append.mp hz with hz|hz
      ·rcases List.mem_append.mp hz with hz|hz
       ·simp only[dh,cJ,or_false]at hz
        rw[hz]
        refine Dz (by simp) λ z hz=>?_
        have d1:=sR _ XR
        have b1:(bX "parts").length<=30:=by decide
        simp only[dh,cJ,or_false]at hz
        rcases hz with rfl|rfl <;> omega
       ·obtain⟨c,hc,rfl⟩:=List.mem_map.mp hz
        have co:=ok.cells.each _ hc
        have pp:=ok.parts
        exact Ip (XN c hc) co.weight (by have:=co.finds;omega) (by have:=co.time;omega)
      ·obtain⟨t,ht,rfl⟩:=List.mem_map.mp hz
       exact Iq ok.cells.len XN (ok.teams.each t ht)
     have h2:ls.length<=23:=by
      have:=ok.cells.len
      have:=ok.teams.len
      rw[<-Zf,aw,aw,aa,aa]
      show 1+ _+ _<=23
      omega
     have h3:ls.length*1000<=23*1000:=c6 _ h2
     omega
    refine⟨⟨_,rfl⟩,_,rfl,_,ln,ls.map strOf,rfl,rfl,.inl (nF.of (by rw[Za];unfold QX;rw[aW];rfl)),?_,?_⟩
    ·rw[Tt,show(Str.ofString "").length=0 by decide];omega
    rw[XQ]
    rw[we]at k
    refine⟨ls.flatten,rfl,by omega,λ H3 D s3 hD uD=>k H3 D (wg.trans s3) ?_ uD⟩
    cases q:H D with
    |none=>rfl
    |some o=>rw[wg _ _ q]at hD;cases hD
end oj
namespace L2
section
variable{X:Cx}
def XS(K:ah):V->List V->Hp->VK->Prop:=λ x xs H Q=>∃(a:ag) (ns:List Int) (k:Int),x=V.ref a/\xs=[V.int k]/\nF K H a (ns.map V.int)/\Q (.int (ns.count k:Nat)) H
theorem Ra:MtR X "list.count" (XS X.K):=by
 intro pins s σ H x xs v us Q I rx rxs h
 obtain⟨a,ns,k,rfl,rfl,hs,q⟩:=h
 cases rx
 obtain⟨u,rfl,ru⟩:=rxs.one
 obtain⟨t,rfl⟩:=ru
 obtain⟨oo,rv,hl,_⟩:=I.list hs
 exact count_list_ints hl.isList rv.ints ⟨.int _,H,I.tok _,⟨_,rfl⟩,q⟩
def XT:V->List V->Hp->VK->Prop:=λ x xs H Q=>∃(l:ag) (ys:List V) (y:V),x=V.ref l/\xs=[V.int 0,y]/\H l=some (.lst ys)/\ys.length<ay/\Q .qB (upd H l (.lst (y::ys)))
theorem Rb:MtM X "list.insert" XT:=by
 intro pins s σ H x vs v us Q I rx rv h
 obtain⟨l,ys,y,rfl,rfl,hH,hz,q⟩:=h
 cases rx
 cases rv with
 |cons r0 rt=>
  obtain⟨u,rfl,ru⟩:=Vals.one rt
  obtain⟨t,rfl⟩:=r0
  obtain⟨z,oo,n,r,hl,e⟩:=I.Us hH
  refine jV F.slot_list_insert ⟨_,e,rfl⟩ F.entry_list_insert (F.args_list_insert_3 _ _ _) (AutoSeq1.list_insert_list_int_val_1 l oo.toArray n 0 t u (by decide) (by rw[aK];omega)) ⟨e,?_⟩
  refine⟨.qB,_,I.abL (its':=u::oo) hH e (by simp) (.cons ru r) ?_,rfl,q⟩
  rw[aD];omega
def aco(ta:TA):TE:=λ σ H Q=>ta σ H λ vs H1=>∃n:Nat,vs=[.int n]/\n<=1000/\∀l,H1 l=none->Q (.ref l) (upd H1 l (.lst ((az n).map λ(i:Nat)=>V.int i)))
theorem Tw:∀{xs:List V} {us:List ao},xs.length=us.length->(∀(i:Nat) x u,xs[i]? =some x->us[i]? =some u->RelV x u)->Vals xs us
 |[],[],_,_=>.nil
 |x::xs,u::us,h,g=>.cons (g 0 x u rfl rfl) (Tw (by simpa using h) λ i y v e1 e2=>g (i+1) y v (by simpa using e1) (by simpa using e2))
 |[],_::_,h,_=>by simp at h
 |_::_,[],h,_=>by simp at h
theorem Vd{acc:Array ao}{n:Nat}(h:ItemsOf (λ i v=>∃t,v=Value.int (0+i*1) t) acc n):Vals ((az n).map λ(i:Nat)=>V.int i) acc.toList:=by
 refine Tw (by rw[aa,aR,Array.length_toList,h.1]) λ i x u e1 e2=>?_
 obtain⟨t,rfl⟩:=h.2 i u (by simpa using e2)
 rw[ak]at e1
 cases q:(az n)[i]? with
 |none=>rw[q]at e1;cases e1
 |some j=>
  rw[q]at e1
  obtain⟨hi,hj⟩:=List.getElem?_eq_some_iff.mp q
  rw[List.getElem_range]at hj
  subst hj
  cases e1
  exact⟨t,by simp⟩
theorem XU{a:bJ}{ta:TA}{p p2 pos XX:Pos}(hc:X.calm=true)(hg1:Gl X "list")(hm1:X.mg "list"=none)(hg2:Gl X "range")(hm2:X.mg "range"=none)(ha:PA X [a] ta)
  (hs:aN [.Call (.Name "range" p2) [a] [] XX] X.env=[(false,cu (.Call (.Name "range" p2) [a] [] XX) X.env)]:=by rfl)(Um:aN [a] X.env=[(false,cu a X.env)]:=by rfl):
  PE X (.Call (.Name "list" p) [.Call (.Name "range" p2) [a] [] XX] [] pos) (aco ta):=by
 intro pins s σ H Q I h
 refine cZ (vh I hg1 hm1 kD ?_)
 refine bS ?_ hs rfl
 rw[hs]
 show aV _ _ (spliced ((false,cu (.Call (.Name "range" p2) [a] [] XX) X.env)::c7 pos [])) _ _ s
 refine Calls.spliced_cons (ly (vh I hg2 hm2 j0 (bS (pN (ha XX pins s σ H _ I h) λ us s1 ⟨vs,H1,I1,r1,n,e,hn,q⟩=>?_) Um rfl)))
 subst e
 cases r1 with
 |cons r rr=>
  cases rr
  obtain⟨t,rfl⟩:=r
  refine call_range_1 (Calls.spliced_nil ?_)
  have I2:Inv X pins σ H1 { s1 with heap:=s1.heap.push { cls:=.type "range",data:=.fields #[.int 0 s1.toks,.int n t,.int 1 (s1.toks+1)] },toks:=s1.toks+1+1 }:=I1.kept λ b o e=>Heap.get?_push_of_some _ e
  refine call_list_range (n:=n) (I.ok.hd hc) (IsRange.new ..) (small_one (by omega) (by omega) (by omega) (by omega)) (by rw[mS];split <;> omega) (by omega) λ h' tk acc c' hk hS aeZ=>?_
  have hz:((az n).map λ(i:Nat)=>V.int i).length<=ay:=by rw[aa,aR,aA];omega
  exact⟨.ref _,_,I2.laid (t':=tk) hk (ax _) (show pQ X.prog X.w _ h' _ (.lst _)from⟨hz,acc.toList,c',Vd aeZ,by rw[hS]⟩),rfl,q _ (I2.oY.fresh (ax _))⟩
end
theorem tO{H1:Hp}(lo:Int)(n:Nat):Walk (Itr lo n) H1 n (λ i x _=>x= .int (lo+i)) where
 go:=λ i H hi sm=>hi
 Ha:=λ i H x H' hi sm y=>by
  obtain⟨rfl,y⟩:=y
  exact⟨y,m8.refl _⟩
 stop:=λ H sm=>ax _
theorem Ve{K:ah}{H1:Hp}{a b:ag}{xs ys:List V}(h:nF K H1 a xs)(h':nF K H1 b ys):Walk (Itz K a b) H1 (min xs.length ys.length) (λ i v H=>∃T x y,v= .ref T/\xs[i]? =some x/\ys[i]? =some y/\H T=some (.tup [x,y])) where
 go:=λ i H hi sm=>⟨xs,ys,xs[i],ys[i],sm.seq h,sm.seq h',af (by omega),af (by omega)⟩
 Ha:=λ i H x H' hi sm y=>by
  obtain⟨T,z,z',rfl,hT,rfl,y,y'⟩:=y
  exact⟨⟨T,z,z',rfl,y xs (sm.seq h),y' ys (sm.seq h'),m4⟩,m8.new hT⟩
 stop:=λ H sm=>⟨xs,ys,sm.seq h,sm.seq h',by omega⟩
theorem XY{J:It}{H1:Hp}{n:Nat}{F:Nat->V->Hp->Prop}{g:TG}{tt:TT}{te:TE}{vs:List Nat}{σ:L2.St}{Q:ag->Hp->Prop}(W:Walk J H1 n F)(ys:List (Option V))(hlen:ys.length=n)(hz:n<=ay)
  (hs:∀i x y H (R:V->Hp->Prop) (N:Hp->Prop),ys[i]? =some y->m8 H1 H->F i x H->(∀z,y=some z->∀H4,m8 H H4->R z H4)->(y=none->∀H4,m8 H H4->N H4)->g x (wipe σ vs) H λ σ2 H2=>wipe σ2 vs=wipe σ vs/\tt σ2 H2 λ b H3=>if b=true then te σ2 H3 R else N H3)
  (fin:∀D H,H1 D=none->m8 H1 H->H D=some (.lst (ys.filterMap id))->Q D H)(D:ag)(hD:H1 D=none):
  ∃W:Nat->Nat->Hp->Prop,(∃m,W 0 m (upd H1 D (.lst [])))/\∀i m H,W i m H->
   (J.stop i H/\Q D H)\/(J.go i H/\∃Nx:Hp->Prop,(∀H',Nx H'->∃m',m'<m/\W (i+1) m' H')/\∀x H',J.Ha i H x H'->g x (wipe σ vs) H' λ σ2 H2=>wipe σ2 vs=wipe σ vs/\tt σ2 H2 λ b H3=>
    if b=true then te σ2 H3 λ y H4=>∃acc,H4 D=some (.lst acc)/\acc.length<ay/\Nx (upd H4 D (.lst (acc++[y])))else Nx H3):=by
 refine⟨λ i m H=>m=n-i/\i<=n/\m8 H1 H/\H D=some (.lst ((ys.take i).filterMap id)),⟨n,by omega,aE _,λ b o e=>by rw[m5 (nH e hD)];exact e,m4⟩,?_⟩
 rintro i m H ⟨rfl,hi,sm,hd⟩
 by_cases rO:i<n
 ·refine .inr ⟨W.go i H rO sm,λ H'=>i+1<=n/\m8 H1 H'/\H' D=some (.lst ((ys.take (i+1)).filterMap id)),λ H' z=>⟨n-(i+1),by omega,rfl,z⟩,λ x H' y=>?_⟩
  obtain⟨hF,wg⟩:=W.Ha i H x H' rO sm y
  have hy:ys[i]? =some ys[i]:=af (by omega)
  have ht:ys.take (i+1)=ys.take i++[ys[i]]:=by rw[bZ,hy];rfl
  have hl:((ys.take i).filterMap id).length<=i:=aT (List.length_filterMap_le _ _) (by rw[bW];omega)
  refine hs i x _ H' _ _ hy (sm.trans wg) hF (λ z ez H4 Np=>?_) λ ez H4 Np=>?_
  ·have hd4:H4 D=some (.lst ((ys.take i).filterMap id)):=Np _ _ (wg _ _ hd)
   refine⟨_,hd4,by omega,rO,λ b o e=>?_,?_⟩
   ·rw[m5 (nH e hD)];exact Np _ _ (wg _ _ (sm _ _ e))
   ·rw[m4,ht,g8,ez];rfl
  ·refine⟨rO,sm.trans (wg.trans Np),?_⟩
   rw[Np _ _ (wg _ _ hd),ht,g8,ez]
   show _=some (HO.lst (_++[]))
   rw[bD]
 ·have e:i=n:=by omega
  subst e
  refine .inl ⟨W.stop H sm,fin D H hD sm ?_⟩
  rw[hd,cq (by omega)]
theorem Vf(K:ah){X:Cx}{o e:bJ}{to:TE}{t:TA}{apos xD:Pos}(ho:PE X o to)(ha:PA X [e] t)(hK:X.K=K:=by rfl)
  (Hj:dN o "count" X.env (cu o X.env)=cu o X.env:=by rfl)
  (abJ:((c7 xD (aN [e] X.env)).all (λ x=> !x.1) && (h_ xD (fj [] X.env)).all (λ x=>x.1.isSome)
   && decide (([e]:List bJ).length+([]:List kS).length+(if([]:List kS).isEmpty then 0 else 1)<30))=true:=by rfl)
  (Hk:(apos.endLine == xD.line)=true:=by rfl)(hs:aN [e] X.env=(false,cu e X.env)::aN [] X.env:=by rfl):
  PE X (.Call (.Attribute o "count" apos) [e] [] xD) (tBM K "list" (XS K) to t):=by
 subst hK;exact qU aH PySem.F.slot_list_count PySem.F.type_list_count Ra ho ha Hj abJ Hk hs rfl
theorem aal(K:ah){X:Cx}{e:bJ}{t:TA}{p pos:Pos}(hc:X.calm=true)(hg:Gl X "max")(hm:X.mg "max"=none)(ha:PA X [e] t)(hK:X.K=K:=by rfl)(he:aN [e] X.env=(false,cu e X.env)::aN [] X.env:=by rfl):
  PE X (.Call (.Name "max" p) [e] [] pos) (tCB (adn K) t):=by
 subst hK;exact nN (Qn hc) hg hm lx ha (by decide) (by decide) he rfl
theorem Vg(K:ah){X:Cx}(hK:X.K=K:=by rfl):Ed X (cR .NotIn) (rIn K true):=by
 subst hK;exact uH
end L2
namespace L2
theorem m8.put{H H':Hp}(sm:m8 H H'){p:ag}{o:HO}(h:H p=none):m8 H (upd H' p o):=λ b u e=>by
 rw[m5 (nH e h)];exact sm b u e
end L2
namespace oj
def bump(d:List Nat)(c:Nat):List Nat:=d.set c (d.getD c 0+1)
def wF(d l:List Nat):List Nat:=l.foldl bump d
theorem pY(d:List Nat)(c:Nat):(bump d c).length=d.length:=by unfold bump;rw[fK]
theorem ES:∀(l d:List Nat),(wF d l).length=d.length
 |[],_=>rfl
 |c::l,d=>by show(wF (bump d c) l).length=_;rw[ES l,pY]
def uE:List Nat->List Nat->Prop
 |_,[]=>True
 |d,c::l=>c<d.length/\d.getD c 0<20/\uE (bump d c) l
def qd(f:ae):List Nat->List Nat->List Nat
 |_,[]=>[]
 |d,c::l=>c8 f c (d.getD c 0)::qd f (bump d c) l
theorem xN(f:ae):∀(l d:List Nat),(qd f d l).length=l.length
 |[],_=>rfl
 |c::l,d=>by show(qd f (bump d c) l).length+1=_;rw[xN f l];rfl
theorem getD_at{d:List Nat}{c:Nat}(h:c<d.length):d[c]? =some (d.getD c 0):=by
 rw[aB,af h];rfl
theorem yy{α:Type}{l:List α}{i:Nat}{c:α}(h:l[i]? =some c):l.drop i=c::l.drop (i+1):=by
 obtain⟨hi,e⟩:=List.getElem?_eq_some_iff.mp h
 rw[d9 hi,e]
theorem G4{f:ae}{H:Hp}{as:List ag}{c n:Nat}(hT:TabsAt H as (n_ f))(hc:c<f.cells.length)(hn:n<20):
  ∃b t,(as.map V.ref)[c]? =some (V.ref b)/\H b=some (.lst (nY t))/\t[n]? =some (cY f c n)/\t[n+1]? =some (cY f c (n+1))/\((cY f c n:Nat):Int)-((cY f c (n+1):Nat):Int)=((c8 f c n:Nat):Int):=by
 have ec:f.cells[c]? =some f.cells[c]:=af hc
 have q2:(n_ f)[c]? =some (rH f.cells[c].weight f.cells[c].finds f.parts):=by
  unfold n_
  rw[ak,ec];rfl
 have q3:as[c]? =some (as[c]'(by rw[hT.1,pP];exact hc)):=af _
 refine⟨_,_,by rw[ak,q3];rfl,hT.2 c _ _ q3 q2,?_,?_,?_⟩
 ·rw[wB ec];exact vC (by omega)
 ·rw[wB ec];exact vC (by omega)
 ·have le:cY f c (n+1)<=cY f c n:=A4 (by omega) hc
  unfold c8;rw[Int.ofNat_sub le]
def Ir:Sp:=λ vs H Q _=>∃(a:ag) (t:List Nat) (n x y:Nat),vs=[.ref a,.int (n:Nat)]/\H a=some (.lst (nY t))/\t[n]? =some x/\t[n+1]? =some y/\Q (.int ((x:Int)-(y:Int))) H
abbrev Vh:List Str:=["table","efforts"]
theorem Iu:m_ Vh ["table","efforts"] (m6 Et):=qi
theorem Rc(F:pJ K "next_adds" "next_adds" Et f fd):nU P w K mg base oH 1 f fd ["table","efforts"] Ir:=by
 refine F.ok Iu (λ vs H Q E h=>?_) (λ oX A outer s H vs Q E hr h=>?_)
 ·obtain⟨a,t,n,x,y,rfl,_⟩:=h
  rfl
 ·obtain⟨a,t,n,x,y,rfl,h1,h2,h3,k⟩:=h
  have nd:=Iu.nd
  refine⟨_,(m7 (nq (om sI (pd oh (pv 0) (pv 1) (λ _ _=>rfl)) (pd oh (pv 0) (om qW (pv 1) nP) (λ _ _=>rfl))))),?_⟩
  exact⟨_,rfl,_,rfl,a,_,_,_,rfl,rfl,nF.of h1,ou (oV h2),_,rfl,_,rfl,_,_,rfl,rfl,a,_,_,_,rfl,rfl,nF.of h1,ou (oV h3),_,_,rfl,rfl,k⟩
def FE:Sp:=λ vs H Q _=>∃(a b o:ag) (as:List ag) (f:ae) (d l:List Nat),vs=[.ref a,.ref b,.ref o]/\H a=some (.lst (as.map V.ref))/\TabsAt H as (n_ f)/\H b=some (.lst (nY d))/\H o=some (.lst (nY l))/\d.length=f.cells.length/\l.length<=1000/\uE d l/\GI H Q (nY (qd f d l))
abbrev Rf:List Str:=["tables","had","order","now","adds","cell"]
theorem FF:m_ Rf ["tables","had","order"] (m6 BN):=qi
abbrev Hz7(P:aJ)(w:aY)(K:ah)(mg:Str->Option ao)(base:bw):Prop:=rC P w K mg base oH 1 "next_adds" ["table","efforts"] Ir
theorem Ox(F:pJ K "order_adds" "order_adds" BN f fd)(ET:mg "list"=none)(pK:Hz7 P w K mg base):nU P w K mg base oH 2 f fd ["tables","had","order"] FE:=by
 refine F.ok FF (λ vs H Q E h=>?_) (λ oX A outer s H vs Q E hr h=>?_)
 ·obtain⟨a,b,o,as,f,d,l,rfl,_⟩:=h
  rfl
 ·obtain⟨a,b,o,as,f,d,l,rfl,ha,hT,hb,ho,hd,hl,oY,k⟩:=h
  have nd:=FF.nd
  refine⟨_,(mY (m9 (i:=3) nd rfl (Or.inl rfl) (sx xT rfl ET kD (mX (pv 1) mZ)))
   (mY (m9 (i:=4) nd rfl (Or.inl rfl) (nQ mZ))
   (mY (qC PassesOwn.never rfl (oO (pv 2)) (nB (i:=5) nd rfl (Or.inl rfl)) (mY (og (qU aH bc a_ pG (pv 4) (mX (nA (E:=E0) pK hr (by decide) nv (mX (pd oh (pv 0) (pv 5) (λ _ _=>rfl)) (mX (pd oh (pv 3) (pv 5) (λ _ _=>rfl)) mZ))) mZ)))
   (m7 (AR (pv 3) (pv 5) xK nP zH set_list))))
   (m7 (nq (pv 4)))))),?_⟩
  refine⟨_,rfl,b,_,rfl,.inl (nF.of hb),λ nw Zg=>?_⟩
  refine⟨aE _,λ ad had=>?_⟩
  have s1:m8 H (upd H nw (.lst (nY d))):=m8.new Zg
  have acp:nw≠ad:=λ q=>by rw[<-q,m4]at had;cases had
  have acq:H ad=none:=by
   cases q:H ad with
   |none=>rfl
   |some z=>rw[s1 _ _ q]at had;cases had
  have s2:m8 H (upd (upd H nw (.lst (nY d))) ad (.lst [])):=s1.put acq
  refine⟨_,rfl,o,rfl,⟨_,nF.of (s2 _ _ ho)⟩,rj (K:=K) (a:=o) (xs:=nY l) (λ i σ H'=>∃(v5:Option V) (D A:List Nat),σ=[some (.ref a),some (.ref b),some (.ref o),some (.ref nw),some (.ref ad),v5]/\m8 H H'/\H' nw=some (.lst (nY D))/\H' ad=some (.lst (nY A))/\qd f d l=A++qd f D (l.drop i)/\uE D (l.drop i)/\D.length=d.length/\A.length=i)
   ⟨none,d,[],rfl,s2,by rw[m5 acp,m4],m4,rfl,oY,rfl,rfl⟩ (λ i σ H' _ ⟨_,_,_,_,sm,_⟩=>nF.of (sm _ _ ho)) ?_ ?_⟩
  ·rintro i x σ H' hx ⟨v5,D,A,rfl,sm,hD,hA,eq,ok,Oy,hAl⟩
   obtain⟨c,q,rfl⟩:=ow hx
   have hi:i<l.length:=(List.getElem?_eq_some_iff.mp q).1
   rw[yy q]at eq ok
   obtain⟨o1,o2,o3⟩:=ok
   obtain⟨tb,t,t1,t2,t3,t4,t5⟩:=G4 (hT.same sm) (show c<f.cells.length by omega) o2
   have gd:=getD_at o1
   refine⟨_,rfl,.inl ⟨rfl,_,nF.of hA⟩,_,rfl,_,rfl,a,_,_,_,rfl,rfl,nF.of (sm _ _ ha),ou t1,_,rfl,_,rfl,nw,_,_,_,rfl,rfl,nF.of hD,ou (oV gd),tb,t,_,_,_,rfl,t2,t3,t4,ad,_,_,rfl,rfl,hA,(by rw[nj,aA];omega),?_⟩
   rw[t5]
   have hD1:(upd H' ad (.lst (nY A++[V.int (c8 f c (D.getD c 0):Nat)]))) nw=some (.lst (nY D)):=by rw[m5 acp];exact hD
   refine⟨_,rfl,_,rfl,nw,_,c,_,rfl,rfl,nF.of hD1,oV gd,_,_,rfl,rfl,nw,_,_,c,rfl,rfl,hD1,yq (by rw[nj];exact o1),?_⟩
   refine⟨_,bump D c,A++[c8 f c (D.getD c 0)],rfl,(sm.put acq).put Zg,?_,?_,?_,o3,by rw[pY,Oy],by rw[aw,hAl];rfl⟩
   ·rw[m4];unfold nY bump;rw[fT];rfl
   ·rw[m5 (Ne.symm acp),m4];unfold nY;rw[aF];rfl
   ·rw[eq,bB];rfl
  ·rintro σ H' ⟨v5,D,A,rfl,sm,hD,hA,eq,ok,Oy,hAl⟩
   rw[nj,fv]at eq
   have e:qd f d l=A:=by rw[eq];exact bD _
   rw[e]at k
   exact⟨_,rfl,k H' ad sm acq hA⟩
def Mq:Sp:=λ vs H Q _=>∃(o:ag) (zs:List Int) (n:Nat),vs=[.ref o,.int (n:Nat)]/\H o=some (.lst (iL zs))/\n<=16/\GI H Q (nY ((az n).map λ(c:Nat)=>zs.count (c:Int)))
abbrev XZ:List Str:=["order","many_cells","cell"]
theorem Tx:m_ XZ ["order","many_cells"] (m6 LZ):=qi
theorem aam(F:pJ K "row_of" "row_of" LZ f fd)(qP:mg "range"=none):nU P w K mg base oH 1 f fd ["order","many_cells"] Mq:=by
 refine F.ok Tx (λ vs H Q E h=>?_) (λ oX A outer s H vs Q E hr h=>?_)
 ·obtain⟨o,zs,n,rfl,_⟩:=h
  rfl
 ·obtain⟨o,zs,n,rfl,ho,hn,k⟩:=h
  have nd:=Tx.nd
  refine⟨_,(m7 (nq (qw (own:=[("cell",2)]) rfl nd (xy rfl qP (mX (pv 1) mZ)) (by exact pD.of (N:=XZ) (sc:=m6 LZ) (by decide +kernel)) (λ _ _ _ _ _=>by exact(nB (i:=2) nd rfl (Or.inl rfl))) (λ _ _ _ _ _=>by exact oS) (λ _ _ _ _ _=>by exact(Vf K (pv 0) (mX (pv 2) mZ)))))),?_⟩
  refine⟨_,rfl,(n:Int),rfl,by omega,by omega,?_⟩
  refine oZ (tO 0 _) (nY ((az n).map λ(c:Nat)=>zs.count (c:Int))) (by rw[nj,aa,aR];rfl) (by rw[aA];show n<=_;omega) (λ j x y H3 R3 N3 hy pH hF kk=>?_) (λ D H3 hD pH uD=>k H3 D pH hD uD)
  obtain⟨c,q,rfl⟩:=ow hy
  have hj:j<n:=by
   have:=(List.getElem?_eq_some_iff.mp q).1
   simpa using this
  rw[ak,bf hj]at q
  have q:zs.count (j:Int)=c:=Option.some.inj q
  subst q
  have e:(0:Int)+(j:Int)=(j:Int):=Int.zero_add _
  rw[e]at hF
  subst hF
  exact⟨rfl,sE ⟨_,rfl,.inl ⟨rfl,_,nF.of (pH _ _ ho)⟩,_,rfl,o,zs,_,rfl,rfl,nF.of (pH _ _ ho),kk H3 (m8.refl _)⟩⟩
def acr(o:Option Nat):V:=match o with |none=>.qB|some c=>.int (c:Nat)
def Mr(f:ae)(d:List Nat)(c:Nat):Option Nat×Nat:=(if d.getD c 0<20 then some (c8 f c (d.getD c 0))else none,c)
def bestOf(f:ae)(d cs:List Nat):Option Nat:=(tF (cs.map (Mr f d))).map λ y=>y.1
theorem FG(f:ae)(d:List Nat):(fm f d).zipIdx=(az d.length).map (Mr f d):=by
 apply bO
 intro i
 rw[bQ,ak]
 by_cases hi:i<d.length
 ·rw[bf hi,H_ (getD_at hi)]
  show some (_,0+i)=some (_,i)
  rw[cW]
 ·rw[aI (by rw[EM];omega),aI (by rw[aR];omega)]
  rfl
theorem X0(f:ae)(d:List Nat):bestOf f d (az d.length)=fW (fm f d):=by
 unfold bestOf
 rw[wD,FG]
def gV(o:Option (Nat×Nat)):V:=acr (o.map λ y=>y.1)
def Cq:Sp:=λ vs H Q _=>∃(a b e:ag) (as:List ag) (f:ae) (d cs:List Nat),vs=[.ref a,.ref b,.ref e]/\H a=some (.lst (as.map V.ref))/\TabsAt H as (n_ f)/\H b=some (.lst (nY d))/\H e=some (.lst (nY cs))/\d.length=f.cells.length/\(∀c∈cs,c<d.length)/\Q (acr (bestOf f d cs)) H
abbrev Vi:List Str:=["tables","had","cells","best","most","cell","adds"]
theorem Iv:m_ Vi ["tables","had","cells"] (m6 Eu):=qi
theorem Rg(F:pJ K "best_cell" "best_cell" Eu f fd)(nE:oG mg "MOST_EFFORTS" 20)(pK:Hz7 P w K mg base):nU P w K mg base oH 2 f fd ["tables","had","cells"] Cq:=by
 refine F.ok Iv (λ vs H Q E h=>?_) (λ oX A outer s H vs Q E hr h=>?_)
 ·obtain⟨a,b,e,as,f,d,cs,rfl,_⟩:=h
  rfl
 ·obtain⟨a,b,e,as,f,d,cs,rfl,ha,hT,hb,he,hd,Mi,k⟩:=h
  have nd:=Iv.nd
  refine⟨_,(mY (m9 (i:=3) nd rfl (Or.inl rfl) zF)
   (mY (m9 (i:=4) nd rfl (Or.inl rfl) (Sz LD nP))
   (mY (qC PassesOwn.never rfl (oO (pv 2)) (nB (i:=5) nd rfl (Or.inl rfl)) (m7 (pk (ot Hc (pd oh (pv 1) (pv 5) (λ _ _=>rfl)) (nV nE) (oM _)) (mY (m9 (i:=6) nd rfl (Or.inl rfl) (nA (E:=E0) pK hr (by decide) nv (mX (pd oh (pv 0) (pv 5) (λ _ _=>rfl)) (mX (pd oh (pv 1) (pv 5) (λ _ _=>rfl)) mZ))))
   (m7 (pk (ot Bk (pv 6) (pv 4) (oM _)) (mY (m9 (i:=3) nd rfl (Or.inl rfl) (pv 5))
   (m7 (m9 (i:=4) nd rfl (Or.inl rfl) (pv 6)))) n9))) n9)))
   (m7 (nq (pv 3)))))),?_⟩
  refine⟨_,rfl,_,rfl,e,rfl,⟨_,nF.of he⟩,rj (K:=K) (a:=e) (xs:=nY cs) (λ i σ H'=>∃(o5 o6:Option V),σ=[some (.ref a),some (.ref b),some (.ref e),some (gV (tF ((cs.take i).map (Mr f d)))),some (.int (gM (tF ((cs.take i).map (Mr f d))))),o5,o6]/\H'=H)
   ⟨none,none,rfl,rfl⟩ (λ i σ H' _ ⟨_,_,_,e⟩=>by rw[e];exact nF.of he) ?_ ?_⟩
  ·rintro i x σ H' hx ⟨o5,o6,rfl,rfl⟩
   obtain⟨c,q,rfl⟩:=ow hx
   have hc:c<d.length:=Mi c (aC q)
   have gd:=getD_at hc
   have gs:tF ((cs.take (i+1)).map (Mr f d))=FC (tF ((cs.take i).map (Mr f d))) (Mr f d c):=by
    rw[bZ,q,aF];exact QT _ _
   refine⟨_,rfl,_,rfl,b,_,_,_,rfl,rfl,nF.of hb,ou (oV gd),_,_,rfl,rfl,_,rfl,qa (λ hq=>?_) λ hq=>?_⟩
   ·have hq:((d.getD c 0:Nat):Int)<20:=of_decide_eq_true hq
    have hn:d.getD c 0<20:=by omega
    have go:Mr f d c=(some (c8 f c (d.getD c 0)),c):=by unfold Mr;rw[if_pos hn]
    rw[go,yp]at gs
    obtain⟨tb,t,t1,t2,t3,t4,t5⟩:=G4 hT (show c<f.cells.length by omega) hn
    refine⟨_,rfl,_,rfl,a,_,_,_,rfl,rfl,nF.of ha,ou t1,_,rfl,_,rfl,b,_,_,_,rfl,rfl,nF.of hb,ou (oV gd),tb,t,_,_,_,rfl,t2,t3,t4,?_⟩
    rw[t5]
    refine⟨_,rfl,_,rfl,_,_,rfl,rfl,_,rfl,qa (λ hg=>?_) λ hg=>?_⟩
    ·have hg:=of_decide_eq_true hg
     rw[if_pos hg]at gs
     rw[gs]
     exact⟨_,rfl,_,rfl,_,_,rfl,rfl⟩
    ·have hg:=λ q=>hg (decide_eq_true q)
     rw[if_neg hg]at gs
     rw[gs]
     exact⟨_,_,rfl,rfl⟩
   ·have hq:¬ ((d.getD c 0:Nat):Int)<20:=λ q=>hq (decide_eq_true q)
    have go:Mr f d c=(none,c):=by unfold Mr;rw[if_neg (by omega)]
    rw[go,yo]at gs
    rw[gs]
    exact⟨_,_,rfl,rfl⟩
  ·rintro σ H' ⟨o5,o6,rfl,rfl⟩
   rw[nj,dj]
   exact⟨_,rfl,k⟩
theorem DA{d:List Nat}{c n:Nat}(wk:∀n∈d,n<=20)(hc:d.getD c 0<20)(h:n∈bump d c):n<=20:=by
 unfold bump at h
 rcases gm h with q|q
 ·exact wk n q
 ·omega
theorem Iw{d:List Nat}{c:Nat}(hc:c<d.length):aZ (bump d c)=aZ d+1:=by
 have:=EN d c _ (d.getD c 0+1) (getD_at hc)
 unfold bump;omega
theorem A6{d:List Nat}{c:Nat}(hc:c<d.length)(i:Nat):(bump d c).getD i 0=if i=c then d.getD c 0+1 else d.getD i 0:=by
 unfold bump
 rw[aB,dY]
 by_cases e:c=i
 ·subst e;rw[if_pos rfl,if_pos hc,if_pos rfl];rfl
 ·rw[if_neg e,if_neg (Ne.symm e),aB]
theorem X1{f:ae}{d:List Nat}{c m:Nat}(hc:c<d.length):left f (d.set c m)+cY f c (d.getD c 0)=left f d+cY f c m:=by
 have e:(d.set c m).zipIdx.map (λ x=>cY f x.2 x.1)=(d.zipIdx.map λ x=>cY f x.2 x.1).set c (cY f c m):=by
  apply bO
  intro i
  rw[ak,bQ,dY,dY,ak,bQ,aa,dP]
  by_cases e:c=i
  ·subst e;rw[if_pos rfl,if_pos rfl,if_pos hc,if_pos hc];simp
  ·rw[if_neg e,if_neg e]
 unfold lM
 rw[e]
 refine EN _ c _ _ ?_
 rw[ak,bQ,getD_at hc];simp
theorem EU{f:ae}{d:List Nat}{c:Nat}(hc:c<d.length)(hd:d.length=f.cells.length)(hn:d.getD c 0<20):left f (bump d c)+c8 f c (d.getD c 0)=left f d:=by
 have h:=X1 (f:=f) (m:=d.getD c 0+1) hc
 have le:cY f c (d.getD c 0+1)<=cY f c (d.getD c 0):=A4 (by omega) (by omega)
 unfold bump c8
 omega
theorem tP{f:ae}:∀(l d:List Nat),d.length=f.cells.length->uE d l->left f (wF d l)+aZ (qd f d l)=left f d
 |[],d,_,_=>by show left f d+0=_;omega
 |c::l,d,hd,⟨h1,h2,h3⟩=>by
  have h:=EU (f:=f) h1 hd h2
  have ih:=tP (f:=f) l (bump d c) (by rw[pY,hd]) h3
  show left f (wF (bump d c) l)+aZ (c8 f c (d.getD c 0)::qd f (bump d c) l)=_
  rw[oy];omega
theorem yz:∀(l d:List Nat) (j:Nat),uE d l->uE d (l.take j)
 |[],d,j,_=>by rw[iD];trivial
 |c::l,d,0,_=>trivial
 |c::l,d,j+1,⟨h1,h2,h3⟩=>⟨h1,h2,yz l _ j h3⟩
theorem yA(f:ae):∀(l d:List Nat) (j:Nat),(qd f d l).take j=qd f d (l.take j)
 |[],d,j=>by rw[iD];show List.take j []=[];exact iD
 |c::l,d,0=>rfl
 |c::l,d,j+1=>by
  show c8 f c (d.getD c 0)::(qd f (bump d c) l).take j=c8 f c (d.getD c 0)::qd f (bump d c) (l.take j)
  rw[yA f l]
theorem A7:∀(l d:List Nat),uE d l->∀c∈l,c<d.length
 |[],d,_,c,h=>by cases h
 |x::l,d,⟨h1,h2,h3⟩,c,h=>by
  rcases List.mem_cons.mp h with q|q
  ·rw[q];exact h1
  ·have:=A7 l _ h3 c q
   rw[pY]at this;exact this
theorem Oz:∀(l d:List Nat),(∀n∈d,n<=20)->uE d l->∀n∈wF d l,n<=20
 |[],d,h,_=>h
 |c::l,d,h,⟨h1,h2,h3⟩=>Oz l (bump d c) (λ n hn=>DA h h2 hn) h3
theorem Iy:∀(l d:List Nat) (i:Nat),(∀c∈l,c<d.length)->(wF d l).getD i 0=d.getD i 0+l.count i
 |[],d,i,_=>by show d.getD i 0=_;simp
 |c::l,d,i,h=>by
  have hc:c<d.length:=h c (by simp)
  show(wF (bump d c) l).getD i 0=_
  rw[Iy l (bump d c) i (λ x hx=>by rw[pY];exact h x (by simp[hx])),A6 hc,eM]
  by_cases e:i=c
  ·subst e;simp;omega
  ·rw[if_neg e]
   have:(c == i)=false:=by rw[beq_eq_false_iff_ne];exact Ne.symm e
   rw[this];simp
theorem Iz(l d:List Nat)(h:∀c∈l,c<d.length):wF d l=bC d ((az d.length).map λ c=>l.count c):=by
 apply bO
 intro i
 unfold bC
 rw[aP,ak]
 by_cases hi:i<d.length
 ·rw[getD_at (d:=wF d l) (by rw[ES];exact hi),Iy l d i h,getD_at hi,bf hi];rfl
 ·rw[aI (show d.length<=i by omega),aI (show(wF d l).length<=i by rw[ES];omega)]
theorem IA(l d:List Nat)(h:∀c∈l,c<d.length):eN (wF d l) d=(az d.length).map λ c=>l.count c:=by
 rw[Iz l d h];exact EO _ _ (by simp)
theorem IC(l d:List Nat)(h:∀c∈l,c<d.length):bC d (eN (wF d l) d)=wF d l:=by
 rw[IA l d h,Iz l d h]
def oQ(f:ae):Nat->List Nat->List Nat
 |0,_=>[]
 |k+1,d=>match fW (fm f d)with
  |some c=>c::oQ f k (bump d c)
  |none=>[]
theorem tQ{f:ae}:∀(k:Nat) (d:List Nat),(∀n∈d,n<=20)->aZ d+k<=20*d.length->(oQ f k d).length=k/\uE d (oQ f k d)/\∀j≤k,wF d ((oQ f k d).take j)=jS f j d
 |0,d,_,_=>⟨rfl,trivial,λ j hj=>by
   have e:j=0:=by omega
   subst e;rfl⟩
 |k+1,d,wk,ht=>by
  obtain⟨c,n,g1,g2,g3⟩:=Bp (f:=f) wk (by omega)
  have hc:c<d.length:=(List.getElem?_eq_some_iff.mp g2).1
  have gd:d.getD c 0=n:=by rw[aB,g2];rfl
  have e:oQ f (k+1) d=c::oQ f k (bump d c):=by
   show(match fW (fm f d)with |some c=>c::oQ f k (bump d c)|none=>[])=_
   rw[g1]
  obtain⟨h1,h2,h3⟩:=tQ (f:=f) k (bump d c) (λ m hm=>DA wk (by omega) hm) (by rw[Iw hc,pY];omega)
  rw[e]
  refine⟨by rw[aD,h1],⟨hc,by omega,h2⟩,λ j hj=>?_⟩
  cases j with
  |zero=>rfl
  |succ j=>
   rw[U8 g1]
   exact h3 j (by omega)
theorem KW{f:ae}{d:List Nat}{k j:Nat}(hd:d.length=f.cells.length)(wk:∀n∈d,n<=20)(ht:aZ d+k<=20*d.length)(hj:j<=k):
  dQ f d (eN (jS f j d) d)=mJ (aZ ((qd f d (oQ f k d)).take j)) (left f d):=by
 obtain⟨h1,h2,h3⟩:=tQ (f:=f) k d wk ht
 have h4:=h3 j hj
 have ok:=yz _ _ j h2
 have lb:=tP (f:=f) _ d hd ok
 unfold dQ
 rw[<-h4,IC _ _ (A7 _ _ ok),yA]
 congr 1;omega
theorem KY{f:ae}{d:List Nat}{k j:Nat}(hd:d.length=f.cells.length)(wk:∀n∈d,n<=20)(ht:aZ d+k<=20*d.length)(hj:j<k):
  gg f d j=mJ ((qd f d (oQ f k d)).getD j 0) (left f d)/\(qd f d (oQ f k d))[j]? =some ((qd f d (oQ f k d)).getD j 0):=by
 obtain⟨h1,h2,h3⟩:=tQ (f:=f) k d wk ht
 have ga:(qd f d (oQ f k d))[j]? =some ((qd f d (oQ f k d)).getD j 0):=getD_at (by rw[xN,h1];exact hj)
 refine⟨?_,ga⟩
 have a1:=tP (f:=f) _ d hd (yz _ _ j h2)
 have a2:=tP (f:=f) _ d hd (yz _ _ (j+1) h2)
 rw[h3 j (by omega),<-yA]at a1
 rw[h3 (j+1) (by omega),<-yA,bZ,ga,j7,Ci]at a2
 unfold gg
 congr 1;omega
theorem ID:∀(l:List Nat) (j:Nat),l.getD j 0<=aZ l
 |[],j=>by simp
 |a::l,0=>by rw[oy];show a<=_;omega
 |a::l,j+1=>by rw[oy];have:=ID l j;show l.getD j 0<=_;omega
theorem none_of{H H':Hp}{p:ag}(sm:m8 H H')(h:H' p=none):H p=none:=by
 cases q:H p with
 |none=>rfl
 |some z=>rw[sm _ _ q]at h;cases h
theorem Tz{x y z:Int}{H:Hp}{Q:VK}(e:x+y=z)(k:Q (.int z) H):ipI (λ i j=>i+j) (.int x) (.int y) H Q:=⟨x,y,rfl,rfl,by show Q (.int (x+y)) H;rw[e];exact k⟩
theorem Ms{x y z:Int}{H:Hp}{Q:VK}(e:x-y=z)(k:Q (.int z) H):ipI (λ i j=>i-j) (.int x) (.int y) H Q:=⟨x,y,rfl,rfl,by show Q (.int (x-y)) H;rw[e];exact k⟩
def FH:Sp:=λ vs H Q _=>∃(a b:ag) (as:List ag) (f:ae) (d:List Nat) (k:Nat),vs=[.ref a,.ref b,.int (k:Nat)]/\FW f/\H a=some (.lst (as.map V.ref))/\TabsAt H as (n_ f)/\H b=some (.lst (nY d))/\d.length=f.cells.length/\(∀n∈d,n<=20)/\aZ d+k<=20*d.length/\GI H Q (nY (oQ f k d))
abbrev Rh:List Str:=["tables","had","many","cells","now","dealt","cell"]
theorem FJ:m_ Rh ["tables","had","many"] (m6 BO):=qi
theorem OA(F:pJ K "best_cells" "best_cells" BO f fd)(ET:mg "list"=none)(qP:mg "range"=none)(pf:mg "len"=none)(rA:rC P w K mg base oH 2 "best_cell" ["tables","had","cells"] Cq):nU P w K mg base oH 3 f fd ["tables","had","many"] FH:=by
 refine F.ok FJ (λ vs H Q E h=>?_) (λ oX A outer s H vs Q E hr h=>?_)
 ·obtain⟨a,b,as,f,d,many,rfl,_⟩:=h
  rfl
 ·obtain⟨a,b,as,f,d,many,rfl,W,ha,hT,hb,hd,tE,room,k⟩:=h
  have nd:=FJ.nd
  refine⟨_,(mY (m9 (i:=3) nd rfl (Or.inl rfl) (XU rfl rfl ET rfl qP (mX (nN nO rfl pf aX (mX (pv 1) mZ)) mZ)))
   (mY (m9 (i:=4) nd rfl (Or.inl rfl) (sx xT rfl ET kD (mX (pv 1) mZ)))
   (mY (m9 (i:=5) nd rfl (Or.inl rfl) (nQ mZ))
   (mY (rN PassesOwn.never (ot Hc (nN nO rfl pf aX (mX (pv 5) mZ)) (pv 2) (oM _)) (mY (m9 (i:=6) nd rfl (Or.inl rfl) (nA (E:=E0) rA hr (by decide) nv (mX (pv 0) (mX (pv 4) (mX (pv 3) mZ)))))
   (mY (og (qU aH bc a_ pG (pv 5) (mX (pv 6) mZ)))
   (m7 (AR (pv 4) (pv 6) xK nP zH set_list)))))
   (m7 (nq (pv 5))))))),?_⟩
  have wC:=W.len
  refine⟨_,rfl,b,_,rfl,.inl (nF.of hb),d.length,by rw[nj],by omega,λ cl Ee=>?_⟩
  have s1:m8 H (upd H cl (.lst (nY (az d.length)))):=m8.new Ee
  refine⟨_,rfl,b,_,rfl,.inl (nF.of (s1 _ _ hb)),λ nw Zg=>?_⟩
  have X2:=none_of s1 Zg
  have ncn:cl≠nw:=λ q=>by rw[<-q]at Zg;exact absurd (Zg.symm.trans m4) (by intro z;cases z)
  refine⟨aE _,λ dl hdl=>?_⟩
  have s2:m8 H (upd (upd H cl (.lst (nY (az d.length)))) nw (.lst (nY d))):=s1.put X2
  have acs:=none_of s2 hdl
  have ndn:dl≠nw:=λ q=>by rw[q]at hdl;exact absurd (hdl.symm.trans m4) (by intro z;cases z)
  have ndc:dl≠cl:=λ q=>by rw[q]at hdl;exact absurd (hdl.symm.trans ((m5 ncn).trans m4)) (by intro z;cases z)
  refine⟨λ m σ H'=>∃(v6:Option V) (D A:List Nat),σ=[some (.ref a),some (.ref b),some (.int (many:Nat)),some (.ref cl),some (.ref nw),some (.ref dl),v6]/\m8 H H'/\H' cl=some (.lst (nY (az d.length)))/\H' nw=some (.lst (nY D))/\H' dl=some (.lst (nY A))/\D.length=d.length/\(∀n∈D,n<=20)/\aZ D=aZ d+A.length/\A.length<=many/\m=many-A.length/\oQ f many d=A++oQ f (many-A.length) D,
   ⟨many,none,d,[],rfl,s2.put acs,?_,?_,m4,rfl,tE,rfl,aE _,rfl,rfl⟩,?_⟩
  ·rw[m5 (Ne.symm ndc),m5 ncn,m4]
  ·rw[m5 (Ne.symm ndn),m4]
  rintro m σ H' ⟨v6,D,A,rfl,sm,hC,hD,hA,Oy,D20,tD,hAm,rfl,heq⟩
  refine⟨_,rfl,dl,_,rfl,.inl (nF.of hA),_,rfl,_,_,rfl,rfl,_,rfl,?_⟩
  rw[nj]
  refine qa (λ hc=>?_) λ hc=>?_
  ·have hc:((A.length:Nat):Int)<(many:Int):=of_decide_eq_true hc
   obtain⟨c,n,g1,g2,g3⟩:=Bp (f:=f) D20 (by rw[tD,Oy];omega)
   have hcD:c<D.length:=(List.getElem?_eq_some_iff.mp g2).1
   have gd:D.getD c 0=n:=by rw[aB,g2];rfl
   have e:oQ f (many-A.length) D=c::oQ f (many-(A.length+1)) (bump D c):=by
    rw[show many-A.length=(many-(A.length+1))+1 by omega]
    show(match fW (fm f D)with |some c=>c::oQ f _ (bump D c)|none=>[])=_
    rw[g1]
   refine⟨_,λ _ _ z=>z,_,rfl,_,rfl,_,rfl,a,nw,cl,as,f,D,az d.length,rfl,sm _ _ ha,hT.same sm,hD,hC,by rw[Oy,hd],λ x hx=>by rw[Oy];exact List.mem_range.mp hx,?_⟩
   have eb:bestOf f D (az d.length)=some c:=by rw[<-Oy,X0,g1]
   rw[eb]
   refine⟨_,rfl,.inl ⟨rfl,_,nF.of hA⟩,_,rfl,dl,_,_,rfl,rfl,hA,(by rw[nj,aA];have:=hd;omega),?_⟩
   have hD1:(upd H' dl (.lst (nY A++[V.int (c:Nat)]))) nw=some (.lst (nY D)):=by rw[m5 (Ne.symm ndn)];exact hD
   refine⟨_,rfl,_,rfl,nw,_,c,_,rfl,rfl,nF.of hD1,oV g2,_,_,rfl,rfl,nw,_,_,c,rfl,rfl,hD1,yq (by rw[nj];exact hcD),?_⟩
   refine⟨many-(A.length+1),by omega,_,bump D c,A++[c],rfl,(sm.put acs).put X2,?_,?_,?_,by rw[pY,Oy],λ m hm=>DA D20 (by omega) hm,?_,?_,?_,?_⟩
   ·rw[m5 ncn,m5 (Ne.symm ndc)];exact hC
   ·rw[m4];unfold nY bump;rw[fT,gd];rfl
   ·rw[m5 ndn,m4];unfold nY;rw[aF];rfl
   ·rw[Iw hcD,aw,tD];rfl
   ·rw[aw];show A.length+1<=many;omega
   ·rw[aw];rfl
   ·rw[heq,e,aw,bB];rfl
  ·have hc:¬ ((A.length:Nat):Int)<(many:Int):=λ q=>hc (decide_eq_true q)
   have e:many-A.length=0:=by omega
   rw[e]at heq
   have e2:oQ f many d=A:=by rw[heq];exact bD _
   rw[e2]at k
   exact⟨_,rfl,k H' dl sm acs hA⟩
theorem Br:∀(l:List Nat) (i:Nat),aZ (l.take i)<=aZ l
 |[],i=>by rw[iD];exact ax _
 |a::l,0=>aE _
 |a::l,i+1=>by rw[List.take_succ_cons,oy,oy];have:=Br l i;omega
def A8(f:ae)(d:List Nat)(n:Nat):List Nat:=(az n).flatMap λ j=>qL (dQ f d (eN (jS f j d) d))
theorem yB(f:ae)(d:List Nat)(n:Nat):A8 f d (n+1)=A8 f d n++qL (dQ f d (eN (jS f n d) d)):=by
 unfold A8
 rw[eI,ee];simp
theorem Ag(f:ae)(d:List Nat):∀n,(A8 f d n).length=2*n
 |0=>rfl
 |n+1=>by rw[yB,aw,Ag f d n];show 2*n+2=_;omega
def FK:Sp:=λ vs H Q _=>∃(a b:ag) (as:List ag) (f:ae) (d:List Nat) (k:Nat),vs=[.ref a,.ref b,.int (k:Nat)]/\FW f/\H a=some (.lst (as.map V.ref))/\TabsAt H as (n_ f)/\H b=some (.lst (nY d))/\d.length=f.cells.length/\(∀n∈d,n<=20)/\aZ d+k<=20*d.length/\0<left f d/\GI H Q (nY (A8 f d (k+1)))
abbrev Ri:List Str:=["tables","had","many","left","so_far","curve","adds"]
theorem FL:m_ Ri ["tables","had","many"] (m6 BP):=qi
abbrev Hz8(P:aJ)(w:aY)(K:ah)(mg:Str->Option ao)(base:bw):Prop:=rC P w K mg base oH 2 "order_adds" ["tables","had","order"] FE
abbrev Hz9(P:aJ)(w:aY)(K:ah)(mg:Str->Option ao)(base:bw):Prop:=rC P w K mg base oH 3 "best_cells" ["tables","had","many"] FH
theorem OB(F:pJ K "best_curve" "best_curve" BP f fd)(o9:Hz3 P w K mg base)(oz:Hz4 P w K mg base)(p8:Hz8 P w K mg base)(pU:Hz9 P w K mg base):nU P w K mg base oH 4 f fd ["tables","had","many"] FK:=by
 refine F.ok FL (λ vs H Q E h=>?_) (λ oX A outer s H vs Q E hr h=>?_)
 ·obtain⟨a,b,as,f,d,many,rfl,_⟩:=h
  rfl
 ·obtain⟨a,b,as,f,d,many,rfl,W,ha,hT,hb,hd,tE,room,h0,k⟩:=h
  have nd:=FL.nd
  refine⟨_,(mY (m9 (i:=3) nd rfl (Or.inl rfl) (nA (E:=E0) o9 hr (by decide) nv (mX (pv 0) (mX (pv 1) mZ))))
   (mY (m9 (i:=4) nd rfl (Or.inl rfl) nP)
   (mY (m9 (i:=5) nd rfl (Or.inl rfl) (nA (E:=E0) oz hr (by decide) nv (mX (pv 4) (mX (pv 3) mZ))))
   (mY (qC PassesOwn.never rfl (oO (nA (E:=E0) p8 hr (by decide) nv (mX (pv 0) (mX (pv 1) (mX (nA (E:=E0) pU hr (by decide) nv (mX (pv 0) (mX (pv 1) (mX (pv 2) mZ)))) mZ))))) (nB (i:=6) nd rfl (Or.inl rfl)) (mY (G_ (i:=4) nd rfl (Or.inl rfl) (pv 6) zH)
   (m7 (og (qU aH cT cS vb (pv 5) (mX (nA (E:=E0) oz hr (by decide) nv (mX (pv 4) (mX (pv 3) mZ))) mZ))))))
   (m7 (nq (pv 5))))))),?_⟩
  have wC:=W.len
  have lb:=ug W hd tE
  obtain⟨q1,q2,q3⟩:=tQ (f:=f) many d tE room
  have tb:aZ (qd f d (oQ f many d))<=left f d:=by have:=tP (f:=f) _ d hd q2;omega
  have aeb:many<=320:=by omega
  refine⟨_,rfl,_,rfl,a,b,as,n_ f,d,rfl,ha,hT,hb,by rw[pP,hd],by omega,A5 tE,λ H1 s1=>?_⟩
  rw[tN hd tE]
  refine⟨_,rfl,_,rfl,0,left f d,rfl,h0,lb,by omega,λ H2 cv s2 hcv adK=>?_⟩
  have vE:=s1.trans s2
  refine⟨_,rfl,_,rfl,_,rfl,_,rfl,_,rfl,a,b,as,f,d,many,rfl,W,vE _ _ ha,hT.same vE,vE _ _ hb,hd,tE,room,λ H3 sq s3 Zh acu=>?_⟩
  have wG:=vE.trans s3
  refine⟨a,b,sq,as,f,d,_,rfl,wG _ _ ha,hT.same wG,wG _ _ hb,acu,hd,by rw[q1];omega,q2,λ H4 oa s4 hoa X3=>?_⟩
  have KZ:=wG.trans s4
  have adL:H cv=none:=none_of s1 hcv
  have ae0:=s4 _ _ (s3 _ _ adK)
  have nco:oa≠cv:=λ q=>by rw[q,s3 _ _ adK]at hoa;cases hoa
  refine⟨oa,rfl,⟨_,nF.of X3⟩,rj (K:=K) (a:=oa) (xs:=nY (qd f d (oQ f many d))) (λ i σ H'=>∃(v6:Option V),σ=[some (.ref a),some (.ref b),some (.int (many:Nat)),some (.int (left f d:Nat)),some (.int (aZ ((qd f d (oQ f many d)).take i):Nat)),some (.ref cv),v6]/\i<=many/\m8 H H'/\H' oa=some (.lst (nY (qd f d (oQ f many d))))/\H' cv=some (.lst (nY (A8 f d (i+1)))))
   ⟨none,rfl,aE _,KZ,X3,?_⟩ (λ i σ H' _ ⟨_,_,_,_,q,_⟩=>nF.of q) ?_ ?_⟩
  ·rw[ae0,yB,KW hd tE room (aE _)];rfl
  ·rintro i x σ H' hx ⟨v6,rfl,him,sm,ho,hc⟩
   obtain⟨c,q,rfl⟩:=ow hx
   have hi:i<many:=by have:=(List.getElem?_eq_some_iff.mp q).1;rw[xN,q1]at this;exact this
   have e1:((aZ ((qd f d (oQ f many d)).take i):Nat):Int)+(c:Int)=((aZ ((qd f d (oQ f many d)).take (i+1)):Nat):Int):=by
    rw[bZ,q,j7,Ci];rfl
   refine⟨_,rfl,_,rfl,Tz e1 ?_⟩
   refine⟨_,rfl,.inl ⟨rfl,_,nF.of hc⟩,_,rfl,_,rfl,_,left f d,rfl,h0,lb,bH (aT (Br _ _) tb) lb,λ H5 fr s5 JM acv=>?_⟩
   refine⟨cv,fr,_,_,rfl,rfl,s5 _ _ hc,acv,?_,?_⟩
   ·rw[nj,Ag,aA];show _+2<=_;omega
   ·refine⟨_,rfl,hi,(sm.trans s5).put adL,by rw[m5 nco];exact s5 _ _ ho,?_⟩
    rw[m4,yB f d (i+1),KW hd tE room hi]
    unfold nY;rw[aF];rfl
  ·rintro σ H' ⟨v6,rfl,him,sm,ho,hc⟩
   rw[nj,xN,q1]at hc
   exact⟨_,rfl,k H' cv sm adL hc⟩
def FN:Sp:=λ vs H Q _=>∃(a b:ag) (as:List ag) (f:ae) (d:List Nat) (k:Nat),vs=[.ref a,.ref b,.int (k:Nat)]/\FW f/\H a=some (.lst (as.map V.ref))/\TabsAt H as (n_ f)/\H b=some (.lst (nY d))/\d.length=f.cells.length/\(∀n∈d,n<=20)/\aZ d+(k+1)<=20*d.length/\1<=k/\0<left f d/\GI H Q (nY (qL (gg f d (k-1))++qL (gg f d k)))
abbrev Rj:List Str:=["tables","had","many","left","adds"]
theorem FO:m_ Rj ["tables","had","many"] (m6 BQ):=qi
theorem OC(F:pJ K "best_price" "best_price" BQ f fd)(o9:Hz3 P w K mg base)(p8:Hz8 P w K mg base)(pU:Hz9 P w K mg base)(oz:Hz4 P w K mg base):nU P w K mg base oH 4 f fd ["tables","had","many"] FN:=by
 refine F.ok FO (λ vs H Q E h=>?_) (λ oX A outer s H vs Q E hr h=>?_)
 ·obtain⟨a,b,as,f,d,many,rfl,_⟩:=h
  rfl
 ·obtain⟨a,b,as,f,d,many,rfl,W,ha,hT,hb,hd,tE,room,h1,h0,k⟩:=h
  have nd:=FO.nd
  refine⟨_,(mY (m9 (i:=3) nd rfl (Or.inl rfl) (nA (E:=E0) o9 hr (by decide) nv (mX (pv 0) (mX (pv 1) mZ))))
   (mY (m9 (i:=4) nd rfl (Or.inl rfl) (nA (E:=E0) p8 hr (by decide) nv (mX (pv 0) (mX (pv 1) (mX (nA (E:=E0) pU hr (by decide) nv (mX (pv 0) (mX (pv 1) (mX (om qW (pv 2) nP) mZ)))) mZ)))))
   (m7 (nq (om qX (nA (E:=E0) oz hr (by decide) nv (mX (pd oh (pv 4) (om sI (pv 2) nP) (λ _ _=>rfl)) (mX (pv 3) mZ))) (nA (E:=E0) oz hr (by decide) nv (mX (pd oh (pv 4) (pv 2) (λ _ _=>rfl)) (mX (pv 3) mZ)))))))),?_⟩
  have wC:=W.len
  have lb:=ug W hd tE
  obtain⟨q1,q2,q3⟩:=tQ (f:=f) (many+1) d tE room
  have tb:aZ (qd f d (oQ f (many+1) d))<=left f d:=by have:=tP (f:=f) _ d hd q2;omega
  obtain⟨a1,a2⟩:=KY (f:=f) (j:=many-1) hd tE room (by omega)
  obtain⟨b1,b2⟩:=KY (f:=f) (j:=many) hd tE room (by omega)
  have le:∀j,(qd f d (oQ f (many+1) d)).getD j 0<=aZ (qd f d (oQ f (many+1) d)):=ID _
  rw[a1,b1]at k
  refine⟨_,rfl,_,rfl,a,b,as,n_ f,d,rfl,ha,hT,hb,by rw[pP,hd],by omega,A5 tE,λ H1 s1=>?_⟩
  rw[tN hd tE]
  refine⟨_,rfl,_,rfl,_,rfl,_,rfl,_,rfl,_,_,rfl,rfl,a,b,as,f,d,many+1,rfl,W,s1 _ _ ha,hT.same s1,s1 _ _ hb,hd,tE,room,λ H3 sq s3 Zh acu=>?_⟩
  have wG:=s1.trans s3
  refine⟨a,b,sq,as,f,d,_,rfl,wG _ _ ha,hT.same wG,wG _ _ hb,acu,hd,by rw[q1];omega,q2,λ H4 oa s4 hoa X3=>?_⟩
  have KZ:=wG.trans s4
  have em:(many:Int)-1=((many-1:Nat):Int):=by omega
  refine⟨_,rfl,_,rfl,_,_,rfl,rfl,oa,_,_,_,rfl,rfl,nF.of X3,at_of em (oV a2),_,rfl,_,left f d,rfl,h0,lb,bH (aT (le _) tb) lb,λ H5 f1 s5 hf1 hf5=>?_⟩
  refine⟨_,rfl,_,rfl,oa,_,_,_,rfl,rfl,nF.of (s5 _ _ X3),ou (oV b2),_,rfl,_,left f d,rfl,h0,lb,bH (aT (le _) tb) lb,λ H6 f2 s6 hf2 hf6=>?_⟩
  have We:=KZ.trans (s5.trans s6)
  refine⟨f1,f2,_,_,rfl,rfl,s6 _ _ hf5,hf6,(by show 4<=ay;decide),λ p hp=>?_⟩
  exact k _ p (We.put (none_of We hp)) (none_of We hp) (by rw[m4];rfl)
end oj
namespace L2
def w9(x y:Int×Int):Prop:=x.1<y.1\/(x.1=y.1/\x.2<=y.2)
def X4(K:ah):List V->Hp->VK->Prop:=λ vs H Q=>∃(a:ag) (as:List ag) (key:ag->Int×Int),vs=[V.ref a]/\nF K H a (as.map V.ref)/\(∀b∈as,H b=some (.tup [.int (key b).1,.int (key b).2]))/\as.length<=1000/\
 ∀(Ef:List ag) (p:ag),Ef.Perm as->Ef.Pairwise (λ b c=>w9 (key b) (key c))->H p=none->Q (.ref p) (upd H p (.lst (Ef.map V.ref)))
def vG:ao->ag
 | .ref a=>a
 |_=>0
theorem K0:∀{as:List ag} {us:List ao},Vals (as.map V.ref) us->us=as.map Value.ref
 |[],us,h=>by cases h;rfl
 |a::as,us,h=>by
  cases h with
  |cons r t=>rw[K0 t];cases r;rfl
theorem DB:∀(as:List ag),Vals (as.map V.ref) (as.map Value.ref)
 |[]=>.nil
 |a::as=>.cons rfl (DB as)
theorem aan{a b c d:Int}(h:(listOrd itemOrd).kle [Sum.inl a,Sum.inl b] [Sum.inl c,Sum.inl d]):w9 (a,b) (c,d):=by
 have h:ju itemOrd [Sum.inl c,Sum.inl d] [Sum.inl a,Sum.inl b]=false:=h
 rw[lex_cons,lex_cons]at h
 have e1:∀x y:Int,itemOrd.blt (Sum.inl x) (Sum.inl y)=decide (x<y):=λ x y=>rfl
 rw[e1,e1,e1,e1]at h
 simp[ju]at h
 unfold w9
 show a<c\/(a=c/\b<=d)
 omega
section
variable{X:Cx}
theorem Mt{pins:List (ag×Obj)}{σ:L2.St}{H:Hp}{s:au}(I:Inv X pins σ H s){b:ag}{x y:Int}(h:H b=some (.tup [.int x,.int y])):
  G.tupKeyC s.heap (λ _=>false) (.ref b)=some [Sum.inl x,Sum.inl y]/\∃f,TupOf s.heap (λ _=>false) (.ref b) f:=by
 obtain⟨_,oo,r,p⟩:=I.oY b _ h
 cases r with
 |cons r1 r=>
  cases r with
  |cons r2 r=>
   cases r
   obtain⟨t1,rfl⟩:=r1
   obtain⟨t2,rfl⟩:=r2
   obtain⟨o,e,c,n,d⟩:=p
   refine⟨?_,_,b,o,_,n,rfl,e,c,d,rfl,λ _=>⟨_,_,rfl⟩,λ z=>by cases z⟩
   unfold G.tupKeyC
   have i:G.isTupObj s.heap (.ref b)=true:=by
    unfold G.isTupObj
    simp only[e,c];rfl
   rw[if_pos i]
   unfold tupKey
   simp only[e,d];rfl
theorem TB{h:bw}{sh:Nat->Bool}:∀{vs:List ao},(∀v∈vs,∃f,TupOf h sh v f)->∃fs,TupsOf h sh vs fs
 |[],_=>⟨[],.nil⟩
 |v::vs,g=>by
  obtain⟨f,hf⟩:=g v (by simp)
  obtain⟨fs,hfs⟩:=TB (vs:=vs) λ u hu=>g u (by simp[hu])
  exact⟨f::fs,.cons hf hfs⟩
theorem Rk:zI X (.builtin "sorted") (X4 X.K):=by
 intro pins s σ H vs us Q I r h
 obtain⟨a,as,key,rfl,hs,hk,h64,q⟩:=h
 obtain⟨oo,rv,hl,_⟩:=I.list hs
 rw[Vals.ZD r]
 have hi:=K0 rv
 have hsl:=aA
 obtain⟨fs,hfs⟩:=TB (h:=s.heap) (sh:=λ _=>false) (vs:=oo) λ v hv=>by
  rw[hi]at hv
  obtain⟨b,hb,rfl⟩:=List.mem_map.mp hv
  exact(Mt I (hk b hb)).2
 refine G.sorted_tups hl.isList hfs (λ v hv=>?_) (by rw[hi,aa];omega) λ st h1 h2 h3=>?_
 ·rw[hi]at hv
  obtain⟨b,hb,rfl⟩:=List.mem_map.mp hv
  exact⟨_,(Mt I (hk b hb)).1⟩
 have p1:(gk st).toList.Perm (oo.zip oo):=by
  have:=Array.perm_iff_toList_perm.mp h1
  rw[pairsOf_toList]at this;exact this
 have same:∀p∈(gk st).toList,p.1=p.2/\∃b∈as,p.1= .ref b:=λ p hp=>by
  obtain⟨e,m⟩:=mem_zip_self (p1.mem_iff.mp hp)
  rw[hi]at m
  obtain⟨b,hb,e2⟩:=List.mem_map.mp m
  exact⟨e.symm ▸ rfl,b,hb,e2.symm⟩
 have p2:((gk st).toList.map (·.2)).Perm oo:=by
  have:=p1.map (·.2)
  rw[show(oo.zip oo).map (·.2)=oo by rw[k8];exact ax _]at this
  exact this
 have e1:((gk st).toList.map (·.2)).map vG=(gk st).toList.map (λ p=>vG p.2):=by rw[aW];rfl
 have p3:((gk st).toList.map (λ p=>vG p.2)).Perm as:=by
  have:=p2.map vG
  rw[e1,hi,aW]at this
  have e2:as.map (vG ∘ Value.ref)=as:=by
   rw[show(vG ∘ Value.ref)=id from rfl,ie]
  rw[e2]at this;exact this
 have out:((gk st).map (·.2)).toList=((gk st).toList.map (λ p=>vG p.2)).map Value.ref:=by
  rw[Array.toList_map,aW]
  refine bP λ p hp=>?_
  obtain⟨e,b,_,e2⟩:=same p hp
  show p.2=Value.ref (vG p.2)
  rw[<-e,e2];rfl
 obtain⟨ep,he⟩:=mF s.heap oo ((gk st).map (·.2))
 have hlen:(((gk st).toList.map (λ p=>vG p.2)).map V.ref).length<=ay:=by rw[aa,p3.length_eq];omega
 refine⟨.ref _,_,I.laid (t':=s.toks) (λ _ _=>mE) (km _) (show pQ X.prog X.w _ _ _ (.lst _)from⟨hlen,((gk st).map (·.2)).toList,ep,by rw[out];exact DB _,he⟩),rfl,q _ _ p3 ?_ (I.oY.fresh (km _))⟩
 rw[List.pairwise_iff_getElem]
 intro i j hi' Ze hij
 rw[aa,Array.length_toList]at hi' Ze
 have hsz:(pairsOf oo).size=(gk st).size:=h1.size_eq.symm
 have z:=h2 i j (ff hij) (by rw[hsz];exact Ze)
 have kk:∀(m:Nat) (hm:m<(gk st).size),KK (G.tupKindC s.heap λ _=>false) (gk st) m=[Sum.inl (key (vG ((gk st)[m]).2)).1,Sum.inl (key (vG ((gk st)[m]).2)).2]:=λ m hm=>by
  obtain⟨e,b,hb,e2⟩:=same (gk st)[m] (Array.getElem_mem_toList hm)
  unfold KK
  rw[Array.getElem?_eq_getElem hm]
  show((G.tupKeyC s.heap (λ _=>false) (gk st)[m].1).getD [])=_
  rw[<-e,e2,(Mt I (hk b hb)).1];rfl
 rw[kk i hi',kk j Ze]at z
 rw[k9,k9]
 simp only[Array.getElem_toList]
 exact aan z
end
end L2
namespace oj
def uq(f:ae):Prop:=∀c∈f.cells,1<=c.time/\c.time<=20
theorem uO{f:ae}(h:uq f)(c:Nat):1<=(bz f c).time/\(bz f c).time<=20:=by
 unfold bz
 rw[aB]
 cases q:f.cells[c]? with
 |none=>exact⟨ax _,by decide⟩
 |some x=>exact h x (aC q)
theorem G5{f:ae}{c:Nat}(hc:c<f.cells.length):(f.cells.map (·.time))[c]? =some (bz f c).time:=by
 have e:f.cells[c]? =some f.cells[c]:=af hc
 unfold bz
 rw[ak,aB,e];rfl
theorem aao{f:ae}(W:FW f){d:List Nat}(hl:d.length=f.cells.length)(wk:∀n∈d,n<=20):left f d<=16*(1000000000000*100 ^ 20):=by
 refine aT (Dv (B:=1000000000000*100 ^ 20) _ λ x hx=>?_) ?_
 ·obtain⟨y,hy,rfl⟩:=List.mem_map.mp hx
  have h1:=gX hy
  exact Ml W (by omega) (wk _ (by rw[h1.2.2];exact cp _))
 ·rw[aa,dP,hl]
  exact c6 _ W.len
theorem IE{f:ae}(T:uq f):∀(l d:List Nat),d.length=f.cells.length->uE d l->jj f d l<=l.length*(20*left f d)
 |[],d,_,_=>aE _
 |c::l,d,hd,⟨h1,h2,h3⟩=>by
  have ih:=IE T l (bump d c) (by rw[pY,hd]) h3
  have lb:=EU (f:=f) h1 hd h2
  show left f d*(bz f c).time+jj f (bump d c) l<=(l.length+1)*(20*left f d)
  have t20:=(uO T c).2
  have a1:left f d*(bz f c).time<=20*left f d:=by rw[f6];exact c6 _ t20
  have a2:l.length*(20*left f (bump d c))<=l.length*(20*left f d):=dg _ (dg _ (by omega))
  rw[j3];omega
theorem OD{f:ae}(W:FW f)(T:uq f){l d:List Nat}(hd:d.length=f.cells.length)(wk:∀n∈d,n<=20)(ho:uE d l)(hl:l.length<=1000):jj f d l<Tf:=by
 have h1:=IE T l d hd ho
 have h2:=aao W hd wk
 have h3:l.length*(20*left f d)<=1000*(20*(16*(1000000000000*100 ^ 20))):=lW hl (dg _ h2)
 have h4:1000*(20*(16*(1000000000000*100 ^ 20)))<2 ^ 250:=by decide
 have h5:2 ^ 250<=Tf:=dw (by decide:0<2) (by decide:250<=8000)
 exact bH h1 (bH h3 (aU h4 h5))
def tR:Nat:=232792560
theorem common{t:Nat}(h:1<=t/\t<=20):t*(tR / t)=tR:=by
 have h0:∀t∈az 21,1<=t->t*(232792560 / t)=232792560:=by decide
 exact h0 t (List.mem_range.mpr (by omega)) h.1
def keyOf(f:ae)(x:Nat×Nat):Int×Int:=(-((x.2*(tR / (bz f x.1).time):Nat):Int),(x.1:Int))
theorem OE{a b s t:Nat}(hs:1<=s/\s<=20)(ht:1<=t/\t<=20):(a*(tR / s)<b*(tR / t)↔a*t<b*s):=by
 have cs:=common hs
 have ct:=common ht
 generalize tR / s=p at *
 generalize tR / t=q at *
 have hC:0<tR:=by decide
 generalize tR=C at *
 have LC:0<s*t:=Nat.mul_pos (by omega) (by omega)
 have e1:a*p*(s*t)=a*t*C:=by rw[<-cs];simp only[fG,f6,gy]
 have e2:b*q*(s*t)=b*s*C:=by rw[<-ct];simp only[fG,f6,gy]
 constructor
 ·intro h
  have:=jv h LC
  rw[e1,e2]at this
  exact jB this
 ·intro h
  have:=jv h hC
  rw[<-e1,<-e2]at this
  exact jB this
theorem K1{f:ae}(T:uq f)(x y:Nat×Nat):kr f x y=true↔w9 (keyOf f x) (keyOf f y):=by
 have c1:=OE (a:=y.2) (b:=x.2) (uO T y.1) (uO T x.1)
 have c2:=OE (a:=x.2) (b:=y.2) (uO T x.1) (uO T y.1)
 unfold kr w9 keyOf
 dsimp only
 rw[gY,bj,decide_eq_true_iff,decide_eq_true_iff,beq_iff_eq]
 generalize x.2*(tR / (bz f x.1).time)=p at *
 generalize y.2*(tR / (bz f y.1).time)=q at *
 generalize y.2*(bz f x.1).time=r at *
 generalize x.2*(bz f y.1).time=u at *
 omega
theorem Rl(x y:Int×Int):w9 x y\/w9 y x:=by unfold w9;omega
theorem Rm{x y z:Int×Int}(h:w9 x y)(g:w9 y z):w9 x z:=by unfold w9 at *;omega
theorem Vj{x y:Int×Int}(h:w9 x y)(g:w9 y x):x=y:=by
 unfold w9 at *
 have h1:x.1=y.1:=by omega
 have h2:x.2=y.2:=by omega
 exact Prod.ext h1 h2
theorem Cr(f:ae)(x:Nat×Nat):∀l,(putIn f x l).Perm (x::l)
 |[]=>List.Perm.refl _
 |y::l=>by
  unfold lG
  split
  ·exact List.Perm.refl _
  ·exact((Cr f x l).cons y).trans (List.Perm.swap x y l)
theorem DC{f:ae}(T:uq f)(x:Nat×Nat):∀l,l.Pairwise (λ a b=>w9 (keyOf f a) (keyOf f b))->(putIn f x l).Pairwise (λ a b=>w9 (keyOf f a) (keyOf f b))
 |[],_=>by show[x].Pairwise _;exact List.pairwise_singleton _ _
 |y::l,h=>by
  obtain⟨h1,h2⟩:=List.pairwise_cons.mp h
  unfold lG
  split
  ·rename_i hc
   have hc:=(K1 T x y).mp hc
   refine List.pairwise_cons.mpr ⟨λ z hz=>?_,h⟩
   rcases List.mem_cons.mp hz with q|q
   ·rw[q];exact hc
   ·exact Rm hc (h1 z q)
  ·rename_i hc
   have hc:w9 (keyOf f y) (keyOf f x):=by
    rcases Rl (keyOf f x) (keyOf f y)with q|q
    ·exact absurd ((K1 T x y).mpr q) hc
    ·exact q
   refine List.pairwise_cons.mpr ⟨λ z hz=>?_,DC T x l h2⟩
   rcases List.mem_cons.mp ((Cr f x l).mem_iff.mp hz)with q|q
   ·rw[q];exact hc
   ·exact h1 z q
theorem EV(f:ae):∀(l:List (Nat×Nat)),(l.foldr (putIn f) []).Perm l
 |[]=>List.Perm.refl _
 |x::l=>(Cr f x _).trans ((EV f l).cons x)
theorem FP{f:ae}(T:uq f):∀(l:List (Nat×Nat)),(l.foldr (putIn f) []).Pairwise (λ a b=>w9 (keyOf f a) (keyOf f b))
 |[]=>List.Pairwise.nil
 |x::l=>DC T x _ (FP T l)
theorem Rn{f:ae}(T:uq f){d e:List Nat}{ks:List (Int×Int)}(hp:ks.Perm ((gZ f d e).map (keyOf f)))(hs:ks.Pairwise w9):ks.map (·.2)=(dO f d e).map λ(c:Nat)=>(c:Int):=by
 have e1:ks=((gZ f d e).foldr (putIn f) []).map (keyOf f):=by
  refine List.Perm.eq_of_pairwise (le:=w9) (λ a b _ _ h g=>Vj h g) hs ?_ ?_
  ·rw[iS];exact FP T _
  ·exact hp.trans ((EV f _).map _).symm
 rw[e1]
 unfold dO
 rw[aW,aW];rfl
theorem K2{t:Nat}(h:t<=1000000000000)(j:Int):Qg (t:Int) j:=.inl ⟨by omega,by omega⟩
theorem adM{t:Nat}(h:1<=t/\t<=100)(i:Int):Tg i (t:Int):=⟨by omega,by
 have z:(100:Nat)<Tf:=by exact aU (by decide:100<2 ^ 7) (dw (by decide:0<2) (by decide:7<=8000))
 omega⟩
def IF(H:Hp)(as:List ag)(ks:List (Int×Int)):Prop:=as.length=ks.length/\∀(j:Nat) (b:ag) (k:Int×Int),as[j]? =some b->ks[j]? =some k->H b=some (.tup [.int k.1,.int k.2])
def vH:Sp:=λ vs H Q _=>∃(a b c o:ag) (as:List ag) (f:ae) (d l:List Nat),vs=[.ref a,.ref b,.ref c,.ref o]/\FW f/\uq f/\H a=some (.lst (as.map V.ref))/\TabsAt H as (n_ f)/\H b=some (.lst (nY d))/\H c=some (.lst (nY (f.cells.map (·.time))))/\H o=some (.lst (nY l))/\d.length=f.cells.length/\(∀n∈d,n<=20)/\l.length<=1000/\uE d l/\0<left f d/\GI H Q (nY (qL (iA f d l)))
abbrev J2:List Str:=["tables","had","times","order","left","not_found","sums","cell","adds"]
theorem Ah:m_ J2 ["tables","had","times","order"] (m6 wU):=qi
theorem IG(F:pJ K "expected_time" "expected_time" wU f fd)(o9:Hz3 P w K mg base)(xJ:mg "zip"=none)(p8:Hz8 P w K mg base)(oz:Hz4 P w K mg base):nU P w K mg base oH 3 f fd ["tables","had","times","order"] vH:=by
 refine F.ok Ah (λ vs H Q E h=>?_) (λ oX A outer s H vs Q E hr h=>?_)
 ·obtain⟨a,b,c,o,as,f,d,l,rfl,_⟩:=h
  rfl
 ·obtain⟨a,b,c,o,as,f,d,l,rfl,W,T,ha,hT,hb,hc,ho,hd,tE,hl,oY,h0,k⟩:=h
  have nd:=Ah.nd
  refine⟨_,(mY (m9 (i:=4) nd rfl (Or.inl rfl) (nA (E:=E0) o9 hr (by decide) nv (mX (pv 0) (mX (pv 1) mZ))))
   (mY (m9 (i:=5) nd rfl (Or.inl rfl) (pv 4))
   (mY (m9 (i:=6) nd rfl (Or.inl rfl) nP)
   (mY (qC PassesOwn.never rfl (Er rfl xJ (mX (pv 3) (mX (nA (E:=E0) p8 hr (by decide) nv (mX (pv 0) (mX (pv 1) (mX (pv 3) mZ)))) mZ))) (zG rfl (oK (nB (i:=7) nd rfl (Or.inl rfl)) (oK (nB (i:=8) nd rfl (Or.inl rfl)) rD))) (mY (G_ (i:=6) nd rfl (Or.inl rfl) (om wR (pd oh (pv 2) (pv 7) (λ _ _=>rfl)) (pv 5)) zH)
   (m7 (G_ (i:=5) nd rfl (Or.inl rfl) (pv 8) Qb))))
   (m7 (nq (nA (E:=E0) oz hr (by decide) nv (mX (pv 6) (mX (pv 4) mZ))))))))),?_⟩
  have wC:=W.len
  have lb:=ug W hd tE
  refine⟨_,rfl,_,rfl,a,b,as,n_ f,d,rfl,ha,hT,hb,by rw[pP,hd],by omega,A5 tE,λ H1 s1=>?_⟩
  rw[tN hd tE]
  refine⟨_,rfl,_,rfl,_,rfl,_,rfl,_,rfl,a,b,o,as,f,d,l,rfl,s1 _ _ ha,hT.same s1,s1 _ _ hb,s1 _ _ ho,hd,hl,oY,λ H2 oa s2 hoa adN=>?_⟩
  have vE:=s1.trans s2
  refine⟨o,oa,_,_,rfl,nF.of (vE _ _ ho),nF.of adN,To (K:=K) (a:=o) (b:=oa) (xs:=nY l) (ys:=nY (qd f d l)) (by rw[nj,nj,xN]) (λ i σ H'=>∃(v7 v8:Option V) (D:List Nat) (tm:Nat),σ=[some (.ref a),some (.ref b),some (.ref c),some (.ref o),some (.int (left f d:Nat)),some (.int (left f D:Nat)),some (.int (tm:Nat)),v7,v8]/\m8 H2 H'/\jj f d l=tm+jj f D (l.drop i)/\uE D (l.drop i)/\D.length=d.length/\(qd f d l).drop i=qd f D (l.drop i))
   ⟨none,none,d,0,rfl,m8.refl _,(cW _).symm,oY,rfl,rfl⟩ (λ i σ H' _ ⟨_,_,_,_,_,sm,_⟩=>⟨nF.of (sm _ _ (vE _ _ ho)),nF.of (sm _ _ adN)⟩) ?_ ?_⟩
  ·rintro i x y TT σ H' hx hy ⟨v7,v8,D,tm,rfl,sm,eq,ok,Oy,ea⟩ Vk
   obtain⟨cc,q,rfl⟩:=ow hx
   obtain⟨g,q2,rfl⟩:=ow hy
   rw[yy q]at eq ok ea
   obtain⟨o1,o2,o3⟩:=ok
   rw[yy q2]at ea
   obtain⟨e1,e2⟩:=List.cons.inj ea
   subst e1
   have lbb:=EU (f:=f) o1 (Oy.trans hd) o2
   have sT:m8 H2 (upd H' TT (.tup [.int (cc:Nat),.int (c8 f cc (D.getD cc 0):Nat)])):=sm.trans (m8.new Vk)
   have ta:=G5 (f:=f) (c:=cc) (by omega)
   have t20:=uO T cc
   refine⟨TT,_,rfl,Bj.of m4,rfl,_,_,rfl,_,_,rfl,rfl,?_⟩
   refine⟨_,rfl,_,rfl,_,rfl,c,_,_,_,rfl,rfl,nF.of (sT _ _ (vE _ _ hc)),ou (oV ta),_,rfl,_,_,rfl,rfl,K2 (by omega) _,Tz (z:=((tm+left f D*(bz f cc).time:Nat):Int)) ?_ ?_⟩
   ·rw[Int.natCast_add,Int.natCast_mul,Int.mul_comm (left f D:Int)]
   refine⟨_,rfl,_,rfl,Ms (z:=((left f (bump D cc):Nat):Int)) (by omega) ?_⟩
   exact⟨_,_,bump D cc,tm+left f D*(bz f cc).time,rfl,sT,by rw[eq,Nat.add_assoc];rfl,o3,by rw[pY,Oy],e2⟩
  ·rintro σ H' ⟨v7,v8,D,tm,rfl,sm,eq,ok,Oy,ea⟩
   rw[nj,fv]at eq
   have e:jj f d l=tm:=eq
   have big:=OD W T hd tE oY hl
   rw[e]at big
   refine⟨_,rfl,_,rfl,tm,left f d,rfl,h0,lb,big,λ H3 p s3 hp NU=>?_⟩
   have wG:=vE.trans sm
   refine k H3 p (wG.trans s3) (none_of wG hp) ?_
   rw[NU]
   unfold iA
   rw[e];rfl
def Mu(f:ae)(d:List Nat)(x:Nat×Nat):List (Nat×Nat):=(az x.1).map λ j=>(x.2,c8 f x.2 (d.getD x.2 0+j))
def tupK(H:Hp)(b:ag):Int×Int:=match H b with
 |some (.tup [.int x,.int y])=>(x,y)
 |_=>(0,0)
theorem TF{H:Hp}{b:ag}{x y:Int}(h:H b=some (.tup [.int x,.int y])):tupK H b=(x,y):=by unfold tupK;rw[h]
def FQ:Sp:=λ vs H Q _=>∃(a b c r:ag) (as:List ag) (f:ae) (d e:List Nat),vs=[.ref a,.ref b,.ref c,.ref r]/\uq f/\H a=some (.lst (as.map V.ref))/\TabsAt H as (n_ f)/\H b=some (.lst (nY d))/\H c=some (.lst (nY (f.cells.map (·.time))))/\H r=some (.lst (nY e))/\d.length=f.cells.length/\e.length=d.length/\d.length<=16/\(∀n∈bC d e,n<=20)/\GI H Q (nY (dO f d e))
abbrev IH:List Str:=["tables","had","times","row","efforts","cell","many","before","by_time"]
theorem FR:m_ IH ["tables","had","times","row"] (m6 xX):=qi
theorem OF(F:pJ K "best_order" "best_order" xX f fd)(qm:mg "enumerate"=none)(qP:mg "range"=none)(pK:Hz7 P w K mg base)(w_:oG mg "COMMON_TIME" 232792560)(X5:mg "sorted"=none):nU P w K mg base oH 2 f fd ["tables","had","times","row"] FQ:=by
 refine F.ok FR (λ vs H Q E h=>?_) (λ oX A outer s H vs Q E hr h=>?_)
 ·obtain⟨a,b,c,r,as,f,d,e,rfl,_⟩:=h
  rfl
 ·obtain⟨a,b,c,r,as,f,d,e,rfl,T,ha,hT,hb,hc,X6,hd,he,GJ,m20,k⟩:=h
  have nd:=FR.nd
  refine⟨_,(mY (m9 (i:=4) nd rfl (Or.inl rfl) (nQ mZ))
   (mY (qC PassesOwn.never rfl (C6 rfl qm (mX (pv 3) mZ)) (zG rfl (oK (nB (i:=5) nd rfl (Or.inl rfl)) (oK (nB (i:=6) nd rfl (Or.inl rfl)) rD))) (m7 (qC PassesOwn.never rfl (Kg rfl qP (mX (pd oh (pv 1) (pv 5) (λ _ _=>rfl)) (mX (om qW (pd oh (pv 1) (pv 5) (λ _ _=>rfl)) (pv 6)) mZ))) (nB (i:=7) nd rfl (Or.inl rfl)) (mY (m9 (i:=8) nd rfl (Or.inl rfl) (om wR (nA (E:=E0) pK hr (by decide) nv (mX (pd oh (pv 0) (pv 5) (λ _ _=>rfl)) (mX (pv 7) mZ))) (om Dg (nV w_) (pd oh (pv 2) (pv 5) (λ _ _=>rfl)))))
   (m7 (og (qU aH bc a_ pG (pv 4) (mX (abC (mX (Sz LD (pv 8)) (mX (pv 5) mZ))) mZ))))))))
   (m7 (nq (qw (own:=[("by_time",8),("cell",5)]) rfl nd (oO (nN Rk rfl X5 boot_sorted (mX (pv 4) mZ))) (by exact pD.of (N:=IH) (sc:=m6 xX) (by decide +kernel)) (λ _ _ _ _ _=>by exact(A3 K (n:=2) rfl (oK (nB (i:=8) nd rfl (Or.inl rfl)) (oK (nB (i:=5) nd rfl (Or.inl rfl)) rD)))) (λ _ _ _ _ _=>by exact oS) (λ _ _ _ _ _=>by exact(pv 5))))))),?_⟩
  refine⟨aE _,λ ef hef=>?_⟩
  have s1:m8 H (upd H ef (.lst [])):=m8.new hef
  have GO:∀(E:List (Nat×Nat)) (es:List ag) (H':Hp) (x:Nat×Nat) (z:Int) (T0:ag),z= -((x.2*(tR / (bz f x.1).time):Nat):Int)->m8 H H'->H' ef=some (.lst (es.map V.ref))->IF H' es (E.map (keyOf f))->H' T0=none->
    m8 H (upd (upd H' T0 (.tup [.int z,.int (x.1:Nat)])) ef (.lst (es.map V.ref++[V.ref T0])))/\(upd (upd H' T0 (.tup [.int z,.int (x.1:Nat)])) ef (.lst (es.map V.ref++[V.ref T0]))) ef=some (.lst ((es++[T0]).map V.ref))/\IF (upd (upd H' T0 (.tup [.int z,.int (x.1:Nat)])) ef (.lst (es.map V.ref++[V.ref T0]))) (es++[T0]) ((E++[x]).map (keyOf f)):=by
   intro E es H' x z T0 hz sm h1 h2 h3
   have nT:T0≠ef:=λ q=>by rw[q,h1]at h3;cases h3
   refine⟨(sm.put (none_of sm h3)).put hef,by rw[m4,aF];rfl,by rw[aw,aF,aw,h2.1];rfl,λ j b0 k0 q1 q2=>?_⟩
   by_cases hj:j<es.length
   ·rw[bp hj]at q1
    rw[aF,bp (by rw[<-h2.1];exact hj)]at q2
    have X7:=h2.2 j b0 k0 q1 q2
    have n1:b0≠ef:=λ q=>by rw[q,h1]at X7;cases X7
    have n2:b0≠T0:=λ q=>by rw[q,h3]at X7;cases X7
    rw[m5 n1,m5 n2];exact X7
   ·rw[bg (by omega)]at q1
    rw[aF,bg (by rw[<-h2.1];omega),<-h2.1]at q2
    have ej:j-es.length=0:=by
     have:=(List.getElem?_eq_some_iff.mp q1).1
     simp at this;omega
    rw[ej]at q1 q2
    cases q1;cases q2
    rw[m5 nT,m4,hz];rfl
  refine⟨_,rfl,r,_,rfl,nF.of (s1 _ _ X6),Dr (K:=K) (a:=r) (xs:=nY e) (λ i σ H'=>∃(v5 v6 v7 v8:Option V) (es:List ag),σ=[some (.ref a),some (.ref b),some (.ref c),some (.ref r),some (.ref ef),v5,v6,v7,v8]/\m8 H H'/\H' ef=some (.lst (es.map V.ref))/\IF H' es (((e.zipIdx.take i).flatMap (Mu f d)).map (keyOf f))/\es.length<=20*i)
   ⟨none,none,none,none,[],rfl,s1,m4,⟨rfl,λ j b0 k0 q=>by simp at q⟩,ax _⟩ (λ i σ H' _ ⟨_,_,_,_,_,_,sm,_⟩=>nF.of (sm _ _ X6)) ?_ ?_⟩
  ·rintro i x T1 σ H' hx ⟨v5,v6,v7,v8,es,rfl,sm,h1,h2,h3⟩ hT1
   obtain⟨n,q,rfl⟩:=ow hx
   have hi:i<e.length:=(List.getElem?_eq_some_iff.mp q).1
   have gd:=getD_at (d:=d) (c:=i) (by omega)
   have hm:d.getD i 0+n<=20:=m20 _ (aC (i:=i) (by unfold bC;rw[aP,gd,q]))
   have ze:e.zipIdx[i]? =some (n,i):=by rw[bQ,q];show some (n,0+i)=_;rw[cW]
   have sT:m8 H (upd H' T1 (.tup [.int (i:Nat),.int (n:Nat)])):=sm.trans (m8.new hT1)
   have g1:(upd H' T1 (.tup [.int (i:Nat),.int (n:Nat)])) ef=some (.lst (es.map V.ref)):=m8.new hT1 _ _ h1
   have g2:IF (upd H' T1 (.tup [.int (i:Nat),.int (n:Nat)])) es (((e.zipIdx.take i).flatMap (Mu f d)).map (keyOf f)):=⟨h2.1,λ j b0 k0 q1 q2=>m8.new hT1 _ _ (h2.2 j b0 k0 q1 q2)⟩
   refine⟨T1,_,rfl,Bj.of m4,rfl,_,_,rfl,_,_,rfl,rfl,?_⟩
   refine⟨_,rfl,_,rfl,b,_,_,_,rfl,rfl,nF.of (sT _ _ hb),ou (oV gd),_,rfl,_,rfl,b,_,_,_,rfl,rfl,nF.of (sT _ _ hb),ou (oV gd),_,rfl,_,_,rfl,rfl,_,_,rfl,⟨by omega,by omega,by omega,by omega⟩,?_⟩
   have en:(((d.getD i 0:Nat):Int)+((n:Nat):Int)-((d.getD i 0:Nat):Int)).toNat=n:=by omega
   show ∃W,_
   rw[en]
   refine Up (n:=n) (λ j σ H'=>∃(v7 v8:Option V) (es:List ag),σ=[some (.ref a),some (.ref b),some (.ref c),some (.ref r),some (.ref ef),some (.int (i:Nat)),some (.int (n:Nat)),v7,v8]/\m8 H H'/\H' ef=some (.lst (es.map V.ref))/\IF H' es (((e.zipIdx.take i).flatMap (Mu f d)++(az j).map λ j=>(i,c8 f i (d.getD i 0+j))).map (keyOf f))/\es.length<=20*i+j)
    ⟨v7,v8,es,rfl,sT,g1,by rw[List.range_zero,eW,bD];exact g2,by omega⟩ ?_ ?_
   ·rintro j σ H' hj ⟨v7,v8,es,rfl,sm,h1,h2,h3⟩
    obtain⟨tb,t,t1,t2,t3,t4,t5⟩:=G4 (hT.same sm) (show i<f.cells.length by omega) (show d.getD i 0+j<20 by omega)
    have ta:=G5 (f:=f) (c:=i) (by omega)
    have t20:=uO T i
    refine⟨_,rfl,_,rfl,a,_,_,_,rfl,rfl,nF.of (sm _ _ ha),ou t1,_,rfl,tb,t,d.getD i 0+j,_,_,rfl,t2,t3,t4,_,rfl,_,rfl,c,_,_,_,rfl,rfl,nF.of (sm _ _ hc),ou (oV ta),_,_,rfl,rfl,adM (by omega) _,_,_,rfl,rfl,?_,?_⟩
    ·exact .inr ⟨by have:(0:Int)<=232792560 / ((bz f i).time:Int):=Int.ediv_nonneg (by omega) (by omega);omega,by have:(232792560:Int) / ((bz f i).time:Int)<=232792560:=Int.ediv_le_self _ (by omega);omega⟩
    refine⟨_,rfl,.inl ⟨rfl,_,nF.of h1⟩,_,rfl,_,rfl,_,rfl,(by show 2<=ay;decide),λ T0 hT0=>?_⟩
    have ez: -((((cY f i (d.getD i 0+j):Nat):Int)-((cY f i (d.getD i 0+j+1):Nat):Int))*(232792560 / ((bz f i).time:Int)))= -((c8 f i (d.getD i 0+j)*(tR / (bz f i).time):Nat):Int):=by
     rw[t5,Int.natCast_mul,Int.natCast_ediv];rfl
    obtain⟨z1,z2,z3⟩:=GO _ es H' (i,c8 f i (d.getD i 0+j)) _ T0 ez sm h1 h2 hT0
    have nT:ef≠T0:=λ q=>by rw[<-q,h1]at hT0;cases hT0
    refine⟨ef,_,_,rfl,rfl,(m5 nT).trans h1,(by rw[aa,aA];omega),?_⟩
    refine⟨_,_,es++[T0],rfl,z1,z2,?_,by rw[aw];show es.length+1<=_;omega⟩
    have eE:((e.zipIdx.take i).flatMap (Mu f d)++(az j).map λ j=>(i,c8 f i (d.getD i 0+j)))++[(i,c8 f i (d.getD i 0+j))]=(e.zipIdx.take i).flatMap (Mu f d)++(az (j+1)).map λ j=>(i,c8 f i (d.getD i 0+j)):=by
     rw[eI,aF,bB];rfl
    rw[<-eE];exact z3
   ·rintro σ H' ⟨v7,v8,es,rfl,sm,h1,h2,h3⟩
    refine⟨_,_,_,_,es,rfl,sm,h1,?_,by omega⟩
    rw[bZ,ze,ee]
    simpa [Mu]using h2
  ·rintro σ H' ⟨v5,v6,v7,v8,es,rfl,sm,h1,h2,h3⟩
   rw[nj]at h2 h3
   have et:e.zipIdx.take e.length=e.zipIdx:=cq (by rw[dP];exact ax _)
   rw[et]at h2
   have tk:∀b0∈es,H' b0=some (.tup [.int (tupK H' b0).1,.int (tupK H' b0).2]):=λ b0 X7=>by
    obtain⟨j,hj,ej⟩:=cw X7
    have q1:es[j]? =some b0:=by rw[af hj,ej]
    have q2:=h2.2 j b0 _ q1 (af (by rw[<-h2.1];exact hj))
    rw[TF q2,q2]
   have ek:es.map (tupK H')=(gZ f d e).map (keyOf f):=by
    apply bO
    intro j
    by_cases hj:j<es.length
    ·have q1:es[j]? =some es[j]:=af hj
     have q3:(((e.zipIdx).flatMap (Mu f d)).map (keyOf f))[j]? =some _:=af (by rw[<-h2.1];exact hj)
     have q2:=h2.2 j _ _ q1 q3
     rw[ak,q1]
     show some (tupK H' es[j])=(((e.zipIdx).flatMap (Mu f d)).map (keyOf f))[j]?
     rw[q3,TF q2]
    ·rw[aI (by rw[aa];omega),aI (show((gZ f d e).map (keyOf f)).length<=j from by have:=h2.1;show(((e.zipIdx).flatMap (Mu f d)).map (keyOf f)).length<=j;omega)]
   refine⟨_,rfl,ef,es,tupK H',rfl,nF.of h1,tk,by omega,λ V9 so X8 adO hso=>?_⟩
   have wg:m8 H' (upd H' so (.lst (V9.map V.ref))):=m8.new hso
   refine⟨so,rfl,⟨_,nF.of m4⟩,?_⟩
   have o1:=Rn T (d:=d) (e:=e) (ks:=V9.map (tupK H')) (by rw[<-ek];exact X8.map _) (by rw[iS];exact adO)
   have o2:nY (dO f d e)=V9.map λ b0=>V.int (tupK H' b0).2:=by
    unfold nY
    rw[show(dO f d e).map (λ(c:Nat)=>V.int (c:Int))=((dO f d e).map λ(c:Nat)=>(c:Int)).map V.int by rw[aW];rfl,<-o1,aW,aW];rfl
   have o3:(nY (dO f d e)).length=V9.length:=by rw[o2,aa]
   refine oZ (oU (K:=K) (xs:=V9.map V.ref) (nF.of m4)) (nY (dO f d e)) (by rw[o3,aa]) (by rw[aa,X8.length_eq,aA];omega) (λ j x y H3 R3 N3 hy pH hF kk=>?_) (λ D H3 hD pH uD=>k H3 D (sm.trans (wg.trans pH)) (none_of (sm.trans wg) hD) uD)
   rw[o2,ak]at hy
   rw[ak]at hF
   cases q1:V9[j]? with
   |none=>rw[q1]at hF;cases hF
   |some b0=>
    rw[q1]at hF hy
    cases hF;cases hy
    have tb:=tk b0 (X8.mem_iff.mp (aC q1))
    exact⟨b0,_,rfl,Bj.of (pH _ _ (wg _ _ tb)),rfl,_,_,rfl,_,_,rfl,rfl,rfl,sE ⟨_,rfl,kk H3 (m8.refl _)⟩⟩
theorem EW{zs:List Int}{j:Nat}{x:V}(h:(iL zs)[j]? =some x):∃z,zs[j]? =some z/\x= .int z:=by
 unfold iL at h
 rw[ak]at h
 cases q:zs[j]? with
 |none=>rw[q]at h;cases h
 |some z=>rw[q]at h;cases h;exact⟨z,rfl,rfl⟩
theorem aa_{zs:List Int}{j:Nat}{z:Int}(h:zs[j]? =some z):(iL zs)[j]? =some (.int z):=by
 unfold iL;rw[ak,h];rfl
theorem ur(l:List Nat):nY l=iL (l.map λ(n:Nat)=>(n:Int)):=by unfold nY iL;rw[aW];rfl
def vI(d:List Nat)(zs:List Int):List Int:=jO (λ(n:Nat) (z:Int)=>(n:Int)+z) d zs
theorem K3(d:List Nat)(zs:List Int):(vI d zs).length=min d.length zs.length:=by unfold vI;rw[c_]
theorem Vl(d e:List Nat):nY (bC d e)=iL (vI d (e.map λ(n:Nat)=>(n:Int))):=by
 rw[ur]
 congr 1
 unfold vI bC
 rw[jb,gO];rfl
def DD(d:List Nat)(zs:List Int):Bool:=(vI d zs).all λ z=>decide (z<=20)
def wH:Sp:=λ vs H Q _=>∃(a b:ag) (d:List Nat) (zs:List Int),vs=[.ref a,.ref b]/\H a=some (.lst (nY d))/\H b=some (.lst (iL zs))/\d.length<=16/\GI H Q (iL (vI d zs))
theorem FT(F:pJ K "together" "together" AV f fd)(xJ:mg "zip"=none):nU P w K mg base oH 1 f fd ["had","row"] wH:=by
 refine F.ok HX (λ vs H Q E h=>?_) (λ oX A outer s H vs Q E hr h=>?_)
 ·obtain⟨a,b,d,zs,rfl,_⟩:=h
  rfl
 ·obtain⟨a,b,d,zs,rfl,ha,hb,GJ,k⟩:=h
  have nd:=HX.nd
  refine⟨_,(m7 (nq (qw (own:=[("before",2),("more",3)]) rfl nd (Er rfl xJ (mX (pv 0) (mX (pv 1) mZ))) (by exact pD.of (N:=KJ) (sc:=m6 AV) (by decide +kernel)) (λ _ _ _ _ _=>by exact(A3 K (n:=2) rfl (oK (nB (i:=2) nd rfl (Or.inl rfl)) (oK (nB (i:=3) nd rfl (Or.inl rfl)) rD)))) (λ _ _ _ _ _=>by exact oS) (λ _ _ _ _ _=>by exact(om qW (pv 2) (pv 3)))))),?_⟩
  refine⟨_,rfl,_,rfl,a,b,_,_,rfl,nF.of ha,nF.of hb,?_⟩
  refine oZ (Ve (K:=K) (nF.of ha) (nF.of hb)) (iL (vI d zs)) (by rw[pX,nj,pX,K3]) (by rw[nj,aA];omega) (λ j x y H3 R3 N3 hy pH hF kk=>?_) (λ D H3 hD pH uD=>k H3 D pH hD uD)
  obtain⟨T,x1,y1,rfl,h1,h2,hT⟩:=hF
  obtain⟨c1,q1,rfl⟩:=ow h1
  obtain⟨c2,q2,rfl⟩:=EW h2
  obtain⟨c3,q3,rfl⟩:=EW hy
  have e3:c3=(c1:Int)+c2:=by
   unfold vI at q3
   rw[aP,q1,q2]at q3
   exact(Option.some.inj q3).symm
  subst e3
  refine⟨T,_,rfl,Bj.of hT,rfl,_,_,rfl,_,_,rfl,rfl,rfl,sE ⟨_,rfl,_,rfl,_,_,rfl,rfl,kk H3 (m8.refl _)⟩⟩
theorem Vm{f:ag}{fd:bK}{k:Nat}(F:nU P w K mg base oH k f fd ["had","row"] wH):nU P w K mg base oH k f fd ["had","row"] Cn:=
 F.imp λ vs H Q E ⟨a,b,d,e,h1,h2,h3,h4,h5,h6⟩=>⟨a,b,d,e.map λ(n:Nat)=>(n:Int),h1,h2,by rw[<-ur];exact h3,h5,by rw[<-Vl];exact h6⟩
def DE(CS:ag):Sp:=λ vs H Q _=>∃(x dx:ag),vs=[.ref x]/\H x=some (.ins CS dx [])/\∀H' wl hl,sF x H H'->H wl=none->H hl=none->wl≠hl->Ab CS H' x .qB wl hl [] []->Q .qB H'
abbrev OG:List Str:=["self"]
theorem DF:m_ OG ["self"] (m6 zT):=qi
theorem Mv(F:pJ K "__init__" "Search.__init__" zT f fd)(S:p7 K CS):nU P w K mg base oH 1 f fd ["self"] (DE CS):=by
 refine F.ok DF (λ vs H Q E h=>?_) (λ oX A outer s H vs Q E hr h=>?_)
 ·obtain⟨x,dx,rfl,_⟩:=h
  rfl
 ·obtain⟨x,dx,rfl,h1,k⟩:=h
  have nd:=DF.nd
  refine⟨_,(mY (pV (pv 0) zF rfl)
   (mY (pV (pv 0) (nQ mZ) rfl)
   (m7 (pV (pv 0) (nQ mZ) rfl)))),?_⟩
  refine⟨_,rfl,x,CS,dx,_,rfl,h1,S.cl,S.n1,(by show 0<1000;decide),aE _,λ wl GV=>?_⟩
  have n1:wl≠x:=λ q=>by rw[q,m4]at GV;cases GV
  rw[m5 n1]at GV
  refine⟨_,rfl,x,CS,dx,_,rfl,by rw[m5 (Ne.symm n1),m4],S.cl,S.n2,(by show 1<1000;decide),aE _,λ hl DG=>?_⟩
  have n2:hl≠x:=λ q=>by rw[q,m4]at DG;cases DG
  rw[m5 n2]at DG
  have n3:wl≠hl:=λ q=>by rw[<-q,m4]at DG;cases DG
  rw[m5 (Ne.symm n3),m5 n2]at DG
  refine⟨_,rfl,x,CS,dx,_,rfl,by rw[m5 (Ne.symm n2),m4],S.cl,S.n3,(by show 2<1000;decide),?_⟩
  refine k _ wl hl (λ b o e nb _=>?_) GV DG n3 ⟨⟨dx,?_⟩,?_,?_⟩
  ·rw[m5 nb,m5 (nH e DG),m5 nb,m5 (nH e GV),m5 nb];exact e
  ·rw[m4];rfl
  ·rw[m5 n1,m5 n3,m5 n1,m4];rfl
  ·rw[m5 n2,m4];rfl
def OH(CS:ag):Sp:=λ vs H Q _=>∃(x dx:ag) (v1 v2 v3:V),vs=[.ref x]/\H x=some (.ins CS dx (J1.zip [v1,v2,v3]))/\∀H' wl hl,sF x H H'->H wl=none->H hl=none->wl≠hl->Ab CS H' x .qB wl hl [] []->Q .qB H'
abbrev J4:List Str:=["self"]
theorem Ai:m_ J4 ["self"] (m6 wW):=qi
theorem IJ(F:pJ K "forget" "Search.forget" wW f fd)(S:p7 K CS):nU P w K mg base oH 1 f fd ["self"] (OH CS):=by
 refine F.ok Ai (λ vs H Q E h=>?_) (λ oX A outer s H vs Q E hr h=>?_)
 ·obtain⟨x,dx,v1,v2,v3,rfl,_⟩:=h
  rfl
 ·obtain⟨x,dx,v1,v2,v3,rfl,h1,k⟩:=h
  have nd:=Ai.nd
  refine⟨_,(mY (pV (pv 0) zF rfl)
   (mY (pV (pv 0) (nQ mZ) rfl)
   (m7 (pV (pv 0) (nQ mZ) rfl)))),?_⟩
  refine⟨_,rfl,x,CS,dx,_,rfl,h1,S.cl,S.n1,(by show 3<1000;decide),aE _,λ wl GV=>?_⟩
  have n1:wl≠x:=λ q=>by rw[q,m4]at GV;cases GV
  rw[m5 n1]at GV
  refine⟨_,rfl,x,CS,dx,_,rfl,by rw[m5 (Ne.symm n1),m4],S.cl,S.n2,(by show 3<1000;decide),aE _,λ hl DG=>?_⟩
  have n2:hl≠x:=λ q=>by rw[q,m4]at DG;cases DG
  rw[m5 n2]at DG
  have n3:wl≠hl:=λ q=>by rw[<-q,m4]at DG;cases DG
  rw[m5 (Ne.symm n3),m5 n2]at DG
  refine⟨_,rfl,x,CS,dx,_,rfl,by rw[m5 (Ne.symm n2),m4],S.cl,S.n3,(by show 3<1000;decide),?_⟩
  refine k _ wl hl (λ b o e nb _=>?_) GV DG n3 ⟨⟨dx,?_⟩,?_,?_⟩
  ·rw[m5 nb,m5 (nH e DG),m5 nb,m5 (nH e GV),m5 nb];exact e
  ·rw[m4];rfl
  ·rw[m5 n1,m5 n3,m5 n1,m4];rfl
  ·rw[m5 n2,m4];rfl
def EX(CS:ag):Sp:=λ vs H Q _=>∃(x wl hl b:ag) (v:V) (ws d:List Nat) (zs:List Int),vs=[.ref x,.ref b]/\Ab CS H x v wl hl ws d/\H b=some (.lst (iL zs))/\d.length<=16/\∀H',m8 H H'->Q (.bl (DD d zs)) H'
abbrev Aj:List Str:=["self","row","efforts"]
theorem zD:m_ Aj ["self","row"] (m6 sN):=qi
theorem GL(F:pJ K "has_room" "Search.has_room" sN f fd)(S:p7 K CS)(zB:mg "all"=none)(vD:rC P w K mg base oH 1 "together" ["had","row"] wH)(nE:oG mg "MOST_EFFORTS" 20):nU P w K mg base oH 2 f fd ["self","row"] (EX CS):=by
 refine F.ok zD (λ vs H Q E h=>?_) (λ oX A outer s H vs Q E hr h=>?_)
 ·obtain⟨x,wl,hl,b,v,ws,d,zs,rfl,_⟩:=h
  rfl
 ·obtain⟨x,wl,hl,b,v,ws,d,zs,rfl,⟨⟨dx,h1⟩,h2,h3⟩,hb,GJ,k⟩:=h
  have nd:=zD.nd
  refine⟨_,(m7 (nq (nN (BH rfl) rfl zB iP (mX (qw (own:=[("efforts",2)]) rfl nd (oO (nA (E:=E0) vD hr (by decide) nv (mX (nr (pv 0) rfl) (mX (pv 1) mZ)))) (by exact pD.of (N:=Aj) (sc:=m6 sN) (by decide +kernel)) (λ _ _ _ _ _=>by exact(nB (i:=2) nd rfl (Or.inl rfl))) (λ _ _ _ _ _=>by exact oS) (λ _ _ _ _ _=>by exact(rS p_ (pv 2) (nV nE) (oM _)))) mZ)))),?_⟩
  refine⟨_,rfl,x,CS,dx,_,_,rfl,h1,S.cl,S.n3,rfl,_,rfl,hl,b,d,zs,rfl,h3,hb,GJ,λ H1 p s1 hp JZ=>?_⟩
  refine⟨p,rfl,⟨_,nF.of JZ⟩,?_⟩
  refine oZ (oU (K:=K) (xs:=iL (vI d zs)) (nF.of JZ)) ((vI d zs).map λ z=>V.bl (decide (z<=20))) (by rw[pX,aa]) (by rw[pX,K3,aA];omega) (λ j x y H3 R3 N3 hy pH hF kk=>?_) (λ D H3 hD pH uD=>?_)
  ·obtain⟨z,q,rfl⟩:=EW hF
   rw[ak,q]at hy
   cases hy
   exact⟨rfl,sE ⟨_,rfl,_,_,rfl,rfl,kk H3 (m8.refl _)⟩⟩
  ·refine⟨D,(vI d zs).map λ z=>decide (z<=20),rfl,nF.of (by rw[uD,aW];rfl),?_⟩
   rw[cH]
   exact k H3 (s1.trans pH)
def yC(CS:ag):Sp:=λ vs H Q _=>∃(x wl hl:ag) (v:V) (ws d:List Nat) (z:Int),vs=[.ref x,.int z]/\Ab CS H x v wl hl ws d/\Q (.bl (decide (((aZ d:Nat):Int)+z<=20*((d.length:Nat):Int)))) H
abbrev DH:List Str:=["self","many"]
theorem vJ:m_ DH ["self","many"] (m6 sO):=qi
theorem Cs(F:pJ K "has_room_for" "Search.has_room_for" sO f fd)(S:p7 K CS)(xI:mg "sum"=none)(nE:oG mg "MOST_EFFORTS" 20)(pf:mg "len"=none):nU P w K mg base oH 1 f fd ["self","many"] (yC CS):=by
 refine F.ok vJ (λ vs H Q E h=>?_) (λ oX A outer s H vs Q E hr h=>?_)
 ·obtain⟨x,wl,hl,v,ws,d,z,rfl,_⟩:=h
  rfl
 ·obtain⟨x,wl,hl,v,ws,d,z,rfl,⟨⟨dx,h1⟩,h2,h3⟩,k⟩:=h
  have nd:=vJ.nd
  refine⟨_,(m7 (nq (rS p_ (om qW (nN (BG rfl) rfl xI iO (mX (nr (pv 0) rfl) mZ)) (pv 1)) (om wR (nV nE) (nN nO rfl pf aX (mX (nr (pv 0) rfl) mZ))) (oM _)))),?_⟩
  rw[<-nj d,<-tM d]at k
  exact⟨_,rfl,x,CS,dx,_,_,rfl,h1,S.cl,S.n3,rfl,hl,_,rfl,nF.of (by rw[h3,ur];rfl),_,rfl,_,_,rfl,rfl,_,rfl,x,CS,dx,_,_,rfl,h1,S.cl,S.n3,rfl,hl,_,rfl,.inl (nF.of h3),_,_,rfl,rfl,K2 (t:=20) (by decide) _,_,_,rfl,rfl,k⟩
def Mw(CS CF CC CT:ag):Sp:=λ vs H Q _=>∃(x wl hl a:ag) (ws d:List Nat) (f:ae),vs=[.ref x]/\Ab CS H x (.ref a) wl hl ws d/\rG CF CC CT H a f/\f.cells.length<=16/\GI H Q (nY (f.cells.map (·.time)))
abbrev DI:List Str:=["self","cell"]
theorem Bs:m_ DI ["self"] (m6 uK):=qi
theorem J5(F:pJ K "times" "Search.times" uK f fd)(S:p7 K CS)(nJ:Rec P w K mg base "Field" CF Ck)(oA:Rec P w K mg base "Cell" CC EI):nU P w K mg base oH 1 f fd ["self"] (Mw CS CF CC CT):=by
 refine F.ok Bs (λ vs H Q E h=>?_) (λ oX A outer s H vs Q E hr h=>?_)
 ·obtain⟨x,wl,hl,a,ws,d,f,rfl,_⟩:=h
  rfl
 ·obtain⟨x,wl,hl,a,ws,d,f,rfl,⟨⟨dx,h1⟩,h2,h3⟩,⟨df,lc,lt,as,bs,f1,f2,f3,f4,f5⟩,wC,k⟩:=h
  have nd:=Bs.nd
  refine⟨_,(m7 (nq (qw (own:=[("cell",1)]) rfl nd (oO (nr (nr (pv 0) rfl) rfl)) (by exact pD.of (N:=DI) (sc:=m6 uK) (by decide +kernel)) (λ _ _ _ _ _=>by exact(nB (i:=1) nd rfl (Or.inl rfl))) (λ _ _ _ _ _=>by exact oS) (λ _ _ _ _ _=>by exact(xW K (pv 1)))))),?_⟩
  refine⟨_,rfl,x,CS,dx,_,_,rfl,h1,S.cl,S.n1,rfl,a,CF,df,_,_,rfl,f1,nJ.cl,nJ.na "cells" (by simp),rfl,lc,rfl,⟨_,nF.of f2⟩,?_⟩
  refine oZ (oU (K:=K) (xs:=as.map V.ref) (nF.of f2)) (nY (f.cells.map (·.time))) (by rw[nj,aa,aa,f3.1]) (by rw[aa,f3.1,aA];omega) (λ j y z H3 R3 N3 hy pH hF kk=>?_) (λ D H3 hD pH uD=>k H3 D pH hD uD)
  obtain⟨c,q,rfl⟩:=ow hy
  rw[ak]at hF q
  cases q1:as[j]? with
  |none=>rw[q1]at hF;cases hF
  |some aj=>
   cases q2:f.cells[j]? with
   |none=>rw[q2]at q;cases q
   |some cj=>
    rw[q1]at hF;rw[q2]at q
    cases hF;cases q
    obtain⟨dc,ec⟩:=f3.2 j aj cj q1 q2
    exact⟨rfl,sE ⟨_,rfl,aj,CC,dc,_,_,rfl,pH _ _ ec,oA.cl,oA.na "time" (by simp),rfl,kk H3 (m8.refl _)⟩⟩
def vK(l:List Nat):Nat:=l.foldl max 0
theorem foldl_max:∀(l:List Nat) (a:Nat),l.foldl max a=max a (vK l)
 |[],a=>by show a=max a 0;omega
 |x::l,a=>by
  show l.foldl max (max a x)=max a (l.foldl max (max 0 x))
  rw[foldl_max l,foldl_max l (max 0 x)];omega
theorem xO(x:Nat)(l:List Nat):vK (x::l)=max x (vK l):=by
 show l.foldl max (max 0 x)=_
 rw[foldl_max];omega
theorem Mx:∀(l:List Nat),∀y∈l,y<=vK l
 |[],y,h=>by cases h
 |x::l,y,h=>by
  rw[xO]
  rcases List.mem_cons.mp h with q|q
  ·omega
  ·have:=Mx l y q;omega
theorem DJ:∀(l:List Nat),l≠[]->vK l∈l
 |[],h=>absurd rfl h
 |[x],_=>by rw[xO];show max x 0∈[x];simp
 |x::y::l,_=>by
  rw[xO]
  have ih:=DJ (y::l) (by simp)
  by_cases h:vK (y::l)<=x
  ·rw[Nat.max_eq_left h];simp
  ·rw[Nat.max_eq_right (by omega)];exact aQ _ ih
theorem aap{l:List Nat}{m:Nat}(h1:m∈l)(h2:∀y∈l,y<=m):vK l=m:=by
 have a:=Mx l m h1
 have b:=h2 _ (DJ l (λ q=>by rw[q]at h1;cases h1))
 omega
theorem TH(p:Nat->Prop)[DecidablePred p](v:Nat->Nat):∀(l:List Nat),vK (l.map λ n=>if p n then v n else 0)=vK (l.filterMap λ n=>if p n then some (v n)else none)
 |[]=>rfl
 |x::l=>by
  rw[aG,xO,TH p v l,dG]
  by_cases h:p x
  ·rw[if_pos h,if_pos h];show _=vK (v x::_);rw[xO]
  ·rw[if_neg h,if_neg h];exact Nat.zero_max _
def gl(f:ae)(d:List Nat)(c:Nat):List Nat:=(az (20-d.getD c 0+1)).map λ n=>cY f c (d.getD c 0)-cY f c (d.getD c 0+n)
def TJ(g:List Nat)(t:Nat)(bh:List Nat)(b n:Nat):Nat:=g.getD n 0+bh.getD (b-n*t) 0
def Wf(g:List Nat)(t:Nat)(bh:List Nat)(b:Nat):List Nat:=(az g.length).filterMap λ n=>if n*t<=b then some (TJ g t bh b n)else none
theorem Bt(p:Nat->Prop)[DecidablePred p](v:Nat->Nat)(M:Nat)(hp:∀n,p n↔n<M):∀N,(az N).filterMap (λ n=>if p n then some (v n)else none)=(az (min N M)).map v
 |0=>by rw[Nat.zero_min];rfl
 |N+1=>by
  rw[eI,g8,Bt p v M hp N]
  by_cases h:N<M
  ·rw[show min (N+1) M=min N M+1 by omega,eI,aF,show min N M=N by omega]
   simp[(hp N).mpr h]
  ·have hn:¬ p N:=λ q=>h ((hp N).mp q)
   rw[show min (N+1) M=min N M by omega]
   simp[hn]
theorem yD{n t b:Nat}(ht:1<=t):n*t<=b↔n<b / t+1:=by
 rw[Nat.lt_succ_iff,Nat.le_div_iff_mul_le (by omega)]
theorem X9{g:List Nat}{t:Nat}(ht:1<=t)(bh:List Nat)(b:Nat):Wf g t bh b=(az (min g.length (b / t+1))).map (TJ g t bh b):=by
 unfold Wf
 exact Bt (λ n=>n*t<=b) (TJ g t bh b) (b / t+1) (λ n=>yD ht) g.length
theorem EY(f:ae)(d:List Nat)(c:Nat):(gl f d c).length=20-d.getD c 0+1:=by unfold gl;simp
theorem aba{f:ae}{d:List Nat}{c n:Nat}(h:n<20-d.getD c 0+1):(gl f d c).getD n 0=cY f c (d.getD c 0)-cY f c (d.getD c 0+n):=by
 unfold gl
 rw[aB,ak,bf h];rfl
theorem OI{α β:Type}(f g:α->Option β):∀(l:List α),(∀x∈l,f x=g x)->l.filterMap f=l.filterMap g
 |[],_=>rfl
 |x::l,h=>by rw[dG,dG,h x (by simp),OI f g l λ y hy=>h y (by simp[hy])]
theorem Ro(f:ae)(d:List Nat)(c B:Nat)(later:List Nat):dR f d c B later=(az (B+1)).map λ b=>vK (Wf (gl f d c) (bz f c).time later b):=by
 unfold dR
 refine bP λ b _=>?_
 show vK ((az (20-d.getD c 0+1)).map λ n=>if n*(bz f c).time<=b then _ else 0)=_
 rw[TH]
 unfold Wf
 rw[EY]
 congr 1
 refine OI _ _ _ λ n hn=>?_
 unfold TJ
 rw[aba (List.mem_range.mp hn)]
theorem X_{g:List Nat}{t:Nat}(ht:1<=t)(hg:g≠[])(bh:List Nat)(b:Nat):Wf g t bh b≠[]:=by
 rw[X9 ht]
 intro q
 have h:=congrArg ig q
 rw[aa,aR]at h
 have h2:0<g.length:=by
  cases g with
  |nil=>exact absurd rfl hg
  |cons a l=>exact mz _
 have h3:min g.length (b / t+1)=0:=h
 generalize b / t=z at h3
 omega
theorem ve(f:ae)(d:List Nat)(B:Nat):∀k,(b8 f d B k).length=k+1
 |0=>rfl
 |k+1=>by show(b8 f d B k).length+1=_;rw[ve f d B k]
theorem EZ(f:ae)(d:List Nat)(B:Nat):∀k,∀r∈b8 f d B k,r.length=B+1
 |0,r,h=>by
  have e:r=cG (B+1) 0:=by simpa [b8]using h
  rw[e,fo]
 |k+1,r,h=>by
  rcases List.mem_cons.mp h with q|q
  ·rw[q];unfold dR;simp
  ·exact EZ f d B k r q
theorem TM{α:Type}[Inhabited α](l:List (List α))(h:0<l.length):l[0]? =some (l.headD []):=by
 cases l with
 |nil=>simp at h
 |cons a l=>rfl
theorem table_at(f:ae)(d:List Nat)(B:Nat):∀(k i:Nat),i<k->k<=f.cells.length->∃s,(b8 f d B k)[i+1]? =some s/\(b8 f d B k)[i]? =some (dR f d (f.cells.length-(k-i)) B s)
 |0,i,h,_=>by omega
 |k+1,0,_,hk=>by
  refine⟨(b8 f d B k).headD [],?_,rfl⟩
  show(b8 f d B k)[0]? =_
  exact TM _ (by rw[ve];omega)
 |k+1,i+1,h,hk=>by
  obtain⟨s,h1,h2⟩:=table_at f d B k i (by omega) (by omega)
  refine⟨s,h1,?_⟩
  show(b8 f d B k)[i]? =_
  rw[h2,show k+1-(i+1)=k-i by omega]
def thN(f:ae)(d:List Nat)(c b:Nat)(r s:List Nat):Nat:=((az (20-d.getD c 0+1)).find? λ n=>decide (n*(bz f c).time<=b) && (cY f c (d.getD c 0)-cY f c (d.getD c 0+n))+s.getD (b-n*(bz f c).time) 0 == r.getD b 0).getD 0
theorem K4(f:ae)(d:List Nat)(c b:Nat)(r s:List Nat)(t:List (List Nat)):gB f d c b (r::s::t)=thN f d c b r s::gB f d (c+1) (b-thN f d c b r s*(bz f c).time) (s::t):=rfl
theorem Ya{f:ae}{d:List Nat}{c b B:Nat}{s:List Nat}(ht:1<=(bz f c).time)(hb:b<=B)(L:List Nat)(hL:L=Wf (gl f d c) (bz f c).time s b)(n:Nat)(hn:n=thN f d c b (dR f d c B s) s):
  L[n]? =some (vK L)/\(∀(m:Nat) (z:Nat),m<n->L[m]? =some z->z≠vK L)/\n*(bz f c).time<=b/\n<=20-d.getD c 0:=by
 have hr:(dR f d c B s).getD b 0=vK L:=by
  rw[Ro,aB,ak,bf (by omega),hL];rfl
 have ne:L≠[]:=by
  rw[hL]
  refine X_ ht ?_ s b
  intro q
  have:=congrArg ig q
  rw[EY]at this;simp at this
 have hm:=DJ L ne
 have le:∀m,L[m]? =if m<min (20-d.getD c 0+1) (b / (bz f c).time+1)then some (TJ (gl f d c) (bz f c).time s b m)else none:=λ m=>by
  rw[hL,X9 ht,EY,ak]
  split
  ·rename_i h;rw[bf h];rfl
  ·rename_i h;rw[aI (by rw[aR];omega)];rfl
 have cv:∀m,m<20-d.getD c 0+1->TJ (gl f d c) (bz f c).time s b m=(cY f c (d.getD c 0)-cY f c (d.getD c 0+m))+s.getD (b-m*(bz f c).time) 0:=λ m h=>by
  unfold TJ;rw[aba h]
 cases q:(az (20-d.getD c 0+1)).find? λ n=>decide (n*(bz f c).time<=b) && (cY f c (d.getD c 0)-cY f c (d.getD c 0+n))+s.getD (b-n*(bz f c).time) 0 == (dR f d c B s).getD b 0 with
 |none=>
  exfalso
  rw[kH]at q
  obtain⟨i,hi,ei⟩:=cw hm
  have e1:L[i]? =some (vK L):=by rw[af hi,ei]
  rw[le]at e1
  split at e1
  ·rename_i rO
   have e2:=Option.some.inj e1
   refine q i (List.mem_range.mpr (by omega)) ?_
   rw[bj,decide_eq_true_iff,beq_iff_eq,hr,<-e2,cv i (by omega)]
   exact⟨(yD ht).mpr (by omega),rfl⟩
  ·cases e1
 |some j=>
  have ej:n=j:=by rw[hn];unfold thN;rw[q];rfl
  subst ej
  rw[List.find?_range_eq_some]at q
  obtain⟨q1,q2,q3⟩:=q
  rw[bj,decide_eq_true_iff,beq_iff_eq,hr]at q1
  have rO:=List.mem_range.mp q2
  have hM:=(yD ht).mp q1.1
  refine⟨?_,λ m z hmn hz=>?_,q1.1,by omega⟩
  ·rw[le,if_pos (by omega),cv n rO,q1.2]
  ·rw[le,if_pos (by omega)]at hz
   have hz:=Option.some.inj hz
   have h3:=q3 m hmn
   rw[iU,Bool.and_eq_false_iff]at h3
   rcases h3 with h3|h3
   ·exact absurd ((yD ht).mpr (by omega)) (of_decide_eq_false h3)
   ·rw[beq_eq_false_iff_ne,hr,<-cv m (by omega),hz]at h3
    exact h3
theorem IK{l:List Nat}{m:Int}(h1:m∈l.map λ(n:Nat)=>(n:Int))(h2:∀y∈l.map (λ(n:Nat)=>(n:Int)),y<=m):m=((vK l:Nat):Int):=by
 obtain⟨n,hn,rfl⟩:=List.mem_map.mp h1
 have:=aap hn λ y hy=>by
  have:=h2 _ (c9 hy)
  omega
 rw[this]
theorem My{H:Hp}{K:ah}{p:ag}{l:List Nat}(h:H p=some (.lst (nY l))):nF K H p ((l.map λ(n:Nat)=>(n:Int)).map V.int):=nF.of (by rw[h,ur];rfl)
theorem aaq{g:List Nat}{t:Nat}{bh:List Nat}{b:Nat}:Wf g t bh b=((az g.length).map λ n=>if n*t<=b then some (TJ g t bh b n)else none).filterMap id:=by
 unfold Wf
 rw[List.filterMap_map];rfl
theorem Rp{α β:Type}(g:α->β):∀l:List (Option α),(l.map (j8 g)).filterMap id=(l.filterMap id).map g
 |[]=>rfl
 |none::l=>Rp g l
 |some x::l=>by
  show g x::_=g x::_
  rw[Rp g l]
def FU:Sp:=λ vs H Q _=>∃(a:ag) (t:List Nat) (f:ae) (c e:Nat),vs=[.ref a,.int (e:Nat)]/\H a=some (.lst (nY t))/\(∀n≤20,t[n]? =some (cY f c n))/\c<f.cells.length/\e<=20/\GI H Q (nY ((az (20-e+1)).map λ n=>cY f c e-cY f c (e+n)))
abbrev IL:List Str:=["table","efforts","then"]
theorem FV:m_ IL ["table","efforts"] (m6 yc):=qi
theorem OJ(F:pJ K "cell_gains" "cell_gains" yc f fd)(qP:mg "range"=none)(nE:oG mg "MOST_EFFORTS" 20):nU P w K mg base oH 1 f fd ["table","efforts"] FU:=by
 refine F.ok FV (λ vs H Q E h=>?_) (λ oX A outer s H vs Q E hr h=>?_)
 ·obtain⟨a,t,f,c,e,rfl,_⟩:=h
  rfl
 ·obtain⟨a,t,f,c,e,rfl,ha,ht,hc,he,k⟩:=h
  have nd:=FV.nd
  refine⟨_,(m7 (nq (qw (own:=[("then",2)]) rfl nd (Kg rfl qP (mX (pv 1) (mX (om qW (nV nE) nP) mZ))) (by exact pD.of (N:=IL) (sc:=m6 yc) (by decide +kernel)) (λ _ _ _ _ _=>by exact(nB (i:=2) nd rfl (Or.inl rfl))) (λ _ _ _ _ _=>by exact oS) (λ _ _ _ _ _=>by exact(om sI (tZ K (pv 0) (pv 1)) (tZ K (pv 0) (pv 2))))))),?_⟩
  refine⟨_,rfl,_,_,rfl,rfl,_,_,rfl,⟨by omega,by omega,by omega,by omega⟩,?_⟩
  have en:((20:Int)+1-(e:Int)).toNat=20-e+1:=by omega
  show ∀D,_
  rw[en]
  refine oZ (tO (e:Int) (20-e+1)) (nY ((az (20-e+1)).map λ n=>cY f c e-cY f c (e+n))) (by rw[nj,aa,aR]) (by rw[aA];omega) (λ j x y H3 R3 N3 hy pH hF kk=>?_) (λ D H3 hD pH uD=>k H3 D pH hD uD)
  obtain⟨v,q,rfl⟩:=ow hy
  have hj:j<20-e+1:=by
   have:=(List.getElem?_eq_some_iff.mp q).1
   simpa using this
  rw[ak,bf hj]at q
  have q:cY f c e-cY f c (e+j)=v:=Option.some.inj q
  subst hF
  have le:cY f c (e+j)<=cY f c e:=A4 (by omega) hc
  have kk2:R3 (V.int (((cY f c e:Nat):Int)-((cY f c (e+j):Nat):Int))) H3:=by
   have z:=kk H3 (m8.refl _)
   rw[<-q,Int.ofNat_sub le]at z
   exact z
  exact⟨rfl,sE ⟨_,rfl,_,rfl,a,_,_,_,rfl,rfl,nF.of (pH _ _ ha),ou (oV (ht e he)),_,rfl,_,rfl,a,_,_,_,rfl,rfl,nF.of (pH _ _ ha),at_of (j:=e+j) rfl (oV (ht (e+j) (by omega))),_,_,rfl,rfl,kk2⟩⟩
def E1:Sp:=λ vs H Q _=>∃(ga ba:ag) (g bh:List Nat) (t b:Nat),vs=[.ref ga,.int (t:Nat),.ref ba,.int (b:Nat)]/\H ga=some (.lst (nY g))/\H ba=some (.lst (nY bh))/\g.length<=21/\t<=20/\b<bh.length/\GI H Q (nY (Wf g t bh b))
abbrev OK:List Str:=["gains","time","behind","spare","many","gain"]
theorem K5:m_ OK ["gains","time","behind","spare"] (m6 Df):=qi
theorem Vn(F:pJ K "choices" "choices" Df f fd)(qm:mg "enumerate"=none):nU P w K mg base oH 1 f fd ["gains","time","behind","spare"] E1:=by
 refine F.ok K5 (λ vs H Q E h=>?_) (λ oX A outer s H vs Q E hr h=>?_)
 ·obtain⟨ga,ba,g,bh,t,b,rfl,_⟩:=h
  rfl
 ·obtain⟨ga,ba,g,bh,t,b,rfl,hg,hb,gl',ht,hbb,k⟩:=h
  have nd:=K5.nd
  refine⟨_,(m7 (nq (qw (own:=[("many",4),("gain",5)]) rfl nd (C6 rfl qm (mX (pv 0) mZ)) (by exact pD.of (N:=OK) (sc:=m6 Df) (by decide +kernel)) (λ _ _ _ _ _=>by exact(A3 K (n:=2) rfl (oK (nB (i:=4) nd rfl (Or.inl rfl)) (oK (nB (i:=5) nd rfl (Or.inl rfl)) rD)))) (λ _ _ _ _ _=>by exact(LN (ot p_ (om wR (pv 4) (pv 1)) (pv 3) (oM _)))) (λ _ _ _ _ _=>by exact(om qW (pv 5) (tZ K (pv 2) (om sI (pv 3) (om wR (pv 4) (pv 1))))))))),?_⟩
  refine⟨_,rfl,ga,_,rfl,nF.of hg,?_⟩
  refine XY (UL (K:=K) (nF.of hg)) ((az g.length).map λ n=>if n*t<=b then some (V.int (TJ g t bh b n:Nat))else none) (by rw[aa,aR,nj]) (by rw[nj,aA];omega) (λ j x y H3 R3 N3 hy pH hF kk kn=>?_) (λ D H3 hD pH uD=>k H3 D pH hD ?_)
  ·obtain⟨T,v,rfl,h1,h2⟩:=hF
   obtain⟨c,q,rfl⟩:=ow h1
   have hj:j<g.length:=(List.getElem?_eq_some_iff.mp q).1
   rw[ak,bf hj]at hy
   have hy:(if j*t<=b then some (V.int (TJ g t bh b j:Nat))else none)=y:=Option.some.inj hy
   have cj:Qg (j:Int) (t:Int):=K2 (t:=j) (by omega) _
   refine⟨T,_,rfl,Bj.of h2,rfl,_,_,rfl,_,_,rfl,rfl,rfl,⟨_,rfl,_,rfl,_,_,rfl,rfl,cj,_,rfl,_,_,rfl,rfl,_,rfl,qa (λ hc=>?_) λ hc=>?_⟩⟩
   ·have hc:(j:Int)*(t:Int)<=(b:Int):=of_decide_eq_true hc
    have V_:j*t<=b:=by
     have:((j*t:Nat):Int)<=(b:Int):=by rw[Int.natCast_mul];exact hc
     omega
    rw[if_pos V_]at hy
    have ez:(b:Int)-(j:Int)*(t:Int)=((b-j*t:Nat):Int):=by rw[Int.ofNat_sub V_,Int.natCast_mul]
    have gb:=getD_at (d:=bh) (c:=b-j*t) (by omega)
    have ec:((TJ g t bh b j:Nat):Int)=(c:Int)+((bh.getD (b-j*t) 0:Nat):Int):=by
     unfold TJ
     rw[Int.natCast_add,aB,q];rfl
    have z:=kk _ hy.symm H3 (m8.refl _)
    rw[ec]at z
    exact⟨_,rfl,_,rfl,_,rfl,_,rfl,_,rfl,_,_,rfl,rfl,cj,_,_,rfl,rfl,ba,_,_,_,rfl,rfl,nF.of (pH _ _ hb),at_of ez (oV gb),_,_,rfl,rfl,z⟩
   ·have hc:¬ (j:Int)*(t:Int)<=(b:Int):=λ q=>hc (decide_eq_true q)
    have V_:¬ j*t<=b:=λ q=>hc (by
     have:((j*t:Nat):Int)<=(b:Int):=by omega
     rw[Int.natCast_mul]at this;exact this)
    rw[if_neg V_]at hy
    exact kn hy.symm H3 (m8.refl _)
  ·rw[uD,aaq]
   unfold nY
   rw[<-Rp,aW]
   congr 2
   congr 1
   refine bP λ n _=>?_
   show(if n*t<=b then some (V.int (TJ g t bh b n:Nat))else none)=j8 _ (if n*t<=b then some (TJ g t bh b n)else none)
   by_cases h:n*t<=b
   ·rw[if_pos h,if_pos h];rfl
   ·rw[if_neg h,if_neg h];rfl
def FY:Sp:=λ vs H Q _=>∃(ga ta:ag) (gs:List ag) (f:ae) (d:List Nat) (B:Nat),vs=[.ref ga,.ref ta,.int (B:Nat)]/\uq f/\H ga=some (.lst (gs.map V.ref))/\TabsAt H gs ((az f.cells.length).map (gl f d))/\H ta=some (.lst (nY (f.cells.map (·.time))))/\f.cells.length<=16/\B<=100/\∀H' p as,m8 H H'->H p=none->H' p=some (.lst (as.map V.ref))->TabsAt H' as (b8 f d B f.cells.length)->Q (.ref p) H'
abbrev Ct:List Str:=["gains","times","greatest","behind","most","cell","spare"]
theorem FZ:m_ Ct ["gains","times","greatest"] (m6 vw):=qi
theorem OL(F:pJ K "most_gains" "most_gains" vw f fd)(qP:mg "range"=none)(pf:mg "len"=none)(OM:mg "max"=none)(vf:rC P w K mg base oH 1 "choices" ["gains","time","behind","spare"] E1):nU P w K mg base oH 2 f fd ["gains","times","greatest"] FY:=by
 refine F.ok FZ (λ vs H Q E h=>?_) (λ oX A outer s H vs Q E hr h=>?_)
 ·obtain⟨ga,ta,gs,f,d,B,rfl,_⟩:=h
  rfl
 ·obtain⟨ga,ta,gs,f,d,B,rfl,T,hg,hG,ht,GJ,hB,k⟩:=h
  have nd:=FZ.nd
  refine⟨_,(mY (m9 (i:=3) nd rfl (Or.inr rfl) (qw (own:=[("spare",6)]) rfl nd (xy rfl qP (mX (om qW (pv 2) nP) mZ)) (by exact pD.of (N:=Ct) (sc:=m6 vw) (by decide +kernel)) (λ _ _ _ _ _=>by exact(nB (i:=6) nd rfl (Or.inl rfl))) (λ _ _ _ _ _=>by exact oS) (λ _ _ _ _ _=>by exact nP)))
   (mY (m9 (i:=4) nd rfl (Or.inl rfl) (nQ (mX (pv 3) mZ)))
   (mY (qC PassesOwn.never rfl (Ux rfl qP (mX (om sI (nN nO rfl pf aX (mX (pv 0) mZ)) nP) (mX (Sz LD nP) (mX (Sz LD nP) mZ)))) (nB (i:=5) nd rfl (Or.inr rfl)) (mY (m9 (i:=3) nd rfl (Or.inr rfl) (qw (own:=[("spare",6)]) rfl nd (xy rfl qP (mX (om qW (pv 2) nP) mZ)) (by exact pD.of (N:=Ct) (sc:=m6 vw) (by decide +kernel)) (λ _ _ _ _ _=>by exact(nB (i:=6) nd rfl (Or.inl rfl))) (λ _ _ _ _ _=>by exact oS) (λ _ _ _ _ _=>by exact(aal K rfl rfl OM (mX (nA (E:=E0) vf hr (by decide) nv (mX (tZ K (pv 0) (pv 5)) (mX (tZ K (pv 1) (pv 5)) (mX (pv 3) (mX (pv 6) mZ))))) mZ)))))
   (m7 (og (qU aH PySem.F.slot_list_insert PySem.F.type_list_insert Rb (pv 4) (mX nP (mX (pv 3) mZ)))))))
   (m7 (nq (pv 4)))))),?_⟩
  have eB:((B:Int)+1).toNat=B+1:=by omega
  refine⟨_,rfl,_,_,rfl,rfl,_,rfl,by omega,by omega,?_⟩
  refine oZ (tO 0 _) (nY (cG (B+1) 0)) (by rw[nj,fo];exact eB.symm) (by rw[aA];show((B:Int)+1).toNat<=_;omega) (λ j x y H3 R3 N3 hy pH hF kk=>?_) (λ b0 H1 X7 s1 hb1=>?_)
  ·obtain⟨v,q,rfl⟩:=ow hy
   have e0:v=0:=by
    rw[gH]at q
    split at q
    ·exact(Option.some.inj q).symm
    ·cases q
   subst e0
   exact⟨rfl,sE (kk H3 (m8.refl _))⟩
  refine⟨_,rfl,(by show 1<=ay;decide),λ ms hms=>?_⟩
  have aar:=none_of s1 hms
  have nbm:b0≠ms:=λ q=>by rw[q,hms]at hb1;cases hb1
  have afj:gs.length=f.cells.length:=by rw[hG.1,aa,aR]
  refine⟨_,rfl,ga,_,rfl,.inl (nF.of (s1.put aar _ _ hg)),_,_,rfl,rfl,_,rfl,_,rfl,_,_,_,_,rfl,RgC.neg (by omega) (by rw[aa];omega) (by omega) (by omega),?_⟩
  have en:(((gs.map V.ref).length:Int)-1-(-1)).toNat=f.cells.length:=by rw[aa];omega
  show ∃W,_
  rw[en]
  refine Qq (n:=f.cells.length) (λ i σ H'=>∃(v5:Option V) (bh:ag) (as:List ag),σ=[some (.ref ga),some (.ref ta),some (.int (B:Nat)),some (.ref bh),some (.ref ms),v5,none]/\m8 H H'/\H' ms=some (.lst (as.map V.ref))/\TabsAt H' as (b8 f d B i)/\(∀a∈as,a≠ms)/\as[0]? =some bh)
   ⟨none,b0,[b0],rfl,s1.put aar,m4,⟨rfl,λ j a t q1 q2=>?_⟩,λ a ha=>?_,rfl⟩ ?_ ?_
  ·have ej:j=0:=by
    have:=(List.getElem?_eq_some_iff.mp q1).1
    simp at this;exact this
   subst ej
   cases q1
   have:t=cG (B+1) 0:=(Option.some.inj q2).symm
   rw[this,m5 nbm];exact hb1
  ·have:a=b0:=by simpa using ha
   rw[this];exact nbm
  ·rintro i σ H' hi ⟨v5,bh,as,rfl,sm,hM,hA,xE,h0⟩
   have ez:((gs.map V.ref).length:Int)-1+(i:Nat)*(-1)=((f.cells.length-(i+1):Nat):Int):=by rw[aa];omega
   have hc:f.cells.length-(i+1)<f.cells.length:=by omega
   generalize hcc:f.cells.length-(i+1)=c at ez hc
   have t20:=uO T c
   have afo:as.length=i+1:=by rw[hA.1,ve]
   have hd0:=TM (b8 f d B i) (by rw[ve];omega)
   have hbh:=hA.2 0 bh _ h0 hd0
   have lbh:((b8 f d B i).headD []).length=B+1:=EZ f d B i _ (aC hd0)
   have g1:gs[c]? =some (gs[c]'(by omega)):=af _
   have g2:((az f.cells.length).map (gl f d))[c]? =some (gl f d c):=by rw[ak,bf hc];rfl
   have g3:=hG.2 c _ _ g1 g2
   have g4:(gs.map V.ref)[c]? =some (V.ref (gs[c]'(by omega))):=by rw[ak,g1];rfl
   have tl:=G5 (f:=f) hc
   refine⟨_,rfl,_,_,rfl,rfl,_,rfl,by omega,by omega,?_⟩
   refine oZ (tO 0 _) (nY (dR f d c B ((b8 f d B i).headD []))) (by rw[nj,Ro,aa,aR];exact eB.symm) (by rw[aA];show((B:Int)+1).toNat<=_;omega) (λ j x y H3 R3 N3 hy pH hF kk=>?_) (λ bn H3 hbn s3 hb3=>?_)
   ·obtain⟨v,q,rfl⟩:=ow hy
    rw[Ro,ak]at q
    have hj:j<B+1:=by
     cases z:(az (B+1))[j]? with
     |none=>rw[z]at q;cases q
     |some z'=>have:=(List.getElem?_eq_some_iff.mp z).1;simpa using this
    rw[bf hj]at q
    have q:vK (Wf (gl f d c) (bz f c).time ((b8 f d B i).headD []) j)=v:=Option.some.inj q
    have e:(0:Int)+(j:Int)=(j:Int):=Int.zero_add _
    rw[e]at hF
    subst hF
    have s3':=sm.trans pH
    refine⟨rfl,sE ⟨_,rfl,_,rfl,ga,_,_,_,rfl,rfl,nF.of (s3' _ _ hg),at_of ez g4,_,rfl,_,rfl,ta,_,_,_,rfl,rfl,nF.of (s3' _ _ ht),at_of ez (oV tl),_,rfl,_,rfl,gs[c]'(by omega),bh,gl f d c,_,(bz f c).time,j,rfl,s3' _ _ g3,pH _ _ hbh,by rw[EY];omega,t20.2,by omega,λ H5 p s5 hp hp5=>?_⟩⟩
    refine⟨p,_,rfl,My hp5,?_,λ m hm1 hm2=>?_⟩
    ·rw[aa]
     refine b_ λ z=>X_ t20.1 ?_ _ _ (List.length_eq_zero_iff.mp z)
     intro z
     have:=congrArg ig z
     rw[EY]at this;simp at this
    ·rw[IK hm1 hm2,q]
     exact kk H5 s5
   have hM3:=s3 _ _ hM
   have nbn:bn≠ms:=λ q=>by rw[q,hM]at hbn;cases hbn
   refine⟨_,rfl,.inl ⟨rfl,_,nF.of hM3⟩,_,rfl,ms,_,_,rfl,rfl,hM3,(by rw[aa,aA];omega),?_⟩
   refine⟨_,bn,bn::as,rfl,(sm.trans s3).put aar,by rw[m4];rfl,⟨by rw[aD,hA.1];rfl,λ j a t q1 q2=>?_⟩,λ a ha=>?_,rfl⟩
   ·cases j with
    |zero=>
     cases q1
     have e2:t=dR f d c B ((b8 f d B i).headD []):=by rw[<-hcc];exact(Option.some.inj q2).symm
     rw[e2,m5 nbn];exact hb3
    |succ j=>
     have q1:as[j]? =some a:=q1
     rw[m5 (xE a (aC q1))]
     exact s3 _ _ (hA.2 j a t q1 q2)
   ·rcases List.mem_cons.mp ha with z|z
    ·rw[z];exact nbn
    ·exact xE a z
  ·rintro σ H' ⟨v5,bh,as,rfl,sm,hM,hA,xE,h0⟩
   exact⟨_,rfl,k H' ms as sm aar hM hA⟩
def F1:Sp:=λ vs H Q _=>∃(a b c:ag) (as:List ag) (f:ae) (d:List Nat) (B:Nat),vs=[.ref a,.ref b,.ref c,.int (B:Nat)]/\uq f/\H a=some (.lst (as.map V.ref))/\TabsAt H as (n_ f)/\H b=some (.lst (nY d))/\H c=some (.lst (nY (f.cells.map (·.time))))/\d.length=f.cells.length/\(∀n∈d,n<=20)/\f.cells.length<=16/\B<=100/\GI H Q (nY (f_ f d B))
abbrev IM:List Str:=["tables","had","times","greatest","gains","most","row","spare","cell","time","gained","many","table","efforts"]
theorem F2:m_ IM ["tables","had","times","greatest"] (m6 yd):=qi
theorem ON(F:pJ K "thrift_row" "thrift_row" yd f fd)(xJ:mg "zip"=none)(yE:rC P w K mg base oH 1 "cell_gains" ["table","efforts"] FU)(yF:rC P w K mg base oH 2 "most_gains" ["gains","times","greatest"] FY)(qm:mg "enumerate"=none)(vf:rC P w K mg base oH 1 "choices" ["gains","time","behind","spare"] E1)(OM:mg "max"=none):nU P w K mg base oH 3 f fd ["tables","had","times","greatest"] F1:=by
 refine F.ok F2 (λ vs H Q E h=>?_) (λ oX A outer s H vs Q E hr h=>?_)
 ·obtain⟨a,b,c,as,f,d,B,rfl,_⟩:=h
  rfl
 ·obtain⟨a,b,c,as,f,d,B,rfl,T,ha,hT,hb,hc,hd,tE,GJ,hB,k⟩:=h
  have nd:=F2.nd
  refine⟨_,(mY (zO (i:=4) (own:=[("table",12),("efforts",13)]) rfl nd rfl rfl rfl (Er rfl xJ (mX (pv 0) (mX (pv 1) mZ))) (by exact pD.of (N:=IM) (sc:=m6 yd) (by decide +kernel)) (λ _ _ _ _ _=>by exact(A3 K (n:=2) rfl (oK (nB (i:=12) nd rfl (Or.inl rfl)) (oK (nB (i:=13) nd rfl (Or.inl rfl)) rD)))) (λ _ _ _ _ _=>by exact oS) (λ _ _ _ _ _=>by exact(nA (E:=E0) yE hr (by decide) nv (mX (pv 12) (mX (pv 13) mZ)))))
   (mY (m9 (i:=5) nd rfl (Or.inl rfl) (nA (E:=E0) yF hr (by decide) nv (mX (pv 4) (mX (pv 2) (mX (pv 3) mZ)))))
   (mY (m9 (i:=6) nd rfl (Or.inl rfl) (nQ mZ))
   (mY (m9 (i:=7) nd rfl (Or.inl rfl) (pv 3))
   (mY (qC PassesOwn.never rfl (C6 rfl qm (mX (pv 2) mZ)) (zG rfl (oK (nB (i:=8) nd rfl (Or.inl rfl)) (oK (nB (i:=9) nd rfl (Or.inl rfl)) rD))) (mY (m9 (i:=10) nd rfl (Or.inl rfl) (nA (E:=E0) vf hr (by decide) nv (mX (pd oh (pv 4) (pv 8) (λ _ _=>rfl)) (mX (pv 9) (mX (pd oh (pv 5) (om qW (pv 8) nP) (λ _ _=>rfl)) (mX (pv 7) mZ))))))
   (mY (m9 (i:=11) nd rfl (Or.inl rfl) (qU aH jt PySem.F.type_list_index Wx (pv 10) (mX (nN (Qn rfl) rfl OM lx (mX (pv 10) mZ)) mZ)))
   (mY (og (qU aH bc a_ pG (pv 6) (mX (pv 11) mZ)))
   (m7 (G_ (i:=7) nd rfl (Or.inl rfl) (om wR (pv 11) (pv 9)) Qb))))))
   (m7 (nq (pv 6)))))))),?_⟩
  have lA:as.length=f.cells.length:=by rw[hT.1,pP]
  refine⟨_,rfl,_,rfl,a,b,_,_,rfl,nF.of ha,nF.of hb,?_⟩
  refine QU (Hr (K:=K) (nF.of ha) (nF.of hb) (by rw[nj,aa,lA,hd])) (λ j=>.lst (nY (gl f d j))) (by rw[aa,aA];omega) (λ j y H3 R3 N3 hj pH hF kk=>?_) (λ ga H1 gs hga s1 adP hlen hgs=>?_)
  ·obtain⟨TT,x1,y1,rfl,q1,q2,Vk⟩:=hF
   obtain⟨n,e1,rfl⟩:=ow q2
   rw[ak]at q1
   cases e2:as[j]? with
   |none=>rw[e2]at q1;cases q1
   |some aj=>
    rw[e2]at q1;cases q1
    have Ze:j<f.cells.length:=by rw[<-lA];exact(List.getElem?_eq_some_iff.mp e2).1
    have ec:f.cells[j]? =some f.cells[j]:=af Ze
    have q3:(n_ f)[j]? =some (rH f.cells[j].weight f.cells[j].finds f.parts):=by
     unfold n_
     rw[ak,ec];rfl
    have gd:d.getD j 0=n:=by rw[aB,e1];rfl
    refine⟨TT,_,rfl,Bj.of Vk,rfl,_,_,rfl,_,_,rfl,rfl,rfl,sE ⟨_,rfl,_,rfl,aj,_,f,j,n,rfl,pH _ _ (hT.2 j aj _ e2 q3),λ m hm=>by rw[wB ec];exact vC hm,Ze,tE n (aC e1),λ H4 p s4 hp hp4=>kk p H4 s4 hp ?_⟩⟩
    rw[hp4]
    unfold gl
    rw[gd]
  rw[aa,lA]at hlen
  have hG:TabsAt H1 gs ((az f.cells.length).map (gl f d)):=⟨by rw[hlen,aa,aR],λ j a' t q1 q2=>by
   have hj:j<f.cells.length:=by rw[<-hlen];exact(List.getElem?_eq_some_iff.mp q1).1
   rw[ak,bf hj]at q2
   rw[(hgs j a' q1).2,<-Option.some.inj q2]⟩
  refine⟨_,rfl,_,rfl,_,rfl,ga,c,gs,f,d,B,rfl,T,adP,hG,s1 _ _ hc,GJ,hB,λ H2 ms ts s2 hms ae1 hts=>?_⟩
  have vE:=s1.trans s2
  refine⟨aE _,λ wc hrw=>?_⟩
  have adQ:=none_of vE hrw
  have ae2:=ve f d B f.cells.length
  refine⟨_,rfl,_,rfl,c,_,rfl,nF.of (vE.put adQ _ _ hc),Dr (K:=K) (a:=c) (xs:=nY (f.cells.map (·.time))) (λ i σ H'=>∃(v8 v9 v10 v11:Option V) (R:List Nat) (b':Nat),σ=[some (.ref a),some (.ref b),some (.ref c),some (.int (B:Nat)),some (.ref ga),some (.ref ms),some (.ref wc),some (.int (b':Nat)),v8,v9,v10,v11,none,none]/\m8 H2 H'/\H' wc=some (.lst (nY R))/\R.length=i/\b'<=B/\f_ f d B=R++gB f d i b' ((b8 f d B f.cells.length).drop i))
   ⟨none,none,none,none,[],B,rfl,m8.new hrw,m4,rfl,ax _,rfl⟩ (λ i σ H' _ ⟨_,_,_,_,_,_,_,sm,_⟩=>nF.of (sm _ _ (vE _ _ hc))) ?_ ?_⟩
  ·rintro i x TT σ H' hx ⟨v8,v9,v10,v11,R,b',rfl,sm,hR,hRl,hb',heq⟩ Vk
   obtain⟨tm,q,rfl⟩:=ow hx
   have hi:i<f.cells.length:=by have:=(List.getElem?_eq_some_iff.mp q).1;rw[aa]at this;exact this
   have etm:tm=(bz f i).time:=by rw[G5 hi]at q;exact(Option.some.inj q).symm
   subst etm
   have t20:=uO T i
   have sT:m8 H2 (upd H' TT (.tup [.int (i:Nat),.int ((bz f i).time:Nat)])):=sm.trans (m8.new Vk)
   have nR:wc≠TT:=λ q=>by rw[<-q,hR]at Vk;cases Vk
   obtain⟨s,w1,w2⟩:=table_at f d B f.cells.length i hi (ax _)
   rw[show f.cells.length-(f.cells.length-i)=i by omega]at w2
   have g1:gs[i]? =some (gs[i]'(by omega)):=af _
   have g2:((az f.cells.length).map (gl f d))[i]? =some (gl f d i):=by rw[ak,bf hi];rfl
   have g3:=s2 _ _ (hG.2 i _ _ g1 g2)
   have g4:(gs.map V.ref)[i]? =some (V.ref (gs[i]'(by omega))):=by rw[ak,g1];rfl
   have lts:ts.length=f.cells.length+1:=by rw[hts.1,ae2]
   have m1:ts[i+1]? =some (ts[i+1]'(by omega)):=af _
   have m2:(ts.map V.ref)[i+1]? =some (V.ref (ts[i+1]'(by omega))):=by rw[ak,m1];rfl
   have m3:=hts.2 (i+1) _ _ m1 w1
   have ls:=EZ f d B _ s (aC w1)
   refine⟨TT,_,rfl,Bj.of m4,rfl,_,_,rfl,_,_,rfl,rfl,?_⟩
   refine⟨_,rfl,_,rfl,ga,_,_,_,rfl,rfl,nF.of (sT _ _ (s2 _ _ adP)),ou g4,_,rfl,_,rfl,_,rfl,_,_,rfl,rfl,ms,_,_,_,rfl,rfl,nF.of (sT _ _ ae1),ou m2,_,rfl,gs[i]'(by omega),ts[i+1]'(by omega),gl f d i,s,(bz f i).time,b',rfl,sT _ _ g3,sT _ _ m3,by rw[EY];omega,t20.2,by omega,λ H4 gd s4 hgd acw=>?_⟩
   obtain⟨n1,n2,n3,n4⟩:=Ya (f:=f) (d:=d) (c:=i) (b:=b') (B:=B) (s:=s) t20.1 hb' _ rfl _ rfl
   have neL:Wf (gl f d i) (bz f i).time s b'≠[]:=by
    intro z;rw[z]at n1;simp at n1
   generalize hL:Wf (gl f d i) (bz f i).time s b'=L at *
   generalize hn:thN f d i b' (dR f d i B s) s=n at *
   refine⟨_,rfl,.inl ⟨rfl,_,nF.of acw⟩,_,rfl,gd,_,rfl,My acw,?_,λ m hm1 hm2=>?_⟩
   ·rw[aa];exact b_ λ z=>neL (List.length_eq_zero_iff.mp z)
   have em:=IK hm1 hm2
   subst em
   refine⟨gd,_,_,n,_,rfl,rfl,nF.of acw,rfl,?_,oV n1,?_,λ m z' hmn Wa=>?_,?_⟩
   ·rw[fA]
    intro z hz
    obtain⟨z0,_,rfl⟩:=List.mem_map.mp hz
    rfl
   ·show((vK L:Int) == (vK L:Int))=true
    exact beq_self_eq_true _
   ·obtain⟨z0,q0,rfl⟩:=ow Wa
    have:=n2 m z0 hmn q0
    show((z0:Int) == (vK L:Int))=false
    rw[beq_eq_false_iff_ne];omega
   have Zc:H4 wc=some (.lst (nY R)):=s4 _ _ (by rw[m5 nR];exact hR)
   refine⟨_,rfl,.inl ⟨rfl,_,nF.of Zc⟩,_,rfl,wc,_,_,rfl,rfl,Zc,(by rw[nj,aA];omega),?_⟩
   refine⟨_,rfl,_,rfl,_,rfl,_,_,rfl,rfl,K2 (t:=n) (by omega) _,Ms (z:=((b'-n*(bz f i).time:Nat):Int)) ?_ ?_⟩
   ·rw[Int.ofNat_sub n3,Int.natCast_mul]
   refine⟨_,_,_,_,R++[n],b'-n*(bz f i).time,rfl,(sT.trans s4).put hrw,?_,by rw[aw,hRl];rfl,by omega,?_⟩
   ·rw[m4];unfold nY;rw[aF];rfl
   ·rw[heq,yy w2,yy w1,K4,hn,bB];rfl
  ·rintro σ H' ⟨v8,v9,v10,v11,R,b',rfl,sm,hR,hRl,hb',heq⟩
   rw[nj,aa]at heq
   have e1:(b8 f d B f.cells.length).drop f.cells.length=[((b8 f d B f.cells.length)[f.cells.length]'(by omega))]:=by
    rw[d9 (by omega),gP (by omega)]
   rw[e1]at heq
   have e2:f_ f d B=R:=by rw[heq];exact bD _
   rw[e2]at k
   exact⟨_,rfl,k H' wc (vE.trans sm) adQ hR⟩
def pick(I:Nat->Bool)(k:Nat)(ts:List aL):List aL:=((ts.zipIdx k).filter λ x=>I x.2).map (·.1)
theorem IP(I:Nat->Bool)(k:Nat):pick I k []=[]:=rfl
theorem tS(I:Nat->Bool)(k:Nat)(t:aL)(ts:List aL):pick I k (t::ts)=(if I k=true then[t]else[])++pick I (k+1) ts:=by
 unfold pick
 rw[d8,ft]
 by_cases h:I k=true
 ·rw[if_pos h,if_pos h];rfl
 ·rw[if_neg h,if_neg h];rfl
theorem IQ(I:Nat->Bool):∀(ts:List aL) (k:Nat) (t:aL),t∈pick I k ts↔ ∃i,ts[i]? =some t/\I (k+i)=true
 |[],k,t=>by rw[IP];simp
 |a::ts,k,t=>by
  rw[tS,lE,IQ I ts (k+1) t]
  constructor
  ·rintro(h|⟨i,h1,h2⟩)
   ·by_cases hk:I k=true
    ·rw[if_pos hk]at h
     have:t=a:=by simpa using h
     exact⟨0,by rw[this];rfl,hk⟩
    ·rw[if_neg hk]at h;cases h
   ·exact⟨i+1,h1,by rw[show k+(i+1)=k+1+i by omega];exact h2⟩
  ·rintro⟨i,h1,h2⟩
   cases i with
   |zero=>
    refine .inl ?_
    have h2:I k=true:=h2
    rw[if_pos h2]
    cases h1;simp
   |succ i=>exact .inr ⟨i,h1,by rw[show k+1+i=k+(i+1) by omega];exact h2⟩
theorem Cu{I J:Nat->Bool}:∀(ts:List aL) (k:Nat),(∀i,k<=i->I i=J i)->pick I k ts=pick J k ts
 |[],_,_=>rfl
 |t::ts,k,h=>by rw[tS,tS,h k (ax _),Cu ts (k+1) λ i hi=>h i (by omega)]
def vL{α:Type}(made:List (List α))(t:α):List (List α):=made++made.map λ L=>L++[t]
def nL{α:Type}(ts:List α):List (List α):=ts.foldl vL [[]]
theorem OO:∀(ts:List aL) (made:List (List aL)) (k:Nat) (L:List aL),L∈ts.foldl vL made↔ ∃M∈made,∃I,L=M++pick I k ts
 |[],made,k,L=>by
  rw[List.foldl_nil]
  constructor
  ·intro h;exact⟨L,h,λ _=>false,by rw[IP,bD]⟩
  ·rintro⟨M,hM,I,rfl⟩;rw[IP,bD];exact hM
 |t::ts,made,k,L=>by
  rw[ck,OO ts (vL made t) (k+1) L]
  constructor
  ·rintro⟨M,hM,I,rfl⟩
   rcases List.mem_append.mp hM with h|h
   ·refine⟨M,h,λ i=>if i=k then false else I i,?_⟩
    rw[tS]
    simp only[if_true]
    rw[Cu (I:=λ i=>if i=k then false else I i) (J:=I) ts (k+1) λ i hi=>if_neg (by omega)]
    rfl
   ·obtain⟨M0,h0,rfl⟩:=List.mem_map.mp h
    refine⟨M0,h0,λ i=>if i=k then true else I i,?_⟩
    rw[tS]
    simp only[if_true]
    rw[Cu (I:=λ i=>if i=k then true else I i) (J:=I) ts (k+1) λ i hi=>if_neg (by omega),bB]
  ·rintro⟨M,hM,I,rfl⟩
   rw[tS]
   by_cases h:I k=true
   ·rw[if_pos h]
    exact⟨M++[t],cy _ (c9 hM),I,by rw[bB]⟩
   ·rw[if_neg h]
    exact⟨M,ic _ hM,I,rfl⟩
theorem wI(ts:List aL)(L:List aL):L∈nL ts↔ ∃I,L=pick I 0 ts:=by
 unfold nL
 rw[OO ts [[]] 0 L]
 constructor
 ·rintro⟨M,hM,I,rfl⟩
  have:M=[]:=by simpa using hM
  exact⟨I,by rw[this];rfl⟩
 ·rintro⟨I,rfl⟩;exact⟨[],by simp,I,rfl⟩
def rR(ts:List aL):Nat:=aZ (ts.map λ t=>t.efforts)
theorem A9(t:aL)(ts:List aL):rR (t::ts)=t.efforts+rR ts:=by unfold rR;rw[aG,oy]
theorem OP:∀(a b:List aL),rR (a++b)=rR a+rR b
 |[],b=>by show rR b=0+ _;omega
 |t::a,b=>by rw[jc,A9,A9,OP a b];omega
def uu(L:List aL)(c:Nat):Bool:=L.any λ t=>t.cells.contains c
def reach(f:ae)(I:Nat->Bool)(c:Nat):Bool:=uu (pick I 0 f.teams) c
theorem E2{f:ae}{I:Nat->Bool}{c:Nat}:reach f I c=true↔ ∃i t,f.teams[i]? =some t/\I i=true/\c∈t.cells:=by
 unfold reach uu
 rw[dI]
 constructor
 ·rintro⟨t,h1,h2⟩
  obtain⟨i,h3,h4⟩:=(IQ I f.teams 0 t).mp h1
  rw[cW]at h4
  exact⟨i,t,h3,h4,List.contains_iff_mem.mp h2⟩
 ·rintro⟨i,t,h1,h2,h3⟩
  exact⟨t,(IQ I f.teams 0 t).mpr ⟨i,h1,by rw[cW];exact h2⟩,List.contains_iff_mem.mpr h3⟩
def Ak(f:ae)(I:Nat->Bool):Nat:=(slots f).countP λ t=> !I t
theorem IS(I:Nat->Bool):∀(ts:List aL) (k:Nat),(((ts.zipIdx k).flatMap λ x=>cG x.1.efforts x.2).countP λ t=> !I t)+rR (pick I k ts)=rR ts
 |[],k=>rfl
 |t::ts,k=>by
  rw[d8,eX,List.countP_append,tS,OP,A9,List.countP_replicate]
  have ih:=IS I ts (k+1)
  by_cases h:I k=true
  ·have h1:(!I k)=false:=by rw[h];rfl
   rw[if_pos h,h1,A9]
   have:rR ([]:List aL)=0:=rfl
   simp only[kJ,if_false]
   omega
  ·have h1:(!I k)=true:=by simp[h]
   rw[if_neg h,h1]
   have:rR ([]:List aL)=0:=rfl
   simp only[if_true]
   omega
theorem TN(f:ae)(I:Nat->Bool):Ak f I+rR (pick I 0 f.teams)=rR f.teams:=IS I f.teams 0
theorem Vo(f:ae):(slots f).length=rR f.teams:=by
 have h:=TN f λ _=>false
 have e1:pick (λ _=>false) 0 f.teams=[]:=by unfold pick;simp
 have e2:Ak f (λ _=>false)=(slots f).length:=by unfold Ak;simp
 rw[e1,e2]at h
 exact h
theorem Mz{f:ae}{s c:Nat}:cD f s c=true↔ ∃i t,(slots f)[s]? =some i/\f.teams[i]? =some t/\c∈t.cells:=by
 unfold cD
 constructor
 ·intro h
  cases q:(slots f)[s]? with
  |none=>rw[q]at h;cases h
  |some i=>
   rw[q,dE]at h
   cases q2:f.teams[i]? with
   |none=>rw[q2]at h;cases h
   |some t=>
    rw[q2]at h
    exact⟨i,t,rfl,q2,List.contains_iff_mem.mp h⟩
 ·rintro⟨i,t,h1,h2,h3⟩
  rw[h1,dE,h2]
  exact List.contains_iff_mem.mpr h3
theorem IU{f:ae}{s c:Nat}(h:cD f s c=true):s<(slots f).length:=by
 obtain⟨i,t,h1,_⟩:=Mz.mp h
 exact(List.getElem?_eq_some_iff.mp h1).1
structure PU(f:ae)(u:Use):Prop where
 nd:(u.map (·.1)).Nodup
 ok:∀x∈u,cD f x.1 x.2=true
def yG(f:ae)(seen:List Nat):Nat:=(az (slots f).length).countP λ s=> !seen.contains s
theorem K6{α:Type}{p q:α->Bool}:∀{l:List α},(∀x∈l,p x=true->q x=true)->(∃x∈l,q x=true/\p x=false)->l.countP p<l.countP q
 |[],_,⟨x,hx,_⟩=>by cases hx
 |a::l,h,⟨x,hx,h1,h2⟩=>by
  have mono:∀l':List α,(∀y∈l',p y=true->q y=true)->l'.countP p<=l'.countP q:=λ l' g=>List.countP_mono_left g
  rw[fz,fz]
  rcases List.mem_cons.mp hx with e|e
  ·subst e
   rw[h1,h2]
   have:=mono l λ y hy=>h y (by simp[hy])
   simp;omega
  ·have ih:=K6 (l:=l) (λ y hy=>h y (by simp[hy])) ⟨x,e,h1,h2⟩
   have ha:=h a (by simp)
   cases pa:p a with
   |false=>simp;omega
   |true=>rw[ha pa];simp;omega
theorem Vp{f:ae}{seen q:List Nat}{s:Nat}(hs:s<(slots f).length)(h1:s∉q)(h2:∀t∈seen,t∈q):yG f (s::q)<yG f seen:=by
 refine K6 (λ x _ hx=>?_) ⟨s,List.mem_range.mpr hs,?_,?_⟩
 ·rw[iU,<-gI,dk]at hx ⊢
  exact λ z=>hx (aQ _ (h2 x z))
 ·rw[iU,<-gI,dk]
  exact λ z=>h1 (h2 s z)
 ·rw[Bool.not_eq_false',dk];simp
theorem Rq{f:ae}{u:Use}(M:PU f u)(p:Nat×Nat->Bool):PU f (u.filter p):=
 ⟨List.Nodup.sublist (List.filter_sublist.map _) M.nd,λ x hx=>M.ok x ((List.mem_filter.mp hx).1)⟩
theorem OQ:∀{u:Use} {x:Nat×Nat},(u.map (·.1)).Nodup->x∈u->u.Perm (x::u.filter λ y=>y.1 != x.1)
 |[],x,_,h=>by cases h
 |a::u,x,nd,h=>by
  rw[aG,gU]at nd
  rcases List.mem_cons.mp h with e|e
  ·subst e
   rw[ft,if_neg (by simp)]
   have:u.filter (λ y=>y.1 != x.1)=u:=by
    rw[List.filter_eq_self]
    intro y hy
    rw[bne_iff_ne]
    intro q
    exact nd.1 (by rw[<-q];exact c9 hy)
   rw[this]
  ·have ne:(a.1 != x.1)=true:=by
    rw[bne_iff_ne]
    intro q
    exact nd.1 (by rw[q];exact c9 e)
   rw[ft,if_pos ne]
   exact((OQ nd.2 e).cons a).trans (List.Perm.swap x a _)
def MA(f:ae)(c:Nat)(seen:List Nat)(u:Use)(pre:List Nat)(r:Option Use×List Nat):Prop:=(∀s∈seen,s∈r.2)/\match r.1 with
 |some v=>PU f v/\(v.map (·.2)).Perm (c::u.map (·.2))/\∀s∈v.map (·.1),s∈u.map (·.1)\/s∉seen
 |none=>(∀s∈pre,s∈r.2)/\∀s∈r.2,s∉seen->∃c',(s,c')∈u/\∀s',cD f s' c'=true->s'∈r.2
def MB(f:ae)(k c:Nat)(u:Use)(r:Option Use×List Nat)(s:Nat):Option Use×List Nat:=match r.1 with
  |some _=>r
  |none=>if r.2.contains s=true then r else match u.find? λ x=>x.1 == s with
   |none=>(some ((s,c)::u),s::r.2)
   |some x=>match iq f k x.2 (s::r.2) (u.filter λ y=>y.1 != s)with
    |(some v,q)=>(some ((s,c)::v),q)
    |(none,q)=>(none,q)
theorem MC(f:ae)(k c:Nat)(seen:List Nat)(u:Use):iq f (k+1) c seen u=((az (slots f).length).filter λ s=>cD f s c).foldl (MB f k c u) (none,seen):=rfl
theorem Rr{f:ae}{k c:Nat}{u:Use}{seen pre:List Nat}{r:Option Use×List Nat}{s:Nat}(M:PU f u)(hs:cD f s c=true)(hk:yG f seen<k+1)
  (ih:∀(c:Nat) (seen:List Nat) (u:Use),PU f u->yG f seen<k->MA f c seen u ((az (slots f).length).filter λ s=>cD f s c) (iq f k c seen u))(h:MA f c seen u pre r):MA f c seen u (pre++[s]) (MB f k c u r s):=by
 obtain⟨o,q⟩:=r
 cases o with
 |some v=>exact h
 |none=>
  obtain⟨h1,h2,h3⟩:=h
  have h1:∀t∈seen,t∈q:=h1
  have h2:∀t∈pre,t∈q:=h2
  have h3:∀t∈q,t∉seen->∃c',(t,c')∈u/\∀s',cD f s' c'=true->s'∈q:=h3
  show MA f c seen u (pre++[s]) (if q.contains s=true then(none,q)else _)
  by_cases hc:q.contains s=true
  ·rw[if_pos hc]
   refine⟨h1,λ t ht=>?_,h3⟩
   rcases List.mem_append.mp ht with z|z
   ·exact h2 t z
   ·have:t=s:=by simpa using z
    rw[this];exact List.contains_iff_mem.mp hc
  ·rw[if_neg hc]
   have Zh:s∉q:=λ z=>hc (List.contains_iff_mem.mpr z)
   have hss:s∉seen:=λ z=>Zh (h1 s z)
   cases fd:u.find? (λ x=>x.1 == s)with
   |none=>
    rw[kH]at fd
    have su:s∉u.map (·.1):=λ z=>by
     obtain⟨x,hx,e⟩:=List.mem_map.mp z
     exact fd x hx (by rw[e];exact beq_self_eq_true s)
    refine⟨λ t ht=>aQ _ (h1 t ht),⟨?_,λ x hx=>?_⟩,List.Perm.refl _,λ t ht=>?_⟩
    ·rw[aG,gU];exact⟨su,M.nd⟩
    ·rcases List.mem_cons.mp hx with e|e
     ·rw[e];exact hs
     ·exact M.ok x e
    ·rw[aG]at ht
     rcases List.mem_cons.mp ht with e|e
     ·rw[e];exact .inr hss
     ·exact .inl e
   |some x=>
    have hx:x∈u:=jC fd
    have ex:x.1=s:=eq_of_beq (List.find?_some (p:=λ(x:Nat×Nat)=>x.1 == s) fd)
    have M':=Rq M λ y=>y.1 != s
    have po:=OQ M.nd hx
    rw[ex]at po
    have I:=ih x.2 (s::q) _ M' (by have:=Vp (f:=f) (IU hs) Zh h1;omega)
    have nb:s∉(u.filter λ y=>y.1 != s).map (·.1):=λ z=>by
     obtain⟨y,hy,e⟩:=List.mem_map.mp z
     have:=(List.mem_filter.mp hy).2
     rw[bne_iff_ne]at this
     exact this e
    have fu:∀t∈(u.filter λ y=>y.1 != s).map (·.1),t∈u.map (·.1):=λ t ht=>by
     obtain⟨y,hy,e⟩:=List.mem_map.mp ht
     exact List.mem_map.mpr ⟨y,(List.mem_filter.mp hy).1,e⟩
    dsimp only
    generalize iq f k x.2 (s::q) (u.filter λ y=>y.1 != s)=R at I
    obtain⟨o2,q2⟩:=R
    cases o2 with
    |some v=>
     obtain⟨i1,i2,i3,i4⟩:=I
     have i1:∀t∈s::q,t∈q2:=i1
     have sv:s∉v.map (·.1):=λ z=>by
      rcases i4 s z with e|e
      ·exact nb e
      ·exact e (by simp)
     refine⟨λ t ht=>i1 t (by simp[h1 t ht]),⟨?_,λ y hy=>?_⟩,?_,λ t ht=>?_⟩
     ·rw[aG,gU];exact⟨sv,i2.nd⟩
     ·rcases List.mem_cons.mp hy with e|e
      ·rw[e];exact hs
      ·exact i2.ok y e
     ·rw[aG]
      refine List.Perm.cons c (i3.trans ?_)
      have:=(po.map (·.2)).symm
      rw[aG]at this
      exact this
     ·rw[aG]at ht
      rcases List.mem_cons.mp ht with e|e
      ·rw[e];exact .inr hss
      ·rcases i4 t e with z|z
       ·exact .inl (fu t z)
       ·exact .inr λ y=>z (by simp[h1 t y])
    |none=>
     obtain⟨i1,i2,i3⟩:=I
     have i1:∀t∈s::q,t∈q2:=i1
     have i2:∀t∈(az (slots f).length).filter (λ s=>cD f s x.2),t∈q2:=i2
     refine⟨λ t ht=>i1 t (by simp[h1 t ht]),λ t ht=>?_,λ t ht hts=>?_⟩
     ·rcases List.mem_append.mp ht with z|z
      ·exact i1 t (by simp[h2 t z])
      ·have:t=s:=by simpa using z
       rw[this];exact i1 s (by simp)
     ·have ht:t∈q2:=ht
      by_cases htq:t∈q
      ·obtain⟨c',e1,e2⟩:=h3 t htq hts
       exact⟨c',e1,λ s' z=>i1 s' (by simp[e2 s' z])⟩
      ·by_cases adR:t=s
       ·subst adR
        refine⟨x.2,by rw[<-ex];exact hx,λ s' z=>i2 s' (List.mem_filter.mpr ⟨List.mem_range.mpr (IU z),z⟩)⟩
       ·obtain⟨c',e1,e2⟩:=i3 t ht (by simp[adR,htq])
        exact⟨c',(List.mem_filter.mp e1).1,e2⟩
theorem OR{f:ae}{k c:Nat}{u:Use}{seen:List Nat}(M:PU f u)(hk:yG f seen<k+1)
  (ih:∀(c:Nat) (seen:List Nat) (u:Use),PU f u->yG f seen<k->MA f c seen u ((az (slots f).length).filter λ s=>cD f s c) (iq f k c seen u)):
  ∀(L pre:List Nat) (r:Option Use×List Nat),(∀s∈L,cD f s c=true)->MA f c seen u pre r->MA f c seen u (pre++L) (L.foldl (MB f k c u) r)
 |[],pre,r,_,h=>by rw[bD];exact h
 |s::L,pre,r,hL,h=>by
  have h':=Rr M (hL s (by simp)) hk ih h
  have:=OR M hk ih L (pre++[s]) _ (λ t ht=>hL t (by simp[ht])) h'
  rw[bB]at this
  exact this
theorem Cv{f:ae}:∀(k c:Nat) (seen:List Nat) (u:Use),PU f u->yG f seen<k->MA f c seen u ((az (slots f).length).filter λ s=>cD f s c) (iq f k c seen u)
 |0,c,seen,u,_,h=>by omega
 |k+1,c,seen,u,M,h=>by
  rw[MC]
  have h0:MA f c seen u [] (none,seen):=And.intro (λ s hs=>hs) (show(∀s∈([]:List Nat),s∈seen)/\∀s∈seen,s∉seen->∃c',(s,c')∈u/\∀s',cD f s' c'=true->s'∈seen from⟨λ s hs=>absurd hs cJ,λ s hs hn=>absurd hs hn⟩)
  have:=OR (c:=c) M h (Cv k) ((az (slots f).length).filter λ s=>cD f s c) [] (none,seen) (λ s hs=>(List.mem_filter.mp hs).2) h0
  rw[gW]at this
  exact this
def qY(f:ae)(I:Nat->Bool)(l:List Nat):Nat:=l.countP λ c=> !reach f I c
def xP(f:ae)(l:List Nat):Prop:=∀I,qY f I l<=Ak f I
theorem OS{f:ae}{I:Nat->Bool}{l m:List Nat}(h:l.Perm m):qY f I l=qY f I m:=h.countP_eq _
theorem xP.perm{f:ae}{l m:List Nat}(h:l.Perm m)(F:xP f l):xP f m:=λ I=>by rw[<-OS h];exact F I
theorem xP.sub{f:ae}{l m:List Nat}(h:l.Sublist m)(F:xP f m):xP f l:=λ I=>aT (h.countP_le) (F I)
theorem IV(f:ae)(I:Nat->Bool):Ak f I=((az (slots f).length).filter λ s=> !I ((slots f).getD s 0)).length:=by
 have e:slots f=(az (slots f).length).map λ s=>(slots f).getD s 0:=by
  apply bO
  intro i
  rw[ak]
  by_cases hi:i<(slots f).length
  ·rw[bf hi];exact getD_at hi
  ·rw[aI (by omega),aI (by rw[aR];omega)];rfl
 unfold Ak
 conv=>lhs;rw[e]
 rw[ji,dS];rfl
theorem IX{f:ae}{u:Use}(M:PU f u):xP f (u.map (·.2)):=λ I=>by
 unfold qY
 rw[ji,dS,IV,<-aa (f:=(·.1)) (as:=u.filter _)]
 refine List.Nodup.length_le_of_subset (List.Nodup.sublist (List.filter_sublist.map _) M.nd) λ s hs=>?_
 obtain⟨x,hx,rfl⟩:=List.mem_map.mp hs
 obtain⟨h1,h2⟩:=List.mem_filter.mp hx
 have h2:(!reach f I x.2)=true:=h2
 have can:=M.ok x h1
 obtain⟨i,t,c1,c2,c3⟩:=Mz.mp can
 refine List.mem_filter.mpr ⟨List.mem_range.mpr (IU can),?_⟩
 rw[aB,c1]
 show(!I i)=true
 cases q:I i with
 |false=>rfl
 |true=>
  have:reach f I x.2=true:=E2.mpr ⟨i,t,c2,q,c3⟩
  rw[this]at h2;cases h2
theorem aas{u:Use}(nd:(u.map (·.1)).Nodup){s a b:Nat}(h1:(s,a)∈u)(h2:(s,b)∈u):a=b:=by
 induction u with
 |nil=>cases h1
 |cons x u ih=>
  rw[aG,gU]at nd
  rcases List.mem_cons.mp h1 with e1|e1
  ·rcases List.mem_cons.mp h2 with e2|e2
   ·have:=e1.trans e2.symm
    exact congrArg Prod.snd this
   ·exact absurd (by rw[<-e1];exact c9 (f:=(·.1)) e2) nd.1
  ·rcases List.mem_cons.mp h2 with e2|e2
   ·exact absurd (by rw[<-e2];exact c9 (f:=(·.1)) e1) nd.1
   ·exact ih nd.2 e1 e2
theorem K7{f:ae}{u v:Use}{c:Nat}(M:PU f u)(h:eZ f c u=some v):PU f v/\(v.map (·.2)).Perm (c::u.map (·.2)):=by
 have A:=Cv (f:=f) ((slots f).length+1) c [] u M (kZ (by unfold yG;exact aT j5 (by rw[aR];exact ax _)))
 unfold eZ at h
 generalize iq f ((slots f).length+1) c [] u=r at A h
 obtain⟨o,q⟩:=r
 cases h
 exact⟨A.2.1,A.2.2.1⟩
theorem K8{f:ae}{u:Use}{c:Nat}(M:PU f u)(h:eZ f c u=none):¬ xP f (c::u.map (·.2)):=by
 have A:=Cv (f:=f) ((slots f).length+1) c [] u M (kZ (by unfold yG;exact aT j5 (by rw[aR];exact ax _)))
 unfold eZ at h
 generalize iq f ((slots f).length+1) c [] u=r at A h
 obtain⟨o,q⟩:=r
 have h:o=none:=h
 subst h
 obtain⟨_,a1,a2⟩:=A
 have a1:∀s∈(az (slots f).length).filter (λ s=>cD f s c),s∈q:=a1
 have a2:∀s∈q,s∉([]:List Nat)->∃c',(s,c')∈u/\∀s',cD f s' c'=true->s'∈q:=a2
 have b1:∀s,cD f s c=true->s∈q:=λ s hs=>a1 s (List.mem_filter.mpr ⟨List.mem_range.mpr (IU hs),hs⟩)
 intro F
 let S:Nat->Bool:=λ x=>x == c || u.any λ y=>y.2 == x && q.contains y.1
 let I:Nat->Bool:=λ i=>match f.teams[i]? with
  |none=>true
  |some t=> !(t.cells.any S)
 have sS:∀x,S x=true->∀s,cD f s x=true->s∈q:=λ x hx s hs=>by
  have hx:(x == c || u.any λ y=>y.2 == x && q.contains y.1)=true:=hx
  rw[gY]at hx
  rcases hx with e|e
  ·rw[eq_of_beq e]at hs;exact b1 s hs
  ·rw[dI]at e
   obtain⟨y,hy,e⟩:=e
   rw[bj]at e
   have hq:=List.contains_iff_mem.mp e.2
   obtain⟨c',z1,z2⟩:=a2 y.1 hq (by simp)
   have e3:y.2=c':=aas M.nd (s:=y.1) hy z1
   have e4:=eq_of_beq e.1
   exact z2 s (by rw[<-e3,e4];exact hs)
 have nS:∀x,S x=true->reach f I x=false:=λ x hx=>by
  cases z:reach f I x with
  |false=>rfl
  |true=>
   obtain⟨i,t,r1,r2,r3⟩:=E2.mp z
   have r2:(match f.teams[i]? with
    |none=>true
    |some t=> !(t.cells.any S))=true:=r2
   rw[r1]at r2
   have:t.cells.any S=true:=List.any_eq_true.mpr ⟨x,r3,hx⟩
   simp only[this]at r2
   cases r2
 have Sc:S c=true:=by show(c == c || _)=true;rw[beq_self_eq_true];rfl
 have le:Ak f I<=qY f I (u.map (·.2)):=by
  unfold qY
  rw[ji,dS,IV,<-aa (f:=(·.1)) (as:=u.filter _)]
  refine List.Nodup.length_le_of_subset (List.Nodup.sublist iz k7) λ s hs=>?_
  obtain⟨h1,h2⟩:=List.mem_filter.mp hs
  have hl:=List.mem_range.mp h1
  have gs:(slots f)[s]? =some ((slots f).getD s 0):=getD_at hl
  generalize (slots f).getD s 0=i at gs h2
  have h2:(!(match f.teams[i]? with
   |none=>true
   |some t=> !(t.cells.any S)))=true:=h2
  cases ti:f.teams[i]? with
  |none=>rw[ti]at h2;cases h2
  |some t=>
   rw[ti]at h2
   have h2:(!(!(t.cells.any S)))=true:=h2
   rw[Bool.not_not,dI]at h2
   obtain⟨x,hx1,C9⟩:=h2
   have sq:s∈q:=sS x C9 s (Mz.mpr ⟨i,t,gs,ti,hx1⟩)
   obtain⟨c',z1,z2⟩:=a2 s sq (by simp)
   refine List.mem_map.mpr ⟨(s,c'),List.mem_filter.mpr ⟨z1,?_⟩,rfl⟩
   show(!reach f I c')=true
   rw[nS c' ?_];rfl
   show(c' == c || u.any λ y=>y.2 == c' && q.contains y.1)=true
   rw[gY]
   refine .inr (List.any_eq_true.mpr ⟨(s,c'),z1,?_⟩)
   rw[bj]
   exact⟨beq_self_eq_true c',List.contains_iff_mem.mpr sq⟩
 have:=F I
 have e:qY f I (c::u.map (·.2))=qY f I (u.map (·.2))+1:=by
  unfold qY
  rw[fz,nS c Sc];rfl
 omega
theorem TQ(f:ae):PU f []:=⟨eV,λ x hx=>by cases hx⟩
theorem TR{f:ae}{u:Use}(M:PU f u):u.length<=(slots f).length:=by
 have:=List.Nodup.length_le_of_subset (l₂:=az (slots f).length) M.nd λ s hs=>by
  obtain⟨x,hx,rfl⟩:=List.mem_map.mp hs
  exact List.mem_range.mpr (IU (M.ok x hx))
 rw[aa,aR]at this
 exact this
theorem K9(f:ae):∀l:List Nat,l.foldl (λ(u:Option Use) c=>u.bind (eZ f c)) none=none
 |[]=>rfl
 |c::l=>K9 f l
theorem K_{f:ae}:∀(l:List Nat) (u:Use),PU f u->((l.foldl (λ(u:Option Use) c=>u.bind (eZ f c)) (some u)).isSome=true↔xP f (l++u.map (·.2)))
 |[],u,M=>⟨λ _=>IX M,λ _=>rfl⟩
 |c::l,u,M=>by
  rw[ck,dE]
  cases h:eZ f c u with
  |some v=>
   obtain⟨M',p⟩:=K7 M h
   rw[K_ l v M']
   have pp:(l++v.map (·.2)).Perm (c::l++u.map (·.2)):=(p.append_left l).trans List.perm_middle
   exact⟨λ F=>F.perm pp,λ F=>F.perm pp.symm⟩
  |none=>
   rw[K9]
   refine⟨λ z=>(by cases z),λ F=>absurd ?_ (K8 M h)⟩
   refine F.sub ?_
   rw[jc]
   exact(List.sublist_append_right l (u.map (·.2))).cons_cons c
def qe(m:Nat)(L:List aL):List Nat:=(az m).filter λ c=> !uu L c
def DK(f:ae)(m:Nat)(L:List aL)(row:List Nat):Int:=((rR f.teams:Nat):Int)-((rR L:Nat):Int)-((aZ ((qe m L).map λ c=>row.getD c 0):Nat):Int)
structure DL(m:Nat)(row l:List Nat):Prop where
 len:row.length=m
 lt:∀c∈l,c<m
 cnt:∀c,c<m->row.getD c 0=l.count c
theorem La{α:Type}(g h:α->Nat):∀(L:List α),aZ (L.map λ x=>g x+h x)=aZ (L.map g)+aZ (L.map h)
 |[]=>rfl
 |x::L=>by rw[aG,aG,aG,oy,oy,oy,La g h L];omega
theorem Lb(c:Nat):∀(L:List Nat),L.Nodup->aZ (L.map λ x=>if c == x then 1 else 0)=if c∈L then 1 else 0
 |[],_=>rfl
 |x::L,nd=>by
  obtain⟨h1,h2⟩:=List.nodup_cons.mp nd
  rw[aG,oy,Lb c L h2]
  by_cases e:c=x
  ·subst e
   rw[if_neg h1];simp
  ·have e1:(c == x)=false:=beq_eq_false_iff_ne.mpr e
   rw[e1]
   by_cases h:c∈L
   ·rw[if_pos h,if_pos (aQ _ h)];simp
   ·rw[if_neg h,if_neg (λ z=>(List.mem_cons.mp z).elim e h)];simp
theorem F3(p:Nat->Bool)(m:Nat):∀(l:List Nat),(∀c∈l,c<m)->l.countP p=aZ (((az m).filter p).map λ c=>l.count c)
 |[],_=>by
  have:∀L:List Nat,aZ (L.map λ c=>([]:List Nat).count c)=0:=λ L=>by
   induction L with
   |nil=>rfl
   |cons x L ih=>rw[aG,oy,ih];rfl
  rw[this];rfl
 |a::l,h=>by
  have e:((az m).filter p).map (λ c=>(a::l).count c)=((az m).filter p).map λ c=>l.count c+if a == c then 1 else 0:=by
   refine bP λ c _=>?_
   rw[eM]
  rw[e,La,<-F3 p m l λ c hc=>h c (by simp[hc]),Lb a _ (List.Nodup.sublist iz k7),fz]
  congr 1
  have ha:=h a (by simp)
  by_cases hp:p a=true
  ·rw[if_pos hp,if_pos (List.mem_filter.mpr ⟨List.mem_range.mpr ha,hp⟩)]
  ·rw[if_neg hp,if_neg (λ z=>hp (List.mem_filter.mp z).2)]
theorem DM{f:ae}{m:Nat}{row l:List Nat}(R:DL m row l)(I:Nat->Bool):DK f m (pick I 0 f.teams) row=((Ak f I:Nat):Int)-((qY f I l:Nat):Int):=by
 have h1:=TN f I
 have h2:qY f I l=aZ ((qe m (pick I 0 f.teams)).map λ c=>row.getD c 0):=by
  unfold qY
  rw[F3 _ m l R.lt]
  congr 1
  refine bP λ c hc=>?_
  exact(R.cnt c (List.mem_range.mp (List.mem_filter.mp hc).1)).symm
 unfold DK
 rw[<-h2];omega
theorem Yb{f:ae}{m:Nat}{row l:List Nat}(R:DL m row l):xP f l↔ ∀L∈nL f.teams,0<=DK f m L row:=by
 constructor
 ·intro F L hL
  obtain⟨I,rfl⟩:=(wI _ _).mp hL
  rw[DM R]
  have:=F I
  omega
 ·intro h I
  have:=h _ ((wI _ _).mpr ⟨I,rfl⟩)
  rw[DM R]at this
  omega
theorem OT{f:ae}{m:Nat}{row l:List Nat}(R:DL m row l)(F:xP f l){c:Nat}(hc:c<m):xP f (c::l)↔ ∀L∈nL f.teams,DK f m L row=0->c∉qe m L:=by
 have e:∀I,qY f I (c::l)=qY f I l+if(!reach f I c)=true then 1 else 0:=λ I=>by
  unfold qY;rw[fz]
 constructor
 ·intro G L hL h0 hm
  obtain⟨I,rfl⟩:=(wI _ _).mp hL
  rw[DM R]at h0
  have g:=G I
  have hr:(!reach f I c)=true:=(List.mem_filter.mp hm).2
  rw[e I,if_pos hr]at g
  omega
 ·intro h I
  have f1:=F I
  rw[e I]
  by_cases hr:(!reach f I c)=true
  ·rw[if_pos hr]
   have:=h _ ((wI _ _).mpr ⟨I,rfl⟩)
   rw[DM R]at this
   have hz:¬ ((Ak f I:Nat):Int)-((qY f I l:Nat):Int)=0:=λ z=>this z (List.mem_filter.mpr ⟨List.mem_range.mpr hc,hr⟩)
   omega
  ·rw[if_neg hr];omega
def xQ(k:Nat)(e:List Nat):List Nat:=(e.zipIdx k).flatMap λ x=>cG x.1 x.2
theorem yH(k a:Nat)(e:List Nat):xQ k (a::e)=cG a k++xQ (k+1) e:=by
 unfold xQ;rw[d8,eX]
theorem E3:∀(e:List Nat) (k c:Nat),c∈xQ k e->k<=c/\c<k+e.length
 |[],k,c,h=>by cases h
 |a::e,k,c,h=>by
  rw[yH]at h
  rcases List.mem_append.mp h with z|z
  ·have:=List.eq_of_mem_replicate z
   rw[aD];omega
  ·have:=E3 e (k+1) c z
   rw[aD];omega
theorem F4:∀(e:List Nat) (k i:Nat),(xQ k e).count (k+i)=e.getD i 0
 |[],k,i=>by show 0=_;simp
 |a::e,k,i=>by
  rw[yH,List.count_append,List.count_replicate]
  cases i with
  |zero=>
   have:(xQ (k+1) e).count k=0:=List.count_eq_zero.mpr λ z=>by have:=E3 e (k+1) k z;omega
   show(if(k == k)=true then a else 0)+(xQ (k+1) e).count k=a
   rw[this,beq_self_eq_true,if_pos rfl];rfl
  |succ i=>
   have h:(k == k+(i+1))=false:=by rw[beq_eq_false_iff_ne];omega
   rw[h,show k+(i+1)=k+1+i by omega,F4 e (k+1) i]
   show 0+ _=e.getD i 0
   omega
theorem Lc(e:List Nat):DL e.length e (xQ 0 e):=⟨rfl,λ c hc=>by have:=E3 e 0 c hc;omega,λ c _=>by
 have:=F4 e 0 c
 rw[cW]at this;exact this.symm⟩
theorem OU(f:ae)(e:List Nat):jE f e=true↔ ∀L∈nL f.teams,0<=DK f e.length L e:=by
 rw[<-Yb (Lc e)]
 have h:=K_ (f:=f) (xQ 0 e) [] (TQ f)
 rw[eW,bD]at h
 exact h
theorem yI:∀(l:List (Option Nat×Nat)) (b:Option (Nat×Nat)),l.Pairwise (λ x y=>x.2<y.2)->(∀y,b=some y->∀x∈l,y.1<x.2)->∀y,l.foldl FC b=some y->
  (b=some y/\∀n c,(some n,c)∈l->n<=y.2)\/((some y.2,y.1)∈l/\(∀y0,b=some y0->y0.2<y.2)/\∀n c,(some n,c)∈l->n<=y.2/\(c<y.1->n<y.2))
 |[],b,_,_,y,h=>.inl ⟨h,λ n c z=>by cases z⟩
 |(o,c)::l,b,pw,hb,y,h=>by
  rw[ck]at h
  obtain⟨p1,p2⟩:=List.pairwise_cons.mp pw
  cases o with
  |none=>
   rw[yo]at h
   rcases yI l b p2 (λ y0 e x hx=>hb y0 e x (by simp[hx])) y h with⟨z1,z2⟩|⟨z1,z2,z3⟩
   ·refine .inl ⟨z1,λ n c' hm=>?_⟩
    rcases List.mem_cons.mp hm with e|e
    ·cases e
    ·exact z2 n c' e
   ·refine .inr ⟨by simp[z1],z2,λ n c' hm=>?_⟩
    rcases List.mem_cons.mp hm with e|e
    ·cases e
    ·exact z3 n c' e
  |some n0=>
   rw[yp]at h
   by_cases hg:gM b<(n0:Int)
   ·rw[if_pos hg]at h
    have X7:∀y0,b=some y0->y0.2<n0:=λ y0 e=>by
     rw[e]at hg
     have:(y0.2:Int)<n0:=hg
     omega
    rcases yI l (some (c,n0)) p2 (λ y0 e x hx=>by cases e;exact p1 x hx) y h with⟨z1,z2⟩|⟨z1,z2,z3⟩
    ·cases z1
     refine .inr ⟨by simp,X7,λ n c' hm=>?_⟩
     rcases List.mem_cons.mp hm with e|e
     ·cases e;exact⟨ax _,λ q=>absurd q (cX _)⟩
     ·exact⟨z2 n c' e,λ q=>absurd (p1 _ e) (by show ¬ c<c';have q:c'<c:=q;omega)⟩
    ·have zz:=z2 _ rfl
     refine .inr ⟨by simp[z1],λ y0 e=>by have:=X7 y0 e;have zz:n0<y.2:=zz;omega,λ n c' hm=>?_⟩
     rcases List.mem_cons.mp hm with e|e
     ·cases e
      have zz:n0<y.2:=zz
      exact⟨by omega,λ _=>zz⟩
     ·exact z3 n c' e
   ·rw[if_neg hg]at h
    cases b with
    |none=>exact absurd (show(-1:Int)<n0 by omega) hg
    |some y0=>
     have hle:n0<=y0.2:=by
      have:¬ (y0.2:Int)<n0:=hg
      omega
     rcases yI l (some y0) p2 (λ y1 e x hx=>hb y1 e x (by simp[hx])) y h with⟨z1,z2⟩|⟨z1,z2,z3⟩
     ·cases z1
      refine .inl ⟨rfl,λ n c' hm=>?_⟩
      rcases List.mem_cons.mp hm with e|e
      ·cases e;exact hle
      ·exact z2 n c' e
     ·have zz:=z2 y0 rfl
      refine .inr ⟨by simp[z1],z2,λ n c' hm=>?_⟩
      rcases List.mem_cons.mp hm with e|e
      ·cases e;exact⟨by omega,λ _=>by omega⟩
      ·exact z3 n c' e
def Cw(f:ae)(d:List Nat)(S:Nat->Prop)(c:Nat):Prop:=S c/\∀x,S x->c8 f x (d.getD x 0)<=c8 f c (d.getD c 0)/\(x<c->c8 f x (d.getD x 0)<c8 f c (d.getD c 0))
theorem Cw.one{f:ae}{d:List Nat}{S:Nat->Prop}{a b:Nat}(ha:Cw f d S a)(hb:Cw f d S b):a=b:=by
 obtain⟨a1,a2⟩:=ha
 obtain⟨b1,b2⟩:=hb
 have h1:=a2 b b1
 have h2:=b2 a a1
 have n1:¬ b<a:=λ z=>by have:=h1.2 z;omega
 have n2:¬ a<b:=λ z=>by have:=h2.2 z;omega
 omega
theorem Ld{f:ae}{d cs:List Nat}{g:Nat->Option Nat}(hs:cs.Pairwise (· < ·))(hg:∀c∈cs,∀n,g c=some n->n=c8 f c (d.getD c 0)):(∀y,tF (cs.map λ c=>(g c,c))=some y->Cw f d (λ x=>x∈cs/\g x≠none) y.1)/\(tF (cs.map λ c=>(g c,c))=none->∀x∈cs,g x=none):=by
 have pw:(cs.map λ c=>(g c,c)).Pairwise (λ x y=>x.2<y.2):=by rw[iS];exact hs
 refine⟨λ y h=>?_,λ h x hx=>Ib _ h (g x,x) (c9 hx)⟩
 rcases yI _ none pw (λ y e=>by cases e) y h with⟨z,_⟩|⟨z1,_,z3⟩
 ·cases z
 ·obtain⟨c,hc,e⟩:=List.mem_map.mp z1
  have e1:g c=some y.2:=congrArg Prod.fst e
  have e2:c=y.1:=congrArg Prod.snd e
  subst e2
  have ey:=hg _ hc _ e1
  refine⟨⟨hc,by rw[e1];intro q;cases q⟩,λ x ⟨hx1,C9⟩=>?_⟩
  cases q:g x with
  |none=>exact absurd q C9
  |some n=>
   have en:=hg x hx1 n q
   have:=z3 n x (List.mem_map.mpr ⟨x,hx1,by rw[q]⟩)
   rw[en,ey]at this
   exact this
theorem DN{f:ae}{d cs:List Nat}(hs:cs.Pairwise (· < ·)):(∀c,bestOf f d cs=some c->Cw f d (λ x=>x∈cs/\d.getD x 0<20) c)/\(bestOf f d cs=none->∀x∈cs,¬ d.getD x 0<20):=by
 have hm:∀x,(if d.getD x 0<20 then some (c8 f x (d.getD x 0))else none)≠none↔d.getD x 0<20:=λ x=>by
  by_cases h:d.getD x 0<20
  ·rw[if_pos h];exact⟨λ _=>h,λ _ q=>by cases q⟩
  ·rw[if_neg h];exact⟨λ q=>absurd rfl q,λ q=>absurd q h⟩
 obtain⟨b1,b2⟩:=Ld (f:=f) (d:=d) (cs:=cs) (g:=λ x=>if d.getD x 0<20 then some (c8 f x (d.getD x 0))else none) hs λ c _ n e=>by
  have e:(if d.getD c 0<20 then some (c8 f c (d.getD c 0))else none)=some n:=e
  by_cases h:d.getD c 0<20
  ·rw[if_pos h]at e;exact(Option.some.inj e).symm
  ·rw[if_neg h]at e;cases e
 constructor
 ·intro c h
  unfold bestOf at h
  cases q:tF (cs.map (Mr f d))with
  |none=>rw[q]at h;cases h
  |some y=>
   rw[q]at h
   cases h
   obtain⟨⟨c1,c2⟩,c3⟩:=b1 y q
   exact⟨⟨c1,(hm _).mp c2⟩,λ x ⟨x1,x2⟩=>c3 x ⟨x1,(hm x).mpr x2⟩⟩
 ·intro h x hx rO
  unfold bestOf at h
  cases q:tF (cs.map (Mr f d))with
  |none=>exact(hm x).mpr rO (b2 q x hx)
  |some y=>rw[q]at h;cases h
def IY(f:ae)(d pO:List Nat):Option Nat:=fW ((fm f d).zipIdx.map λ x=>if pO.contains x.2=true\/x.1=some 0 then none else x.1)
def F5(f:ae)(d pO:List Nat)(c:Nat):Option Nat:=if pO.contains c=true\/(Mr f d c).1=some 0 then none else(Mr f d c).1
theorem MD{f:ae}{d pO:List Nat}:(∀c,IY f d pO=some c->Cw f d (λ x=>x<d.length/\x∉pO/\d.getD x 0<20/\c8 f x (d.getD x 0)≠0) c)/\(IY f d pO=none->∀x,x<d.length->x∉pO->d.getD x 0<20->c8 f x (d.getD x 0)=0):=by
 have e:((fm f d).zipIdx.map λ x=>if pO.contains x.2=true\/x.1=some 0 then none else x.1).zipIdx=(az d.length).map λ c=>(F5 f d pO c,c):=by
  rw[FG,aW]
  apply bO
  intro i
  rw[bQ,ak,ak]
  by_cases hi:i<d.length
  ·rw[bf hi]
   show some (F5 f d pO i,0+i)=some (F5 f d pO i,i)
   rw[cW]
  ·rw[aI (by rw[aR];omega)];rfl
 have hm:∀x,F5 f d pO x≠none↔x∉pO/\d.getD x 0<20/\c8 f x (d.getD x 0)≠0:=λ x=>by
  unfold F5 Mr
  dsimp only
  by_cases hs:x∈pO
  ·rw[if_pos (.inl (List.contains_iff_mem.mpr hs))]
   exact⟨λ q=>absurd rfl q,λ q=>absurd hs q.1⟩
  ·by_cases h:d.getD x 0<20
   ·rw[if_pos h]
    by_cases h0:c8 f x (d.getD x 0)=0
    ·rw[if_pos (.inr (by rw[h0]))]
     exact⟨λ q=>absurd rfl q,λ q=>absurd h0 q.2.2⟩
    ·rw[if_neg (by rintro(z|z);exact hs (List.contains_iff_mem.mp z);exact h0 (Option.some.inj z))]
     exact⟨λ _=>⟨hs,h,h0⟩,λ _ q=>by cases q⟩
   ·rw[if_neg h]
    refine⟨λ q=>absurd ?_ q,λ q=>absurd q.2.1 h⟩
    split <;> rfl
 obtain⟨b1,b2⟩:=Ld (f:=f) (d:=d) (cs:=az d.length) (g:=F5 f d pO) jP λ c _ n e=>by
  have e:(if pO.contains c=true\/(Mr f d c).1=some 0 then none else(Mr f d c).1)=some n:=e
  by_cases h1:pO.contains c=true\/(Mr f d c).1=some 0
  ·rw[if_pos h1]at e;cases e
  ·rw[if_neg h1]at e
   have e:(if d.getD c 0<20 then some (c8 f c (d.getD c 0))else none)=some n:=e
   by_cases h2:d.getD c 0<20
   ·rw[if_pos h2]at e;exact(Option.some.inj e).symm
   ·rw[if_neg h2]at e;cases e
 constructor
 ·intro c h
  unfold IY at h
  rw[wD,e]at h
  cases q:tF ((az d.length).map λ c=>(F5 f d pO c,c))with
  |none=>rw[q]at h;cases h
  |some y=>
   rw[q]at h
   cases h
   obtain⟨⟨c1,c2⟩,c3⟩:=b1 y q
   exact⟨⟨List.mem_range.mp c1,(hm _).mp c2⟩,λ x ⟨x1,x2⟩=>c3 x ⟨List.mem_range.mpr x1,(hm x).mpr x2⟩⟩
 ·intro h x hx h1 h2
  unfold IY at h
  rw[wD,e]at h
  cases q:tF ((az d.length).map λ c=>(F5 f d pO c,c))with
  |none=>
   have:=b2 q x (List.mem_range.mpr hx)
   apply Classical.byContradiction
   intro h3
   exact(hm x).mpr ⟨h1,h2,h3⟩ this
  |some y=>rw[q]at h;cases h
theorem IZ(f:ae)(k:Nat)(d:List Nat)(u:Use)(pO:List Nat):eG f (k+1) d u pO=match IY f d pO with
  |none=>d
  |some c=>match eZ f c u with
   |some v=>eG f k (bump d c) v pO
   |none=>eG f k d u (c::pO):=rfl
theorem xP.ae3{f:ae}{c c0:Nat}{l m:List Nat}(F:xP f (c::m))(p:m.Perm (c0::l)):xP f (c::l):=
 (F.perm ((p.cons c))).sub ((List.sublist_cons_self c0 l).cons_cons c)
structure acx(f:ae)(d:List Nat)(k:Nat)(u:Use)(pO:List Nat):Prop where
 mat:PU f u
 sh:∀c∈pO,¬ xP f (c::u.map (·.2))
 nd:pO.Nodup
 lt:∀c∈pO,c<d.length
 fuel:((slots f).length-u.length)+(d.length-pO.length)<=k
theorem I_{f:ae}{d cs:List Nat}{u:Use}(hs:cs.Pairwise (· < ·))(Mi:∀c,c∈cs↔c<d.length/\xP f (c::u.map (·.2))):∀(k:Nat) (pO:List Nat),acx f d k u pO->
  (∀c,bestOf f d cs=some c->0<c8 f c (d.getD c 0)->∃k' v TU,eG f k d u pO=eG f k' (bump d c) v TU/\acx f (bump d c) k' v TU/\(v.map (·.2)).Perm (c::u.map (·.2)))/\
  ((∀c,bestOf f d cs=some c->c8 f c (d.getD c 0)=0)->eG f k d u pO=d)
 |0,pO,T=>by
  refine⟨λ c hb hg=>?_,λ _=>rfl⟩
  exfalso
  obtain⟨⟨c1,c2⟩,_⟩:=(DN hs).1 c hb
  have F:=((Mi c).mp c1).2 λ _=>false
  have e1:Ak f (λ _=>false)=(slots f).length:=by unfold Ak;simp
  have e2:qY f (λ _=>false) (c::u.map (·.2))=u.length+1:=by
   unfold qY
   have:∀x,reach f (λ _=>false) x=false:=λ x=>by
    cases q:reach f (λ _=>false) x with
    |false=>rfl
    |true=>obtain⟨_,_,_,z,_⟩:=E2.mp q;cases z
   rw[List.countP_eq_length.mpr λ x _=>by rw[this x];rfl,aD,aa]
  rw[e1,e2]at F
  have:=T.fuel
  omega
 |k+1,pO,T=>by
  rw[IZ]
  cases hn:IY f d pO with
  |none=>
   have h0:=MD.2 hn
   refine⟨λ c hb hg=>?_,λ _=>rfl⟩
   exfalso
   obtain⟨⟨c1,c2⟩,_⟩:=(DN hs).1 c hb
   obtain⟨c3,c4⟩:=(Mi c).mp c1
   have:=h0 c c3 (λ z=>T.sh c z c4) c2
   omega
  |some c0=>
   obtain⟨⟨n1,n2,n3,n4⟩,n5⟩:=MD.1 c0 hn
   dsimp only
   cases hv:eZ f c0 u with
   |none=>
    have nf:=K8 T.mat hv
    have nd':(c0::pO).Nodup:=List.nodup_cons.mpr ⟨n2,T.nd⟩
    have lt':∀c∈c0::pO,c<d.length:=λ c hc=>by
     rcases List.mem_cons.mp hc with e|e
     ·rw[e];exact n1
     ·exact T.lt c e
    have len:(c0::pO).length<=d.length:=by
     have:=List.Nodup.length_le_of_subset (l₂:=az d.length) nd' λ c hc=>List.mem_range.mpr (lt' c hc)
     rw[aR]at this;exact this
    rw[aD]at len
    exact I_ hs Mi k (c0::pO) ⟨T.mat,λ c hc=>by
     rcases List.mem_cons.mp hc with e|e
     ·rw[e];exact nf
     ·exact T.sh c e,nd',lt',by have:=T.fuel;rw[aD];omega⟩
   |some v=>
    obtain⟨M',p⟩:=K7 T.mat hv
    have F0:xP f (c0::u.map (·.2)):=(IX M').perm p
    have hc0:c0∈cs:=(Mi c0).mpr ⟨n1,F0⟩
    have isb:Cw f d (λ x=>x∈cs/\d.getD x 0<20) c0:=⟨⟨hc0,n3⟩,λ x ⟨x1,x2⟩=>by
     obtain⟨x3,x4⟩:=(Mi x).mp x1
     by_cases hz:c8 f x (d.getD x 0)=0
     ·rw[hz];exact⟨aE _,λ _=>by omega⟩
     ·exact n5 x ⟨x3,λ z=>T.sh x z x4,x2,hz⟩⟩
    have eb:bestOf f d cs=some c0:=by
     cases q:bestOf f d cs with
     |none=>exact absurd n3 ((DN hs).2 q c0 hc0)
     |some c'=>rw[((DN hs).1 c' q).one isb]
    have vl:v.length=u.length+1:=by
     have:=p.length_eq
     rw[aa,aD,aa]at this;exact this
    have vn:=TR M'
    refine⟨λ c hb hg=>?_,λ h=>absurd (h c0 eb) n4⟩
    rw[eb]at hb
    cases hb
    refine⟨k,v,pO,rfl,⟨M',λ c hc F=>T.sh c hc (F.ae3 p),T.nd,λ c hc=>by rw[pY];exact T.lt c hc,by have:=T.fuel;rw[pY];omega⟩,p⟩
theorem ME{α:Type}(l:List α)(t:α):nL (l++[t])=vL (nL l) t:=by
 unfold nL;rw[gu];rfl
theorem F6{α β:Type}(g:α->β):∀(ts:List α) (made:List (List α)),(ts.map g).foldl vL (made.map (ka g))=(ts.foldl vL made).map (ka g)
 |[],_=>rfl
 |t::ts,made=>by
  rw[aG,ck,ck,<-F6 g ts]
  congr 1
  unfold vL
  rw[aF,aW,aW]
  congr 1
  refine bP λ L _=>?_
  show L.map g++[g t]=(L++[t]).map g
  rw[aF];rfl
theorem xb{α β:Type}(g:α->β)(ts:List α):nL (ts.map g)=(nL ts).map (ka g):=F6 g ts [[]]
theorem F7{α:Type}:∀(ts:List α) (made:List (List α)) (L:List α),L∈ts.foldl vL made->∃M∈made,∃N,L=M++N/\N.Sublist ts
 |[],made,L,h=>⟨L,h,[],(bD _).symm,List.Sublist.refl _⟩
 |t::ts,made,L,h=>by
  obtain⟨M,hM,N,e,s⟩:=F7 ts (vL made t) L h
  rcases List.mem_append.mp hM with z|z
  ·exact⟨M,z,N,e,s.cons t⟩
  ·obtain⟨M0,h0,rfl⟩:=List.mem_map.mp z
   exact⟨M0,h0,t::N,by rw[e,bB];rfl,s.cons_cons t⟩
theorem Bu{α:Type}{ts L:List α}(h:L∈nL ts):L.Sublist ts:=by
 obtain⟨M,hM,N,e,s⟩:=F7 ts [[]] L h
 have:M=[]:=by simpa using hM
 rw[e,this];exact s
theorem F8{α:Type}:∀(ts:List α) (made:List (List α)),(ts.foldl vL made).length=2 ^ ts.length*made.length
 |[],made=>by simp
 |t::ts,made=>by
  rw[ck,F8 ts]
  unfold vL
  rw[aw,aa,aD,fY]
  generalize 2 ^ ts.length=a
  rw[fG];congr 1;omega
theorem xc{α:Type}{ts:List α}(h:ts.length<=6):(nL ts).length<=64:=by
 unfold nL
 rw[F8]
 have:2 ^ ts.length<=2 ^ 6:=dw (by decide) h
 simpa using this
def TV(H:Hp)(ls:List ag)(cs:List (List ag)):Prop:=ls.length=cs.length/\∀(j:Nat) (l:ag) (c:List ag),ls[j]? =some l->cs[j]? =some c->H l=some (.lst (c.map V.ref))
abbrev OV:List Str:=["cells","most"]
def Yc(CB:ag)(H:Hp)(a:ag)(cs:List Nat)(mo:Int):Prop:=∃dx cl,H a=some (.ins CB dx (OV.zip [.ref cl,.int mo]))/\H cl=some (.lst (nY cs))
theorem Yc.same{CB:ag}{H H':Hp}{a:ag}{cs:List Nat}{mo:Int}(h:Yc CB H a cs mo)(sm:m8 H H'):Yc CB H' a cs mo:=let⟨d,cl,e1,e2⟩:=h;⟨d,cl,sm _ _ e1,sm _ _ e2⟩
def F9(CB:ag)(H:Hp)(ks:List ag)(E m:Nat)(Ls:List (List aL)):Prop:=ks.length=Ls.length/\∀(j:Nat) (a:ag) (L:List aL),ks[j]? =some a->Ls[j]? =some L->Yc CB H a (qe m L) (((E:Nat):Int)-((rR L:Nat):Int))
theorem F9.same{CB:ag}{H H':Hp}{ks:List ag}{E m:Nat}{Ls:List (List aL)}(h:F9 CB H ks E m Ls)(sm:m8 H H'):F9 CB H' ks E m Ls:=⟨h.1,λ j a L e1 e2=>(h.2 j a L e1 e2).same sm⟩
def ZAt(CT:ag)(H:Hp)(zs:List (ag×aL)):Prop:=∀z∈zs,sQ CT H z.1 z.2
theorem ZAt.same{CT:ag}{H H':Hp}{zs:List (ag×aL)}(h:ZAt CT H zs)(sm:m8 H H'):ZAt CT H' zs:=λ z hz=>(h z hz).same sm
theorem Rt{CT:ag}{H:Hp}{bs:List ag}{ts:List aL}(h:Ds CT H bs ts):ZAt CT H (bs.zip ts)/\(bs.zip ts).map (·.1)=bs/\(bs.zip ts).map (·.2)=ts:=by
 refine⟨λ z hz=>?_,List.map_fst_zip (by rw[h.1];exact ax _),k8 (by rw[h.1];exact ax _)⟩
 obtain⟨i,hi,e⟩:=cw hz
 have e':(bs.zip ts)[i]? =some z:=by rw[af hi,e]
 obtain⟨e1,e2⟩:=List.getElem?_zip_eq_some.mp e'
 exact h.2 i z.1 z.2 e1 e2
theorem J6(L:List aL)(c:Nat):(L.flatMap λ t=>t.cells).contains c=uu L c:=by
 unfold uu
 rw[du,dk,List.mem_flatMap,dI]
 constructor
 ·rintro⟨t,h1,h2⟩;exact⟨t,h1,List.contains_iff_mem.mpr h2⟩
 ·rintro⟨t,h1,h2⟩;exact⟨t,h1,List.contains_iff_mem.mp h2⟩
theorem Ja:∀(L:List aL),(∀t∈L,t.cells.length<=16)->(L.flatMap λ t=>t.cells).length<=16*L.length
 |[],_=>ax _
 |t::L,h=>by
  rw[eX,aw,aD]
  have h1:=h t (by simp)
  have h2:=Ja L λ x hx=>h x (by simp[hx])
  omega
theorem OW:m_ ["self","cells","most"] ["self","cells","most"] (m6 BW):=qi
theorem OX{f C:ag}{fd:bK}(F:pJ K "__init__" "Bound.__init__" BW f fd)(cl:GP K C)(na:∀g∈OV,oE K C g):nU P w K mg base oH 1 f fd ["self","cells","most"] (Hy C OV):=by
 refine F.ok OW (λ vs H Q E h=>?_) (λ oX A outer s H vs Q E hr h=>?_)
 ·obtain⟨x,dx,args,rfl,hl,_⟩:=h
  rw[aD,hl];rfl
 ·obtain⟨x,dx,args,rfl,hl,hx,k⟩:=h
  match args,hl with
  |[a,b],_=>
   have n1:=na "cells" (by simp)
   have n2:=na "most" (by simp)
   refine⟨_,mY (pV (pv 0) (pv 1) rfl) (m7 (pV (pv 0) (pv 2) rfl)),?_⟩
   refine⟨_,rfl,_,rfl,x,C,dx,_,rfl,hx,cl,n1,(by show 0<1000;decide),_,rfl,_,rfl,x,C,dx,_,rfl,m4,cl,n2,(by show 1<1000;decide),?_⟩
   refine k _ m4 λ b o e hb=>?_
   rw[m5 hb,m5 hb];exact e
def MF(CB:ag):Sp:=λ vs H Q _=>∃(a b:ag) (cs:List Nat) (mo:Int) (row:List Nat),vs=[.ref a,.ref b]/\Yc CB H a cs mo/\H b=some (.lst (nY row))/\(∀c∈cs,c<row.length)/\cs.length<=16/\∀H',m8 H H'->Q (.int (mo-((aZ (cs.map λ c=>row.getD c 0):Nat):Int))) H'
abbrev F_:List Str:=["self","row","cell"]
theorem DO:m_ F_ ["self","row"] (m6 wu):=qi
theorem MG(F:pJ K "spare" "Bound.spare" wu f fd)(qQ:Rec P w K mg base "Bound" CB OV)(xI:mg "sum"=none):nU P w K mg base oH 1 f fd ["self","row"] (MF CB):=by
 refine F.ok DO (λ vs H Q E h=>?_) (λ oX A outer s H vs Q E hr h=>?_)
 ·obtain⟨a,b,cs,mo,row,rfl,_⟩:=h
  rfl
 ·obtain⟨a,b,cs,mo,row,rfl,⟨dx,cl,h1,h2⟩,hb,hc,GJ,k⟩:=h
  have nd:=DO.nd
  refine⟨_,(m7 (nq (om sI (nr (pv 0) rfl) (nN (BG rfl) rfl xI iO (mX (qw (own:=[("cell",2)]) rfl nd (oO (nr (pv 0) rfl)) (by exact pD.of (N:=F_) (sc:=m6 wu) (by decide +kernel)) (λ _ _ _ _ _=>by exact(nB (i:=2) nd rfl (Or.inl rfl))) (λ _ _ _ _ _=>by exact oS) (λ _ _ _ _ _=>by exact(tZ K (pv 1) (pv 2)))) mZ))))),?_⟩
  refine⟨_,rfl,a,CB,dx,_,_,rfl,h1,qQ.cl,qQ.na "most" (by simp),rfl,_,rfl,a,CB,dx,_,_,rfl,h1,qQ.cl,qQ.na "cells" (by simp),rfl,cl,rfl,⟨_,nF.of h2⟩,?_⟩
  refine oZ (oU (K:=K) (xs:=nY cs) (nF.of h2)) (nY (cs.map λ c=>row.getD c 0)) (by rw[nj,nj,aa]) (by rw[nj,aA];omega) (λ j x y H3 R3 N3 hy pH hF kk=>?_) (λ D H3 hD pH uD=>?_)
  ·obtain⟨c,q,rfl⟩:=ow hF
   obtain⟨v,q2,rfl⟩:=ow hy
   rw[ak,q]at q2
   have q2:row.getD c 0=v:=Option.some.inj q2
   subst q2
   have gd:=getD_at (hc c (aC q))
   exact⟨rfl,sE ⟨_,rfl,_,rfl,b,_,_,_,rfl,rfl,nF.of (pH _ _ hb),ou (oV gd),kk H3 (m8.refl _)⟩⟩
  ·refine⟨D,(cs.map λ c=>row.getD c 0).map (λ(n:Nat)=>(n:Int)),rfl,nF.of (by rw[uD,ur];rfl),?_⟩
   rw[tM]
   exact⟨_,_,rfl,rfl,k H3 pH⟩
def Bv:Sp:=λ vs H Q _=>∃(p:ag) (bs:List ag),vs=[.ref p]/\H p=some (.lst (bs.map V.ref))/\bs.length<=6/\∀H' D ls,m8 H H'->H D=none->H' D=some (.lst (ls.map V.ref))->TV H' ls (nL bs)->(∀l∈ls,H l=none)->Q (.ref D) H'
abbrev DP:List Str:=["teams","made","team","choice"]
theorem Bw:m_ DP ["teams"] (m6 uL):=qi
theorem J7(F:pJ K "team_choices" "team_choices" uL f fd):nU P w K mg base oH 1 f fd ["teams"] Bv:=by
 refine F.ok Bw (λ vs H Q E h=>?_) (λ oX A outer s H vs Q E hr h=>?_)
 ·obtain⟨p,bs,rfl,_⟩:=h
  rfl
 ·obtain⟨p,bs,rfl,hp,h6,k⟩:=h
  have nd:=Bw.nd
  refine⟨_,(mY (m9 (i:=1) nd rfl (Or.inl rfl) (nQ (mX (nQ mZ) mZ)))
   (mY (qC PassesOwn.never rfl (oO (pv 0)) (nB (i:=2) nd rfl (Or.inr rfl)) (m7 (m9 (i:=1) nd rfl (Or.inl rfl) (om qX (pv 1) (qw (own:=[("choice",3)]) rfl nd (oO (pv 1)) (by exact pD.of (N:=DP) (sc:=m6 uL) (by decide +kernel)) (λ _ _ _ _ _=>by exact(nB (i:=3) nd rfl (Or.inl rfl))) (λ _ _ _ _ _=>by exact oS) (λ _ _ _ _ _=>by exact(om qX (pv 3) (nQ (mX (pv 2) mZ)))))))))
   (m7 (nq (pv 1))))),?_⟩
  refine⟨aE _,λ e0 he0=>⟨(by show 1<=ay;decide),λ D0 hD0=>?_⟩⟩
  have s1:m8 H (upd H e0 (.lst [])):=m8.new he0
  have n0:e0≠D0:=λ q=>by rw[<-q,m4]at hD0;cases hD0
  have s2:=s1.put (o:=.lst [V.ref e0]) (none_of s1 hD0)
  refine⟨_,rfl,p,rfl,⟨_,nF.of (s2 _ _ hp)⟩,rj (K:=K) (a:=p) (xs:=bs.map V.ref) (λ i σ H'=>∃(v:Option V) (D:ag) (ls:List ag),σ=[some (.ref p),some (.ref D),v,none]/\m8 H H'/\H D=none/\H' D=some (.lst (ls.map V.ref))/\TV H' ls (nL (bs.take i))/\∀l∈ls,H l=none)
   ⟨none,D0,[e0],rfl,s2,none_of s1 hD0,m4,⟨rfl,λ j l c q1 q2=>?_⟩,λ l hl=>by rw[show l=e0 by simpa using hl];exact he0⟩ (λ i σ H' _ ⟨_,_,_,_,sm,_⟩=>nF.of (sm _ _ hp)) ?_ ?_⟩
  ·have ej:j=0:=by
    have:=(List.getElem?_eq_some_iff.mp q1).1
    simp at this;exact this
   subst ej
   cases q1
   cases q2
   rw[m5 n0,m4];rfl
  ·rintro i x σ H' hx ⟨v,D,ls,rfl,sm,hD,hD',hL,JM⟩
   rw[ak]at hx
   cases qb:bs[i]? with
   |none=>rw[qb]at hx;cases hx
   |some b=>
    rw[qb]at hx;cases hx
    have hi:i<bs.length:=(List.getElem?_eq_some_iff.mp qb).1
    have ht:(bs.take i).length<=6:=by rw[bW];omega
    have l64:=xc ht
    refine⟨_,rfl,_,rfl,D,rfl,⟨_,nF.of hD'⟩,?_⟩
    refine QU (oU (K:=K) (xs:=ls.map V.ref) (nF.of hD')) (λ j=>.lst (((nL (bs.take i)).getD j []++[b]).map V.ref)) (by rw[aa,hL.1,aA];omega) (λ j y H3 R3 N3 hj pH hF kk=>?_) (λ N H3 ns hN pH hN3 hlen SX=>?_)
    ·rw[ak]at hF
     cases ql:ls[j]? with
     |none=>rw[ql]at hF;cases hF
     |some l=>
      rw[ql]at hF;cases hF
      have Ze:j<(nL (bs.take i)).length:=by rw[<-hL.1];exact(List.getElem?_eq_some_iff.mp ql).1
      have qc:(nL (bs.take i))[j]? =some ((nL (bs.take i)).getD j []):=by rw[aB,af Ze];rfl
      have hl:=hL.2 j l _ ql qc
      have cl:((nL (bs.take i)).getD j []).length<=6:=aT (Bu (aC qc)).length_le ht
      refine⟨rfl,sE ⟨_,rfl,_,rfl,(by show 1<=ay;decide),λ tl htl=>?_⟩⟩
      have s4:m8 H3 (upd H3 tl (.lst [V.ref b])):=m8.new htl
      refine⟨l,tl,_,_,rfl,rfl,s4 _ _ (pH _ _ hl),m4,(by rw[aa,aA];show _+1<=_;omega),λ q hq=>?_⟩
      refine kk q _ (s4.put (none_of s4 hq)) (none_of s4 hq) ?_
      rw[m4,aF];rfl
    ·rw[aa]at hlen
     have nDN:D≠N:=λ q=>by rw[<-q,hD']at hN;cases hN
     refine⟨D,N,_,_,rfl,rfl,pH _ _ hD',hN3,(by rw[aa,aa,hlen,hL.1,aA];omega),λ M hM=>?_⟩
     have s5:=sm.trans pH
     refine⟨_,M,ls++ns,rfl,s5.put (none_of s5 hM),none_of s5 hM,by rw[m4,aF],?_,λ l hl=>(List.mem_append.mp hl).elim (JM l) λ z=>by
      obtain⟨j,hj,e⟩:=cw z
      exact none_of sm (SX j l (by rw[af hj,e])).1⟩
     have ec:nL (bs.take (i+1))=nL (bs.take i)++(nL (bs.take i)).map λ L=>L++[b]:=by
      rw[bZ,qb];exact ME _ _
     rw[ec]
     refine⟨by rw[aw,aw,aa,hlen,hL.1],λ j l c q1 q2=>?_⟩
     have Mn:∀a o,H3 a=some o->a≠M:=λ a o e q=>by rw[q,hM]at e;cases e
     by_cases hj:j<ls.length
     ·rw[bp hj]at q1
      rw[bp (by rw[<-hL.1];exact hj)]at q2
      have z:=pH _ _ (hL.2 j l c q1 q2)
      rw[m5 (Mn _ _ z)];exact z
     ·rw[bg (by omega)]at q1
      rw[bg (by rw[<-hL.1];omega),<-hL.1,ak]at q2
      have z:=(SX _ l q1).2
      rw[m5 (Mn _ _ z),z]
      cases qq:(nL (bs.take i))[j-ls.length]? with
      |none=>rw[qq]at q2;cases q2
      |some c0=>
       rw[qq]at q2
       have q2:c0++[b]=c:=Option.some.inj q2
       rw[aB,qq,<-q2];rfl
  ·rintro σ H' ⟨v,D,ls,rfl,sm,hD,hD',hL,JM⟩
   rw[aa,dj]at hL
   exact⟨_,rfl,k H' D ls sm hD hD' hL JM⟩
def Al(CT:ag):Sp:=λ vs H Q _=>∃(p:ag) (zs:List (ag×aL)),vs=[.ref p]/\H p=some (.lst ((zs.map (·.1)).map V.ref))/\ZAt CT H zs/\zs.length<=6/\∀H',m8 H H'->Q (.int (rR (zs.map (·.2)):Nat)) H'
abbrev Jb:List Str:=["teams","team"]
theorem Ga:m_ Jb ["teams"] (m6 ya):=qi
theorem OY(F:pJ K "efforts_of" "efforts_of" ya f fd)(qr:Rec P w K mg base "Team" CT J0)(xI:mg "sum"=none):nU P w K mg base oH 1 f fd ["teams"] (Al CT):=by
 refine F.ok Ga (λ vs H Q E h=>?_) (λ oX A outer s H vs Q E hr h=>?_)
 ·obtain⟨p,zs,rfl,_⟩:=h
  rfl
 ·obtain⟨p,zs,rfl,hp,hz,h6,k⟩:=h
  have nd:=Ga.nd
  refine⟨_,(m7 (nq (nN (BG rfl) rfl xI iO (mX (qw (own:=[("team",1)]) rfl nd (oO (pv 0)) (by exact pD.of (N:=Jb) (sc:=m6 ya) (by decide +kernel)) (λ _ _ _ _ _=>by exact(nB (i:=1) nd rfl (Or.inl rfl))) (λ _ _ _ _ _=>by exact oS) (λ _ _ _ _ _=>by exact(xW K (pv 1)))) mZ)))),?_⟩
  refine⟨_,rfl,p,rfl,⟨_,nF.of hp⟩,?_⟩
  refine oZ (oU (K:=K) (xs:=(zs.map (·.1)).map V.ref) (nF.of hp)) (nY ((zs.map (·.2)).map λ t=>t.efforts)) (by rw[nj,aa,aa,aa,aa]) (by rw[aa,aa,aA];omega) (λ j x y H3 R3 N3 hy pH hF kk=>?_) (λ D H3 hD pH uD=>?_)
  ·obtain⟨v,q2,rfl⟩:=ow hy
   rw[ak,ak]at hF q2
   cases qz:zs[j]? with
   |none=>rw[qz]at hF;cases hF
   |some z=>
    rw[qz]at hF q2
    cases hF;cases q2
    obtain⟨dx,ml,e1,e2,e3⟩:=hz z (aC qz)
    exact⟨rfl,sE ⟨_,rfl,z.1,CT,dx,_,_,rfl,pH _ _ e1,qr.cl,qr.na "efforts" (by simp),rfl,kk H3 (m8.refl _)⟩⟩
  ·refine⟨D,((zs.map (·.2)).map λ t=>t.efforts).map (λ(n:Nat)=>(n:Int)),rfl,nF.of (by rw[uD,ur];rfl),?_⟩
   rw[tM]
   exact k H3 pH
def Cy(CT CB:ag):Sp:=λ vs H Q _=>∃(p:ag) (zs:List (ag×aL)) (m:Nat),vs=[.ref p,.int (m:Nat)]/\H p=some (.lst ((zs.map (·.1)).map V.ref))/\ZAt CT H zs/\zs.length<=6/\m<=16/\(∀z∈zs,z.2.cells.length<=16)/\∀H' q ks,m8 H H'->H q=none->H' q=some (.lst (ks.map V.ref))->F9 CB H' ks (rR (zs.map (·.2))) m (nL (zs.map (·.2)))->Q (.ref q) H'
abbrev Le:List Str:=["teams","many_cells","bounds","left_out","reached","team","cells","cell"]
theorem Jc:m_ Le ["teams","many_cells"] (m6 AY):=qi
theorem Ru(F:pJ K "bounds_of" "bounds_of" AY f fd)(qr:Rec P w K mg base "Team" CT J0)(vM:rC P w K mg base oH 1 "team_choices" ["teams"] Bv)(qP:mg "range"=none)(qQ:Rec P w K mg base "Bound" CB OV)(qo:rC P w K mg base oH 1 "efforts_of" ["teams"] (Al CT)):nU P w K mg base oH 3 f fd ["teams","many_cells"] (Cy CT CB):=by
 refine F.ok Jc (λ vs H Q E h=>?_) (λ oX A outer s H vs Q E hr h=>?_)
 ·obtain⟨p,zs,m,rfl,_⟩:=h
  rfl
 ·obtain⟨p,zs,m,rfl,hp,hz,h6,GJ,hzc,k⟩:=h
  have nd:=Jc.nd
  refine⟨_,(mY (m9 (i:=2) nd rfl (Or.inl rfl) (nQ mZ))
   (mY (qC PassesOwn.never rfl (oO (nA (E:=E0) vM hr (by decide) nv (mX (pv 0) mZ))) (nB (i:=3) nd rfl (Or.inl rfl)) (mY (m9 (i:=4) nd rfl (Or.inr rfl) (nQ mZ))
   (mY (qC PassesOwn.never rfl (oO (pv 3)) (nB (i:=5) nd rfl (Or.inl rfl)) (m7 (og (qU aH cT cS vb (pv 4) (mX (nr (pv 5) rfl) mZ)))))
   (mY (zO (i:=6) (own:=[("cell",7)]) rfl nd rfl rfl rfl (xy rfl qP (mX (pv 1) mZ)) (by exact pD.of (N:=Le) (sc:=m6 AY) (by decide +kernel)) (λ _ _ _ _ _=>by exact(nB (i:=7) nd rfl (Or.inl rfl))) (λ _ _ _ _ _=>by exact(LN (ot (Vg K) (pv 7) (pv 4) (by with_unfolding_all rfl)))) (λ _ _ _ _ _=>by exact(pv 7)))
   (m7 (og (qU aH bc a_ pG (pv 2) (mX (vx qQ hr (by decide) (mX (pv 6) (mX (om sI (nA (E:=E0) qo hr (by decide) nv (mX (pv 0) mZ)) (nA (E:=E0) qo hr (by decide) nv (mX (pv 3) mZ))) mZ))) mZ))))))))
   (m7 (nq (pv 2))))),?_⟩
  have c64:=xc (ts:=zs) h6
  refine⟨aE _,λ bd hbd=>?_⟩
  have s1:m8 H (upd H bd (.lst [])):=m8.new hbd
  refine⟨_,rfl,p,zs.map (·.1),rfl,s1 _ _ hp,by rw[aa];exact h6,λ H2 ch ls s2 PZ adS Zf JM=>?_⟩
  have vE:=s1.trans s2
  rw[xb]at Zf
  have lls:ls.length=(nL zs).length:=by rw[Zf.1,aa]
  refine⟨ch,rfl,⟨_,nF.of adS⟩,rj (K:=K) (a:=ch) (xs:=ls.map V.ref) (λ i σ H'=>∃(v3 v4 v5 v6:Option V) (ks:List ag),σ=[some (.ref p),some (.int (m:Nat)),some (.ref bd),v3,v4,v5,v6,none]/\m8 H H'/\(∀b o,H2 b=some o->b≠bd->H' b=some o)/\H' bd=some (.lst (ks.map V.ref))/\F9 CB H' ks (rR (zs.map (·.2))) m ((nL (zs.map (·.2))).take i)/\ks.length=i)
   ⟨none,none,none,none,[],rfl,vE,λ b o e _=>e,s2 _ _ m4,⟨rfl,λ j a L q=>by simp at q⟩,rfl⟩ (λ i σ H' _ ⟨_,_,_,_,_,_,_,s',_⟩=>nF.of (s' _ _ adS (λ q=>by rw[q,m4]at PZ;cases PZ))) ?_ ?_⟩
  ·rintro i x σ H' hx ⟨v3,v4,v5,v6,ks,rfl,sm,wg,hB,hK,hkl⟩
   rw[ak]at hx
   cases ql:ls[i]? with
   |none=>rw[ql]at hx;cases hx
   |some l=>
    rw[ql]at hx;cases hx
    have hi:i<(nL zs).length:=by rw[<-lls];exact(List.getElem?_eq_some_iff.mp ql).1
    have qc:(nL zs)[i]? =some ((nL zs)[i]):=af hi
    generalize hC:(nL zs)[i]=C at qc
    have aat:C.Sublist zs:=Bu (aC qc)
    have Cl:C.length<=6:=aT aat.length_le h6
    have Nn:H2 l=some (.lst ((C.map (·.1)).map V.ref)):=Zf.2 i l _ ql (by rw[ak,qc];rfl)
    have nlb:l≠bd:=λ q=>by
     have:=JM l (aC ql)
     rw[q,m4]at this;cases this
    have GD:=wg _ _ Nn nlb
    have zC:ZAt CT H C:=λ z Wa=>hz z (aat.subset Wa)
    refine⟨aE _,λ rc hrc=>?_⟩
    refine⟨_,rfl,l,rfl,⟨_,nF.of (m8.new hrc _ _ GD)⟩,rj (K:=K) (a:=l) (xs:=(C.map (·.1)).map V.ref) (λ j σ H''=>∃(v5:Option V),σ=[some (.ref p),some (.int (m:Nat)),some (.ref bd),some (.ref l),some (.ref rc),v5,v6,none]/\m8 H' H''/\H'' rc=some (.lst (nY ((C.take j).flatMap λ z=>z.2.cells))))
     ⟨v5,rfl,m8.new hrc,m4⟩ (λ i σ H' _ ⟨_,_,s',_⟩=>nF.of (s' _ _ GD)) ?_ ?_⟩
    ·rintro j x σ H3 hx ⟨v5',rfl,s3,h3⟩
     rw[ak,ak]at hx
     cases qz:C[j]? with
     |none=>rw[qz]at hx;cases hx
     |some z=>
      rw[qz]at hx;cases hx
      have zm:=aat.subset (aC qz)
      obtain⟨dx,ml,e1,e2,e3⟩:=hz z zm
      have pH:=sm.trans s3
      have fl:((C.take j).flatMap λ z=>z.2.cells).length<=96:=by
       have:=Ja ((C.take j).map (·.2)) λ t ht=>by
        obtain⟨y,hy,rfl⟩:=List.mem_map.mp ht
        exact hzc y (aat.subset (j_ hy))
       rw[aa,bW,lg]at this
       omega
      refine⟨_,rfl,.inl ⟨rfl,_,nF.of h3⟩,_,rfl,z.1,CT,dx,_,_,rfl,pH _ _ e1,qr.cl,qr.na "cells" (by simp),rfl,rc,ml,_,_,rfl,rfl,h3,pH _ _ e2,?_,?_⟩
      ·rw[nj,nj,aA]
       have:=hzc z zm
       omega
      ·refine⟨_,rfl,s3.put hrc,?_⟩
       rw[m4,bZ,qz,ee]
       unfold nY
       rw[aF];simp
    ·rintro σ H3 ⟨v5',rfl,s3,h3⟩
     rw[aa,aa,dj]at h3
     have eC:(C.flatMap λ z=>z.2.cells)=(C.map (·.2)).flatMap λ t=>t.cells:=by rw[lg]
     rw[eC]at h3
     refine⟨_,rfl,(m:Int),rfl,by omega,by omega,?_⟩
     refine XY (tO 0 _) ((az m).map λ c=>if(!uu (C.map (·.2)) c)=true then some (V.int (c:Nat))else none) (by rw[aa,aR];rfl) (by rw[aA];show m<=_;omega) (λ j x y H4 R4 N4 hy Np hF kk kn=>?_) (λ cl H4 Ee s4 ae4=>?_)
     ·have hj:j<m:=by
       have:=(List.getElem?_eq_some_iff.mp hy).1
       simpa using this
      rw[ak,bf hj]at hy
      have hy:(if(!uu (C.map (·.2)) j)=true then some (V.int (j:Nat))else none)=y:=Option.some.inj hy
      have e:(0:Int)+(j:Int)=(j:Int):=Int.zero_add _
      rw[e]at hF
      subst hF
      refine⟨rfl,⟨_,rfl,_,rfl,rc,_,rfl,.inl (nF.of (Np _ _ h3)),rfl,(by rw[cH];exact List.all_eq_true.mpr λ _ _=>rfl),_,rfl,?_⟩⟩
      rw[show(if true=true then !GS (.int (j:Nat)) (nY ((C.map (·.2)).flatMap λ t=>t.cells))else GS (.int (j:Nat)) (nY ((C.map (·.2)).flatMap λ t=>t.cells)))= !uu (C.map (·.2)) j from by rw[if_pos rfl,Dn,J6]]
      refine qa (λ hq=>?_) λ hq=>?_
      ·rw[if_pos hq]at hy
       exact⟨_,rfl,kk _ hy.symm H4 (m8.refl _)⟩
      ·rw[if_neg hq]at hy
       exact kn hy.symm H4 (m8.refl _)
     have ecl:H4 cl=some (.lst (nY (qe m (C.map (·.2))))):=by
      rw[ae4]
      congr 2
      unfold qe nY
      have:∀l:List Nat,(l.map λ c=>if(!uu (C.map (·.2)) c)=true then some (V.int (c:Nat))else none).filterMap id=(l.filter λ c=> !uu (C.map (·.2)) c).map λ(c:Nat)=>V.int (c:Nat):=λ l=>by
       induction l with
       |nil=>rfl
       |cons a l ih=>
        rw[aG,ft]
        by_cases h:(!uu (C.map (·.2)) a)=true
        ·rw[if_pos h,if_pos h,aG,<-ih];rfl
        ·rw[if_neg h,if_neg h,<-ih];rfl
      exact this _
     have Zi:=s3.trans s4
     have sH4:=sm.trans Zi
     have Xp:=Zi _ _ hB
     refine⟨_,rfl,.inl ⟨rfl,_,nF.of Xp⟩,_,rfl,_,rfl,p,zs,rfl,sH4 _ _ hp,hz.same sH4,h6,λ H5 s5=>?_⟩
     refine⟨_,rfl,l,C,rfl,s5 _ _ (Zi _ _ GD),zC.same (sH4.trans s5),Cl,λ H6 s6=>?_⟩
     refine⟨_,_,rfl,rfl,rfl,λ bo dxb H7 hbo ae5 s7=>?_⟩
     have s57:=s5.trans (s6.trans s7)
     have hB7:=s57 _ _ Xp
     have nbb:bo≠bd:=λ q=>by rw[q,s6 _ _ (s5 _ _ Xp)]at hbo;cases hbo
     have ncb:cl≠bd:=λ q=>by rw[q,s3 _ _ hB]at Ee;cases Ee
     refine⟨bd,_,_,rfl,rfl,hB7,(by rw[aa,aA];omega),?_⟩
     refine⟨_,_,_,_,ks++[bo],rfl,(sH4.trans s57).put hbd,λ b o e nb=>?_,by rw[m4,aF];rfl,?_,by rw[aw,hkl];rfl⟩
     ·rw[m5 nb];exact s57 _ _ (Zi _ _ (wg _ _ e nb))
     ·have ec:(nL (zs.map (·.2)))[i]? =some (C.map (·.2)):=by rw[xb,ak,qc];rfl
      rw[bZ,ec]
      refine⟨by rw[aw,hK.1,aw];rfl,λ j a L q1 q2=>?_⟩
      by_cases hj:j<ks.length
      ·rw[bp hj]at q1
       rw[bp (by rw[<-hK.1];exact hj)]at q2
       obtain⟨d1,c1,z1,z2⟩:=hK.2 j a L q1 q2
       have na:a≠bd:=λ q=>by rw[q,hB]at z1;cases z1
       by_cases nc:c1=bd
       ·
        rw[nc,hB]at z2
        have z3:ks.map V.ref=nY (qe m L):=by injection z2 with z2;injection z2
        have q0:ks[0]? =some (ks[0]'(by omega)):=af _
        have z4:(nY (qe m L))[0]? =some (V.ref (ks[0]'(by omega))):=by rw[<-z3,ak,q0];rfl
        obtain⟨_,_,z5⟩:=ow z4
        cases z5
       ·exact⟨d1,c1,by rw[m5 na];exact s57 _ _ (Zi _ _ z1),by rw[m5 nc];exact s57 _ _ (Zi _ _ z2)⟩
      ·rw[bg (by omega)]at q1
       rw[bg (by rw[<-hK.1];omega),<-hK.1]at q2
       have ej:j-ks.length=0:=by
        have:=(List.getElem?_eq_some_iff.mp q1).1
        simp at this;omega
       rw[ej]at q1 q2
       cases q1
       have eL:C.map (·.2)=L:=Option.some.inj q2
       rw[<-eL]
       exact⟨dxb,cl,by rw[m5 nbb];exact ae5,by rw[m5 ncb];exact s57 _ _ ecl⟩
  ·rintro σ H' ⟨v3,v4,v5,v6,ks,rfl,sm,wg,hB,hK,hkl⟩
   have e:(nL (zs.map (·.2))).take (ls.map V.ref).length=nL (zs.map (·.2)):=cq (by rw[aa,lls,xb,aa];exact ax _)
   rw[e]at hK
   exact⟨_,rfl,k H' bd ks sm hbd hB hK⟩
def spB(E m:Nat)(L:List aL)(row:List Nat):Int:=((E:Nat):Int)-((rR L:Nat):Int)-((aZ ((qe m L).map λ c=>row.getD c 0):Nat):Int)
def yJ(E m:Nat)(row:List Nat)(c:Nat)(L:List aL):Bool:=decide (spB E m L row=0) && (qe m L).contains c
def sU(E m:Nat)(Ls:List (List aL))(row:List Nat)(c:Nat):Bool:=Ls.all λ L=> !yJ E m row c L
theorem E5{m:Nat}{L:List aL}{c:Nat}(h:c∈qe m L):c<m:=List.mem_range.mp (List.mem_filter.mp h).1
theorem Jd(m:Nat)(L:List aL):(qe m L).length<=m:=by
 have:=List.length_filter_le (λ c=> !uu L c) (az m)
 rw[aR]at this;exact this
theorem Yd{α:Type}(p:α->Bool)(l:List α)(x:α):(l++[x]).all p=(l.all p && p x):=by
 rw[List.all_append];simp
theorem Vq(p:Nat->Bool)(l:List Nat):(l.map λ c=>if p c=true then some (V.int (c:Nat))else none).filterMap id=nY (l.filter p):=by
 unfold nY
 induction l with
 |nil=>rfl
 |cons a l ih=>
  rw[aG,ft]
  by_cases h:p a=true
  ·rw[if_pos h,if_pos h,aG,<-ih];rfl
  ·rw[if_neg h,if_neg h,<-ih];rfl
def Lf(CB:ag):Sp:=λ vs H Q _=>∃(q b:ag) (ks:List ag) (E m:Nat) (Ls:List (List aL)) (row:List Nat),vs=[.ref q,.ref b]/\H q=some (.lst (ks.map V.ref))/\F9 CB H ks E m Ls/\H b=some (.lst (nY row))/\row.length=m/\m<=16/\Ls.length<=64/\∀H',m8 H H'->Q (.bl (Ls.all λ L=>decide (0<=spB E m L row))) H'
abbrev OZ:List Str:=["bounds","row","bound"]
theorem Lg:m_ OZ ["bounds","row"] (m6 De):=qi
theorem Vr(F:pJ K "can_make" "can_make" De f fd)(cb:GP K CB)(zB:mg "all"=none)(A_:uo P w K mg base oH 1 CB "spare" ["self","row"] (MF CB)):nU P w K mg base oH 2 f fd ["bounds","row"] (Lf CB):=by
 refine F.ok Lg (λ vs H Q E h=>?_) (λ oX A outer s H vs Q E hr h=>?_)
 ·obtain⟨q,b,ks,E,m,Ls,row,rfl,_⟩:=h
  rfl
 ·obtain⟨q,b,ks,E,m,Ls,row,rfl,hq,hB,hb,hm,GJ,h64,k⟩:=h
  have nd:=Lg.nd
  have MH:=cb
  refine⟨_,(m7 (nq (nN (BH rfl) rfl zB iP (mX (qw (own:=[("bound",2)]) rfl nd (oO (pv 0)) (by exact pD.of (N:=OZ) (sc:=m6 De) (by decide +kernel)) (λ _ _ _ _ _=>by exact(nB (i:=2) nd rfl (Or.inl rfl))) (λ _ _ _ _ _=>by exact oS) (λ _ _ _ _ _=>by exact(rS ac_ (pR (E:=E0) A_ MH hr (by decide) nv (pv 2) (mX (pv 1) mZ)) nP (oM _)))) mZ)))),?_⟩
  refine⟨_,rfl,q,rfl,⟨_,nF.of hq⟩,?_⟩
  refine oZ (oU (K:=K) (xs:=ks.map V.ref) (nF.of hq)) (Ls.map λ L=>V.bl (decide (0<=spB E m L row))) (by rw[aa,aa,hB.1]) (by rw[aa,hB.1,aA];omega) (λ j x y H3 R3 N3 hy pH hF kk=>?_) (λ D H3 hD pH uD=>?_)
  ·rw[ak]at hF hy
   cases q1:ks[j]? with
   |none=>rw[q1]at hF;cases hF
   |some a=>
    cases q2:Ls[j]? with
    |none=>rw[q2]at hy;cases hy
    |some L=>
     rw[q1]at hF;rw[q2]at hy
     cases hF;cases hy
     obtain⟨dx,cl,e1,e2⟩:=(hB.2 j a L q1 q2).same pH
     refine⟨rfl,sE ⟨_,rfl,a,dx,_,rfl,e1,rfl,_,rfl,a,b,_,_,row,rfl,⟨dx,cl,e1,e2⟩,pH _ _ hb,λ c hc=>by rw[hm];exact E5 hc,aT (Jd m L) GJ,λ H4 s4=>⟨_,_,rfl,rfl,kk H4 s4⟩⟩⟩
  ·refine⟨D,Ls.map λ L=>decide (0<=spB E m L row),rfl,nF.of (by rw[uD,aW];rfl),?_⟩
   rw[cH]
   exact k H3 pH
def Am(CB:ag):Sp:=λ vs H Q _=>∃(q b:ag) (ks:List ag) (E m:Nat) (Ls:List (List aL)) (row:List Nat),vs=[.ref q,.ref b]/\H q=some (.lst (ks.map V.ref))/\F9 CB H ks E m Ls/\H b=some (.lst (nY row))/\row.length=m/\m<=16/\GI H Q (nY ((az m).filter (sU E m Ls row)))
abbrev Cz:List Str:=["bounds","row","is_free","bound","cell","efforts"]
theorem Gb:m_ Cz ["bounds","row"] (m6 vt):=qi
theorem O1(F:pJ K "free_cells" "free_cells" vt f fd)(qQ:Rec P w K mg base "Bound" CB OV)(A_:uo P w K mg base oH 1 CB "spare" ["self","row"] (MF CB))(qP:mg "range"=none)(pf:mg "len"=none):nU P w K mg base oH 2 f fd ["bounds","row"] (Am CB):=by
 refine F.ok Gb (λ vs H Q E h=>?_) (λ oX A outer s H vs Q E hr h=>?_)
 ·obtain⟨q,b,ks,E,m,Ls,row,rfl,_⟩:=h
  rfl
 ·obtain⟨q,b,ks,E,m,Ls,row,rfl,hq,hB,hb,hm,GJ,k⟩:=h
  have nd:=Gb.nd
  have MH:=qQ.cl
  refine⟨_,(mY (m9 (i:=2) nd rfl (Or.inr rfl) (qw (own:=[("efforts",5)]) rfl nd (oO (pv 1)) (by exact pD.of (N:=Cz) (sc:=m6 vt) (by decide +kernel)) (λ _ _ _ _ _=>by exact(nB (i:=5) nd rfl (Or.inl rfl))) (λ _ _ _ _ _=>by exact oS) (λ _ _ _ _ _=>by exact aaZ)))
   (mY (qC PassesOwn.never rfl (oO (pv 0)) (nB (i:=3) nd rfl (Or.inl rfl)) (m7 (pk (ot ud (pR (E:=E0) A_ MH hr (by decide) nv (pv 3) (mX (pv 1) mZ)) nP (oM _)) (m7 (qC PassesOwn.never rfl (oO (nr (pv 3) rfl)) (nB (i:=4) nd rfl (Or.inl rfl)) (m7 (abt aaZ (abq (pv 2) (pv 4) set_list))))) n9)))
   (m7 (nq (qw (own:=[("cell",4)]) rfl nd (xy rfl qP (mX (nN nO rfl pf aX (mX (pv 1) mZ)) mZ)) (by exact pD.of (N:=Cz) (sc:=m6 vt) (by decide +kernel)) (λ _ _ _ _ _=>by exact(nB (i:=4) nd rfl (Or.inl rfl))) (λ _ _ _ _ _=>by exact(LN (tH (tZ K (pv 2) (pv 4))))) (λ _ _ _ _ _=>by exact(pv 4))))))),?_⟩
  refine⟨_,rfl,b,rfl,⟨_,nF.of hb⟩,?_⟩
  refine oZ (oU (K:=K) (xs:=nY row) (nF.of hb)) ((az m).map λ c=>V.bl (sU E m [] row c)) (by rw[aa,aR,nj,hm]) (by rw[nj,aA];omega) (λ j x y H3 R3 N3 hy pH hF kk=>?_) (λ fr H1 JM s1 ae6=>?_)
  ·rw[ak]at hy
   cases q1:(az m)[j]? with
   |none=>rw[q1]at hy;cases hy
   |some c=>
    rw[q1]at hy
    cases hy
    exact⟨rfl,sE (kk H3 (m8.refl _))⟩
  refine⟨_,rfl,q,rfl,⟨_,nF.of (s1 _ _ hq)⟩,rj (K:=K) (a:=q) (xs:=ks.map V.ref) (λ i σ H'=>∃(v3 v4:Option V),σ=[some (.ref q),some (.ref b),some (.ref fr),v3,v4,none]/\m8 H H'/\H' fr=some (.lst ((az m).map λ c=>V.bl (sU E m (Ls.take i) row c))))
   ⟨none,none,rfl,s1,ae6⟩ (λ i σ H' _ ⟨_,_,_,sm,_⟩=>nF.of (sm _ _ hq)) ?_ ?_⟩
  ·rintro i x σ H' hx ⟨v3,v4,rfl,sm,hF⟩
   rw[ak]at hx
   cases q1:ks[i]? with
   |none=>rw[q1]at hx;cases hx
   |some a=>
    rw[q1]at hx;cases hx
    have hi:i<Ls.length:=by rw[<-hB.1];exact(List.getElem?_eq_some_iff.mp q1).1
    have q2:Ls[i]? =some Ls[i]:=af hi
    generalize Ls[i]=L at q2
    have et:Ls.take (i+1)=Ls.take i++[L]:=by rw[bZ,q2];rfl
    have ef:∀c,sU E m (Ls.take (i+1)) row c=(sU E m (Ls.take i) row c && !yJ E m row c L):=λ c=>by
     unfold sU;rw[et,Yd]
    obtain⟨dx,cl,e1,e2⟩:=(hB.2 i a L q1 q2).same sm
    refine⟨_,rfl,a,dx,_,rfl,e1,rfl,_,rfl,a,b,_,_,row,rfl,⟨dx,cl,e1,e2⟩,sm _ _ hb,λ c hc=>by rw[hm];exact E5 hc,aT (Jd m L) GJ,λ H4 s4=>?_⟩
    have hF4:=s4 _ _ hF
    refine⟨rfl,_,rfl,qa (λ hc=>?_) λ hc=>?_⟩
    ·have hc:spB E m L row=0:=V.int.inj (of_decide_eq_true hc)
     have tz:∀c,yJ E m row c L=(qe m L).contains c:=λ c=>by unfold yJ;rw[decide_eq_true hc,fF]
     refine⟨_,rfl,a,CB,dx,_,_,rfl,s4 _ _ e1,qQ.cl,qQ.na "cells" (by simp),rfl,cl,rfl,⟨_,nF.of (s4 _ _ e2)⟩,rj (K:=K) (a:=cl) (xs:=nY (qe m L)) (λ j σ H''=>∃(v4:Option V),σ=[some (.ref q),some (.ref b),some (.ref fr),some (.ref a),v4,none]/\m8 H H''/\H'' cl=some (.lst (nY (qe m L)))/\H'' fr=some (.lst ((az m).map λ c=>V.bl (sU E m (Ls.take i) row c && !((qe m L).take j).contains c))))
      ⟨v4,rfl,sm.trans s4,s4 _ _ e2,by rw[hF4];simp⟩ (λ j σ H' _ ⟨_,_,_,z,_⟩=>nF.of z) ?_ ?_⟩
     ·rintro j x σ H5 hx ⟨v4',rfl,s5,aau,h5⟩
      obtain⟨c,qc,rfl⟩:=ow hx
      have ZL:=E5 (aC qc)
      have nfc:cl≠fr:=λ z=>by
       rw[z,h5]at aau
       have z3:((az m).map λ c=>V.bl (sU E m (Ls.take i) row c && !((qe m L).take j).contains c))=nY (qe m L):=by injection aau with z2;injection z2
       have z4:=oV qc
       rw[<-z3,ak]at z4
       cases z5:(az m)[j]? with
       |none=>rw[z5]at z4;cases z4
       |some _=>rw[z5]at z4;cases z4
      refine⟨_,rfl,_,rfl,fr,_,_,c,rfl,rfl,h5,yq (by rw[aa,aR];exact ZL),?_⟩
      refine⟨_,rfl,s5.put JM,by rw[m5 nfc];exact aau,?_⟩
      rw[m4]
      congr 2
      apply bO
      intro n
      rw[dY,ak,ak,aa,aR]
      have tk:((qe m L).take (j+1)).contains n=(((qe m L).take j).contains n || n == c):=by
       rw[bZ,qc,du,gY,dk,dk,lE,beq_iff_eq];simp
      by_cases hn:n<m
      ·rw[bf hn]
       show _=some (V.bl (sU E m (Ls.take i) row n && !((qe m L).take (j+1)).contains n))
       rw[tk]
       by_cases e:c=n
       ·subst e
        rw[if_pos rfl,if_pos hn,beq_self_eq_true];simp
       ·rw[if_neg e,show(n == c)=false from beq_eq_false_iff_ne.mpr (Ne.symm e),lZ];rfl
      ·have e:c≠n:=λ z=>hn (by omega)
       rw[if_neg e,aI (by rw[aR];omega)];rfl
     ·rintro σ H5 ⟨v4',rfl,s5,aau,h5⟩
      rw[nj,dj]at h5
      refine⟨_,_,rfl,s5,?_⟩
      rw[h5]
      congr 2
      refine bP λ c _=>?_
      rw[ef,tz]
    ·have hc:¬ spB E m L row=0:=λ z=>hc (decide_eq_true (congrArg V.int z))
     refine⟨_,_,rfl,sm.trans s4,?_⟩
     rw[hF4]
     congr 2
     refine bP λ c _=>?_
     rw[ef]
     unfold yJ
     rw[decide_eq_false hc];simp
  ·rintro σ H' ⟨v3,v4,rfl,sm,hF⟩
   have e:Ls.take (ks.map V.ref).length=Ls:=cq (by rw[aa,hB.1];exact ax _)
   rw[e]at hF
   refine⟨_,rfl,b,_,rfl,.inl (nF.of (sm _ _ hb)),_,rfl,by omega,by rw[nj];omega,?_⟩
   have el:((nY row).length:Int).toNat=m:=by rw[nj];omega
   refine XY (tO 0 _) ((az m).map λ c=>if sU E m Ls row c=true then some (V.int (c:Nat))else none) (by rw[aa,aR];exact el.symm) (by rw[el,aA];omega) (λ j x y H3 R3 N3 hy pH hx kk kn=>?_) (λ D H3 hD pH uD=>k H3 D (sm.trans pH) (none_of sm hD) (by rw[uD,Vq]))
   have hj:j<m:=by
    have:=(List.getElem?_eq_some_iff.mp hy).1
    simpa using this
   rw[ak,bf hj]at hy
   have hy:(if sU E m Ls row j=true then some (V.int (j:Nat))else none)=y:=Option.some.inj hy
   have e0:(0:Int)+(j:Int)=(j:Int):=Int.zero_add _
   rw[e0]at hx
   subst hx
   have ae7:((az m).map λ c=>V.bl (sU E m Ls row c))[j]? =some (V.bl (sU E m Ls row j)):=by rw[ak,bf hj];rfl
   refine⟨rfl,⟨_,rfl,_,rfl,fr,_,_,_,rfl,rfl,nF.of (pH _ _ hF),ou ae7,_,rfl,qa (λ hq=>?_) λ hq=>?_⟩⟩
   ·rw[if_pos hq]at hy
    exact⟨_,rfl,kk _ hy.symm H3 (m8.refl _)⟩
   ·rw[if_neg hq]at hy
    exact kn hy.symm H3 (m8.refl _)
theorem TX(p:Nat->Bool)(m:Nat):((az m).filter p).Pairwise (· < ·):=List.Pairwise.sublist iz jP
theorem Ye{f:ae}{m:Nat}{row l:List Nat}(R:DL m row l)(F:xP f l)(c:Nat):c∈(az m).filter (sU (rR f.teams) m (nL f.teams) row)↔c<m/\xP f (c::l):=by
 rw[List.mem_filter,List.mem_range]
 constructor
 ·rintro⟨h1,h2⟩
  refine⟨h1,(OT R F h1).mpr λ L hL h0 hm=>?_⟩
  have:=List.all_eq_true.mp h2 L hL
  unfold yJ at this
  rw[decide_eq_true (show spB (rR f.teams) m L row=0 from h0),List.contains_iff_mem.mpr hm]at this
  cases this
 ·rintro⟨h1,h2⟩
  refine⟨h1,List.all_eq_true.mpr λ L hL=>?_⟩
  have:=(OT R F h1).mp h2 L hL
  unfold yJ
  by_cases h0:spB (rR f.teams) m L row=0
  ·have hn:=this h0
   have:(qe m L).contains c=false:=by
    cases z:(qe m L).contains c with
    |false=>rfl
    |true=>exact absurd (List.contains_iff_mem.mp z) hn
   rw[this];simp
  ·rw[decide_eq_false h0];rfl
theorem Yf{m:Nat}{row l v:List Nat}{c:Nat}(R:DL m row l)(hc:c<m)(p:v.Perm (c::l)):DL m (bump row c) v:=by
 refine⟨by rw[pY];exact R.len,λ x hx=>?_,λ x hx=>?_⟩
 ·rcases List.mem_cons.mp (p.mem_iff.mp hx)with e|e
  ·rw[e];exact hc
  ·exact R.lt x e
 ·rw[A6 (by rw[R.len];exact hc),p.count_eq,eM,R.cnt x hx,R.cnt c hc]
  by_cases e:x=c
  ·subst e;rw[if_pos rfl,beq_self_eq_true,if_pos rfl]
  ·rw[if_neg e,show(c == x)=false from beq_eq_false_iff_ne.mpr (Ne.symm e)];simp
theorem Vs{d r:List Nat}{c:Nat}(hl:r.length=d.length)(hc:c<d.length):bC d (bump r c)=bump (bC d r) c:=by
 unfold bump
 exact XD d r c _ (getD_at (by omega)) hl
def Je(CB:ag):Sp:=λ vs H Q _=>∃(q a b:ag) (ks as:List ag) (f:ae) (d:List Nat),vs=[.ref q,.ref a,.ref b]/\H q=some (.lst (ks.map V.ref))/\F9 CB H ks (rR f.teams) d.length (nL f.teams)/\H a=some (.lst (as.map V.ref))/\TabsAt H as (n_ f)/\H b=some (.lst (nY d))/\d.length=f.cells.length/\d.length<=16/\GI H Q (nY (eN (fU f d) d))
abbrev Lh:List Str:=["bounds","tables","had","row","now","cell","efforts"]
theorem Jf:m_ Lh ["bounds","tables","had"] (m6 AZ):=qi
theorem Rv(F:pJ K "teams_row" "teams_row" AZ f fd)(ET:mg "list"=none)(rA:rC P w K mg base oH 2 "best_cell" ["tables","had","cells"] Cq)(uP:rC P w K mg base oH 2 "free_cells" ["bounds","row"] (Am CB))(pK:Hz7 P w K mg base):nU P w K mg base oH 3 f fd ["bounds","tables","had"] (Je CB):=by
 refine F.ok Jf (λ vs H Q E h=>?_) (λ oX A outer s H vs Q E hr h=>?_)
 ·obtain⟨q,a,b,ks,as,f,d,rfl,_⟩:=h
  rfl
 ·obtain⟨q,a,b,ks,as,f,d,rfl,hq,hB,ha,hT,hb,hd,GJ,k⟩:=h
  have nd:=Jf.nd
  refine⟨_,(mY (zO (i:=3) (own:=[("efforts",6)]) rfl nd rfl rfl rfl (oO (pv 2)) (by exact pD.of (N:=Lh) (sc:=m6 AZ) (by decide +kernel)) (λ _ _ _ _ _=>by exact(nB (i:=6) nd rfl (Or.inl rfl))) (λ _ _ _ _ _=>by exact oS) (λ _ _ _ _ _=>by exact nP))
   (mY (m9 (i:=4) nd rfl (Or.inl rfl) (sx xT rfl ET kD (mX (pv 2) mZ)))
   (mY (m9 (i:=5) nd rfl (Or.inl rfl) (nA (E:=E0) rA hr (by decide) nv (mX (pv 1) (mX (pv 4) (mX (nA (E:=E0) uP hr (by decide) nv (mX (pv 0) (mX (pv 3) mZ))) mZ)))))
   (mY (rN PassesOwn.never (PW.pt (Ei (P_ (Zr (pv 5))) (AQ (ot Bk (nA (E:=E0) pK hr (by decide) nv (mX (pd oh (pv 1) (pv 5) (λ _ _=>rfl)) (mX (pd oh (pv 4) (pv 5) (λ _ _=>rfl)) mZ))) nP (oM _))))) (mY (AR (pv 3) (pv 5) xK nP zH set_list)
   (mY (AR (pv 4) (pv 5) xK nP zH set_list)
   (m7 (m9 (i:=5) nd rfl (Or.inl rfl) (nA (E:=E0) rA hr (by decide) nv (mX (pv 1) (mX (pv 4) (mX (nA (E:=E0) uP hr (by decide) nv (mX (pv 0) (mX (pv 3) mZ))) mZ)))))))))
   (m7 (nq (pv 3))))))),?_⟩
  refine⟨_,rfl,b,rfl,⟨_,nF.of hb⟩,?_⟩
  refine oZ (oU (K:=K) (xs:=nY d) (nF.of hb)) (nY (d.map λ _=>0)) (by rw[nj,nj,aa]) (by rw[nj,aA];omega) (λ j x y H3 R3 N3 hy pH hF kk=>?_) (λ wc H1 hrw s1 acy=>?_)
  ·obtain⟨v,qv,rfl⟩:=ow hy
   have e0:v=0:=by
    rw[ak]at qv
    cases z:d[j]? with
    |none=>rw[z]at qv;cases qv
    |some _=>rw[z]at qv;exact(Option.some.inj qv).symm
   subst e0
   exact⟨rfl,sE (kk H3 (m8.refl _))⟩
  refine⟨_,rfl,b,_,rfl,.inl (nF.of (s1 _ _ hb)),λ nw Zg=>?_⟩
  have X2:=none_of s1 Zg
  have nrn:wc≠nw:=λ z=>by rw[<-z,acy]at Zg;cases Zg
  have s2:m8 H (upd H1 nw (.lst (nY d))):=s1.put X2
  have adT:∀(H':Hp) (r:List Nat) (Q':VK),m8 H H'->H' wc=some (.lst (nY r))->r.length=d.length->(∀H2 p,m8 H' H2->H' p=none->H2 p=some (.lst (nY ((az d.length).filter (sU (rR f.teams) d.length (nL f.teams) r))))->Q' (.ref p) H2)->Am CB [.ref q,.ref wc] H' Q' E0:=
   λ H' r Q' sm h1 h3 h5=>⟨q,wc,ks,rR f.teams,d.length,nL f.teams,r,rfl,sm _ _ hq,hB.same sm,h1,h3,GJ,h5⟩
  have inR:∀(p:Nat->Bool) (D:List Nat),D.length=d.length->∀c∈(az d.length).filter p,c<D.length:=λ p D h c hc=>by rw[h];exact List.mem_range.mp (List.mem_filter.mp hc).1
  have e0:eN d d=d.map λ _=>0:=by
   have:=EO d (d.map λ _=>0) (by rw[aa])
   rw[KP]at this;exact this
  have R0:DL d.length (d.map λ _=>0) []:=⟨by rw[aa],λ c hc=>(by cases hc),λ c hc=>by rw[aB,ak,af hc];rfl⟩
  refine⟨_,rfl,_,rfl,_,rfl,_,rfl,adT _ (d.map λ _=>0) _ s2 (by rw[m5 nrn];exact acy) (by rw[aa]) λ H2 p s3 hp ZG=>?_⟩
  have s2':=s2.trans s3
  have hr2:H2 wc=some (.lst (nY (d.map λ _=>0))):=s3 _ _ (by rw[m5 nrn];exact acy)
  have PL:H2 nw=some (.lst (nY d)):=s3 _ _ m4
  refine⟨a,nw,p,as,f,d,_,rfl,s2' _ _ ha,hT.same s2',PL,ZG,hd,inR _ d rfl,?_⟩
  refine⟨λ mm σ H'=>∃(o6:Option V) (r D pO:List Nat) (u:Vbmrac.Use) (kk:Nat),σ=[some (.ref q),some (.ref a),some (.ref b),some (.ref wc),some (.ref nw),some (acr (bestOf f D ((az d.length).filter (sU (rR f.teams) d.length (nL f.teams) r)))),o6]/\m8 H H'/\H' wc=some (.lst (nY r))/\H' nw=some (.lst (nY D))/\DL d.length r (u.map (·.2))/\D=bC d r/\acx f D kk u pO/\eG f kk D u pO=fU f d/\mm=(slots f).length-u.length,
   ⟨_,none,d.map λ _=>0,d,[],[],_,rfl,s2',hr2,PL,R0,by rw[KP],⟨TQ f,λ c hc=>(by cases hc),eV,λ c hc=>(by cases hc),by rw[<-hd];exact ax _⟩,rfl,rfl⟩,?_⟩
  rintro mm σ H' ⟨o6,r,D,pO,u,kk,rfl,sm,X6,hn',R,eD,T,eq,rfl⟩
  have Oy:D.length=d.length:=by rw[eD];exact Dy R.len
  have F:=IX T.mat
  have step:=I_ (f:=f) (d:=D) (u:=u) (cs:=(az d.length).filter (sU (rR f.teams) d.length (nL f.teams) r)) (TX _ _) (λ c=>by rw[Oy];exact Ye R F c) kk pO T
  have adU:(∀c,bestOf f D ((az d.length).filter (sU (rR f.teams) d.length (nL f.teams) r))=some c->c8 f c (D.getD c 0)=0)->Q (.ref wc) H':=λ h=>by
   have e:=step.2 h
   rw[eq,eD]at e
   rw[e,EO d r R.len]at k
   exact k H' wc sm hrw X6
  cases TZ:bestOf f D ((az d.length).filter (sU (rR f.teams) d.length (nL f.teams) r))with
  |none=>
   refine⟨_,rfl,_,rfl,qa (λ hc=>absurd hc (by decide)) λ _=>rK ⟨_,rfl,adU λ c hc=>by rw[TZ]at hc;cases hc⟩⟩
  |some c=>
   obtain⟨⟨c1,c2⟩,_⟩:=(DN (TX _ _)).1 c TZ
   have hc:c<d.length:=List.mem_range.mp (List.mem_filter.mp c1).1
   have gD:=getD_at (d:=D) (c:=c) (by omega)
   have gr:=getD_at (d:=r) (c:=c) (by rw[R.len];exact hc)
   obtain⟨tb,t,t1,t2,t3,t4,t5⟩:=G4 (hT.same sm) (show c<f.cells.length by omega) c2
   refine⟨_,rfl,_,rfl,qa (λ _=>?_) λ hn=>absurd (show(!decide (V.int (c:Nat)=V.qB))=true by rw[decide_eq_false (by intro z;cases z)];rfl) hn⟩
   refine⟨_,rfl,_,rfl,a,_,_,_,rfl,rfl,nF.of (sm _ _ ha),ou t1,_,rfl,_,rfl,nw,_,_,_,rfl,rfl,nF.of hn',ou (oV gD),tb,t,_,_,_,rfl,t2,t3,t4,_,_,rfl,rfl,_,rfl,?_⟩
   rw[t5]
   refine qa (λ hg=>?_) λ hg=>?_
   ·have hg:(0:Int)<((c8 f c (D.getD c 0):Nat):Int):=of_decide_eq_true hg
    obtain⟨k',v,TU,z1,z2,z3⟩:=step.1 c TZ (by omega)
    have vl:v.length=u.length+1:=by
     have:=z3.length_eq
     rw[aa,aD,aa]at this;exact this
    have vn:=TR z2.mat
    refine⟨_,λ _ _ z=>z,_,rfl,_,rfl,wc,_,c,_,rfl,rfl,nF.of X6,oV gr,_,_,rfl,rfl,wc,_,_,c,rfl,rfl,X6,yq (by rw[nj,R.len];exact hc),?_⟩
    generalize JO:upd H' wc _=H2
    have hr2:H2 wc=some (.lst (nY (bump r c))):=by rw[<-JO,m4];unfold nY bump;rw[fT];rfl
    have PL:H2 nw=some (.lst (nY D)):=by rw[<-JO,m5 (Ne.symm nrn)];exact hn'
    have wg:m8 H H2:=by rw[<-JO];exact sm.put hrw
    refine⟨_,rfl,_,rfl,nw,_,c,_,rfl,rfl,nF.of PL,oV gD,_,_,rfl,rfl,nw,_,_,c,rfl,rfl,PL,yq (by rw[nj,Oy];exact hc),?_⟩
    generalize hH3:upd H2 nw _=H3
    have hn3:H3 nw=some (.lst (nY (bump D c))):=by rw[<-hH3,m4];unfold nY bump;rw[fT];rfl
    have hr3:H3 wc=some (.lst (nY (bump r c))):=by rw[<-hH3,m5 nrn];exact hr2
    have pH:m8 H H3:=by rw[<-hH3];exact wg.put X2
    refine⟨_,rfl,_,rfl,_,rfl,_,rfl,adT H3 (bump r c) _ pH hr3 (by rw[pY,R.len]) λ H4 p Zi hp hp4=>?_⟩
    have s4:=pH.trans Zi
    have hr4:=Zi _ _ hr3
    have hn4:=Zi _ _ hn3
    refine⟨a,nw,p,as,f,bump D c,_,rfl,s4 _ _ ha,hT.same s4,hn4,hp4,by rw[pY,Oy,hd],inR _ _ (by rw[pY,Oy]),?_⟩
    refine⟨(slots f).length-v.length,by omega,_,bump r c,bump D c,TU,v,k',rfl,s4,hr4,hn4,Yf R hc z3,by rw[Vs R.len hc,eD],z2,by rw[<-z1,eq],rfl⟩
   ·have hg:¬ (0:Int)<((c8 f c (D.getD c 0):Nat):Int):=λ z=>hg (decide_eq_true z)
    refine⟨_,rfl,adU λ c' V_=>?_⟩
    rw[TZ]at V_
    cases V_
    omega
end oj
namespace L2
theorem nU.noX{P:aJ}{w:aY}{K:ah}{mg:Str->Option ao}{base:bw}{C:ag}{k:Nat}{f:ag}{fd:bK}{ps:List Str}{sp:Sp}(F:nU P w K mg base (BL P w C) k f fd ps sp):nU P w K mg base oH k f fd ps (λ vs H Q _=>sp vs H Q E0):=
 ⟨λ vs H Q E h=>F.len vs H Q E0 h,λ A outer s H args us vs Q E hr he hb hv hs=>dX (F.run A outer s H args us vs Q E0 hr he hb hv hs) λ r s' h=>by
  cases r with
  |error e=>
   obtain⟨_,_,_,_,_,_,_,_,_,z⟩:=h
   exact(z:False).elim
  |ok fl=>cases fl <;> exact h⟩
theorem rC.noX{P:aJ}{w:aY}{K:ah}{mg:Str->Option ao}{base:bw}{C:ag}{k:Nat}{x:Str}{ps:List Str}{sp:Sp}(h:rC P w K mg base (BL P w C) k x ps sp):rC P w K mg base oH k x ps (λ vs H Q _=>sp vs H Q E0):=
 let⟨f,fd,F,r⟩:=h
 ⟨f,fd,F.noX,r⟩
theorem r_{σ:L2.St}{H:Hp}{Kc:List V->Hp->Prop}(h:Kc [] H):Ws σ H Kc:=h
end L2
namespace oj
def Rw(x wl hl:ag)(H H':Hp):Prop:=∀b o,H b=some o->b≠x->b≠wl->b≠hl->(∀φ,o≠ .ext φ)->H' b=some o
theorem Rw.ne{x wl hl:ag}{H H':Hp}(n:NE H H'):Rw x wl hl H H':=λ b o e _ _ _ z=>n b o e z
theorem rG.same{CF CC CT:ag}{H H':Hp}{a:ag}{f:ae}(h:rG CF CC CT H a f)(sm:m8 H H'):rG CF CC CT H' a f:=by
 obtain⟨dx,lc,lt,as,bs,h1,h2,h3,h4,h5⟩:=h
 exact⟨dx,lc,lt,as,bs,sm _ _ h1,sm _ _ h2,⟨h3.1,λ j b c e1 e2=>let⟨d,z⟩:=h3.2 j b c e1 e2;⟨d,sm _ _ z⟩⟩,sm _ _ h4,⟨h5.1,λ j b t e1 e2=>(h5.2 j b t e1 e2).same sm⟩⟩
structure vg(CS CF CC CT:ag)(s:bR)(f0:ae)(ws:List Nat)(a:ag)(H:Hp)(x wl hl:ag):Prop where
 se:Ab CS H x (.ref a) wl hl ws s.done
 ne:wl≠hl
 fa:∃H0:Hp,rG CF CC CT H0 a f0/\m8 H0 H/\H0 x=none/\H0 wl=none/\H0 hl=none/\∀b φ,H0 b≠some (.ext φ)
 ok:Du f0
 nm:∀c∈f0.cells,c.name.length<=8
 fe:s.field=pM f0 ws
 lw:ws.length=f0.cells.length
 ld:s.done.length=f0.cells.length
 tE:∀n∈s.done,n<=20
 Zj:∀n∈ws,n<=1000000000000
theorem Ba{f:ae}{ws:List Nat}{c:bF}(h:c∈(pM f ws).cells):∃c0∈f.cells,c.finds=c0.finds/\c.time=c0.time/\c.weight∈ws:=by
 unfold pM at h
 obtain⟨i,hi,e⟩:=cw h
 rw[c_]at hi
 rw[List.getElem_zipWith]at e
 rw[<-e]
 exact⟨_,cp (show i<f.cells.length by omega),rfl,rfl,cp (show i<ws.length by omega)⟩
section
variable{CS CF CC CT:ag}{s:bR}{f0:ae}{ws:List Nat}{a:ag}{H:Hp}{x wl hl:ag}
theorem vg.field(T:vg CS CF CC CT s f0 ws a H x wl hl):rG CF CC CT H a f0:=by
 obtain⟨H0,h1,h2,_⟩:=T.fa
 exact h1.same h2
theorem vg.len(T:vg CS CF CC CT s f0 ws a H x wl hl):s.field.cells.length=f0.cells.length:=by rw[T.fe];exact qO T.lw
theorem vg.wC(T:vg CS CF CC CT s f0 ws a H x wl hl):f0.cells.length<=16:=T.ok.cells.len
theorem vg.dl(T:vg CS CF CC CT s f0 ws a H x wl hl):s.done.length=s.field.cells.length:=by rw[T.ld,T.len]
theorem vg.fw(T:vg CS CF CC CT s f0 ws a H x wl hl):FW s.field:=by
 have p:=T.ok.parts
 have ep:s.field.parts=f0.parts:=by rw[T.fe];rfl
 refine⟨by rw[ep];omega,by rw[ep];omega,by rw[T.len];exact T.wC,λ q=>?_,λ c hc=>?_,λ c hc=>?_⟩
 ·have h1:=T.len
  rw[q]at h1
  exact T.ok.ne (List.length_eq_zero_iff.mp h1.symm)
 ·rw[T.fe]at hc
  obtain⟨c0,_,_,_,z⟩:=Ba hc
  exact T.Zj _ z
 ·rw[T.fe]at hc
  obtain⟨c0,h0,z,_,_⟩:=Ba hc
  rw[z,ep]
  exact(T.ok.cells.each c0 h0).finds
theorem vg.time(T:vg CS CF CC CT s f0 ws a H x wl hl):uq s.field:=λ c hc=>by
 rw[T.fe]at hc
 obtain⟨c0,h0,_,z,_⟩:=Ba hc
 rw[z]
 exact(T.ok.cells.each c0 h0).time
theorem vg.teams(T:vg CS CF CC CT s f0 ws a H x wl hl):s.field.teams=f0.teams:=by rw[T.fe];rfl
theorem vg.times(T:vg CS CF CC CT s f0 ws a H x wl hl):s.field.cells.map (·.time)=f0.cells.map (·.time):=by
 rw[T.fe]
 apply bO
 intro i
 rw[ak,ak]
 show j8 _ (jO _ _ _)[i]? =_
 rw[aP]
 by_cases hi:i<f0.cells.length
 ·rw[af hi,af (show i<ws.length by rw[T.lw];exact hi)];rfl
 ·rw[aI (show f0.cells.length<=i by omega)]
theorem vg.Vt(T:vg CS CF CC CT s f0 ws a H x wl hl){H':Hp}(n:NE H H'):vg CS CF CC CT s f0 ws a H' x wl hl:=by
 obtain⟨H0,h1,h2,h3⟩:=T.fa
 have e:∀b o,H b=some o->(∀φ,o≠ .ext φ)->H' b=some o:=λ b o e z=>n b o e z
 obtain⟨⟨dx,e1⟩,e2,e3⟩:=T.se
 refine⟨⟨⟨dx,e _ _ e1 (λ φ q=>by cases q)⟩,e _ _ e2 (λ φ q=>by cases q),e _ _ e3 (λ φ q=>by cases q)⟩,T.ne,⟨H0,h1,λ b o eb=>e b o (h2 b o eb) λ φ q=>h3.2.2.2 b φ (by rw[eb,q]),h3⟩,T.ok,T.nm,T.fe,T.lw,T.ld,T.tE,T.Zj⟩
theorem vg.same(T:vg CS CF CC CT s f0 ws a H x wl hl){H':Hp}(sm:m8 H H'):vg CS CF CC CT s f0 ws a H' x wl hl:=T.Vt (NE.of_same sm)
theorem vg.qt(T:vg CS CF CC CT s f0 ws a H x wl hl){Q:VK}{E:XK}(k:∀H' p as,m8 H H'->H p=none->H' p=some (.lst (as.map V.ref))->TabsAt H' as (n_ s.field)->Q (.ref p) H'):Ie CS CF CC CT [.ref x] H Q E:=by
 have W:=T.fw
 rw[T.fe]at k W
 exact⟨x,wl,hl,a,ws,s.done,f0,rfl,T.se,T.field,T.lw,W,k⟩
theorem vg.An(T:vg CS CF CC CT s f0 ws a H x wl hl){Q:VK}{E:XK}(k:∀H',m8 H H'->Q (.int (left s.field s.done:Nat)) H'):QW CS CF CC CT [.ref x] H Q E:=by
 have W:=T.fw
 rw[T.fe]at k W
 exact⟨x,wl,hl,a,ws,s.done,f0,rfl,T.se,T.field,T.lw,W,T.ld,T.tE,k⟩
theorem vg.E6(T:vg CS CF CC CT s f0 ws a H x wl hl){Q:VK}{E:XK}(k:GI H Q (nY (s.field.cells.map (·.time)))):Mw CS CF CC CT [.ref x] H Q E:=by
 rw[T.times]at k
 exact⟨x,wl,hl,a,ws,s.done,f0,rfl,T.se,T.field,T.wC,k⟩
theorem vg.MJ(T:vg CS CF CC CT s f0 ws a H x wl hl){Q:VK}{E:XK}{b:ag}{zs:List Int}(hb:H b=some (.lst (iL zs)))(hz:zs.length<=70)(k:∀H',m8 H H'->Q (.bl (fM s zs)) H'):Mm CS [.ref x,.ref b] H Q E:=by
 refine⟨x,wl,hl,b,_,ws,s.done,zs,rfl,T.se,hb,by omega,λ H' sm=>?_⟩
 have e:(zs.length == s.done.length && zs.all λ z=>bI z 0 20)=fM s zs:=by unfold fM;rw[T.dl];rfl
 rw[e];exact k H' sm
theorem vg.Jg(T:vg CS CF CC CT s f0 ws a H x wl hl){Q:VK}{E:XK}{b:ag}{zs:List Int}(hb:H b=some (.lst (iL zs)))(k:∀H',m8 H H'->Q (.bl (DD s.done zs)) H'):EX CS [.ref x,.ref b] H Q E:=
 ⟨x,wl,hl,b,_,ws,s.done,zs,rfl,T.se,hb,by rw[T.ld];exact T.wC,k⟩
theorem vg.MK(T:vg CS CF CC CT s f0 ws a H x wl hl){Q:VK}{E:XK}{z:Int}(k:Q (.bl (decide (((aZ s.done:Nat):Int)+z<=20*((s.done.length:Nat):Int)))) H):yC CS [.ref x,.int z] H Q E:=
 ⟨x,wl,hl,_,ws,s.done,z,rfl,T.se,k⟩
theorem vg.DQ(T:vg CS CF CC CT s f0 ws a H x wl hl){Q:VK}{E:XK}{z:Int}(k:Q (.bl (eR s z)) H):Ic CS [.ref x,.int z] H Q E:=by
 refine⟨x,wl,hl,_,ws,s.done,z,rfl,T.se,?_⟩
 rw[T.dl];exact k
end
def pj(b1 b2:Bool)(l:Nat)(rest:List Int):List Int:=if b1=false then[-1]else if b2=false then[-3]else if l=0 then[-6]else rest
theorem tT{b1 b2:Bool}{l:Nat}(h:pj b1 b2 l []=[]):b1=true/\b2=true/\l≠0:=by
 unfold pj at h
 cases b1 with
 |false=>cases h
 |true=>
  cases b2 with
  |false=>cases h
  |true=>
   refine⟨rfl,rfl,λ z=>?_⟩
   rw[z]at h;cases h
theorem O8{b1 b2:Bool}{l:Nat}(rest:List Int)(h:pj b1 b2 l []≠[]):pj b1 b2 l rest=pj b1 b2 l []:=by
 unfold pj at h ⊢
 cases b1 with
 |false=>rfl
 |true=>
  cases b2 with
  |false=>rfl
  |true=>
   by_cases z:l=0
   ·rw[z];rfl
   ·rw[if_neg (by simp),if_neg (by simp),if_neg z]at h;exact absurd rfl h
theorem qG{l:Nat}(h:l≠0)(rest:List Int):pj true true l rest=rest:=by
 unfold pj
 rw[if_neg (by simp),if_neg (by simp),if_neg h]
theorem DR{s:bR}{zs:List Int}(h:fM s zs=true):iL zs=nY (bV zs)/\(bV zs).length=s.field.cells.length/\(∀n∈bV zs,n<=20)/\zs=dU (bV zs):=by
 unfold fM at h
 rw[bj,fA]at h
 have e:zs=dU (bV zs):=by
  unfold dU bV
  rw[aW]
  conv=>lhs;rw[<-ie zs]
  refine bP λ z hz=>?_
  have q:=h.2 z hz
  unfold bI at q
  simp at q
  show z=((z.toNat:Nat):Int)
  omega
 refine⟨?_,?_,λ n hn=>?_,e⟩
 ·rw[ur]
  exact congrArg iL e
 ·unfold bV
  rw[aa];exact eq_of_beq h.1
 ·obtain⟨z,hz,rfl⟩:=List.mem_map.mp hn
  have q:=h.2 z hz
  unfold bI at q
  rw[bj,decide_eq_true_iff,decide_eq_true_iff]at q
  have q2:z<=(20:Int):=q.2
  have q1:=q.1
  show z.toNat<=20
  omega
theorem Bb{s:bR}{zs:List Int}(h:fM s zs=true)(d:List Nat):DD d zs= !dr (bC d (bV zs)):=by
 have e:=(DR h).2.2.2
 have e1:vI d zs=(bC d (bV zs)).map λ(n:Nat)=>(n:Int):=by
  conv=>lhs;rw[e]
  unfold vI bC dU
  rw[jb,gO];rfl
 unfold DD dr
 rw[e1,cH,jL]
 congr 1
 funext n
 show decide ((n:Int)<=20)= !decide (20<n)
 by_cases q:n<=20
 ·rw[decide_eq_true (by omega),decide_eq_false (by omega)];rfl
 ·rw[decide_eq_false (by omega),decide_eq_true (by omega)];rfl
theorem ML{d:List Nat}(h:dr d=false):∀n∈d,n<=20:=λ n hn=>by
 unfold dr at h
 rw[iT]at h
 have:=h n hn
 have h2:¬ 20<n:=λ z=>this (decide_eq_true z)
 omega
theorem Rx(d:List Nat)(wk:∀n∈d,n<=20):room d+aZ d=20*d.length:=by
 unfold Vbmrac.room
 induction d with
 |nil=>rfl
 |cons a d ih=>
  rw[aG,oy,oy,aD]
  have:=ih λ n hn=>wk n (by simp[hn])
  have ha:=wk a (by simp)
  show(20-a)+ _+ _=_
  omega
theorem t9(z:Int)(l:List Int):iL (z::l)=V.int z::iL l:=rfl
theorem Ao(l m:List Int):iL (l++m)=iL l++iL m:=aF
theorem Bc(l:List Nat):iL (dU l)=nY l:=by rw[ur];rfl
theorem Li{l:List Int}{A B:Prop}(h1:l≠[]->A)(h2:l=[]->B):if(!(iL l).isEmpty)=true then A else B:=by
 cases l with
 |nil=>exact rK (h2 rfl)
 |cons a r=>exact tq (h1 (by simp))
theorem Vu{H:Hp}{p:ag}{b1 b2:Bool}{l:Nat}{rest:List Int}(h:pj b1 b2 l []≠[])(hp:H p=some (.lst (iL (pj b1 b2 l [])))):H p=some (.lst (iL (pj b1 b2 l rest))):=by
 rw[hp,O8 rest h]
theorem o_{H H':Hp}{Q:VK}{g:List Int}{ys:List V}(k:GI H Q (iL g))(sm:m8 H H')(e:ys=iL g)(p:ag)(hp:H' p=none):Q (.ref p) (upd H' p (.lst ys)):=
 k _ p (sm.put (none_of sm hp)) (none_of sm hp) (by rw[m4,e])
theorem CA{α:Type}(s:α)(b1 b2:Bool)(l:Nat)(r:List Int):(if b1=false then(s,[-1])else if b2=true then(s,[-3])else if l=0 then(s,[-6])else(s,r)).2=pj b1 (!b2) l r:=by
 unfold pj
 cases b1 with
 |false=>rfl
 |true=>
  cases b2 with
  |true=>rfl
  |false=>
   by_cases h:l=0
   ·simp[h]
   ·simp[h]
theorem CD{α:Type}(s:α)(b1:Bool)(m n:Nat)(l:Nat)(r:List Int):(if b1=false then(s,[-1])else if m<n then(s,[-3])else if l=0 then(s,[-6])else(s,r)).2=pj b1 (decide (n<=m)) l r:=by
 unfold pj
 cases b1 with
 |false=>rfl
 |true=>
  by_cases h1:m<n
  ·rw[decide_eq_false (by omega)];simp[h1]
  ·rw[decide_eq_true (by omega)]
   by_cases h:l=0
   ·simp[h,h1]
   ·simp[h,h1]
theorem rJ{b1 b2 b2':Bool}{l:Nat}{r:List Int}(h:b1=true->b2=b2'):pj b1 b2 l r=pj b1 b2' l r:=by
 cases b1 with
 |false=>rfl
 |true=>rw[h rfl]
theorem pz{z lo hi:Int}:bI z lo hi=true↔lo<=z/\z<=hi:=by
 unfold bI;rw[bj,decide_eq_true_iff,decide_eq_true_iff]
theorem Jh{d:List Nat}{z:Int}(wk:∀n∈d,n<=20)(hz:0<=z):decide (((aZ d:Nat):Int)+z<=20*((d.length:Nat):Int))=decide (z.toNat<=room d):=by
 have:=Rx d wk
 exact decide_eq_decide.mpr (by omega)
def Lj(CS CF CC CT:ag):Sp:=λ vs H Q _=>∃(x wl hl a:ag) (s:bR) (f0:ae) (ws:List Nat) (b1 b2:Bool),vs=[.ref x,.bl b1,.bl b2]/\vg CS CF CC CT s f0 ws a H x wl hl/\GI H Q (iL (pj b1 b2 (left s.field s.done) []))
abbrev Yg:List Str:=["search","as_told","can_be_made"]
theorem Lk:m_ Yg ["search","as_told","can_be_made"] (m6 Ht):=qi
abbrev Yh(P:aJ)(w:aY)(K:ah)(mg:Str->Option ao)(base:bw)(CS:ag)(CF:ag)(CC:ag)(CT:ag):Prop:=uo P w K mg base oH 3 CS "left" ["self"] (QW CS CF CC CT)
theorem Vv(F:pJ K "refused" "refused" Ht f fd)(S:p7 K CS)(nI:oG mg "NOT_AS_TOLD" (-1))(pB:oG mg "TOO_MANY" (-3))(qR:Yh P w K mg base CS CF CC CT)(nX:oG mg "NOTHING_LEFT" (-6)):nU P w K mg base oH 4 f fd ["search","as_told","can_be_made"] (Lj CS CF CC CT):=by
 refine F.ok Lk (λ vs H Q E h=>?_) (λ oX A outer s H vs Q E hr h=>?_)
 ·obtain⟨x,wl,hl,a,s',f0,ws,b1,b2,rfl,_⟩:=h
  rfl
 ·obtain⟨x,wl,hl,a,s',f0,ws,b1,b2,rfl,T,k⟩:=h
  have nd:=Lk.nd
  have nM:=S.cl
  refine⟨_,(mY (pk (vi (tH (pv 1))) (m7 (nq (nQ (mX (nV nI) mZ)))) n9)
   (mY (pk (vi (tH (pv 2))) (m7 (nq (nQ (mX (nV pB) mZ)))) n9)
   (mY (pk (ot ud (oW (E:=E0) qR nM hr (by decide) nv (pv 0)) nP (oM _)) (m7 (nq (nQ (mX (nV nX) mZ)))) n9)
   (m7 (nq (nQ mZ)))))),?_⟩
  obtain⟨dx,hx⟩:=T.se.1
  cases b1 with
  |false=>exact⟨_,rfl,_,rfl,tq ⟨(by show 1<=ay;decide),o_ k (m8.refl _) rfl⟩⟩
  |true=>
   refine⟨_,rfl,_,rfl,rK ?_⟩
   cases b2 with
   |false=>exact⟨_,rfl,_,rfl,tq ⟨(by show 1<=ay;decide),o_ k (m8.refl _) rfl⟩⟩
   |true=>
    refine⟨_,rfl,_,rfl,rK ?_⟩
    refine⟨_,rfl,x,dx,_,rfl,hx,rfl,r_ (T.An λ H1 s1=>⟨rfl,_,rfl,qa (λ hc=>?_) λ hc=>?_⟩)⟩
    ·have hc:=V.int.inj (of_decide_eq_true hc)
     have e:left s'.field s'.done=0:=by omega
     rw[e]at k
     exact⟨(by show 1<=ay;decide),o_ k s1 rfl⟩
    ·have e:left s'.field s'.done≠0:=λ z=>hc (decide_eq_true (by rw[z];rfl))
     rw[qG e]at k
     exact⟨aE _,o_ k s1 rfl⟩
def Bx(CS CF CC CT:ag)(ar:Nat)(g:bR->ae->List Int->List Int->List Int):Sp:=λ vs H Q _=>∃(x wl hl nl rl a:ag) (s:bR) (f0:ae) (ws:List Nat) (ns zs:List Int),vs=[.ref x,.ref nl,.ref rl]/\vg CS CF CC CT s f0 ws a H x wl hl/\H nl=some (.lst (iL ns))/\H rl=some (.lst (iL zs))/\ns.length=ar/\zs.length<=70/\GI H Q (iL (g s f0 ns zs))
def Ry(s:bR)(f0:ae)(ns zs:List Int):List Int:=(eO s f0 (.would zs)).2
theorem Vw(s:bR)(f0:ae)(ns zs:List Int):Ry s f0 ns zs=pj (fM s zs) (DD s.done zs) (left s.field s.done) (0::jR (dQ s.field s.done (bV zs))):=
 (CA s (fM s zs) (dr (bC s.done (bV zs))) _ _).trans (rJ λ h=>(Bb h _).symm)
abbrev Rz:List Str:=["search","numbers","row","refusal"]
theorem Gd:m_ Rz tu (m6 BZ):=qi
abbrev Vx(P:aJ)(w:aY)(K:ah)(mg:Str->Option ao)(base:bw)(CS:ag)(CF:ag)(CC:ag)(CT:ag):Prop:=rC P w K mg base oH 4 "refused" ["search","as_told","can_be_made"] (Lj CS CF CC CT)
abbrev acz(P:aJ)(w:aY)(K:ah)(mg:Str->Option ao)(base:bw)(CS:ag):Prop:=uo P w K mg base oH 1 CS "is_row" ["self","row"] (Mm CS)
abbrev acA(P:aJ)(w:aY)(K:ah)(mg:Str->Option ao)(base:bw)(CS:ag):Prop:=uo P w K mg base oH 2 CS "has_room" ["self","row"] (EX CS)
abbrev aav(P:aJ)(w:aY)(K:ah)(mg:Str->Option ao)(base:bw):Prop:=rC P w K mg base oH 2 "found" ["tables","had","row"] Tp
theorem Ge(F:pJ K "call_would" "call_would" BZ f fd)(S:p7 K CS)(oB:Vx P w K mg base CS CF CC CT)(qV:acz P w K mg base CS)(p6:acA P w K mg base CS)(nG:oG mg "DONE" 0)(qA:aav P w K mg base)(nW:Wd P w K mg base CS CF CC CT):nU P w K mg base oH 5 f fd tu (Bx CS CF CC CT 0 Ry):=by
 refine F.ok Gd (λ vs H Q E h=>?_) (λ oX A outer s H vs Q E hr h=>?_)
 ·obtain⟨x,wl,hl,nl,rl,a,s',f0,ws,ns,zs,rfl,_⟩:=h
  rfl
 ·obtain⟨x,wl,hl,nl,rl,a,s',f0,ws,ns,zs,rfl,T,hn,hz,ln,lz,k⟩:=h
  have nd:=Gd.nd
  have nM:=S.cl
  refine⟨_,(mY (m9 (i:=3) nd rfl (Or.inl rfl) (nA (E:=E0) oB hr (by decide) nv (mX (pv 0) (mX (pR (E:=E0) qV nM hr (by decide) nv (pv 0) (mX (pv 2) mZ)) (mX (pR (E:=E0) p6 nM hr (by decide) nv (pv 0) (mX (pv 2) mZ)) mZ)))))
   (mY (pk (xB (pv 3) (λ _=>rfl)) (m7 (nq (pv 3))) n9)
   (m7 (nq (om qX (nQ (mX (nV nG) mZ)) (nA (E:=E0) qA hr (by decide) nv (mX (oW (E:=E0) nW nM hr (by decide) nv (pv 0)) (mX (nr (pv 0) rfl) (mX (pv 2) mZ))))))))),?_⟩
  obtain⟨dx,hx⟩:=T.se.1
  rw[Vw]at k
  refine⟨_,rfl,_,rfl,x,dx,_,rfl,hx,rfl,_,rfl,r_ (T.MJ hz lz λ H1 s1=>?_)⟩
  refine⟨_,rfl,x,dx,_,rfl,s1 _ _ hx,rfl,_,rfl,r_ ((T.same s1).Jg (s1 _ _ hz) λ H2 s2=>?_)⟩
  have vE:=s1.trans s2
  have T2:=T.same vE
  refine⟨x,wl,hl,a,s',f0,ws,_,_,rfl,T2,λ H3 p s3 hp NU=>?_⟩
  have wG:=vE.trans s3
  refine⟨_,rfl,_,.inl ⟨_,nF.of NU,rfl⟩,Li (λ h=>?_) λ h=>?_⟩
  ·exact⟨_,rfl,k H3 p wG (none_of vE hp) (Vu h NU)⟩
  ·obtain⟨c1,c2,c3⟩:=tT h
   rw[c1,c2,qG c3]at k
   obtain⟨r1,r2,r3,r4⟩:=DR c1
   have tm:dr (bC s'.done (bV zs))=false:=by
    rw[Bb c1]at c2
    cases q:dr (bC s'.done (bV zs))with
    |false=>rfl
    |true=>rw[q]at c2;cases c2
   have W:=T.fw
   refine⟨(by show 1<=ay;decide),λ l1 J8=>?_⟩
   have s4:=wG.put (o:=.lst [V.int 0]) (none_of wG J8)
   have T4:=T.same s4
   refine⟨_,rfl,x,dx,_,rfl,s4 _ _ hx,rfl,r_ (T4.qt λ H5 tb ts s5 Yi Yj hT=>?_)⟩
   have J9:=s4.trans s5
   refine⟨_,rfl,x,CS,dx,_,_,rfl,J9 _ _ hx,S.cl,S.n3,rfl,_,rfl,tb,hl,rl,ts,s'.field,s'.done,bV zs,rfl,W,Yj,hT,J9 _ _ T.se.2.2,by rw[J9 _ _ hz,r1],T.dl,by rw[r2,T.dl],ML tm,b_ c3,λ H6 q s6 hq hq6=>?_⟩
   exact⟨l1,q,_,_,rfl,rfl,s6 _ _ (s5 _ _ m4),hq6,(by show 3<=ay;decide),o_ k (J9.trans s6) rfl⟩
def Yk(s:bR)(f0:ae)(ns zs:List Int):List Int:=(eO s f0 (.best (ns.getD 0 0))).2
theorem Yl(s:bR)(f0:ae)(ns zs:List Int)(wk:∀n∈s.done,n<=20):Yk s f0 ns zs=pj (bI (ns.getD 0 0) 0 60) (decide (((aZ s.done:Nat):Int)+ns.getD 0 0<=20*((s.done.length:Nat):Int))) (left s.field s.done) (0::(dU (eN (jS s.field (ns.getD 0 0).toNat s.done) s.done)++jR (dQ s.field s.done (eN (jS s.field (ns.getD 0 0).toNat s.done) s.done)))):=
 (CD s (bI (ns.getD 0 0) 0 60) (room s.done) (ns.getD 0 0).toNat _ _).trans (rJ λ h=>(Jh wk (pz.mp h).1).symm)
theorem G6{ns:List Int}(h:ns.length=1):(iL ns)[0]? =some (.int (ns.getD 0 0)):=by
 cases ns with
 |nil=>cases h
 |cons z r=>rfl
theorem count_cast(l:List Nat)(c:Nat):(l.map λ(n:Nat)=>(n:Int)).count (c:Int)=l.count c:=by
 induction l with
 |nil=>rfl
 |cons a l ih=>
  rw[aG,eM,eM,ih]
  congr 1
  by_cases e:a=c
  ·subst e;simp
  ·rw[if_neg (by simp;omega),if_neg (by simp[e])]
abbrev Vy:List Str:=["search","numbers","row","many","refusal","tables","best"]
theorem Ji:m_ Vy tu (m6 EE):=qi
abbrev acB(P:aJ)(w:aY)(K:ah)(mg:Str->Option ao)(base:bw)(CS:ag):Prop:=uo P w K mg base oH 1 CS "has_room_for" ["self","many"] (yC CS)
theorem Jj(F:pJ K "call_best" "call_best" EE f fd)(S:p7 K CS)(oB:Vx P w K mg base CS CF CC CT)(qI:oG mg "MOST_BEST" 60)(oR:acB P w K mg base CS)(nW:Wd P w K mg base CS CF CC CT)(uh:rC P w K mg base oH 1 "row_of" ["order","many_cells"] Mq)(pU:Hz9 P w K mg base)(pf:mg "len"=none)(nG:oG mg "DONE" 0)(qA:aav P w K mg base):nU P w K mg base oH 5 f fd tu (Bx CS CF CC CT 1 Yk):=by
 refine F.ok Ji (λ vs H Q E h=>?_) (λ oX A outer s H vs Q E hr h=>?_)
 ·obtain⟨x,wl,hl,nl,rl,a,s',f0,ws,ns,zs,rfl,_⟩:=h
  rfl
 ·obtain⟨x,wl,hl,nl,rl,a,s',f0,ws,ns,zs,rfl,T,hn,hz,ln,lz,k⟩:=h
  have nd:=Ji.nd
  have nM:=S.cl
  refine⟨_,(mY (m9 (i:=3) nd rfl (Or.inl rfl) (pd oh (pv 1) nP (λ _ _=>rfl)))
   (mY (m9 (i:=4) nd rfl (Or.inl rfl) (nA (E:=E0) oB hr (by decide) nv (mX (pv 0) (mX (vk p_ p_ nP (pv 3) (nV qI)) (mX (pR (E:=E0) oR nM hr (by decide) nv (pv 0) (mX (pv 3) mZ)) mZ)))))
   (mY (pk (xB (pv 4) (λ _=>rfl)) (m7 (nq (pv 4))) n9)
   (mY (m9 (i:=5) nd rfl (Or.inl rfl) (oW (E:=E0) nW nM hr (by decide) nv (pv 0)))
   (mY (m9 (i:=6) nd rfl (Or.inl rfl) (nA (E:=E0) uh hr (by decide) nv (mX (nA (E:=E0) pU hr (by decide) nv (mX (pv 5) (mX (nr (pv 0) rfl) (mX (pv 3) mZ)))) (mX (nN nO rfl pf aX (mX (nr (pv 0) rfl) mZ)) mZ))))
   (m7 (nq (om qX (om qX (nQ (mX (nV nG) mZ)) (pv 6)) (nA (E:=E0) qA hr (by decide) nv (mX (pv 5) (mX (nr (pv 0) rfl) (mX (pv 6) mZ)))))))))))),?_⟩
  obtain⟨dx,hx⟩:=T.se.1
  rw[Yl _ _ _ _ T.tE]at k
  have h0:=G6 ln
  generalize hkk:ns.getD 0 0=kk at k h0
  have W:=T.fw
  refine⟨_,rfl,nl,_,_,_,rfl,rfl,nF.of hn,at_of (j:=0) rfl h0,_,rfl,uf gc gv gc ?_⟩
  refine⟨_,rfl,x,dx,_,rfl,hx,rfl,_,rfl,r_ (T.MK ?_)⟩
  refine⟨x,wl,hl,a,s',f0,ws,_,_,rfl,T,λ H3 p s3 hp NU=>?_⟩
  refine⟨_,rfl,_,.inl ⟨_,nF.of NU,rfl⟩,Li (λ h=>?_) λ h=>?_⟩
  ·exact⟨_,rfl,k H3 p s3 hp (Vu h NU)⟩
  ·obtain⟨c1,c2,c3⟩:=tT h
   rw[c1,c2,qG c3]at k
   obtain⟨i1,i2⟩:=pz.mp c1
   have c2:=of_decide_eq_true c2
   obtain⟨n,rfl⟩:∃n:Nat,kk=(n:Int):=⟨kk.toNat,by omega⟩
   rw[show((n:Int)).toNat=n from rfl]at k
   have rm:aZ s'.done+n<=20*s'.done.length:=by omega
   obtain⟨q1,q2,q3⟩:=tQ (f:=s'.field) n s'.done T.tE rm
   have q4:=q3 n (ax _)
   rw[cq (by omega)]at q4
   have q5:=IA _ _ (A7 _ _ q2)
   rw[q4]at q5
   refine⟨_,rfl,x,dx,_,rfl,s3 _ _ hx,rfl,r_ ((T.same s3).qt λ H4 tb ts s4 Yi Ym hT=>?_)⟩
   have KZ:=s3.trans s4
   have T4:=T.same KZ
   refine⟨_,rfl,_,rfl,x,CS,dx,_,_,rfl,KZ _ _ hx,S.cl,S.n3,rfl,_,rfl,tb,hl,ts,s'.field,s'.done,n,rfl,W,Ym,hT,KZ _ _ T.se.2.2,T.dl,T.tE,rm,λ H5 dq s5 hdq ae8=>?_⟩
   have J9:=KZ.trans s5
   refine⟨_,rfl,x,CS,dx,_,_,rfl,J9 _ _ hx,S.cl,S.n3,rfl,hl,_,rfl,.inl (nF.of (J9 _ _ T.se.2.2)),dq,(oQ s'.field n s'.done).map (λ(n:Nat)=>(n:Int)),s'.done.length,by rw[nj],by rw[ae8,ur],by rw[T.ld];exact T.wC,λ H6 wc s6 hrw acC=>?_⟩
   have We:=J9.trans s6
   have er:(az s'.done.length).map (λ(c:Nat)=>((oQ s'.field n s'.done).map (λ(n:Nat)=>(n:Int))).count (c:Int))=eN (jS s'.field n s'.done) s'.done:=by
    rw[q5]
    refine bP λ c _=>count_cast _ c
   rw[er]at acC
   generalize hB:eN (jS s'.field n s'.done) s'.done=B at *
   have eB:bC s'.done B=jS s'.field n s'.done:=by
    have:=IC _ _ (A7 _ _ q2)
    rw[q4,hB]at this;exact this
   have lB:B.length=s'.done.length:=by rw[q5,aa,aR]
   refine⟨(by show 1<=ay;decide),λ l1 J8=>?_⟩
   have s7:=m8.new (o:=.lst [V.int 0]) J8
   refine⟨_,rfl,l1,wc,_,_,rfl,rfl,m4,s7 _ _ acC,(by rw[nj,lB,T.ld,aA];show 1+ _<=_;have:=T.wC;omega),λ l2 Nn=>?_⟩
   have s8:=s7.trans (m8.new (o:=.lst ([V.int 0]++nY B)) Nn)
   have RA:=We.trans s8
   refine⟨_,rfl,_,rfl,x,CS,dx,_,_,rfl,RA _ _ hx,S.cl,S.n3,rfl,_,rfl,tb,hl,wc,ts,s'.field,s'.done,B,rfl,W,s8 _ _ (s6 _ _ (s5 _ _ Ym)),hT.same (s5.trans (s6.trans s8)),RA _ _ T.se.2.2,s8 _ _ acC,T.dl,lB,by rw[eB,<-q4];exact Oz _ _ T.tE q2,b_ c3,λ H9 q s9 hq hq9=>?_⟩
   refine⟨l2,q,_,_,rfl,rfl,s9 _ _ m4,hq9,(by rw[aw,nj,lB,T.ld,aA];show 1+ _+2<=_;have:=T.wC;omega),o_ k (RA.trans s9) ?_⟩
   rw[t9,Ao,Bc];rfl
end oj
namespace L2
theorem ae9{ta tb:TE}{σ:L2.St}{H:Hp}{Q:VK}{b1 b2:Bool}(ha:∀R:VK,R (.bl b1) H->ta σ H R)(hb:b1=true->∀R:VK,(∀H',m8 H H'->R (.bl b2) H')->tb σ H R)(k:∀H',m8 H H'->Q (.bl (b1 && b2)) H'):aa0 ta tb σ H Q:=by
 refine ha _ ⟨_,rfl,?_⟩
 cases b1 with
 |false=>exact rK (k H (m8.refl _))
 |true=>exact tq (hb rfl _ λ H' sm=>k H' sm)
end L2
namespace oj
theorem acD(f:ae)(d:List Nat)(c b:Nat)(r s:List Nat):thN f d c b r s<=20-d.getD c 0:=by
 unfold thN
 cases q:(az (20-d.getD c 0+1)).find? (λ n=>decide (n*(bz f c).time<=b) && (cY f c (d.getD c 0)-cY f c (d.getD c 0+n))+s.getD (b-n*(bz f c).time) 0 == r.getD b 0)with
 |none=>exact aE _
 |some n=>
  have:=List.mem_range.mp (jC q)
  show n<=_
  omega
theorem T5(f:ae)(d:List Nat):∀(tb:List (List Nat)) (c b:Nat),(gB f d c b tb).length=tb.length-1/\∀i x,(gB f d c b tb)[i]? =some x->x<=20-d.getD (c+i) 0
 |[],c,b=>⟨rfl,λ i x h=>by cases h⟩
 |[r],c,b=>⟨rfl,λ i x h=>by cases h⟩
 |r::s::t,c,b=>by
  obtain⟨h1,h2⟩:=T5 f d (s::t) (c+1) (b-thN f d c b r s*(bz f c).time)
  rw[K4]
  refine⟨by rw[aD,h1];simp,λ i x h=>?_⟩
  cases i with
  |zero=>cases h;exact acD f d c b r s
  |succ i=>
   have:=h2 i x h
   rw[show c+(i+1)=c+1+i by omega];exact this
theorem Vz{f:ae}{d:List Nat}{B:Nat}(hd:d.length=f.cells.length)(wk:∀n∈d,n<=20):(f_ f d B).length=d.length/\∀n∈bC d (f_ f d B),n<=20:=by
 obtain⟨h1,h2⟩:=T5 f d (b8 f d B f.cells.length) 0 B
 have e:(f_ f d B).length=d.length:=by
  show(gB f d 0 B (b8 f d B f.cells.length)).length=_
  rw[h1,ve,hd];rfl
 refine⟨e,λ n hn=>?_⟩
 obtain⟨i,hi,ei⟩:=cw hn
 rw[Dy e]at hi
 have q1:=getD_at hi
 have q2:(f_ f d B)[i]? =some ((f_ f d B)[i]'(by omega)):=af _
 have q3:(bC d (f_ f d B))[i]? =some n:=by rw[af (by rw[Dy e];exact hi),ei]
 unfold bC at q3
 rw[aP,q1,q2]at q3
 have q3:d.getD i 0+(f_ f d B)[i]'(by omega)=n:=Option.some.inj q3
 have q4:=h2 i _ q2
 rw[cW]at q4
 have q5:=wk _ (aC q1)
 omega
theorem Jk:∀(l d:List Nat),(∀c∈l,c<d.length)->(∀c∈l,d.getD c 0+l.count c<=20)->uE d l
 |[],_,_,_=>trivial
 |c::l,d,h1,h2=>by
  have hc:=h1 c (by simp)
  have c1:=h2 c (by simp)
  rw[List.count_cons_self]at c1
  refine⟨hc,by omega,Jk l (bump d c) (λ x hx=>by rw[pY];exact h1 x (by simp[hx])) λ x hx=>?_⟩
  have cx:=h2 x (by simp[hx])
  rw[eM]at cx
  rw[A6 hc]
  by_cases e:x=c
  ·subst e
   rw[if_pos rfl]
   rw[beq_self_eq_true,if_pos rfl]at cx
   omega
  ·rw[if_neg e];omega
theorem Gf(f:ae)(d:List Nat):∀(e:List Nat) (k:Nat),((e.zipIdx k).flatMap λ x=>(az x.1).map λ j=>(x.2,c8 f x.2 (d.getD x.2 0+j))).map (·.1)=xQ k e
 |[],_=>rfl
 |a::e,k=>by
  rw[d8,eX,aF,yH,Gf f d e (k+1),aW]
  congr 1
  have:∀n,(az n).map (λ _=>k)=cG n k:=λ n=>by
   rw[List.map_const',aR]
  exact this a
theorem DS(f:ae)(d e:List Nat):(dO f d e).Perm (xQ 0 e):=by
 have h:=(EV f (efforts f d e)).map (·.1)
 have e1:(efforts f d e).map (·.1)=xQ 0 e:=Gf f d e 0
 rw[e1]at h
 exact h
theorem RB{f:ae}{d e:List Nat}(he:e.length=d.length)(wk:∀n∈bC d e,n<=20):uE d (dO f d e):=by
 have p:=DS f d e
 have R:=Lc e
 have lt:∀c∈dO f d e,c<d.length:=λ c hc=>by
  have:=R.lt c (p.mem_iff.mp hc)
  omega
 refine Jk _ _ lt λ c hc=>?_
 have hl:=lt c hc
 rw[p.count_eq,<-R.cnt c (by omega)]
 refine wk _ (aC (i:=c) ?_)
 unfold bC
 rw[aP,getD_at hl,getD_at (show c<e.length by omega)]
theorem Ll:∀(e:List Nat) (k:Nat),(xQ k e).length=aZ e
 |[],_=>rfl
 |a::e,k=>by rw[yH,aw,fo,Ll e (k+1),oy]
theorem O9(f:ae)(d e:List Nat):(dO f d e).length=aZ e:=by rw[(DS f d e).length_eq,Ll]
theorem RC{d e:List Nat}(he:e.length=d.length)(wk:∀n∈bC d e,n<=20):∀n∈e,n<=20:=λ n hn=>by
 obtain⟨i,hi,ei⟩:=cw hn
 have q1:=getD_at (d:=d) (c:=i) (by omega)
 have q2:e[i]? =some n:=by rw[af hi,ei]
 have:=wk _ (aC (i:=i) (by unfold bC;rw[aP,q1,q2]))
 omega
theorem O_(d e:List Nat):DD d (dU e)= !dr (bC d e):=by
 have e1:vI d (dU e)=(bC d e).map λ(n:Nat)=>(n:Int):=by
  unfold vI bC dU
  rw[jb,gO];rfl
 unfold DD dr
 rw[e1,cH,jL]
 congr 1
 funext n
 show decide ((n:Int)<=20)= !decide (20<n)
 by_cases q:n<=20
 ·rw[decide_eq_true (by omega),decide_eq_false (by omega)];rfl
 ·rw[decide_eq_false (by omega),decide_eq_true (by omega)];rfl
theorem Gg(n:Nat)(zs:List Int):(az n).map (λ(c:Nat)=>zs.count (c:Int))=g9 n zs:=by
 unfold g9
 refine bP λ c _=>?_
 rw[List.count_eq_countP,dS]
theorem Jl{s:bR}{zs:List Int}(h:zs.all (eR s)=true):iL zs=nY (bV zs)/\(∀c∈bV zs,c<s.field.cells.length)/\zs=dU (bV zs):=by
 rw[fA]at h
 have hz:∀z∈zs,0<=z/\z<=(s.field.cells.length:Int)-1:=λ z hz=>pz.mp (h z hz)
 have e:zs=dU (bV zs):=by
  unfold dU bV
  rw[aW]
  conv=>lhs;rw[<-ie zs]
  refine bP λ z Wa=>?_
  have:=hz z Wa
  show z=((z.toNat:Nat):Int)
  omega
 refine⟨?_,λ c hc=>?_,e⟩
 ·rw[ur];exact congrArg iL e
 ·obtain⟨z,Wa,rfl⟩:=List.mem_map.mp hc
  have:=hz z Wa
  omega
theorem Yn{d:List Nat}{l:List Nat}(hl:∀c∈l,c<d.length)(h:∀n∈bC d (g9 d.length (dU l)),n<=20):uE d l:=by
 refine Jk _ _ hl λ c hc=>?_
 have Ee:=hl c hc
 refine h _ (aC (i:=c) ?_)
 unfold bC
 rw[aP,getD_at Ee,<-Gg,ak,bf Ee]
 show some (_+(dU l).count (c:Int))=_
 rw[show dU l=l.map (λ(n:Nat)=>(n:Int))from rfl,count_cast]
theorem T6{α:Type}(l:List α)(g:α->mC):iL (l.flatMap λ j=>jR (g j))=nY (l.flatMap λ j=>qL (g j)):=by
 unfold iL nY
 rw[gF,gF];rfl
def RD(s:bR)(f0:ae)(ns zs:List Int):List Int:=(eO s f0 (.curve (ns.getD 0 0))).2
theorem VA(s:bR)(f0:ae)(ns zs:List Int)(wk:∀n∈s.done,n<=20):RD s f0 ns zs=pj (bI (ns.getD 0 0) 0 60) (decide (((aZ s.done:Nat):Int)+ns.getD 0 0<=20*((s.done.length:Nat):Int))) (left s.field s.done) (0::(az ((ns.getD 0 0).toNat+1)).flatMap λ j=>jR (dQ s.field s.done (eN (jS s.field j s.done) s.done))):=
 (CD s (bI (ns.getD 0 0) 0 60) (room s.done) (ns.getD 0 0).toNat _ _).trans (rJ λ h=>(Jh wk (pz.mp h).1).symm)
abbrev RE:List Str:=["search","numbers","row","many","refusal"]
theorem Gh:m_ RE tu (m6 B0):=qi
theorem Gi(F:pJ K "call_curve" "call_curve" B0 f fd)(S:p7 K CS)(oB:Vx P w K mg base CS CF CC CT)(qI:oG mg "MOST_BEST" 60)(oR:acB P w K mg base CS)(nG:oG mg "DONE" 0)(uQ:rC P w K mg base oH 4 "best_curve" ["tables","had","many"] FK)(nW:Wd P w K mg base CS CF CC CT):nU P w K mg base oH 5 f fd tu (Bx CS CF CC CT 1 RD):=by
 refine F.ok Gh (λ vs H Q E h=>?_) (λ oX A outer s H vs Q E hr h=>?_)
 ·obtain⟨x,wl,hl,nl,rl,a,s',f0,ws,ns,zs,rfl,_⟩:=h
  rfl
 ·obtain⟨x,wl,hl,nl,rl,a,s',f0,ws,ns,zs,rfl,T,hn,hz,ln,lz,k⟩:=h
  have nd:=Gh.nd
  have nM:=S.cl
  refine⟨_,(mY (m9 (i:=3) nd rfl (Or.inl rfl) (pd oh (pv 1) nP (λ _ _=>rfl)))
   (mY (m9 (i:=4) nd rfl (Or.inl rfl) (nA (E:=E0) oB hr (by decide) nv (mX (pv 0) (mX (vk p_ p_ nP (pv 3) (nV qI)) (mX (pR (E:=E0) oR nM hr (by decide) nv (pv 0) (mX (pv 3) mZ)) mZ)))))
   (mY (pk (xB (pv 4) (λ _=>rfl)) (m7 (nq (pv 4))) n9)
   (m7 (nq (om qX (nQ (mX (nV nG) mZ)) (nA (E:=E0) uQ hr (by decide) nv (mX (oW (E:=E0) nW nM hr (by decide) nv (pv 0)) (mX (nr (pv 0) rfl) (mX (pv 3) mZ)))))))))),?_⟩
  obtain⟨dx,hx⟩:=T.se.1
  rw[VA _ _ _ _ T.tE]at k
  have h0:=G6 ln
  generalize hkk:ns.getD 0 0=kk at k h0
  have W:=T.fw
  refine⟨_,rfl,nl,_,_,_,rfl,rfl,nF.of hn,at_of (j:=0) rfl h0,_,rfl,uf gc gv gc ?_⟩
  refine⟨_,rfl,x,dx,_,rfl,hx,rfl,_,rfl,r_ (T.MK ?_)⟩
  refine⟨x,wl,hl,a,s',f0,ws,_,_,rfl,T,λ H3 p s3 hp NU=>?_⟩
  refine⟨_,rfl,_,.inl ⟨_,nF.of NU,rfl⟩,Li (λ h=>?_) λ h=>?_⟩
  ·exact⟨_,rfl,k H3 p s3 hp (Vu h NU)⟩
  ·obtain⟨c1,c2,c3⟩:=tT h
   rw[c1,c2,qG c3]at k
   obtain⟨i1,i2⟩:=pz.mp c1
   have c2:=of_decide_eq_true c2
   obtain⟨n,rfl⟩:∃n:Nat,kk=(n:Int):=⟨kk.toNat,by omega⟩
   rw[show((n:Int)).toNat=n from rfl]at k
   have rm:aZ s'.done+n<=20*s'.done.length:=by omega
   refine⟨(by show 1<=ay;decide),λ l1 J8=>?_⟩
   have s4:=s3.put (o:=.lst [V.int 0]) (none_of s3 J8)
   refine⟨_,rfl,x,dx,_,rfl,s4 _ _ hx,rfl,r_ ((T.same s4).qt λ H5 tb ts s5 Yi Yj hT=>?_)⟩
   have J9:=s4.trans s5
   refine⟨_,rfl,x,CS,dx,_,_,rfl,J9 _ _ hx,S.cl,S.n3,rfl,_,rfl,tb,hl,ts,s'.field,s'.done,n,rfl,W,Yj,hT,J9 _ _ T.se.2.2,T.dl,T.tE,rm,b_ c3,λ H6 q s6 hq hq6=>?_⟩
   refine⟨l1,q,_,_,rfl,rfl,s6 _ _ (s5 _ _ m4),hq6,(by rw[nj,Ag,aA];show 1+ _<=_;omega),o_ k (J9.trans s6) ?_⟩
   rw[t9,T6];rfl
def RF(s:bR)(f0:ae)(ns zs:List Int):List Int:=(eO s f0 (.price (ns.getD 0 0))).2
theorem VB(s:bR)(f0:ae)(ns zs:List Int)(wk:∀n∈s.done,n<=20):RF s f0 ns zs=pj (bI (ns.getD 0 0) 1 59) (decide (((aZ s.done:Nat):Int)+(ns.getD 0 0+1)<=20*((s.done.length:Nat):Int))) (left s.field s.done) (0::(jR (gg s.field s.done ((ns.getD 0 0).toNat-1))++jR (gg s.field s.done (ns.getD 0 0).toNat))):=
 (CD s (bI (ns.getD 0 0) 1 59) (room s.done) ((ns.getD 0 0).toNat+1) _ _).trans (rJ λ h=>by
  have i:=(pz.mp h).1
  rw[Jh wk (by omega),show(ns.getD 0 0+1).toNat=(ns.getD 0 0).toNat+1 by omega])
abbrev RG:List Str:=["search","numbers","row","many","refusal"]
theorem Gj:m_ RG tu (m6 B_):=qi
theorem Gk(F:pJ K "call_price" "call_price" B_ f fd)(S:p7 K CS)(oB:Vx P w K mg base CS CF CC CT)(uR:oG mg "MOST_PRICE" 59)(oR:acB P w K mg base CS)(nG:oG mg "DONE" 0)(uS:rC P w K mg base oH 4 "best_price" ["tables","had","many"] FN)(nW:Wd P w K mg base CS CF CC CT):nU P w K mg base oH 5 f fd tu (Bx CS CF CC CT 1 RF):=by
 refine F.ok Gj (λ vs H Q E h=>?_) (λ oX A outer s H vs Q E hr h=>?_)
 ·obtain⟨x,wl,hl,nl,rl,a,s',f0,ws,ns,zs,rfl,_⟩:=h
  rfl
 ·obtain⟨x,wl,hl,nl,rl,a,s',f0,ws,ns,zs,rfl,T,hn,hz,ln,lz,k⟩:=h
  have nd:=Gj.nd
  have nM:=S.cl
  refine⟨_,(mY (m9 (i:=3) nd rfl (Or.inl rfl) (pd oh (pv 1) nP (λ _ _=>rfl)))
   (mY (m9 (i:=4) nd rfl (Or.inl rfl) (nA (E:=E0) oB hr (by decide) nv (mX (pv 0) (mX (vk p_ p_ nP (pv 3) (nV uR)) (mX (pR (E:=E0) oR nM hr (by decide) nv (pv 0) (mX (om qW (pv 3) nP) mZ)) mZ)))))
   (mY (pk (xB (pv 4) (λ _=>rfl)) (m7 (nq (pv 4))) n9)
   (m7 (nq (om qX (nQ (mX (nV nG) mZ)) (nA (E:=E0) uS hr (by decide) nv (mX (oW (E:=E0) nW nM hr (by decide) nv (pv 0)) (mX (nr (pv 0) rfl) (mX (pv 3) mZ)))))))))),?_⟩
  obtain⟨dx,hx⟩:=T.se.1
  rw[VB _ _ _ _ T.tE]at k
  have h0:=G6 ln
  generalize hkk:ns.getD 0 0=kk at k h0
  have W:=T.fw
  refine⟨_,rfl,nl,_,_,_,rfl,rfl,nF.of hn,at_of (j:=0) rfl h0,_,rfl,uf gc gv gc ?_⟩
  refine⟨_,rfl,x,dx,_,rfl,hx,rfl,_,rfl,_,_,rfl,rfl,r_ (T.MK ?_)⟩
  refine⟨x,wl,hl,a,s',f0,ws,_,_,rfl,T,λ H3 p s3 hp NU=>?_⟩
  refine⟨_,rfl,_,.inl ⟨_,nF.of NU,rfl⟩,Li (λ h=>?_) λ h=>?_⟩
  ·exact⟨_,rfl,k H3 p s3 hp (Vu h NU)⟩
  ·obtain⟨c1,c2,c3⟩:=tT h
   rw[c1,c2,qG c3]at k
   obtain⟨i1,i2⟩:=pz.mp c1
   have c2:=of_decide_eq_true c2
   obtain⟨n,rfl⟩:∃n:Nat,kk=(n:Int):=⟨kk.toNat,by omega⟩
   rw[show((n:Int)).toNat=n from rfl]at k
   have rm:aZ s'.done+(n+1)<=20*s'.done.length:=by omega
   refine⟨(by show 1<=ay;decide),λ l1 J8=>?_⟩
   have s4:=s3.put (o:=.lst [V.int 0]) (none_of s3 J8)
   refine⟨_,rfl,x,dx,_,rfl,s4 _ _ hx,rfl,r_ ((T.same s4).qt λ H5 tb ts s5 Yi Yj hT=>?_)⟩
   have J9:=s4.trans s5
   refine⟨_,rfl,x,CS,dx,_,_,rfl,J9 _ _ hx,S.cl,S.n3,rfl,_,rfl,tb,hl,ts,s'.field,s'.done,n,rfl,W,Yj,hT,J9 _ _ T.se.2.2,T.dl,T.tE,rm,by omega,b_ c3,λ H6 q s6 hq hq6=>?_⟩
   refine⟨l1,q,_,_,rfl,rfl,s6 _ _ (s5 _ _ m4),hq6,(by show 5<=ay;decide),o_ k (J9.trans s6) rfl⟩
def MM(s:bR)(f0:ae)(ns zs:List Int):List Int:=(eO s f0 (.thrift_ (ns.getD 0 0))).2
theorem RH(s:bR)(f0:ae)(ns zs:List Int):MM s f0 ns zs=pj (bI (ns.getD 0 0) 0 100) true (left s.field s.done) (0::(dU (f_ s.field s.done (ns.getD 0 0).toNat)++jR (dQ s.field s.done (f_ s.field s.done (ns.getD 0 0).toNat)))):=by
 show(if bI (ns.getD 0 0) 0 100=false then(s,[-1])else if left s.field s.done=0 then(s,[-6])else(s,_)).2=_
 unfold pj
 cases bI (ns.getD 0 0) 0 100 with
 |false=>rfl
 |true=>
  by_cases h:left s.field s.done=0
  ·simp[h]
  ·simp[h]
abbrev Pa:List Str:=["search","numbers","row","time","tables","best"]
theorem DT:m_ Pa tu (m6 zV):=qi
abbrev aaw(P:aJ)(w:aY)(K:ah)(mg:Str->Option ao)(base:bw)(CS:ag)(CF:ag)(CC:ag)(CT:ag):Prop:=uo P w K mg base oH 1 CS "times" ["self"] (Mw CS CF CC CT)
theorem DU(F:pJ K "call_thrift" "call_thrift" zV f fd)(S:p7 K CS)(t_:oG mg "MOST_THRIFT" 100)(nI:oG mg "NOT_AS_TOLD" (-1))(qR:Yh P w K mg base CS CF CC CT)(nX:oG mg "NOTHING_LEFT" (-6))(nW:Wd P w K mg base CS CF CC CT)(uT:rC P w K mg base oH 3 "thrift_row" ["tables","had","times","greatest"] F1)(rW:aaw P w K mg base CS CF CC CT)(nG:oG mg "DONE" 0)(qA:aav P w K mg base):nU P w K mg base oH 4 f fd tu (Bx CS CF CC CT 1 MM):=by
 refine F.ok DT (λ vs H Q E h=>?_) (λ oX A outer s H vs Q E hr h=>?_)
 ·obtain⟨x,wl,hl,nl,rl,a,s',f0,ws,ns,zs,rfl,_⟩:=h
  rfl
 ·obtain⟨x,wl,hl,nl,rl,a,s',f0,ws,ns,zs,rfl,T,hn,hz,ln,lz,k⟩:=h
  have nd:=DT.nd
  have nM:=S.cl
  refine⟨_,(mY (m9 (i:=3) nd rfl (Or.inl rfl) (pd oh (pv 1) nP (λ _ _=>rfl)))
   (mY (pk (vi (vm p_ p_ nP (pv 3) (nV t_))) (m7 (nq (nQ (mX (nV nI) mZ)))) n9)
   (mY (pk (ot ud (oW (E:=E0) qR nM hr (by decide) nv (pv 0)) nP (oM _)) (m7 (nq (nQ (mX (nV nX) mZ)))) n9)
   (mY (m9 (i:=4) nd rfl (Or.inl rfl) (oW (E:=E0) nW nM hr (by decide) nv (pv 0)))
   (mY (m9 (i:=5) nd rfl (Or.inl rfl) (nA (E:=E0) uT hr (by decide) nv (mX (pv 4) (mX (nr (pv 0) rfl) (mX (oW (E:=E0) rW nM hr (by decide) nv (pv 0)) (mX (pv 3) mZ))))))
   (m7 (nq (om qX (om qX (nQ (mX (nV nG) mZ)) (pv 5)) (nA (E:=E0) qA hr (by decide) nv (mX (pv 4) (mX (nr (pv 0) rfl) (mX (pv 5) mZ)))))))))))),?_⟩
  obtain⟨dx,hx⟩:=T.se.1
  rw[RH]at k
  have h0:=G6 ln
  generalize hkk:ns.getD 0 0=kk at k h0
  have W:=T.fw
  have wC:=T.wC
  refine⟨_,rfl,nl,_,_,_,rfl,rfl,nF.of hn,at_of (j:=0) rfl h0,KD gc gv gc (λ hc=>?_) λ hc=>?_⟩
  ·have e:bI kk 0 100=false:=by
    cases q:bI kk 0 100 with
    |false=>rfl
    |true=>exact absurd (pz.mp q) hc
   rw[e]at k
   exact⟨(by show 1<=ay;decide),o_ k (m8.refl _) rfl⟩
  rw[pz.mpr hc]at k
  refine⟨_,rfl,x,dx,_,rfl,hx,rfl,r_ (T.An λ H1 s1=>⟨rfl,_,rfl,qa (λ hc=>?_) λ hc=>?_⟩)⟩
  ·have hc:=V.int.inj (of_decide_eq_true hc)
   have e:left s'.field s'.done=0:=by omega
   rw[e]at k
   exact⟨(by show 1<=ay;decide),o_ k s1 rfl⟩
  have c3:left s'.field s'.done≠0:=λ z=>hc (decide_eq_true (by rw[z];rfl))
  rw[qG c3]at k
  obtain⟨n,rfl⟩:∃n:Nat,kk=(n:Int):=⟨kk.toNat,by omega⟩
  rw[show((n:Int)).toNat=n from rfl]at k
  refine⟨_,rfl,x,dx,_,rfl,s1 _ _ hx,rfl,r_ ((T.same s1).qt λ H2 tb ts s2 Yi Yo hT=>?_)⟩
  have vE:=s1.trans s2
  refine⟨_,rfl,_,rfl,x,CS,dx,_,_,rfl,vE _ _ hx,S.cl,S.n3,rfl,_,rfl,x,dx,_,rfl,vE _ _ hx,rfl,r_ ((T.same vE).E6 λ H3 tm s3 htm ae_=>?_)⟩
  have wG:=vE.trans s3
  obtain⟨t1,t2⟩:=Vz (f:=s'.field) (B:=n) T.dl T.tE
  refine⟨_,rfl,tb,hl,tm,ts,s'.field,s'.done,n,rfl,T.time,s3 _ _ Yo,hT.same s3,wG _ _ T.se.2.2,ae_,T.dl,T.tE,by rw[T.len];exact wC,by omega,λ H4 wc s4 hrw Yp=>?_⟩
  generalize hB:f_ s'.field s'.done n=B at *
  have KZ:=wG.trans s4
  refine⟨(by show 1<=ay;decide),λ l1 J8=>?_⟩
  have s7:=m8.new (o:=.lst [V.int 0]) J8
  refine⟨_,rfl,l1,wc,_,_,rfl,rfl,m4,s7 _ _ Yp,(by rw[nj,t1,T.ld,aA];show 1+ _<=_;omega),λ l2 Nn=>?_⟩
  have s8:=s7.trans (m8.new (o:=.lst ([V.int 0]++nY B)) Nn)
  have RA:=KZ.trans s8
  refine⟨_,rfl,_,rfl,x,CS,dx,_,_,rfl,RA _ _ hx,S.cl,S.n3,rfl,_,rfl,tb,hl,wc,ts,s'.field,s'.done,B,rfl,W,s8 _ _ (s4 _ _ (s3 _ _ Yo)),hT.same (s3.trans (s4.trans s8)),RA _ _ T.se.2.2,s8 _ _ Yp,T.dl,t1,t2,b_ c3,λ H9 q s9 hq hq9=>?_⟩
  refine⟨l2,q,_,_,rfl,rfl,s9 _ _ m4,hq9,(by rw[aw,nj,t1,T.ld,aA];show 1+ _+2<=_;omega),o_ k (RA.trans s9) ?_⟩
  rw[t9,Ao,Bc];rfl
def RI(s:bR)(f0:ae)(ns zs:List Int):List Int:=(eO s f0 (.order zs)).2
theorem VC(s:bR)(f0:ae)(ns zs:List Int):RI s f0 ns zs=pj (fM s zs) (DD s.done zs) (left s.field s.done) (0::(jk (dO s.field s.done (bV zs))++jR (iA s.field s.done (dO s.field s.done (bV zs))))):=
 (CA s (fM s zs) (dr (bC s.done (bV zs))) _ _).trans (rJ λ h=>(Bb h _).symm)
abbrev RJ:List Str:=["search","numbers","row","refusal","tables","times","order"]
theorem Gm:m_ RJ tu (m6 Ca):=qi
theorem Gn(F:pJ K "call_order" "call_order" Ca f fd)(S:p7 K CS)(oB:Vx P w K mg base CS CF CC CT)(qV:acz P w K mg base CS)(p6:acA P w K mg base CS)(nW:Wd P w K mg base CS CF CC CT)(rW:aaw P w K mg base CS CF CC CT)(uU:rC P w K mg base oH 2 "best_order" ["tables","had","times","row"] FQ)(nG:oG mg "DONE" 0)(pf:mg "len"=none)(pL:rC P w K mg base oH 3 "expected_time" ["tables","had","times","order"] vH):nU P w K mg base oH 5 f fd tu (Bx CS CF CC CT 0 RI):=by
 refine F.ok Gm (λ vs H Q E h=>?_) (λ oX A outer s H vs Q E hr h=>?_)
 ·obtain⟨x,wl,hl,nl,rl,a,s',f0,ws,ns,zs,rfl,_⟩:=h
  rfl
 ·obtain⟨x,wl,hl,nl,rl,a,s',f0,ws,ns,zs,rfl,T,hn,hz,ln,lz,k⟩:=h
  have nd:=Gm.nd
  have nM:=S.cl
  refine⟨_,(mY (m9 (i:=3) nd rfl (Or.inl rfl) (nA (E:=E0) oB hr (by decide) nv (mX (pv 0) (mX (pR (E:=E0) qV nM hr (by decide) nv (pv 0) (mX (pv 2) mZ)) (mX (pR (E:=E0) p6 nM hr (by decide) nv (pv 0) (mX (pv 2) mZ)) mZ)))))
   (mY (pk (xB (pv 3) (λ _=>rfl)) (m7 (nq (pv 3))) n9)
   (mY (m9 (i:=4) nd rfl (Or.inl rfl) (oW (E:=E0) nW nM hr (by decide) nv (pv 0)))
   (mY (m9 (i:=5) nd rfl (Or.inl rfl) (oW (E:=E0) rW nM hr (by decide) nv (pv 0)))
   (mY (m9 (i:=6) nd rfl (Or.inl rfl) (nA (E:=E0) uU hr (by decide) nv (mX (pv 4) (mX (nr (pv 0) rfl) (mX (pv 5) (mX (pv 2) mZ))))))
   (m7 (nq (om qX (om qX (nQ (mX (nV nG) (mX (nN nO rfl pf aX (mX (pv 6) mZ)) mZ))) (pv 6)) (nA (E:=E0) pL hr (by decide) nv (mX (pv 4) (mX (nr (pv 0) rfl) (mX (pv 5) (mX (pv 6) mZ))))))))))))),?_⟩
  obtain⟨dx,hx⟩:=T.se.1
  rw[VC]at k
  have wC:=T.wC
  refine⟨_,rfl,_,rfl,x,dx,_,rfl,hx,rfl,_,rfl,r_ (T.MJ hz lz λ H1 s1=>?_)⟩
  refine⟨_,rfl,x,dx,_,rfl,s1 _ _ hx,rfl,_,rfl,r_ ((T.same s1).Jg (s1 _ _ hz) λ H2 s2=>?_)⟩
  have vE:=s1.trans s2
  have T2:=T.same vE
  refine⟨x,wl,hl,a,s',f0,ws,_,_,rfl,T2,λ H3 p s3 hp NU=>?_⟩
  have wG:=vE.trans s3
  refine⟨_,rfl,_,.inl ⟨_,nF.of NU,rfl⟩,Li (λ h=>?_) λ h=>?_⟩
  ·exact⟨_,rfl,k H3 p wG (none_of vE hp) (Vu h NU)⟩
  obtain⟨c1,c2,c3⟩:=tT h
  rw[c1,c2,qG c3]at k
  obtain⟨r1,r2,r3,r4⟩:=DR c1
  have tm:dr (bC s'.done (bV zs))=false:=by
   rw[Bb c1]at c2
   cases q:dr (bC s'.done (bV zs))with
   |false=>rfl
   |true=>rw[q]at c2;cases c2
  have m20:=ML tm
  have W:=T.fw
  have le:(bV zs).length=s'.done.length:=by rw[r2,T.dl]
  have ok:=RB (f:=s'.field) le m20
  have ol:(dO s'.field s'.done (bV zs)).length<=320:=by
   rw[O9]
   have:=Dv (B:=20) _ (RC le m20)
   rw[le,T.ld]at this
   omega
  refine⟨_,rfl,x,dx,_,rfl,wG _ _ hx,rfl,r_ ((T.same wG).qt λ H4 tb ts s4 Yi Ym hT=>?_)⟩
  have KZ:=wG.trans s4
  refine⟨_,rfl,x,dx,_,rfl,KZ _ _ hx,rfl,r_ ((T.same KZ).E6 λ H5 tt s5 htt adV=>?_)⟩
  have J9:=KZ.trans s5
  refine⟨_,rfl,_,rfl,x,CS,dx,_,_,rfl,J9 _ _ hx,S.cl,S.n3,rfl,_,rfl,_,rfl,tb,hl,tt,rl,ts,s'.field,s'.done,bV zs,rfl,T.time,s5 _ _ Ym,hT.same s5,J9 _ _ T.se.2.2,adV,by rw[J9 _ _ hz,r1],T.dl,le,by rw[T.ld];exact wC,m20,λ H6 od s6 hod acE=>?_⟩
  generalize hB:dO s'.field s'.done (bV zs)=B at *
  have We:=J9.trans s6
  refine⟨_,rfl,od,_,rfl,.inl (nF.of acE),(by show 2<=ay;decide),λ l1 J8=>?_⟩
  have s7:=m8.new (o:=.lst [V.int 0,V.int ((nY B).length:Nat)]) J8
  refine⟨_,rfl,l1,od,_,_,rfl,rfl,m4,s7 _ _ acE,(by rw[nj,aA];show 2+ _<=_;omega),λ l2 Nn=>?_⟩
  have s8:=s7.trans (m8.new (o:=.lst ([V.int 0,V.int ((nY B).length:Nat)]++nY B)) Nn)
  have RA:=We.trans s8
  refine⟨_,rfl,_,rfl,x,CS,dx,_,_,rfl,RA _ _ hx,S.cl,S.n3,rfl,_,rfl,_,rfl,tb,hl,tt,od,ts,s'.field,s'.done,B,rfl,W,T.time,s8 _ _ (s6 _ _ (s5 _ _ Ym)),hT.same (s5.trans (s6.trans s8)),RA _ _ T.se.2.2,s8 _ _ (s6 _ _ adV),s8 _ _ acE,T.dl,T.tE,by omega,ok,b_ c3,λ H9 q s9 hq hq9=>?_⟩
  refine⟨l2,q,_,_,rfl,rfl,s9 _ _ m4,hq9,(by rw[aw,nj,aA];show 2+ _+2<=_;omega),o_ k (RA.trans s9) ?_⟩
  rw[t9,Ao,nj]
  unfold jk
  rw[t9,Bc];rfl
def RK(s:bR)(f0:ae)(ns zs:List Int):List Int:=(eO s f0 (.takes zs)).2
theorem VD(s:bR)(f0:ae)(ns zs:List Int):RK s f0 ns zs=pj (decide (zs.length<=60) && zs.all (eR s)) (DD s.done (dU (g9 s.field.cells.length zs))) (left s.field s.done) (0::jR (iA s.field s.done (bV zs))):=
 (CA s (decide (zs.length<=60) && zs.all (eR s)) (dr (bC s.done (g9 s.field.cells.length zs))) _ _).trans (rJ λ _=>(O_ _ _).symm)
abbrev Jm:List Str:=["search","numbers","order","as_told","refusal","cell"]
theorem Gp:m_ Jm ["search","numbers","order"] (m6 yg):=qi
abbrev aax(P:aJ)(w:aY)(K:ah)(mg:Str->Option ao)(base:bw)(CS:ag):Prop:=uo P w K mg base oH 1 CS "is_cell" ["self","number"] (Ic CS)
theorem Gq(F:pJ K "call_takes" "call_takes" yg f fd)(S:p7 K CS)(pf:mg "len"=none)(rX:oG mg "MOST_IN_ORDER" 60)(zB:mg "all"=none)(pI:aax P w K mg base CS)(oB:Vx P w K mg base CS CF CC CT)(p6:acA P w K mg base CS)(uh:rC P w K mg base oH 1 "row_of" ["order","many_cells"] Mq)(nG:oG mg "DONE" 0)(pL:rC P w K mg base oH 3 "expected_time" ["tables","had","times","order"] vH)(nW:Wd P w K mg base CS CF CC CT)(rW:aaw P w K mg base CS CF CC CT):nU P w K mg base oH 5 f fd ["search","numbers","order"] (Bx CS CF CC CT 0 RK):=by
 refine F.ok Gp (λ vs H Q E h=>?_) (λ oX A outer s H vs Q E hr h=>?_)
 ·obtain⟨x,wl,hl,nl,rl,a,s',f0,ws,ns,zs,rfl,_⟩:=h
  rfl
 ·obtain⟨x,wl,hl,nl,rl,a,s',f0,ws,ns,zs,rfl,T,hn,hz,ln,lz,k⟩:=h
  have nd:=Gp.nd
  have nM:=S.cl
  refine⟨_,(mY (m9 (i:=3) nd rfl (Or.inl rfl) (LB (rS p_ (nN nO rfl pf aX (mX (pv 2) mZ)) (nV rX) (oM _)) (LA (nN (BH rfl) rfl zB iP (mX (qw (own:=[("cell",5)]) rfl nd (oO (pv 2)) (by exact pD.of (N:=Jm) (sc:=m6 yg) (by decide +kernel)) (λ _ _ _ _ _=>by exact(nB (i:=5) nd rfl (Or.inl rfl))) (λ _ _ _ _ _=>by exact oS) (λ _ _ _ _ _=>by exact(pR (E:=E0) pI nM hr (by decide) nv (pv 0) (mX (pv 5) mZ)))) mZ)))))
   (mY (m9 (i:=4) nd rfl (Or.inl rfl) (nA (E:=E0) oB hr (by decide) nv (mX (pv 0) (mX (pv 3) (mX (pR (E:=E0) p6 nM hr (by decide) nv (pv 0) (mX (nA (E:=E0) uh hr (by decide) nv (mX (pv 2) (mX (nN nO rfl pf aX (mX (nr (pv 0) rfl) mZ)) mZ))) mZ)) mZ)))))
   (mY (pk (xB (pv 4) (λ _=>rfl)) (m7 (nq (pv 4))) n9)
   (m7 (nq (om qX (nQ (mX (nV nG) mZ)) (nA (E:=E0) pL hr (by decide) nv (mX (oW (E:=E0) nW nM hr (by decide) nv (pv 0)) (mX (nr (pv 0) rfl) (mX (oW (E:=E0) rW nM hr (by decide) nv (pv 0)) (mX (pv 2) mZ))))))))))),?_⟩
  obtain⟨dx,hx⟩:=T.se.1
  rw[VD]at k
  have wC:=T.wC
  have W:=T.fw
  refine ae9 (b1:=decide (zs.length<=60)) (b2:=zs.all (eR s')) (λ R q=>?_) (λ hb R q=>?_) λ H1 s1=>?_
  ·refine⟨_,rfl,rl,_,rfl,.inl (nF.of hz),_,_,rfl,rfl,?_⟩
   have e:decide (((iL zs).length:Int)<=60)=decide (zs.length<=60):=by rw[pX];exact decide_eq_decide.mpr (by omega)
   show R (V.bl (decide (((iL zs).length:Int)<=60))) H
   rw[e];exact q
  ·refine⟨_,rfl,rl,rfl,⟨_,nF.of hz⟩,?_⟩
   refine oZ (oU (K:=K) (xs:=iL zs) (nF.of hz)) (zs.map λ z=>V.bl (eR s' z)) (by rw[pX,aa]) (by rw[pX,aA];omega) (λ j x y H3 R3 N3 hy pH hF kk=>?_) (λ D H3 hD pH uD=>?_)
   ·obtain⟨z,q1,rfl⟩:=EW hF
    rw[ak,q1]at hy
    cases hy
    exact⟨rfl,sE ⟨_,rfl,_,dx,_,rfl,pH _ _ hx,rfl,_,rfl,r_ ((T.same pH).DQ (kk H3 (m8.refl _)))⟩⟩
   ·refine⟨D,zs.map (eR s'),rfl,nF.of (by rw[uD,aW];rfl),?_⟩
    rw[cH]
    exact q H3 pH
  have T1:=T.same s1
  refine⟨_,rfl,_,rfl,_,rfl,x,dx,_,rfl,s1 _ _ hx,rfl,_,rfl,_,rfl,x,CS,dx,_,_,rfl,s1 _ _ hx,S.cl,S.n3,rfl,hl,_,rfl,.inl (nF.of (s1 _ _ T.se.2.2)),rl,zs,s'.done.length,by rw[nj],s1 _ _ hz,by rw[T.ld];exact wC,λ H2 ro s2 hro adW=>?_⟩
  have vE:=s1.trans s2
  rw[Gg,T.dl,<-Bc]at adW
  refine r_ ((T.same vE).Jg adW λ H3 s3=>?_)
  have wG:=vE.trans s3
  refine⟨x,wl,hl,a,s',f0,ws,_,_,rfl,T.same wG,λ H4 p s4 hp hp4=>?_⟩
  have KZ:=wG.trans s4
  refine⟨_,rfl,_,.inl ⟨_,nF.of hp4,rfl⟩,Li (λ h=>?_) λ h=>?_⟩
  ·exact⟨_,rfl,k H4 p KZ (none_of wG hp) (Vu h hp4)⟩
  obtain⟨c1,c2,c3⟩:=tT h
  rw[c1,c2,qG c3]at k
  rw[bj]at c1
  obtain⟨r1,r2,r3⟩:=Jl c1.2
  have tm:dr (bC s'.done (g9 s'.field.cells.length zs))=false:=by
   rw[O_]at c2
   cases q:dr (bC s'.done (g9 s'.field.cells.length zs))with
   |false=>rfl
   |true=>rw[q]at c2;cases c2
  have m20:=ML tm
  rw[<-T.dl,r3]at m20
  have ok:=Yn (d:=s'.done) (l:=bV zs) (λ c hc=>by rw[T.dl];exact r2 c hc) m20
  refine⟨(by show 1<=ay;decide),λ l1 J8=>?_⟩
  have s5:=KZ.put (o:=.lst [V.int 0]) (none_of KZ J8)
  refine⟨_,rfl,x,dx,_,rfl,s5 _ _ hx,rfl,r_ ((T.same s5).qt λ H6 tb ts s6 Yi afa hT=>?_)⟩
  have We:=s5.trans s6
  refine⟨_,rfl,x,CS,dx,_,_,rfl,We _ _ hx,S.cl,S.n3,rfl,_,rfl,x,dx,_,rfl,We _ _ hx,rfl,r_ ((T.same We).E6 λ H7 tt s7 htt afb=>?_)⟩
  have s17:=We.trans s7
  refine⟨_,rfl,tb,hl,tt,rl,ts,s'.field,s'.done,bV zs,rfl,W,T.time,s7 _ _ afa,hT.same s7,s17 _ _ T.se.2.2,afb,by rw[s17 _ _ hz,r1],T.dl,T.tE,by unfold bV;rw[aa];omega,ok,b_ c3,λ H9 q s9 hq hq9=>?_⟩
  exact⟨l1,q,_,_,rfl,rfl,s9 _ _ (s7 _ _ (s6 _ _ m4)),hq9,(by show 3<=ay;decide),o_ k (s17.trans s9) rfl⟩
theorem Jn{f:ae}:∀(k:Nat) (d:List Nat) (u:Use) (pO:List Nat),(∀n∈d,n<=20)->(eG f k d u pO).length=d.length/\(∀i,d.getD i 0<=(eG f k d u pO).getD i 0)/\∀n∈eG f k d u pO,n<=20
 |0,d,u,pO,h=>⟨rfl,λ i=>ax _,h⟩
 |k+1,d,u,pO,h=>by
  rw[IZ]
  cases hn:IY f d pO with
  |none=>exact⟨rfl,λ i=>ax _,h⟩
  |some c=>
   obtain⟨⟨n1,n2,n3,n4⟩,_⟩:=MD.1 c hn
   dsimp only
   cases eZ f c u with
   |none=>exact Jn k d u (c::pO) h
   |some v=>
    obtain⟨a1,a2,a3⟩:=Jn (f:=f) k (bump d c) v pO λ n hn=>DA h n3 hn
    refine⟨by rw[a1,pY],λ i=>aT ?_ (a2 i),a3⟩
    rw[A6 n1]
    by_cases e:i=c
    ·subst e;rw[if_pos rfl];omega
    ·rw[if_neg e];exact ax _
theorem VE{d D:List Nat}(hl:D.length=d.length)(h:∀i,d.getD i 0<=D.getD i 0):bC d (eN D d)=D:=by
 unfold bC eN
 apply bO
 intro i
 rw[aP,aP]
 by_cases hi:i<d.length
 ·rw[getD_at hi,getD_at (d:=D) (show i<D.length by omega)]
  show some _=some _
  congr 1
  have:=h i
  omega
 ·rw[aI (show d.length<=i by omega),aI (show D.length<=i by omega)]
theorem Yq{d D:List Nat}(hl:D.length=d.length):(eN D d).length=d.length:=by unfold eN;rw[c_,hl,f7]
theorem VF{f:ae}:aZ ((n_ f).map λ t=>t.getD 0 0)=left f (d7 f):=by
 have h:=tN (f:=f) (d:=d7 f) (by unfold d7;rw[aa]) λ n hn=>by
  obtain⟨_,_,rfl⟩:=List.mem_map.mp hn
  exact aE _
 rw[<-h]
 unfold aaf
 congr 1
 apply bO
 intro i
 rw[ak,ak]
 by_cases hi:i<(n_ f).length
 ·have e1:(n_ f)[i]? =some (n_ f)[i]:=af hi
  have e2:(d7 f)[i]? =some 0:=by
   unfold d7
   rw[ak,af (by rw[pP]at hi;exact hi)];rfl
  rw[(gn (z:=((n_ f)[i],0))).mpr ⟨e1,e2⟩,e1];rfl
 ·rw[aI (by omega),aI (by rw[eJ];omega)];rfl
theorem Pb{f:ae}(ok:Du f)(XN:∀c∈f.cells,c.name.length<=8):(iF f).length<=23000:=by
 have XR:f.parts<=1000:=by have:=ok.parts;omega
 rw[Io]
 generalize Zf:[il [bX "parts",dB f.parts]]++f.cells.map Cp++f.teams.map (w8 f)=ls
 have h1:ls.flatten.length<=ls.length*1000:=Mp ls λ z hz=>by
  rw[<-Zf]at hz
  rcases List.mem_append.mp hz with hz|hz
  ·rcases List.mem_append.mp hz with hz|hz
   ·simp only[dh,cJ,or_false]at hz
    rw[hz]
    refine Dz (by simp) λ z hz=>?_
    have d1:=sR _ XR
    have b1:(bX "parts").length<=30:=by decide
    simp only[dh,cJ,or_false]at hz
    rcases hz with rfl|rfl <;> omega
   ·obtain⟨c,hc,rfl⟩:=List.mem_map.mp hz
    have co:=ok.cells.each _ hc
    have pp:=ok.parts
    exact Ip (XN c hc) co.weight (by have:=co.finds;omega) (by have:=co.time;omega)
  ·obtain⟨t,ht,rfl⟩:=List.mem_map.mp hz
   exact Iq ok.cells.len XN (ok.teams.each t ht)
 have h2:ls.length<=23:=by
  have:=ok.cells.len
  have:=ok.teams.len
  rw[<-Zf,aw,aw,aa,aa]
  show 1+ _+ _<=23
  omega
 have h3:ls.length*1000<=23*1000:=c6 _ h2
 omega
theorem acF{f:ae}{m:Nat}{e:List Nat}(hm:e.length=m):((nL f.teams).all λ L=>decide (0<=spB (rR f.teams) m L e))=jE f e:=by
 rw[du,OU,fA,hm]
 exact⟨λ h L hL=>of_decide_eq_true (h L hL),λ h L hL=>decide_eq_true (h L hL)⟩
theorem Yr{f0:ae}(ok:Du f0)(bs:List ag):∀z∈bs.zip f0.teams,z.2.cells.length<=16:=λ z hz=>by
 have t:=ok.teams.each z.2 (gT hz).2
 have:=Ad t.nd t.lt
 have:=ok.cells.len
 omega
def RL(s:bR)(f0:ae)(ns zs:List Int):List Int:=(eO s f0 .teams).2
theorem VG(s:bR)(f0:ae)(ns zs:List Int):RL s f0 ns zs=pj true true (left s.field s.done) (0::(dU (eN (fU s.field s.done) s.done)++jR (dQ s.field s.done (eN (fU s.field s.done) s.done)))):=by
 show(if left s.field s.done=0 then(s,[-6])else(s,_)).2=_
 unfold pj
 by_cases h:left s.field s.done=0
 ·simp[h]
 ·simp[h]
abbrev RN:List Str:=["search","numbers","row","tables","best"]
theorem Gr:m_ RN tu (m6 Cb):=qi
theorem Gs(F:pJ K "call_teams" "call_teams" Cb f fd)(S:p7 K CS)(nJ:Rec P w K mg base "Field" CF Ck)(qR:Yh P w K mg base CS CF CC CT)(nX:oG mg "NOTHING_LEFT" (-6))(nW:Wd P w K mg base CS CF CC CT)(wJ:rC P w K mg base oH 3 "teams_row" ["bounds","tables","had"] (Je CB))(qJ:rC P w K mg base oH 3 "bounds_of" ["teams","many_cells"] (Cy CT CB))(pf:mg "len"=none)(nG:oG mg "DONE" 0)(qA:aav P w K mg base):nU P w K mg base oH 4 f fd tu (Bx CS CF CC CT 0 RL):=by
 refine F.ok Gr (λ vs H Q E h=>?_) (λ oX A outer s H vs Q E hr h=>?_)
 ·obtain⟨x,wl,hl,nl,rl,a,s',f0,ws,ns,zs,rfl,_⟩:=h
  rfl
 ·obtain⟨x,wl,hl,nl,rl,a,s',f0,ws,ns,zs,rfl,T,hn,hz,ln,lz,k⟩:=h
  have nd:=Gr.nd
  have nM:=S.cl
  refine⟨_,(mY (pk (ot ud (oW (E:=E0) qR nM hr (by decide) nv (pv 0)) nP (oM _)) (m7 (nq (nQ (mX (nV nX) mZ)))) n9)
   (mY (m9 (i:=3) nd rfl (Or.inl rfl) (oW (E:=E0) nW nM hr (by decide) nv (pv 0)))
   (mY (m9 (i:=4) nd rfl (Or.inl rfl) (nA (E:=E0) wJ hr (by decide) nv (mX (nA (E:=E0) qJ hr (by decide) nv (mX (nr (nr (pv 0) rfl) rfl) (mX (nN nO rfl pf aX (mX (nr (pv 0) rfl) mZ)) mZ))) (mX (pv 3) (mX (nr (pv 0) rfl) mZ)))))
   (m7 (nq (om qX (om qX (nQ (mX (nV nG) mZ)) (pv 4)) (nA (E:=E0) qA hr (by decide) nv (mX (pv 3) (mX (nr (pv 0) rfl) (mX (pv 4) mZ)))))))))),?_⟩
  obtain⟨dx,hx⟩:=T.se.1
  rw[VG]at k
  have W:=T.fw
  have wC:=T.wC
  refine⟨_,rfl,x,dx,_,rfl,hx,rfl,r_ (T.An λ H1 s1=>⟨rfl,_,rfl,qa (λ hc=>?_) λ hc=>?_⟩)⟩
  ·have hc:=V.int.inj (of_decide_eq_true hc)
   have e:left s'.field s'.done=0:=by omega
   rw[e]at k
   exact⟨(by show 1<=ay;decide),o_ k s1 rfl⟩
  have c3:left s'.field s'.done≠0:=λ z=>hc (decide_eq_true (by rw[z];rfl))
  rw[qG c3]at k
  refine⟨_,rfl,x,dx,_,rfl,s1 _ _ hx,rfl,r_ ((T.same s1).qt λ H2 tb ts s2 Yi Yo hT=>?_)⟩
  have vE:=s1.trans s2
  obtain⟨df,lc,lt,as,bs,f1,f2,f3,f4,f5⟩:=(T.same vE).field
  obtain⟨z1,z2,z3⟩:=Rt f5
  refine⟨_,rfl,x,CS,dx,_,_,rfl,vE _ _ hx,S.cl,S.n1,rfl,a,CF,df,_,_,rfl,f1,nJ.cl,nJ.na "teams" (by simp),rfl,_,rfl,x,CS,dx,_,_,rfl,vE _ _ hx,S.cl,S.n3,rfl,hl,_,rfl,.inl (nF.of (vE _ _ T.se.2.2)),lt,bs.zip f0.teams,s'.done.length,by rw[nj],by rw[z2];exact f4,z1,by rw[eJ];have:=T.ok.teams.len;omega,by rw[T.ld];exact wC,Yr T.ok bs,λ H3 bq ks s3 hbq acG hks=>?_⟩
  rw[z3,<-T.teams]at hks
  have wG:=vE.trans s3
  refine⟨_,rfl,_,rfl,x,CS,dx,_,_,rfl,wG _ _ hx,S.cl,S.n3,rfl,bq,tb,hl,ks,ts,s'.field,s'.done,rfl,acG,hks,s3 _ _ Yo,hT.same s3,wG _ _ T.se.2.2,T.dl,by rw[T.ld];exact wC,λ H4 wc s4 hrw Yp=>?_⟩
  obtain⟨g1,g2,g3⟩:=Jn (f:=s'.field) ((lF s'.field).length+s'.field.cells.length) s'.done [] [] T.tE
  have ml:bC s'.done (eN (fU s'.field s'.done) s'.done)=fU s'.field s'.done:=VE g1 g2
  have t1:(eN (fU s'.field s'.done) s'.done).length=s'.done.length:=Yq g1
  have t2:∀n∈bC s'.done (eN (fU s'.field s'.done) s'.done),n<=20:=by rw[ml];exact g3
  generalize hB:eN (fU s'.field s'.done) s'.done=B at *
  have KZ:=wG.trans s4
  refine⟨(by show 1<=ay;decide),λ l1 J8=>?_⟩
  have s7:=m8.new (o:=.lst [V.int 0]) J8
  refine⟨_,rfl,l1,wc,_,_,rfl,rfl,m4,s7 _ _ Yp,(by rw[nj,t1,T.ld,aA];show 1+ _<=_;omega),λ l2 Nn=>?_⟩
  have s8:=s7.trans (m8.new (o:=.lst ([V.int 0]++nY B)) Nn)
  have RA:=KZ.trans s8
  refine⟨_,rfl,_,rfl,x,CS,dx,_,_,rfl,RA _ _ hx,S.cl,S.n3,rfl,_,rfl,tb,hl,wc,ts,s'.field,s'.done,B,rfl,W,s8 _ _ (s4 _ _ (s3 _ _ Yo)),hT.same (s3.trans (s4.trans s8)),RA _ _ T.se.2.2,s8 _ _ Yp,T.dl,t1,t2,b_ c3,λ H9 q s9 hq hq9=>?_⟩
  refine⟨l2,q,_,_,rfl,rfl,s9 _ _ m4,hq9,(by rw[aw,nj,t1,T.ld,aA];show 1+ _+2<=_;omega),o_ k (RA.trans s9) ?_⟩
  rw[t9,Ao,Bc];rfl
def aay(s:bR)(f0:ae)(ns zs:List Int):List Int:=(eO s f0 (.can zs)).2
theorem aaz(s:bR)(f0:ae)(ns zs:List Int):aay s f0 ns zs=if fM s zs=false then[-1]else[0,if jE s.field (bV zs)=true then 1 else 0]:=by
 show(if fM s zs=false then(s,[-1])else(s,_)).2=_
 cases fM s zs <;> rfl
abbrev Ys:List Str:=tu
theorem Lm:m_ Ys tu (m6 Hu):=qi
theorem Ln(F:pJ K "call_can" "call_can" Hu f fd)(S:p7 K CS)(nJ:Rec P w K mg base "Field" CF Ck)(qV:acz P w K mg base CS)(nI:oG mg "NOT_AS_TOLD" (-1))(nG:oG mg "DONE" 0)(yK:rC P w K mg base oH 2 "can_make" ["bounds","row"] (Lf CB))(qJ:rC P w K mg base oH 3 "bounds_of" ["teams","many_cells"] (Cy CT CB))(pf:mg "len"=none):nU P w K mg base oH 4 f fd tu (Bx CS CF CC CT 0 aay):=by
 refine F.ok Lm (λ vs H Q E h=>?_) (λ oX A outer s H vs Q E hr h=>?_)
 ·obtain⟨x,wl,hl,nl,rl,a,s',f0,ws,ns,zs,rfl,_⟩:=h
  rfl
 ·obtain⟨x,wl,hl,nl,rl,a,s',f0,ws,ns,zs,rfl,T,hn,hz,ln,lz,k⟩:=h
  have nd:=Lm.nd
  have nM:=S.cl
  refine⟨_,(mY (pk (vi (tH (pR (E:=E0) qV nM hr (by decide) nv (pv 0) (mX (pv 2) mZ)))) (m7 (nq (nQ (mX (nV nI) mZ)))) n9)
   (m7 (nq (nQ (mX (nV nG) (mX (Nz (tH (nA (E:=E0) yK hr (by decide) nv (mX (nA (E:=E0) qJ hr (by decide) nv (mX (nr (nr (pv 0) rfl) rfl) (mX (nN nO rfl pf aX (mX (pv 2) mZ)) mZ))) (mX (pv 2) mZ)))) nP nP) mZ)))))),?_⟩
  obtain⟨dx,hx⟩:=T.se.1
  rw[aaz]at k
  have wC:=T.wC
  refine⟨_,rfl,x,dx,_,rfl,hx,rfl,_,rfl,r_ (T.MJ hz lz λ H1 s1=>⟨_,rfl,?_⟩)⟩
  cases X6:fM s' zs with
  |false=>
   rw[X6]at k
   exact tq ⟨(by show 1<=ay;decide),o_ k s1 rfl⟩
  |true=>
   rw[X6,if_neg (by simp)]at k
   obtain⟨r1,r2,r3,r4⟩:=DR X6
   have T1:=T.same s1
   obtain⟨df,lc,lt,as,bs,f1,f2,f3,f4,f5⟩:=T1.field
   obtain⟨z1,z2,z3⟩:=Rt f5
   have len:zs.length=(bV zs).length:=by unfold bV;rw[aa]
   refine rK ⟨_,rfl,x,CS,dx,_,_,rfl,s1 _ _ hx,S.cl,S.n1,rfl,a,CF,df,_,_,rfl,f1,nJ.cl,nJ.na "teams" (by simp),rfl,_,rfl,rl,_,rfl,.inl (nF.of (s1 _ _ hz)),lt,bs.zip f0.teams,(bV zs).length,by rw[pX,len],by rw[z2];exact f4,z1,by rw[eJ];have:=T.ok.teams.len;omega,by rw[r2,T.len];exact wC,Yr T.ok bs,λ H3 bq ks s3 hbq acG hks=>?_⟩
   rw[z3,<-T.teams]at hks
   have wG:=s1.trans s3
   have c64:(nL s'.field.teams).length<=64:=xc (by rw[T.teams];exact T.ok.teams.len)
   refine⟨_,rfl,bq,rl,ks,_,_,_,bV zs,rfl,acG,hks,by rw[wG _ _ hz,r1],rfl,by rw[r2,T.len];exact wC,c64,λ H4 s4=>⟨_,rfl,?_⟩⟩
   rw[acF rfl]
   cases ZL:jE s'.field (bV zs)with
   |true=>
    rw[ZL]at k
    exact tq ⟨(by show 2<=ay;decide),o_ k (wG.trans s4) rfl⟩
   |false=>
    rw[ZL]at k
    exact rK ⟨(by show 2<=ay;decide),o_ k (wG.trans s4) rfl⟩
def Yt(s:bR)(f0:ae)(ns zs:List Int):List Int:=(eO s f0 .shown).2
abbrev RO:List Str:=tu
theorem Gu:m_ RO tu (m6 BY):=qi
theorem Gv(F:pJ K "call_shown" "call_shown" BY f fd)(S:p7 K CS)(nG:oG mg "DONE" 0)(G7:rC P w K mg base oH 3 "shown" ["field"] (Tu CF CC CT)):nU P w K mg base oH 4 f fd tu (Bx CS CF CC CT 0 Yt):=by
 refine F.ok Gu (λ vs H Q E h=>?_) (λ oX A outer s H vs Q E hr h=>?_)
 ·obtain⟨x,wl,hl,nl,rl,a,s',f0,ws,ns,zs,rfl,_⟩:=h
  rfl
 ·obtain⟨x,wl,hl,nl,rl,a,s',f0,ws,ns,zs,rfl,T,hn,hz,ln,lz,k⟩:=h
  have nd:=Gu.nd
  refine⟨_,(m7 (nq (om qX (nQ (mX (nV nG) mZ)) (nA (E:=E0) G7 hr (by decide) nv (mX (nr (pv 0) rfl) mZ))))),?_⟩
  obtain⟨dx,hx⟩:=T.se.1
  refine⟨(by show 1<=ay;decide),λ l1 J8=>?_⟩
  have s1:m8 H (upd H l1 (.lst [V.int 0])):=m8.new J8
  refine⟨_,rfl,x,CS,dx,_,_,rfl,s1 _ _ hx,S.cl,S.n1,rfl,a,f0,rfl,(T.same s1).field,T.ok,T.nm,λ H2 q s2 hq hq2=>?_⟩
  refine⟨l1,q,_,_,rfl,rfl,s2 _ _ m4,hq2,(by rw[nj,aA];have:=Pb T.ok T.nm;show 1+ _<=_;omega),o_ k (s1.trans s2) ?_⟩
  show _=iL (0::dU (iF f0))
  rw[t9,Bc];rfl
def MN(s:bR)(f0:ae)(ns zs:List Int):List Int:=(eO s f0 .counts).2
abbrev Pd:List Str:=["search","numbers","row","field"]
theorem DV:m_ Pd tu (m6 zW):=qi
theorem DW(F:pJ K "call_counts" "call_counts" zW f fd)(S:p7 K CS)(nJ:Rec P w K mg base "Field" CF Ck)(nG:oG mg "DONE" 0)(pf:mg "len"=none)(qo:rC P w K mg base oH 1 "efforts_of" ["teams"] (Al CT))(xI:mg "sum"=none):nU P w K mg base oH 2 f fd tu (Bx CS CF CC CT 0 MN):=by
 refine F.ok DV (λ vs H Q E h=>?_) (λ oX A outer s H vs Q E hr h=>?_)
 ·obtain⟨x,wl,hl,nl,rl,a,s',f0,ws,ns,zs,rfl,_⟩:=h
  rfl
 ·obtain⟨x,wl,hl,nl,rl,a,s',f0,ws,ns,zs,rfl,T,hn,hz,ln,lz,k⟩:=h
  have nd:=DV.nd
  refine⟨_,(mY (m9 (i:=3) nd rfl (Or.inl rfl) (nr (pv 0) rfl))
   (m7 (nq (nQ (mX (nV nG) (mX (nN nO rfl pf aX (mX (nr (pv 3) rfl) mZ)) (mX (nN nO rfl pf aX (mX (nr (pv 3) rfl) mZ)) (mX (nA (E:=E0) qo hr (by decide) nv (mX (nr (pv 3) rfl) mZ)) (mX (nr (pv 3) rfl) (mX (nN (BG rfl) rfl xI iO (mX (nr (pv 0) rfl) mZ)) mZ)))))))))),?_⟩
  obtain⟨dx,hx⟩:=T.se.1
  obtain⟨df,lc,lt,as,bs,f1,f2,f3,f4,f5⟩:=T.field
  obtain⟨z1,z2,z3⟩:=Rt f5
  refine⟨_,rfl,x,CS,dx,_,_,rfl,hx,S.cl,S.n1,rfl,?_⟩
  refine⟨_,rfl,a,CF,df,_,_,rfl,f1,nJ.cl,nJ.na "cells" (by simp),rfl,lc,_,rfl,.inl (nF.of f2),?_⟩
  refine⟨_,rfl,a,CF,df,_,_,rfl,f1,nJ.cl,nJ.na "teams" (by simp),rfl,lt,_,rfl,.inl (nF.of f4),?_⟩
  refine⟨_,rfl,a,CF,df,_,_,rfl,f1,nJ.cl,nJ.na "teams" (by simp),rfl,lt,bs.zip f0.teams,rfl,by rw[z2];exact f4,z1,by rw[eJ];have:=T.ok.teams.len;omega,λ H2 s2=>?_⟩
  refine⟨_,rfl,a,CF,df,_,_,rfl,s2 _ _ f1,nJ.cl,nJ.na "parts" (by simp),rfl,?_⟩
  refine⟨_,rfl,x,CS,dx,_,_,rfl,s2 _ _ hx,S.cl,S.n3,rfl,hl,s'.done.map (λ(n:Nat)=>(n:Int)),rfl,nF.of (by rw[s2 _ _ T.se.2.2,ur];rfl),?_⟩
  rw[tM]
  refine⟨(by show 6<=ay;decide),o_ k s2 ?_⟩
  show _=iL (0::dU [s'.field.cells.length,s'.field.teams.length,(lF s'.field).length,s'.field.parts,aZ s'.done])
  rw[Vo,T.len,T.teams,z3,aa,aa,f3.1,f5.1,show s'.field.parts=f0.parts by rw[T.fe];rfl]
  rfl
def Yu(s:bR)(f0:ae)(ns zs:List Int):List Int:=(eO s f0 .left_).2
theorem Yv(s:bR)(f0:ae)(ns zs:List Int):Yu s f0 ns zs=pj true true (left s.field (d7 s.field)) (0::jR (mJ (left s.field s.done) (left s.field (d7 s.field)))):=by
 show(if left s.field (d7 s.field)=0 then(s,[-6])else(s,_)).2=_
 unfold pj
 by_cases h:left s.field (d7 s.field)=0
 ·simp[h]
 ·simp[h]
theorem Pe(f:ae):(d7 f).length=f.cells.length:=by unfold d7;rw[aa]
theorem T7(f:ae):∀n∈d7 f,n<=20:=λ n hn=>by
 obtain⟨_,_,rfl⟩:=List.mem_map.mp hn
 exact aE _
abbrev Lo:List Str:=["search","numbers","row","untouched","table"]
theorem Jo:m_ Lo tu (m6 A0):=qi
theorem Jp(F:pJ K "call_left" "call_left" A0 f fd)(S:p7 K CS)(xI:mg "sum"=none)(nW:Wd P w K mg base CS CF CC CT)(nX:oG mg "NOTHING_LEFT" (-6))(nG:oG mg "DONE" 0)(oz:Hz4 P w K mg base)(qR:Yh P w K mg base CS CF CC CT):nU P w K mg base oH 4 f fd tu (Bx CS CF CC CT 0 Yu):=by
 refine F.ok Jo (λ vs H Q E h=>?_) (λ oX A outer s H vs Q E hr h=>?_)
 ·obtain⟨x,wl,hl,nl,rl,a,s',f0,ws,ns,zs,rfl,_⟩:=h
  rfl
 ·obtain⟨x,wl,hl,nl,rl,a,s',f0,ws,ns,zs,rfl,T,hn,hz,ln,lz,k⟩:=h
  have nd:=Jo.nd
  have nM:=S.cl
  refine⟨_,(mY (m9 (i:=3) nd rfl (Or.inl rfl) (nN (BG rfl) rfl xI iO (mX (qw (own:=[("table",4)]) rfl nd (oO (oW (E:=E0) nW nM hr (by decide) nv (pv 0))) (by exact pD.of (N:=Lo) (sc:=m6 A0) (by decide +kernel)) (λ _ _ _ _ _=>by exact(nB (i:=4) nd rfl (Or.inl rfl))) (λ _ _ _ _ _=>by exact oS) (λ _ _ _ _ _=>by exact(tZ K (pv 4) nP))) mZ)))
   (mY (pk (ot ud (pv 3) nP (oM _)) (m7 (nq (nQ (mX (nV nX) mZ)))) n9)
   (m7 (nq (om qX (nQ (mX (nV nG) mZ)) (nA (E:=E0) oz hr (by decide) nv (mX (oW (E:=E0) qR nM hr (by decide) nv (pv 0)) (mX (pv 3) mZ)))))))),?_⟩
  obtain⟨dx,hx⟩:=T.se.1
  rw[Yv]at k
  have W:=T.fw
  have wC:=T.wC
  refine⟨_,rfl,x,dx,_,rfl,hx,rfl,r_ (T.qt λ H1 tb ts s1 Yi adX hT=>?_)⟩
  refine⟨tb,rfl,⟨_,nF.of adX⟩,?_⟩
  refine oZ (oU (K:=K) (xs:=ts.map V.ref) (nF.of adX)) (nY ((n_ s'.field).map λ t=>t.getD 0 0)) (by rw[nj,aa,aa,hT.1]) (by rw[aa,hT.1,pP,T.len,aA];omega) (λ j x y H3 R3 N3 hy pH hF kk=>?_) (λ D H3 hD pH uD=>?_)
  ·obtain⟨v,q,rfl⟩:=ow hy
   rw[ak]at hF q
   cases q1:ts[j]? with
   |none=>rw[q1]at hF;cases hF
   |some tj=>
    cases q2:(n_ s'.field)[j]? with
    |none=>rw[q2]at q;cases q
    |some t=>
     rw[q1]at hF;rw[q2]at q
     cases hF
     have q:t.getD 0 0=v:=Option.some.inj q
     have tl:0<t.length:=by
      have:t∈n_ s'.field:=aC q2
      obtain⟨c,_,rfl⟩:=List.mem_map.mp this
      rw[Aa];decide
     have gd:=getD_at tl
     rw[q]at gd
     exact⟨rfl,sE ⟨_,rfl,tj,_,_,_,rfl,rfl,nF.of (pH _ _ (hT.2 j tj t q1 q2)),at_of (j:=0) rfl (oV gd),kk H3 (m8.refl _)⟩⟩
  refine⟨D,((n_ s'.field).map λ t=>t.getD 0 0).map (λ(n:Nat)=>(n:Int)),rfl,nF.of (by rw[uD,ur];rfl),?_⟩
  rw[tM,VF]
  have wG:=s1.trans pH
  refine⟨_,rfl,rfl,_,rfl,qa (λ hc=>?_) λ hc=>?_⟩
  ·have hc:=V.int.inj (of_decide_eq_true hc)
   have e:left s'.field (d7 s'.field)=0:=by omega
   rw[e]at k
   exact⟨(by show 1<=ay;decide),o_ k wG rfl⟩
  have c3:left s'.field (d7 s'.field)≠0:=λ z=>hc (decide_eq_true (by rw[z];rfl))
  rw[qG c3]at k
  refine⟨(by show 1<=ay;decide),λ l1 J8=>?_⟩
  have s4:=wG.put (o:=.lst [V.int 0]) (none_of wG J8)
  refine⟨_,rfl,x,dx,_,rfl,s4 _ _ hx,rfl,r_ ((T.same s4).An λ H5 s5=>?_)⟩
  refine⟨_,rfl,left s'.field s'.done,left s'.field (d7 s'.field),rfl,b_ c3,ug W (Pe _) (T7 _),ug W T.dl T.tE,λ H6 q s6 hq hq6=>?_⟩
  exact⟨l1,q,_,_,rfl,rfl,s6 _ _ (s5 _ _ m4),hq6,(by show 3<=ay;decide),o_ k (s4.trans (s5.trans s6)) rfl⟩
def Jq(s:bR)(f0:ae)(ns zs:List Int):List Int:=(eO s f0 .chances).2
def chL(f:ae)(d:List Nat)(n:Nat):List Nat:=(az n).flatMap λ c=>qL (ip f d c)
theorem Pf(f:ae)(d:List Nat)(n:Nat):chL f d (n+1)=chL f d n++qL (ip f d n):=by
 unfold chL
 rw[eI,ee];simp
theorem T8(f:ae)(d:List Nat):∀n,(chL f d n).length=2*n
 |0=>rfl
 |n+1=>by rw[Pf,aw,T8 f d n];show 2*n+2=_;omega
theorem Pg(s:bR)(f0:ae)(ns zs:List Int):Jq s f0 ns zs=pj true true (left s.field s.done) (0::(az s.field.cells.length).flatMap λ c=>jR (ip s.field s.done c)):=by
 show(if left s.field s.done=0 then(s,[-6])else(s,_)).2=_
 unfold pj
 by_cases h:left s.field s.done=0
 ·simp[h]
 ·simp[h]
abbrev MO:List Str:=["search","numbers","row","left","answer","table","efforts"]
theorem By:m_ MO tu (m6 yf):=qi
theorem Bz(F:pJ K "call_chances" "call_chances" yf f fd)(S:p7 K CS)(qR:Yh P w K mg base CS CF CC CT)(nX:oG mg "NOTHING_LEFT" (-6))(nG:oG mg "DONE" 0)(xJ:mg "zip"=none)(nW:Wd P w K mg base CS CF CC CT)(oz:Hz4 P w K mg base):nU P w K mg base oH 4 f fd tu (Bx CS CF CC CT 0 Jq):=by
 refine F.ok By (λ vs H Q E h=>?_) (λ oX A outer s H vs Q E hr h=>?_)
 ·obtain⟨x,wl,hl,nl,rl,a,s',f0,ws,ns,zs,rfl,_⟩:=h
  rfl
 ·obtain⟨x,wl,hl,nl,rl,a,s',f0,ws,ns,zs,rfl,T,hn,hz,ln,lz,k⟩:=h
  have nd:=By.nd
  have nM:=S.cl
  refine⟨_,(mY (m9 (i:=3) nd rfl (Or.inl rfl) (oW (E:=E0) qR nM hr (by decide) nv (pv 0)))
   (mY (pk (ot ud (pv 3) nP (oM _)) (m7 (nq (nQ (mX (nV nX) mZ)))) n9)
   (mY (m9 (i:=4) nd rfl (Or.inl rfl) (nQ (mX (nV nG) mZ)))
   (mY (qC PassesOwn.never rfl (Er rfl xJ (mX (oW (E:=E0) nW nM hr (by decide) nv (pv 0)) (mX (nr (pv 0) rfl) mZ))) (zG rfl (oK (nB (i:=5) nd rfl (Or.inl rfl)) (oK (nB (i:=6) nd rfl (Or.inl rfl)) rD))) (m7 (og (qU aH cT cS vb (pv 4) (mX (nA (E:=E0) oz hr (by decide) nv (mX (pd oh (pv 5) (pv 6) (λ _ _=>rfl)) (mX (pv 3) mZ))) mZ)))))
   (m7 (nq (pv 4))))))),?_⟩
  obtain⟨dx,hx⟩:=T.se.1
  rw[Pg]at k
  have W:=T.fw
  have wC:=T.wC
  have lb:=ug W T.dl T.tE
  refine⟨_,rfl,x,dx,_,rfl,hx,rfl,r_ (T.An λ H1 s1=>?_)⟩
  refine⟨_,rfl,rfl,_,rfl,qa (λ hc=>?_) λ hc=>?_⟩
  ·have hc:=V.int.inj (of_decide_eq_true hc)
   have e:left s'.field s'.done=0:=by omega
   rw[e]at k
   exact⟨(by show 1<=ay;decide),o_ k s1 rfl⟩
  have c3:left s'.field s'.done≠0:=λ z=>hc (decide_eq_true (by rw[z];rfl))
  rw[qG c3]at k
  refine⟨(by show 1<=ay;decide),λ an han=>?_⟩
  have acH:=none_of s1 han
  have s2:=s1.put (o:=.lst [V.int 0]) acH
  refine⟨_,rfl,x,dx,_,rfl,s2 _ _ hx,rfl,r_ ((T.same s2).qt λ H3 tb ts s3 Yi adY hT=>?_)⟩
  have wG:=s2.trans s3
  have ntb:tb≠an:=λ q=>by rw[q,m4]at Yi;cases Yi
  have hd3:=wG _ _ T.se.2.2
  have ltb:(ts.map V.ref).length=(nY s'.done).length:=by rw[aa,nj,hT.1,pP,T.dl]
  have nts:∀j t,ts[j]? =some t->t≠an:=λ j t q z=>by
   have hj:j<(n_ s'.field).length:=by rw[<-hT.1];exact(List.getElem?_eq_some_iff.mp q).1
   have q2:(n_ s'.field)[j]? =some (n_ s'.field)[j]:=af hj
   have z1:=hT.2 j t _ q q2
   have z2:H3 an=some (.lst [V.int 0]):=s3 _ _ m4
   rw[z,z2]at z1
   have z3:[V.int 0]=nY (n_ s'.field)[j]:=by injection z1 with z1;injection z1
   have z4:=congrArg ig z3
   have:(n_ s'.field)[j]∈n_ s'.field:=cp hj
   obtain⟨c,_,ec⟩:=List.mem_map.mp this
   rw[nj,<-ec,Aa]at z4
   cases z4
  refine⟨_,rfl,x,CS,dx,_,_,rfl,wG _ _ hx,S.cl,S.n3,rfl,tb,hl,_,_,rfl,nF.of adY,nF.of hd3,To (K:=K) (a:=tb) (b:=hl) (xs:=ts.map V.ref) (ys:=nY s'.done) ltb (λ i σ H'=>∃(v5 v6:Option V),σ=[some (.ref x),some (.ref nl),some (.ref rl),some (.int (left s'.field s'.done:Nat)),some (.ref an),v5,v6]/\i<=s'.done.length/\m8 H H'/\(∀b o,H3 b=some o->b≠an->H' b=some o)/\H' an=some (.lst (V.int 0::nY (chL s'.field s'.done i))))
   ⟨none,none,rfl,aE _,wG,λ b o e _=>e,s3 _ _ m4⟩ (λ i σ H' _ ⟨_,_,_,_,sm,sk,_⟩=>⟨nF.of (sk _ _ adY ntb),nF.of (sm _ _ T.se.2.2)⟩) ?_ ?_⟩
  ·rintro i y z TT σ H' hy Wa ⟨v5,v6,rfl,hi,sm,sk,SW⟩ Vk
   obtain⟨n,q2,rfl⟩:=ow Wa
   rw[ak]at hy
   cases q1:ts[i]? with
   |none=>rw[q1]at hy;cases hy
   |some t=>
    rw[q1]at hy;cases hy
    have WE:i<s'.done.length:=(List.getElem?_eq_some_iff.mp q2).1
    have hic:i<s'.field.cells.length:=by rw[<-T.dl];exact WE
    have ec:s'.field.cells[i]? =some s'.field.cells[i]:=af hic
    have q3:(n_ s'.field)[i]? =some (rH s'.field.cells[i].weight s'.field.cells[i].finds s'.field.parts):=by
     unfold n_
     rw[ak,ec];rfl
    have n20:=T.tE n (aC q2)
    have gd:s'.done.getD i 0=n:=by rw[aB,q2];rfl
    have tn:=vC (w:=s'.field.cells[i].weight) (fi:=s'.field.cells[i].finds) (p:=s'.field.parts) n20
    rw[<-wB ec]at tn
    have sT:m8 H' (upd H' TT (.tup [.ref t,.int (n:Nat)])):=m8.new Vk
    have ht:=sT _ _ (sk _ _ (hT.2 i t _ q1 q3) (nts i t q1))
    have ha2:=sT _ _ SW
    have mb:cY s'.field i n<Tf:=bH (Ml W hic n20) (bH (Nat.le_mul_of_pos_left _ (by decide:0<16)) XC)
    refine⟨TT,_,rfl,Bj.of m4,rfl,_,_,rfl,_,_,rfl,rfl,?_⟩
    refine⟨_,rfl,.inl ⟨rfl,_,nF.of ha2⟩,_,rfl,_,rfl,t,_,_,_,rfl,rfl,nF.of ht,ou (oV tn),_,rfl,cY s'.field i n,left s'.field s'.done,rfl,b_ c3,lb,mb,λ H5 fr s5 JM acv=>?_⟩
    refine⟨an,fr,_,_,rfl,rfl,s5 _ _ ha2,acv,?_,?_⟩
    ·rw[aD,nj,T8,aA];show _+2<=_;have:=T.ld;omega
    ·refine⟨_,_,rfl,WE,(sm.trans (sT.trans s5)).put acH,λ b o e nb=>?_,?_⟩
     ·rw[m5 nb];exact s5 _ _ (sT _ _ (sk _ _ e nb))
     ·rw[m4,Pf]
      unfold ip nY
      rw[gd,aF];rfl
  ·rintro σ H' ⟨v5,v6,rfl,hi,sm,sk,SW⟩
   refine⟨_,rfl,k H' an sm acH ?_⟩
   rw[SW,ltb,nj,T.dl,t9,T6];rfl
def DX(CS CF CC CT:ag)(s:bR)(H:Hp)(x wl hl:ag):Prop:=(s=iG/\Ab CS H x .qB wl hl [] []/\wl≠hl)\/∃f0 ws a,s.told=some f0/\vg CS CF CC CT s f0 ws a H x wl hl
theorem Ab.Vt{CS:ag}{H H':Hp}{x wl hl:ag}{v:V}{ws d:List Nat}(h:Ab CS H x v wl hl ws d)(n:NE H H'):Ab CS H' x v wl hl ws d:=by
 obtain⟨⟨dx,e1⟩,e2,e3⟩:=h
 exact⟨⟨dx,n _ _ e1 (λ φ q=>by cases q)⟩,n _ _ e2 (λ φ q=>by cases q),n _ _ e3 (λ φ q=>by cases q)⟩
theorem DX.Vt{CS CF CC CT:ag}{s:bR}{H H':Hp}{x wl hl:ag}(h:DX CS CF CC CT s H x wl hl)(n:NE H H'):DX CS CF CC CT s H' x wl hl:=by
 rcases h with⟨h1,h2,h3⟩|⟨f0,ws,a,h1,h2⟩
 ·exact .inl ⟨h1,h2.Vt n,h3⟩
 ·exact .inr ⟨f0,ws,a,h1,h2.Vt n⟩
theorem Fr.none{H:Hp}{p:ag}(h:H p=none):Fr H p:=λ o e=>by rw[h]at e;cases e
def KN(CS CF CC CT:ag)(x wl hl:ag)(H:Hp)(Q:VK)(r:bR×List Int):Prop:=∀H' p Wg GD,DX CS CF CC CT r.1 H' x Wg GD->(Wg=wl\/Fr H Wg)->(GD=hl\/Fr H GD)->Rw x wl hl H H'->Fr H p->H' p=some (.lst (iL r.2))->Q (.ref p) H'
section
variable{CS CF CC CT:ag}{s:bR}{f0:ae}{ws:List Nat}{a:ag}{H:Hp}{x wl hl:ag}
theorem KN.pure{Q:VK}{r:bR×List Int}(k:KN CS CF CC CT x wl hl H Q r)(h:DX CS CF CC CT r.1 H x wl hl):z_ H Q (iL r.2):=λ H' p n fp hp=>k H' p wl hl (h.Vt n) (.inl rfl) (.inl rfl) (Rw.ne n) fp hp
theorem z_.ret{Q:VK}{xs:List V}(k:z_ H Q xs):GI H Q xs:=λ H' p sm hp hp'=>k H' p (NE.of_same sm) (Fr.none hp) hp'
theorem vg.T9(T:vg CS CF CC CT s f0 ws a H x wl hl){d:List Nat}(hd:d.length=s.done.length)(tE:∀n∈d,n<=20):vg CS CF CC CT { s with done:=d } f0 ws a (upd H hl (.lst (nY d))) x wl hl:=by
 obtain⟨⟨dx,e1⟩,e2,e3⟩:=T.se
 obtain⟨H0,h1,h2,h3,h4,h5,h6⟩:=T.fa
 have nx:x≠hl:=λ q=>by rw[q,e3]at e1;cases e1
 exact⟨⟨⟨dx,by rw[m5 nx];exact e1⟩,by rw[m5 T.ne];exact e2,m4⟩,T.ne,⟨H0,h1,h2.put h5,h3,h4,h5,h6⟩,T.ok,T.nm,T.fe,T.lw,by show d.length=_;rw[hd];exact T.ld,tE,T.Zj⟩
theorem vg.but(T:vg CS CF CC CT s f0 ws a H x wl hl){o:HO}:Rw x wl hl H (upd H hl o):=λ b u e _ _ n _=>by rw[m5 n];exact e
end
def Zk(CS CF CC CT:ag)(ar:Nat)(g:bR->ae->List Int->List Int->bR×List Int):Sp:=λ vs H Q _=>∃(x wl hl nl rl a:ag) (s:bR) (f0:ae) (ws:List Nat) (ns zs:List Int),vs=[.ref x,.ref nl,.ref rl]/\s.told=some f0/\vg CS CF CC CT s f0 ws a H x wl hl/\H nl=some (.lst (iL ns))/\H rl=some (.lst (iL zs))/\ns.length=ar/\zs.length<=70/\KN CS CF CC CT x wl hl H Q (g s f0 ns zs)
def T_(s:bR)(f0:ae)(ns zs:List Int):bR×List Int:=eO s f0 (.vain (ns.getD 0 0) (ns.getD 1 0))
theorem RP{ns:List Int}(h:ns.length=2):(iL ns)[0]? =some (.int (ns.getD 0 0))/\(iL ns)[1]? =some (.int (ns.getD 1 0)):=by
 match ns,h with
 |[a,b],_=>exact⟨rfl,rfl⟩
theorem Yw(s:bR)(f0:ae)(ns zs:List Int):T_ s f0 ns zs=if(eR s (ns.getD 0 0) && bI (ns.getD 1 0) 0 20)=false then(s,[-1])else if 20<s.done.getD (ns.getD 0 0).toNat 0+(ns.getD 1 0).toNat then(s,[-3])else({ s with done:=s.done.set (ns.getD 0 0).toNat (s.done.getD (ns.getD 0 0).toNat 0+(ns.getD 1 0).toNat) },[0,((s.done.getD (ns.getD 0 0).toNat 0+(ns.getD 1 0).toNat:Nat):Int)]):=rfl
abbrev VH:List Str:=["search","numbers","row","cell","more"]
theorem Jr:m_ VH tu (m6 EB):=qi
theorem Js(F:pJ K "call_vain" "call_vain" EB f fd)(S:p7 K CS)(pI:aax P w K mg base CS)(nE:oG mg "MOST_EFFORTS" 20)(nI:oG mg "NOT_AS_TOLD" (-1))(pB:oG mg "TOO_MANY" (-3))(nG:oG mg "DONE" 0):nU P w K mg base oH 2 f fd tu (Zk CS CF CC CT 2 T_):=by
 refine F.ok Jr (λ vs H Q E h=>?_) (λ oX A outer s H vs Q E hr h=>?_)
 ·obtain⟨x,wl,hl,nl,rl,a,s',f0,ws,ns,zs,rfl,_⟩:=h
  rfl
 ·obtain⟨x,wl,hl,nl,rl,a,s',f0,ws,ns,zs,rfl,told,T,hn,hz,ln,lz,k⟩:=h
  have nd:=Jr.nd
  have nM:=S.cl
  refine⟨_,(mY (m9 (i:=3) nd rfl (Or.inl rfl) (pd oh (pv 1) nP (λ _ _=>rfl)))
   (mY (m9 (i:=4) nd rfl (Or.inl rfl) (pd oh (pv 1) nP (λ _ _=>rfl)))
   (mY (pk (vi (PW.pt (Ei (tH (pR (E:=E0) pI nM hr (by decide) nv (pv 0) (mX (pv 3) mZ))) (AQ (vm p_ p_ nP (pv 4) (nV nE)))))) (m7 (nq (nQ (mX (nV nI) mZ)))) n9)
   (mY (pk (ot Bk (om qW (pd oh (nr (pv 0) rfl) (pv 3) (λ _ _=>rfl)) (pv 4)) (nV nE) (oM _)) (m7 (nq (nQ (mX (nV pB) mZ)))) n9)
   (mY (AR (nr (pv 0) rfl) (pv 3) xK (pv 4) zH set_list)
   (m7 (nq (nQ (mX (nV nG) (mX (pd oh (nr (pv 0) rfl) (pv 3) (λ _ _=>rfl)) mZ)))))))))),?_⟩
  obtain⟨dx,hx⟩:=T.se.1
  rw[Yw]at k
  obtain⟨h0,h1⟩:=RP ln
  generalize ns.getD 0 0=c at k h0
  generalize ns.getD 1 0=n at k h1
  have st:DX CS CF CC CT s' H x wl hl:=.inr ⟨f0,ws,a,told,T⟩
  refine⟨_,rfl,nl,_,_,_,rfl,rfl,nF.of hn,at_of (j:=0) rfl h0,_,rfl,nl,_,_,_,rfl,rfl,nF.of hn,at_of (j:=1) rfl h1,?_⟩
  refine⟨_,rfl,x,dx,_,rfl,hx,rfl,_,rfl,r_ (T.DQ ⟨_,rfl,?_⟩)⟩
  cases hc:eR s' c with
  |false=>
   rw[hc,ik,if_pos rfl]at k
   exact rK (tq ⟨(by show 1<=ay;decide),o_ (z_.ret (k.pure st)) (m8.refl _) rfl⟩)
  |true=>
   rw[hc,fF]at k
   refine tq (uf gc gv gc ⟨_,rfl,?_⟩)
   cases hi:bI n 0 20 with
   |false=>
    rw[hi,if_pos rfl]at k
    exact tq ⟨(by show 1<=ay;decide),o_ (z_.ret (k.pure st)) (m8.refl _) rfl⟩
   |true=>
    rw[hi,if_neg (by simp)]at k
    obtain⟨i1,i2⟩:=pz.mp hi
    obtain⟨j1,j2⟩:=pz.mp hc
    obtain⟨cn,rfl⟩:∃m:Nat,c=(m:Int):=⟨c.toNat,by omega⟩
    obtain⟨nn,rfl⟩:∃m:Nat,n=(m:Int):=⟨n.toNat,by omega⟩
    rw[show((cn:Int)).toNat=cn from rfl,show((nn:Int)).toNat=nn from rfl]at k
    have Ee:cn<s'.done.length:=by rw[T.dl];omega
    have gd:=getD_at Ee
    have DG:=T.se.2.2
    refine rK ⟨_,rfl,x,CS,dx,_,_,rfl,hx,S.cl,S.n3,rfl,_,rfl,hl,_,_,_,rfl,rfl,nF.of DG,ou (oV gd),_,rfl,_,_,rfl,rfl,_,_,rfl,rfl,_,rfl,qa (λ hq=>?_) λ hq=>?_⟩
    ·have hq:=of_decide_eq_true hq
     rw[if_pos (by omega)]at k
     exact⟨(by show 1<=ay;decide),o_ (z_.ret (k.pure st)) (m8.refl _) rfl⟩
    ·have hq:¬ (20:Int)<((s'.done.getD cn 0:Nat):Int)+(nn:Int):=λ q=>hq (decide_eq_true q)
     rw[if_neg (by omega)]at k
     have T2:=T.T9 (d:=s'.done.set cn (s'.done.getD cn 0+nn)) (by rw[fK]) λ m hm=>by
      rcases gm hm with q|q
      ·exact T.tE m q
      ·omega
     refine⟨_,rfl,x,CS,dx,_,_,rfl,hx,S.cl,S.n3,rfl,_,rfl,hl,_,cn,_,rfl,rfl,nF.of DG,oV gd,_,rfl,_,_,rfl,rfl,hl,_,_,cn,rfl,rfl,DG,yq (by rw[nj];exact Ee),?_⟩
     have e2:(nY s'.done).set cn (V.int (((s'.done.getD cn 0:Nat):Int)+(nn:Int)))=nY (s'.done.set cn (s'.done.getD cn 0+nn)):=by unfold nY;rw[fT];rfl
     generalize JO:upd H hl (.lst ((nY s'.done).set cn (V.int (((s'.done.getD cn 0:Nat):Int)+(nn:Int)))))=H2
     rw[e2]at JO
     obtain⟨⟨Xi,C9⟩,hw2,hh2⟩:=(JO ▸ T2.se:Ab CS H2 x (.ref a) wl hl ws (s'.done.set cn (s'.done.getD cn 0+nn)))
     have gd2:(s'.done.set cn (s'.done.getD cn 0+nn))[cn]? =some (s'.done.getD cn 0+nn):=cO Ee
     refine⟨_,rfl,x,CS,Xi,_,_,rfl,C9,S.cl,S.n3,rfl,_,rfl,hl,_,_,_,rfl,rfl,nF.of hh2,ou (oV gd2),(by show 2<=ay;decide),λ p hp=>?_⟩
     rw[JO]at T2
     have b3:Rw x wl hl H H2:=JO ▸ T.but
     have n3:NE H2 (upd H2 p (.lst [V.int 0,V.int ((s'.done.getD cn 0+nn:Nat):Int)])):=NE.of_same (m8.new hp)
     refine k _ p wl hl (.inr ⟨f0,ws,a,told,T2.Vt n3⟩) (.inl rfl) (.inl rfl) (λ b o e n1 n2 n4 z=>n3 _ _ (b3 b o e n1 n2 n4 z) z) (λ o e=>?_) m4
     have np:p≠hl:=λ q=>by rw[q,hh2]at hp;cases hp
     rw[<-JO,m5 np,e]at hp
     cases hp
def Ua(s:bR)(f0:ae)(ns zs:List Int):bR×List Int:=eO s f0 (.back (ns.getD 0 0) (ns.getD 1 0))
theorem Yx(s:bR)(f0:ae)(ns zs:List Int):Ua s f0 ns zs=if(eR s (ns.getD 0 0) && bI (ns.getD 1 0) 0 20)=false then(s,[-1])else if s.done.getD (ns.getD 0 0).toNat 0<(ns.getD 1 0).toNat then(s,[-3])else({ s with done:=s.done.set (ns.getD 0 0).toNat (s.done.getD (ns.getD 0 0).toNat 0-(ns.getD 1 0).toNat) },[0,((s.done.getD (ns.getD 0 0).toNat 0-(ns.getD 1 0).toNat:Nat):Int)]):=rfl
abbrev VI:List Str:=["search","numbers","row","cell","fewer"]
theorem Jt:m_ VI tu (m6 ED):=qi
theorem Ju(F:pJ K "call_back" "call_back" ED f fd)(S:p7 K CS)(pI:aax P w K mg base CS)(nE:oG mg "MOST_EFFORTS" 20)(nI:oG mg "NOT_AS_TOLD" (-1))(pB:oG mg "TOO_MANY" (-3))(nG:oG mg "DONE" 0):nU P w K mg base oH 2 f fd tu (Zk CS CF CC CT 2 Ua):=by
 refine F.ok Jt (λ vs H Q E h=>?_) (λ oX A outer s H vs Q E hr h=>?_)
 ·obtain⟨x,wl,hl,nl,rl,a,s',f0,ws,ns,zs,rfl,_⟩:=h
  rfl
 ·obtain⟨x,wl,hl,nl,rl,a,s',f0,ws,ns,zs,rfl,told,T,hn,hz,ln,lz,k⟩:=h
  have nd:=Jt.nd
  have nM:=S.cl
  refine⟨_,(mY (m9 (i:=3) nd rfl (Or.inl rfl) (pd oh (pv 1) nP (λ _ _=>rfl)))
   (mY (m9 (i:=4) nd rfl (Or.inl rfl) (pd oh (pv 1) nP (λ _ _=>rfl)))
   (mY (pk (vi (PW.pt (Ei (tH (pR (E:=E0) pI nM hr (by decide) nv (pv 0) (mX (pv 3) mZ))) (AQ (vm p_ p_ nP (pv 4) (nV nE)))))) (m7 (nq (nQ (mX (nV nI) mZ)))) n9)
   (mY (pk (ot Hc (pd oh (nr (pv 0) rfl) (pv 3) (λ _ _=>rfl)) (pv 4) (oM _)) (m7 (nq (nQ (mX (nV pB) mZ)))) n9)
   (mY (AR (nr (pv 0) rfl) (pv 3) xK (pv 4) Qb set_list)
   (m7 (nq (nQ (mX (nV nG) (mX (pd oh (nr (pv 0) rfl) (pv 3) (λ _ _=>rfl)) mZ)))))))))),?_⟩
  obtain⟨dx,hx⟩:=T.se.1
  rw[Yx]at k
  obtain⟨h0,h1⟩:=RP ln
  generalize ns.getD 0 0=c at k h0
  generalize ns.getD 1 0=n at k h1
  have st:DX CS CF CC CT s' H x wl hl:=.inr ⟨f0,ws,a,told,T⟩
  refine⟨_,rfl,nl,_,_,_,rfl,rfl,nF.of hn,at_of (j:=0) rfl h0,_,rfl,nl,_,_,_,rfl,rfl,nF.of hn,at_of (j:=1) rfl h1,?_⟩
  refine⟨_,rfl,x,dx,_,rfl,hx,rfl,_,rfl,r_ (T.DQ ⟨_,rfl,?_⟩)⟩
  cases hc:eR s' c with
  |false=>
   rw[hc,ik,if_pos rfl]at k
   exact rK (tq ⟨(by show 1<=ay;decide),o_ (z_.ret (k.pure st)) (m8.refl _) rfl⟩)
  |true=>
   rw[hc,fF]at k
   refine tq (uf gc gv gc ⟨_,rfl,?_⟩)
   cases hi:bI n 0 20 with
   |false=>
    rw[hi,if_pos rfl]at k
    exact tq ⟨(by show 1<=ay;decide),o_ (z_.ret (k.pure st)) (m8.refl _) rfl⟩
   |true=>
    rw[hi,if_neg (by simp)]at k
    obtain⟨i1,i2⟩:=pz.mp hi
    obtain⟨j1,j2⟩:=pz.mp hc
    obtain⟨cn,rfl⟩:∃m:Nat,c=(m:Int):=⟨c.toNat,by omega⟩
    obtain⟨nn,rfl⟩:∃m:Nat,n=(m:Int):=⟨n.toNat,by omega⟩
    rw[show((cn:Int)).toNat=cn from rfl,show((nn:Int)).toNat=nn from rfl]at k
    have Ee:cn<s'.done.length:=by rw[T.dl];omega
    have gd:=getD_at Ee
    have DG:=T.se.2.2
    have g20:=T.tE _ (aC gd)
    refine rK ⟨_,rfl,x,CS,dx,_,_,rfl,hx,S.cl,S.n3,rfl,_,rfl,hl,_,_,_,rfl,rfl,nF.of DG,ou (oV gd),_,rfl,_,_,rfl,rfl,_,rfl,qa (λ hq=>?_) λ hq=>?_⟩
    ·have hq:=of_decide_eq_true hq
     rw[if_pos (by omega)]at k
     exact⟨(by show 1<=ay;decide),o_ (z_.ret (k.pure st)) (m8.refl _) rfl⟩
    ·have hq:¬ ((s'.done.getD cn 0:Nat):Int)<(nn:Int):=λ q=>hq (decide_eq_true q)
     rw[if_neg (by omega)]at k
     have T2:=T.T9 (d:=s'.done.set cn (s'.done.getD cn 0-nn)) (by rw[fK]) λ m hm=>by
      rcases gm hm with q|q
      ·exact T.tE m q
      ·omega
     refine⟨_,rfl,x,CS,dx,_,_,rfl,hx,S.cl,S.n3,rfl,_,rfl,hl,_,cn,_,rfl,rfl,nF.of DG,oV gd,_,rfl,Ms (z:=((s'.done.getD cn 0-nn:Nat):Int)) (by omega) ⟨hl,_,_,cn,rfl,rfl,DG,yq (by rw[nj];exact Ee),?_⟩⟩
     have e2:(nY s'.done).set cn (V.int ((s'.done.getD cn 0-nn:Nat):Int))=nY (s'.done.set cn (s'.done.getD cn 0-nn)):=by unfold nY;rw[fT]
     generalize JO:upd H hl (.lst ((nY s'.done).set cn (V.int ((s'.done.getD cn 0-nn:Nat):Int))))=H2
     rw[e2]at JO
     obtain⟨⟨Xi,C9⟩,hw2,hh2⟩:=(JO ▸ T2.se:Ab CS H2 x (.ref a) wl hl ws (s'.done.set cn (s'.done.getD cn 0-nn)))
     have gd2:(s'.done.set cn (s'.done.getD cn 0-nn))[cn]? =some (s'.done.getD cn 0-nn):=cO Ee
     refine⟨_,rfl,x,CS,Xi,_,_,rfl,C9,S.cl,S.n3,rfl,_,rfl,hl,_,_,_,rfl,rfl,nF.of hh2,ou (oV gd2),(by show 2<=ay;decide),λ p hp=>?_⟩
     rw[JO]at T2
     have b3:Rw x wl hl H H2:=JO ▸ T.but
     have n3:NE H2 (upd H2 p (.lst [V.int 0,V.int ((s'.done.getD cn 0-nn:Nat):Int)])):=NE.of_same (m8.new hp)
     refine k _ p wl hl (.inr ⟨f0,ws,a,told,T2.Vt n3⟩) (.inl rfl) (.inl rfl) (λ b o e n1 n2 n4 z=>n3 _ _ (b3 b o e n1 n2 n4 z) z) (λ o e=>?_) m4
     have np:p≠hl:=λ q=>by rw[q,hh2]at hp;cases hp
     rw[<-JO,m5 np,e]at hp
     cases hp
def MP(CS CF CC CT:ag):Sp:=λ vs H Q _=>∃(x wl hl nl rl:ag) (s:bR),vs=[.ref x,.ref nl,.ref rl]/\DX CS CF CC CT s H x wl hl/\KN CS CF CC CT x wl hl H Q (iG,[0])
abbrev RQ:List Str:=tu
theorem Gw:m_ RQ tu (m6 Cd):=qi
theorem Gx(F:pJ K "call_clear" "call_clear" Cd f fd)(S:p7 K CS)(DY:uo P w K mg base oH 1 CS "forget" ["self"] (OH CS))(nG:oG mg "DONE" 0):nU P w K mg base oH 2 f fd tu (MP CS CF CC CT):=by
 refine F.ok Gw (λ vs H Q E h=>?_) (λ oX A outer s H vs Q E hr h=>?_)
 ·obtain⟨x,wl,hl,nl,rl,s',rfl,_⟩:=h
  rfl
 ·obtain⟨x,wl,hl,nl,rl,s',rfl,st,k⟩:=h
  have nd:=Gw.nd
  have nM:=S.cl
  refine⟨_,(mY (og (oW (E:=E0) DY nM hr (by decide) nv (pv 0)))
   (m7 (nq (nQ (mX (nV nG) mZ))))),?_⟩
  have hx:∃dx v1 v2 v3,H x=some (.ins CS dx (J1.zip [v1,v2,v3])):=by
   rcases st with⟨_,⟨⟨dx,e⟩,_⟩,_⟩|⟨f0,ws,a,_,T⟩
   ·exact⟨dx,_,_,_,e⟩
   ·obtain⟨dx,e⟩:=T.se.1
    exact⟨dx,_,_,_,e⟩
  obtain⟨dx,v1,v2,v3,hx⟩:=hx
  refine⟨_,rfl,x,dx,_,rfl,hx,rfl,x,dx,v1,v2,v3,rfl,hx,λ H2 Wg GD b2 hw hh ne se=>?_⟩
  refine⟨(by show 1<=ay;decide),λ p hp=>?_⟩
  have n3:NE H2 (upd H2 p (.lst [V.int 0])):=NE.of_same (m8.new hp)
  have hp0:∀o,H p=some o->∃φ,o= .ext φ:=λ o e=>by
   apply Classical.byContradiction
   intro z
   have nx:p≠x:=λ q=>by
    obtain⟨⟨d2,e2⟩,_⟩:=se
    rw[q,e2]at hp;cases hp
   have:=b2 p o e nx λ φ q=>z ⟨φ,q⟩
   rw[this]at hp;cases hp
  exact k _ p Wg GD (.inl ⟨rfl,se.Vt n3,ne⟩) (.inr (Fr.none hw)) (.inr (Fr.none hh)) (λ b o e n1 _ _ z=>n3 _ _ (b2 b o e n1 z) z) hp0 m4
end oj
namespace L2
open Sem (wp)
theorem nz{a b:Nat}(h:a<b\/b<a):a≠b:=by omega
abbrev G8(h:bw)(T:ag)(a b c:ao):Prop:=h.get? T=some { cls:=.type "tuple",data:=.seq #[a,b,c] }
section
variable{prog:aJ}{w:aY}{A:bU}{E:ao->au->Prop}{s:au}
theorem MQ{T:ag}{a b c x:ao}{k:Nat}{Q:Unit->au->Prop}(hT:G8 s.heap T a b c)
  (h:∀h',h'.get? T=some { cls:=.type "tuple",data:=.seq ((#[a,b,c]:Array ao).setIfInBounds k x) }->Heap.SameBut T s.heap h'->Q () { s with heap:=h' }):
  aV (aS prog w) A (updateSeq T (·.setIfInBounds k x)) Q E s:=by
 refine wpAny_updateSeq hT rfl (h _ ?_ (Heap.SameBut.update ..))
 rw[Heap.get?_update_self _ hT rfl]
 simp[Obj.mapSeq]
theorem acI{n l1 l2 l3 k:Nat}{xs ys us:Array ao}{x y u a b c:ao}{Q:ao->au->Prop}(g1:l1<n)(g2:l2<n)(g3:l3<n)
  (Z0:gN s.heap (n+5) (n+3) (n+4) .none)(I0:G8 s.heap (n+3) (.ref n) (.ref (n+1)) (.ref (n+2)))(O0:G8 s.heap (n+4) a b c)
  (w1:s.heap.IsListIter n l1 k)(w2:s.heap.IsListIter (n+1) l2 k)(w3:s.heap.IsListIter (n+2) l3 k)(v1:s.heap.IsList l1 xs)(v2:s.heap.IsList l2 ys)(v3:s.heap.IsList l3 us)(e1:xs[k]? =some x)(e2:ys[k]? =some y)(e3:us[k]? =some u)
  (hQ:∀h',gN h' (n+5) (n+3) (n+4) (dM s.heap.objs.size)->G8 h' (n+4) x y u->h'.IsListIter n l1 (k+1)->h'.IsListIter (n+1) l2 (k+1)->h'.IsListIter (n+2) l3 (k+1)->G8 h' s.heap.objs.size x y u->
   (∀c o,c≠n+5->c≠n+4->c≠n->c≠n+1->c≠n+2->s.heap.get? c=some o->h'.get? c=some o)->Q (.ref s.heap.objs.size) { s with heap:=h' }):
  aV (aS prog w) A (jg.«zip.__next__» ⟨[.ref (n+5)],[]⟩) (λ fin s'=>∃v,fin= .done (.ret v)/\Q v s') E s:=by
 show aV _ _ (field (.ref (n+5)) 2 >>= _) _ _ _
 refine aq (cN Z0 rfl (x:=.bool false) rfl ?_)
 show aV _ _ (field (.ref (n+5)) 3 >>= _) _ _ _
 refine aq (cN Z0 rfl (x:=.ref (n+3)) rfl (aq (fB I0 rfl ?_)))
 show aV _ _ (Builtin.SmallTypes.ownedTupleIsFree (.ref (n+5)) >>= _) _ _ _
 refine aq ?_
 unfold Builtin.SmallTypes.ownedTupleIsFree
 refine aq (cN Z0 rfl (x:=.none) rfl (aM ?_))
 simp only[if_true]
 refine aq (wpAny_rule (aq (cN Z0 rfl (x:=.ref (n+4)) rfl ?_)))
 refine aq (fb Z0 (by simp) λ h1 Z1 b1=>?_)
 replace Z1:gN h1 (n+5) (n+3) (n+4) .ellipsis:=Z1
 have B1:=b1.extBut
 refine aq ?_
 simp only[d8,lD,jh,ij]
 refine aq (aq (ja ?_))
 show aV _ _ (Builtin.SmallTypes.nextOf (.ref n) >>= _) _ _ _
 refine aq (ir (w1.extBut B1 (nz (by omega))) (v1.extBut B1 (nz (by omega))) e1 λ h2 r1 b2=>aM ?_)
 have B2:=b2.extBut
 have O2:G8 h2 (n+4) a b c:=B2 _ _ (nz (by omega)) (B1 _ _ (nz (by omega)) O0)
 refine aq (fB O2 rfl (aq (MQ O2 λ h3 O3 b3=>?_)))
 replace O3:G8 h3 (n+4) x b c:=O3
 have B3:=b3.extBut
 refine aq (jG (aM ?_))
 refine aq (aq (ja ?_))
 show aV _ _ (Builtin.SmallTypes.nextOf (.ref (n+1)) >>= _) _ _ _
 refine aq (ir (((w2.extBut B1 (nz (by omega))).extBut B2 (nz (by omega))).extBut B3 (nz (by omega))) (((v2.extBut B1 (nz (by omega))).extBut B2 (nz (by omega))).extBut B3 (nz (by omega))) e2 λ h4 r2 b4=>aM ?_)
 have B4:=b4.extBut
 have O4:G8 h4 (n+4) x b c:=B4 _ _ (nz (by omega)) O3
 refine aq (fB O4 rfl (aq (MQ O4 λ h5 O5 b5=>?_)))
 replace O5:G8 h5 (n+4) x y c:=O5
 have B5:=b5.extBut
 refine aq (jG (aM ?_))
 refine aq (aq (ja ?_))
 show aV _ _ (Builtin.SmallTypes.nextOf (.ref (n+2)) >>= _) _ _ _
 refine aq (ir (((((w3.extBut B1 (nz (by omega))).extBut B2 (nz (by omega))).extBut B3 (nz (by omega))).extBut B4 (nz (by omega))).extBut B5 (nz (by omega))) (((((v3.extBut B1 (nz (by omega))).extBut B2 (nz (by omega))).extBut B3 (nz (by omega))).extBut B4 (nz (by omega))).extBut B5 (nz (by omega))) e3 λ h6 r3 b6=>aM ?_)
 have B6:=b6.extBut
 have O6:G8 h6 (n+4) x y c:=B6 _ _ (nz (by omega)) O5
 refine aq (fB O6 rfl (aq (MQ O6 λ h7 O7 b7=>?_)))
 replace O7:G8 h7 (n+4) x y u:=O7
 have B7:=b7.extBut
 refine aq (jG (aM (aM ?_)))
 refine aq (fB O7 rfl (aq (wpAny_newTuple ?_)))
 have sz:h7.objs.size=s.heap.objs.size:=by rw[b7.1,b6.1,b5.1,b4.1,b3.1,b2.1,b1.1]
 have Z7:gN h7 (n+5) (n+3) (n+4) .ellipsis:=B7 _ _ (nz (by omega)) (B6 _ _ (nz (by omega)) (B5 _ _ (nz (by omega)) (B4 _ _ (nz (by omega)) (B3 _ _ (nz (by omega)) (B2 _ _ (nz (by omega)) Z1)))))
 have kp:∀c o,c≠n+5->c≠n+4->c≠n->c≠n+1->c≠n+2->s.heap.get? c=some o->h7.get? c=some o:=λ c o c1 c2 c3 c4 c5 e=>
  B7 _ _ c2 (B6 _ _ c5 (B5 _ _ c2 (B4 _ _ c4 (B3 _ _ c2 (B2 _ _ c3 (B1 _ _ c1 e))))))
 have r1':h7.IsListIter n l1 (k+1):=((((r1.extBut B3 (nz (by omega))).extBut B4 (nz (by omega))).extBut B5 (nz (by omega))).extBut B6 (nz (by omega))).extBut B7 (nz (by omega))
 have r2':h7.IsListIter (n+1) l2 (k+1):=((r2.extBut B5 (nz (by omega))).extBut B6 (nz (by omega))).extBut B7 (nz (by omega))
 have r3':h7.IsListIter (n+2) l3 (k+1):=r3.extBut B7 (nz (by omega))
 have zl:n+5<h7.objs.size:=Heap.lt_size Z7
 show aV _ _ (Builtin.SmallTypes.ownedTupleHandOut (.ref (n+5)) (.ref h7.objs.size) >>= _) _ _ _
 refine aq ?_
 unfold Builtin.SmallTypes.ownedTupleHandOut
 have Z8:gN (h7.push { cls:=.type "tuple",data:=.seq #[x,y,u] }) (n+5) (n+3) (n+4) .ellipsis:=Heap.get?_push_of_some _ Z7
 refine aq (fb Z8 (by simp) λ h9 Z9 b9=>?_)
 replace Z9:gN h9 (n+5) (n+3) (n+4) (dM h7.objs.size):=Z9
 refine fb Z9 (by simp) λ h10 Z10 b10=>?_
 replace Z10:gN h10 (n+5) (n+3) (n+4) (dM h7.objs.size):=Z10
 have up:∀c o,c≠n+5->h7.get? c=some o->h10.get? c=some o:=λ c o c1 e=>b10.extBut _ _ c1 (b9.extBut _ _ c1 (Heap.get?_push_of_some _ e))
 have T10:G8 h10 h7.objs.size x y u:=b10.extBut _ _ (nz (by omega)) (b9.extBut _ _ (nz (by omega)) (Heap.get?_push_size _ rfl))
 rw[sz]at Z10 T10
 refine aM ⟨_,rfl,?_⟩
 show Q (.ref h7.objs.size) _
 rw[sz]
 exact hQ h10 Z10 (up _ _ (nz (by omega)) O7) (r1'.at λ o e=>up _ o (nz (by omega)) e) (r2'.at λ o e=>up _ o (nz (by omega)) e) (r3'.at λ o e=>up _ o (nz (by omega)) e) T10 λ c o c1 c2 c3 c4 c5 e=>up c o c1 (kp c o c1 c2 c3 c4 c5 e)
theorem adZ{n l1 k:Nat}{xs:Array ao}{a b c:ao}{Q:Fin->au->Prop}(hh:A.handled=none)(g1:l1<n)
  (Z0:gN s.heap (n+5) (n+3) (n+4) .none)(I0:G8 s.heap (n+3) (.ref n) (.ref (n+1)) (.ref (n+2)))(O0:G8 s.heap (n+4) a b c)
  (w1:s.heap.IsListIter n l1 k)(v1:s.heap.IsList l1 xs)(e1:xs[k]? =none)
  (hE:∀h' e,(∀c o,c≠n+5->c≠n->s.heap.get? c=some o->h'.get? c=some o)->(∃o,h'.get? e=some o/\o.cls= .type "StopIteration")->E (.ref e) { s with heap:=h' }):
  aV (aS prog w) A (jg.«zip.__next__» ⟨[.ref (n+5)],[]⟩) Q E s:=by
 show aV _ _ (field (.ref (n+5)) 2 >>= _) _ _ _
 refine aq (cN Z0 rfl (x:=.bool false) rfl ?_)
 show aV _ _ (field (.ref (n+5)) 3 >>= _) _ _ _
 refine aq (cN Z0 rfl (x:=.ref (n+3)) rfl (aq (fB I0 rfl ?_)))
 show aV _ _ (Builtin.SmallTypes.ownedTupleIsFree (.ref (n+5)) >>= _) _ _ _
 refine aq ?_
 unfold Builtin.SmallTypes.ownedTupleIsFree
 refine aq (cN Z0 rfl (x:=.none) rfl (aM ?_))
 simp only[if_true]
 refine aq (wpAny_rule (aq (cN Z0 rfl (x:=.ref (n+4)) rfl ?_)))
 refine aq (fb Z0 (by simp) λ h1 Z1 b1=>?_)
 replace Z1:gN h1 (n+5) (n+3) (n+4) .ellipsis:=Z1
 have B1:=b1.extBut
 refine aq ?_
 simp only[d8,lD,jh,ij]
 refine aq (aq (ja ?_))
 show aV _ _ (Builtin.SmallTypes.nextOf (.ref n) >>= _) _ _ _
 refine aq (wpAny_nextOf_list_end hh (w1.extBut B1 (nz (by omega))) (v1.extBut B1 (nz (by omega))) e1 λ h2 e B2 he=>?_)
 obtain⟨oe,hoe,hce⟩:=he
 have Z2:gN h2 (n+5) (n+3) (n+4) .ellipsis:=B2 _ _ (nz (by omega)) Z1
 have ne:e≠n+5:=λ q=>by subst q;rw[Z2]at hoe;cases hoe;simp at hce
 exact fb Z2 (by simp) λ h3 _ b3=>hE h3 e (λ c o c1 c3 q=>b3.extBut _ _ c1 (B2 _ _ c3 (B1 _ _ c1 q))) ⟨oe,b3.extBut _ _ ne hoe,hce⟩
theorem Yy{n l1 l2 l3 k:Nat}{xs ys us:Array ao}{x y u a b c:ao}{Q:Option ao->au->Prop}(g1:l1<n)(g2:l2<n)(g3:l3<n)
  (Z0:gN s.heap (n+5) (n+3) (n+4) .none)(I0:G8 s.heap (n+3) (.ref n) (.ref (n+1)) (.ref (n+2)))(O0:G8 s.heap (n+4) a b c)
  (w1:s.heap.IsListIter n l1 k)(w2:s.heap.IsListIter (n+1) l2 k)(w3:s.heap.IsListIter (n+2) l3 k)(v1:s.heap.IsList l1 xs)(v2:s.heap.IsList l2 ys)(v3:s.heap.IsList l3 us)(e1:xs[k]? =some x)(e2:ys[k]? =some y)(e3:us[k]? =some u)
  (hQ:∀h',gN h' (n+5) (n+3) (n+4) (dM s.heap.objs.size)->G8 h' (n+4) x y u->h'.IsListIter n l1 (k+1)->h'.IsListIter (n+1) l2 (k+1)->h'.IsListIter (n+2) l3 (k+1)->G8 h' s.heap.objs.size x y u->
   (∀c o,c≠n+5->c≠n+4->c≠n->c≠n+1->c≠n+2->s.heap.get? c=some o->h'.get? c=some o)->Q (some (.ref s.heap.objs.size)) { s with heap:=h' }):
  aV (aS prog w) A (jU (.ref (n+5))) Q E s:=by
 have ty:s.TypeIs (.ref (n+5)) "zip":=⟨_,Z0,rfl⟩
 unfold jU
 exact aq (kh (ku (name:=Str.ofString "__next__") ty F.slot_zip_next (mq F.slot_zip_next ty F.entry_zip_next
  (acI g1 g2 g3 Z0 I0 O0 w1 w2 w3 v1 v2 v3 e1 e2 e3 λ h' a1 a2 a3 a4 a5 a6 a7=>aM (hQ h' a1 a2 a3 a4 a5 a6 a7)) (F.args_zip_next_1 _))))
theorem aaA{n l1 k:Nat}{xs:Array ao}{a b c:ao}{Q:Option ao->au->Prop}(hh:A.handled=none)(g1:l1<n)
  (Z0:gN s.heap (n+5) (n+3) (n+4) .none)(I0:G8 s.heap (n+3) (.ref n) (.ref (n+1)) (.ref (n+2)))(O0:G8 s.heap (n+4) a b c)
  (w1:s.heap.IsListIter n l1 k)(v1:s.heap.IsList l1 xs)(e1:xs[k]? =none)
  (hQ:∀h',(∀c o,c≠n+5->c≠n->s.heap.get? c=some o->h'.get? c=some o)->Q none { s with heap:=h' }):aV (aS prog w) A (jU (.ref (n+5))) Q E s:=by
 have ty:s.TypeIs (.ref (n+5)) "zip":=⟨_,Z0,rfl⟩
 unfold jU
 refine aq (kh (ku (name:=Str.ofString "__next__") ty F.slot_zip_next (mq F.slot_zip_next ty F.entry_zip_next (adZ hh g1 Z0 I0 O0 w1 v1 e1 λ h' e hk he=>?_) (F.args_zip_next_1 _))))
 obtain⟨o,ho,hc⟩:=he
 exact aq (wpAny_isInstance (T:="StopIteration") (b:=true) ⟨o,ho,hc⟩ isSubtype_stop (aM (hQ _ hk)))
end
theorem aaB(a b c:ao):checkTypeCall "zip" ⟨[a,b,c],[]⟩=pure ():=by kernel_rfl
theorem aaC(a b c:ao):checkBuiltinCall "zip.__new__" ⟨[.type "zip",a,b,c],[]⟩=pure ():=by kernel_rfl
theorem aaD(a b c d:ao):argsOk "object.__init__" ⟨[a,b,c,d],[]⟩:=by
 unfold argsOk;rw[signature?_of (id:="object.__init__") (n:=['_','_','t','i','n','i','_','_']) (o:=['t','c','e','j','b','o']) (by kernel_rfl) F.owner_object];kernel_rfl
def RR(l:ag):Obj:={ cls:=.type "list_iterator",data:=.fields #[.ref l,.int 0 0] }
def z3a(h:bw)(l1 l2 l3:ag):bw:=((h.push (RR l1)).push (RR l2)).push (RR l3)
def z3b(h:bw)(l1 l2 l3:ag):bw:=(z3a h l1 l2 l3).push { cls:=.type "tuple",data:=.seq #[.ref h.objs.size,.ref (h.push (RR l1)).objs.size,.ref ((h.push (RR l1)).push (RR l2)).objs.size] }
def z3c(h:bw)(l1 l2 l3:ag):bw:=(z3b h l1 l2 l3).push { cls:=.type "tuple",data:=.seq #[.none,.none,.none] }
def z3d(h:bw)(l1 l2 l3:ag):bw:=(z3c h l1 l2 l3).push { cls:=.type "zip",data:=.fields #[.none,.bool false,.bool false,.ref (z3a h l1 l2 l3).objs.size,.ref (z3b h l1 l2 l3).objs.size] }
theorem ad0(l1 l2 l3:ag)(xs ys us:Array ao):
  Meets (jg.«zip.__new__» ⟨[.type "zip",.ref l1,.ref l2,.ref l3],[]⟩) (λ _ R s=>s.heap.IsList l1 xs/\s.heap.IsList l2 ys/\s.heap.IsList l3 us/\
   R (.ok (.ret (.ref (z3c s.heap l1 l2 l3).objs.size))) { s with heap:=z3d s.heap l1 l2 l3 }):=
 .of_wp λ prog w A R s h=>by
  obtain⟨hp,g,d,tk,os⟩:=s;obtain⟨J8,Nn,hl3,h⟩:=h
  have afp:=sub_zip
  have q1:Heap.IsList (Shared.heap ⟨hp,g,d,tk,os⟩) l1 xs:=J8
  have q2:Heap.IsList (Shared.heap ⟨hp.push { cls:=.type "list_iterator",data:=.fields #[.ref l1,.int 0 0] },g,d,tk,os⟩) l2 ys:=Heap.IsList.push Nn _
  have q3:Heap.IsList (Shared.heap ⟨(hp.push { cls:=.type "list_iterator",data:=.fields #[.ref l1,.int 0 0] }).push { cls:=.type "list_iterator",data:=.fields #[.ref l2,.int 0 0] },g,d,tk,os⟩) l3 us:=Heap.IsList.push (Heap.IsList.push hl3 _) _
  wp_walk using fC q1,fC q2,fC q3
  exact⟨_,rfl,h⟩
end L2
namespace L2
section
variable{prog:aJ}{w:aY}{A:bU}{E:ao->au->Prop}{s:au}
theorem acJ{l1 l2 l3:ag}{xs ys us:Array ao}{Q:ao->au->Prop}(v1:s.heap.IsList l1 xs)(v2:s.heap.IsList l2 ys)(v3:s.heap.IsList l3 us)
  (h:∀h',gN h' (s.heap.objs.size+5) (s.heap.objs.size+3) (s.heap.objs.size+4) .none->G8 h' (s.heap.objs.size+3) (.ref s.heap.objs.size) (.ref (s.heap.objs.size+1)) (.ref (s.heap.objs.size+2))->
   G8 h' (s.heap.objs.size+4) .none .none .none->h'.IsListIter s.heap.objs.size l1 0->h'.IsListIter (s.heap.objs.size+1) l2 0->h'.IsListIter (s.heap.objs.size+2) l3 0->
   (∀c o,s.heap.get? c=some o->h'.get? c=some o)->Q (.ref (s.heap.objs.size+5)) { s with heap:=h' }):
  aV (aS prog w) A (call (.type "zip") [.ref l1,.ref l2,.ref l3]) Q E s:=by
 refine callType_new F.called_zip (by decide) (aaB _ _ _) (aaC _ _ _) (λ obj=>aaD obj _ _ _) F.entry_zip_new (ad0 l1 l2 l3 xs ys us) ⟨v1,v2,v3,?_⟩
 have p:∀(h:bw) (o:Obj),(h.push o).objs.size=h.objs.size+1:=λ h o=>Heap.size_push ..
 have a1:(s.heap.push (RR l1)).objs.size=s.heap.objs.size+1:=p _ _
 have a2:((s.heap.push (RR l1)).push (RR l2)).objs.size=s.heap.objs.size+2:=by rw[p,p]
 have a3:(z3a s.heap l1 l2 l3).objs.size=s.heap.objs.size+3:=by unfold z3a;rw[p,p,p]
 have a4:(z3b s.heap l1 l2 l3).objs.size=s.heap.objs.size+4:=by unfold z3b;rw[p,a3]
 have a5:(z3c s.heap l1 l2 l3).objs.size=s.heap.objs.size+5:=by unfold z3c;rw[p,a4]
 have up:∀{h:bw} {c:ag} {o:Obj} (x:Obj),h.get? c=some o->(h.push x).get? c=some o:=λ x e=>Heap.get?_push_of_some _ e
 have q6:(z3d s.heap l1 l2 l3).get? (z3c s.heap l1 l2 l3).objs.size=some _:=Heap.get?_push_size _ rfl
 have q5:(z3d s.heap l1 l2 l3).get? (z3b s.heap l1 l2 l3).objs.size=some _:=up _ (Heap.get?_push_size _ rfl)
 have q4:(z3d s.heap l1 l2 l3).get? (z3a s.heap l1 l2 l3).objs.size=some _:=up _ (up _ (Heap.get?_push_size _ rfl))
 have q3:(z3d s.heap l1 l2 l3).get? ((s.heap.push (RR l1)).push (RR l2)).objs.size=some (RR l3):=up _ (up _ (up _ (Heap.get?_push_size _ rfl)))
 have q2:(z3d s.heap l1 l2 l3).get? (s.heap.push (RR l1)).objs.size=some (RR l2):=up _ (up _ (up _ (up _ (Heap.get?_push_size _ rfl))))
 have q1:(z3d s.heap l1 l2 l3).get? s.heap.objs.size=some (RR l1):=up _ (up _ (up _ (up _ (up _ (Heap.get?_push_size _ rfl)))))
 rw[a3,a4,a5]at q6
 rw[a1,a2,a3]at q4
 rw[a4]at q5
 rw[a2]at q3
 rw[a1]at q2
 show _/\_
 rw[a5]
 exact⟨⟨_,q6,rfl⟩,h _ q6 q4 q5 ⟨_,q1,rfl,rfl⟩ ⟨_,q2,rfl,rfl⟩ ⟨_,q3,rfl,rfl⟩ λ c o e=>up _ (up _ (up _ (up _ (up _ (up _ e)))))⟩
end
def It3(K:ah)(a b c:ag):It:=
 ⟨λ i H=>∃(xs ys us:List V) (x y u:V),nF K H a xs/\nF K H b ys/\nF K H c us/\xs[i]? =some x/\ys[i]? =some y/\us[i]? =some u,
  λ i H v H'=>∃T x y u,v= .ref T/\H T=none/\H'=upd H T (.tup [x,y,u])/\(∀xs,nF K H a xs->xs[i]? =some x)/\(∀ys,nF K H b ys->ys[i]? =some y)/\∀us,nF K H c us->us[i]? =some u,
  λ i H=>∃xs:List V,nF K H a xs/\xs.length<=i⟩
theorem ad1{P:aJ}{w:aY}{K:ah}{elts:List bJ}{kk:Nat}{Bh:Pos}{a b c n:Nat}(ga:a<n)(gb:b<n)(gc:c<n):
  Turn P w K (.Tuple elts kk Bh) (It3 K a b c) [n+5,n+4,n+3,n+2,n+1,n] (n+5) (λ i h=>gN h (n+5) (n+3) (n+4) .none/\G8 h (n+3) (.ref n) (.ref (n+1)) (.ref (n+2))/\(∃x y u,G8 h (n+4) x y u)/\h.IsListIter n a i/\h.IsListIter (n+1) b i/\h.IsListIter (n+2) c i) where
 mem:=by simp
 obj:=λ i h st d hd=>by
  obtain⟨Z,I,⟨x,y,u,O⟩,⟨o1,e1,_,d1⟩,⟨o2,e2,_,d2⟩,⟨o3,e3,_,d3⟩⟩:=st
  have q:d=n+5\/d=n+4\/d=n+3\/d=n+2\/d=n+1\/d=n:=by simpa using hd
  rcases q with rfl|rfl|rfl|rfl|rfl|rfl
  ·exact⟨_,Z,λ v q=>nomatch q⟩
  ·exact⟨_,O,λ v q=>nomatch q⟩
  ·exact⟨_,I,λ v q=>nomatch q⟩
  ·exact⟨o3,e3,λ v q=>by rw[d3]at q;cases q⟩
  ·exact⟨o2,e2,λ v q=>by rw[d2]at q;cases q⟩
  ·exact⟨o1,e1,λ v q=>by rw[d1]at q;cases q⟩
 keep:=λ i h h' st k=>by
  obtain⟨Z,I,⟨x,y,u,O⟩,w1,w2,w3⟩:=st
  exact⟨k _ (by simp) _ Z,k _ (by simp) _ I,⟨x,y,u,k _ (by simp) _ O⟩,w1.at λ o q=>k _ (by simp) o q,w2.at λ o q=>k _ (by simp) o q,w3.at λ o q=>k _ (by simp) o q⟩
 item:=by
  intro X hP hw hK hc i pins s σ H E I hf st hg
  subst hP hw hK
  obtain⟨Z,It,⟨x0,y0,u0,O⟩,w1,w2,w3⟩:=st
  obtain⟨xs,ys,us,x,y,u,qx,qy,qu,hx,hy,hu⟩:=hg
  obtain⟨oo,rv,p,_⟩:=I.list qx
  obtain⟨Ek,rv2,p2,_⟩:=I.list qy
  obtain⟨afc,rv3,p3,_⟩:=I.list qu
  obtain⟨v1,e1,r1⟩:=rv.get hx
  obtain⟨v2,e2,r2⟩:=rv2.get hy
  obtain⟨v3,e3,r3⟩:=rv3.get hu
  have zl:n+5<s.heap.objs.size:=Heap.lt_size Z
  refine Yy ga gb gc Z It O w1 w2 w3 p.isList p2.isList p3.isList (x:=v1) (y:=v2) (u:=v3) (by simpa using e1) (by simpa using e2) (by simpa using e3) λ h' Z' O' w1' w2' w3' hT hk=>?_
  refine⟨_,rfl,j6 (s:={ s with heap:=h' }) Z' λ Wb Z'' sb=>?_⟩
  have LQ:Wb.get? s.heap.objs.size=some { cls:=.type "tuple",data:=.seq #[v1,v2,v3] }:=(sb.2 _ (fZ zl)).trans hT
  have new:pQ X.prog X.w (upd H s.heap.objs.size (.tup [x,y,u])) Wb s.heap.objs.size (.tup [x,y,u]):=
   ⟨by show 3<=ay;decide,[v1,v2,v3],.cons r1 (.cons r2 (.cons r3 .nil)),⟨_,LQ,rfl,_,rfl⟩⟩
  have I1:Inv X pins σ (upd H s.heap.objs.size (.tup [x,y,u])) { s with heap:=Wb }:=
   I.Ep (t':=s.toks) (ch:=[n+5,n+4,n+3,n+2,n+1,n]) (λ d o hb q=>(sb.2 d (λ q'=>hb (by simp[q']))).trans (hk d o (λ q'=>hb (by simp[q'])) (λ q'=>hb (by simp[q'])) (λ q'=>hb (by simp[q'])) (λ q'=>hb (by simp[q'])) (λ q'=>hb (by simp[q'])) q)) hf (ax _) new
  refine⟨.ref s.heap.objs.size,_,I1,rfl,⟨_,x,y,u,rfl,I.oY.fresh (ax _),rfl,λ l hl=>by rw[I.vj hl qx];exact hx,λ l hl=>by rw[I.vj hl qy];exact hy,λ l hl=>by rw[I.vj hl qu];exact hu⟩,⟨Z'',?_,⟨v1,v2,v3,?_⟩,?_,?_,?_⟩,λ d hd=>?_⟩
  ·exact(sb.2 _ (nz (by omega))).trans (hk _ _ (nz (by omega)) (nz (by omega)) (nz (by omega)) (nz (by omega)) (nz (by omega)) It)
  ·exact(sb.2 _ (nz (by omega))).trans O'
  ·exact w1'.at λ o q=>(sb.2 _ (nz (by omega))).trans q
  ·exact w2'.at λ o q=>(sb.2 _ (nz (by omega))).trans q
  ·exact w3'.at λ o q=>(sb.2 _ (nz (by omega))).trans q
  ·have lt:d<s.heap.objs.size:=by
    have q:d=n+5\/d=n+4\/d=n+3\/d=n+2\/d=n+1\/d=n:=by simpa using hd
    have zl:(n:Nat)+5<s.heap.objs.size:=zl
    rcases q with rfl|rfl|rfl|rfl|rfl|rfl
    ·exact zl
    ·exact bH (eu (by decide:4<=5) _) zl
    ·exact bH (eu (by decide:3<=5) _) zl
    ·exact bH (eu (by decide:2<=5) _) zl
    ·exact bH (eu (by decide:1<=5) _) zl
    ·exact bH (cB _ 5) zl
   rw[m5 (bL lt)]
   exact(hf d hd).1
 done:=by
  intro X hP hw hK hc i pins s σ H E I hf st hg
  subst hP hw hK
  obtain⟨Z,It,⟨x0,y0,u0,O⟩,w1,w2,w3⟩:=st
  obtain⟨xs,qx,adz⟩:=hg
  obtain⟨oo,rv,p,_⟩:=I.list qx
  have l1:=rv.length
  exact aaA (I.ok.hd hc) ga Z It O w1 p.isList (by simp;omega) λ h' hk=>⟨rfl,I.SV (t':=s.toks) (ch:=[n+5,n+4,n+3,n+2,n+1,n]) (λ d o hb q=>
   hk d o (λ q'=>hb (by simp[q'])) (λ q'=>hb (by simp[q'])) q) hf⟩
 self:=λ A i s Q E st h=>hU st.1 h
def ad2(K:ah)(ta:TA):TI:=λ σ H R=>ta σ H λ vs H1=>∃a b c xs ys us,vs=[.ref a,.ref b,.ref c]/\nF K H1 a xs/\nF K H1 b ys/\nF K H1 c us/\R (It3 K a b c) H1
theorem aaE{X:Cx}{e e2 e3:bJ}{ta:TA}{p pos Bh:Pos}{elts:List bJ}{kk:Nat}(hg:Gl X "zip")(hm:X.mg "zip"=none)(ha:PA X [e,e2,e3] ta)
  (hs:aN [e,e2,e3] X.env=(false,cu e X.env)::aN [e2,e3] X.env:=by rfl)(vo:(c7 pos (aN [e2,e3] X.env)).any (·.1)=false:=by rfl):
  PI X (.Tuple elts kk Bh) (.Call (.Name "zip" p) [e,e2,e3] [] pos) (ad2 X.K ta):=by
 intro pins s σ H R I h
 refine ly (vh I hg hm Kq (bS (pN (ha pos pins s σ H _ I h) λ us s1 ⟨vs,H1,I1,r1,q1⟩=>?_) hs vo))
 obtain⟨a,b,c,xs,ys,us',ex,qx,qy,qu,q⟩:=q1
 subst ex
 cases r1 with
 |cons r rr=>
  cases rr with
  |cons r' rr=>
   cases rr with
   |cons r'' rr=>
    cases rr
    cases r
    cases r'
    cases r''
    obtain⟨oo,rv,p1,_⟩:=I1.list qx
    obtain⟨Ek,rv2,p2,_⟩:=I1.list qy
    obtain⟨afc,rv3,p3,_⟩:=I1.list qu
    have la:a<s1.heap.objs.size:=p1.lt
    have lb:b<s1.heap.objs.size:=p2.lt
    have lc:c<s1.heap.objs.size:=p3.lt
    refine acJ p1.isList p2.isList p3.isList λ h' Z It O w1 w2 w3 hk=>hU Z ?_
    have I2:Inv X pins σ H1 { s1 with heap:=h' }:=I1.kept (t':=s1.toks) hk
    refine⟨s1.heap.objs.size+5,[s1.heap.objs.size+5,s1.heap.objs.size+4,s1.heap.objs.size+3,s1.heap.objs.size+2,s1.heap.objs.size+1,s1.heap.objs.size],_,_,H1,rfl,I2,ad1 la lb lc,⟨Z,It,⟨_,_,_,O⟩,w1,w2,w3⟩,λ d hd=>?_,q⟩
    have e':d=s1.heap.objs.size+5\/d=s1.heap.objs.size+4\/d=s1.heap.objs.size+3\/d=s1.heap.objs.size+2\/d=s1.heap.objs.size+1\/d=s1.heap.objs.size:=by simpa using hd
    have hle:s1.heap.objs.size<=d:=by
     rcases e' with z|z|z|z|z|z
     ·rw[z];exact cB _ _
     ·rw[z];exact cB _ _
     ·rw[z];exact cB _ _
     ·rw[z];exact cB _ _
     ·rw[z];exact cB _ _
     ·rw[z];exact ax _
    exact I1.Qc hle (I1.oY.fresh hle)
theorem Yz{K:ah}{a b c:ag}{xs ys us:List V}{g:TG}{tb:TS}{D:Ends}{σ:L2.St}{H:Hp}(hxy:xs.length=ys.length)(hxu:xs.length=us.length)(Pv:Nat->L2.St->Hp->Prop)(h0:Pv 0 σ H)(hl:∀i σ H,i<=xs.length->Pv i σ H->nF K H a xs/\nF K H b ys/\nF K H c us)
  (hs:∀i x y u T σ H,xs[i]? =some x->ys[i]? =some y->us[i]? =some u->Pv i σ H->H T=none->g (.ref T) σ (upd H T (.tup [x,y,u])) λ σ2 H2=>tb { D with nx:=Pv (i+1),ct:=Pv (i+1),bk:=D.nx } σ2 H2)(hd:∀σ H,Pv xs.length σ H->D.nx σ H):
  ∃W:Nat->Nat->L2.St->Hp->Prop,(∃m,W 0 m σ H)/\∀i m σ H,W i m σ H->
   ((It3 K a b c).stop i H/\D.nx σ H)\/((It3 K a b c).go i H/\∃N:L2.St->Hp->Prop,(∀σ' H',N σ' H'->∃m',m'<m/\W (i+1) m' σ' H')/\∀x H',(It3 K a b c).Ha i H x H'->g x σ H' λ σ2 H2=>tb { D with nx:=N,ct:=N,bk:=D.nx } σ2 H2):=by
 refine⟨λ i m σ H=>m=xs.length-i/\i<=xs.length/\Pv i σ H,⟨xs.length,by simp,aE _,h0⟩,?_⟩
 rintro i m σ H ⟨rfl,hi,p⟩
 obtain⟨q,q',q''⟩:=hl i σ H hi p
 by_cases rO:i<xs.length
 ·refine .inr ⟨⟨xs,ys,us,xs[i],ys[i],us[i],q,q',q'',by simp[rO],af (by omega),af (by omega)⟩,Pv (i+1),λ σ' H' p'=>⟨xs.length-(i+1),by omega,rfl,rO,p'⟩,λ x H' y=>?_⟩
  obtain⟨T,z,z',z'',rfl,hT,rfl,y,y',y''⟩:=y
  exact hs i z z' z'' T σ H (y xs q) (y' ys q') (y'' us q'') p hT
 ·have e:i=xs.length:=by omega
  subst e
  exact .inl ⟨⟨xs,q,ax _⟩,hd σ H p⟩
end L2
namespace oj
def Ub(s:bR)(x:bF×Nat):List Nat:=(x.1.name.length::x.1.name)++[x.1.weight,x.1.finds,x.1.time,s.done.getD x.2 0]
def clL(s:bR)(n:Nat):List Nat:=(s.field.cells.zipIdx.take n).flatMap (Ub s)
theorem Ap{f:ae}{ws:List Nat}{i w:Nat}{c:bF}(h1:f.cells[i]? =some c)(h2:ws[i]? =some w):(pM f ws).cells[i]? =some { c with weight:=w }:=by
 unfold pM
 rw[aP,h1,h2]
def MR(s:bR)(f0:ae)(ns zs:List Int):List Int:=(eO s f0 .cells).2
theorem VJ(s:bR)(f0:ae)(ns zs:List Int):iL (MR s f0 ns zs)=V.int 0::V.int (s.field.cells.length:Nat)::nY (clL s s.field.cells.length):=by
 show iL (0::(s.field.cells.length:Int)::s.field.cells.zipIdx.flatMap λ x=>jk x.1.name++dU [x.1.weight,x.1.finds,x.1.time,s.done.getD x.2 0])=_
 rw[t9,t9]
 congr 2
 unfold clL
 rw[cq (by rw[dP];exact ax _)]
 unfold iL nY
 rw[gF,gF]
 congr 1
 funext x
 unfold Ub jk dU
 rw[aF,aF,aG,aG,aW];rfl
abbrev RS:List Str:=["search","numbers","row","answer","cell","weight","efforts","name"]
theorem Gy:m_ RS tu (m6 Cc):=qi
theorem Gz(F:pJ K "call_cells" "call_cells" Cc f fd)(S:p7 K CS)(nJ:Rec P w K mg base "Field" CF Ck)(oA:Rec P w K mg base "Cell" CC EI)(nG:oG mg "DONE" 0)(pf:mg "len"=none)(xJ:mg "zip"=none)(r9:rC P w K mg base oH 1 "to_bytes" ["text"] ER):nU P w K mg base oH 2 f fd tu (Bx CS CF CC CT 0 MR):=by
 refine F.ok Gy (λ vs H Q E h=>?_) (λ oX A outer s H vs Q E hr h=>?_)
 ·obtain⟨x,wl,hl,nl,rl,a,s',f0,ws,ns,zs,rfl,_⟩:=h
  rfl
 ·obtain⟨x,wl,hl,nl,rl,a,s',f0,ws,ns,zs,rfl,T,hn,hz,ln,lz,k⟩:=h
  have nd:=Gy.nd
  refine⟨_,(mY (m9 (i:=3) nd rfl (Or.inl rfl) (nQ (mX (nV nG) (mX (nN nO rfl pf aX (mX (nr (pv 0) rfl) mZ)) mZ))))
   (mY (qC PassesOwn.never rfl (aaE rfl xJ (mX (nr (nr (pv 0) rfl) rfl) (mX (nr (pv 0) rfl) (mX (nr (pv 0) rfl) mZ)))) (zG rfl (oK (nB (i:=4) nd rfl (Or.inl rfl)) (oK (nB (i:=5) nd rfl (Or.inl rfl)) (oK (nB (i:=6) nd rfl (Or.inl rfl)) rD)))) (mY (m9 (i:=7) nd rfl (Or.inl rfl) (nA (E:=E0) r9 hr (by decide) nv (mX (nr (pv 4) rfl) mZ)))
   (mY (og (qU aH bc a_ pG (pv 3) (mX (nN nO rfl pf aX (mX (pv 7) mZ)) mZ)))
   (mY (og (qU aH cT cS vb (pv 3) (mX (pv 7) mZ)))
   (m7 (og (qU aH cT cS vb (pv 3) (mX (nQ (mX (pv 5) (mX (nr (pv 4) rfl) (mX (nr (pv 4) rfl) (mX (pv 6) mZ))))) mZ))))))))
   (m7 (nq (pv 3))))),?_⟩
  obtain⟨dx,hx⟩:=T.se.1
  rw[VJ]at k
  have wC:=T.wC
  obtain⟨df,lc,lt,as,bs,f1,f2,f3,f4,f5⟩:=T.field
  have GV:=T.se.2.1
  have DG:=T.se.2.2
  refine⟨_,rfl,x,CS,dx,_,_,rfl,hx,S.cl,S.n3,rfl,hl,_,rfl,.inl (nF.of DG),(by show 2<=ay;decide),λ an han=>?_⟩
  have s1:m8 H (upd H an (.lst [V.int 0,V.int ((nY s'.done).length:Nat)])):=m8.new han
  refine⟨_,rfl,x,CS,dx,_,_,rfl,s1 _ _ hx,S.cl,S.n1,rfl,a,CF,df,_,_,rfl,s1 _ _ f1,nJ.cl,nJ.na "cells" (by simp),rfl,_,rfl,x,CS,dx,_,_,rfl,s1 _ _ hx,S.cl,S.n2,rfl,_,rfl,x,CS,dx,_,_,rfl,s1 _ _ hx,S.cl,S.n3,rfl,lc,wl,hl,_,_,_,rfl,nF.of (s1 _ _ f2),nF.of (s1 _ _ GV),nF.of (s1 _ _ DG),?_⟩
  refine Yz (K:=K) (a:=lc) (b:=wl) (c:=hl) (xs:=as.map V.ref) (ys:=nY ws) (us:=nY s'.done) (by rw[aa,nj,f3.1,T.lw]) (by rw[aa,nj,f3.1,T.ld]) (λ i σ H'=>∃(v4 v5 v6 v7:Option V),σ=[some (.ref x),some (.ref nl),some (.ref rl),some (.ref an),v4,v5,v6,v7]/\i<=f0.cells.length/\m8 H H'/\H' an=some (.lst (V.int 0::V.int (s'.field.cells.length:Nat)::nY (clL s' i)))/\(clL s' i).length<=13*i)
   ⟨none,none,none,none,rfl,aE _,s1,by rw[m4,nj,T.dl];rfl,ax _⟩ (λ i σ H' _ ⟨_,_,_,_,_,_,sm,_⟩=>⟨nF.of (sm _ _ f2),nF.of (sm _ _ GV),nF.of (sm _ _ DG)⟩) ?_ ?_
  ·rintro i y z u TT σ H' hy Wa hu ⟨v4,v5,v6,v7,rfl,hi,sm,SW,hlen⟩ Vk
   obtain⟨wi,q2,rfl⟩:=ow Wa
   obtain⟨di,q3,rfl⟩:=ow hu
   rw[ak]at hy
   cases q1:as[i]? with
   |none=>rw[q1]at hy;cases hy
   |some ai=>
    rw[q1]at hy;cases hy
    have WE:i<f0.cells.length:=by rw[<-f3.1];exact(List.getElem?_eq_some_iff.mp q1).1
    have ec:f0.cells[i]? =some f0.cells[i]:=af WE
    obtain⟨dc,hc⟩:=f3.2 i ai _ q1 ec
    have nm8:=T.nm _ (cp WE)
    have es:s'.field.cells.zipIdx[i]? =some ({ f0.cells[i]with weight:=wi },i):=by
     rw[bQ,T.fe,Ap ec q2];show some (_,0+i)=_;rw[cW]
    have ed:s'.done.getD i 0=di:=by rw[aB,q3];rfl
    have ecl:clL s' (i+1)=clL s' i++((f0.cells[i].name.length::f0.cells[i].name)++[wi,f0.cells[i].finds,f0.cells[i].time,di]):=by
     unfold clL
     rw[bZ,es,ee]
     show _++(Ub s' _++[])=_
     rw[bD]
     unfold Ub
     rw[ed]
    generalize hci:f0.cells[i]=c0 at *
    have sT:m8 H' (upd H' TT (.tup [.ref ai,.int (wi:Nat),.int (di:Nat)])):=m8.new Vk
    have sH:=sm.trans sT
    refine⟨TT,_,rfl,Bj.of m4,rfl,_,_,rfl,_,_,rfl,_,_,rfl,rfl,?_⟩
    refine⟨_,rfl,ai,CC,dc,_,_,rfl,sH _ _ hc,oA.cl,oA.na "name" (by simp),rfl,c0.name,rfl,by omega,λ H3 nb s3 hnb ad3=>?_⟩
    have sH3:=sH.trans s3
    have ha3:=s3 _ _ (sT _ _ SW)
    refine⟨_,rfl,.inl ⟨rfl,_,nF.of ha3⟩,_,rfl,nb,_,rfl,.inl (nF.of ad3),an,_,_,rfl,rfl,ha3,(by rw[aD,aD,nj,aA];omega),?_⟩
    generalize U9:upd H3 an _=H4
    have s4:m8 H H4:=by rw[<-U9];exact sH3.put han
    have nnb:nb≠an:=λ q=>by rw[q,sT _ _ SW]at hnb;cases hnb
    have ha4:H4 an=some (.lst (V.int 0::V.int (s'.field.cells.length:Nat)::nY (clL s' i++[c0.name.length]))):=by
     rw[<-U9,m4,nj];unfold nY;rw[aF];rfl
    have afd:H4 nb=some (.lst (nY c0.name)):=by rw[<-U9,m5 nnb];exact ad3
    refine⟨_,rfl,.inl ⟨rfl,_,nF.of ha4⟩,_,rfl,an,nb,_,_,rfl,rfl,ha4,afd,(by rw[aD,aD,nj,nj,aw,aA];show _+1+1+1+ _<=_;omega),?_⟩
    generalize hH5:upd H4 an _=H5
    have s5:m8 H H5:=by rw[<-hH5];exact s4.put han
    have ha5:H5 an=some (.lst (V.int 0::V.int (s'.field.cells.length:Nat)::nY (clL s' i++(c0.name.length::c0.name)))):=by
     rw[<-hH5,m4];unfold nY;rw[aF,aF,aG];simp
    refine⟨_,rfl,.inl ⟨rfl,_,nF.of ha5⟩,_,rfl,_,rfl,ai,CC,dc,_,_,rfl,s5 _ _ hc,oA.cl,oA.na "finds" (by simp),rfl,_,rfl,ai,CC,dc,_,_,rfl,s5 _ _ hc,oA.cl,oA.na "time" (by simp),rfl,_,rfl,(by show 4<=ay;decide),λ q4 hq4=>?_⟩
    have s6:m8 H5 (upd H5 q4 (.lst [V.int (wi:Nat),V.int (c0.finds:Nat),V.int (c0.time:Nat),V.int (di:Nat)])):=m8.new hq4
    refine⟨an,q4,_,_,rfl,rfl,s6 _ _ ha5,m4,(by rw[aD,aD,nj,aw,aD,aA];show _+1+1+4<=_;omega),?_⟩
    refine⟨_,_,_,_,rfl,WE,(s5.trans s6).put han,?_,?_⟩
    ·rw[m4,ecl,<-bB]
     unfold nY
     rw[aF (l₂:=[wi,c0.finds,c0.time,di])];rfl
    ·rw[ecl,aw,aw,aD]
     show _+(_+1+4)<=_
     omega
  ·rintro σ H' ⟨v4,v5,v6,v7,rfl,hi,sm,SW,hlen⟩
   refine⟨_,rfl,k H' an sm han ?_⟩
   rw[SW,aa,f3.1,T.len]
def RT(ws:List Nat)(a b:Nat)(l:List Nat):List Nat:=ws.zipIdx.map λ x=>x.1*(if l.contains x.2=true then a else b)
theorem YA{ws:List Nat}{a b:Nat}{l:List Nat}{i w:Nat}(h:ws[i]? =some w):(RT ws a b l)[i]? =some (w*(if l.contains i=true then a else b)):=by
 unfold RT
 rw[ak,bQ,h];simp
theorem DZ(ws:List Nat)(a b:Nat)(l:List Nat):(RT ws a b l).length=ws.length:=by unfold RT;rw[aa,dP]
theorem RU{f:ae}{ws:List Nat}(hl:ws.length=f.cells.length)(a b:Nat)(l:List Nat):l_ (pM f ws) a b l=pM f (RT ws a b l):=by
 have e:(pM f ws).cells.zipIdx.map (λ x=>({ x.1 with weight:=x.1.weight*(if l.contains x.2=true then a else b) }:bF))=(pM f (RT ws a b l)).cells:=by
  apply bO
  intro i
  rw[ak,bQ]
  by_cases hi:i<f.cells.length
  ·have e1:ws[i]? =some (ws[i]'(by omega)):=af _
   have e0:f.cells[i]? =some f.cells[i]:=af hi
   rw[Ap e0 e1,Ap e0 (YA e1)]
   show some _=some _
   simp
  ·rw[aI (show(pM f ws).cells.length<=i by rw[qO hl];omega),aI (show(pM f (RT ws a b l)).cells.length<=i by rw[qO (by rw[DZ];exact hl)];omega)];rfl
 exact congrArg (λ c=>(⟨f.parts,c,f.teams⟩:ae)) e
theorem Ph{f:ae}{ws:List Nat}(hl:ws.length=f.cells.length):((pM f ws).cells.any λ c=>decide (1000000000000<c.weight))=ws.any λ n=>decide (1000000000000<n):=by
 rw[du,dI,dI]
 constructor
 ·rintro⟨c,hc,h⟩
  obtain⟨_,_,_,_,z⟩:=Ba hc
  exact⟨_,z,h⟩
 ·rintro⟨n,hn,h⟩
  obtain⟨i,hi,e⟩:=cw hn
  have e1:ws[i]? =some n:=by rw[af hi,e]
  exact⟨_,aC (Ap (af (show i<f.cells.length by omega)) e1),h⟩
def Bd(s:bR)(f0:ae)(ns zs:List Int):bR×List Int:=eO s f0 (.evidence (ns.getD 0 0) (ns.getD 1 0) zs)
theorem MT(s:bR)(f0:ae)(ns zs:List Int):Bd s f0 ns zs=if(bI (ns.getD 0 0) 0 1000 && (bI (ns.getD 1 0) 0 1000 && zs.all (eR s)))=false then(s,[-1])else if((l_ s.field (ns.getD 0 0).toNat (ns.getD 1 0).toNat (bV zs)).cells.any λ c=>decide (1000000000000<c.weight))=true then(s,[-3])else({ s with field:=l_ s.field (ns.getD 0 0).toNat (ns.getD 1 0).toNat (bV zs) },[0]):=rfl
abbrev xf:List Str:=["search","numbers","cells","changed","cell","weight","times"]
theorem Aq:m_ xf ["search","numbers","cells"] (m6 rP):=qi
theorem Ar(F:pJ K "call_evidence" "call_evidence" rP f fd)(S:p7 K CS)(zB:mg "all"=none)(uV:oG mg "MOST_TIMES" 1000)(nI:oG mg "NOT_AS_TOLD" (-1))(pI:aax P w K mg base CS)(qm:mg "enumerate"=none)(OM:mg "max"=none)(rb:oG mg "GREATEST_WEIGHT" 1000000000000)(pB:oG mg "TOO_MANY" (-3))(nG:oG mg "DONE" 0):nU P w K mg base oH 2 f fd ["search","numbers","cells"] (Zk CS CF CC CT 2 Bd):=by
 refine F.ok Aq (λ vs H Q E h=>?_) (λ oX A outer s H vs Q E hr h=>?_)
 ·obtain⟨x,wl,hl,nl,rl,a,s',f0,ws,ns,zs,rfl,_⟩:=h
  rfl
 ·obtain⟨x,wl,hl,nl,rl,a,s',f0,ws,ns,zs,rfl,told,T,hn,hz,ln,lz,k⟩:=h
  have nd:=Aq.nd
  have nM:=S.cl
  refine⟨_,(mY (pk (vi (tH (nN (BH rfl) rfl zB iP (mX (qw (own:=[("times",6)]) rfl nd (oO (pv 1)) (by exact pD.of (N:=xf) (sc:=m6 rP) (by decide +kernel)) (λ _ _ _ _ _=>by exact(nB (i:=6) nd rfl (Or.inl rfl))) (λ _ _ _ _ _=>by exact oS) (λ _ _ _ _ _=>by exact(vk p_ p_ nP (pv 6) (nV uV)))) mZ)))) (m7 (nq (nQ (mX (nV nI) mZ)))) n9)
   (mY (pk (vi (tH (nN (BH rfl) rfl zB iP (mX (qw (own:=[("cell",4)]) rfl nd (oO (pv 2)) (by exact pD.of (N:=xf) (sc:=m6 rP) (by decide +kernel)) (λ _ _ _ _ _=>by exact(nB (i:=4) nd rfl (Or.inl rfl))) (λ _ _ _ _ _=>by exact oS) (λ _ _ _ _ _=>by exact(pR (E:=E0) pI nM hr (by decide) nv (pv 0) (mX (pv 4) mZ)))) mZ)))) (m7 (nq (nQ (mX (nV nI) mZ)))) n9)
   (mY (m9 (i:=3) nd rfl (Or.inl rfl) (nQ mZ))
   (mY (qC PassesOwn.never rfl (C6 rfl qm (mX (nr (pv 0) rfl) mZ)) (zG rfl (oK (nB (i:=4) nd rfl (Or.inl rfl)) (oK (nB (i:=5) nd rfl (Or.inl rfl)) rD))) (m7 (og (qU aH bc a_ pG (pv 3) (mX (om wR (pv 5) (Nz (ot AS (pv 4) (pv 2) (by with_unfolding_all rfl)) (pd oh (pv 1) nP (λ _ _=>rfl)) (pd oh (pv 1) nP (λ _ _=>rfl)))) mZ)))))
   (mY (pk (ot Bk (nN (Qn rfl) rfl OM lx (mX (pv 3) mZ)) (nV rb) (oM _)) (m7 (nq (nQ (mX (nV pB) mZ)))) n9)
   (mY (pV (pv 0) (pv 3) rfl)
   (m7 (nq (nQ (mX (nV nG) mZ)))))))))),?_⟩
  obtain⟨dx,hx⟩:=T.se.1
  rw[MT]at k
  have wC:=T.wC
  have st:DX CS CF CC CT s' H x wl hl:=.inr ⟨f0,ws,a,told,T⟩
  obtain⟨h0,h1⟩:=RP ln
  have ens:ns.all (λ z=>bI z 0 1000)=(bI (ns.getD 0 0) 0 1000 && bI (ns.getD 1 0) 0 1000):=by
   match ns,ln with
   |[p,q],_=>show(bI p 0 1000 && (bI q 0 1000 && true))=_;rw[Bool.and_true];rfl
  generalize ns.getD 0 0=pa at k h0 ens
  generalize ns.getD 1 0=pb at k h1 ens
  rw[<-Bool.and_assoc,<-ens]at k
  refine⟨_,rfl,nl,rfl,⟨_,nF.of hn⟩,?_⟩
  refine oZ (oU (K:=K) (xs:=iL ns) (nF.of hn)) (ns.map λ z=>V.bl (bI z 0 1000)) (by rw[pX,aa]) (by rw[pX,ln,aA];decide) (λ j x y H3 R3 N3 hy pH hF kk=>?_) (λ D1 H1 hD1 s1 afe=>?_)
  ·obtain⟨z,q1,rfl⟩:=EW hF
   rw[ak,q1]at hy
   cases hy
   exact⟨rfl,sE (uf gc gv gc (kk H3 (m8.refl _)))⟩
  refine⟨D1,ns.map λ z=>bI z 0 1000,rfl,nF.of (by rw[afe,aW];rfl),?_⟩
  rw[cH,show ns.all (id ∘ λ z=>bI z 0 1000)=ns.all (λ z=>bI z 0 1000)from rfl]
  refine⟨_,rfl,?_⟩
  cases ha:ns.all (λ z=>bI z 0 1000)with
  |false=>
   rw[ha,ik,if_pos rfl]at k
   exact tq ⟨(by show 1<=ay;decide),o_ (z_.ret (k.pure st)) s1 rfl⟩
  |true=>
  rw[ha,fF]at k
  refine rK ⟨_,rfl,rl,rfl,⟨_,nF.of (s1 _ _ hz)⟩,?_⟩
  refine oZ (oU (K:=K) (xs:=iL zs) (nF.of (s1 _ _ hz))) (zs.map λ z=>V.bl (eR s' z)) (by rw[pX,aa]) (by rw[pX,aA];omega) (λ j x y H3 R3 N3 hy pH hF kk=>?_) (λ D2 H2 hD2 s2 aff=>?_)
  ·obtain⟨z,q1,rfl⟩:=EW hF
   rw[ak,q1]at hy
   cases hy
   exact⟨rfl,sE ⟨_,rfl,_,dx,_,rfl,pH _ _ (s1 _ _ hx),rfl,_,rfl,r_ ((T.same (s1.trans pH)).DQ (kk H3 (m8.refl _)))⟩⟩
  have vE:=s1.trans s2
  refine⟨D2,zs.map (eR s'),rfl,nF.of (by rw[aff,aW];rfl),?_⟩
  rw[cH,show zs.all (id ∘ eR s')=zs.all (eR s')from rfl]
  refine⟨_,rfl,?_⟩
  cases hc:zs.all (eR s')with
  |false=>
   rw[hc,if_pos rfl]at k
   exact tq ⟨(by show 1<=ay;decide),o_ (z_.ret (k.pure st)) vE rfl⟩
  |true=>
  rw[hc,if_neg (by simp),T.fe,RU T.lw,Ph (by rw[DZ];exact T.lw)]at k
  obtain⟨r1,r2,r3⟩:=Jl hc
  rw[ens,bj]at ha
  obtain⟨i1,i2⟩:=pz.mp ha.1
  obtain⟨i3,i4⟩:=pz.mp ha.2
  obtain⟨an,rfl⟩:∃m:Nat,pa=(m:Int):=⟨pa.toNat,by omega⟩
  obtain⟨bn,rfl⟩:∃m:Nat,pb=(m:Int):=⟨pb.toNat,by omega⟩
  rw[show((an:Int)).toNat=an from rfl,show((bn:Int)).toNat=bn from rfl]at k
  refine rK ⟨aE _,λ ch PZ=>?_⟩
  have MU:=none_of vE PZ
  have s3:=vE.put (o:=.lst []) MU
  refine⟨_,rfl,x,CS,dx,_,_,rfl,s3 _ _ hx,S.cl,S.n2,rfl,wl,_,rfl,nF.of (s3 _ _ T.se.2.1),Dr (K:=K) (a:=wl) (xs:=nY ws) (λ i σ H'=>∃(v4 v5:Option V),σ=[some (.ref x),some (.ref nl),some (.ref rl),some (.ref ch),v4,v5,none]/\i<=ws.length/\m8 H H'/\H' ch=some (.lst (nY ((RT ws an bn (bV zs)).take i))))
   ⟨none,none,rfl,aE _,s3,m4⟩ (λ i σ H' _ ⟨_,_,_,_,sm,_⟩=>nF.of (sm _ _ T.se.2.1)) ?_ ?_⟩
  ·rintro i y TT σ H' hy ⟨v4,v5,rfl,hi,sm,hcH⟩ Vk
   obtain⟨wi,q1,rfl⟩:=ow hy
   have WE:i<ws.length:=(List.getElem?_eq_some_iff.mp q1).1
   have Zj:=T.Zj wi (aC q1)
   have sT:m8 H' (upd H' TT (.tup [.int (i:Nat),.int (wi:Nat)])):=m8.new Vk
   have sH:=sm.trans sT
   have hc2:=sT _ _ hcH
   have lt:((RT ws an bn (bV zs)).take i).length<=16:=by rw[bW,DZ,T.lw];omega
   have fin:∀v:Nat,v=(if(bV zs).contains i=true then an else bn)->(nY ((RT ws an bn (bV zs)).take i))++[V.int ((wi:Int)*(v:Int))]=nY ((RT ws an bn (bV zs)).take (i+1)):=λ v hv=>by
    rw[bZ,YA q1,<-hv]
    unfold nY
    rw[aF]
    show _=_++[V.int ((wi*v:Nat):Int)]
    rw[Int.natCast_mul]
   refine⟨TT,_,rfl,Bj.of m4,rfl,_,_,rfl,_,_,rfl,rfl,?_⟩
   refine⟨_,rfl,.inl ⟨rfl,_,nF.of hc2⟩,_,rfl,_,rfl,_,rfl,rl,_,rfl,.inl (nF.of (by rw[sH _ _ hz,r1])),rfl,(by rw[cH];exact List.all_eq_true.mpr λ _ _=>rfl),_,rfl,?_⟩
   rw[show(if false=true then !GS (.int (i:Nat)) (nY (bV zs))else GS (.int (i:Nat)) (nY (bV zs)))=(bV zs).contains i from Dn i (bV zs)]
   refine qa (λ hm=>?_) λ hm=>?_
   ·have e:=fin an (by rw[if_pos hm])
    refine⟨_,rfl,nl,_,_,_,rfl,rfl,nF.of (sH _ _ hn),at_of (j:=0) rfl h0,_,_,rfl,rfl,K2 Zj _,ch,_,_,rfl,rfl,hc2,(by rw[nj,aA];omega),?_⟩
    exact⟨_,_,rfl,WE,sH.put MU,by rw[m4];exact congrArg (λ z=>some (HO.lst z)) e⟩
   ·have e:=fin bn (by rw[if_neg hm])
    refine⟨_,rfl,nl,_,_,_,rfl,rfl,nF.of (sH _ _ hn),at_of (j:=1) rfl h1,_,_,rfl,rfl,K2 Zj _,ch,_,_,rfl,rfl,hc2,(by rw[nj,aA];omega),?_⟩
    exact⟨_,_,rfl,WE,sH.put MU,by rw[m4];exact congrArg (λ z=>some (HO.lst z)) e⟩
  ·rintro σ H' ⟨v4,v5,rfl,hi,sm,hcH⟩
   have et:(RT ws an bn (bV zs)).take (nY ws).length=RT ws an bn (bV zs):=cq (by rw[nj,DZ];exact ax _)
   rw[et]at hcH
   have lw':(RT ws an bn (bV zs)).length=f0.cells.length:=by rw[DZ,T.lw]
   generalize hW:RT ws an bn (bV zs)=W at *
   have neW:W≠[]:=λ q=>by
    rw[q]at lw'
    exact T.ok.ne (List.length_eq_zero_iff.mp lw'.symm)
   refine⟨_,rfl,ch,_,rfl,My hcH,?_,λ m hm1 hm2=>?_⟩
   ·rw[aa];exact b_ λ z=>neW (List.length_eq_zero_iff.mp z)
   have em:=IK hm1 hm2
   subst em
   refine⟨_,_,rfl,rfl,_,rfl,qa (λ hg=>?_) λ hg=>?_⟩
   ·have hg:(1000000000000:Int)<((vK W:Nat):Int):=of_decide_eq_true hg
    have:(W.any λ n=>decide (1000000000000<n))=true:=List.any_eq_true.mpr ⟨_,DJ W neW,decide_eq_true (by omega)⟩
    rw[this,if_pos rfl]at k
    exact⟨(by show 1<=ay;decide),o_ (z_.ret (k.pure st)) sm rfl⟩
   ·have hg:¬ (1000000000000:Int)<((vK W:Nat):Int):=λ q=>hg (decide_eq_true q)
    have Zj:∀n∈W,n<=1000000000000:=λ n hn=>by have:=Mx W n hn;omega
    have:(W.any λ n=>decide (1000000000000<n))=false:=by
     rw[iT]
     intro n hn q
     have:=of_decide_eq_true q
     have:=Zj n hn
     omega
    rw[this,if_neg (by simp)]at k
    have hx':=sm _ _ hx
    refine⟨_,rfl,_,rfl,x,CS,dx,_,rfl,hx',S.cl,S.n2,(by show 3<1000;decide),?_⟩
    generalize JO:upd H' x _=H2
    have x2:H2 x=some (.ins CS dx (J1.zip [.ref a,.ref ch,.ref hl])):=by rw[<-JO,m4];rfl
    have k2:∀b o,b≠x->H' b=some o->H2 b=some o:=λ b o n e=>by rw[<-JO,m5 n];exact e
    have nhx:hl≠x:=λ q=>by have:=T.se.2.2;rw[q,hx]at this;cases this
    have ncx:ch≠x:=λ q=>by rw[q,hx]at MU;cases MU
    have nch:ch≠hl:=λ q=>by rw[q,T.se.2.2]at MU;cases MU
    obtain⟨H0,g1,g2,g3,g4,g5,g6⟩:=T.fa
    have T2:vg CS CF CC CT { s' with field:=pM f0 W } f0 W a H2 x ch hl:=
     ⟨⟨⟨dx,x2⟩,k2 _ _ ncx hcH,k2 _ _ nhx (sm _ _ T.se.2.2)⟩,nch,⟨H0,g1,λ b o e=>k2 b o (λ q=>by rw[q,g3]at e;cases e) (sm _ _ (g2 b o e)),g3,none_of g2 MU,g5,g6⟩,T.ok,T.nm,rfl,lw',T.ld,T.tE,Zj⟩
    refine⟨(by show 1<=ay;decide),λ p hp=>?_⟩
    have n3:NE H2 (upd H2 p (.lst [V.int 0])):=NE.of_same (m8.new hp)
    have npx:p≠x:=λ q=>by rw[q,x2]at hp;cases hp
    refine k _ p ch hl (.inr ⟨f0,W,a,told,T2.Vt n3⟩) (.inr (Fr.none MU)) (.inl rfl) (λ b o e n1 n2 n4 z=>n3 _ _ (k2 b o n1 (sm _ _ e)) z) (λ o e=>?_) m4
    rw[k2 p o npx (sm _ _ e)]at hp
    cases hp
def Uc(K:ah)(C CF CC CT:ag):Sp:=λ vs H Q _=>z9 K C CF CC CT vs H Q E0
def J_(x:ag)(H:Hp):Hp:=λ b=>if b=x then none else match H b with
 |some (.ext _)=>none
 |o=>o
theorem Be{x b:ag}{H:Hp}{o:HO}(h:H b=some o)(n:b≠x)(e:∀φ,o≠ .ext φ):J_ x H b=some o:=by
 unfold J_
 rw[if_neg n,h]
 cases o with
 |ext φ=>exact absurd rfl (e φ)
 |_=>rfl
theorem Jv{x b:ag}{H:Hp}{o:HO}(h:J_ x H b=some o):H b=some o/\b≠x/\∀φ,o≠ .ext φ:=by
 unfold J_ at h
 by_cases n:b=x
 ·rw[if_pos n]at h;cases h
 ·rw[if_neg n]at h
  cases q:H b with
  |none=>rw[q]at h;cases h
  |some u=>
   rw[q]at h
   cases u with
   |ext φ=>cases h
   |_=>cases h;exact⟨rfl,n,λ φ z=>by cases z⟩
theorem Lp{x b:ag}{H:Hp}(h:H b=none):J_ x H b=none:=by
 cases q:J_ x H b with
 |none=>rfl
 |some o=>rw[(Jv q).1]at h;cases h
theorem RV{CS CF CC CT:ag}{H:Hp}{a x dx:ag}{fs:List (Str×V)}{f:ae}(h:rG CF CC CT H a f)(hx:H x=some (.ins CS dx fs))(n1:CS≠CF)(n2:CS≠CC)(n3:CS≠CT):rG CF CC CT (J_ x H) a f:=by
 obtain⟨df,lc,lt,as,bs,h1,h2,h3,h4,h5⟩:=h
 have ni:∀{b D d:ag} {g:List (Str×V)},H b=some (.ins D d g)->CS≠D->b≠x:=λ e n q=>by
  rw[q,hx]at e
  injection e with e
  injection e with e
  exact n e
 have nl:∀{b:ag} {xs:List V},H b=some (.lst xs)->b≠x:=λ e q=>by rw[q,hx]at e;cases e
 refine⟨df,lc,lt,as,bs,Be h1 (ni h1 n1) (λ φ z=>by cases z),Be h2 (nl h2) (λ φ z=>by cases z),⟨h3.1,λ j b c e1 e2=>?_⟩,Be h4 (nl h4) (λ φ z=>by cases z),⟨h5.1,λ j b t e1 e2=>?_⟩⟩
 ·obtain⟨d,z⟩:=h3.2 j b c e1 e2
  exact⟨d,Be z (ni z n2) (λ φ z=>by cases z)⟩
 ·obtain⟨d,ml,z1,z2,z3⟩:=h5.2 j b t e1 e2
  exact⟨d,ml,Be z1 (ni z1 n3) (λ φ z=>by cases z),Be z2 (nl z2) (λ φ z=>by cases z),z3⟩
theorem RW(f:ae):pM f (f.cells.map (·.weight))=f:=by
 have e:(pM f (f.cells.map (·.weight))).cells=f.cells:=by
  apply bO
  intro i
  by_cases hi:i<f.cells.length
  ·have e0:f.cells[i]? =some f.cells[i]:=af hi
   rw[Ap e0 (by rw[ak,e0];rfl),e0]
  ·rw[aI (show f.cells.length<=i by omega),aI (by rw[qO (by rw[aa])];omega)]
 exact congrArg (λ c=>(⟨f.parts,c,f.teams⟩:ae)) e
theorem MV{K:ah}{H:Hp}:∀(l:List Int),Hl K H (iL l) (l.map PyData.int)
 |[]=>.nil
 |z::l=>.cons (.int z) (MV l)
def YB(s:bR)(zs:List Int):bR×List Int:=bM s (.field zs)
theorem VL(s:bR)(zs:List Int):YB s zs=if dD zs=false then(s,[-1])else match cV (bV zs)with
  | .error b=>(s,[1,(b.kind:Int),(b.place:Int)])
  | .ok f=>({ told:=some f,field:=f,done:=d7 f },0::dU [f.cells.length,f.teams.length]):=rfl
def Ud(CS CF CC CT:ag):Sp:=λ vs H Q _=>∃(x wl hl nl rl:ag) (s:bR) (zs:List Int),vs=[.ref x,.ref nl,.ref rl]/\DX CS CF CC CT s H x wl hl/\H rl=some (.lst (iL zs))/\zs.length<=1600/\KN CS CF CC CT x wl hl H Q (YB s zs)
abbrev RX:List Str:=["search","numbers","text","answer"]
theorem GA:m_ RX ["search","numbers","text"] (m6 BX):=qi
theorem GB(F:pJ K "call_field" "call_field" BX f fd)(S:p7 K CS)(n1:CS≠CF)(n2:CS≠CC)(n3:CS≠CT)(nJ:Rec P w K mg base "Field" CF Ck)(uW:rC P w K mg base oH 9 "call_where" ["search","numbers","text"] (Mj K))(nG:oG mg "DONE" 0)(G9:uo P w K mg base oH 1 CS "begin" ["self","field"] (Mo CS CF CC CT))(qN:rC P w K mg base oH 8 "read_field" ["text"] (Uc K C CF CC CT))(pf:mg "len"=none):nU P w K mg base oH 10 f fd ["search","numbers","text"] (Ud CS CF CC CT):=by
 refine F.ok GA (λ vs H Q E h=>?_) (λ oX A outer s H vs Q E hr h=>?_)
 ·obtain⟨x,wl,hl,nl,rl,s',zs,rfl,_⟩:=h
  rfl
 ·obtain⟨x,wl,hl,nl,rl,s',zs,rfl,st,hz,lz,k⟩:=h
  have nd:=GA.nd
  have nM:=S.cl
  refine⟨_,(mY (m9 (i:=3) nd rfl (Or.inl rfl) (nA (E:=E0) uW hr (by decide) nv (mX (pv 0) (mX (pv 1) (mX (pv 2) mZ)))))
   (mY (pk (ot (abO hr.units) (pv 3) (nQ (mX (nV nG) mZ)) (oM _)) (m7 (nq (pv 3))) n9)
   (mY (og (pR (E:=E0) G9 nM hr (by decide) nv (pv 0) (mX (nA (E:=E0) qN hr (by decide) nv (mX (pv 2) mZ)) mZ)))
   (m7 (nq (nQ (mX (nV nG) (mX (nN nO rfl pf aX (mX (nr (nr (pv 0) rfl) rfl) mZ)) (mX (nN nO rfl pf aX (mX (nr (nr (pv 0) rfl) rfl) mZ)) mZ))))))))),?_⟩
  rw[VL]at k
  refine⟨_,rfl,_,rfl,_,rfl,_,_,rl,zs,rfl,nF.of hz,lz,λ H1 p e1 fp JZ=>?_⟩
  refine⟨_,rfl,(by show 1<=ay;decide),λ l0 hl0=>?_⟩
  have s2:m8 H1 (upd H1 l0 (.lst [V.int 0])):=m8.new hl0
  have e2:NE H (upd H1 l0 (.lst [V.int 0])):=e1.trans (NE.of_same s2)
  refine⟨.list ((qF zs).map PyData.int),.list [.int 0],.lst (nF.of (s2 _ _ JZ)) (MV _),.lst (nF.of m4) (MV [0]),?_,rfl,_,rfl,?_⟩
  ·unfold qF
   cases hi:dD zs with
   |false=>rfl
   |true=>
    rw[if_neg (by simp)]
    cases X6:cV (bV zs)with
    |error b=>rfl
    |ok g=>rfl
  cases hi:dD zs with
  |false=>
   rw[hi,if_pos rfl]at k
   have wa:qF zs=[-1]:=by unfold qF;rw[hi,if_pos rfl]
   rw[wa]at JZ ⊢
   exact tq ⟨_,rfl,k.pure st _ p e2 fp (s2 _ _ JZ)⟩
  |true=>
  rw[hi,if_neg (by simp)]at k
  cases WJ:cV (bV zs)with
  |error b=>
   rw[WJ]at k
   have wa:qF zs=[1,(b.kind:Int),(b.place:Int)]:=by unfold qF;rw[hi,if_neg (by simp),WJ]
   rw[wa]at JZ ⊢
   exact tq ⟨_,rfl,k.pure st _ p e2 fp (s2 _ _ JZ)⟩
  |ok g=>
  rw[WJ]at k
  have wa:qF zs=[0]:=by unfold qF;rw[hi,if_neg (by simp),WJ]
  rw[wa]
  obtain⟨t1,t2⟩:=Fw hi
  have gok:=aad WJ
  have gnm:=QY WJ
  have hx:∃dx v1 v2 v3,H x=some (.ins CS dx (J1.zip [v1,v2,v3])):=by
   rcases st with⟨_,⟨⟨dx,e⟩,_⟩,_⟩|⟨f0,ws,a,_,T⟩
   ·exact⟨dx,_,_,_,e⟩
   ·obtain⟨dx,e⟩:=T.se.1
    exact⟨dx,_,_,_,e⟩
  obtain⟨dx,v1,v2,v3,hx⟩:=hx
  have C9:=e2 _ _ hx (λ φ q=>by cases q)
  have hz2:=e2 _ _ hz (λ φ q=>by cases q)
  refine rK ⟨_,rfl,x,dx,_,rfl,C9,rfl,_,rfl,λ _ _ _ _ _ z=>z,rl,bV zs,rfl,nF.of (by rw[hz2,t1]),by omega,?_⟩
  rw[WJ]
  intro H3 v e3 fa
  have e13:=e2.trans e3
  have hx3:=e13 _ _ hx (λ φ q=>by cases q)
  have xv:x≠v:=λ q=>by
   obtain⟨df,lc,lt,as,bs,h1,_⟩:=fa
   rw[<-q,hx3]at h1
   injection h1 with h1
   injection h1 with h1
   exact n1 h1
  refine⟨x,dx,v,v1,v2,v3,g,rfl,hx3,fa,gok.cells.len,xv,λ H4 Wg GD b4 hw hh ne se=>?_⟩
  have fs:=RV fa hx3 n1 n2 n3
  have sm0:m8 (J_ x H3) H4:=λ b o e=>by
   obtain⟨q1,q2,q3⟩:=Jv e
   exact b4 b o q1 q2 q3
  have T:vg CS CF CC CT { told:=some g,field:=g,done:=d7 g } g (g.cells.map (·.weight)) v H4 x Wg GD:=
   ⟨se,ne,⟨J_ x H3,fs,sm0,by unfold J_;rw[if_pos rfl],Lp hw,Lp hh,λ b φ e=>(Jv e).2.2 φ rfl⟩,gok,gnm,(RW g).symm,by rw[aa],by show(d7 g).length=_;exact Pe g,T7 g,λ n hn=>by
    obtain⟨c,hc,rfl⟩:=List.mem_map.mp hn
    have:=(gok.cells.each c hc).weight
    omega⟩
  obtain⟨dx4,hx4⟩:=T.se.1
  obtain⟨df,lc,lt,as,bs,f1,f2,f3,f4,f5⟩:=T.field
  refine⟨_,rfl,x,CS,dx4,_,_,rfl,hx4,S.cl,S.n1,rfl,v,CF,df,_,_,rfl,f1,nJ.cl,nJ.na "cells" (by simp),rfl,lc,_,rfl,.inl (nF.of f2),?_⟩
  refine⟨_,rfl,x,CS,dx4,_,_,rfl,hx4,S.cl,S.n1,rfl,v,CF,df,_,_,rfl,f1,nJ.cl,nJ.na "teams" (by simp),rfl,lt,_,rfl,.inl (nF.of f4),(by show 3<=ay;decide),λ q hq=>?_⟩
  rw[aa,aa,f3.1,f5.1]at *
  have n5:NE H4 (upd H4 q (.lst [V.int 0,V.int (g.cells.length:Nat),V.int (g.teams.length:Nat)])):=NE.of_same (m8.new hq)
  have fr:∀b,H3 b=none->Fr H b:=λ b hb o e=>by
   apply Classical.byContradiction
   intro z
   have:=e13 b o e λ φ q=>z ⟨φ,q⟩
   rw[this]at hb;cases hb
  refine k _ q Wg GD (.inr ⟨g,_,v,rfl,T.Vt n5⟩) (.inr (fr _ hw)) (.inr (fr _ hh)) (λ b o e m1 _ _ z=>n5 _ _ (b4 b o (e13 b o e z) m1 z) z) (λ o e=>?_) m4
  apply Classical.byContradiction
  intro z
  have z':∀φ,o≠ .ext φ:=λ φ q=>z ⟨φ,q⟩
  have nqx:q≠x:=λ e=>by rw[e,hx4]at hq;cases hq
  have:=b4 q o (e13 q o e z') nqx z'
  rw[this]at hq;cases hq
def MW:List Nat:=[0,0,0,2,2,2,0,0,0,1,1,1,1,0,0,0,0,0,0,0]
def PV:List Nat:=[0,1,5,8,13,14,16]
def sV(i:Nat)(ns zs:List Int):Option de:=match i,ns with
 |0,[]=>some (.field zs)
 |1,[]=>some (.whereIs zs)
 |2,[]=>some .shown
 |3,[a,b]=>some (.vain a b)
 |4,[a,b]=>some (.back a b)
 |5,[a,b]=>some (.evidence a b zs)
 |6,[]=>some .chances
 |7,[]=>some .left_
 |8,[]=>some (.would zs)
 |9,[a]=>some (.best a)
 |10,[a]=>some (.curve a)
 |11,[a]=>some (.price a)
 |12,[a]=>some (.thrift_ a)
 |13,[]=>some (.order zs)
 |14,[]=>some (.takes zs)
 |15,[]=>some .teams
 |16,[]=>some (.can zs)
 |17,[]=>some .cells
 |18,[]=>some .counts
 |19,[]=>some .clear
 |_,_=>none
theorem link{i:Nat}{ns zs:List Int}(hi:i<20)(hn:ns.length=MW.getD i 0):∃vc,sV i ns zs=some vc/\VbmracNeutral.call (eP (((i:Int)::ns)::(if PV.contains i=true then[zs]else[])))=some vc:=by
 match i,hi,ns,hn with
 |0,_,[],_=>exact⟨_,rfl,rfl⟩
 |1,_,[],_=>exact⟨_,rfl,rfl⟩
 |2,_,[],_=>exact⟨_,rfl,rfl⟩
 |3,_,[a,b],_=>exact⟨_,rfl,rfl⟩
 |4,_,[a,b],_=>exact⟨_,rfl,rfl⟩
 |5,_,[a,b],_=>exact⟨_,rfl,rfl⟩
 |6,_,[],_=>exact⟨_,rfl,rfl⟩
 |7,_,[],_=>exact⟨_,rfl,rfl⟩
 |8,_,[],_=>exact⟨_,rfl,rfl⟩
 |9,_,[a],_=>exact⟨_,rfl,rfl⟩
 |10,_,[a],_=>exact⟨_,rfl,rfl⟩
 |11,_,[a],_=>exact⟨_,rfl,rfl⟩
 |12,_,[a],_=>exact⟨_,rfl,rfl⟩
 |13,_,[],_=>exact⟨_,rfl,rfl⟩
 |14,_,[],_=>exact⟨_,rfl,rfl⟩
 |15,_,[],_=>exact⟨_,rfl,rfl⟩
 |16,_,[],_=>exact⟨_,rfl,rfl⟩
 |17,_,[],_=>exact⟨_,rfl,rfl⟩
 |18,_,[],_=>exact⟨_,rfl,rfl⟩
 |19,_,[],_=>exact⟨_,rfl,rfl⟩
 |i+20,h,_,_=>omega
theorem YC{p:Int}{n k:Nat}(h:cC p=some (n,k)):∃i:Nat,p=(i:Int)/\i<20/\n=MW.getD i 0/\k=if PV.contains i=true then 1 else 0:=by
 unfold cC at h
 by_cases h0:p=0
 ·rw[if_pos h0]at h;cases h;exact⟨0,h0,by decide,rfl,rfl⟩
 rw[if_neg h0]at h
 by_cases h1:p=1
 ·rw[if_pos h1]at h;cases h;exact⟨1,h1,by decide,rfl,rfl⟩
 rw[if_neg h1]at h
 by_cases h2:p=2
 ·rw[if_pos h2]at h;cases h;exact⟨2,h2,by decide,rfl,rfl⟩
 rw[if_neg h2]at h
 by_cases h3:p=3
 ·rw[if_pos h3]at h;cases h;exact⟨3,h3,by decide,rfl,rfl⟩
 rw[if_neg h3]at h
 by_cases h4:p=4
 ·rw[if_pos h4]at h;cases h;exact⟨4,h4,by decide,rfl,rfl⟩
 rw[if_neg h4]at h
 by_cases h5:p=5
 ·rw[if_pos h5]at h;cases h;exact⟨5,h5,by decide,rfl,rfl⟩
 rw[if_neg h5]at h
 by_cases h6:p=6
 ·rw[if_pos h6]at h;cases h;exact⟨6,h6,by decide,rfl,rfl⟩
 rw[if_neg h6]at h
 by_cases h7:p=7
 ·rw[if_pos h7]at h;cases h;exact⟨7,h7,by decide,rfl,rfl⟩
 rw[if_neg h7]at h
 by_cases h8:p=8
 ·rw[if_pos h8]at h;cases h;exact⟨8,h8,by decide,rfl,rfl⟩
 rw[if_neg h8]at h
 by_cases h9:p=9
 ·rw[if_pos h9]at h;cases h;exact⟨9,h9,by decide,rfl,rfl⟩
 rw[if_neg h9]at h
 by_cases h10:p=10
 ·rw[if_pos h10]at h;cases h;exact⟨10,h10,by decide,rfl,rfl⟩
 rw[if_neg h10]at h
 by_cases Y_:p=11
 ·rw[if_pos Y_]at h;cases h;exact⟨11,Y_,by decide,rfl,rfl⟩
 rw[if_neg Y_]at h
 by_cases h12:p=12
 ·rw[if_pos h12]at h;cases h;exact⟨12,h12,by decide,rfl,rfl⟩
 rw[if_neg h12]at h
 by_cases Zb:p=13
 ·rw[if_pos Zb]at h;cases h;exact⟨13,Zb,by decide,rfl,rfl⟩
 rw[if_neg Zb]at h
 by_cases h14:p=14
 ·rw[if_pos h14]at h;cases h;exact⟨14,h14,by decide,rfl,rfl⟩
 rw[if_neg h14]at h
 by_cases Zd:p=15
 ·rw[if_pos Zd]at h;cases h;exact⟨15,Zd,by decide,rfl,rfl⟩
 rw[if_neg Zd]at h
 by_cases GJ:p=16
 ·rw[if_pos GJ]at h;cases h;exact⟨16,GJ,by decide,rfl,rfl⟩
 rw[if_neg GJ]at h
 by_cases h17:p=17
 ·rw[if_pos h17]at h;cases h;exact⟨17,h17,by decide,rfl,rfl⟩
 rw[if_neg h17]at h
 by_cases h18:p=18
 ·rw[if_pos h18]at h;cases h;exact⟨18,h18,by decide,rfl,rfl⟩
 rw[if_neg h18]at h
 by_cases h19:p=19
 ·rw[if_pos h19]at h;cases h;exact⟨19,h19,by decide,rfl,rfl⟩
 rw[if_neg h19]at h
 cases h
theorem CG{lo hi:Int}{B:Nat}{zs:List Int}(h:PyInside.lists [(lo,hi,0,B)] [zs]=true):zs.length<=B:=by
 have h:(decide (0<=zs.length) && decide (zs.length<=B) && zs.all (PyInside.within lo hi) && true)=true:=h
 rw[bj,bj,bj]at h
 exact of_decide_eq_true h.1.1.2
theorem VM{i:Nat}(hi:i<20)(hw:PV.contains i=true){ns zs:List Int}(h:PyInside.call dz (((i:Int)::ns)::[zs])=true):zs.length<=(if i<2 then 1600 else 70):=by
 have h:(PyInside.each (dz (i:Int)).1 ns && PyInside.lists (dz (i:Int)).2 [zs])=true:=h
 rw[bj]at h
 have h2:=h.2
 match i,hi,hw,h2 with
 |0,_,_,h2=>exact CG h2
 |1,_,_,h2=>exact CG h2
 |5,_,_,h2=>exact CG h2
 |8,_,_,h2=>exact CG h2
 |13,_,_,h2=>exact CG h2
 |14,_,_,h2=>exact CG h2
 |16,_,_,h2=>exact CG h2
 |2,_,hw,_=>cases hw
 |3,_,hw,_=>cases hw
 |4,_,hw,_=>cases hw
 |6,_,hw,_=>cases hw
 |7,_,hw,_=>cases hw
 |9,_,hw,_=>cases hw
 |10,_,hw,_=>cases hw
 |11,_,hw,_=>cases hw
 |12,_,hw,_=>cases hw
 |15,_,hw,_=>cases hw
 |17,_,hw,_=>cases hw
 |18,_,hw,_=>cases hw
 |19,_,hw,_=>cases hw
 |i+20,h,_,_=>omega
theorem parse{p:Int}{r t:List Int}{c:List (List Int)}(h:PyFlat.call cC (p::r)=some (c,t))(hb:PyInside.call dz c=true):
  ∃(i:Nat) (ns zs:List Int) (vc:de),p=(i:Int)/\i<20/\MW.getD i 0<=r.length/\ns=r.take (MW.getD i 0)/\ns.length=MW.getD i 0/\sV i ns zs=some vc/\(∀s,VbmracNeutral.step s (eP c)=bM s vc)/\zs.length<=1600/\(2<=i->zs.length<=70)/\
   ((PV.contains i=false/\zs=[]/\t=r.drop (MW.getD i 0))\/(PV.contains i=true/\∃m r',r.drop (MW.getD i 0)=(m:Int)::r'/\0<=m/\m.toNat<=r'.length/\zs=r'.take m.toNat/\t=r'.drop m.toNat)):=by
 unfold PyFlat.call at h
 dsimp only at h
 cases hs:cC p with
 |none=>rw[hs]at h;cases h
 |some nk=>
  obtain⟨n,k⟩:=nk
  rw[hs]at h
  dsimp only at h
  obtain⟨i,rfl,hi,rfl,rfl⟩:=YC hs
  by_cases hl:r.length<MW.getD i 0
  ·rw[if_pos hl]at h;cases h
  ·rw[if_neg hl]at h
   have ln:(r.take (MW.getD i 0)).length=MW.getD i 0:=by rw[bW];omega
   by_cases hw:PV.contains i=true
   ·rw[if_pos hw]at h
    unfold PyFlat.rows at h
    cases hr:PyFlat.row (r.drop (MW.getD i 0))with
    |none=>rw[hr]at h;cases h
    |some xs=>
     obtain⟨zs,t'⟩:=xs
     rw[hr]at h
     have h:some (((i:Int)::r.take (MW.getD i 0))::[zs],t')=some (c,t):=h
     cases h
     cases hd:r.drop (MW.getD i 0)with
     |nil=>rw[hd]at hr;cases hr
     |cons m r'=>
      rw[hd]at hr
      unfold PyFlat.row at hr
      dsimp only at hr
      by_cases hm:0<=m/\m.toNat<=r'.length
      ·rw[if_pos hm]at hr
       cases hr
       obtain⟨vc,v1,v2⟩:=link (zs:=r'.take m.toNat) hi ln
       rw[if_pos hw]at v2
       have bd:=VM hi hw hb
       refine⟨i,_,r'.take m.toNat,vc,rfl,hi,by omega,rfl,ln,v1,λ s=>?_,?_,λ h2=>?_,.inr ⟨hw,m,r',hd,hm.1,hm.2,rfl,rfl⟩⟩
       ·unfold VbmracNeutral.step;rw[v2]
       ·split at bd <;> omega
       ·rw[if_neg (by omega)]at bd;exact bd
      ·rw[if_neg hm]at hr;cases hr
   ·rw[if_neg hw]at h
    have h:some (((i:Int)::r.take (MW.getD i 0))::[],r.drop (MW.getD i 0))=some (c,t):=h
    cases h
    have hw':PV.contains i=false:=by
     cases q:PV.contains i with
     |false=>rfl
     |true=>exact absurd q hw
    obtain⟨vc,v1,v2⟩:=link (zs:=[]) hi ln
    rw[if_neg hw]at v2
    refine⟨i,_,[],vc,rfl,hi,by omega,rfl,ln,v1,λ s=>?_,aE _,λ _=>aE _,.inl ⟨hw',rfl,rfl⟩⟩
    unfold VbmracNeutral.step;rw[v2]
def acK(K:ah)(CS CF CC CT:ag):Nat->Sp
 |0=>Ud CS CF CC CT
 |1=>Mj K
 |2=>Bx CS CF CC CT 0 Yt
 |3=>Zk CS CF CC CT 2 T_
 |4=>Zk CS CF CC CT 2 Ua
 |5=>Zk CS CF CC CT 2 Bd
 |6=>Bx CS CF CC CT 0 Jq
 |7=>Bx CS CF CC CT 0 Yu
 |8=>Bx CS CF CC CT 0 Ry
 |9=>Bx CS CF CC CT 1 Yk
 |10=>Bx CS CF CC CT 1 RD
 |11=>Bx CS CF CC CT 1 RF
 |12=>Bx CS CF CC CT 1 MM
 |13=>Bx CS CF CC CT 0 RI
 |14=>Bx CS CF CC CT 0 RK
 |15=>Bx CS CF CC CT 0 RL
 |16=>Bx CS CF CC CT 0 aay
 |17=>Bx CS CF CC CT 0 MR
 |18=>Bx CS CF CC CT 0 MN
 |_=>MP CS CF CC CT
def spU(CS CF CC CT:ag)(i:Nat):Sp:=λ vs H Q _=>∃(x wl hl nl rl:ag) (s:bR) (ns zs:List Int) (vc:de),vs=[.ref x,.ref nl,.ref rl]/\DX CS CF CC CT s H x wl hl/\H nl=some (.lst (iL ns))/\H rl=some (.lst (iL zs))/\sV i ns zs=some vc/\zs.length<=1600/\(2<=i->zs.length<=70)/\(s.told=none->i=0\/i=1\/i=19)/\KN CS CF CC CT x wl hl H Q (bM s vc)
theorem Ue{s:bR}{H:Hp}{x wl hl:ag}{i:Nat}(st:DX CS CF CC CT s H x wl hl)(ht:s.told=none->i=0\/i=1\/i=19)(hi:¬ (i=0\/i=1\/i=19)):∃f0 ws a,s.told=some f0/\vg CS CF CC CT s f0 ws a H x wl hl:=by
 rcases st with⟨h1,_⟩|h
 ·exact absurd (ht (by rw[h1];rfl)) hi
 ·exact h
theorem wK{ar:Nat}{g:bR->ae->List Int->List Int->List Int}{i:Nat}{c:List Int->List Int->de}{vs:List V}{H:Hp}{Q:VK}{E:XK}(hi:¬ (i=0\/i=1\/i=19))(h2:2<=i)(hc:∀ns zs vc,sV i ns zs=some vc->ns.length=ar/\vc=c ns zs)
  (hs:∀(s:bR) f0 ns zs,s.told=some f0->bM s (c ns zs)=eO s f0 (c ns zs))(hp:∀s f0 ns zs,(eO s f0 (c ns zs)).1=s)(hg:∀s f0 ns zs,g s f0 ns zs=(eO s f0 (c ns zs)).2)(h:spU CS CF CC CT i vs H Q E):Bx CS CF CC CT ar g vs H Q E:=by
 obtain⟨x,wl,hl,nl,rl,s,ns,zs,vc,rfl,st,hn,hz,uF,l1,l2,ht,k⟩:=h
 obtain⟨f0,ws,a,told,T⟩:=Ue st ht hi
 obtain⟨ln,rfl⟩:=hc ns zs vc uF
 refine⟨x,wl,hl,nl,rl,a,s,f0,ws,ns,zs,rfl,T,hn,hz,ln,l2 h2,?_⟩
 rw[hs s f0 ns zs told]at k
 rw[hg]
 exact z_.ret (k.pure (by rw[hp];exact st))
theorem YD{ar:Nat}{g:bR->ae->List Int->List Int->bR×List Int}{i:Nat}{c:List Int->List Int->de}{vs:List V}{H:Hp}{Q:VK}{E:XK}(hi:¬ (i=0\/i=1\/i=19))(h2:2<=i)(hc:∀ns zs vc,sV i ns zs=some vc->ns.length=ar/\vc=c ns zs)
  (hs:∀(s:bR) f0 ns zs,s.told=some f0->bM s (c ns zs)=g s f0 ns zs)(h:spU CS CF CC CT i vs H Q E):Zk CS CF CC CT ar g vs H Q E:=by
 obtain⟨x,wl,hl,nl,rl,s,ns,zs,vc,rfl,st,hn,hz,uF,l1,l2,ht,k⟩:=h
 obtain⟨f0,ws,a,told,T⟩:=Ue st ht hi
 obtain⟨ln,rfl⟩:=hc ns zs vc uF
 refine⟨x,wl,hl,nl,rl,a,s,f0,ws,ns,zs,rfl,told,T,hn,hz,ln,l2 h2,?_⟩
 rw[hs s f0 ns zs told]at k
 exact k
theorem rf{α β:Type}{c:Prop}[Decidable c]{a b:α×β}{s:α}(h1:a.1=s)(h2:b.1=s):(if c then a else b).1=s:=by
 by_cases h:c
 ·rw[if_pos h];exact h1
 ·rw[if_neg h];exact h2
theorem Pj{i:Nat}(h1:2<=i)(h2:i<19):¬ (i=0\/i=1\/i=19):=by omega
theorem tU{i:Nat}{c:List Int->de}(h:∀(ns zs:List Int),sV i ns zs=match ns with |[]=>some (c zs)|_=>none):∀ns zs vc,sV i ns zs=some vc->ns.length=0/\vc=c zs:=λ ns zs vc e=>by
 rw[h]at e
 cases ns with
 |nil=>cases e;exact⟨rfl,rfl⟩
 |cons a l=>cases e
theorem MX{i:Nat}{c:Int->de}(h:∀(ns zs:List Int),sV i ns zs=match ns with |[a]=>some (c a)|_=>none):∀ns zs vc,sV i ns zs=some vc->ns.length=1/\vc=c (ns.getD 0 0):=λ ns zs vc e=>by
 rw[h]at e
 match ns,e with
 |[a],e=>cases e;exact⟨rfl,rfl⟩
theorem RY{i:Nat}{c:Int->Int->List Int->de}(h:∀(ns zs:List Int),sV i ns zs=match ns with |[a,b]=>some (c a b zs)|_=>none):∀ns zs vc,sV i ns zs=some vc->ns.length=2/\vc=c (ns.getD 0 0) (ns.getD 1 0) zs:=λ ns zs vc e=>by
 rw[h]at e
 match ns,e with
 |[a,b],e=>cases e;exact⟨rfl,rfl⟩
theorem Pk{s:bR}{f0:ae}{c:de}(h:s.told=some f0)(hc:bM s c=match s.told with |none=>(s,[-20])|some f=>eO s f c):bM s c=eO s f0 c:=by rw[hc,h]
theorem uni{vs:List V}{H:Hp}{Q:VK}{E:XK}:∀i,i<20->spU CS CF CC CT i vs H Q E->acK K CS CF CC CT i vs H Q E
 |0,_,⟨x,wl,hl,nl,rl,s,ns,zs,vc,e,st,hn,hz,uF,l1,l2,ht,k⟩=>by
  obtain⟨_,rfl⟩:=tU (i:=0) (c:=λ zs=>.field zs) (λ ns zs=>by cases ns <;> rfl) ns zs vc uF
  exact⟨x,wl,hl,nl,rl,s,zs,e,st,hz,l1,k⟩
 |1,_,⟨x,wl,hl,nl,rl,s,ns,zs,vc,e,st,hn,hz,uF,l1,l2,ht,k⟩=>by
  obtain⟨_,rfl⟩:=tU (i:=1) (c:=λ zs=>.whereIs zs) (λ ns zs=>by cases ns <;> rfl) ns zs vc uF
  have e1:bM s (.whereIs zs)=(s,qF zs):=by
   show(if dD zs=false then(s,[-1])else match cV (bV zs)with | .error b=>(s,[1,(b.kind:Int),(b.place:Int)])| .ok f=>(s,[0]))=_
   unfold qF
   cases dD zs with
   |false=>rfl
   |true=>
    rw[if_neg (by simp),if_neg (by simp)]
    cases cV (bV zs) <;> rfl
  rw[e1]at k
  exact⟨.ref x,.ref nl,rl,zs,e,nF.of hz,l1,k.pure st⟩
 |2,_,h=>wK (c:=λ _ _=>.shown) (Pj (by decide) (by decide)) (by decide) (tU (c:=λ _=>.shown) λ ns zs=>by cases ns <;> rfl) (λ s f0 ns zs t=>Pk t rfl) (λ s f0 ns zs=>rfl) (λ s f0 ns zs=>rfl) h
 |3,_,h=>YD (c:=λ ns _=>.vain (ns.getD 0 0) (ns.getD 1 0)) (Pj (by decide) (by decide)) (by decide) (RY (c:=λ a b _=>.vain a b) λ ns zs=>by rcases ns with _|⟨a,_|⟨b,_|_⟩⟩ <;> rfl) (λ s f0 ns zs t=>Pk t rfl) h
 |4,_,h=>YD (c:=λ ns _=>.back (ns.getD 0 0) (ns.getD 1 0)) (Pj (by decide) (by decide)) (by decide) (RY (c:=λ a b _=>.back a b) λ ns zs=>by rcases ns with _|⟨a,_|⟨b,_|_⟩⟩ <;> rfl) (λ s f0 ns zs t=>Pk t rfl) h
 |5,_,h=>YD (c:=λ ns zs=>.evidence (ns.getD 0 0) (ns.getD 1 0) zs) (Pj (by decide) (by decide)) (by decide) (RY (c:=λ a b zs=>.evidence a b zs) λ ns zs=>by rcases ns with _|⟨a,_|⟨b,_|_⟩⟩ <;> rfl) (λ s f0 ns zs t=>Pk t rfl) h
 |6,_,h=>wK (c:=λ _ _=>.chances) (Pj (by decide) (by decide)) (by decide) (tU (c:=λ _=>.chances) λ ns zs=>by cases ns <;> rfl) (λ s f0 ns zs t=>Pk t rfl) (λ s f0 ns zs=>rf rfl rfl) (λ s f0 ns zs=>rfl) h
 |7,_,h=>wK (c:=λ _ _=>.left_) (Pj (by decide) (by decide)) (by decide) (tU (c:=λ _=>.left_) λ ns zs=>by cases ns <;> rfl) (λ s f0 ns zs t=>Pk t rfl) (λ s f0 ns zs=>rf rfl rfl) (λ s f0 ns zs=>rfl) h
 |8,_,h=>wK (c:=λ _ zs=>.would zs) (Pj (by decide) (by decide)) (by decide) (tU (c:=λ zs=>.would zs) λ ns zs=>by cases ns <;> rfl) (λ s f0 ns zs t=>Pk t rfl) (λ s f0 ns zs=>rf rfl (rf rfl (rf rfl rfl))) (λ s f0 ns zs=>rfl) h
 |9,_,h=>wK (c:=λ ns _=>.best (ns.getD 0 0)) (Pj (by decide) (by decide)) (by decide) (MX (c:=λ a=>.best a) λ ns zs=>by rcases ns with _|⟨a,_|_⟩ <;> rfl) (λ s f0 ns zs t=>Pk t rfl) (λ s f0 ns zs=>rf rfl (rf rfl (rf rfl rfl))) (λ s f0 ns zs=>rfl) h
 |10,_,h=>wK (c:=λ ns _=>.curve (ns.getD 0 0)) (Pj (by decide) (by decide)) (by decide) (MX (c:=λ a=>.curve a) λ ns zs=>by rcases ns with _|⟨a,_|_⟩ <;> rfl) (λ s f0 ns zs t=>Pk t rfl) (λ s f0 ns zs=>rf rfl (rf rfl (rf rfl rfl))) (λ s f0 ns zs=>rfl) h
 |11,_,h=>wK (c:=λ ns _=>.price (ns.getD 0 0)) (Pj (by decide) (by decide)) (by decide) (MX (c:=λ a=>.price a) λ ns zs=>by rcases ns with _|⟨a,_|_⟩ <;> rfl) (λ s f0 ns zs t=>Pk t rfl) (λ s f0 ns zs=>rf rfl (rf rfl (rf rfl rfl))) (λ s f0 ns zs=>rfl) h
 |12,_,h=>wK (c:=λ ns _=>.thrift_ (ns.getD 0 0)) (Pj (by decide) (by decide)) (by decide) (MX (c:=λ a=>.thrift_ a) λ ns zs=>by rcases ns with _|⟨a,_|_⟩ <;> rfl) (λ s f0 ns zs t=>Pk t rfl) (λ s f0 ns zs=>rf rfl (rf rfl rfl)) (λ s f0 ns zs=>rfl) h
 |13,_,h=>wK (c:=λ _ zs=>.order zs) (Pj (by decide) (by decide)) (by decide) (tU (c:=λ zs=>.order zs) λ ns zs=>by cases ns <;> rfl) (λ s f0 ns zs t=>Pk t rfl) (λ s f0 ns zs=>rf rfl (rf rfl (rf rfl rfl))) (λ s f0 ns zs=>rfl) h
 |14,_,h=>wK (c:=λ _ zs=>.takes zs) (Pj (by decide) (by decide)) (by decide) (tU (c:=λ zs=>.takes zs) λ ns zs=>by cases ns <;> rfl) (λ s f0 ns zs t=>Pk t rfl) (λ s f0 ns zs=>rf rfl (rf rfl (rf rfl rfl))) (λ s f0 ns zs=>rfl) h
 |15,_,h=>wK (c:=λ _ _=>.teams) (Pj (by decide) (by decide)) (by decide) (tU (c:=λ _=>.teams) λ ns zs=>by cases ns <;> rfl) (λ s f0 ns zs t=>Pk t rfl) (λ s f0 ns zs=>rf rfl rfl) (λ s f0 ns zs=>rfl) h
 |16,_,h=>wK (c:=λ _ zs=>.can zs) (Pj (by decide) (by decide)) (by decide) (tU (c:=λ zs=>.can zs) λ ns zs=>by cases ns <;> rfl) (λ s f0 ns zs t=>Pk t rfl) (λ s f0 ns zs=>rf rfl rfl) (λ s f0 ns zs=>rfl) h
 |17,_,h=>wK (c:=λ _ _=>.cells) (Pj (by decide) (by decide)) (by decide) (tU (c:=λ _=>.cells) λ ns zs=>by cases ns <;> rfl) (λ s f0 ns zs t=>Pk t rfl) (λ s f0 ns zs=>rfl) (λ s f0 ns zs=>rfl) h
 |18,_,h=>wK (c:=λ _ _=>.counts) (Pj (by decide) (by decide)) (by decide) (tU (c:=λ _=>.counts) λ ns zs=>by cases ns <;> rfl) (λ s f0 ns zs t=>Pk t rfl) (λ s f0 ns zs=>rfl) (λ s f0 ns zs=>rfl) h
 |19,_,⟨x,wl,hl,nl,rl,s,ns,zs,vc,e,st,hn,hz,uF,l1,l2,ht,k⟩=>by
  obtain⟨_,rfl⟩:=tU (i:=19) (c:=λ _=>.clear) (λ ns zs=>by cases ns <;> rfl) ns zs vc uF
  exact⟨x,wl,hl,nl,rl,s,e,st,k⟩
 |i+20,h,_=>by omega
def MY(P:aJ)(w:aY)(K:ah)(mg:Str->Option ao)(base:bw)(CS CF CC CT:ag)(gs:List ag):Prop:=gs.length=20/\∀(i:Nat) (g:ag),gs[i]? =some g->∃fd ps,nU P w K mg base oH 10 g fd ps (acK K CS CF CC CT i)/\bY K (.ref g)=true/\Binds K fd ps []
def Jw(CS CF CC CT:ag):Sp:=λ vs H Q _=>∃(x wl hl nl rl:ag) (s:bR) (i:Nat) (ns zs:List Int) (vc:de),vs=[.ref x,.int (i:Nat),.ref nl,.ref rl]/\i<20/\DX CS CF CC CT s H x wl hl/\H nl=some (.lst (iL ns))/\H rl=some (.lst (iL zs))/\sV i ns zs=some vc/\zs.length<=1600/\(2<=i->zs.length<=70)/\KN CS CF CC CT x wl hl H Q (bM s vc)
theorem VN{s:bR}{i:Nat}{ns zs:List Int}{vc:de}(h:sV i ns zs=some vc)(ht:s.told=none)(hi:¬ (i=0\/i=1\/i=19)):bM s vc=(s,[-20]):=by
 have go:∀c:de,(bM s c=match s.told with |none=>(s,[-20])|some f=>eO s f c)->bM s c=(s,[-20]):=λ c hc=>by rw[hc,ht]
 unfold sV at h
 split at h
 all_goals first
  |(exact absurd (Or.inl rfl) hi)
  |(exact absurd (Or.inr (Or.inl rfl)) hi)
  |(exact absurd (Or.inr (Or.inr rfl)) hi)
  |(cases h;exact go _ rfl)
  |(cases h)
abbrev VO:List Str:=["search","call","numbers","row"]
theorem Jx:m_ VO ["search","call","numbers","row"] (m6 EF):=qi
theorem RZ(F:pJ K "answer_of" "answer_of" EF f fd){ta tw:ag}{gs:List ag}(S:p7 K CS)(hC:MY P w K mg base CS CF CC CT gs)(rg:N8 K mg "WITHOUT_A_FIELD" tw (nY [0,1,19]))(CH:oG mg "NO_FIELD" (-20))(D3:N8 K mg "CALLS" ta (gs.map V.ref)):nU P w K mg base oH 11 f fd ["search","call","numbers","row"] (Jw CS CF CC CT):=by
 refine F.ok Jx (λ vs H Q E h=>?_) (λ oX A outer s H vs Q E hr h=>?_)
 ·obtain⟨x,wl,hl,nl,rl,s',i,ns,zs,vc,rfl,_⟩:=h
  rfl
 ·obtain⟨x,wl,hl,nl,rl,s',i,ns,zs,vc,rfl,hi,st,hn,hz,uF,l1,l2,k⟩:=h
  have nd:=Jx.nd
  refine⟨_,(mY (pk (PW.pt (Ei (P_ (abn (nr (pv 0) rfl))) (AQ (ot uH (pv 1) (KA rg) (by with_unfolding_all rfl))))) (m7 (nq (nQ (mX (nV CH) mZ)))) n9)
   (m7 (nq (W_ (pd Wv (KA D3) (pv 1) (λ _ _=>rfl)) nv (mX (pv 0) (mX (pv 2) (mX (pv 3) mZ))))))),?_⟩
  have hx:∃dx v,H x=some (.ins CS dx (J1.zip [v,.ref wl,.ref hl]))/\(decide (v=V.qB)=decide (s'.told=none)):=by
   rcases st with⟨h1,⟨⟨dx,e⟩,_⟩,_⟩|⟨f0,ws,a,told,T⟩
   ·exact⟨dx,_,e,by rw[h1];rfl⟩
   ·obtain⟨dx,e⟩:=T.se.1
    exact⟨dx,_,e,by rw[told];rfl⟩
  obtain⟨dx,v,hx,hv⟩:=hx
  have GO:(s'.told=none->i=0\/i=1\/i=19)->spU CS CF CC CT i [.ref x,.ref nl,.ref rl] H Q E0:=λ ht=>⟨x,wl,hl,nl,rl,s',ns,zs,vc,rfl,st,hn,hz,uF,l1,l2,ht,k⟩
  obtain⟨g,hg⟩:∃g,gs[i]? =some g:=⟨_,af (by rw[hC.1];exact hi)⟩
  obtain⟨gd,ps,G1,G2,G3⟩:=hC.2 i g hg
  have ad4:(gs.map V.ref)[i]? =some (V.ref g):=by rw[ak,hg];rfl
  refine⟨_,rfl,x,CS,dx,_,_,rfl,hx,S.cl,S.n1,rfl,_,rfl,?_⟩
  rw[hv]
  refine qa (λ ht=>?_) λ ht=>?_
  ·have ht:=of_decide_eq_true ht
   refine⟨_,rfl,tw,_,rfl,.inr (rg.2 H),rfl,rfl,_,rfl,?_⟩
   have ei:(if true=true then !GS (.int (i:Nat)) (nY [0,1,19])else GS (.int (i:Nat)) (nY [0,1,19]))= !([0,1,19]:List Nat).contains i:=by rw[if_pos rfl,Dn]
   show if(if true=true then !GS (.int (i:Nat)) (nY [0,1,19])else GS (.int (i:Nat)) (nY [0,1,19]))=true then _ else _
   rw[ei]
   refine qa (λ hq=>?_) λ hq=>?_
   ·have nh:¬ (i=0\/i=1\/i=19):=λ z=>by
     rcases z with rfl|rfl|rfl <;> cases hq
    rw[VN uF ht nh]at k
    exact⟨(by show 1<=ay;decide),o_ (z_.ret (k.pure st)) (m8.refl _) rfl⟩
   ·have yh:i=0\/i=1\/i=19:=by
     have:([0,1,19]:List Nat).contains i=true:=by
      cases z:([0,1,19]:List Nat).contains i with
      |true=>rfl
      |false=>rw[z]at hq;exact absurd rfl hq
     have:=List.contains_iff_mem.mp this
     simpa using this
    exact⟨_,rfl,ta,_,_,_,rfl,rfl,D3.2 H,ou ad4,g,spU CS CF CC CT i,rfl,⟨10,gd,ps,G1.imp λ vs H Q E h=>uni i hi h,hr,G2,G3⟩,_,rfl,_,rfl,_,rfl,GO λ _=>yh⟩
  ·have ht:¬ s'.told=none:=λ q=>ht (decide_eq_true q)
   refine rK ⟨_,rfl,ta,_,_,_,rfl,rfl,D3.2 H,ou ad4,g,spU CS CF CC CT i,rfl,⟨10,gd,ps,G1.imp λ vs H Q E h=>uni i hi h,hr,G2,G3⟩,_,rfl,_,rfl,_,rfl,GO λ q=>absurd q ht⟩
end oj
namespace L2
def del(H:Hp)(y:ag):Hp:=λ b=>if b=y then none else H b
theorem sW(H:Hp)(y:ag):del H y y=none:=by unfold del;rw[if_pos rfl]
theorem qf{H:Hp}{y b:ag}(h:b≠y):del H y b=H b:=by unfold del;rw[if_neg h]
theorem Ug{H:Hp}{y b:ag}{o:HO}(h:del H y b=some o):b≠y/\H b=some o:=by
 by_cases e:b=y
 ·rw[e,sW]at h;cases h
 ·rw[qf e]at h;exact⟨e,h⟩
theorem aaF{H:Hp}{y:ag}{o:HO}:del (upd H y o) y=del H y:=by
 funext b
 by_cases e:b=y
 ·rw[e,sW,sW]
 ·rw[qf e,qf e,m5 e]
theorem YE{H:Hp}{y:ag}(h:H y=none):del H y=H:=by
 funext b
 by_cases e:b=y
 ·rw[e,sW,h]
 ·rw[qf e]
theorem m8.del{H H':Hp}(sm:m8 H H')(y:ag):m8 (del H y) (del H' y):=λ b o e=>by
 obtain⟨n,e⟩:=Ug e
 rw[qf n];exact sm b o e
theorem nU.frame{P:aJ}{w:aY}{K:ah}{mg:Str->Option ao}{base:bw}{k:Nat}{f:ag}{fd:bK}{ps:List Str}{sp:Sp}(F:nU P w K mg base oH k f fd ps sp):
  nU P w K mg base oH k f fd ps (λ vs H Q _=>∃y ys,H y=some (.lst ys)/\sp vs (del H y) (λ v H2=>H2 y=none->Q v (upd H2 y (.lst ys))) E0):=by
 refine⟨λ vs H Q E ⟨y,ys,_,h⟩=>F.len _ _ _ _ h,λ A outer s H args us vs Q E hr he hb hv ⟨y,ys,hy,hs⟩=>?_⟩
 have he':LG P w K mg base A outer s (del H y):=by
  refine⟨he.frames,he.mod,λ b o e=>⟨(he.bs b o e).1,?_⟩,he.Ss,he.Bg,λ b hb=>?_,λ b o e=>?_,he.bare⟩
  ·by_cases q:b=y
   ·rw[q,sW]
   ·rw[qf q];exact(he.bs b o e).2
  ·by_cases q:b=y
   ·rw[q,sW]
   ·rw[qf q];exact he.VZ b hb
  ·obtain⟨n,e⟩:=Ug e
   refine(he.oY b o e).Eh (λ c u _ z=>z) (λ c z=>?_) λ c xs z=>?_
   ·rw[qf (λ q=>by rw[q,hy]at z;cases z)];exact z
   ·rw[qf (λ q=>by rw[q,hy]at z;cases z)];exact z
 refine dX (F.run A outer s (del H y) args us vs _ E0 hr he' hb hv hs) λ r s' h=>?_
 cases r with
 |error e=>exact(h:False).elim
 |ok fl=>
  cases fl with
  |ret u=>
   obtain⟨v,H',h1,h2,un,oY,rv,q⟩:=h
   obtain⟨sz,oo,n,r,e⟩:=he.oY y _ hy
   have nf:y∉PX outer:=λ z=>by rw[he.VZ y z]at hy;cases hy
   have dn:=sW H y
   have e':=un.keep y _ e dn nf (by simp)
   have fr:=un.free y _ e dn (by simp)
   have ne:∀{b:ag} {o:HO},H' b=some o->b≠y:=λ z q=>by rw[q,fr]at z;cases z
   have ny:∀{b:ag} {o:HO},H b=some o->(∀ys,o≠ .lst ys)->b≠y:=λ z g q=>by
    rw[q,hy]at z
    exact g ys (Option.some.inj z).symm
   refine⟨v,upd H' y (.lst ys),h1,h2,⟨?_,?_,?_,λ b o e x=>un.there b o e x,?_,?_,?_⟩,λ b o z=>?_,rv,q fr⟩
   ·intro b o z1 z2 z3 z4
    have nb:b≠y:=λ q=>by rw[q,hy]at z2;cases z2
    exact un.keep b o z1 (by rw[qf nb];exact z2) z3 z4
   ·intro b o z1 z2 z3 z4
    have nb:b≠y:=λ q=>by rw[q,hy]at z2;cases z2
    exact un.slot b o z1 (by rw[qf nb];exact z2) z3 z4
   ·intro b o z1 z2 z3
    have nb:b≠y:=λ q=>by rw[q,hy]at z2;cases z2
    rw[m5 nb]
    exact un.free b o z1 (by rw[qf nb];exact z2) z3
   ·intro b xs z
    have nb:=ny z (λ ys q=>by cases q)
    rw[m5 nb]
    exact un.JP b xs (by rw[qf nb];exact z)
   ·intro b o u z
    have nb:=ny z (λ ys q=>by cases q)
    rw[m5 nb]
    exact un.GC b o u (by rw[qf nb];exact z)
   ·intro b ps z
    have nb:=ny z (λ ys q=>by cases q)
    rw[m5 nb]
    exact un.JQ b ps (by rw[qf nb];exact z)
   ·by_cases eb:b=y
    ·subst eb
     rw[m4]at z
     cases z
     exact⟨sz,oo,n,r,e'⟩
    ·rw[m5 eb]at z
     exact(oY b o z).Eh (λ c u _ z=>z) (λ c z=>by rw[m5 (ne z)];exact z) λ c xs z=>by rw[m5 (ne z)];exact z
  |_=>exact h
theorem NE.seq{K:ah}{H H':Hp}{a:ag}{xs:List V}(n:NE H H')(h:nF K H a xs):nF K H' a xs:=by
 rcases h with (h|⟨o,h⟩)|h
 ·exact .inl (.inl (n _ _ h (λ φ q=>by cases q)))
 ·exact .inl (.inr ⟨o,n _ _ h (λ φ q=>by cases q)⟩)
 ·exact .inr h
end L2
namespace oj
def ad5(CS CF CC CT:ag):Sp:=λ vs H Q _=>∃y ys,H y=some (.lst ys)/\Jw CS CF CC CT vs (del H y) (λ v H2=>H2 y=none->Q v (upd H2 y (.lst ys))) E0
def VP(s:bR)(cs:List (List (List Int))):List Int:=PyFlat.told (PyFlat.played VbmracNeutral.step s (cs.map eP))
theorem VQ(s:bR)(c:List (List Int))(cs:List (List (List Int))):VP s (c::cs)=((VbmracNeutral.step s (eP c)).2.length:Int)::((VbmracNeutral.step s (eP c)).2++VP (VbmracNeutral.step s (eP c)).1 cs):=by
 unfold VP PyFlat.told
 rw[aG]
 show List.flatMap _ (_::PyFlat.played _ _ _)=_
 rw[eX];rfl
theorem YF(l:List Int){i e:Nat}(h1:i<=e)(h2:e<=l.length):BF (iL l) (some (i:Int)) (some (e:Int))=iL ((l.drop i).take (e-i)):=by
 unfold BF
 rw[HT.GQ,HT.GQ,pX,fP (aT h1 h2),fP h2]
 unfold iL
 rw[<-lY,<-lX]
theorem Fr.back{H H':Hp}{q:ag}(n:NE H H')(f:Fr H' q):Fr H q:=λ o e=>by
 apply Classical.byContradiction
 intro z
 exact z (f o (n q o e λ φ y=>z ⟨φ,y⟩))
theorem R_{f:Nat}{p:Int}{r:List Int}{rest:List (List (List Int))}(h:PyFlat.calls cC f (p::r)=some rest):∃f' c t cs,PyFlat.call cC (p::r)=some (c,t)/\PyFlat.calls cC f' t=some cs/\rest=c::cs:=by
 cases f with
 |zero=>cases h
 |succ f=>
  unfold PyFlat.calls at h
  cases h1:PyFlat.call cC (p::r)with
  |none=>rw[h1]at h;cases h
  |some ct=>
   obtain⟨c,t⟩:=ct
   rw[h1]at h
   dsimp only at h
   cases h2:PyFlat.calls cC f t with
   |none=>rw[h2]at h;cases h
   |some cs=>
    rw[h2]at h
    cases h
    exact⟨f,c,t,cs,rfl,h2,rfl⟩
def E7(K:ah):Sp:=λ vs H Q _=>∃(a:ag) (l:List Int),vs=[.ref a]/\nF K H a (iL l)/\gw l=true/\∀H' p,H' p=some (.lst (iL (dA l)))->Q (.ref p) H'
theorem YG{l:List Int}(h:gw l=true):∃raw,PyFlat.calls cC l.length l=some raw/\PyInside.calls dz raw=true/\(dA l).length<=10000000/\dA l=VP iG raw:=by
 unfold gw at h
 cases q:PyFlat.calls cC l.length l with
 |none=>rw[q]at h;cases h
 |some raw=>
  rw[q]at h
  dsimp only at h
  rw[bj,bj,bj]at h
  refine⟨raw,rfl,h.1.1.2,of_decide_eq_true h.2,?_⟩
  unfold dA PyVbmrac.calls
  rw[q];rfl
abbrev YH:List Str:=["calls","search","given","at","call","start","numbers","row","answer"]
theorem Lq:m_ YH ["calls"] (m6 Hv):=qi
theorem VR(F:pJ K "answers" "answers" Hv f fd){tl tn fI:ag}{fdI:bK}(S:p7 K CS)(YI:Mk K CS fI)(YJ:nU P w K mg base oH 1 fI fdI ["self"] (DE CS))(YK:Binds K fdI ["self"] [])(YL:mg "Search"=some (.ref CS))(pf:mg "len"=none)(qS:N8 K mg "HOW_MANY_NUMBERS" tn (nY MW))(ua:N8 K mg "WITH_A_LIST" tl (nY PV))(As:rC P w K mg base oH 11 "answer_of" ["search","call","numbers","row"] (ad5 CS CF CC CT)):nU P w K mg base oH 12 f fd ["calls"] (E7 K):=by
 refine F.ok Lq (λ vs H Q E h=>?_) (λ oX A outer s H vs Q E hr h=>?_)
 ·obtain⟨a,l,rfl,_⟩:=h
  rfl
 ·obtain⟨a,l,rfl,hs,acL,k⟩:=h
  have nd:=Lq.nd
  refine⟨_,(mY (m9 (i:=1) nd rfl (Or.inl rfl) (Wu (E:=E0) YI YJ (hr.mono (by decide)) rfl YL YK .nil nv))
   (mY (m9 (i:=2) nd rfl (Or.inl rfl) (nQ mZ))
   (mY (m9 (i:=3) nd rfl (Or.inl rfl) nP)
   (mY (rN PassesOwn.never (ot Hc (pv 3) (nN nO rfl pf aX (mX (pv 0) mZ)) (oM _)) (mY (m9 (i:=4) nd rfl (Or.inl rfl) (pd oh (pv 0) (pv 3) (λ _ _=>rfl)))
   (mY (m9 (i:=5) nd rfl (Or.inl rfl) (om qW (pv 3) nP))
   (mY (m9 (i:=3) nd rfl (Or.inl rfl) (om qW (pv 5) (pd Wv (KA qS) (pv 4) (λ _ _=>rfl))))
   (mY (m9 (i:=6) nd rfl (Or.inl rfl) (C2 GR (pv 0) (wo (pv 5)) (wo (pv 3))))
   (mY (m9 (i:=7) nd rfl (Or.inl rfl) (nQ mZ))
   (mY (pk (ot AS (pv 4) (KA ua) (by with_unfolding_all rfl)) (mY (m9 (i:=5) nd rfl (Or.inl rfl) (om qW (pv 3) nP))
   (mY (m9 (i:=3) nd rfl (Or.inl rfl) (om qW (pv 5) (pd oh (pv 0) (pv 3) (λ _ _=>rfl))))
   (m7 (m9 (i:=7) nd rfl (Or.inl rfl) (C2 GR (pv 0) (wo (pv 5)) (wo (pv 3))))))) n9)
   (mY (m9 (i:=8) nd rfl (Or.inl rfl) (nA (E:=E0) As hr (by decide) nv (mX (pv 1) (mX (pv 4) (mX (pv 6) (mX (pv 7) mZ))))))
   (mY (og (qU aH bc a_ pG (pv 2) (mX (nN nO rfl pf aX (mX (pv 8) mZ)) mZ)))
   (m7 (og (qU aH cT cS vb (pv 2) (mX (pv 8) mZ)))))))))))))
   (m7 (nq (pv 2))))))),?_⟩
  obtain⟨raw,afg,afh,acM,afi⟩:=YG acL
  intro x dx nx ndx nex
  refine⟨x,dx,rfl,m4,λ H1 wl hl b1 hw hh ne se=>⟨rfl,?_⟩⟩
  have n1:NE H H1:=λ b o e z=>by
   have e1:b≠x:=λ q=>by rw[q,nx]at e;cases e
   have e2:b≠dx:=λ q=>by rw[q,ndx]at e;cases e
   exact b1 b o (by rw[m5 e1,m5 e2];exact e) e1 z
  have up0:∀b o,H b=some o->(upd (upd H dx (.own x)) x (.ins CS dx [])) b=some o:=λ b o e=>by
   have e1:b≠x:=λ q=>by rw[q,nx]at e;cases e
   have e2:b≠dx:=λ q=>by rw[q,ndx]at e;cases e
   rw[m5 e1,m5 e2];exact e
  have fw0:H wl=none:=none_of up0 hw
  have fh0:H hl=none:=none_of up0 hh
  refine⟨aE _,λ gv hgv=>?_⟩
  have aaG:Fr H gv:=Fr.of n1 hgv
  have s1:m8 H1 (upd H1 gv (.lst [])):=m8.new hgv
  refine⟨λ m σ H'=>∃(o4 o5 o6 o7 o8:Option V) (x wl hl:ag) (s':bR) (gi:List Int) (uG fu:Nat) (rest:List (List (List Int))),σ=[some (.ref a),some (.ref x),some (.ref gv),some (.int (uG:Nat)),o4,o5,o6,o7,o8]/\NE H H'/\Fr H x/\Fr H wl/\Fr H hl/\H' gv=some (.lst (iL gi))/\DX CS CF CC CT s' (del H' gv) x wl hl/\uG<=l.length/\m=l.length-uG/\l.drop uG=l.drop uG/\PyFlat.calls cC fu (l.drop uG)=some rest/\PyInside.calls dz rest=true/\dA l=gi++VP s' rest,
   ⟨l.length,none,none,none,none,none,x,wl,hl,iG,[],0,l.length,raw,rfl,n1.trans (NE.of_same s1),Fr.none nx,Fr.none fw0,Fr.none fh0,m4,.inl ⟨rfl,by rw[aaF,YE hgv];exact se,ne⟩,aE _,rfl,rfl,afg,afh,by rw[afi];rfl⟩,?_⟩
  rintro m σ H' ⟨o4,o5,o6,o7,o8,x,wl,hl,s',gi,uG,fu,rest,rfl,keep,fx,fw,fh,VS,st,EG,rfl,_,MZ,YM,heq⟩
  have Zh:=keep.seq hs
  refine⟨_,rfl,_,rfl,a,_,rfl,.inl Zh,_,_,rfl,rfl,_,rfl,?_⟩
  rw[pX]
  refine qa (λ hc=>?_) λ hc=>?_
  ·have hc:(uG:Int)<(l.length:Int):=of_decide_eq_true hc
   have rO:uG<l.length:=by omega
   obtain⟨pp,hpp⟩:∃pp,l[uG]? =some pp:=⟨_,af rO⟩
   have Bo:=yy hpp
   rw[Bo]at MZ
   obtain⟨f',c,t,cs,acN,Mi,rfl⟩:=R_ MZ
   have hb1:PyInside.call dz c=true/\PyInside.calls dz cs=true:=by
    unfold PyInside.calls at YM
    rw[gA,bj]at YM
    exact YM
   obtain⟨hbc,hbs⟩:=hb1
   obtain⟨i,ns,zs,vc,rfl,hi,hle,SX,lns,uF,ad6,l1,l2,ad7⟩:=parse acN hbc
   generalize hn:MW.getD i 0=n at hle SX lns ad7
   have hr:(l.drop (uG+1)).length=l.length-(uG+1):=gG
   rw[hr]at hle
   have hmn:MW[i]? =some n:=by rw[<-hn];exact getD_at hi
   have eo:dA l=gi++(((bM s' vc).2.length:Int)::((bM s' vc).2++VP (bM s' vc).1 cs)):=by rw[heq,VQ,ad6]
   have tot:gi.length+1+(bM s' vc).2.length<=10000000:=by
    rw[eo,aw,aD,aw]at acM
    omega
   refine⟨_,λ _ _ z=>z,_,rfl,_,rfl,a,_,_,_,rfl,rfl,Zh,ou (aa_ hpp),_,rfl,_,_,rfl,rfl,_,rfl,_,rfl,tn,_,_,_,rfl,rfl,qS.2 H',ou (oV hmn),_,_,rfl,rfl,?_⟩
   refine⟨_,rfl,_,rfl,_,rfl,_,rfl,_,rfl,a,_,rfl,Zh,λ nl hnl=>?_⟩
   have e1:BF (iL l) (some ((uG:Int)+1)) (some ((uG:Int)+1+(n:Int)))=iL ns:=by
    have:=YF l (i:=uG+1) (e:=uG+1+n) (by omega) (by omega)
    rw[show uG+1+n-(uG+1)=n by omega,<-SX]at this
    exact this
   have nlg:nl≠gv:=λ q=>by rw[q,VS]at hnl;cases hnl
   have sA:m8 H' (upd H' nl (.lst (BF (iL l) (some ((uG:Int)+1)) (some ((uG:Int)+1+(n:Int)))))):=m8.new hnl
   have HNA:(upd H' nl (.lst (BF (iL l) (some ((uG:Int)+1)) (some ((uG:Int)+1+(n:Int)))))) nl=some (.lst (iL ns)):=by rw[m4,e1]
   generalize hHA:upd H' nl (.lst (BF (iL l) (some ((uG:Int)+1)) (some ((uG:Int)+1+(n:Int)))))=HA at sA HNA
   refine⟨aE _,λ r0 Xb=>?_⟩
   have sB:m8 HA (upd HA r0 (.lst [])):=m8.new Xb
   have r0g:r0≠gv:=λ q=>by rw[q,sA _ _ VS]at Xb;cases Xb
   refine⟨_,rfl,tl,_,rfl,.inr (ua.2 _),rfl,rfl,_,rfl,?_⟩
   have ew:(if false=true then !GS (.int (i:Nat)) (nY PV)else GS (.int (i:Nat)) (nY PV))=PV.contains i:=Dn i PV
   show if(if false=true then !GS (.int (i:Nat)) (nY PV)else GS (.int (i:Nat)) (nY PV))=true then _ else _
   rw[ew]
   rcases ad7 with⟨hwf,rfl,rfl⟩|⟨hwt,mm,r',hd2,hm0,hml,rfl,rfl⟩
   ·rw[hwf]
    refine rK ?_
    generalize JO:upd HA r0 (.lst [])=H2 at sB
    have s2:m8 H' H2:=sA.trans sB
    have HN:H2 nl=some (.lst (iL ns)):=sB _ _ HNA
    have HZ:H2 r0=some (.lst (iL [])):=by rw[<-JO,m4];rfl
    have hg2:=s2 _ _ VS
    have hdr:l.drop (uG+1+n)=(l.drop (uG+1)).drop n:=by rw[eY]
    rw[<-hdr]at Mi
    refine⟨_,rfl,_,rfl,_,rfl,_,rfl,gv,_,hg2,x,wl,hl,nl,r0,s',i,ns,_,vc,rfl,hi,st.Vt (NE.of_same (s2.del gv)),by rw[qf nlg];exact HN,by rw[qf r0g];exact HZ,uF,l1,l2,λ H3 p Wg GD Ec hw hh b3 fp hp h3=>?_⟩
    have pg:p≠gv:=λ q=>by rw[q,h3]at hp;cases hp
    refine⟨_,rfl,.inl ⟨rfl,_,nF.of m4⟩,_,rfl,p,_,rfl,.inl (nF.of (by rw[m5 pg];exact hp)),gv,_,_,rfl,rfl,m4,(by rw[pX,aA];omega),?_⟩
    generalize U9:upd (upd H3 gv (.lst (iL gi))) gv _=H4
    have g4:H4 gv=some (.lst (iL (gi++[((bM s' vc).2.length:Int)]))):=by rw[<-U9,m4,Ao,pX];rfl
    have k4:∀b,b≠gv->H4 b=H3 b:=λ b n=>by rw[<-U9,m5 n,m5 n]
    refine⟨_,rfl,.inl ⟨rfl,_,nF.of g4⟩,_,rfl,gv,p,_,_,rfl,rfl,g4,by rw[k4 p pg];exact hp,(by rw[pX,pX,aw,aA];show _+1+ _<=_;omega),?_⟩
    generalize hH5:upd H4 gv _=H5
    have g5:H5 gv=some (.lst (iL (gi++((bM s' vc).2.length:Int)::(bM s' vc).2))):=by rw[<-hH5,m4,<-Ao,bB];rfl
    have k5:∀b,b≠gv->H5 b=H3 b:=λ b n=>by rw[<-hH5,m5 n,k4 b n]
    have d5:del H5 gv=H3:=by
     funext b
     by_cases e:b=gv
     ·rw[e,sW,h3]
     ·rw[qf e,k5 b e]
    have nD:NE H (del H2 gv):=λ b o e z=>by
     rw[qf (aaG.ne e z)]
     exact s2 _ _ (keep b o e z)
    have n5:NE H H5:=λ b o e z=>by
     have nb:b≠gv:=aaG.ne e z
     rw[k5 b nb]
     exact b3 b o (nD b o e z) (fx.ne e z) (fw.ne e z) (fh.ne e z) z
    refine⟨l.length-(uG+1+n),by omega,_,_,_,_,_,x,Wg,GD,_,gi++((bM s' vc).2.length:Int)::(bM s' vc).2,(uG+1+n),_,cs,rfl,n5,fx,?_,?_,g5,by rw[d5];exact Ec,(by omega),rfl,rfl,Mi,hbs,?_⟩
    ·rcases hw with rfl|hw
     ·exact fw
     ·exact Fr.back nD hw
    ·rcases hh with rfl|hh
     ·exact fh
     ·exact Fr.back nD hh
    ·rw[eo,bB];rfl
   ·rw[hwt]
    obtain⟨mn,rfl⟩:∃q:Nat,mm=(q:Int):=⟨mm.toNat,by omega⟩
    rw[show((mn:Int)).toNat=mn from rfl]at hml Mi l1 l2 uF
    have hd3:l.drop (uG+1+n)=(mn:Int)::r':=by rw[<-eY];exact hd2
    have acO:l[uG+1+n]? =some (mn:Int):=by
     have z:=kG (xs:=l) (i:=uG+1+n) (j:=0)
     rw[hd3]at z
     simpa using z.symm
    have hr2:r'=l.drop (uG+1+n+1):=by
     have:=yy acO
     rw[hd3]at this
     exact(List.cons.inj this).2
    have hrl:r'.length=l.length-(uG+1+n+1):=by rw[hr2,gG]
    have afq:uG+1+n<l.length:=(List.getElem?_eq_some_iff.mp acO).1
    refine tq ⟨_,rfl,_,_,rfl,rfl,_,rfl,_,rfl,_,rfl,a,_,_,_,rfl,rfl,(NE.of_same (sA.trans sB)).seq Zh,at_of (j:=uG+1+n) rfl (aa_ acO),_,_,rfl,rfl,?_⟩
    refine⟨_,rfl,_,rfl,_,rfl,_,rfl,_,rfl,a,_,rfl,(NE.of_same (sA.trans sB)).seq Zh,λ rl acP=>?_⟩
    have e3:BF (iL l) (some ((uG:Int)+1+(n:Int)+1)) (some ((uG:Int)+1+(n:Int)+1+(mn:Int)))=iL (r'.take mn):=by
     have:=YF l (i:=uG+1+n+1) (e:=uG+1+n+1+mn) (by omega) (by omega)
     rw[show uG+1+n+1+mn-(uG+1+n+1)=mn by omega,<-hr2]at this
     exact this
    have sC:m8 (upd HA r0 (.lst [])) (upd (upd HA r0 (.lst [])) rl (.lst (BF (iL l) (some ((uG:Int)+1+(n:Int)+1)) (some ((uG:Int)+1+(n:Int)+1+(mn:Int)))))):=m8.new acP
    generalize JO:upd (upd HA r0 (.lst [])) rl (.lst (BF (iL l) (some ((uG:Int)+1+(n:Int)+1)) (some ((uG:Int)+1+(n:Int)+1+(mn:Int)))))=H2 at sC
    have s2:m8 H' H2:=sA.trans (sB.trans sC)
    have HN:H2 nl=some (.lst (iL ns)):=sC _ _ (sB _ _ HNA)
    have HZ:H2 rl=some (.lst (iL (r'.take mn))):=by rw[<-JO,m4,e3]
    have rlg:rl≠gv:=λ q=>by rw[q,sB _ _ (sA _ _ VS)]at acP;cases acP
    have hg2:=s2 _ _ VS
    have hdr:l.drop (uG+1+n+1+mn)=r'.drop mn:=by rw[hr2,eY]
    rw[<-hdr]at Mi
    refine⟨_,rfl,_,rfl,_,rfl,_,rfl,gv,_,hg2,x,wl,hl,nl,rl,s',i,ns,_,vc,rfl,hi,st.Vt (NE.of_same (s2.del gv)),by rw[qf nlg];exact HN,by rw[qf rlg];exact HZ,uF,l1,l2,λ H3 p Wg GD Ec hw hh b3 fp hp h3=>?_⟩
    have pg:p≠gv:=λ q=>by rw[q,h3]at hp;cases hp
    refine⟨_,rfl,.inl ⟨rfl,_,nF.of m4⟩,_,rfl,p,_,rfl,.inl (nF.of (by rw[m5 pg];exact hp)),gv,_,_,rfl,rfl,m4,(by rw[pX,aA];omega),?_⟩
    generalize U9:upd (upd H3 gv (.lst (iL gi))) gv _=H4
    have g4:H4 gv=some (.lst (iL (gi++[((bM s' vc).2.length:Int)]))):=by rw[<-U9,m4,Ao,pX];rfl
    have k4:∀b,b≠gv->H4 b=H3 b:=λ b n=>by rw[<-U9,m5 n,m5 n]
    refine⟨_,rfl,.inl ⟨rfl,_,nF.of g4⟩,_,rfl,gv,p,_,_,rfl,rfl,g4,by rw[k4 p pg];exact hp,(by rw[pX,pX,aw,aA];show _+1+ _<=_;omega),?_⟩
    generalize hH5:upd H4 gv _=H5
    have g5:H5 gv=some (.lst (iL (gi++((bM s' vc).2.length:Int)::(bM s' vc).2))):=by rw[<-hH5,m4,<-Ao,bB];rfl
    have k5:∀b,b≠gv->H5 b=H3 b:=λ b n=>by rw[<-hH5,m5 n,k4 b n]
    have d5:del H5 gv=H3:=by
     funext b
     by_cases e:b=gv
     ·rw[e,sW,h3]
     ·rw[qf e,k5 b e]
    have nD:NE H (del H2 gv):=λ b o e z=>by
     rw[qf (aaG.ne e z)]
     exact s2 _ _ (keep b o e z)
    have n5:NE H H5:=λ b o e z=>by
     have nb:b≠gv:=aaG.ne e z
     rw[k5 b nb]
     exact b3 b o (nD b o e z) (fx.ne e z) (fw.ne e z) (fh.ne e z) z
    refine⟨l.length-(uG+1+n+1+mn),by omega,_,_,_,_,_,x,Wg,GD,_,gi++((bM s' vc).2.length:Int)::(bM s' vc).2,(uG+1+n+1+mn),_,cs,rfl,n5,fx,?_,?_,g5,by rw[d5];exact Ec,(by omega),rfl,rfl,Mi,hbs,?_⟩
    ·rcases hw with rfl|hw
     ·exact fw
     ·exact Fr.back nD hw
    ·rcases hh with rfl|hh
     ·exact fh
     ·exact Fr.back nD hh
    ·rw[eo,bB];rfl
  ·have hc:¬ (uG:Int)<(l.length:Int):=λ q=>hc (decide_eq_true q)
   have e:l.drop uG=[]:=gP (by omega)
   rw[e]at MZ
   have er:rest=[]:=by
    cases fu <;> exact(Option.some.inj MZ).symm
   rw[er]at heq
   have e2:dA l=gi:=by rw[heq];exact bD _
   rw[e2]at k
   exact⟨_,rfl,k H' gv VS⟩
section
variable{P:aJ}{w:aY}{K:ah}{mg:Str->Option ao}{base hp:bw}
def FI(K:ah)(x:Str)(st:bA)(f:ag):Prop:=bt K aO x=some (some (.ref f))/\∃fd,pJ K x x st f fd
def MI(K:ah)(C:ag)(m q:Str)(st:bA):Prop:=∃f fd,Meth K C m f/\pJ K m q st f fd
structure CI(K:ah)(x q:Str)(st:bA)(C:ag)(fl:List Str):Prop where
 ns:bt K aO x=some (some (.ref C))
 cl:GP K C
 na:∀g∈fl,oE K C g
 mi:∃f fd,Mk K C f/\pJ K "__init__" q st f fd
theorem oq{x:Str}{st:bA}{f:ag}{oc:ao}{od an:Option ag}{Kn:Array (Option ao)}{kV doc pm oX ct:ao}(a:bt K aO x=some (some (.ref f)))(l:K.lookup f=some ⟨oc,od,.func (cz x x (rE st) (qK st) (m6 st) .none kV doc pm an oX ct),Kn⟩)
  (c:dW K oX x=true)(k:bY K (.ref f)=true):FI K x st f:=⟨a,_,LS l c k⟩
theorem tG{C:ag}{m q:Str}{st:bA}{f:ag}{oc:ao}{od an:Option ag}{Kn:Array (Option ao)}{kV doc pm oX ct:ao}(a:bx K (.ref C) m=some (some (.ref f)))(i:gC K (.ref f)=true)(l:K.lookup f=some ⟨oc,od,.func (cz m q (rE st) (qK st) (m6 st) .none kV doc pm an oX ct),Kn⟩)
  (c:dW K oX q=true)(k:bY K (.ref f)=true):MI K C m q st:=⟨f,_,⟨a,i,k⟩,LS l c k⟩
theorem Jy{x q:Str}{st:bA}{C:ag}{fl:List Str}{f:ag}{oc:ao}{od an:Option ag}{Kn:Array (Option ao)}{kV doc pm oX ct:ao}(n:bt K aO x=some (some (.ref C)))(pg:e_ K C Str.empty=true)(hd:f9 K C=true)(po:iB K C=true)(sa:bx K (.ref C) "__setattr__"=some (some (.builtin "object.__setattr__")))
  (mk:iW K C=true)(kc:bY K (.ref C)=true)(a:bx K (.ref C) "__init__"=some (some (.ref f)))(i:gC K (.ref f)=true)(l:K.lookup f=some ⟨oc,od,.func (cz "__init__" q (rE st) (qK st) (m6 st) .none kV doc pm an oX ct),Kn⟩)
  (c:dW K oX q=true)(k:bY K (.ref f)=true)(na:∀g∈fl,oE K C g):CI K x q st C fl:=⟨n,⟨pg,hd,po,sa⟩,na,f,_,⟨mk,a,i,kc⟩,LS l c k⟩
theorem CJ{C:ag}:∀g∈([]:List Str),oE K C g:=λ g h=>by cases h
theorem p9{C:ag}{x:Str}{l:List Str}(h:bx K (.ref C) x=some none)(t:∀g∈l,oE K C g):∀g∈x::l,oE K C g:=λ g hg=>by
 rcases List.mem_cons.mp hg with rfl|hg
 ·exact h
 ·exact t g hg
theorem b1{x q:Str}{st:bA}{f:ag}{fd:bK}{p1:Str}(F:pJ K x q st f fd)(h:∀(kV doc pm:ao) (an:Option ag) (oX ct a:ao),iM (cz x q (rE st) (qK st) (m6 st) .none kV doc pm an oX ct) ⟨[a],[]⟩=pure ([p1].zip [a]):=by intros;rfl):Binds K fd [p1] []:=F.binds λ _ _ _ _ _ _ us hl=>match us,hl with |[_],_=>h ..
theorem b2{x q:Str}{st:bA}{f:ag}{fd:bK}{p1 p2:Str}(F:pJ K x q st f fd)(h:∀(kV doc pm:ao) (an:Option ag) (oX ct a b:ao),iM (cz x q (rE st) (qK st) (m6 st) .none kV doc pm an oX ct) ⟨[a,b],[]⟩=pure ([p1,p2].zip [a,b]):=by intros;rfl):Binds K fd [p1,p2] []:=F.binds λ _ _ _ _ _ _ us hl=>match us,hl with |[_,_],_=>h ..
theorem b3{x q:Str}{st:bA}{f:ag}{fd:bK}{p1 p2 p3:Str}(F:pJ K x q st f fd)(h:∀(kV doc pm:ao) (an:Option ag) (oX ct a b c:ao),iM (cz x q (rE st) (qK st) (m6 st) .none kV doc pm an oX ct) ⟨[a,b,c],[]⟩=pure ([p1,p2,p3].zip [a,b,c]):=by intros;rfl):Binds K fd [p1,p2,p3] []:=F.binds λ _ _ _ _ _ _ us hl=>match us,hl with |[_,_,_],_=>h ..
theorem b4{x q:Str}{st:bA}{f:ag}{fd:bK}{p1 p2 p3 p4:Str}(F:pJ K x q st f fd)(h:∀(kV doc pm:ao) (an:Option ag) (oX ct a b c d:ao),iM (cz x q (rE st) (qK st) (m6 st) .none kV doc pm an oX ct) ⟨[a,b,c,d],[]⟩=pure ([p1,p2,p3,p4].zip [a,b,c,d]):=by intros;rfl):Binds K fd [p1,p2,p3,p4] []:=F.binds λ _ _ _ _ _ _ us hl=>match us,hl with |[_,_,_,_],_=>h ..
theorem b5{x q:Str}{st:bA}{f:ag}{fd:bK}{p1 p2 p3 p4 p5:Str}(F:pJ K x q st f fd)(h:∀(kV doc pm:ao) (an:Option ag) (oX ct a b c d e:ao),iM (cz x q (rE st) (qK st) (m6 st) .none kV doc pm an oX ct) ⟨[a,b,c,d,e],[]⟩=pure ([p1,p2,p3,p4,p5].zip [a,b,c,d,e]):=by intros;rfl):Binds K fd [p1,p2,p3,p4,p5] []:=F.binds λ _ _ _ _ _ _ us hl=>match us,hl with |[_,_,_,_,_],_=>h ..
theorem FI.has{CX:CY}{k:Nat}{x:Str}{st:bA}{f:ag}{ps:List Str}{sp:Sp}(h:FI K x st f)(X:K.In hp)(G:hp.Ns aO mg)(ok:∀fd,pJ K x x st f fd->nU P w K mg base CX k f fd ps sp)(b:∀fd,pJ K x x st f fd->Binds K fd ps []):rC P w K mg base CX k x ps sp:=by
 obtain⟨n,fd,F⟩:=h
 exact⟨f,fd,ok fd F,dt X G n,F.kp,b fd F⟩
theorem FI.hs{CX:CY}{k:Nat}{x:Str}{st:bA}{f:ag}{ps:List Str}{sp:Sp}(h:FI K x st f)(P:aJ)(w:aY)(base:bw)(X:K.In hp)(G:hp.Ns aO mg)(ok:∀fd,pJ K x x st f fd->nU P w K mg base CX k f fd ps sp)(b:∀fd,pJ K x x st f fd->Binds K fd ps []):rC P w K mg base CX k x ps sp:=h.has X G ok b
theorem MI.hs{CX:CY}{k:Nat}{C:ag}{m q:Str}{st:bA}{ps:List Str}{sp:Sp}(h:MI K C m q st)(P:aJ)(w:aY)(base:bw)(mg:Str->Option ao)(ok:∀f fd,pJ K m q st f fd->nU P w K mg base CX k f fd ps sp)(b:∀f fd,pJ K m q st f fd->Binds K fd ps []):uo P w K mg base CX k C m ps sp:=by
 obtain⟨f,fd,M,F⟩:=h
 exact⟨f,fd,M,ok f fd F,b f fd F⟩
theorem MI.aaH{CX:CY}{k:Nat}{C:ag}{m q:Str}{st:bA}{ps:List Str}{sp:Sp}(h:MI K C m q st)(ok:∀f fd,pJ K m q st f fd->nU P w K mg base CX k f fd ps sp)(b:∀f fd,pJ K m q st f fd->Binds K fd ps []):uo P w K mg base CX k C m ps sp:=by
 obtain⟨f,fd,M,F⟩:=h
 exact⟨f,fd,M,ok f fd F,b f fd F⟩
theorem CI.rc{C:ag}{x q:Str}{st:bA}{fl:List Str}(h:CI K x q st C fl)(X:K.In hp)(G:hp.Ns aO mg)(ok:∀f fd,pJ K "__init__" q st f fd->nU P w K mg base oH 1 f fd ("self"::fl) (Hy C fl))(b:∀f fd,pJ K "__init__" q st f fd->Binds K fd ("self"::fl) []):Rec P w K mg base x C fl:=by
 obtain⟨f,fd,M,F⟩:=h.mi
 exact⟨h.cl,dt X G h.ns,h.na,f,fd,M,ok f fd F,b f fd F⟩
def acQ:V->ao->Bool
 | .int i,.int j _=>decide (i=j)
 | .str s,.str t _=>decide (s=t)
 | .ref a,.ref b=>decide (a=b)
 |_,_=>false
def Uh:List V->List ao->Bool
 |[],[]=>true
 |x::xs,u::us=>acQ x u && Uh xs us
 |_,_=>false
theorem aaI{x:V}{u:ao}(h:acQ x u=true):RelV x u:=by
 unfold acQ at h
 split at h
 ·cases of_decide_eq_true h;exact⟨_,rfl⟩
 ·cases of_decide_eq_true h;exact⟨_,rfl⟩
 ·cases of_decide_eq_true h;exact rfl
 ·cases h
theorem Pl:∀{xs:List V} {us:List ao},Uh xs us=true->Vals xs us
 |[],[],_=>.nil
 |x::xs,u::us,h=>by
  unfold Uh at h
  rw[bj]at h
  exact .cons (aaI h.1) (Pl h.2)
 |[],_::_,h=>by cases h
 |_::_,[],h=>by cases h
theorem E8{x:Str}{a:ag}{xs:List V}{od:Option ag}{oo:Array ao}{n:Nat}{Kn:Array (Option ao)}(e:bt K aO x=some (some (.ref a)))(l:K.lookup a=some ⟨.type "tuple",od,.seq oo n,Kn⟩)(z:Nat.ble oo.size 1000=true)(v:Uh xs oo.toList=true):
  bt K aO x=some (some (.ref a))/\∀H:Hp,Bj K H a xs:=⟨e,λ H=>.inr ⟨_,oo,n,l,rfl,rfl,aT (Nat.le_of_ble_eq_true z) (by decide),Pl v⟩⟩
def TI(K:ah)(x:Str)(a:ag)(xs:List V):Prop:=bt K aO x=some (some (.ref a))/\∀H:Hp,Bj K H a xs
def II(K:ah)(x:Str)(n:Int):Prop:=∃t,bt K aO x=some (some (.int n t))
def SI(K:ah)(x z:Str):Prop:=∃t,bt K aO x=some (some (.str z t))
theorem pZ{x:Str}{n:Int}{t:mD}(a:bt K aO x=some (some (.int n t))):II K x n:=⟨t,a⟩
theorem Lr{x z:Str}{t:mD}(a:bt K aO x=some (some (.str z t))):SI K x z:=⟨t,a⟩
theorem TI.g{x:Str}{a:ag}{xs:List V}(h:TI K x a xs)(X:K.In hp)(G:hp.Ns aO mg):N8 K mg x a xs:=⟨dt X G h.1,h.2⟩
theorem II.g{x:Str}{n:Int}(h:II K x n)(X:K.In hp)(G:hp.Ns aO mg):oG mg x n:=let⟨t,e⟩:=h;⟨t,dt X G e⟩
theorem SI.g{x z:Str}(h:SI K x z)(X:K.In hp)(G:hp.Ns aO mg):Bi mg x z:=let⟨t,e⟩:=h;⟨t,dt X G e⟩
structure WI(K:ah)(C:ag):Prop where
 ns:bt K aO "Wrong"=some (some (.ref C))
 ec:tI K C
 ty:fN K (.ref C)=some (.type "type")
 ng:oE K C "__getattr__"
 n1:oE K C "kind"
 n2:oE K C "place"
 mi:∃f fd,ZW K C f/\pJ K "__init__" "Wrong.__init__" tJ f fd
theorem ad8{C f N:ag}{nm q:Str}{bs:List ao}{LY:Bool}{sn:List Str}{sub:List ao}{ab:Bool}{col:Option Bool}{dd:Option ag}{k0 k1 k2 k3 k5:Option ao}{oN:Obj}{cd:ClassData}{oc:ao}{od an:Option ag}{Kn:Array (Option ao)}{kV doc pm oX ct:ao}
  (ns:bt K aO "Wrong"=some (some (.ref C)))(c:jl K C=some cd)(m:cd.mro=[.ref C,.type "Exception",.type "BaseException",.type "object"])(hd:cd.hasDict=true)
  (sa:bx K (.ref C) "__setattr__"=some (some (.builtin "object.__setattr__")))(ga:bx K (.ref C) "__getattribute__"=some (some (.builtin "BaseException.__getattribute__")))
  (ty:fN K (.ref C)=some (.type "type"))(ng:bx K (.ref C) "__getattr__"=some none)(n1:bx K (.ref C) "kind"=some none)(n2:bx K (.ref C) "place"=some none)
  (lC:K.lookup C=some (lu nm q C N bs WT LY sn sub ab col dd k0 k1 k2 k3 k5 "Exception.__new__"))(lN:K.lookup N=some oN)(hN:L5 oN=true)(hi:bt K N "__init__"=some (some (.ref f)))
  (l:K.lookup f=some ⟨oc,od,.func (cz "__init__" "Wrong.__init__" (rE tJ) (qK tJ) (m6 tJ) .none kV doc pm an oX ct),Kn⟩)(cI:oc= .type "function")(kp:bY K (.ref C)=true)(d:dW K oX "Wrong.__init__"=true)(k:bY K (.ref f)=true):WI K C:=
 ⟨ns,UM c m hd sa ga,ty,ng,n1,n2,f,_,ab9 lC lN hN hi l cI kp,LS l d k⟩
theorem WI.ok{C:ag}(h:WI K C)(X:K.In hp)(G:hp.Ns aO mg)(hm:mg "Exception"=none):t7 P w K mg base C:=by
 obtain⟨f,fd,M,F⟩:=h.mi
 exact⟨dt X G h.ns,h.ec,h.ty,h.ng,h.n1,h.n2,f,fd,M,NW F M h.ec hm h.n1 h.n2,F.binds (ps:=["self","kind","place"]) λ _ _ _ _ _ _ us hl=>match us,hl with |[_,_,_],_=>rfl⟩
theorem YN{CS CF CC CT:ag}{gs:List ag}{hp:bw}(l:gs.length=20)(h:∀(i:Nat) (g:ag),gs[i]? =some g->∃k fd ps,k<=10/\nU P w K mg base oH k g fd ps (acK K CS CF CC CT i)/\bY K (.ref g)=true/\Binds K fd ps []):MY P w K mg base CS CF CC CT gs:=⟨l,λ i g e=>let⟨k,fd,ps,hk,F,kp,b⟩:=h i g e;⟨fd,ps,F.mono hk,kp,b⟩⟩
set_option maxHeartbeats 0 in
theorem all_mk{P:aJ}{w:aY}{K:ah}{h:bw}{mg:Str->Option ao}{fa CS CF CC CT CB CP CR C aBL aRS aWF aCA aHM aWL:ag}{Sa VT M1 Jz Pn Sb ad9 Po M3 Ka Pp M4 M5 yL M6 Sd aaJ acR Pq Pr Se aaK Pt M7 YO Pu M8 M9 M_ GN Na Sf Nb VU Nc Nd JA Nf Pw Sg Ng Px VV yM Au yN yO xg yP yQ yR CK yS xh Av vN Aw Ax yT yU uv yV Py VW:ag}(X:K.In h)(G:h.Ns aO mg)(hfa:mg "answers"=some (.ref fa))
  (JB:CI K "Cell" "Cell.__init__" Ew CC EI)
  (JC:CI K "Team" "Team.__init__" Ex CT J0)
  (D5:CI K "Field" "Field.__init__" BR CF Ck)
  (D6:CI K "Piece" "Piece.__init__" BS CP JX)
  (D7:CI K "Bound" "Bound.__init__" BW CB OV)
  (vO:CI K "Reader" "Reader.__init__" zQ CR ["pieces","at"])
  (ui:CI K "Search" "Search.__init__" zT CS J1)
  (Nh:WI K C)
  (vP:MI K CR "ahead" "Reader.ahead" x9)
  (tV:MI K CR "is_word" "Reader.is_word" wV)
  (xi:MI K CR "take" "Reader.take" zR)
  (sf:MI K CR "take_word" "Reader.take_word" uj)
  (sg:MI K CR "take_stop" "Reader.take_stop" uk)
  (sX:MI K CR "take_end" "Reader.take_end" vq)
  (si:MI K CR "take_name" "Reader.take_name" um)
  (rB:MI K CR "take_number" "Reader.take_number" sL)
  (tW:MI K CS "is_cell" "Search.is_cell" wX)
  (uw:MI K CS "tables" "Search.tables" t6)
  (xj:MI K CS "left" "Search.left" zU)
  (ux:MI K CS "is_row" "Search.is_row" uJ)
  (vQ:MI K CS "begin" "Search.begin" sM)
  (uz:MI K CS "forget" "Search.forget" wW)
  (sY:MI K CS "has_room" "Search.has_room" sN)
  (qZ:MI K CS "has_room_for" "Search.has_room_for" sO)
  (vR:MI K CS "times" "Search.times" uK)
  (xk:MI K CB "spare" "Bound.spare" wu)
  (CL:FI K "fraction" Es Sa)
  (E9:FI K "run_end" L4 VT)
  (yW:FI K "word_piece" xY M1)
  (vS:FI K "number_piece" xZ Jz)
  (Ay:FI K "piece_end" Ey Pn)
  (CM:FI K "piece_at" Hs Sb)
  (YQ:FI K "cut" ab8 ad9)
  (Az:FI K "read_cell" AW Po)
  (yX:FI K "read_cells" BU M3)
  (xl:FI K "read_member" zS Ka)
  (AA:FI K "read_team" Ez Pp)
  (yY:FI K "read_teams" x_ M4)
  (yZ:FI K "read_field" BV M5)
  (uX:FI K "call_where" ye yL)
  (y4:FI K "mass_table" BM M6)
  (CN:FI K "mass_sum" Dc Sd)
  (Ni:FI K "found" Qu aaJ)
  (Sh:FI K "line" Xa acR)
  (AB:FI K "cell_line" EA Pq)
  (AD:FI K "team_line" AX Pr)
  (CO:FI K "to_bytes" Dd Se)
  (Nj:FI K "shown" Qv aaK)
  (AE:FI K "next_adds" Et Pt)
  (y6:FI K "order_adds" BN M7)
  (JD:FI K "row_of" LZ YO)
  (AF:FI K "best_cell" Eu Pu)
  (y8:FI K "best_cells" BO M8)
  (y9:FI K "best_curve" BP M9)
  (y_:FI K "best_price" BQ M_)
  (uA:FI K "expected_time" wU GN)
  (za:FI K "best_order" xX Na)
  (zb:FI K "together" AV Sf)
  (zc:FI K "cell_gains" yc Nb)
  (E_:FI K "choices" Df VU)
  (zd:FI K "most_gains" vw Nc)
  (zf:FI K "thrift_row" yd Nd)
  (vT:FI K "team_choices" uL JA)
  (zg:FI K "efforts_of" ya Nf)
  (AG:FI K "bounds_of" AY Pw)
  (CQ:FI K "can_make" De Sg)
  (zh:FI K "free_cells" vt Ng)
  (AH:FI K "teams_row" AZ Px)
  (Fb:FI K "refused" Ht VV)
  (uY:FI K "call_would" BZ yM)
  (wL:FI K "call_best" EE Au)
  (uZ:FI K "call_curve" B0 yN)
  (u1:FI K "call_price" B_ yO)
  (ub:FI K "call_thrift" zV xg)
  (u4:FI K "call_order" Ca yP)
  (u5:FI K "call_takes" yg yQ)
  (u6:FI K "call_teams" Cb yR)
  (zi:FI K "call_can" Hu CK)
  (u7:FI K "call_shown" BY yS)
  (uc:FI K "call_counts" zW xh)
  (wM:FI K "call_left" A0 Av)
  (sZ:FI K "call_chances" yf vN)
  (wN:FI K "call_vain" EB Aw)
  (wO:FI K "call_back" ED Ax)
  (u9:FI K "call_clear" Cd yT)
  (u_:FI K "call_cells" Cc yU)
  (rY:FI K "call_evidence" rP uv)
  (va:FI K "call_field" BX yV)
  (AI:FI K "answer_of" EF Py)
  (Bf:FI K "answers" Hv VW)
  (vU:II K "LONGEST_WORD" 8)
  (vV:II K "FIRST_LETTER" 97)
  (tX:II K "LONGEST_NUMBER" 4)
  (xm:II K "FIRST_DIGIT" 48)
  (xn:II K "LAST_LETTER" 122)
  (zj:II K "LAST_DIGIT" 57)
  (AJ:II K "SEMICOLON" 59)
  (AK:II K "MISPLACED" 1)
  (vW:II K "OUT_OF_RANGE" 4)
  (zk:II K "MOST_CELLS" 16)
  (vX:II K "TOLD_OR_FULL" 3)
  (xo:II K "MOST_WEIGHT" 1000)
  (AL:II K "MOST_TIME" 20)
  (Fc:II K "NO_CELL" 2)
  (rM:II K "MOST_TEAM_EFFORTS" 12)
  (sj:II K "TOO_MANY_EFFORTS" 5)
  (zo:II K "MOST_TEAMS" 6)
  (qH:II K "MOST_EFFORTS_TOGETHER" 24)
  (xq:II K "LEAST_PARTS" 2)
  (zp:II K "MOST_PARTS" 100)
  (zq:II K "MOST_BYTES" 1500)
  (xr:II K "NOT_AS_TOLD" (-1))
  (zr:II K "TEXT_WRONG" 1)
  (Si:II K "DONE" 0)
  (vY:II K "MOST_EFFORTS" 20)
  (xt:II K "COMMON_TIME" 232792560)
  (CU:II K "TOO_MANY" (-3))
  (vZ:II K "NOTHING_LEFT" (-6))
  (AM:II K "MOST_BEST" 60)
  (zt:II K "MOST_PRICE" 59)
  (xu:II K "MOST_THRIFT" 100)
  (uB:II K "MOST_IN_ORDER" 60)
  (zu:II K "MOST_TIMES" 1000)
  (s_:II K "GREATEST_WEIGHT" 1000000000000)
  (CV:II K "NO_FIELD" (-20))
  (YR:SI K "BAD" "bad")
  (Sj:SI K "WORD" "word")
  (Fd:SI K "LETTERS" "abcdefghijklmnopqrstuvwxyz")
  (JE:SI K "NUMBER" "number")
  (Sk:SI K "STOP" "stop")
  (YS:SI K "END" "end")
  (JF:TI K "BLANKS" aBL [.int 32,.int 10])
  (CW:TI K "RESERVED" aRS Xl)
  (tp:TI K "WITHOUT_A_FIELD" aWF (nY [0,1,19]))
  (Nk:TI K "CALLS" aCA ([yV,yL,yS,Aw,Ax,uv,vN,Av,yM,Au,yN,yO,xg,yP,yQ,yR,CK,yU,xh,yT].map V.ref))
  (sr:TI K "HOW_MANY_NUMBERS" aHM (nY MW))
  (xw:TI K "WITH_A_LIST" aWL (nY PV))
  (AN:bt K aO "Exception"=some none)
  (YT:bt K aO "all"=some none)
  (AO:bt K aO "enumerate"=some none)
  (YU:bt K aO "len"=some none)
  (Sl:bt K aO "list"=some none)
  (YV:bt K aO "max"=some none)
  (YW:bt K aO "ord"=some none)
  (Nl:bt K aO "range"=some none)
  (JG:bt K aO "sorted"=some none)
  (YX:bt K aO "str"=some none)
  (YY:bt K aO "sum"=some none)
  (YZ:bt K aO "zip"=some none)
  (aaL:CS≠CF)
  (Y0:CS≠CC)
  (aaM:CS≠CT)
  :∃fd:bK,(∀(s:au) (us:List ao),us.length=(["calls"]:List Str).length->iQ s fd ⟨us,[]⟩ ((["calls"]:List Str).zip us))/\∀base:bw,K.In base->base.Ns aO mg->nU P w K mg base oH 12 fa fd ["calls"] (E7 K):=by
 have e:=hfa.symm.trans (dt X G Bf.1)
 cases e
 obtain⟨_,fdA,F_A⟩:=Bf
 refine⟨fdA,?_,λ base _ _=>?_⟩
 ·obtain⟨oc,od,kV,doc,pm,an,oX,ct,Kn,rfl,lk,Ly⟩:=F_A.ex
  exact λ s us hu=>match us,hu with |[_],_=>.of_eq rfl
 have Pz:=cg X G AN
 have D8:=cg X G YT
 have sy:=cg X G AO
 have qh:=cg X G YU
 have Sm:=cg X G Sl
 have PB:=cg X G YV
 have ad_:=cg X G YW
 have zw:=cg X G Nl
 have Y1:=cg X G JG
 have Y2:=cg X G YX
 have D9:=cg X G YY
 have BB:=cg X G YZ
 have JH:=vU.g X G
 have v_:=vV.g X G
 have Fe:=tX.g X G
 have xx:=xm.g X G
 have BC:=xn.g X G
 have D_:=zj.g X G
 have PD:=AJ.g X G
 have PF:=AK.g X G
 have JI:=vW.g X G
 have yi:=zk.g X G
 have pE:=vX.g X G
 have wZ:=xo.g X G
 have zY:=AL.g X G
 have EJ:=Fc.g X G
 have rL:=rM.g X G
 have r8:=sj.g X G
 have yk:=zo.g X G
 have qE:=qH.g X G
 have w6:=xq.g X G
 have yn:=zp.g X G
 have uM:=zq.g X G
 have nI:=xr.g X G
 have uN:=zr.g X G
 have nG:=Si.g X G
 have nE:=vY.g X G
 have w_:=xt.g X G
 have pB:=CU.g X G
 have nX:=vZ.g X G
 have qI:=AM.g X G
 have uR:=zt.g X G
 have t_:=xu.g X G
 have rX:=uB.g X G
 have uV:=zu.g X G
 have rb:=s_.g X G
 have CH:=CV.g X G
 have Y3:=YR.g X G
 have Sn:=Sj.g X G
 have VX:=Fd.g X G
 have PH:=JE.g X G
 have HU:=Sk.g X G
 have abb:=YS.g X G
 have Y4:=JF.g X G
 have So:=CW.g X G
 have rg:=tp.g X G
 have D3:=Nk.g X G
 have qS:=sr.g X G
 have ua:=xw.g X G
 have oA:Rec P w K mg base "Cell" CC EI:=JB.rc X G (λ f fd F=>QL F JB.cl JB.na) (λ f fd F=>b5 F)
 have qr:Rec P w K mg base "Team" CT J0:=JC.rc X G (λ f fd F=>QN F JC.cl JC.na) (λ f fd F=>b3 F)
 have nJ:Rec P w K mg base "Field" CF Ck:=D5.rc X G (λ f fd F=>Oj F D5.cl D5.na) (λ f fd F=>b4 F)
 have Ea:Rec P w K mg base "Piece" CP JX:=D6.rc X G (λ f fd F=>N1 F D6.cl D6.na) (λ f fd F=>b4 F)
 have qQ:Rec P w K mg base "Bound" CB OV:=D7.rc X G (λ f fd F=>OX F D7.cl D7.na) (λ f fd F=>b3 F)
 have W:t7 P w K mg base C:=Nh.ok X G Pz
 have T:vA P w K mg base CR CP:=⟨vO.cl,vO.na _ (by simp),vO.na _ (by simp),Ea⟩
 have S:p7 K CS:=⟨ui.cl,ui.na _ (by simp),ui.na _ (by simp),ui.na _ (by simp)⟩
 have oz:=CL.hs P w base X G (λ _ F=>Qw F ) (λ _ F=>b2 F)
 have VY:=E9.hs P w base X G (λ _ F=>Xc F qh) (λ _ F=>b4 F)
 have Nm:=yW.hs P w base X G (λ _ F=>N6 F Ea JH Y3 Sn VX v_) (λ _ F=>b3 F)
 have JJ:=vS.hs P w base X G (λ _ F=>JY F Ea Fe xx Y3 PH) (λ _ F=>b3 F)
 have PJ:=Ay.hs P w base X G (λ _ F=>QA F VY v_ BC xx D_ PB) (λ _ F=>b2 F)
 have Sq:=CM.hs P w base X G (λ _ F=>UO F Ea Nm JJ v_ BC xx D_ PD HU Y3) (λ _ F=>b3 F)
 have Xv:=YQ.hs P w base X G (λ _ F=>adG F Ea PJ Sq Y4 abb qh) (λ _ F=>b1 F)
 have rT:Hz1 P w K mg base CR CP:=vP.aaH (λ f fd F=>Z_ F T.cl T.n1 T.n2) (λ f fd F=>b1 F)
 have vd:=tV.hs P w base mg (λ _ _ F=>Xg F T rT Sn) (λ _ _ F=>b2 F)
 have JK:=xi.hs P w base mg (λ _ _ F=>acb F T W rT PF) (λ _ _ F=>b2 F)
 have pW:=sf.hs P w base mg (λ _ _ F=>QD F T JK vd) (λ _ _ F=>b2 F)
 have rq:=sg.hs P w base mg (λ _ _ F=>QF F T JK rT HU) (λ _ _ F=>b1 F)
 have Cm:=sX.hs P w base mg (λ _ _ F=>UR F T JK rT abb) (λ _ _ F=>b1 F)
 have ue:=si.hs P w base mg (λ _ _ F=>QG F T JK rT Sn So) (λ _ _ F=>b1 F)
 have pT:=rB.hs P w base mg (λ _ _ F=>L_ F T W JK rT PH JI) (λ _ _ F=>b3 F)
 have M:RdM P w K mg base CR CP C:=⟨rT,vd,pW,rq,ue,pT,Cm⟩
 have RM:Xz P w K mg base CR CP:=by
  obtain⟨f,fd,Mk0,F⟩:=vO.mi
  exact⟨dt X G vO.ns,f,fd,Mk0,Md F T Xv,b2 F⟩
 have wz:=Az.hs P w base X G (λ _ F=>QH F T W M oA qh yi pE wZ zY) (λ _ F=>b3 F)
 have yl:=yX.hs P w base X G (λ _ F=>Oe F T M wz) (λ _ F=>b2 F)
 have t8:=xl.hs P w base X G (λ _ F=>Mb F T W M EJ pE) (λ _ F=>b3 F)
 have z7:=AA.hs P w base X G (λ _ F=>QJ F T W M qr t8 rL r8 HU) (λ _ F=>b3 F)
 have ym:=yY.hs P w base X G (λ _ F=>Og F T W M oA qr z7 sy qh D9 yk pE qE) (λ _ F=>b2 F)
 have qN:=yZ.hs P w base X G (λ _ F=>Om F T RM M nJ yl ym w6 yn) (λ _ F=>b1 F)
 have uW:=uX.hs P w base X G (λ _ F=>Fy F W qN qh D8 uM nI uN nG) (λ _ F=>b3 F)
 have yr:=y4.hs P w base X G (λ _ F=>Oq F qh nE) (λ _ F=>b3 F)
 have o9:=CN.hs P w base X G (λ _ F=>UW F BB D9) (λ _ F=>b2 F)
 have vD:rC P w K mg base oH 1 "together" ["had","row"] wH:=zb.has X G (λ fd F=>FT F BB) (λ fd F=>b2 F)
 have PK:rC P w K mg base oH 1 "together" ["had","row"] Cn:=zb.has X G (λ fd F=>Vm (FT F BB)) (λ fd F=>b2 F)
 have qA:=Ni.hs P w base X G (λ _ F=>aag F o9 PK oz) (λ _ F=>b3 F)
 have pI:=tW.hs P w base mg (λ _ _ F=>XF F S qh) (λ _ _ F=>b2 F)
 have nW:Wd P w K mg base CS CF CC CT:=uw.aaH (λ f fd F=>XG F S nJ oA BB yr) (λ f fd F=>b1 F)
 have qR:=xj.hs P w base mg (λ _ _ F=>acj F S nW o9) (λ _ _ F=>b1 F)
 have qV:=ux.hs P w base mg (λ _ _ F=>aah F S qh D8 nE) (λ _ _ F=>b2 F)
 have G9:uo P w K mg base oH 1 CS "begin" ["self","field"] (Mo CS CF CC CT):=vQ.aaH (λ f fd F=>aai F S nJ oA Y0) (λ f fd F=>b2 F)
 have yw:=Sh.hs P w base X G (λ _ F=>acm F ) (λ _ F=>b1 F)
 have Ae:=AB.hs P w base X G (λ _ F=>Q0 F oA yw Y2) (λ _ F=>b1 F)
 have Af:=AD.hs P w base X G (λ _ F=>Q_ F oA qr yw Y2) (λ _ F=>b2 F)
 have r9:=CO.hs P w base X G (λ _ F=>Vc F ad_) (λ _ F=>b1 F)
 have G7:=Nj.hs P w base X G (λ _ F=>aak F nJ yw Y2 Ae Af r9) (λ _ F=>b1 F)
 have pK:=AE.hs P w base X G (λ _ F=>Rc F ) (λ _ F=>b2 F)
 have p8:=y6.hs P w base X G (λ _ F=>Ox F Sm pK) (λ _ F=>b3 F)
 have uh:=JD.hs P w base X G (λ _ F=>aam F zw) (λ _ F=>b2 F)
 have rA:=AF.hs P w base X G (λ _ F=>Rg F nE pK) (λ _ F=>b3 F)
 have pU:=y8.hs P w base X G (λ _ F=>OA F Sm zw qh rA) (λ _ F=>b3 F)
 have uQ:=y9.hs P w base X G (λ _ F=>OB F o9 oz p8 pU) (λ _ F=>b3 F)
 have uS:=y_.hs P w base X G (λ _ F=>OC F o9 p8 pU oz) (λ _ F=>b3 F)
 have pL:=uA.hs P w base X G (λ _ F=>IG F o9 BB p8 oz) (λ _ F=>b4 F)
 have uU:=za.hs P w base X G (λ _ F=>OF F sy zw pK w_ Y1) (λ _ F=>b4 F)
 have DY:=uz.hs P w base mg (λ _ _ F=>IJ F S) (λ _ _ F=>b1 F)
 have p6:=sY.hs P w base mg (λ _ _ F=>GL F S D8 vD nE) (λ _ _ F=>b2 F)
 have oR:=qZ.hs P w base mg (λ _ _ F=>Cs F S D9 nE qh) (λ _ _ F=>b2 F)
 have rW:aaw P w K mg base CS CF CC CT:=vR.aaH (λ f fd F=>J5 F S nJ oA) (λ f fd F=>b1 F)
 have yE:=zc.hs P w base X G (λ _ F=>OJ F zw nE) (λ _ F=>b2 F)
 have vf:=E_.hs P w base X G (λ _ F=>Vn F sy) (λ _ F=>b4 F)
 have yF:=zd.hs P w base X G (λ _ F=>OL F zw qh PB vf) (λ _ F=>b3 F)
 have uT:=zf.hs P w base X G (λ _ F=>ON F BB yE yF sy vf PB) (λ _ F=>b4 F)
 have A_:=xk.hs P w base mg (λ _ _ F=>MG F qQ D9) (λ _ _ F=>b2 F)
 have vM:=vT.hs P w base X G (λ _ F=>J7 F ) (λ _ F=>b1 F)
 have qo:=zg.hs P w base X G (λ _ F=>OY F qr D9) (λ _ F=>b1 F)
 have qJ:=AG.hs P w base X G (λ _ F=>Ru F qr vM zw qQ qo) (λ _ F=>b2 F)
 have yK:=CQ.hs P w base X G (λ _ F=>Vr F qQ.cl D8 A_) (λ _ F=>b2 F)
 have uP:=zh.hs P w base X G (λ _ F=>O1 F qQ A_ zw qh) (λ _ F=>b2 F)
 have wJ:=AH.hs P w base X G (λ _ F=>Rv F Sm rA uP pK) (λ _ F=>b3 F)
 have oB:=Fb.hs P w base X G (λ _ F=>Vv F S nI pB qR nX) (λ _ F=>b3 F)
 have aaN:=uY.hs P w base X G (λ _ F=>Ge F S oB qV p6 nG qA nW) (λ _ F=>b3 F)
 have abc:=wL.hs P w base X G (λ _ F=>Jj F S oB qI oR nW uh pU qh nG qA) (λ _ F=>b3 F)
 have aaO:=uZ.hs P w base X G (λ _ F=>Gi F S oB qI oR nG uQ nW) (λ _ F=>b3 F)
 have aaP:=u1.hs P w base X G (λ _ F=>Gk F S oB uR oR nG uS nW) (λ _ F=>b3 F)
 have Zl:=ub.hs P w base X G (λ _ F=>DU F S t_ nI qR nX nW uT rW nG qA) (λ _ F=>b3 F)
 have aaQ:=u4.hs P w base X G (λ _ F=>Gn F S oB qV p6 nW rW uU nG qh pL) (λ _ F=>b3 F)
 have aaR:=u5.hs P w base X G (λ _ F=>Gq F S qh rX D8 pI oB p6 uh nG pL nW rW) (λ _ F=>b3 F)
 have aaS:=u6.hs P w base X G (λ _ F=>Gs F S nJ qR nX nW wJ qJ qh nG qA) (λ _ F=>b3 F)
 have acS:rC P w K mg base oH 4 "call_can" tu (Bx CS CF CC CT 0 aay):=zi.has X G (λ fd F=>Ln F S nJ qV nI nG yK qJ qh) (λ fd F=>b3 F)
 have aaT:=u7.hs P w base X G (λ _ F=>Gv F S nG G7) (λ _ F=>b3 F)
 have Zm:rC P w K mg base oH 2 "call_counts" tu (Bx CS CF CC CT 0 MN):=uc.has X G (λ fd F=>DW F S nJ nG qh qo D9) (λ fd F=>b3 F)
 have abd:=wM.hs P w base X G (λ _ F=>Jp F S D9 nW nX nG oz qR) (λ _ F=>b3 F)
 have Y5:=sZ.hs P w base X G (λ _ F=>Bz F S qR nX nG BB nW oz) (λ _ F=>b3 F)
 have abe:rC P w K mg base oH 2 "call_vain" tu (Zk CS CF CC CT 2 T_):=wN.has X G (λ fd F=>Js F S pI nE nI pB nG) (λ fd F=>b3 F)
 have abf:rC P w K mg base oH 2 "call_back" tu (Zk CS CF CC CT 2 Ua):=wO.has X G (λ fd F=>Ju F S pI nE nI pB nG) (λ fd F=>b3 F)
 have aaU:rC P w K mg base oH 2 "call_clear" tu (MP CS CF CC CT):=u9.has X G (λ fd F=>Gx F S DY nG) (λ fd F=>b3 F)
 have aaV:rC P w K mg base oH 2 "call_cells" tu (Bx CS CF CC CT 0 MR):=u_.has X G (λ fd F=>Gz F S nJ oA nG qh BB r9) (λ fd F=>b3 F)
 have Wh:rC P w K mg base oH 2 "call_evidence" ["search","numbers","cells"] (Zk CS CF CC CT 2 Bd):=rY.has X G (λ fd F=>Ar F S D8 uV nI pI sy PB rb pB nG) (λ fd F=>b3 F)
 have Ui:rC P w K mg base oH 8 "read_field" ["text"] (Uc K C CF CC CT):=qN.noX
 have aaW:=va.hs P w base X G (λ _ F=>GB F S aaL Y0 aaM nJ uW nG G9 Ui qh) (λ _ F=>b3 F)
 have hC:MY P w K mg base CS CF CC CT [yV,yL,yS,Aw,Ax,uv,vN,Av,yM,Au,yN,yO,xg,yP,yQ,yR,CK,yU,xh,yT]:=by
  refine YN (hp:=h) rfl λ i g e=>?_
  match i,e with
  |0,e=>obtain⟨_,fd,F⟩:=va;cases e;exact⟨10,fd,["search","numbers","text"],by decide,GB F S aaL Y0 aaM nJ uW nG G9 Ui qh,F.kp,b3 F⟩
  |1,e=>obtain⟨_,fd,F⟩:=uX;cases e;exact⟨9,fd,["search","numbers","text"],by decide,Fy F W qN qh D8 uM nI uN nG,F.kp,b3 F⟩
  |2,e=>obtain⟨_,fd,F⟩:=u7;cases e;exact⟨4,fd,tu,by decide,Gv F S nG G7,F.kp,b3 F⟩
  |3,e=>obtain⟨_,fd,F⟩:=wN;cases e;exact⟨2,fd,tu,by decide,Js F S pI nE nI pB nG,F.kp,b3 F⟩
  |4,e=>obtain⟨_,fd,F⟩:=wO;cases e;exact⟨2,fd,tu,by decide,Ju F S pI nE nI pB nG,F.kp,b3 F⟩
  |5,e=>obtain⟨_,fd,F⟩:=rY;cases e;exact⟨2,fd,["search","numbers","cells"],by decide,Ar F S D8 uV nI pI sy PB rb pB nG,F.kp,b3 F⟩
  |6,e=>obtain⟨_,fd,F⟩:=sZ;cases e;exact⟨4,fd,tu,by decide,Bz F S qR nX nG BB nW oz,F.kp,b3 F⟩
  |7,e=>obtain⟨_,fd,F⟩:=wM;cases e;exact⟨4,fd,tu,by decide,Jp F S D9 nW nX nG oz qR,F.kp,b3 F⟩
  |8,e=>obtain⟨_,fd,F⟩:=uY;cases e;exact⟨5,fd,tu,by decide,Ge F S oB qV p6 nG qA nW,F.kp,b3 F⟩
  |9,e=>obtain⟨_,fd,F⟩:=wL;cases e;exact⟨5,fd,tu,by decide,Jj F S oB qI oR nW uh pU qh nG qA,F.kp,b3 F⟩
  |10,e=>obtain⟨_,fd,F⟩:=uZ;cases e;exact⟨5,fd,tu,by decide,Gi F S oB qI oR nG uQ nW,F.kp,b3 F⟩
  |11,e=>obtain⟨_,fd,F⟩:=u1;cases e;exact⟨5,fd,tu,by decide,Gk F S oB uR oR nG uS nW,F.kp,b3 F⟩
  |12,e=>obtain⟨_,fd,F⟩:=ub;cases e;exact⟨4,fd,tu,by decide,DU F S t_ nI qR nX nW uT rW nG qA,F.kp,b3 F⟩
  |13,e=>obtain⟨_,fd,F⟩:=u4;cases e;exact⟨5,fd,tu,by decide,Gn F S oB qV p6 nW rW uU nG qh pL,F.kp,b3 F⟩
  |14,e=>obtain⟨_,fd,F⟩:=u5;cases e;exact⟨5,fd,["search","numbers","order"],by decide,Gq F S qh rX D8 pI oB p6 uh nG pL nW rW,F.kp,b3 F⟩
  |15,e=>obtain⟨_,fd,F⟩:=u6;cases e;exact⟨4,fd,tu,by decide,Gs F S nJ qR nX nW wJ qJ qh nG qA,F.kp,b3 F⟩
  |16,e=>obtain⟨_,fd,F⟩:=zi;cases e;exact⟨4,fd,tu,by decide,Ln F S nJ qV nI nG yK qJ qh,F.kp,b3 F⟩
  |17,e=>obtain⟨_,fd,F⟩:=u_;cases e;exact⟨2,fd,tu,by decide,Gz F S nJ oA nG qh BB r9,F.kp,b3 F⟩
  |18,e=>obtain⟨_,fd,F⟩:=uc;cases e;exact⟨2,fd,tu,by decide,DW F S nJ nG qh qo D9,F.kp,b3 F⟩
  |19,e=>obtain⟨_,fd,F⟩:=u9;cases e;exact⟨2,fd,tu,by decide,Gx F S DY nG,F.kp,b3 F⟩
  |i+20,e=>cases e
 have As:rC P w K mg base oH 11 "answer_of" ["search","call","numbers","row"] (ad5 CS CF CC CT):=AI.has X G (λ fd F=>nU.frame (RZ F S hC rg CH D3)) (λ fd F=>b4 F)
 obtain⟨fI,fdI,MS,FS⟩:=ui.mi
 exact VR F_A S MS (Mv FS S) (b1 FS) (dt X G ui.ns) qh qS ua As
end
end oj
open PySem PySem.W PyProof.Rows
set_option maxRecDepth 100000 in
set_option maxHeartbeats 0 in
theorem PySem.Challenge.cw_searchefforts_s01_answers_holds : PySem.Challenge.rw_searchefforts_s01_answers.Holds := by
 w_on;k_headS;(case hw=>exact⟨[.list [.int 2]],by decide +kernel,by decide +kernel⟩)
 k_fillS
 refine L2.Qs (r:=PySem.Challenge.rw_searchefforts_s01_answers) (k:=12) (CX:=L2.oH) (ps:=["calls"]) (sp:=oj.E7) (by decide +kernel) rfl rfl ⟨rfl,by decide,by decide⟩ (λ w h Y=>PySem.W.kIn_of Y) ?F ?S (λ _ _ _ _ z=>z)
 case F=>
  intro w mg fa h Y KX G hmg
  refine' oj.all_mk KX G hmg ?JB ?JC ?D5 ?D6 ?D7 ?vO ?ui ?Nh ?vP ?tV ?xi ?sf ?sg ?sX ?si ?rB ?tW ?uw ?xj ?ux ?vQ ?uz ?sY ?qZ ?vR ?xk ?CL ?E9 ?yW ?vS ?Ay ?CM ?YQ ?Az ?yX ?xl ?AA ?yY ?yZ ?uX ?y4 ?CN ?Ni ?Sh ?AB ?AD ?CO ?Nj ?AE ?y6 ?JD ?AF ?y8 ?y9 ?y_ ?uA ?za ?zb ?zc ?E_ ?zd ?zf ?vT ?zg ?AG ?CQ ?zh ?AH ?Fb ?uY ?wL ?uZ ?u1 ?ub ?u4 ?u5 ?u6 ?zi ?u7 ?uc ?wM ?sZ ?wN ?wO ?u9 ?u_ ?rY ?va ?AI ?Bf ?vU ?vV ?tX ?xm ?xn ?zj ?AJ ?AK ?vW ?zk ?vX ?xo ?AL ?Fc ?rM ?sj ?zo ?qH ?xq ?zp ?zq ?xr ?zr ?Si ?vY ?xt ?CU ?vZ ?AM ?zt ?xu ?uB ?zu ?s_ ?CV ?YR ?Sj ?Fd ?JE ?Sk ?YS ?JF ?CW ?tp ?Nk ?sr ?xw ?AN ?YT ?AO ?YU ?Sl ?YV ?YW ?Nl ?JG ?YX ?YY ?YZ ?aaL ?Y0 ?aaM
  (case JB=>refine' oj.Jy ?n ?pg ?hd ?po ?sa ?mk ?kc ?a ?i ?l ?c ?k (oj.p9 ?x0 (oj.p9 ?x1 (oj.p9 ?x2 (oj.p9 ?x3 (oj.CJ)))));(case n=>k_is);(case pg=>k_is);(case hd=>k_is);(case po=>k_is);(case sa=>k_is);(case mk=>k_is);(case kc=>k_is);(case a=>k_is);(case i=>k_is);(case l=>k_is);(case c=>k_is);(case k=>k_is);(case x0=>k_is);(case x1=>k_is);(case x2=>k_is);(case x3=>k_is))
  (case JC=>refine' oj.Jy ?n ?pg ?hd ?po ?sa ?mk ?kc ?a ?i ?l ?c ?k (oj.p9 ?x0 (oj.p9 ?x1 (oj.CJ)));(case n=>k_is);(case pg=>k_is);(case hd=>k_is);(case po=>k_is);(case sa=>k_is);(case mk=>k_is);(case kc=>k_is);(case a=>k_is);(case i=>k_is);(case l=>k_is);(case c=>k_is);(case k=>k_is);(case x0=>k_is);(case x1=>k_is))
  (case D5=>refine' oj.Jy ?n ?pg ?hd ?po ?sa ?mk ?kc ?a ?i ?l ?c ?k (oj.p9 ?x0 (oj.p9 ?x1 (oj.p9 ?x2 (oj.CJ))));(case n=>k_is);(case pg=>k_is);(case hd=>k_is);(case po=>k_is);(case sa=>k_is);(case mk=>k_is);(case kc=>k_is);(case a=>k_is);(case i=>k_is);(case l=>k_is);(case c=>k_is);(case k=>k_is);(case x0=>k_is);(case x1=>k_is);(case x2=>k_is))
  (case D6=>refine' oj.Jy ?n ?pg ?hd ?po ?sa ?mk ?kc ?a ?i ?l ?c ?k (oj.p9 ?x0 (oj.p9 ?x1 (oj.p9 ?x2 (oj.CJ))));(case n=>k_is);(case pg=>k_is);(case hd=>k_is);(case po=>k_is);(case sa=>k_is);(case mk=>k_is);(case kc=>k_is);(case a=>k_is);(case i=>k_is);(case l=>k_is);(case c=>k_is);(case k=>k_is);(case x0=>k_is);(case x1=>k_is);(case x2=>k_is))
  (case D7=>refine' oj.Jy ?n ?pg ?hd ?po ?sa ?mk ?kc ?a ?i ?l ?c ?k (oj.p9 ?x0 (oj.p9 ?x1 (oj.CJ)));(case n=>k_is);(case pg=>k_is);(case hd=>k_is);(case po=>k_is);(case sa=>k_is);(case mk=>k_is);(case kc=>k_is);(case a=>k_is);(case i=>k_is);(case l=>k_is);(case c=>k_is);(case k=>k_is);(case x0=>k_is);(case x1=>k_is))
  (case vO=>refine' oj.Jy ?n ?pg ?hd ?po ?sa ?mk ?kc ?a ?i ?l ?c ?k (oj.p9 ?x0 (oj.p9 ?x1 (oj.CJ)));(case n=>k_is);(case pg=>k_is);(case hd=>k_is);(case po=>k_is);(case sa=>k_is);(case mk=>k_is);(case kc=>k_is);(case a=>k_is);(case i=>k_is);(case l=>k_is);(case c=>k_is);(case k=>k_is);(case x0=>k_is);(case x1=>k_is))
  (case ui=>refine' oj.Jy ?n ?pg ?hd ?po ?sa ?mk ?kc ?a ?i ?l ?c ?k (oj.p9 ?x0 (oj.p9 ?x1 (oj.p9 ?x2 (oj.CJ))));(case n=>k_is);(case pg=>k_is);(case hd=>k_is);(case po=>k_is);(case sa=>k_is);(case mk=>k_is);(case kc=>k_is);(case a=>k_is);(case i=>k_is);(case l=>k_is);(case c=>k_is);(case k=>k_is);(case x0=>k_is);(case x1=>k_is);(case x2=>k_is))
  (case Nh=>refine' oj.ad8 ?ns ?c ?m ?hd ?sa ?ga ?ty ?ng ?n1 ?n2 ?lC ?lN ?hN ?hi ?l ?cI ?kp ?d ?k;(case ns=>k_is);(case c=>k_is);(case m=>rfl);(case hd=>rfl);(case sa=>k_is);(case ga=>k_is);(case ty=>k_is);(case ng=>k_is);(case n1=>k_is);(case n2=>k_is);(case lC=>k_is);(case lN=>k_is);(case hN=>rfl);(case hi=>k_is);(case l=>k_is);(case cI=>rfl);(case kp=>k_is);(case d=>k_is);(case k=>k_is))
  (case vP=>refine' oj.tG ?a ?i ?l ?c ?k;(case a=>k_is);(case i=>k_is);(case l=>k_is);(case c=>k_is);(case k=>k_is))
  (case tV=>refine' oj.tG ?a ?i ?l ?c ?k;(case a=>k_is);(case i=>k_is);(case l=>k_is);(case c=>k_is);(case k=>k_is))
  (case xi=>refine' oj.tG ?a ?i ?l ?c ?k;(case a=>k_is);(case i=>k_is);(case l=>k_is);(case c=>k_is);(case k=>k_is))
  (case sf=>refine' oj.tG ?a ?i ?l ?c ?k;(case a=>k_is);(case i=>k_is);(case l=>k_is);(case c=>k_is);(case k=>k_is))
  (case sg=>refine' oj.tG ?a ?i ?l ?c ?k;(case a=>k_is);(case i=>k_is);(case l=>k_is);(case c=>k_is);(case k=>k_is))
  (case sX=>refine' oj.tG ?a ?i ?l ?c ?k;(case a=>k_is);(case i=>k_is);(case l=>k_is);(case c=>k_is);(case k=>k_is))
  (case si=>refine' oj.tG ?a ?i ?l ?c ?k;(case a=>k_is);(case i=>k_is);(case l=>k_is);(case c=>k_is);(case k=>k_is))
  (case rB=>refine' oj.tG ?a ?i ?l ?c ?k;(case a=>k_is);(case i=>k_is);(case l=>k_is);(case c=>k_is);(case k=>k_is))
  (case tW=>refine' oj.tG ?a ?i ?l ?c ?k;(case a=>k_is);(case i=>k_is);(case l=>k_is);(case c=>k_is);(case k=>k_is))
  (case uw=>refine' oj.tG ?a ?i ?l ?c ?k;(case a=>k_is);(case i=>k_is);(case l=>k_is);(case c=>k_is);(case k=>k_is))
  (case xj=>refine' oj.tG ?a ?i ?l ?c ?k;(case a=>k_is);(case i=>k_is);(case l=>k_is);(case c=>k_is);(case k=>k_is))
  (case ux=>refine' oj.tG ?a ?i ?l ?c ?k;(case a=>k_is);(case i=>k_is);(case l=>k_is);(case c=>k_is);(case k=>k_is))
  (case vQ=>refine' oj.tG ?a ?i ?l ?c ?k;(case a=>k_is);(case i=>k_is);(case l=>k_is);(case c=>k_is);(case k=>k_is))
  (case uz=>refine' oj.tG ?a ?i ?l ?c ?k;(case a=>k_is);(case i=>k_is);(case l=>k_is);(case c=>k_is);(case k=>k_is))
  (case sY=>refine' oj.tG ?a ?i ?l ?c ?k;(case a=>k_is);(case i=>k_is);(case l=>k_is);(case c=>k_is);(case k=>k_is))
  (case qZ=>refine' oj.tG ?a ?i ?l ?c ?k;(case a=>k_is);(case i=>k_is);(case l=>k_is);(case c=>k_is);(case k=>k_is))
  (case vR=>refine' oj.tG ?a ?i ?l ?c ?k;(case a=>k_is);(case i=>k_is);(case l=>k_is);(case c=>k_is);(case k=>k_is))
  (case xk=>refine' oj.tG ?a ?i ?l ?c ?k;(case a=>k_is);(case i=>k_is);(case l=>k_is);(case c=>k_is);(case k=>k_is))
  (case CL=>refine' oj.oq ?a ?l ?c ?k;(case a=>k_is);(case l=>k_is);(case c=>k_is);(case k=>k_is))
  (case E9=>refine' oj.oq ?a ?l ?c ?k;(case a=>k_is);(case l=>k_is);(case c=>k_is);(case k=>k_is))
  (case yW=>refine' oj.oq ?a ?l ?c ?k;(case a=>k_is);(case l=>k_is);(case c=>k_is);(case k=>k_is))
  (case vS=>refine' oj.oq ?a ?l ?c ?k;(case a=>k_is);(case l=>k_is);(case c=>k_is);(case k=>k_is))
  (case Ay=>refine' oj.oq ?a ?l ?c ?k;(case a=>k_is);(case l=>k_is);(case c=>k_is);(case k=>k_is))
  (case CM=>refine' oj.oq ?a ?l ?c ?k;(case a=>k_is);(case l=>k_is);(case c=>k_is);(case k=>k_is))
  (case YQ=>refine' oj.oq ?a ?l ?c ?k;(case a=>k_is);(case l=>k_is);(case c=>k_is);(case k=>k_is))
  (case Az=>refine' oj.oq ?a ?l ?c ?k;(case a=>k_is);(case l=>k_is);(case c=>k_is);(case k=>k_is))
  (case yX=>refine' oj.oq ?a ?l ?c ?k;(case a=>k_is);(case l=>k_is);(case c=>k_is);(case k=>k_is))
  (case xl=>refine' oj.oq ?a ?l ?c ?k;(case a=>k_is);(case l=>k_is);(case c=>k_is);(case k=>k_is))
  (case AA=>refine' oj.oq ?a ?l ?c ?k;(case a=>k_is);(case l=>k_is);(case c=>k_is);(case k=>k_is))
  (case yY=>refine' oj.oq ?a ?l ?c ?k;(case a=>k_is);(case l=>k_is);(case c=>k_is);(case k=>k_is))
  (case yZ=>refine' oj.oq ?a ?l ?c ?k;(case a=>k_is);(case l=>k_is);(case c=>k_is);(case k=>k_is))
  (case uX=>refine' oj.oq ?a ?l ?c ?k;(case a=>k_is);(case l=>k_is);(case c=>k_is);(case k=>k_is))
  (case y4=>refine' oj.oq ?a ?l ?c ?k;(case a=>k_is);(case l=>k_is);(case c=>k_is);(case k=>k_is))
  (case CN=>refine' oj.oq ?a ?l ?c ?k;(case a=>k_is);(case l=>k_is);(case c=>k_is);(case k=>k_is))
  (case Ni=>refine' oj.oq ?a ?l ?c ?k;(case a=>k_is);(case l=>k_is);(case c=>k_is);(case k=>k_is))
  (case Sh=>refine' oj.oq ?a ?l ?c ?k;(case a=>k_is);(case l=>k_is);(case c=>k_is);(case k=>k_is))
  (case AB=>refine' oj.oq ?a ?l ?c ?k;(case a=>k_is);(case l=>k_is);(case c=>k_is);(case k=>k_is))
  (case AD=>refine' oj.oq ?a ?l ?c ?k;(case a=>k_is);(case l=>k_is);(case c=>k_is);(case k=>k_is))
  (case CO=>refine' oj.oq ?a ?l ?c ?k;(case a=>k_is);(case l=>k_is);(case c=>k_is);(case k=>k_is))
  (case Nj=>refine' oj.oq ?a ?l ?c ?k;(case a=>k_is);(case l=>k_is);(case c=>k_is);(case k=>k_is))
  (case AE=>refine' oj.oq ?a ?l ?c ?k;(case a=>k_is);(case l=>k_is);(case c=>k_is);(case k=>k_is))
  (case y6=>refine' oj.oq ?a ?l ?c ?k;(case a=>k_is);(case l=>k_is);(case c=>k_is);(case k=>k_is))
  (case JD=>refine' oj.oq ?a ?l ?c ?k;(case a=>k_is);(case l=>k_is);(case c=>k_is);(case k=>k_is))
  (case AF=>refine' oj.oq ?a ?l ?c ?k;(case a=>k_is);(case l=>k_is);(case c=>k_is);(case k=>k_is))
  (case y8=>refine' oj.oq ?a ?l ?c ?k;(case a=>k_is);(case l=>k_is);(case c=>k_is);(case k=>k_is))
  (case y9=>refine' oj.oq ?a ?l ?c ?k;(case a=>k_is);(case l=>k_is);(case c=>k_is);(case k=>k_is))
  (case y_=>refine' oj.oq ?a ?l ?c ?k;(case a=>k_is);(case l=>k_is);(case c=>k_is);(case k=>k_is))
  (case uA=>refine' oj.oq ?a ?l ?c ?k;(case a=>k_is);(case l=>k_is);(case c=>k_is);(case k=>k_is))
  (case za=>refine' oj.oq ?a ?l ?c ?k;(case a=>k_is);(case l=>k_is);(case c=>k_is);(case k=>k_is))
  (case zb=>refine' oj.oq ?a ?l ?c ?k;(case a=>k_is);(case l=>k_is);(case c=>k_is);(case k=>k_is))
  (case zc=>refine' oj.oq ?a ?l ?c ?k;(case a=>k_is);(case l=>k_is);(case c=>k_is);(case k=>k_is))
  (case E_=>refine' oj.oq ?a ?l ?c ?k;(case a=>k_is);(case l=>k_is);(case c=>k_is);(case k=>k_is))
  (case zd=>refine' oj.oq ?a ?l ?c ?k;(case a=>k_is);(case l=>k_is);(case c=>k_is);(case k=>k_is))
  (case zf=>refine' oj.oq ?a ?l ?c ?k;(case a=>k_is);(case l=>k_is);(case c=>k_is);(case k=>k_is))
  (case vT=>refine' oj.oq ?a ?l ?c ?k;(case a=>k_is);(case l=>k_is);(case c=>k_is);(case k=>k_is))
  (case zg=>refine' oj.oq ?a ?l ?c ?k;(case a=>k_is);(case l=>k_is);(case c=>k_is);(case k=>k_is))
  (case AG=>refine' oj.oq ?a ?l ?c ?k;(case a=>k_is);(case l=>k_is);(case c=>k_is);(case k=>k_is))
  (case CQ=>refine' oj.oq ?a ?l ?c ?k;(case a=>k_is);(case l=>k_is);(case c=>k_is);(case k=>k_is))
  (case zh=>refine' oj.oq ?a ?l ?c ?k;(case a=>k_is);(case l=>k_is);(case c=>k_is);(case k=>k_is))
  (case AH=>refine' oj.oq ?a ?l ?c ?k;(case a=>k_is);(case l=>k_is);(case c=>k_is);(case k=>k_is))
  (case Fb=>refine' oj.oq ?a ?l ?c ?k;(case a=>k_is);(case l=>k_is);(case c=>k_is);(case k=>k_is))
  (case uY=>refine' oj.oq ?a ?l ?c ?k;(case a=>k_is);(case l=>k_is);(case c=>k_is);(case k=>k_is))
  (case wL=>refine' oj.oq ?a ?l ?c ?k;(case a=>k_is);(case l=>k_is);(case c=>k_is);(case k=>k_is))
  (case uZ=>refine' oj.oq ?a ?l ?c ?k;(case a=>k_is);(case l=>k_is);(case c=>k_is);(case k=>k_is))
  (case u1=>refine' oj.oq ?a ?l ?c ?k;(case a=>k_is);(case l=>k_is);(case c=>k_is);(case k=>k_is))
  (case ub=>refine' oj.oq ?a ?l ?c ?k;(case a=>k_is);(case l=>k_is);(case c=>k_is);(case k=>k_is))
  (case u4=>refine' oj.oq ?a ?l ?c ?k;(case a=>k_is);(case l=>k_is);(case c=>k_is);(case k=>k_is))
  (case u5=>refine' oj.oq ?a ?l ?c ?k;(case a=>k_is);(case l=>k_is);(case c=>k_is);(case k=>k_is))
  (case u6=>refine' oj.oq ?a ?l ?c ?k;(case a=>k_is);(case l=>k_is);(case c=>k_is);(case k=>k_is))
  (case zi=>refine' oj.oq ?a ?l ?c ?k;(case a=>k_is);(case l=>k_is);(case c=>k_is);(case k=>k_is))
  (case u7=>refine' oj.oq ?a ?l ?c ?k;(case a=>k_is);(case l=>k_is);(case c=>k_is);(case k=>k_is))
  (case uc=>refine' oj.oq ?a ?l ?c ?k;(case a=>k_is);(case l=>k_is);(case c=>k_is);(case k=>k_is))
  (case wM=>refine' oj.oq ?a ?l ?c ?k;(case a=>k_is);(case l=>k_is);(case c=>k_is);(case k=>k_is))
  (case sZ=>refine' oj.oq ?a ?l ?c ?k;(case a=>k_is);(case l=>k_is);(case c=>k_is);(case k=>k_is))
  (case wN=>refine' oj.oq ?a ?l ?c ?k;(case a=>k_is);(case l=>k_is);(case c=>k_is);(case k=>k_is))
  (case wO=>refine' oj.oq ?a ?l ?c ?k;(case a=>k_is);(case l=>k_is);(case c=>k_is);(case k=>k_is))
  (case u9=>refine' oj.oq ?a ?l ?c ?k;(case a=>k_is);(case l=>k_is);(case c=>k_is);(case k=>k_is))
  (case u_=>refine' oj.oq ?a ?l ?c ?k;(case a=>k_is);(case l=>k_is);(case c=>k_is);(case k=>k_is))
  (case rY=>refine' oj.oq ?a ?l ?c ?k;(case a=>k_is);(case l=>k_is);(case c=>k_is);(case k=>k_is))
  (case va=>refine' oj.oq ?a ?l ?c ?k;(case a=>k_is);(case l=>k_is);(case c=>k_is);(case k=>k_is))
  (case AI=>refine' oj.oq ?a ?l ?c ?k;(case a=>k_is);(case l=>k_is);(case c=>k_is);(case k=>k_is))
  (case Bf=>refine' oj.oq ?a ?l ?c ?k;(case a=>k_is);(case l=>k_is);(case c=>k_is);(case k=>k_is))
  (case vU=>refine' oj.pZ ?a;(case a=>k_is))
  (case vV=>refine' oj.pZ ?a;(case a=>k_is))
  (case tX=>refine' oj.pZ ?a;(case a=>k_is))
  (case xm=>refine' oj.pZ ?a;(case a=>k_is))
  (case xn=>refine' oj.pZ ?a;(case a=>k_is))
  (case zj=>refine' oj.pZ ?a;(case a=>k_is))
  (case AJ=>refine' oj.pZ ?a;(case a=>k_is))
  (case AK=>refine' oj.pZ ?a;(case a=>k_is))
  (case vW=>refine' oj.pZ ?a;(case a=>k_is))
  (case zk=>refine' oj.pZ ?a;(case a=>k_is))
  (case vX=>refine' oj.pZ ?a;(case a=>k_is))
  (case xo=>refine' oj.pZ ?a;(case a=>k_is))
  (case AL=>refine' oj.pZ ?a;(case a=>k_is))
  (case Fc=>refine' oj.pZ ?a;(case a=>k_is))
  (case rM=>refine' oj.pZ ?a;(case a=>k_is))
  (case sj=>refine' oj.pZ ?a;(case a=>k_is))
  (case zo=>refine' oj.pZ ?a;(case a=>k_is))
  (case qH=>refine' oj.pZ ?a;(case a=>k_is))
  (case xq=>refine' oj.pZ ?a;(case a=>k_is))
  (case zp=>refine' oj.pZ ?a;(case a=>k_is))
  (case zq=>refine' oj.pZ ?a;(case a=>k_is))
  (case xr=>refine' oj.pZ ?a;(case a=>k_is))
  (case zr=>refine' oj.pZ ?a;(case a=>k_is))
  (case Si=>refine' oj.pZ ?a;(case a=>k_is))
  (case vY=>refine' oj.pZ ?a;(case a=>k_is))
  (case xt=>refine' oj.pZ ?a;(case a=>k_is))
  (case CU=>refine' oj.pZ ?a;(case a=>k_is))
  (case vZ=>refine' oj.pZ ?a;(case a=>k_is))
  (case AM=>refine' oj.pZ ?a;(case a=>k_is))
  (case zt=>refine' oj.pZ ?a;(case a=>k_is))
  (case xu=>refine' oj.pZ ?a;(case a=>k_is))
  (case uB=>refine' oj.pZ ?a;(case a=>k_is))
  (case zu=>refine' oj.pZ ?a;(case a=>k_is))
  (case s_=>refine' oj.pZ ?a;(case a=>k_is))
  (case CV=>refine' oj.pZ ?a;(case a=>k_is))
  (case YR=>refine' oj.Lr ?a;(case a=>k_is))
  (case Sj=>refine' oj.Lr ?a;(case a=>k_is))
  (case Fd=>refine' oj.Lr ?a;(case a=>k_is))
  (case JE=>refine' oj.Lr ?a;(case a=>k_is))
  (case Sk=>refine' oj.Lr ?a;(case a=>k_is))
  (case YS=>refine' oj.Lr ?a;(case a=>k_is))
  (case JF=>refine' oj.E8 ?a ?l ?z ?v;(case a=>k_is);(case l=>k_is);(case z=>rfl);(case v=>decide +kernel))
  (case CW=>refine' oj.E8 ?a ?l ?z ?v;(case a=>k_is);(case l=>k_is);(case z=>rfl);(case v=>decide +kernel))
  (case tp=>refine' oj.E8 ?a ?l ?z ?v;(case a=>k_is);(case l=>k_is);(case z=>rfl);(case v=>decide +kernel))
  (case Nk=>refine' oj.E8 ?a ?l ?z ?v;(case a=>k_is);(case l=>k_is);(case z=>rfl);(case v=>decide +kernel))
  (case sr=>refine' oj.E8 ?a ?l ?z ?v;(case a=>k_is);(case l=>k_is);(case z=>rfl);(case v=>decide +kernel))
  (case xw=>refine' oj.E8 ?a ?l ?z ?v;(case a=>k_is);(case l=>k_is);(case z=>rfl);(case v=>decide +kernel))
  (case AN=>k_is)
  (case YT=>k_is)
  (case AO=>k_is)
  (case YU=>k_is)
  (case Sl=>k_is)
  (case YV=>k_is)
  (case YW=>k_is)
  (case Nl=>k_is)
  (case JG=>k_is)
  (case YX=>k_is)
  (case YY=>k_is)
  (case YZ=>k_is)
  (case aaL=>decide)
  (case Y0=>decide)
  (case aaM=>decide)
 case S=>
  intro K H xs a hO hwi acL hx
  cases hx with
  |cons h1 h2=>
   cases h2
   cases h1 with
   |lst hs ha=>
    have e:=L2.S_ a.1 _ ha
    subst e
    exact⟨_,a.1,rfl,hs,acL,λ H' p hp=>.lst (L2.nF.of hp) (L2.S9 _)⟩
