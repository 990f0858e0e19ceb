import PyProof.Rows.All
import Wide.All
import OpenK.AllK
import Wide.FinOn
import PyProof.EqAt
import PyProof.EqKinds
import PyProof.TupleCall
import PyProof.TupleKey
import PyProof.DictRoadsH
import KE.BitLaws
import PyProof.MeetsDictList
import PyProof.SetKind
import PyProof.Rows.SetFrom
import KE.KSortTup
import KE.KDictSum
import KE.KSortTupAny
import KE.KSortTupG
import PySem.Challenge.RW_acrosstongues_s01_answers
import KE.KDictList
import KE.KRevIter
import PyVbdhaj
import KE.KLam
import KE.KSortKey
import Open.SpecLaws
import KE.OsHead
import KE.OsGo
import KE.KNest
import KE.SpHead
import KE.OsShapes
set_option maxHeartbeats 0
set_option Elab.async false
set_option linter.all false
set_option maxRecDepth 100000
open Array renaming getElem?_toList->km,length_toList->mF,forIn_toList->n4,getD_eq_getD_getElem?->ui,getElem?_eq_getElem->xw,getElem?_eq_none->xx,replicate->xy,getElem?_eq_some_iff->Ig,getElem?_eq_none_iff->Ih
open Array.Perm renaming toList->Ii
open Bool renaming and_eq_true->bX,false_ne_true->BG,eq_iff_iff->gU,noConfusion->jc,false_eq_true->mG,not_eq_true'->pM,not_eq_true->rp,beq_eq_decide_eq->xA,true_and->uj,false_and->BH,and_false->BI,and_comm->BJ
open Classical renaming propDecidable->uk,byContradiction->BK
open False renaming elim->cP
open ForInStep renaming yield->pO
open Iff renaming rfl->jG
open Int renaming ofNat_inj->iB
open List renaming length_map->ak,mem_of_getElem?->bL,mem_map->cQ,mem_cons_of_mem->bP,getElem?_eq_getElem->cN,mem_cons_self->lq,length_append->b0,map_append->bO,getElem?_eq_some_iff->Ij,take_length->cp,mem_filter->eh,mem_cons->kn,getElem?_map->cY,map_cons->cg,mem_append->gg,length_cons->dh,map_map->cq,pairwise_map->iC,range->dd,length_filter_le->eX,append_nil->dR,filter_sublist->n6,append_assoc->eK,contains_iff_mem->gj,getD_eq_getElem?_getD->jH,mem_filterMap->gk,filter_eq_self->BL,perm_ext_iff_of_nodup->lr,mem_of_mem_take->jd,nodup_cons->gm,mem_range->fO,mem_append_right->jI,all_eq_true->hV,length_filterMap_le->lu,foldl_append->iD,ext_getElem?->iE,mem_iff_getElem?->ko,mem_flatMap->iF,nodup_append->je,filter_congr->jJ,eq_nil_of_length_eq_zero->pP,pairwise_cons->kr,mem_singleton->ku,filter_cons->jK,set_set->gV,filterMap_cons->lx,map_congr_left->iG,flatMap_append->ly,nodup_nil->jf,any_eq_true->kv,size_toArray->lz,flatMap_cons->lA,take_append_drop->n8,filterMap_append->n9,map_nil->jg,filter_append->n_,length->Ik,mapM_cons->lB,dropLast_concat_getLast->um,range'->jL,findSome?_eq_none_iff->uo,length_take->n',length_range->pQ,map_take->mH,map_drop->mI,getElem?_set_self->uq,take_of_length_le->ur,filter_eq_nil_iff->uu,getElem?_drop->rq,take_sublist->rr,getElem?_set->rx,pairwise_iff_getElem->xB,eraseIdx_eq_take_drop_succ->BM,filter_map->ry,take_zero->rA,getElem?_set_ne->xC,length_drop->uv,mem_of_mem_drop->xD,any_cons->rB,findSome?_cons->xE,drop_eq_getElem_cons->BN,drop_zero->uw,reverse_cons->xF,all_cons->ux,range'_succ->xG,getElem?_reverse->BO,all_map->uy,pairwise_append->BP,foldl_cons->xH,getElem?_range->BQ,drop_drop->xI,takeWhile_cons_of_pos->Il,dropWhile_cons_of_pos->Im,getElem?_append_left->Io,getElem?_zip_eq_some->Ip,getElem?_eq_none_iff->Iq,of_mem_zip->BR,forIn_cons->BS,range_succ->BU,range_succ_eq_map->Ir,map_id->xJ,drop_of_length_le->Iu,take_succ->BV,map->uz,sum_cons->BW,set_comm->BX
open List.Pairwise renaming imp_of_mem->uA,sublist->Iv,imp->Iw,nil->Iy
open List.Perm renaming cons->rC,trans->BY
open List.cons renaming inj->xK
open Nat renaming le_refl->aQ,le_trans->bp,le_of_ble_eq_true->aaX,ne_of_lt->b9,lt_of_lt_of_le->d5,zero_le->cG,lt_irrefl->pR,mul_right_comm->mJ,mod_two_eq_zero_or_one->uB,ne_of_gt->lC,pow_le_pow_right->rD,mul_lt_mul_of_pos_right->xM,lt_of_mul_lt_mul_right->xN,lt_succ_of_lt->rE,eq_of_testBit_eq->uC,le_of_lt->oe,not_lt_zero->rF,lt_succ_self->uD,min_eq_left->uE,le_of_eq->rG,gcd->lD,le_add_right->xO,testBit_and->xP,lt_of_le_of_lt->BZ,le_of_succ_le->B0,le_of_lt_succ->B1,lt_trichotomy->B2,lt_trans->xQ,zero_add->xR,mod_eq_of_lt->B3,zero_testBit->B4,mul_div_cancel_left->Iz,le_max_left->B5,testBit_or->B6,mod_lt->xS
open Ne renaming symm->fP
open Option renaming map_eq_some_iff->mK,isSome_map->B7,map->uF,isSome_iff_exists->IA,none->xT
open Option.some renaming inj->gn
open Or renaming inl->uG,inr->eM
open Prod renaming ext->uH
open PyFlat renaming calls->lE,rows->pT,told->pU,played->xU
open PyProof.Rows renaming seqObj->c_,callWith_type1->pV,envOfC->gW,listUpdate_at->pW,get?_update_seq->rH,step_dedup->og,seqEpoch_at->uI,size_push'->uJ,AllBare->pX
open PyProof.Rows.F renaming entry_set_update_loop->IB
open PyProof.Rows.G renaming sortHeap6->IC
open PySem renaming wpAny_bind->ab,wpAny_pure->ah,Value->aJ,wpAny->aj,model->aV,sizeLine_eq->bK,starEach->a_,Program->aO,sizeLine->bq,World->aA,Shared->bH,foldedSetIterable->eB,cLine->bf,FuncData->b_,mainGlobals->de,wpAny_call_entry->fv,mem_of_lookup->hW,wpAny_holding->fj,compEnvC->dw,wpAny_setState_of->hX,wpAny_mono->ej,boot_len->gX,sysModules->eS,keywordEach->fw,wpAny_newObj_type->jM,wpAny_dictEntries->jN,Around->di,Paired->dj,backTo->eC,behindInMarks->hY,bootBuiltins->gY,compareOp->eY,swapsWith->eZ,cellsFrom->e7,wpAny_isInstance->kC,PassesOwn->fQ,backToKw->fx,wpAny_forIn_list->mL,codeAny_mono->jO,wpAny_askSetting->mM,attributeBase->kE,wpAny_callSpecial?_slot->rJ,wpAny_truthy_bool->oh,wpAny_specialOf->mN,assignEach->jh,wpAny_Call_Name_kw->pY,wpAny_dictEpoch->oi,codeAny_builtin->oj,wpAny_typeNameOfWhole_keyiter->xV,wpAny_typeNameOfWhole_valiter->xW,binaryOp->iH,Scope->eT,wpAny_passesOwn->pZ,wpAny_pyIter_list->rK,Keyword->ID,wpAny_setField->p0,Builtin->iI,rawInt->gZ,wpAny_setEntries_of->uK,wpAny_attempt->p9,wpAny_pyIter_slot->uL,wpAny_setEpoch_of->uM,wpAny_notOrdered_dict->xX,wpAny_fieldsOf->rL,wpAny_pyIter_revIter->xY,SetTable->lF,codeAny_call_builtin->xZ,sliceBounds->p_,PyData->jP,pyNext->jQ,pushCells->om,codeAny->lG,wpAny_pyIter_enum->x4,wpAny_isOneOf_valiter->B8,wpAny_rule->rM,wpAny_execs_nil->x5,pyIter->lH,wpAny_call->rN,pushCells_keeps->x6,size_of_entries->x8,codeAny_of_tree->x9,wpAny_seqItems->x_,recursionLimit->x',entryFor->qa,entryFor_alias->ya,wpAny_of_eq->uN,wpAny_tupleItemsOf->B9,isTrue->mO,DictEntry->rO,wpAny_standAt->yb,plainId_quiet->yc,wpAny_newList->yd,ofAClassStatement->B_,wpAny_storeSet_of->B',wpAny_Call_method->Ca,entryOfKey->uO,typeLookup->uP,holding->qb,entry_at->rP,wpAny_typeOf->ye,letOwnedTupleGo->Cb,getMethod->uQ,Arguments->uR,subscripted->yf,Within->Cc
open PySem.Around renaming frames_deeper->IE
open PySem.Builtin renaming bitAnd->qc,bitNot->uS,bitOr->uT
open PySem.Builtin.Dict renaming showsAll->Cd
open PySem.Builtin.Frozenset renaming isAnySet->rQ,updateFrom->yg,unchanged->IF
open PySem.Builtin.List renaming listTooLong->Ce,listExtendWith->IG,listSameRef->IH
open PySem.Builtin.Tuple renaming tupleHashOf->uU
open PySem.Calls renaming spliced_cons->rR,callWith_builtin->yh,spliced_nil->uV,evalArgs_plain->Cg,Name_function_global->II
open PySem.Code renaming quiet_builtin->Ci
open PySem.Draws renaming list->yi
open PySem.F renaming plainAttrs_list->jR,called_set->jS,slot_list_append->mP,type_list_append->oo,slot_dict_keyiterator_next->rS,slot_dict_valueiterator_next->uW,slot_list_extend->uX,slot_tuple_hash->uY,type_list_extend->Cj,args_dict_valueiterator_next_1->IJ,entry_type_call->Ck,plainAttrs_dict->Cm,entry_dict_valueiterator_next->IK,args_dict_keyiterator_next_1->IL,entry_dict_keyiterator_next->IM,slot_dict_keyiterator_iter->IP,slot_dict_setdefault->IQ,slot_list_index->IS,typeCall_set_1->IT,entry_set_init->IU,slot_dict_pop->IV,slot_tuple_lt->IW,slot_set_iter->IX,slot_set_and->IY,slot_set_or->IZ
open PySem.Heap renaming get?_push_of_some->bM,lt_size->bx,get?_push_size->cH,SameBut->dN,size_push->g0,get?_update_self->oq,size_update->rT,get?_push_ne->uZ,get?_update_ne->yj,get?_update_other->I0,ExtBut->yk
open PySem.Heap.SameBut renaming update->ot,refl->ym
open PySem.NameKind renaming free->yn
open PySem.Obj renaming mapSeq->g6,data_mapFields->ou,isFreed_of_fields->yo,data_mapDictKeys->yp,cls_mapFields->yq,putSet->rV,mapFields->yr
open PySem.Paired renaming length->bQ,snoc->jT
open PySem.PassesOwn renaming never->eN
open PySem.PyData renaming canLayAll0->hZ,eqvAll->fR,depthAll->h5,eqv->gp,canLay0->mQ,int->kF,depth->mR
open PySem.SeqAt renaming shaped->ox
open PySem.SeqAt.EqAt renaming int_str->I7,str_int->I_
open PySem.SetTable renaming runEnd->gq,insertAt->qd,sizeAbove->Co,fill->yt,turns->yu,below->Cp
open PySem.SetTable.layClean renaming free->rW
open PySem.SetTable.probe renaming go->u0
open PySem.SetTable.sizeAbove renaming go->I'
open PySem.Value renaming ref->bD,type->iJ,none->ji,bool->mS
open PySem.W renaming Frag->au,mg_none_of->kG,findIn->mT,fnOf->mU,mg_of->oy,keepIn->mV,WData->fy,instObj->rX,emptyDict->u5,plainGet->yw,kas_asc->mW,plainGet_of->Cq,lookIn->yx,WellAll->oz,length_le_weightAllW->Ja,codeIn->u6,kas_place->rY,hasDictIn->Cr,takerIn->Cs,cellsFrom_some->Jb,hideAll_size->Jc,hideAll_none->Jd,hideAll_get->Je,makesIn->Ct,isFn->Cu
open PySem.W.Codec renaming encAll->yy
open PySem.W.WData renaming weightAll->yz
open PySem.pickOrder renaming go->Cv
open PyVbdhaj renaming shape->jU,answers->Cw,answers_asked->Jf
open Sum renaming inl->mX
open True renaming intro->qe
open Vbdhaj renaming sensesOf->ae,Sense->aw,equals->av,members->bg,paired->b6,pairOf->bR,inRange->dS,onTongues->cR,start->dU,senseOf->cz,addSense->da,cutAt->cI,isText->fS,classOf->dO,int->e8,fields->dW,common->eD,twins->iK,countSenses->iL,bytes->dH,toldSenses->h7,rowsOut->fT,no->iM,Pair->kH,setOf->eE,lessText->iN,onSense->h8,Found->fk,toldSense->kI,readLines->kJ,lacking->kK,classes->iO,TONGUES->qf,addPair->iP,added->fB,commas->lI,putFound->kM,isField->kN,better->yA,isWord->kO,row->oA,coverBy->lJ,Book->rZ,fewest->u7,readLine->oB,printLine->qg,yes->r0,toldField->r4,gaps->yB,closed->Cy
open VbdhajNeutral renaming asked1->Jg,asked->Jh,row->Ji
set_option hygiene false
def isQ_:Lean.Syntax->Bool|.ident _ _ (.str .anonymous n) _=>n.length>1&&'Q'<=n.front&&n.front<='Z'|_=>false
local macro_rules(kind:=ident)|x=>if isQ_ x then match x with
|`(VD)=>`(by decide+kernel)
|`(Qa)=>`(by omega)
|`(RP)=>`(by repeat(first|exact .nil|refine .u ?_|refine .eq rfl ?_))
|`(Qt)=>`((s).heap.objs.size)
|`(Qj)=>`(by simp)
|`(QD)=>`(by decide)
|`(Qb)=>`(false)
|`(Qm)=>`(by grind)
|`(Qk)=>`("book")
|`(Qg)=>`((X).env)
|`(SH)=>`(Qdy (match b,hl with|[_],_=>rfl))
|`(Tu)=>`(Qdy (match b,hl with|[_,_,_],_=>rfl))
|`(Qu)=>`(xs.length)
|`(Qo)=>`(QR Int)
|`(Ql)=>`((s).heap)
|`(Qi)=>`(Qc o)
|`(QB)=>`(by rfl)
|`(Xf)=>`(Qdy (match b,hl with|[_,_,_,_],_=>rfl))
|`(Qr)=>`((X).prog)
|`(QU)=>`(QR Nat)
|`(QC)=>`(QR aw)
|`(YQ)=>`(Qdy (match b,hl with|[_,_,_,_,_],_=>rfl))
|`(QZ)=>`(QR Addr)
|`(Yi)=>`(Qdy (match b,hl with|[_,_],_=>rfl))
|`(QaJ)=>`(λ_ _ e=>e)
|`(Zu)=>`((eC pos (a_ es X.env)).any (·.1)=false)
|`(QhG)=>`(("__debug__"))
|`(QO)=>`(QR Sl)
|`(Xg)=>`({s with heap:=h',toks:=tk})
|`(Yj)=>`(if lt _ _=true then _ else _)
|`(Qz)=>`(Qc x)
|`(Sg)=>`((X).env.scope)
|`(Tv)=>`(by simp;omega)
|`(Vg)=>`(by simpa using c)
|`(Rq)=>`("list")
|`(QT)=>`(Qn l)
|`(RJ)=>`("text")
|`(RQ)=>`(trivial)
|`(S9)=>`(ns.length)
|`(Qw)=>`(Qq rfl)
|`(QK)=>`(S_ uG)
|`(QS)=>`(Q1 a)
|`(Qdz)=>`(Ri aJ)
|`(RK)=>`(QhH _)
|`(QE)=>`(To s)
|`(Rt)=>`(Qcv s2)
|`(RY)=>`((X).A.units)
|`(Yk)=>`(show false=true from p)
|`(Z8)=>`(by obtain⟨a,ns,rfl,_⟩:=h;rfl)
|`(Qhq)=>`(QdA QD)
|`(Q0)=>`(QeE c)
|`(VE)=>`(by kernel_rfl)
|`(T6)=>`((X).env.locals)
|`(WD)=>`(s3.heap.objs.size)
|`(QeF)=>`(λj=>!((dm fs).getD k []).any λm=>decide (j∈(dm fs).getD m []))
|`(Xh)=>`(λh=>by cases h)
|`(Ta)=>`(kvs.length)
|`(Xi)=>`({s with heap:=h'})
|`(Tb)=>`(RC none)
|`(Qcw)=>`((if([]:List ID).isEmpty then 0 else 1))
|_=>Lean.Macro.throwUnsupported else Lean.Macro.throwUnsupported
local macro_rules(kind:=ident)|x=>if isQ_ x then match x with
|`(Rp)=>`((L).tb.cl)
|`(Tw)=>`(hit.typeIs)
|`(Q7)=>`((t).mask)
|`(RR)=>`("self")
|`(Tx)=>`(Xj False)
|`(YR)=>`((X).jj.heap.objs.size)
|`(Uw)=>`("enumerate")
|`(Ru)=>`(lq ..)
|`(YS)=>`(by rw[ak,bK];omega)
|`(UQ)=>`(SV "tuple")
|`(Tp)=>`(f.score.2)
|`(Ue)=>`((T).ok.three)
|`(RS)=>`((A).units)
|`(Sr)=>`("told")
|`(QA)=>`(QhI w)
|`(R6)=>`(YT V.int)
|`(Ux)=>`("reversed")
|`(QbC)=>`({s with heap:=h',toks:=t'})
|`(Vh)=>`(RL rfl)
|`(QeG)=>`(by rw[ax (a c _ q (λ_ _ z=>nomatch z))];exact q)
|`(Qgp)=>`({D with nx:=Cf H0 j O (L (k+1)),ct:=Cf H0 j O (L (k+1)),bk:=wB X ss D})
|`(Vi)=>`(SV "set")
|`(T7)=>`(fs.length)
|`(Tc)=>`(QR Expr)
|`(YU)=>`(S_ aaX)
|`(Sh)=>`(["row"])
|`(Vj)=>`(Qc .local)
|`(Zv)=>`(("__classdict__"))
|`(Zw)=>`(s1.heap.objs.size)
|`(Ug)=>`(hs.length)
|`(Tq)=>`((L).tm.len)
|`(Qcx)=>`({s with heap:=s.heap.push _})
|`(Rg)=>`(Qc v)
|`(Q2)=>`(To t)
|`(Uy)=>`(Xj rfl)
|`(Z9)=>`(by simpa using h)
|`(Sw)=>`((a).units)
|`(Z_)=>`(by simpa using d)
|`(XO)=>`("equivalents")
|`(Uz)=>`("refusal")
|`(VF)=>`((y).lay.fits)
|`(QaK)=>`(by show 2<=bq;decide)
|`(VG)=>`(items.size)
|`(UA)=>`(Q1 Qt)
|`(Xk)=>`(h'.objs.size)
|`(Qgq)=>`(if b6 b m n x y=false then(b,[-6])else(jV b (bR m n x y),[0]))
|`(TM)=>`("common")
|`(WE)=>`(by rw[ak])
|`(Q8)=>`(QR V)
|`(SW)=>`(SV Rq)
|`(Z')=>`(by rw[bK];omega)
|`(SX)=>`(Qp rfl)
|`(Vk)=>`(ps.length)
|`(Vl)=>`(zs.length)
|`(QdB)=>`({s with heap:=s.heap.push new})
|`(QaL)=>`(by simpa using e)
|`(Qgr)=>`(Q5 Hp)
|`(Wi)=>`(["fields"])
|`(QaM)=>`(by simpa using a)
|`(Wj)=>`(vs.toArray)
|_=>Lean.Macro.throwUnsupported else Lean.Macro.throwUnsupported
local macro_rules(kind:=ident)|x=>if isQ_ x then match x with
|`(Rj)=>`(Qc u)
|`(Vm)=>`(Q1 p)
|`(R7)=>`(QR a6)
|`(QdC)=>`({D with nx:=N,ct:=N,bk:=D.nx})
|`(UR)=>`("row")
|`(Td)=>`("found")
|`(Vn)=>`(RC rfl)
|`(VH)=>`((A).handled)
|`(R8)=>`((c).same)
|`(Te)=>`(UB p)
|`(QF)=>`(QhJ rfl)
|`(QI)=>`(YV s)
|`(Tr)=>`(QhK Obj)
|`(Yl)=>`(λ_ _ h=>h)
|`(Si)=>`((o).data)
|`(QhL)=>`(Q5 bH)
|`(V1)=>`(vs.length)
|`(V2)=>`(g.score.2)
|`(US)=>`(QR Stmt)
|`(Wk)=>`(λq=>?_)
|`(TN)=>`("range")
|`(QeH)=>`(#[.int lo t,.int hi u,.int 1 v])
|`(QbD)=>`(by simpa using b)
|`(Qaa)=>`("set_iterator")
|`(VI)=>`(XP oC)
|`(VJ)=>`(Xj aaY)
|`(Qcy)=>`(by rw[e];exact qe)
|`(Qcz)=>`(#[.ref l,.int 0 0])
|`(Rr)=>`(Ra s)
|`(VL)=>`(pos.line)
|`(Uh)=>`(QR Str)
|`(QdD)=>`(by rw[ak,bK];simp;omega)
|`(WG)=>`(As.length)
|`(SY)=>`(Q5 VK)
|`(RD)=>`(QhM X)
|`(Ui)=>`(T8 l)
|`(QcA)=>`(SV "list_iterator")
|`(UC)=>`(X.N[i]?)
|`(WH)=>`(S_ .inr)
|`(Tf)=>`((a).heap)
|`(Tg)=>`((s).toks)
|`(QdE)=>`(by intro _ h;cases h)
|`(S0)=>`(QL i)
|`(Sj)=>`(Qn a)
|`(Qgs)=>`((if k=f then(k,v)::r else(k,x)::h9 f v r))
|`(Qgt)=>`({D with nx:=b (i+1),ct:=b (i+1),bk:=D.nx})
|`(UT)=>`("field")
|`(Wl)=>`(Q1 ob)
|`(YW)=>`("sorted")
|`(QcB)=>`("with_equivalents")
|`(SI)=>`(Q1 b)
|`(YX)=>`(SV "dict")
|`(Qab)=>`(by simp[z])
|`(XQ)=>`(Qc .cell)
|`(QcC)=>`(λx=>x.1.isSome)
|`(Qgu)=>`(λe=>by subst e;rw[m _ _ G]at B;cases B)
|`(RT)=>`(Ra t)
|`(Qgv)=>`(by rw[bQ h,(hl i).1];exact(hl i).2.2)
|`(Vo)=>`("other")
|`(R9)=>`(Qc c)
|_=>Lean.Macro.throwUnsupported else Lean.Macro.throwUnsupported
local macro_rules(kind:=ident)|x=>if isQ_ x then match x with
|`(WI)=>`(Q1 it)
|`(WJ)=>`(Qc none)
|`(YY)=>`(f.1.length)
|`(WK)=>`("second")
|`(QdF)=>`(by intro z;cases z)
|`(TQ)=>`(UU xs)
|`(R_)=>`(QR _)
|`(UD)=>`(Q1 q)
|`(VM)=>`((s).toNat)
|`(Sk)=>`(Qs c)
|`(Sf)=>`(.none)
|`(Ym)=>`(f.score.1)
|`(T9)=>`("call")
|`(Qac)=>`((X).env.cells)
|`(Qgw)=>`(if u=s then B.bA s++[x]else B.bA u)
|`(UW)=>`(QR cJ)
|`(QeI)=>`(items[items.size- 1- i]?)
|`(Uj)=>`(Q1 l)
|`(QdG)=>`(by simpa using i)
|`(Qgx)=>`({D with nx:=N,ct:=N,bk:=wB X ss D})
|`(Q3)=>`((X).xe)
|`(QbE)=>`(Q1 f)
|`(Uk)=>`(Xl h)
|`(YZ)=>`(Qc .free)
|`(Wm)=>`(Ri Int)
|`(WL)=>`(S_ eM)
|`(UE)=>`(QR Nk)
|`(Wn)=>`((a).three)
|`(Wo)=>`((z).toNat)
|`(QeJ)=>`({s with toks:=s.toks+1})
|`(Sx)=>`(outer)
|`(QeK)=>`("answer_of_two_tongues")
|`(QdH)=>`(by rw[c];decide)
|`(QeL)=>`((by show 1<=bq;decide))
|`(UX)=>`(params)
|`(QcD)=>`(by size_fits)
|`(QeM)=>`({D with nx:=wB X ss D})
|`(WM)=>`((a).names)
|`(QeN)=>`(Qs (by rw[hsz];simp))
|`(QdI)=>`(s2.heap.objs.size)
|`(QdJ)=>`(by rw[ak];omega)
|`(WN)=>`("links")
|`(QdK)=>`("how_many_shared")
|`(WO)=>`("first")
|`(QcE)=>`(UB pos')
|`(Vp)=>`((X).base)
|`(Qgy)=>`(λv z=>by rw[d]at z;cases z)
|`(Qgz)=>`(λv z=>by rw[m]at z;cases z)
|`(Zx)=>`(Sb.length)
|`(QeO)=>`((zs.map (·.1)).Nodup)
|`(QbF)=>`("read_sense")
|`(QeP)=>`("equivalents_as_bits")
|`(Zy)=>`("seconds")
|`(QeQ)=>`(by simp at h;omega)
|`(Th)=>`(RV b)
|`(Wq)=>`(Q1 C)
|`(Xm)=>`(Qs QD)
|`(QdL)=>`(λ_ _ _=>False)
|`(Wr)=>`(QR aJ)
|`(QeR)=>`("refuse_sense_bytes")
|_=>Lean.Macro.throwUnsupported else Lean.Macro.throwUnsupported
local macro_rules(kind:=ident)|x=>if isQ_ x then match x with
|`(QeS)=>`("paired_with_itself")
|`(QeT)=>`("what_goes_with_all")
|`(Rb)=>`((I).a5)
|`(Qad)=>`(λb=>?_)
|`(QgA)=>`({nx:=λ_ H'=>Q .a9 H',rt:=Q})
|`(Zz)=>`(V.int)
|`(Ts)=>`(G[i]?)
|`(QaN)=>`("__name__")
|`(QaO)=>`("<lambda>")
|`(QaP)=>`("by_score")
|`(Xn)=>`(Q1 D)
|`(Tz)=>`(Qp c)
|`(TR)=>`(Qn S)
|`(Qae)=>`(λl=>?_)
|`(TC)=>`((y).dat)
|`(QdM)=>`(by rw[e];simp)
|`(QdN)=>`("type.__call__")
|`(XR)=>`("tuple")
|`(V3)=>`("part")
|`(XS)=>`("start")
|`(QeU)=>`("refuse_sense_text")
|`(V4)=>`(xs[k]?)
|`(Qaf)=>`(is.length)
|`(QdO)=>`("closed_around")
|`(QbG)=>`("first_row")
|`(QdP)=>`("counted_sense")
|`(QcF)=>`(λ_ _ x=>x)
|`(QcG)=>`(λ_ _ b=>b)
|`(ZA)=>`(S_ aaZ)
|`(QcH)=>`(by simp[h])
|`(WQ)=>`(Q1 _)
|`(XT)=>`(.free)
|`(QaQ)=>`(by simp[])
|`(QgB)=>`(by rw[BL.mpr (by simp)])
|`(QeV)=>`("read_equivalents")
|`(QeW)=>`("greatest_divisor")
|`(ZC)=>`("firsts")
|`(QcI)=>`("all_fields")
|`(ZD)=>`("answer")
|`(T_)=>`(V5 b)
|`(Yn)=>`((X).stack)
|`(Y0)=>`(Qc QS)
|`(QgC)=>`(λe=>by subst e;simp at h)
|`(QeX)=>`(λb=>by cases b)
|`(QbH)=>`(λe=>e.2)
|`(QbI)=>`(nomatch e)
|`(QdQ)=>`("refuse_bytes")
|`(Yo)=>`("count")
|`(WR)=>`((I).bare)
|`(Yp)=>`(SV T)
|`(QcJ)=>`(λx=>!x.1)
|`(WS)=>`(Sm hx)
|`(Qag)=>`(Ti fA)
|`(QbJ)=>`(["things"])
|`(QhN)=>`(RC cK)
|`(QgD)=>`(λy _ D _ _ _ _ _=>jW)
|`(WT)=>`(QR Fl)
|`(Vq)=>`(QbK u)
|`(QaR)=>`(us.length)
|`(QaS)=>`(pl.isList)
|_=>Lean.Macro.throwUnsupported else Lean.Macro.throwUnsupported
local macro_rules(kind:=ident)|x=>if isQ_ x then match x with
|`(QeY)=>`("read_dictionary")
|`(QaT)=>`("missing")
|`(QeZ)=>`("ask_equivalents")
|`(UG)=>`([QS])
|`(Y1)=>`(Qs Qj)
|`(VN)=>`(Q1 t)
|`(Y2)=>`(T8 a)
|`(Yq)=>`(Xl a)
|`(Y3)=>`(es.size)
|`(QcK)=>`("unblanked")
|`(QdR)=>`("read_senses")
|`(QcL)=>`(AT.boot_set)
|`(QgE)=>`(by intro _ z;cases z)
|`(QgF)=>`("set_iterator.__next__")
|`(QgG)=>`("set_iterator.__iter__")
|`(QdS)=>`("answer_call")
|`(QQ)=>`(QhO Str)
|`(Qah)=>`(Ws e)
|`(VO)=>`(QhP s2)
|`(UH)=>`(Sy Qb)
|`(Vr)=>`(QhQ YU)
|`(UY)=>`(QgH Qah)
|`(QbL)=>`(QhR cpos.line)
|`(SJ)=>`(Qai a)
|`(WU)=>`(Qe0 k)
|`(WV)=>`(SO Ent)
|`(V6)=>`(QhS 58)
|`(S1)=>`(Qai b)
|`(Qaj)=>`(QgI QhN)
|`(XU)=>`(QbM Ent)
|`(Yr)=>`(S4 Nat)
|`(Xo)=>`(TH b)
|`(WW)=>`(Qn b)
|`(Ul)=>`(Sy x)
|`(QaU)=>`(S5 new)
|`(WX)=>`(Qhr l)
|`(Xp)=>`(UI Nk)
|`(Qe1)=>`({s with heap:=d})
|`(Qe2)=>`("refuse_tongues")
|`(Qe3)=>`("how_many_pairs")
|`(Qe4)=>`("there_and_back")
|`(Xq)=>`("held")
|`(Qe5)=>`("fields_as_bits")
|`(Qe6)=>`("counted_senses")
|`(Qe7)=>`("ask_dictionary")
|`(Qe8)=>`("refuse_to_pair")
|`(Qe9)=>`("answer_of_text")
|`(UZ)=>`((A).in1)
|`(U0)=>`(Y4 v)
|`(Xr)=>`(Qc e)
|`(U1)=>`(Qc q)
|`(QaV)=>`(QdA rfl)
|`(U2)=>`([UY])
|`(WY)=>`(Q1 d)
|`(ZE)=>`(ot ..)
|`(U3)=>`([RJ])
|`(ZF)=>`(Qhs QC)
|`(QgJ)=>`(by simp[br,bB,at_,a'])
|`(Qfa)=>`(by rw[hx];rfl)
|`(Qfb)=>`(λz=>nomatch z)
|_=>Lean.Macro.throwUnsupported else Lean.Macro.throwUnsupported
local macro_rules(kind:=ident)|x=>if isQ_ x then match x with
|`(Vs)=>`(Qs h)
|`(QdT)=>`(λ_ _ q=>q)
|`(ZG)=>`(Qs Qm)
|`(V7)=>`(Qc y)
|`(ZH)=>`(Qp Qa)
|`(WZ)=>`(Qn d)
|`(ZI)=>`((f).names)
|`(ZJ)=>`(QR Ent)
|`(QbN)=>`(λk=>?_)
|`(ZK)=>`(QR Qo)
|`(XW)=>`(Qhs aw)
|`(QbO)=>`(ys.length)
|`(Vt)=>`(items)
|`(QdU)=>`("told_sense")
|`(QbP)=>`("entries")
|`(QbQ)=>`("bits_of")
|`(Qfc)=>`("goes_with_all")
|`(Qfd)=>`("places_around")
|`(Qfe)=>`("refuse_senses")
|`(Qff)=>`("refuse_fields")
|`(QdV)=>`("told_field")
|`(QbR)=>`(g.score.1)
|`(QdW)=>`("read_calls")
|`(Qfg)=>`("answer_change")
|`(QaW)=>`(Ri Addr)
|`(QaX)=>`((p).isList)
|`(QaY)=>`((w).params)
|`(QcM)=>`(λz=>Qm)
|`(QcN)=>`(by cases e)
|`(QcO)=>`("split_at")
|`(VP)=>`(QbS x)
|`(QbT)=>`(Ri Nat)
|`(VQ)=>`(QR a)
|`(VR)=>`(Qp a)
|`(QdX)=>`(VS "len")
|`(XX)=>`(Ws o)
|`(Wt)=>`(Qn L)
|`(VT)=>`(ZL b)
|`(QdY)=>`(Qc "key")
|`(QgK)=>`(by unfold yu;omega)
|`(QgL)=>`(by simp at a;omega)
|`(QgM)=>`(by rw[bQ h,(hl i).1])
|`(QgN)=>`("dict_valueiterator")
|`(Ys)=>`(QbU hs)
|`(Qfh)=>`((L.map (·.1)))
|`(Qfi)=>`((L.map (·.2)))
|`(Qfj)=>`("printed_line")
|`(Qfk)=>`("lacking_over")
|`(Qfl)=>`("class_around")
|`(Qfm)=>`("right_within")
|`(Qfn)=>`("refuse_sense")
|`(Qfo)=>`("tell_entries")
|`(V8)=>`((o).cls)
|`(ZM)=>`(QL n)
|`(XY)=>`(Qc k)
|`(QcP)=>`(VS YW)
|`(QgO)=>`(λvs H Q E h=>?_)
|`(Xs)=>`(W0 b)
|`(Qak)=>`(QR QU)
|`(Qfp)=>`(λx o e=>?_)
|_=>Lean.Macro.throwUnsupported else Lean.Macro.throwUnsupported
local macro_rules(kind:=ident)|x=>if isQ_ x then match x with
|`(V9)=>`(Qp h)
|`(Qal)=>`((c).three)
|`(QaZ)=>`(Qp Vh)
|`(Qfq)=>`(λc=>c !=58)
|`(QdZ)=>`(["numbers"])
|`(QgP)=>`(by simpa using L)
|`(Qam)=>`(kvs[i]?)
|`(QgQ)=>`(by simpa using g)
|`(V_)=>`(Sl.ow)
|`(Qd0)=>`("has_sense")
|`(Qd1)=>`(rows.length)
|`(Qan)=>`("ahead")
|`(QgR)=>`(by dsimp only;omega)
|`(Y5)=>`(QcQ kP)
|`(Y6)=>`((e).symm)
|`(QcR)=>`((I).ok.kind)
|`(W2)=>`(Qs a)
|`(QbV)=>`(Qc true)
|`(Qd2)=>`(λ_=> #[])
|`(Wu)=>`((T).len)
|`(Qd3)=>`((Q0).same)
|`(Y7)=>`(RZ vs)
|`(QbW)=>`(Xj Cz)
|`(Wv)=>`(Qa0 _)
|`(W3)=>`(Ra m)
|`(Qfr)=>`(XZ toS)
|`(QcS)=>`(λz=>?_)
|`(QgS)=>`(RC out.toArray)
|`(QbX)=>`(QbY u9)
|`(QcT)=>`(["calls"])
|`(Qd4)=>`((VO).same)
|`(Y8)=>`("len")
|`(QgT)=>`("dict_keyiterator")
|`(QcU)=>`(xs.toList)
|`(QgU)=>`(t.place.toList[i]?)
|`(Qd5)=>`(by rw[e])
|`(QcV)=>`(ks.length)
|`(Qfs)=>`("all_lacking")
|`(Qft)=>`("is_complete")
|`(Qfu)=>`("all_classes")
|`(QgV)=>`(by exact eM rfl)
|`(Qfv)=>`("lies_within")
|`(QgW)=>`(by exact uG rfl)
|`(Qfw)=>`("ask_classes")
|`(Qfx)=>`("ask_lacking")
|`(Qfy)=>`("words_alike")
|`(QcW)=>`("answers")
|`(Qfz)=>`(λ_ _ z=>z)
|`(QfA)=>`(by simp[c])
|`(Qa1)=>`(QR Env)
|`(W4)=>`(Y4 y)
|`(Qa2)=>`(U4 b)
|`(Qa3)=>`(QR ID)
|`(Qa4)=>`(Qs Qa)
|`(W5)=>`(Qs e)
|`(Qa5)=>`(ZN kvs)
|`(Y9)=>`(QW n)
|`(W6)=>`(To m)
|`(W7)=>`(To u)
|`(Qa6)=>`((b).pairs)
|_=>Lean.Macro.throwUnsupported else Lean.Macro.throwUnsupported
local macro_rules(kind:=ident)|x=>if isQ_ x then match x with
|`(SQ)=>`((T).ht)
|`(Qd6)=>`("__init__")
|`(W8)=>`(names)
|`(Qd7)=>`(y.lay.size.2)
|`(W9)=>`(p.2.1)
|`(Qd8)=>`(f.2.length)
|`(Ry)=>`(Qht .u)
|`(QX)=>`(Y_ "t")
|`(Yt)=>`(Y_ RJ)
|`(Y')=>`(Qhu e.1)
|`(X0)=>`(Qhu x)
|`(Qao)=>`(QfB .dict)
|`(Yu)=>`(QfC S9)
|`(Ua)=>`(QhT s)
|`(Qa7)=>`(QfB .mY)
|`(VU)=>`(QfD a)
|`(W_)=>`(Qhv "x")
|`(Ww)=>`(QbZ n)
|`(QcX)=>`(Sa z.2)
|`(ZO)=>`(UJ xs)
|`(ZP)=>`((I).free)
|`(QcY)=>`(YT aI)
|`(ZQ)=>`((x).word)
|`(Qa8)=>`(QR α)
|`(S6)=>`((T).hs)
|`(ZR)=>`((a).same)
|`(QfE)=>`("bits_ahead")
|`(QfF)=>`("ask_senses")
|`(QfG)=>`("ask_counts")
|`(QfH)=>`("ask_fields")
|`(QfI)=>`("ask_closed")
|`(QfJ)=>`("ask_within")
|`(QfK)=>`("ask_fewest")
|`(QfL)=>`(¬(u=s/\z=x))
|`(QfM)=>`("add_senses")
|`(QfN)=>`("over_third")
|`(ZS)=>`(Ri V)
|`(Yv)=>`(V' _)
|`(Qb0)=>`(Za e)
|`(Qd9)=>`(λk=>Qj)
|`(Xt)=>`(["x"])
|`(Qb1)=>`(Um n)
|`(Xu)=>`([Sr])
|`(Qea)=>`(Qc QcE)
|`(QcZ)=>`(Ws Te)
|`(Qc0)=>`(λi=>?_)
|`(Xv)=>`((L).eqs)
|`(Xw)=>`(Qc1 x)
|`(Qeb)=>`(λd=>?_)
|`(QfO)=>`(λys=>Qfr)
|`(Qec)=>`(Qhv Sr)
|`(Qed)=>`(λh=>?_)
|`(QgX)=>`(λz l j q=>?_)
|`(QgY)=>`(by rw[hs];rfl)
|`(Qc2)=>`((x).typeIs)
|`(Qc3)=>`(Qb2 Addr)
|`(Qc4)=>`(λh=>h.2)
|`(Qc5)=>`(Q6 ht)
|`(Qc6)=>`(X1 3000)
|`(Qc7)=>`((d).weight)
|_=>Lean.Macro.throwUnsupported else Lean.Macro.throwUnsupported
local macro_rules(kind:=ident)|x=>if isQ_ x then match x with
|`(Qc8)=>`("extend")
|`(Qb3)=>`(UI Str)
|`(Zb)=>`(Qc a)
|`(Qb4)=>`(UB a)
|`(QgZ)=>`(λf s1 q=>?_)
|`(QfP)=>`((o).ExactDict)
|`(Qb5)=>`(U4 c)
|`(Qee)=>`(λc=>?_)
|`(Qg0)=>`(λc v _ q=>q)
|`(Qef)=>`((p).perturb)
|`(X2)=>`(QhU A)
|`(X3)=>`(Qc9 j)
|`(X4)=>`(To n)
|`(Yw)=>`(Ra n)
|`(Qap)=>`(QR C3)
|`(Qeg)=>`(σ.length)
|`(X5)=>`("set")
|`(Qeh)=>`(hl.isList)
|`(QfQ)=>`("is_number")
|`(QfR)=>`("read_line")
|`(Qb6)=>`("place")
|`(Qei)=>`("counted")
|`(Qg1)=>`("overfull_with")
|`(QfS)=>`("ask_twins")
|`(QfT)=>`("ask_alike")
|`(Qb7)=>`(1048576)
|`(Qda)=>`(QbY yC)
|`(QfU)=>`(λl hl=>?_)
|`(QfV)=>`(λc=>c.1)
|`(QfW)=>`(λu=>Vq)
|`(SR)=>`(Qej aJ)
|`(QhV)=>`(QhW x)
|`(W')=>`(Qhw a)
|`(Zc)=>`(Qhx Qj)
|`(SK)=>`((QhV))
|`(Qaq)=>`(Qa9 Tag)
|`(ZT)=>`(TJ St)
|`(Qdb)=>`(Xx op)
|_=>Lean.Macro.throwUnsupported else Lean.Macro.throwUnsupported
local macro_rules(kind:=Lean.Parser.Term.app)|x=>if isQ_ x[0] then match x with
|`(Qn $a)=>`(($a).length)
|`(Qc $a)=>`(some $a)
|`(QR $a)=>`(List $a)
|`(Qdy $a)=>`(λ_ _ _ _ _ _ b hl=>$a)
|`(Qs $a)=>`(if_neg $a)
|`(Q1 $a)=>`(.ref $a)
|`(Ss $a $b)=>`(⟨$a,rfl,$b⟩)
|`(Qp $a)=>`(if_pos $a)
|`(Qba $a $b)=>`(⟨rfl,$a,$b⟩)
|`(RE $a $b)=>`(Qc ($a $b))
|`(Xa $a $b $c $d $e $f)=>`(⟨$a,$b,rfl,$c,$d,$e,$f⟩)
|`(Qh $a $b $c)=>`(⟨$a,$b,$c⟩)
|`(Ri $a)=>`(Option $a)
|`(QV $a)=>`(decide $a)
|`(Qe $a $b)=>`(⟨$a,$b⟩)
|`(Qq $a)=>`(.inl $a)
|`(QH $a $b)=>`(($a).trans $b)
|`(TU $a $b)=>`(QR ($a×$b))
|`(Qar $a $b)=>`(($a).heap.get? $b)
|`(Rk $a $b)=>`(absurd $a $b)
|`(X6 $a $b)=>`($a true $b)
|`(To $a)=>`($a∈dY)
|`(Q5 $a)=>`($a->Prop)
|`(Qek $a $b)=>`(⟨$a,$b,rfl⟩)
|`(Xj $a)=>`(λ_ _=>$a)
|`(RO $a)=>`(λf e F=>$a)
|`(QfX $a)=>`(⟨rfl,$a⟩)
|`(SV $a)=>`(.type $a)
|`(QG $a $b)=>`(($a).map $b)
|`(Qx $a $b)=>`(Qn ($a $b))
|`(QY $a $b)=>`(($a).keep $b)
|`(RC $a)=>`(λ_=>$a)
|`(S_ $a)=>`($a rfl)
|`(Qhy $a $b $c $d $e)=>`(x_call $a $b $c $d $e)
|`(Rc $a $b)=>`(.cons $a $b)
|`(RF $a $b $c $d)=>`(⟨$a,$b,rfl,$c,$d⟩)
|`(Sm $a)=>`(take_snoc $a)
|`(Rf $a $b)=>`(($a).take $b)
|`(QP $a $b)=>`(Qn $a<=$b)
|`(QhX $a $b)=>`(($a).env.cells.lookup $b)
|`(TK $a)=>`(decide_eq_false $a)
|`(QhH $a)=>`(af.refl $a)
|`(Wx $a $b)=>`(.Name $a $b)
|`(Sd $a $b)=>`(($a).filter $b)
|`(Qy $a)=>`(.inr $a)
|`(Xl $a)=>`(($a).objs.size)
|`(Qv $a)=>`($a=true)
|`(QL $a)=>`(.int $a)
|`(ZL $a)=>`(($a).senses.length)
|`(Qcv $a)=>`(s1.trans $a)
|`(Wa $a $b $c)=>`(Qn ($a $b $c))
|`(QhY $a $b $c $d $e $f $g)=>`($a $b $c $d $e (λ_=>$f) $g)
|`(Q6 $a)=>`(bF.of $a)
|`(TV $a $b)=>`(($a).filterMap $b)
|`(Qa0 $a)=>`(X6 .v $a)
|`(QJ $a $b)=>`(Qv ($a $b))
|`(Rm $a $b $c)=>`(Qv ($a $b $c))
|`(QdA $a)=>`(Ss rfl $a)
|`(Qg2 $a $b $c $d $e)=>`(Xa $a $b $c rfl $d $e)
|`(QhZ $a $b $c $d $e $f $g)=>`(QhY $a $b $c $d (λ_=>$e) $f $g)
|_=>Lean.Macro.throwUnsupported else Lean.Macro.throwUnsupported
local macro_rules(kind:=Lean.Parser.Term.app)|x=>if isQ_ x[0] then match x with
|`(QeE $a)=>`(QY $a s1)
|`(RL $a)=>`(Qe rfl $a)
|`(UK $a)=>`(Qc (Q1 $a))
|`(V' $a)=>`(Qe $a rfl)
|`(RZ $a)=>`(RE .lst $a)
|`(Yx $a $b $c $d)=>`(Qhy $a $b $c (by show 2<=1000;decide) $d)
|`(Q4 $a)=>`(λb o e=>$a)
|`(Qh0 $a $b)=>`(($a).heap.push $b)
|`(Q9 $a $b $c)=>`(QG ($a $b) $c)
|`(QW $a)=>`(($a :Int))
|`(QfY $a $b $c $d $e)=>`($a $b pins $c $d $e)
|`(UU $a)=>`(RE .tup $a)
|`(X7 $a)=>`(($a).pairs.length)
|`(Qhz $a $b)=>`($a prog $b)
|`(Qh1 $a $b $c $d $e)=>`(λ_ _ _ _ _=>$a (i:=$b) $c $d $e)
|`(Qbb $a $b $c $d)=>`(QfY Inv $a $b $c $d)
|`(TX $a $b)=>`(Qa0 ($a $b))
|`(Qh2 $a $b $c $d)=>`(Qg2 $a $b $c $d VD)
|`(QhI $a)=>`(Qhz aV $a)
|`(XP $a)=>`(Qhz $a w)
|`(Qbc $a)=>`(∃(a:Addr)(ns:List Int),$a)
|`(X8 $a $b)=>`(($a).env.scope.names.lookup $b)
|`(QhM $a)=>`(Qv ($a).calm)
|`(Yy $a $b $c)=>`(.Attribute $a $b $c)
|`(Zd $a $b $c)=>`(.Subscript $a $b $c)
|`(Q_ $a)=>`(Qe $a ?_)
|`(Sz $a $b)=>`(Qh $a $b rfl)
|`(YT $a)=>`(ns.map $a)
|`(QbK $a)=>`(QP $a 16000)
|`(X9 $a $b)=>`(($a).a5.fresh $b)
|`(Xy $a)=>`(sc.names.lookup $a)
|`(Yz $a)=>`(of_decide_eq_true $a)
|`(Ti $a)=>`(xs.map $a)
|`(V5 $a)=>`(h'.get? $a)
|`(Qb8 $a $b $c $d $e $f $g)=>`($a (P:=$b) (w:=$c) (mg:=$d) (base:=base) (ps:=$e) $f $g)
|`(Ra $a)=>`(TX aI $a)
|`(Qg3 $a $b $c)=>`(Qbb $a σ $b $c)
|`(Qh3 $a $b $c)=>`(Qh2 $a $b $c VD)
|`(U5 $a $b $c $d $e $f)=>`(QhZ $a $b $c $d $e Qhq $f)
|`(Xz $a $b $c)=>`($a $b (λHb d H Q c q=>$c))
|`(Qbd $a $b $c $d $e)=>`(λ_ _ H _ _ _ _ e f q=>⟨$a,$b,$c,$d,$e⟩)
|`(Rz $a $b $c)=>`(Qc ($a $b $c))
|`(Rn $a $b $c)=>`(⟨$a,rfl,$b,$c⟩)
|`(RW $a $b)=>`(($a).flatMap $b)
|`(Qh4 $a $b)=>`(Qh3 $a $b VD)
|`(SM $a $b)=>`(Qg3 X $a $b)
|`(Qh5 $a $b $c $d $e)=>`(U5 aa0 $a $b $c $d $e)
|`(XA $a $b)=>`(Rz .gr $a $b)
|`(Rh $a)=>`(Qe _ $a)
|`(UB $a)=>`(Wx x $a)
|`(U6 $a $b)=>`(Wa ae $a $b)
|`(VS $a)=>`(.builtin $a)
|`(Rv $a $b)=>`(Qh $a $b ?_)
|`(T8 $a)=>`(Rf $a k)
|`(Qh6 $a $b $c $d $e $f $g)=>`(Qhy $a $b $c $d ($e $f $g))
|`(QhK $a)=>`(TU Addr $a)
|`(RV $a)=>`(Qar s $a)
|`(U7 $a $b $c)=>`($a (Q1 $b) $c)
|`(Rl $a $b $c $d)=>`(⟨$a,$b,$c,rfl,$d⟩)
|`(U8 $a)=>`(λ(b,s,t)=>$a)
|_=>Lean.Macro.throwUnsupported else Lean.Macro.throwUnsupported
local macro_rules(kind:=Lean.Parser.Term.app)|x=>if isQ_ x[0] then match x with
|`(Vu $a $b)=>`(af.CA $a $b)
|`(Uo $a $b $c)=>`(QG (Sd $a $b) $c)
|`(TY $a)=>`(QJ good $a)
|`(XB $a $b $c)=>`(.Constant $a $b $c)
|`(SN $a $b $c)=>`($a (QG $b $c))
|`(Qg4 $a)=>`(Wx $a p)
|`(Ze $a)=>`(decide_eq_true $a)
|`(QhJ $a)=>`(Qh4 $a rfl)
|`(Qas $a $b $c $d $e $f)=>`(Qh6 $a $b $c $d xa $e $f)
|`(YV $a)=>`(SM H $a)
|`(Qel $a $b $c $d $e $f $g)=>`(Qas $a $b $c $d ($e $f) $g)
|`(QhA $a $b $c $d)=>`(.Compare $a $b $c $d)
|`(Qbe $a)=>`(of_decide_eq_false $a)
|`(Qg5 $a $b $c $d)=>`(.Call $a $b $c $d)
|`(Zf $a)=>`(Rc $a .nil)
|`(QfZ $a $b $c $d)=>`(Qh5 F $a $b $c $d)
|`(YA $a)=>`(RE .builtin $a)
|`(TL $a)=>`(Vu RK $a)
|`(Qh7 $a $b $c $d $e $f $g)=>`($a $b $c $d $e $f true $g)
|`(UL $a $b)=>`(($a).Pairwise $b)
|`(R0 $a $b)=>`(($a).get? $b)
|`(QhB $a $b)=>`(eval $a $b)
|`(Qb9 $a $b)=>`(∀p∈X.pn++pins,$a≠$b)
|`(Wy $a)=>`(QG $a V.ref)
|`(Rw $a)=>`(Qe $a h)
|`(Qbf $a $b)=>`($a (Xj $b))
|`(Qca $a $b)=>`(($a).length_le_of_subset $b)
|`(Zg $a)=>`(($a).toArray.size)
|`(Qat $a $b)=>`(congrArg $a $b)
|`(Qem $a)=>`(∃W:Nat->Nat->St->Hp->Prop,$a)
|`(QbY $a)=>`(zs.map $a)
|`(VW $a)=>`(Ti (λx=>$a))
|`(Qdc $a)=>`(decide_eq_decide.mpr $a)
|`(TH $a)=>`(($a).toList)
|`(SO $a)=>`(Array $a)
|`(Qcb $a $b)=>`($a (λ_ _ _ _ _ _ _ q=>$b))
|`(Qf0 $a $b)=>`(∀A∈As,$a $b)
|`(QhP $a)=>`(QY Q0 $a)
|`(SS $a)=>`(QP $a 40)
|`(SA $a $b)=>`(SN aL $a $b)
|`(Qdd $a)=>`(⟨xs[k]'(by omega),$a⟩)
|`(RA $a)=>`(kn.mp $a)
|`(YB $a $b)=>`(Qx ($a).flatMap $b)
|`(Su $a $b $c $d)=>`(el (ι:=$a) $b $c $d)
|`(XC $a)=>`(Qc (UK $a))
|`(Tt $a $b $c)=>`(RF $a _ $b $c)
|`(Qg6 $a $b)=>`(Qq (Qba $a $b))
|`(R1 $a)=>`(QG l $a)
|`(QhS $a)=>`(ns.idxOf $a)
|`(Qh8 $a $b $c)=>`($a (λv hv=>$b) $c)
|`(XD $a)=>`(QW (X7 $a))
|`(Qau $a)=>`(λHb a H Q c q=>$a)
|`(Qh9 $a $b)=>`(Yy $a $b apos)
|`(YC $a $b)=>`(Rm less $a $b)
|`(Qen $a $b)=>`(Sd $a (λz=>$b))
|`(Qg7 $a)=>`(λ(n:Nat)=>$a)
|`(UI $a)=>`(TU $a V)
|`(Sa $a)=>`(V.ref $a)
|`(X_ $a $b)=>`(($a).mem_iff.mp $b)
|`(U4 $a)=>`(($a).toArray)
|_=>Lean.Macro.throwUnsupported else Lean.Macro.throwUnsupported
local macro_rules(kind:=Lean.Parser.Term.app)|x=>if isQ_ x[0] then match x with
|`(Vv $a)=>`(λσ H c=>$a)
|`(YD $a)=>`(Qv ($a).isSome)
|`(Qbg $a $b $c $d $e)=>`($a (i:=$b) (s:=$c) (x:=$d) RQ $e)
|`(S5 $a)=>`(Qh0 s $a)
|`(RM $a)=>`(cQ.mp $a)
|`(U9 $a)=>`(Vu QaJ $a)
|`(U_ $a)=>`(∀z∈zs,$a)
|`(QhO $a)=>`($a->Qdz)
|`(ZU $a $b)=>`(($a).lookup $b)
|`(Qb2 $a)=>`(TU Nk $a)
|`(S4 $a)=>`($a->Bool)
|`(Qg8 $a $b $c)=>`(.BoolOp $a $b $c)
|`(Vw $a)=>`(.fields $a)
|`(QbM $a)=>`(TU Nat $a)
|`(Qeo $a)=>`(cQ.mpr $a)
|`(QhQ $a)=>`(Qba $a rfl)
|`(Qia $a $b $c)=>`(FnAt $a $b $c)
|`(Sy $a)=>`(pure $a)
|`(ZV $a)=>`(λ(b,s,t,x)=>$a)
|`(Wb $a $b $c)=>`(⟨$a,$b,rfl,$c⟩)
|`(Sv $a)=>`(λx hx=>$a)
|`(Qbh $a)=>`(($a).toList.length)
|`(Qbi $a)=>`(λHb b H Q c q=>$a)
|`(YE $a)=>`(.lst $a)
|`(Rx $a $b $c $d)=>`(QH ($a $b $c) $d)
|`(Qe0 $a)=>`(cs.take $a)
|`(SD $a $b)=>`(RelV $a $b)
|`(Qav $a $b)=>`(($a).names.lookup $b)
|`(Vx $a $b)=>`(Zd $a $b pos)
|`(Qep $a $b)=>`(λy=>($a,$b))
|`(YF $a $b $c $d)=>`($a $b (k:=$c) (A:=$d) Qm)
|`(Qhs $a)=>`(TU aw $a)
|`(Qcc $a)=>`(λb s c H Q I h=>$a)
|`(Qcd $a)=>`(λa s b H Q I h=>$a)
|`(Zh $a)=>`(Ij.mp $a)
|`(R3 $a $b)=>`(U7 Q $a $b)
|`(Xb $a $b)=>`(($a).contains $b)
|`(ZN $a)=>`(RE .dT $a)
|`(QhC $a $b)=>`(Rm mZ $a $b)
|`(Uq $a)=>`(λa H Q=>$a)
|`(ZW $a $b $c)=>`(QH (QH $a $b) $c)
|`(Qf1 $a $b)=>`(($a).sublist $b)
|`(Zi $a $b)=>`(TV (T8 $a) $b)
|`(QgI $a)=>`(Qy (QfX $a))
|`(SE $a)=>`(Ss _ $a)
|`(Zj $a)=>`(Rk $a Qj)
|`(Wz $a)=>`(Rk rfl $a)
|`(QhR $a)=>`(apos.endLine==$a)
|`(Qbj $a)=>`(QG $a V.int)
|`(Qde $a)=>`(hs.reverse.take $a)
|`(Wc $a)=>`(QG $a aI)
|`(Qhr $a)=>`(seconds $a)
|`(Qdf $a)=>`(wpAny_loadPart' $a)
|`(Qdg $a)=>`(λA i s Q E st h=>$a)
|`(Qf2 $a)=>`(λHb a H Q c q pos b s I=>$a)
|`(RX $a $b)=>`(Vals $a $b)
|`(XE $a $b $c)=>`(QH ($a $b) $c)
|`(ZX $a $b)=>`(($a).toList.map $b)
|`(Qib $a $b $c $d)=>`($a (i:=$b) $c $d QK)
|`(Qf3 $a)=>`(nd.length_le_of_subset $a)
|_=>Lean.Macro.throwUnsupported else Lean.Macro.throwUnsupported
local macro_rules(kind:=Lean.Parser.Term.app)|x=>if isQ_ x[0] then match x with
|`(ZY $a $b)=>`(λy H v h=>$a $b)
|`(Qbk $a $b)=>`(Q9 e.2.take $a $b)
|`(Qaw $a)=>`(λi j=>QL $a)
|`(Qbl $a)=>`(DecidableEq $a)
|`(ZZ $a)=>`(Qq (Q6 $a))
|`(Ur $a $b)=>`(QV ($a∈$b))
|`(Qdh $a)=>`(λc H Q _=>Qbc $a)
|`(Um $a)=>`(V.int $a)
|`(SF $a $b)=>`(Qh o $a $b)
|`(X' $a $b $c $d)=>`(.ListComp $a $b $c $d)
|`(Qic $a $b $c $d)=>`(Qh1 $a $b $c $d QK)
|`(XZ $a)=>`(ys.map $a)
|`(Qf4 $a $b)=>`(G.set $a $b)
|`(Qc1 $a)=>`(TX aX $a)
|`(W0 $a)=>`(U6 $a s)
|`(Qid $a $b $c)=>`(RO ($a $b $c))
|`(S7 $a)=>`(($a).Nodup)
|`(Qg9 $a)=>`(∀xs{b:Bo}(a:b.senses.length=3),$a)
|`(Qha $a)=>`(∀ps{b:Bo}(a:b.senses.length=3),$a)
|`(XF $a $b $c)=>`($a $b (λb s t=>$c))
|`(Ro $a $b)=>`(QV ($a=$b))
|`(Qbm $a $b $c)=>`(.Assign $a $b $c)
|`(Tj $a $b $c $d)=>`(QP ($a $b $c) $d)
|`(Qce $a $b $c $d $e)=>`($a (c:=$b) (k:=$c) $d (m:=$e) Qa)
|`(Qcf $a)=>`(∀q∈O,∃vs,$a)
|`(VX $a)=>`(QJ ok $a)
|`(QbU $a)=>`(Rk $a BG)
|`(Qhb $a $b $c)=>`(af.CA (o:=$a) $b $c)
|`(Qhc $a $b)=>`(Rm fS $a $b)
|`(Qax $a $b $c)=>`(XB (QL $a) $b $c)
|`(Qay $a)=>`(Qy (Qq $a))
|`(WA $a $b)=>`(Qy ⟨$a,$b⟩)
|`(Ya $a $b)=>`(⟨λH v=>$a,$b⟩)
|`(Qaz $a $b)=>`(($a).same.trans $b)
|`(Qbn $a $b)=>`(QJ ($a).testBit $b)
|`(Zk $a $b $c $d)=>`($a (s:=$b) (x:=$c) $d)
|`(RG $a $b $c)=>`(($a).getD $b $c)
|`(QcQ $a)=>`(QJ $a k)
|`(Wd $a)=>`(Qe $a [])
|`(Za $a)=>`(.error $a)
|`(U' $a $b $c)=>`(⟨$a,$b,$c,0⟩)
|`(We $a)=>`(iC.mpr $a)
|`(Vy $a $b)=>`(Rm lt $a $b)
|`(QaA $a)=>`(RE V.ref $a)
|`(Qcg $a $b)=>`(($a).pairs.filter $b)
|`(Qhd $a)=>`(List.perm_append_comm.trans $a)
|`(Qhe $a)=>`(∃(o:Obj)(b:Array aJ)(n:Nat),$a)
|`(Qf5 $a)=>`(λHb a H Q c q b s I=>$a)
|`(Qch $a)=>`(λ(b,s,t,a)=>$a)
|`(Tn $a $b)=>`(Qh _ $a $b)
|`(QbS $a)=>`(QhX X $a)
|`(Se $a $b)=>`(Qc ($a,$b))
|`(Qf6 $a)=>`(λx hx D _ _ _ _ _=>$a)
|`(Qf7 $a $b $c $d $e $f)=>`(Qh7 Ev $a $b $c $d $e $f)
|`(Ws $a)=>`(QhB $a Qg)
|`(UM $a $b $c)=>`(Qg5 $a $b [] $c)
|`(QM $a $b)=>`(Qia K $a $b)
|`(Qai $a)=>`(R0 h $a)
|`(Qf8 $a $b $c $d $e $f)=>`(Qel $a $b $c $d aa $e $f)
|`(Qci $a $b $c $d $e)=>`(Qf7 $a H0 $b $c $d $e)
|_=>Lean.Macro.throwUnsupported else Lean.Macro.throwUnsupported
local macro_rules(kind:=Lean.Parser.Term.app)|x=>if isQ_ x[0] then match x with
|`(XG $a $b $c)=>`(UM (Qg4 $a) $b $c)
|`(Va $a $b)=>`(XE bu.of $a $b)
|`(Qie $a $b $c $d)=>`(Qci $a $b G $c $d)
|`(Qif $a $b $c $d $e)=>`(QfZ $a $b ($c $d) $e)
|`(Ub $a)=>`((Zh $a).1)
|`(UJ $a)=>`(RX $a us)
|`(Y4 $a)=>`(SD $a u)
|`(QhD $a $b $c $d)=>`($a $b $c (YE $d))
|`(Qcj $a $b $c $d)=>`(UM (Qh9 $a $b) $c $d)
|`(Qhf $a $b $c)=>`(QhA $a $b $c pos)
|`(QgH $a)=>`((Qb,$a))
|`(Qeq $a $b $c)=>`(Qie X $a $b $c)
|`(SG $a $b $c)=>`(QhD upd $a $b $c)
|`(Us $a $b $c $d)=>`(Qif $a $b .o $c $d)
|`(VY $a $b)=>`(Qeq O $a $b)
|`(Vb $a $b $c)=>`(VY $a ($b $c))
|`(Yb $a)=>`(QgH (Ws $a))
|`(XH $a $b)=>`(Qeo (Sz $a $b))
|`(XI $a $b)=>`(Qen $a (QV $b))
|`(Zl $a $b)=>`(Qg8 $a $b pos)
|`(Yc $a)=>`(QbY (λz=>$a))
|`(Vc $a $b)=>`(Qbf ($a).imp $b)
|`(Yd $a $b)=>`(Qg6 $a (Q6 $b))
|`(Sn $a $b)=>`(Vb $a aI $b)
|`(Wf $a $b)=>`(Qh8 .v $a $b)
|`(Qig $a $b $c)=>`(Qic $a $b $c rfl)
|`(R4 $a $b $c)=>`(Us $a _ $b $c)
|`(So $a $b)=>`(Qid $a F $b)
|`(Zm $a $b)=>`(Rc $a (Zf $b))
|`(S8 $a)=>`(Qf4 i $a)
|`(Qih $a $b $c)=>`(Qib $a $b $c rfl)
|`(Qhu $a)=>`(Qep $a y)
|`(Z0 $a)=>`(Zl .And $a)
|`(Qdi $a)=>`(∀ns:List Int,$a)
|`(Qf9 $a)=>`(λy _ _ D _ _ _ _ _=>$a)
|`(Uc $a)=>`(XA o $a)
|`(Qer $a)=>`(Xl (S5 $a))
|`(YG $a)=>`(Qat Ik $a)
|`(YH $a)=>`(Vals.aa1 $a)
|`(QhT $a)=>`(QhC $a t)
|`(Qbo $a $b $c)=>`($a $b (λv n j hv=>$c))
|`(Ye $a)=>`(λb u e=>$a)
|`(Qes $a)=>`(λ_ _ _ H _ I h=>$a)
|`(YI $a)=>`(∀x∈xs,$a)
|`(YJ $a $b $c)=>`(Qcj $a $b $c cpos)
|`(Qbp $a)=>`(λ(b,s,u)=>$a)
|`(Qck $a $b $c)=>`(Rk $a ($b $c))
|`(Ut $a)=>`(X9 I $a)
|`(Qbq $a)=>`(RE .type $a)
|`(Qht $a)=>`($a .nil)
|`(Qbr $a)=>`(xs.filter $a)
|`(Zn $a)=>`(eh.mp $a)
|`(QbZ $a)=>`(Rf b $a)
|`(Qii $a $b)=>`(λh e=>$a $b)
|`(Xc $a)=>`(Qf1 $a n6)
|`(Ud $a $b $c $d $e)=>`(Qf8 $a $b $c $d $e ao)
|`(Qet $a $b)=>`(base.BuiltinsAt $a $b)
|`(Qga $a)=>`(λHb j H k Q c h q=>$a)
|`(Qeu $a)=>`(λ(hs,a,bB,m)=>$a)
|`(Qgb $a)=>`(λ(ob,b,s,t,u,v)=>$a)
|_=>Lean.Macro.throwUnsupported else Lean.Macro.throwUnsupported
local macro_rules(kind:=Lean.Parser.Term.app)|x=>if isQ_ x[0] then match x with
|`(QaB $a)=>`(RE .own $a)
|`(QaC $a)=>`(RE .int $a)
|`(Zo $a)=>`(h0.get? $a)
|`(QfD $a)=>`(Sn $a i)
|`(Qev $a)=>`(pm.mem_iff.mp $a)
|`(Qij $a $b $c $d)=>`(RO ($a $b $c $d))
|`(QaD $a)=>`(λx y H Q=>$a)
|`(Qhg $a)=>`(λ_ _ H _ _ _ _ f g q=>$a)
|`(Qew $a)=>`(λHb e H Q c q=>$a)
|`(Qbs $a $b)=>`(⟨$a,λ_ e=>$b⟩)
|`(Qgc $a)=>`(env.cells.lookup $a)
|`(WB $a $b)=>`(Q9 dd $a $b)
|`(Qdj $a $b)=>`(($a).resolve_left $b)
|`(Qgd $a)=>`(λv H' s' h=>Rw $a)
|`(Qge $a)=>`(∃(f:Addr)(fd:b_),$a)
|`(Vd $a)=>`(gg.mp $a)
|`(Qhh $a $b)=>`(Qhf a $a $b)
|`(Qbt $a $b)=>`(Qeo (Qek $a $b))
|`(QfC $a)=>`($a<=16000)
|`(Qex $a $b)=>`(Qhb $a QaJ $b)
|`(Qbu $a $b)=>`(Qe $a (Q6 $b))
|`(Qcl $a)=>`(QW (Qn $a))
|`(YK $a $b)=>`(($a).testBit $b)
|`(Yf $a $b $c $d $e)=>`(Qf8 $a $b $c $d 0 $e)
|`(Qbv $a $b)=>`(QG $a (Qg7 $b))
|`(Qcm $a)=>`(YT (Qg7 $a))
|`(Qcn $a $b)=>`(QG $a (λj=>$b))
|`(QfB $a)=>`($a (#[]))
|`(RN $a)=>`(∀b o,$a)
|`(Qhi $a)=>`(λH v⟨t,a,e,h,q⟩=>$a)
|`(Qdk $a)=>`(λ_ _ _ _ _=>$a)
|`(Qbw $a)=>`(Qe $a RQ)
|`(Z1 $a)=>`(RE .mY $a)
|`(Z2 $a)=>`(Qe $a Qj)
|`(Vz $a)=>`(ZU K $a)
|`(Wg $a $b $c $d)=>`(Qc ($a $b $c $d))
|`(Qco $a $b $c)=>`(($a).heap.IsList $b $c)
|`(Uu $a $b)=>`(Tt _ $a $b)
|`(Z3 $a)=>`(Qe $a Qa)
|`(VA $a)=>`(QG $a _)
|`(Qcp $a $b)=>`(QG $a (λz=>$b))
|`(Qik $a $b $c)=>`(Rf $a ($b+$c))
|`(QhU $a)=>`(Qf0 Lf $a)
|`(Qcq $a $b)=>`(λx y=>YC $a $b)
|`(Qil $a $b $c $d $e $f)=>`(Qv ($a $b $c $d $e $f))
|`(Qhj $a)=>`(λv s1⟨x,f,g,i,q1⟩=>$a)
|`(RH $a)=>`(($a).size)
|`(Qhk $a)=>`(λ_ _ _ _ _ _ c g h q=>$a)
|`(Qbx $a)=>`(Qs (λq=>$a))
|`(Qby $a)=>`(Qs (λe=>$a))
|`(Qim $a)=>`(Qe hv.1 $a)
|`(Qdl $a)=>`(λa m=>Zj $a)
|`(Zp $a $b)=>`(Wb $a $b rfl)
|`(Zq $a $b)=>`(Rm $a $b QbE)
|`(UN $a $b)=>`(SG H $a $b)
|`(Qdm $a $b)=>`(($a).mem_iff.mpr $b)
|`(Qdn $a $b)=>`(($a).toList.Perm $b)
|`(UO $a $b)=>`(RG $a i $b)
|`(Qdo $a $b)=>`(Q9 ns.take $a $b)
|`(Qey $a $b)=>`(Q9 $a $b Zz)
|_=>Lean.Macro.throwUnsupported else Lean.Macro.throwUnsupported
local macro_rules(kind:=Lean.Parser.Term.app)|x=>if isQ_ x[0] then match x with
|`(Qc9 $a)=>`(Sn b $a)
|`(QhE $a $b)=>`([$a,"s",$b])
|`(X1 $a)=>`(Qhc $a u)
|`(Zr $a $b)=>`(Rm yA $a $b)
|`(YL $a)=>`(λg hg=>$a)
|`(Qez $a)=>`(λ(b,s,t,u)=>$a)
|`(Y_ $a)=>`(QhE Qk $a)
|`(Qhv $a)=>`(QhE RR $a)
|`(Sq $a $b $c $d $e)=>`(Qil b6 $a $b $c $d $e)
|`(Xd $a $b $c $d $e $f $g)=>`(Yf $a $b $c (Qh $d $e $f) $g)
|`(VB $a $b)=>`(Qig bS $a $b)
|`(SU $a $b $c)=>`(Qij $a F $b $c)
|`(Qhl $a)=>`(Qbw (λA E s v d Q _ e h=>$a))
|`(WC $a $b)=>`(Qih bS $a $b)
|`(Zs $a $b $c)=>`(Wg .ins $a $b $c)
|`(Qdp $a $b)=>`(Qik $a $b 1)
|`(Qbz $a $b)=>`(Qex (YE $a) $b)
|`(QbA $a $b)=>`(Wf (Qim $a) $b)
|`(QbB $a $b)=>`(Qck $a $b _)
|`(Qin $a $b)=>`(Qhh [$a] $b)
|`(YM $a)=>`(Qdp $a k)
|`(Qhx $a)=>`(BL.mpr $a)
|`(Qgf $a $b $c)=>`(λ⟨e,c,q⟩=>Qh $a $b $c)
|`(XJ $a $b)=>`(Rm b8 $a $b)
|`(XM $a $b)=>`(Vb $a aB $b)
|`(Qgg $a)=>`(λv k g h=>Q_ $a)
|`(Qgh $a)=>`(λv k d h=>Q_ $a)
|`(YN $a)=>`(λb H Q=>$a)
|`(Qgi $a)=>`(λd s e H Q I h=>$a)
|`(Qgj $a)=>`(λf s g H Q I h=>$a)
|`(Ve $a $b)=>`(.dict $a $b)
|`(Qej $a)=>`($a->QhL)
|`(Qdq $a)=>`(QJ $a x)
|`(TJ $a)=>`($a->Qgr)
|`(Qdr $a)=>`(Qq (Qq $a))
|`(QhF $a $b)=>`(($a).ok.hd $b)
|`(QaE $a)=>`(QhB $a env)
|`(QaF $a)=>`(RE .dK $a)
|`(Qhm $a $b)=>`(($a).w.params.followText $b)
|`(Qcr $a $b)=>`(QP $a (Qn $b))
|`(YO $a)=>`((Zn $a).1)
|`(QeA $a)=>`(Qey ns.drop $a)
|`(Qds $a)=>`(Qq (V' $a))
|`(Wh $a)=>`(Qii h $a)
|`(Qdt $a)=>`((R1 $a).sum)
|`(QeB $a)=>`(Qx seconds $a)
|`(VZ $a $b $c $d $e $f $g)=>`(Qel $a $b $c $d ($e).imp $f $g)
|`(QaG $a)=>`(∀s∈T3,$a)
|`(Qhn $a)=>`(λx hx _ D _ _ _ _ _=>$a)
|`(Qhw $a)=>`(Rc $a r)
|`(TZ $a $b $c $d)=>`($a (Qh $b $c $d))
|`(Xe $a $b $c)=>`(.Tuple $a $b $c)
|`(Z4 $a $b)=>`(Qbm $a $b pos)
|`(Yg $a $b)=>`($a (λo e=>$b))
|`(Qgk $a $b)=>`(Rv (λi m σ H=>$a) $b)
|`(T2 $a $b $c $d)=>`(Qv ($a $b $c $d))
|`(UP $a $b $c)=>`(Rc $a ($b $c))
|`(QaH $a $b)=>`(QJ ($a).all $b)
|`(V0 $a $b)=>`(Rh ($a $b))
|`(Yh $a $b)=>`(NT.rel $a $b)
|_=>Lean.Macro.throwUnsupported else Lean.Macro.throwUnsupported
local macro_rules(kind:=Lean.Parser.Term.app)|x=>if isQ_ x[0] then match x with
|`(Qa9 $a)=>`($a->Addr)
|`(Qdu $a)=>`(QJ NT.ok $a)
|`(Z5 $a $b)=>`(inClass $a $b)
|`(Zt $a)=>`(TX aL $a)
|`(Z6 $a $b)=>`(XG $a $b pos)
|`(QeC $a $b)=>`(QJ ($a).contains $b)
|`(Qcs $a)=>`(λb o a e=>$a)
|`(Qgl $a)=>`(λb o e n t hx=>$a)
|`(Qgm $a)=>`(∀b s(a:St)H Q,$a)
|`(Qct $a)=>`(λb o f e=>$a)
|`(Qdv $a)=>`(λb ob a e=>$a)
|`(Qdw $a)=>`(($a).length_eq)
|`(Qgn $a)=>`(∀D s H C cl b,$a)
|`(Qgo $a)=>`(∀ {l:List aw},$a)
|`(Qho $a)=>`(λ(ob,b,s,t,x,y)=>$a)
|`(QhW $a)=>`($a==QhG)
|`(Qdx $a $b)=>`(∀x∈L,$a≠$b)
|`(Vf $a)=>`(λz a=>$a)
|`(XN $a)=>`(QbB $a pR)
|`(VC $a)=>`(QhF I $a)
|`(YP $a)=>`(Qdq ($a).fn)
|`(Qcu $a $b)=>`(TV (YM $a) $b)
|`(Qhp $a $b)=>`(Qin $a [$b])
|`(Xx $a)=>`(Qhp $a b)
|_=>Lean.Macro.throwUnsupported else Lean.Macro.throwUnsupported
namespace NT
open PySem PySem.Spec PyProof.Rows
inductive Nk where
 |i(n:Int)
 |nil
 |cons(a r:Nk)
 deriving DecidableEq
def kP:S4 Nk
 | .i _=>false
 | .nil=>true
 | .cons _ r=>kP r
def TupAt(h:Heap)(v:aJ)(P:Q5 Wr):Prop:=
 ∃a o b n,v=QS/\SJ=Qi/\V8=UQ/\Si= .seq b n/\P Xo
def rel(h:Heap):Nk->(Q5 aJ)×(Q5 Wr)
 | .i n=>(λv=> ∃t,v= .int n t,RC False)
 | .nil=>(λv=>TupAt h v (λl=>l=[]),λl=>l=[])
 | .cons a r=>(λv=>TupAt h v (λl=> ∃u b,l=u::b/\(rel h a).1 u/\(rel h r).2 b),λl=> ∃u b,l=u::b/\(rel h a).1 u/\(rel h r).2 b)
def kQ(e:Y5):(rel h k).1 v↔TupAt h v (rel h k).2:=by
 cases k with
 |i n=>cases e
 |nil=>exact jG
 |cons a r=>exact jG
def iQ:(rel h W').1 v↔TupAt h v (rel h W').2:=jG
def m6:(rel h .nil).1 v↔TupAt h v (rel h .nil).2:=jG
def TupAt.mono(e:TupAt h v P)(f:∀l,P l->Q l):TupAt h v Q:=by
 obtain⟨a,o,b,n,c,d,g,i,j⟩:=e;exact⟨a,o,b,n,c,d,g,i,f _ j⟩
def kR(h h':Heap):Prop:= ∀a o,SJ=Qi->V8=UQ->(∃b n,Si= .seq b n)->V5 a=Qi
def TupAt.keep(k:kR h h')(e:TupAt h v P):TupAt h' v P:=by
 obtain⟨a,o,d,n,f,g,b,c,i⟩:=e;exact⟨a,o,d,n,f,k a o g b (Tn _ c),b,c,i⟩
def m7(kp:kR h h'):∀k,(∀v,(rel h k).1 v->(rel h' k).1 v)/\ ∀l,(rel h k).2 l->(rel h' k).2 l
 | .i n=>Qbs (λ_ e=>e) e
 | .nil=>Qbs (λ_ e=>(S_ kQ).2 (TupAt.keep kp ((S_ kQ).1 e))) e
 | .cons a r=>by
  have b:∀l,(rel h W').2 l->(rel h' W').2 l:=λl⟨u,f,e,x,y⟩=>⟨u,f,e,(m7 kp a).1 _ x,(m7 kp r).2 _ y⟩;exact Qe (λv e=>iQ.2 (TupAt.mono (TupAt.keep kp (iQ.1 e)) b)) b
def TupAt.same(e:TupAt h v P)(d:TupAt h v Q):∃l,P l/\Q l:=by
 obtain⟨a,o,j,n,rfl,f,k,g,i⟩:=e;obtain⟨m,p,q,r,q1,c,s,b,q5⟩:=d;injection q1 with q1;subst q1;rw[f]at c;have:=gn c;subst this;rw[g]at b;injection b with b _;subst b;exact Tn i q5
def yD(e:TupAt h v P):∃a,v=QS:=by
 obtain⟨a,_,_,_,e,_⟩:=e;exact Qe a e
def r6:∀k f,(∀v,(rel h k).1 v->(rel h f).1 v->k=f)/\ ∀l,(rel h k).2 l->(rel h f).2 l->k=f
 | .i n,.i m=>⟨λv e c=>(by obtain⟨t,e⟩:=e;obtain⟨u,c⟩:=c;subst e;injection c with c _;rw[c]),λ_ e _=>cP e⟩
 | .i n,.nil=>⟨λv e c=>(by obtain⟨t,e⟩:=e;obtain⟨a,q⟩:=yD (m6.1 c);subst e;cases q),λ_ e _=>cP e⟩
 | .i n,.cons a r=>⟨λv e c=>(by obtain⟨t,e⟩:=e;obtain⟨a,q⟩:=yD (iQ.1 c);subst e;cases q),λ_ e _=>cP e⟩
 | .nil,.i n=>⟨λv c e=>(by obtain⟨t,e⟩:=e;obtain⟨a,q⟩:=yD (m6.1 c);subst e;cases q),λ_ _ e=>cP e⟩
 | .cons a r,.i n=>⟨λv c e=>(by obtain⟨t,e⟩:=e;obtain⟨a,q⟩:=yD (iQ.1 c);subst e;cases q),λ_ _ e=>cP e⟩
 | .nil,.nil=>⟨λ_ _ _=>rfl,λ_ _ _=>rfl⟩
 | .nil,.cons a r=>by
  have d:∀l,(rel h .nil).2 l->(rel h W').2 l->Nk.nil=W':=λl e c=>by
   obtain⟨u,g,c,_⟩:=c;subst e;cases c
  exact Qe (λv e c=>let⟨l,p,q⟩:=TupAt.same (m6.1 e) (iQ.1 c);d l p q) d
 | .cons a r,.nil=>by
  have d:∀l,(rel h W').2 l->(rel h .nil).2 l->Nk.cons a r= .nil:=λl c e=>by
   obtain⟨u,g,c,_⟩:=c;subst e;cases c
  exact Qe (λv e c=>let⟨l,p,q⟩:=TupAt.same (iQ.1 e) (m6.1 c);d l p q) d
 | .cons a r,.cons b q=>by
  have d:∀l,(rel h W').2 l->(rel h (Rc b q)).2 l->Nk.cons a r=Rc b q:=λl e c=>by
   obtain⟨u,g,e,x,y⟩:=e;obtain⟨z,A,c,s,w⟩:=c;subst e;injection c with e1 d;subst e1 d;rw[(r6 (h:=h) a b).1 _ x s,(r6 (h:=h) r q).2 _ y w]
  exact Qe (λv e c=>let⟨l,p,q⟩:=TupAt.same (iQ.1 e) (iQ.1 c);d l p q) d
def toD:Nk->jP×QR jP
 | .i n=>(ZM,[])
 | .nil=>(.tuple [],[])
 | .cons a r=>(.tuple ((toD a).1::(toD r).2),(toD a).1::(toD r).2)
def TupAt.reads(e:TupAt h v P)(f:∀l,P l-> ∃b,ReadsAll h l c b):∃b,Reads h v (.tuple c) b:=by
 obtain⟨a,o,k,n,rfl,d,g,i,j⟩:=e;obtain⟨b,r⟩:=f _ j;exact Qe b (.tuple d g i r)
def yE:∀k,(∀v,(rel h k).1 v-> ∃b,Reads h v (toD k).1 b)/\ ∀l,(rel h k).2 l-> ∃b,ReadsAll h l (toD k).2 b
 | .i n=>Qbs (λv e=>(by obtain⟨t,e⟩:=e;subst e;exact⟨_,.int n t⟩)) (cP e)
 | .nil=>by
  have c:∀l,(rel h .nil).2 l-> ∃b,ReadsAll h l _ b:=λl e=>by
   subst e;exact Rh .nil
  exact Qe (λv e=>TupAt.reads (m6.1 e) c) c
 | .cons a r=>by
  have c:∀l,(rel h W').2 l-> ∃b,ReadsAll h l _ b:=λl e=>by
   obtain⟨u,g,e,x,y⟩:=e;subst e;obtain⟨b,p⟩:=(yE (h:=h) a).1 _ x;obtain⟨bs,q⟩:=(yE (h:=h) r).2 _ y;exact Rh (Rc p q)
  exact Qe (λv e=>TupAt.reads (iQ.1 e) c) c
def yF:∀k,Qv (toD k).1.canLay0/\QJ hZ (toD k).2
 | .i n=>Vh
 | .nil=>Vh
 | .cons a r=>by
  have b:QJ hZ ((toD a).1::(toD r).2):=by
   rw[hZ,(yF a).1,(yF r).2];rfl
  exact Qe b b
def dp:Nk->Nat
 | .i _=>0
 | .nil=>1
 | .cons a r=>max (dp a+1) (dp r)
def CB:∀ {k:Nk},Y5->1<=dp k
 | .i _,e=>by cases e
 | .nil,_=>aQ _
 | .cons a r,e=>bp (Nat.le_add_left 1 _) (B5 _ _)
def CC:∀k,(toD k).1.depth<=dp k/\h5 (toD k).2<=dp k-1
 | .i n=>⟨aQ _,aQ _⟩
 | .nil=>⟨aQ _,aQ _⟩
 | .cons a r=>by
  have c:=(CC a).1;have d:=(CC r).2;have e:h5 ((toD a).1::(toD r).2)=max (toD a).1.depth (h5 (toD r).2):=by rw[h5]
  have b:h5 ((toD a).1::(toD r).2)<=dp W'-1:=by
   show _<=max _ _-1;omega
  have f:1<=dp W':=bp (Nat.le_add_left 1 _) (B5 _ _);refine Qe ?_ b;show(PyData.tuple _).depth<=_;rw[mR];omega
def ok:S4 Nk
 | .i _=>true
 | .nil=>true
 | .cons a r=>ok a&&(kP r&&ok r)
def CD:∀k c,VX k->VX c->gp (toD k).1 (toD c).1=Ro k c/\(Y5->QJ kP c->fR (toD k).2 (toD c).2=Ro k c)
 | .i n,.i m,_,_=>⟨by
   show gp ZM (QL m)=_;rw[gp];by_cases e:n=m
   ·subst e;simp
   ·simp[e],λe=>QcN⟩
 | .i n,.nil,_,_=>RL (λe=>QcN)
 | .i n,.cons a r,_,_=>RL (λe=>QcN)
 | .nil,.i n,_,_=>RL (λ_ e=>QcN)
 | .cons a r,.i n,_,_=>RL (λ_ e=>QcN)
 | .nil,.nil,_,_=>RL Uy
 | .nil,.cons a r,_,_=>RL Uy
 | .cons a r,.nil,_,_=>RL Uy
 | .cons a r,.cons b q,o1,d=>by
  rw[ok,bX,bX]at o1 d;have f:fR ((toD a).1::(toD r).2) ((toD b).1::(toD q).2)=QV (Nk.cons a r=Nk.cons b q):=by
   rw[fR,((CD a b o1.1 d.1).1),((CD r q o1.2.2 d.2.2).2 o1.2.1 d.2.1)];by_cases j:a=b
   ·simp
   ·simp[]
  refine Qe ?_ (Xj f);show gp _ _=_;exact f
def hv:Nk->Int×Qo
 | .i n=>(hashInt n,[])
 | .nil=>(reduceHash (uU []),[])
 | .cons a r=>(reduceHash (uU ((hv a).1::(hv r).2)),(hv a).1::(hv r).2)
def dr:Nk->Nat×Nat
 | .i _=>(1,0)
 | .nil=>(1,0)
 | .cons a r=>((dr a).1+(dr r).2+1,(dr a).1+(dr r).2)
def aa2:∀ {k:Nk},Y5->(hv k).1=reduceHash (uU (hv k).2)
 | .i _,e=>by cases e
 | .nil,_=>rfl
 | .cons _ _,_=>rfl
def aa3:∀ {k:Nk},Y5->(dr k).1=(dr k).2+1
 | .i _,e=>by cases e
 | .nil,_=>rfl
 | .cons _ _,_=>rfl
def gu(P:Q5 Nk):Q5 Nk
 | .i _=>True
 | .nil=>True
 | .cons a r=>P a/\gu P r
section
variable{prog:aO}{w:aA}
def u_(prog:aO)(w:aA)(k:Nk):Prop:= ∀A E s v Q,RS+dp k<bf->(rel Ql k).1 v->Q (hv k).1 {s with toks:=s.toks+(dr k).1}->aj QA A (pyHash v) Q E s
def aa4(n:Int):u_ prog w (.i n):=λA E s v Q b a h=>by
 obtain⟨t,rfl⟩:=a;exact wpAny_pyHash_int h
def r8:dp a+1<=dp W':=B5 _ _
def r9:dp r<=dp W':=Nat.le_max_right _ _
def Jj(ht:Y5)(C:gu (XP u_) k):u_ prog w k:=λA E s v Q O D h=>by
 obtain⟨a,o,R,n,rfl,t,H,hd,hi⟩:=(kQ ht).1 D;have g:s.TypeIs QS _:=SF t H;rw[aa2 ht,aa3 ht]at h
 refine ab (wpAny_cRoomFor_or (Qy Qa) ?_)
 refine ab (mN g uY.lookup ?_);refine ab (mN g uY.lookup ?_);refine ab (wpAny_callSpecialIfBoundUnlessNone?_slot g uY (fv uY g F.entry_tuple_hash ?_ (F.args_tuple_hash_1 _)));show aj _ _ (Builtin.Tuple.tupleItemsOf _>>=_) _ _ s;refine ab (B9 t hd (ab ?_));rw[<-n4];refine mL _ (λj b l=> ∃c T,gu _ c/\dp c<=dp k/\(rel _ c).2 j/\Xo++(hv c).2=(hv k).2/\l={s with toks:=T}/\T+(dr c).2=Tg+(dr k).2) _ ?_ ?_ _ _ ⟨k,Tg,C,aQ _,hi,rfl,rfl,rfl⟩
 ·rintro x j b l⟨c,T,hl,y,d,m,rfl,p⟩;cases c with
  |i n=>exact cP d
  |nil=>cases d
  |cons f q=>
   obtain⟨u,I,e,J,K⟩:=d;injection e with e1 e2;subst e1 e2;refine ab (hl.1 UZ _ _ _ _ (by show A.units+1+dp f<bf;have:=r8 (a:=f) (r:=q);omega) J ?_)
   ·have z:∃c B,gu _ c/\dp c<=dp k/\(rel _ c).2 j/\TH (b.push (hv f).1)++(hv c).2=(hv k).2/\{s with toks:=T+(dr f).1}={s with toks:=B}/\B+(dr c).2=Tg+(dr k).2:=
     ⟨q,T+(dr f).1,hl.2,bp r9 y,K,by rw[<-m];simp[hv],rfl,by rw[<-p];simp[dr];omega⟩
    exact ah z
 ·rintro b l⟨c,T,hl,y,d,m,rfl,p⟩;have L:c= .nil:=by
   cases c with
   |i n=>exact cP d
   |nil=>rfl
   |cons f q=>
    obtain⟨u,I,e,_⟩:=d;cases e
  subst L;have M:Xo=(hv k).2:=by rw[<-m];simp[hv]
  have N:T=Tg+(dr k).2:=by rw[<-p];simp[dr]
  subst N;show aj _ _ (retInt _) _ _ _;rw[M];refine wpAny_ret_mkInt ?_;show aj _ _ (if(decide _&&decide _)=true then _ else _) Q E _;unfold reduceHash at h;by_cases d:Qv (QV (-2^63<=uU (hv k).2)&&QV (uU (hv k).2<2^63))
  ·rw[Qp d];rw[Qp d]at h;exact ah Qa
  ·rw[Qs d];rw[Qs d]at h;exact ab (rM (ah Qa))
def yG:∀k,VX k->u_ prog w k/\gu (XP u_) k
 | .i n,_=>Qbw (aa4 n)
 | .nil,_=>Qbw (Jj rfl RQ)
 | .cons a r,o1=>by
  rw[ok,bX,bX]at o1;have b:=(yG a o1.1).1;have c:=(yG r o1.2.2).2;exact Qh (Jj o1.2.1 (Qe b c)) b c
def va(o1:VX k)(b:VX a)(i:RS+dp k<bf)
  (c:(rel Ql k).1 u)(d:(rel Ql a).1 v)(h:Q (Ro k a) s):aj QA A (eqBool u v) Q E s:=by
 obtain⟨e,f⟩:=(yE k).1 _ c;obtain⟨bs,g⟩:=(yE a).1 _ d;have hd:=(CC k).1;refine SeqAt.eqAt_reads _ _ A s u v e bs f g (yF k).1 (yF a).1 Qa prog w E Q ?_;rw[(CD k a o1 b).1];exact h
def yH(prog:aO)(w:aA)(k:Nk):Prop:= ∀A E s v d Q,dp k<=d->(rel Ql k).1 v->X6 Q s->aj QA A (eqIsQuiet d v) Q E s
def Jk(ht:Y5)(q:gu (XP yH) k):yH prog w k:=λA E s v d Q H t h=>by
 have I:=CB ht;obtain⟨a,o,x,n,rfl,j,y,hd,hi⟩:=(kQ ht).1 t;have l:s.TypeIs QS _:=SF j y;obtain⟨d,rfl⟩:∃z,d=z+1:=Z3 (d-1);unfold eqIsQuiet;refine ab (mN l F.slot_tuple_eq.lookup ?_);refine ab (kC l isSubtype_tuple_tuple ?_);refine ab (x_ j hd (ab ?_));rw[<-n4];refine mL _ (λm r c=>r.1=none/\c=s/\ ∃b,gu _ b/\dp b<=dp k/\(rel _ b).2 m) _ ?_ (by rintro⟨K,L⟩c⟨f,rfl,_⟩;subst f;exact ah h) _ _ ⟨rfl,rfl,k,q,aQ _,hi⟩
 ·rintro v m r c⟨f,rfl,b,hl,B,g⟩;cases b with
  |i n=>exact cP g
  |nil=>cases g
  |cons C p=>
   obtain⟨u,J,e,D,G⟩:=g;injection e with e1 e2;subst e1 e2;exact ab (hl.1 A _ _ _ d _ (by have:=r8 (a:=C) (r:=p);omega) D (by exact ah ⟨rfl,rfl,p,hl.2,bp r9 B,G⟩))
def vb:∀k,VX k->yH prog w k/\gu (XP yH) k
 | .i n,_=>Qhl (by
   obtain⟨t,rfl⟩:=e;rw[eqIsQuiet_byValue _ rfl];exact ah h)
 | .nil,_=>Qbw (Jk rfl RQ)
 | .cons a r,o1=>by
  rw[ok,bX,bX]at o1;have b:=(vb a o1.1).1;have c:=(vb r o1.2.2).2;exact Qh (Jk o1.2.1 (Qe b c)) b c
def good(k:Nk):Bool:=ok k&&(kP k&&QV (dp k<=4))
def d_(g:TY k):VX k/\Y5/\dp k<=4:=by
 rw[good,bX,bX]at g;exact Qh g.1 g.2.1 (Yz g.2.2)
def aa5(g:Qai d=Qi)(hd:Si=Ve b c)(hs:dN d h h'):kR h h':=λa i e _⟨j,n,k⟩=>by
 have f:a≠d:=by
  grind
 exact Rx hs.2 a f e
end
def oC(prog:aO)(w:aA):HeapKind prog w Nk where
 is:=λh k a=>TY k/\(rel h k).1 QS
 hash:=λk=>(hv k).1
 draws:=λk=>(dr k).1
 room:=λA=>RS+4<bf
 inj:=λhx c=>(r6 _ _).1 _ hx.2 c.2
 keeps:=λx e hd hs=>Qe x.1 ((m7 (aa5 e hd hs) _).1 _ x.2)
 pyHash:=λd b h=>(yG _ (d_ b.1).1).1 _ _ _ _ _ (BZ (Nat.add_le_add_left (d_ b.1).2.2 _) d) b.2 h
 eqBool:=λd hx c h=>va (d_ hx.1).1 (d_ c.1).1 (BZ (Nat.add_le_add_left (d_ hx.1).2.2 _) d) hx.2 c.2 h
 quiet:=λb h=>(vb _ (d_ b.1).1).1 _ _ _ _ 8 _ (bp (d_ b.1).2.2 QD) b.2 h
def r_{A:di}(a:RS+5<bf):(VI).room UZ:=by
 show RS+1+4<bf;omega
end NT
namespace L2
open PySem PySem.Spec PyProof.Rows
abbrev Key:=Sum Int Str
def qh:Key->S4 aJ
 | .inl k,v=>Value.isInt k v
 | .inr x,v=>Value.isStrOf x v
def aa6(w:aA):Key->Int
 | .inl k=>hashInt k
 | .inr x=>hashStr w x
def lK:∀ {k:Key}{v:aJ},Rm qh k v->(∃i t,k=mX i/\v=Value.int i t)\/(∃x t,k=Sum.inr x/\v=Value.str x t)
 | .inl i,v,h=>by
  obtain⟨t,e⟩:=Value.isInt_shape h;exact Qq (Wb i t e)
 | .inr x,v,h=>by
  obtain⟨t,e⟩:=Value.isStrOf_shape h;exact Qy (Wb x t e)
def aa7(i:Int)(t:Tok):Rm qh (Qq i) (.int i t):=by simp[qh,Value.isInt]
def aa8(x:Str)(t:Tok):Rm qh (Qy x) (.str x t):=by simp[qh,Value.isStrOf]
def aa9(a b:Int):Ro (mX a:Key) (mX b)=(a==b):=by
 grind
def aba(a b:Str):Ro (Sum.inr a:Key) (Sum.inr b)=Ro a b:=by
 simp
def ape(a:Int)(b:Str):Ro (mX a) (Sum.inr b)=Qb:=TK (λq=>nomatch q)
def apf(a:Str)(b:Int):Ro (Sum.inr a) (mX b)=Qb:=TK (λq=>nomatch q)
def lL(prog:aO)(w:aA):PySem.KeyKind prog w Key where
 is:=qh
 hash:=aa6 w
 inj:=λv a b d c=>by
  rcases lK d with⟨i,t,rfl,rfl⟩|⟨x,t,rfl,rfl⟩
  ·rcases lK c with⟨j,u,rfl,e⟩|⟨y,u,rfl,e⟩
   ·grind
   ·exact nomatch e
  ·rcases lK c with⟨j,u,rfl,e⟩|⟨y,u,rfl,e⟩
   ·exact nomatch e
   ·grind
 byValue:=λk v h=>by
  rcases lK h with⟨i,t,rfl,rfl⟩|⟨x,t,rfl,rfl⟩<;>rfl
 pyHash:=λhv h=>by
  rcases lK hv with⟨i,t,rfl,rfl⟩|⟨x,t,rfl,rfl⟩
  ·exact wpAny_pyHash_int h
  ·exact wpAny_pyHash_str h
 eqBool:=λf hv h=>by
  rcases lK f with⟨i,t,rfl,rfl⟩|⟨x,t,rfl,rfl⟩
  ·rcases lK hv with⟨j,u,rfl,rfl⟩|⟨y,u,rfl,rfl⟩
   ·rw[aa9]at h;exact wpAny_eqBool_int h
   ·exact I7 i t y u _ _ _ _ h
  ·rcases lK hv with⟨j,u,rfl,rfl⟩|⟨y,u,rfl,rfl⟩
   ·exact I_ x t j u _ _ _ _ h
   ·rw[aba]at h;exact wpAny_eqBool_str h
 «strs»:=λk x t v h=>by
  rcases lK h with⟨i,u,rfl,e⟩|⟨y,u,rfl,e⟩
  ·exact nomatch e
  ·injection e with e1 _;subst e1;cases v<;>rfl
def abb(prog:aO)(w:aA)(i:Int)(t:Tok):Rm (XP lL).is (Qq i) (.int i t):=aa7 i t
def abc(prog:aO)(w:aA)(x:Str)(t:Tok):Rm (XP lL).is (Qy x) (.str x t):=aa8 x t
inductive V where
 |a9|bl(b:Bool)|int(i:Int)|str(x:Str)|fm(b:SO UInt8)|sb(b:UInt64)|ref(a:Addr)|ty(n:String)
 deriving DecidableEq
def RelV:V->Q5 aJ
 | .a9,u=>u=ji
 | .bl b,u=>u=mS b
 | .int i,u=>∃t,u=Value.int i t
 | .str x,u=>∃t,u=Value.str x t
 | .fm b,u=>∃t,u=Value.bytes b t
 | .sb b,u=>∃t,u=Value.float b t
 | .ref a,u=>u=bD a
 | .ty n,u=>u=iJ n
abbrev Vals:Q8->Q5 Wr:=dj RelV
def Vals.length(r:ZO):Qu=QaR:=bQ r
def Vals.get:∀ {xs:List V}{us:List aJ}{i:Nat}{x:V},ZO->xs[i]?=Qz-> ∃u,us[i]?=Rj/\Y4 x
 |_,_,_,_,.nil,e=>by simp at e
 |_,_,0,_,.cons r _,e=>by grind
 |_,_,i+1,x,.cons _ t,e=>by
  obtain⟨u,a,b⟩:=Vals.get t QaL;exact Qh u QaM b
def Vals.append:∀ {xs ys:List V}{us a:List aJ},ZO->RX ys a->RX (xs++ys) (us++a)
 |_,_,_,_,.nil,s=>s
 |_,_,_,_,.cons r t,s=> Rc r (Vals.append t s)
def Vals.take:∀ {xs:List V}{us:List aJ}n,ZO->RX (xs.take n) (us.take n)
 |_,_,0,_=> .nil
 |_,_,_+1,.nil=> .nil
 |_,_,n+1,.cons r t=> Rc r (Vals.take n t)
def Vals.drop:∀ {xs:List V}{us:List aJ}n,ZO->RX (xs.drop n) (us.drop n)
 |_,_,0,r=>r
 |_,_,_+1,.nil=> .nil
 |_,_,n+1,.cons _ t=>Vals.drop n t
def g7:ZS->Q5 Qdz
 |some v,some u=>U0
 |none,none=>True
 |_,_=>False
def KV{κ:Type}:UI κ->Q5 (TU κ aJ):=dj (λp q=>p.1=q.1/\SD p.2 q.2)
def kV:Key->V
 | .inl i=> S0
 | .inr x=> .str x
inductive HO where
  |lst(xs:Q8)
  |tup(xs:Q8)
  |dK(kvs:UI Key)|dT(kvs:UI NT.Nk)
  |set(S:S4 Int)(n:Nat)
  |ins(C dx:Addr)(fs:Qb3)
  |own(x:Addr)
  |xd(fs:Qb3)
  |met(f x:Addr)
  |CF(lo hi:Int)
  |gr(o:Obj)(u:HO)
  |mY(ps:SO aJ)
  |ext(φ:Q5 Heap)
abbrev Hp:=Addr->Ri HO
def upd(H:Hp)(a:Addr)(o:HO):Hp:=λb=>if b=a then some o else H b
def aC:upd H a o a=Qi:=by unfold upd;rw[(SX)]
def ax(h:b≠a):upd H a o b=H b:=by unfold upd;rw[(Vs)]
def Jl:upd (upd H a o) a u=upd H a u:=by
 funext b;unfold upd;split<;>rfl
def CG{H:Hp}(h:H a=Qi)(h':H b=Rj)(d:o≠u):a≠b:=by
 grind
def cZ{H:Hp}(h:H a=Qi)(h':H b=none):a≠b:=by
 grind
def eU(H:Hp):NT.Nk->(Q5 V)×(Q5 Q8)
 | .i n=>(λv=>v=ZM,RC False)
 | .nil=>(λv=> ∃b,v=SI/\H b=UU [],λl=>l=[])
 | .cons a r=>(λv=> ∃b x c,v=SI/\H b=UU (x::c)/\(eU H a).1 x/\(eU H r).2 c,λl=> ∃x c,l=x::c/\(eU H a).1 x/\(eU H r).2 c)
def CH(ht:∀b xs,H b=TQ->H' b=TQ):∀k,(∀v,(eU H k).1 v->(eU H' k).1 v)/\ ∀l,(eU H k).2 l->(eU H' k).2 l
 | .i n=>Qbs (λ_ e=>e) e
 | .nil=>Qbs (λv e=>(by obtain⟨b,c,d⟩:=e;exact⟨b,c,ht _ _ d⟩)) e
 | .cons a r=>by
  have h:=CH ht a;have j:=CH ht r;exact⟨λv e=>by obtain⟨b,x,xs,c,d,f,g⟩:=e;exact⟨b,x,xs,c,ht _ _ d,h.1 _ f,j.2 _ g⟩,λl e=>by obtain⟨x,xs,c,f,g⟩:=e;exact⟨x,xs,c,h.1 _ f,j.2 _ g⟩⟩
def bV(H:Hp)(k:NT.Nk)(b:Addr):Prop:=QcQ NT.good/\(eU H k).1 SI
def bV.keep(ht:∀b xs,H b=TQ->H' b=TQ)(h:bV H k b):bV H' k b:=Qe h.1 ((CH ht k).1 _ h.2)
section
variable(P:aO)(w:aA)
def d6(H:Hp)(h:Heap)(a:Addr):Q5 HO
 | .lst b=>QP b bq/\ ∃(d:List aJ)(n:Nat),RX b d/\SJ=Qc {cls:= SW,data:= .seq (U4 d) n}
 | .tup b=>QP b bq/\ ∃d,RX b d/\IsTup h a (U4 d)
 | .dK e=>QP e bq/\(a==eS)=Qb/\ ∃j,KV e j/\h.DictOf (lL P w) a j
 | .dT e=>QP e bq/\(a==eS)=Qb/\∃b,
   dj (λp q=>p.1=q.1/\bV H p.1 q.2.1/\SD p.2 q.2.2) e b/\
   ∃o k r,h.get? a=some o/\o.ExactDict/\o.data= .dict k r/\k.toList=b.map (uO (NT.oC P w))/\(b.map (·.1)).Nodup
 | .set S n=>h.SetOf (intKind P w) a S n
 | .ins C g fs=>H g=QaB a/\T7<=1000/\g≠a/\SJ=Rz rX C g/\
   ∃c,h.Ns1 g c/\(∀f,g7 (fs.lookup f) (c f))/\Cc c (fs.map (·.1))
 | .own _=>∃o,SJ=Qi
 | .xd fs=>∃c,h.Ns1 a c/\ ∀f,g7 (fs.lookup f) (c f)
 | .CF lo hi=>∃t u v,SJ=Qc {cls:= SV TN,data:= Vw QeH}
 | .gr o u=>SJ=Qi/\d6 H h a u
 | .mY s=>SJ=Qc {cls:= .none,data:= .fields s}
 | .met f x=>SJ=Rz PySem.W.methodObj QbE (Q1 x)
 | .ext i=>i h/\(∃o,SJ=Qi)/\ ∀l m,i l->(∀o,R0 l a=Qi->R0 m a=Qi)->i m
def cj(H:Hp)(h:Heap):Prop:= ∀a o,H a=Qi->d6 P w H h a o
end
section
variable{P:aO}{w:aA}{H H':Hp}{h h':Heap}{a:Addr}{o:HO}
def d6.lt(x:d6 P w H h a o):a<Uk:=by
 cases o with
 |lst b=>obtain⟨_,_,_,_,e⟩:=x;exact bx e
 |tup b=>obtain⟨_,_,_,p⟩:=x;exact p.lt
 |dK c=>obtain⟨_,_,_,_,o,_,_,e,_⟩:=x;exact bx e
 |dT c=>obtain⟨_,_,_,_,o,_,_,e,_⟩:=x;exact bx e
 |set S n=>obtain⟨o,_,_,_,e,_⟩:=x;exact bx e
 |ins C d fs=>obtain⟨_,_,_,e,_⟩:=x;exact bx e
 |own y=>obtain⟨_,e⟩:=x;exact bx e
 |xd fs=>obtain⟨_,⟨_,_,_,e,_⟩,_⟩:=x;exact bx e
 |CF lo hi=>obtain⟨_,_,_,e⟩:=x;exact bx e
 |gr ob u=>obtain⟨e,_⟩:=x;exact bx e
 |mY g=>exact bx x
 |met f y=>exact bx x
 |ext i=>obtain⟨_,⟨_,e⟩,_⟩:=x;exact bx e
def Paired.yI:∀ {l₁:List c}{l₂:List d},dj F l₁ l₂->(∀a b,F a b->G a b)->dj G l₁ l₂
 |_,_,.nil,_=> .nil
 |_,_,.cons r t,f=> Rc (f _ _ r) (Paired.yI t f)
def d6.e_(x:d6 P w H h a o)(k:∀b u,(b=a\/H b=QaB a)->S1=Rj->T_=Rj)
  (A:∀b,H b=QaB a->H' b=QaB a)(ht:∀b xs,H b=TQ->H' b=TQ):d6 P w H' h' a o:=by
 induction o with
 |lst xs=>obtain⟨z,j,n,r,e⟩:=x;exact⟨z,j,n,r,k _ _ Qw e⟩
 |tup xs=>obtain⟨z,j,r,ob,e,c⟩:=x;exact⟨z,j,r,ob,k _ _ Qw e,c⟩
 |dK B=>obtain⟨z,y,D,r,ob,g,i,e,c⟩:=x;exact⟨z,y,D,r,ob,g,i,k _ _ Qw e,c⟩
 |dT B=>
  obtain⟨z,y,xs,r,ob,g,i,e,c⟩:=x;exact⟨z,y,xs,Paired.yI r (λp q z=>Qh z.1 (z.2.1.keep ht) z.2.2),ob,g,i,k _ _ Qw e,c⟩
 |set S n=>obtain⟨ob,g,i,t,e,c⟩:=x;exact⟨ob,g,i,t,k _ _ Qw e,c⟩
 |ins C G fs=>
  obtain⟨d,z,ne,e,l,⟨m,g,i,E,c⟩,r⟩:=x;exact⟨A _ d,z,ne,k _ _ Qw e,l,⟨m,g,i,k _ _ (Qy d) E,c⟩,r⟩
 |own y=>obtain⟨ob,e⟩:=x;exact Qe ob (k _ _ Qw e)
 |xd fs=>obtain⟨l,⟨m,g,i,e,c⟩,r⟩:=x;exact Qh l ⟨m,g,i,k _ _ Qw e,c⟩ r
 |CF lo hi=>obtain⟨t,u,v,e⟩:=x;exact⟨t,u,v,k _ _ Qw e⟩
 |gr ob u F=>obtain⟨e,q⟩:=x;exact⟨k _ _ Qw e,F q⟩
 |mY s=>
  exact k a _ Qw x
 |met f y=>
  exact k a _ Qw x
 |ext I=>obtain⟨p,⟨o,e⟩,st⟩:=x;exact Qh (st _ _ p (λo q=>k _ _ Qw q)) ⟨o,k _ _ Qw e⟩ st
def cj.lt(x:cj P w H h)(e:H a=Qi):a<Uk:=(x a o e).lt
def cj.fresh(x:cj P w H h)(e:Uk<=a):H a=none:=by
 cases q:H a with
 |none=>rfl
 |some u=>exact XN (d5 (x.lt q) e)
def cj.kept(x:cj P w H h)(k:∀b u,S1=Rj->T_=Rj):cj P w H h':=λa o e=>(x a o e).e_ (λb u _ q=>k b u q) (λ_ q=>q) QdT
def cj.laid(x:cj P w H h)(k:∀b u,S1=Rj->T_=Rj)(g:Uk<=a)(new:d6 P w (upd H a o) h' a o):cj P w (upd H a o) h':=Ye (by
 have d:=x.fresh g;by_cases f:b=a
 ·subst f;rw[aC]at e;cases e;exact new
 ·rw[ax f]at e;exact(x b u e).e_ (λc v _ q=>k c v q) (λc q=>by rw[ax (cZ q d)];exact q) (λc i q=>by rw[ax (cZ q d)];exact q))
end
def Rd(H:Hp)(a:Addr)(u:HO):Prop:=H a=Rj\/ ∃o,H a=Uc u
def Rd.ok(r:Rd H a u)(x:cj P w H h):d6 P w H h a u:=by
 rcases r with r|⟨o,r⟩
 ·exact x a u r
 ·obtain⟨_,q⟩:=x a _ r;exact q
def oD:Q5 (Ri HO)
 |some (.lst _)=>True
 |some (.dK _)=>True
 |some (.dT _)=>True
 |some (.set _ _)=>True
 |some (.ins _ _ _)=>True
 |some (.ext _)=>True
 |_=>False
section
variable{P:aO}{w:aA}{H:Hp}{h h':Heap}{x e:Addr}{o':HO}
def cj.write(ok:cj P w H h)(a:oD (H x))(o:e=x\/H e=QaB x)(k:∀b u,b≠e->S1=Rj->T_=Rj)(l:∃u,V5 e=Rj)
  (new:d6 P w (upd H x o') h' x o'):cj P w (upd H x o') h':=λb u q=>by
 have m:∀c y,H c=QaB y->c≠x:=λc y r z=>by subst z;rw[r]at a;exact a
 by_cases f:b=x
 ·subst f;rw[aC]at q;cases q;exact new
 ·rw[ax f]at q;by_cases g:b=e
  ·have i:H b=QaB x:=by
    grind
   rw[q]at i;cases i;obtain⟨v,hv⟩:=l;exact Qe v (by rw[g];exact hv)
  ·refine(ok b u q).e_ (λc v j r=>k c v ?_ r) (λc r=>by rw[ax (m c b r)];exact r) (λc d r=>by rw[ax ((λc d r z=>by subst z;rw[r]at a;exact a) c d r)];exact r)
   rcases j with rfl|j
   ·exact g
   ·grind
end
structure Un(fs ex:QZ)(H H':Hp)(h h':Heap):Prop where
 keep:RN (S1=Qi->H b=none->b∉fs->b∉ex->T_=Qi)
 slot:RN (S1=Qi->H b=none->b∈fs->b∉ex-> ∃sl,T_=Qc {o with slots:=sl})
 free:RN (S1=Qi->H b=none->b∉ex->H' b=none)
 there:RN (S1=Qi->b∉ex-> ∃o',T_=Qc o')
 kU:∀b xs,H b=TQ->H' b=TQ
 kW:∀b o u,H b=Uc u->H' b=Uc u
 lM:∀b ps,H b=Z1 ps-> ∃more,H' b=Z1 (ps++more)
section
variable{fs fs' ex ex':QZ}{H H1 H2:Hp}{h h1 h2 h':Heap}{a x e:Addr}{o:HO}
def Un.any(u:Un fs ex H H1 h h1)(q:S1=Qc ob)(n:H b=none)(hx:b∉ex):∃sl,h1.get? b=Qc {ob with slots:=sl}:=by
 by_cases a:b∈fs
 ·exact u.slot b ob q n a hx
 ·exact Qe ob.slots (u.keep b ob q n a hx)
def Un.kept(k:∀b u,S1=Rj->T_=Rj):Un fs ex H H h h':=
 ⟨λb ob q _ _ _=>k b ob q,λb ob q _ _ _=>Qe ob.slots (k b ob q),λ_ _ _ n _=>n,λb ob q _=>Qe ob (k b ob q),QdT,λ_ _ _ q=>q,λ_ a q=>⟨#[],by rw[q];simp⟩⟩
def Un.refl:Un fs ex H H h h:=Un.kept QdT
def Un.laid(k:∀b u,S1=Rj->T_=Rj)(d:Uk<=a)(c:H a=none):Un fs ex H (upd H a o) h h' where
 keep:=λb u q _ _ _=>k b u q
 slot:=λb u q _ _ _=>Qe u.slots (k b u q)
 free:=λb u q n _=>by rw[ax (b9 (d5 (bx q) d))];exact n
 there:=λb u q _=>Qe u (k b u q)
 kU:=λb e q=>by rw[ax (cZ q c)];exact q
 kW:=λb u e q=>by rw[ax (cZ q c)];exact q
 lM:=λb f q=>⟨#[],by rw[ax (cZ q c),q];simp⟩
def Un.write(c:oD (H x))(j:e=x\/H e=QaB x)(k:∀b u,b≠e->S1=Rj->T_=Rj)(g:∃u,V5 e=Rj):Un fs ex H (upd H x o) h h':=by
 have hx:∀b,H b=none->b≠x:=λb n z=>by subst z;rw[n]at c;exact c
 have d:∀b,H b=none->b≠e:=λb n z=>by
  grind
 have a:∀b u,H b=Rj-> ¬oD (some u)->b≠x:=λb u q l z=>Qm
 refine⟨λb u q n _ _=>k b u (d b n) q,λb u q n _ _=>Qe u.slots (k b u (d b n) q),λb u q n _=>by rw[ax (hx b n)];exact n,λb u q _=>?_,λb i q=>by rw[ax (a b _ q λz=>z)];exact q,λb u i q=>by rw[ax (a b _ q λz=>z)];exact q,λb m q=>⟨#[],by rw[ax (a b _ q λz=>z),q];simp⟩⟩
 by_cases f:b=e
 ·subst f;exact g
 ·exact Qe u (k b u f q)
end
def abd(h:Heap)(H:Hp):QZ:=Sd (dd Uk) (λa=>(H a).isSome)
def oE(h:Heap)(H:Hp):Heap:=PySem.W.hideAll h (abd h H)
def abe(h:Heap)(H:Hp):Xl (oE h H)=Uk:=Jc _ _
def abf(e:S1=Qi)(n:H b=none):R0 (oE h H) b=Qi:=
 Je _ e (λa=>by
  have q:=(Zn a).2;rw[n]at q;simp at q)
def abg(e:R0 (oE h H) b=Qi):S1=Qi/\H b=none:=by
 have a:=PySem.W.of_hideAll _ e;refine Q_ a;cases q:H b with
 |none=>rfl
 |some x=>
  have z:R0 (oE h H) b=none:=Jd _ (eh.mpr ⟨fO.mpr (bx a),by simp[q]⟩);rw[z]at e;cases e
structure Mod(K:au)(mg:QQ)(base:Heap):Prop where
 yJ:K.In base
 glob:base.Ns de mg
 blt:∃mb,base.Ns builtinsNs mb/\ ∀x:Str,x≠QaN->mb x=gY x
 nolimit:base.NoLimit
structure Cx where
 prog:aO
 w:aA
 K:au
 mg:QQ
 base:Heap
 A:di
 N:Uh
 jj:bH
 oF:Hp
 env:Env
 outer:Qa1
 stack:Qa1
 ex:QZ
 fn:S4 Str
 calm:Bool
 pn:Tr
 xe:SR
def kX(l:Qa1):QZ:=TV l (·.frame)
abbrev Cx.fs(X:Cx):QZ:=kX X.outer
def kY(sc:eT)(x:Str):Prop:=Xy x=Vj\/Xy x=XQ\/Xy x=YZ
def Loc(sc:eT)(x:Str):Prop:=Xy x=Vj\/Xy x=XQ
def Look(env:Env)(h:Heap)(m:QQ)(x:Str)(u:aJ):Prop:=
 (env.kindOf x=Vj/\m x=Rj)\/((env.kindOf x=XQ\/env.kindOf x=YZ)/\ ∃c,Qgc x=R9/\h.IsCell c Rj)
structure Cx.Ok(X:Cx):Prop where
 mod:Mod X.K X.mg Vp
 kind:X.env.scope.kind= .function
 glob:X.env.globals=de
 blt:X.env.builtins=builtinsNs
 above:YR<=T6
 inj:∀x y c,VP=R9->QbS y=R9->x=y
 has:∀x,(X.env.kindOf x=XQ\/X.env.kindOf x=YZ)-> ∃c,VP=R9
 vc:∀x c,YP X->VP=R9->YR<=c
 hd:RD->X.A.handled=none
 frames:X.A.frames=Qc Yn
 yK:Yn=X.outer\/(Yn=Qg::X.outer/\X.env.frame=Qc T6)
 yL:∀b∈X.ex,b≠T6/\ ∀x c,VP=R9->c≠b
 bs:RN (X.base.get? b=Qi->X.jj.heap.get? b=Qi/\X.oF b=none)
 lN:X.base.objs.size<=YR
 vd:RN (X.base.get? b=Qi->b∉X.ex)
 ve:∀b∈X.ex,b∉X.fs
 jX:X.jj.heap.FunFrames Vp X.outer
 qi:∀b∈X.fs,X.oF b=none
structure Inv(X:Cx)(pins:Tr)(σ:QR ZS)(H:Hp)(s:bH):Prop where
 ok:X.Ok
 os:s.os=X.jj.os
 bare:pX s.gens
 base:Un X.fs X.ex X.oF H X.jj.heap Ql
 loc:∃m,s.heap.Ns T6 m/\ ∀(i:Nat)(x:Str)(v:V),UC=Qz->σ[i]?=Qc Rg->kY Sg x-> ∃u,U0/\Look Qg Ql m x u
 cell:∀x c,VP=R9-> ∃v,s.heap.IsCell c v
 free:H T6=none
 iR:∀x c,VP=R9->H c=none
 pin:∀p∈X.pn++pins,RV p.1=Qc p.2/\H p.1=none/\p.1≠T6/\p.1∉X.fs/\ ∀v,p.2.data≠ .cell v
 a5:cj Qr X.w H Ql
 len:Qeg=X.N.length
section
variable{X:Cx}{pins:Tr}{σ:QR ZS}{H H':Hp}{s:bH}{h':Heap}
def Cx.Ok.abh(ok:X.Ok)(e:X.base.get? b=Qi):b∉X.fs:=λa=>by
 have:=(ok.jX.mem a).1;rw[e]at this;cases this
def Inv.bs(I:QI):RN (X.base.get? b=Qi->Th=Qi/\H b=none):=Q4 ⟨I.base.keep b o (I.ok.bs b o e).1 (I.ok.bs b o e).2 (I.ok.abh e) (I.ok.vd b o e),I.base.free b o (I.ok.bs b o e).1 (I.ok.bs b o e).2 (I.ok.vd b o e)⟩
def Inv.bk(I:QI):RN (X.base.get? b=Qi->Th=Qi):=Q4 (I.bs b o e).1
def Inv.mod(I:QI):Mod X.K X.mg Vp:=I.ok.mod
def Inv.jk(I:QI):X.K.In Ql:=I.ok.mod.yJ.keeps I.bk
def Inv.nolimit(I:QI):s.heap.NoLimit:=I.ok.mod.nolimit.keeps I.bk
def Inv.lt(I:QI):T6<Qt:=let⟨_,hn,_⟩:=I.loc;hn.lt
def Inv.sz(I:QI):YR<=Qt:=bp I.ok.above (oe I.lt)
def Inv.Jm(I:QI){a:Addr}(h:Qt<=a):a∉X.fs:=λb=>by
 obtain⟨_,o,c,_⟩:=I.ok.jX.mem b;exact XN (d5 (bx c) (bp I.sz h))
def Inv.qj(I:QI):∀x c,VP=R9->c≠T6:=λx c e z=>by
 obtain⟨v,o,a,hd⟩:=I.cell x c e;obtain⟨m,⟨f,g,h,b,d,_⟩,_⟩:=I.loc;rw[z,b]at a;cases a;rw[d]at hd;cases hd
def Inv.jX(I:QI):s.heap.FunFrames Vp X.outer:=by
 have all:∀l,(∀b∈kX l,b∈X.fs)->X.jj.heap.FunFrames Vp l->s.heap.FunFrames Vp l:=by
  intro l;induction l with
  |nil=>intro _ _;trivial
  |cons env r f=>
   intro hs hl;obtain⟨g,⟨L,o,a,h,i,hd⟩,j⟩:=hl;have c:=hs L (by unfold kX;rw[lx,a];exact lq);obtain⟨sl,e⟩:=I.base.slot L o i (I.ok.qi L c) c (λz=>I.ok.ve L z c);exact Qh g ⟨L,_,a,h,e,hd⟩ (f (λb d=>hs b (by unfold kX;rw[lx,a];exact bP _ d)) j)
 exact all _ (λ_ d=>d) I.ok.jX
def Inv.stack(I:QI):s.heap.FunFrames Vp Yn:=by
 rcases I.ok.yK with e|⟨e,a⟩
 ·rw[e];exact I.jX
 ·rw[e];obtain⟨m,b,_⟩:=I.loc;refine .cons (by rw[I.ok.kind];decide) a b (Heap.get?_none_of_le (bp I.ok.lN I.ok.above)) I.jX
def Inv.CI(I:QI):∀b∈kX X.stack,b∈T6::X.fs:=λb a=>by
 rcases I.ok.yK with e|⟨e,c⟩
 ·grind
 ·rw[e]at a;unfold kX at a;rw[lx,c]at a;exact a
def Inv.CJ(I:QI):∀b∈kX X.stack,H b=none:=λb a=>by
 rcases RA (I.CI b a)with e|a
 ·rw[e];exact I.free
 ·obtain⟨_,o,c,_⟩:=I.ok.jX.mem a;exact I.base.free b o c (I.ok.qi b a) (λz=>I.ok.ve b z a)
def Inv.step{ch:QZ}(I:QI)
  (h:∀b∈ch,(b∈X.ex\/YR<=b)/\b≠T6/\(∀x c,VP=R9->c≠b)/\Qb9 p.1 b)
  (keep:RN (b≠T6->b∉X.fs->b∉ch->Th=Qi->H b=none->T_=Qi))
  (slot:RN (b≠T6->b∈X.fs->b∉ch->Th=Qi->H b=none-> ∃sl,T_=Qc {o with slots:=sl}))(free:RN (b∉ch->Th=Qi->H b=none->H' b=none))
  (there:RN (b∉ch->Th=Qi-> ∃j,T_=Qc j))
  (kU:∀b xs,H b=TQ->H' b=TQ)(kW:∀b o u,H b=Uc u->H' b=Uc u)(lM:∀b ps,H b=Z1 ps-> ∃more,H' b=Z1 (ps++more))
  (ns:∀m,s.heap.Ns T6 m->h'.Ns T6 m)(a5:cj Qr X.w H' h')(hg:pX g'):
  SM H' {s with heap:=h',gens:=g',drawn:=d',toks:=t'}:=by
 have A:RN (X.jj.heap.get? b=Qi->b≠T6):=Q4 (b9 (d5 (bx e) I.ok.above));have y:RN (X.jj.heap.get? b=Qi->b∉X.ex->b∉ch):=λb o e hx f=>by
  rcases(h b f).1 with z|z
  ·exact hx z
  ·exact XN (d5 (bx e) z)
 have B:∀x c,VP=R9-> ∀v,s.heap.IsCell c v->h'.IsCell c v:=λx c e v⟨o,g,hd⟩=>by
  have t:=λz=>(h c z).2.2.1 x c e rfl;by_cases C:c∈X.fs
  ·obtain⟨sl,q⟩:=slot c o (I.qj x c e) C t g (I.iR x c e);exact Tn q hd
  ·exact SF (keep c o (I.qj x c e) C t g (I.iR x c e)) hd
 refine⟨I.ok,I.os,hg,⟨λb o e n f hx=>keep b o (A b o e) f (y b o e hx) (I.base.keep b o e n f hx) (I.base.free b o e n hx),λb o e n f hx=>by obtain⟨sl,a⟩:=I.base.slot b o e n f hx;obtain⟨F,w⟩:=slot b _ (A b o e) f (y b o e hx) a (I.base.free b o e n hx);exact⟨F,w⟩,λb o e n hx=>by obtain⟨j,a⟩:=I.base.there b o e hx;exact free b j (y b o e hx) a (I.base.free b o e n hx),λb o e hx=>by obtain⟨j,a⟩:=I.base.there b o e hx;exact there b j (y b o e hx) a,λb xs e=>kU b xs (I.base.kU b xs e),λb o xs e=>kW b o xs (I.base.kW b o xs e),λb ps e=>by obtain⟨m1,a⟩:=I.base.lM b ps e;obtain⟨m2,w⟩:=lM b _ a;exact⟨m1++m2,by rw[w,Array.append_assoc]⟩⟩,?_,λx c e=>by obtain⟨v,z⟩:=I.cell x c e;exact⟨v,B x c e v z⟩,by obtain⟨m,⟨o,_,_,g,_⟩,_⟩:=I.loc;exact free _ o (λz=>(h _ z).2.1 rfl) g I.free,λx c e=>by obtain⟨v,o,g,hd⟩:=I.cell x c e;exact free c o (λz=>(h c z).2.2.1 x c e rfl) g (I.iR x c e),λp D=>by obtain⟨e,n,ne,E,d⟩:=I.pin p D;have t:=λz=>(h p.1 z).2.2.2 p D rfl;exact⟨keep p.1 p.2 ne E t e n,free p.1 p.2 t e n,ne,E,d⟩,a5,I.len⟩
 ·obtain⟨m,G,hl⟩:=I.loc;refine⟨m,ns m G,λi x v a w J=>?_⟩;obtain⟨u,r,l⟩:=hl i x v a w J;refine Rv u r;rcases l with l|⟨k,c,e,z⟩
  ·exact Qq l
  ·exact Qy ⟨k,c,e,B x c e _ z⟩
def Inv.un(I:QI)(u:Un X.fs [] H H' Ql h')(a5:cj Qr X.w H' h'):SM H' QbC:=by
 obtain⟨m,⟨o,k,l,c,r⟩,_⟩:=id I.loc;obtain⟨sl,f⟩:=u.any c ZP Qj;exact I.step (ch:=[]) (λ_ z=>nomatch z) (λb o _ a _ e n=>u.keep b o e n a Qj) (λb o _ a _ e n=>u.slot b o e n a Qj) (λb o _ e n=>u.free b o e n Qj) (λb o _ e=>u.there b o e Qj) u.kU u.kW u.lM (λp g=>by
  obtain⟨q,h,i,d,j⟩:=g;rw[c]at d;cases d;exact⟨_,h,i,f,j⟩) a5 WR
def Inv.call(I:QI)(u:Un (kX Yn) ch H H' Ql h')(a5:cj Qr X.w H' h')(hg:pX g')
  (f:∀b∈ch,(b∈X.ex\/YR<=b)/\b≠T6/\(∀x c,VP=R9->c≠b)/\Qb9 p.1 b):
  SM H' {s with heap:=h',gens:=g',drawn:=d',toks:=t'}:=by
 obtain⟨m,⟨o,t,v,g,r⟩,_⟩:=id I.loc;obtain⟨sl,d⟩:=u.any g ZP (λz=>S_ (f _ z).2.1);exact I.step f (λb o d i a e n=>u.keep b o e n (λz=>(RA (I.CI b z)).elim d i) a) (λb o _ _ a e n=>u.any e n a) (λb o a e n=>u.free b o e n a) (Qcs (u.there b o e a)) u.kU u.kW u.lM (λw j=>by
  obtain⟨y,k,l,h,q⟩:=j;rw[g]at h;cases h;exact⟨_,k,l,d,q⟩) a5 hg
def Inv.turned(I:QI)(k:RN (b≠it->Th=Qi->T_=Qi))(f:H it=none)(g:it≠T6)
  (t:it∈X.ex\/YR<=it)(w:∀x c,VP=R9->c≠it)(y:Qb9 p.1 it):YV QbC:=by
 have d:∀b u,H b=Rj->b≠it:=λb u e z=>by rw[z,f]at e;cases e
 refine I.step (ch:=[it]) (λb A=>Qm) (λb o _ _ a e _=>k b o (λz=>a Qab) e) (λb o _ _ a e _=>Qe o.slots (k b o (λz=>a Qab) e)) (λ_ _ _ _ n=>n) (Qcs (Qe o (k b o (λz=>a Qab) e))) QaJ (λ_ _ _ e=>e) (λb B e=>⟨#[],QdM⟩) (λm h=>by obtain⟨o,i,j,l,r⟩:=h;exact⟨o,i,j,k _ o (fP g) l,r⟩) (Ye ?_) WR
 ·refine(I.a5 b u e).e_ (λc v a q=>k c v ?_ q) (λ_ q=>q) QdT;rcases a with z|z
  ·rw[z];exact d b u e
  ·exact d c _ z
def Inv.tok(I:QI)(t:Nat):YV {s with toks:=t}:=I.un Un.refl Rb
def Inv.kept(I:QI)(k:∀b u,Th=Rj->T_=Rj):YV QbC:=I.un (Un.kept k) (I.a5.kept k)
def Inv.laid{a:Addr}(I:QI)(k:∀b u,Th=Rj->T_=Rj)(c:Qt<=a)(new:d6 Qr X.w (upd H a o) h' a o):
  SM (upd H a o) QbC:=I.un (Un.laid k c (Ut c)) (I.a5.laid k c new)
def Inv.write(I:QI)(a:oD (H x))(c:e=x\/H e=QaB x)(k:∀b u,b≠e->Th=Rj->T_=Rj)(d:∃u,V5 e=Rj)
  (new:d6 Qr X.w (upd H x o) h' x o):SM (upd H x o) QbC:=I.un (Un.write a c k d) (I.a5.write a c k d new)
def Inv.weak(I:QI)(hl:Sj=Qeg)(w:∀(i:Nat)v,a[i]?=Qc Rg->σ[i]?=Qc Rg):Qbb X a H s:=
 ⟨I.ok,I.os,WR,I.base,let⟨m,hn,hl'⟩:=I.loc;⟨m,hn,λi x v b c d=>hl' i x v b (w i v c) d⟩,I.cell,ZP,I.iR,I.pin,Rb,hl.trans I.len⟩
def Inv.yM(I:QI)(h:∀p∈pins',RV p.1=Qc p.2/\H p.1=none/\p.1≠T6/\p.1∉X.fs/\ ∀v,p.2.data≠ .cell v):Inv X pins' σ H s:=
 ⟨I.ok,I.os,WR,I.base,I.loc,I.cell,ZP,I.iR,λp a=>(Vd a).elim (λz=>I.pin p (List.mem_append_left _ z)) (h p),Rb,I.len⟩
def CK{N:Uh}(c:N.Nodup){i j:Nat}(a:N[i]?=Qz)(b:N[j]?=Qz):i=j:=by
 obtain⟨f,d⟩:=Zh a;obtain⟨g,e⟩:=Zh b;exact(List.getElem_inj c).mp (QH d Y6)
def Jn(I:QI)(T:X.N.Nodup)(hi:UC=Qz)(hx:Loc Sg x)(r:U0)
  (h:∀F,Qbb X (σ.set i Rg) H F->(∃a,dN a Ql F.heap/\(a=T6\/VP=Zb))->Q () F)(hf:YP X\/X8 X x=Vj:=by first|exact Qw|exact WH|assumption):aj M A (storeName Qg x u) Q E s:=by
 obtain⟨m,G,hl⟩:=id I.loc
 have U:i<Qeg:=by rw[I.len];exact Ub hi
 have qj:=I.qj;have W:∀ {a:Addr}{h':Heap},(∃o,RV a=Qi/\H a=none)->dN a _ h'->cj _ X.w H h':=λ{a h'}ha hs b ob e=>by
  obtain⟨_,_,Y⟩:=ha;refine(I.a5 b ob e).e_ (λc C g q=>Rx hs.2 c ?_ q) (λ_ q=>q) QdT;rintro rfl;rcases g with rfl|g
  ·rw[Y]at e;cases e
  ·rw[Y]at g;cases g
 rcases hx with B|B
 ·refine wpAny_storeName_local B G (λh' hn' hs=>?_) (by rw[I.ok.kind];rfl);obtain⟨oL,_,_,hoL,_⟩:=id G;refine h _ ⟨I.ok,I.os,WR,⟨Qgl (Rx hs.2 b (b9 (d5 (bx e) I.ok.above)) (I.base.keep b o e n t hx)),Qgl (by obtain⟨sl,f⟩:=I.base.slot b o e n t hx;exact⟨sl,(hs.2 b (b9 (d5 (bx e) I.ok.above))).trans f⟩),I.base.free,λb o e hx=>by obtain⟨N,f⟩:=I.base.there b o e hx;exact⟨N,(hs.2 b (b9 (d5 (bx e) I.ok.above))).trans f⟩,I.base.kU,I.base.kW,I.base.lM⟩,Tn hn' (λj y J f l K=>?_),λy c e=>by obtain⟨C,z⟩:=I.cell y c e;exact⟨C,z.sameBut hs (qj y c e)⟩,ZP,I.iR,λp L=>by obtain⟨e,n,ne,R,d⟩:=I.pin p L;exact⟨(hs.2 p.1 ne).trans e,n,ne,R,d⟩,W (Qh oL hoL ZP) hs,by simpa using I.len⟩ ⟨_,hs,Qw⟩
  ·by_cases w:j=i
   ·subst w;rw[hi]at f;cases f;rw[uq U]at l;cases l;exact Qh u r (Qq (Z2 B))
   ·rw[xC (fP w)]at l;obtain⟨O,P,q⟩:=hl j y J f l K;refine Rv O P;rcases q with⟨k,e⟩|⟨k,c,e,z⟩
    ·refine Qq (Q_ k);have:y≠x:=λe=>w (CK T f (e▸hi));simp[this,e]
    ·exact Qy ⟨k,c,e,z.sameBut hs (qj y c e)⟩
 ·have S:YP X:=by
   grind
  obtain⟨c,g⟩:=I.ok.has x (Qq B);obtain⟨C,z⟩:=I.cell x c g;refine wpAny_storeName_cell QcR B g z (λh' Z hs=>?_);obtain⟨oc,hoc,hocd⟩:=id z;refine h _ ⟨I.ok,I.os,WR,⟨Qgl (Rx hs.2 b (b9 (d5 (bx e) (I.ok.vc x c S g))) (I.base.keep b o e n t hx)),Qgl (by obtain⟨sl,f⟩:=I.base.slot b o e n t hx;exact⟨sl,(hs.2 b (b9 (d5 (bx e) (I.ok.vc x c S g)))).trans f⟩),I.base.free,λb o e hx=>by obtain⟨N,f⟩:=I.base.there b o e hx;exact⟨N,(hs.2 b (b9 (d5 (bx e) (I.ok.vc x c S g)))).trans f⟩,I.base.kU,I.base.kW,I.base.lM⟩,⟨m,G.sameBut hs (fP (qj x c g)),λj y J f l K=>?_⟩,λy D e=>?_,ZP,I.iR,λp L=>by obtain⟨e,n,ne,R,d⟩:=I.pin p L;refine⟨(hs.2 p.1 ?_).trans e,n,ne,R,d⟩;intro q;rw[q,hoc]at e;exact d C (by rw[<-(gn e)];exact hocd),W ⟨oc,hoc,I.iR x c g⟩ hs,by simpa using I.len⟩ ⟨c,hs,Qy g⟩
  ·by_cases w:j=i
   ·subst w;rw[hi]at f;cases f;rw[uq U]at l;cases l;exact Qh u r (Qy ⟨Qq B,c,g,Z⟩)
   ·rw[xC (fP w)]at l;obtain⟨O,P,q⟩:=hl j y J f l K;refine Rv O P;rcases q with q|⟨k,D,e,z'⟩
    ·exact Qq q
    ·refine Qy ⟨k,D,e,z'.sameBut hs ?_⟩;rintro rfl;exact w (CK T f (I.ok.inj _ _ _ e g▸hi))
  ·by_cases hcc:D=c
   ·subst hcc;exact Rh Z
   ·obtain⟨w2,z2⟩:=I.cell y D e;exact Qe w2 (z2.sameBut hs hcc)
def Jo(I:QI)(b:X.N.Nodup)(hi:UC=Qz)(hx:Loc Sg x)(r:U0)
  (h:∀a,Qbb X (σ.set i Rg) H a->Q () a)(c:YP X\/X8 X x=Vj:=by first|exact Qw|exact WH|assumption):aj M A (storeName Qg x u) Q E s:=
 Jn I b hi hx r (λa d _=>h a d) c
def Inv.abi(I:QI)(d:a.os=s.os)(u:Un (kX Yn) ch H H' Ql Tf)(a5:cj Qr X.w H' Tf)(hg:pX a.gens)
  (f:∀b∈ch,(b∈X.ex\/YR<=b)/\b≠T6/\(∀x c,VP=R9->c≠b)/\Qb9 p.1 b):SM H' a:=by
 obtain⟨h',g,h,i,j⟩:=a;subst d;exact I.call u a5 hg f
abbrev XK:=aJ->TJ QaW
abbrev St:=QR ZS
abbrev VK:=TJ V
abbrev TE:=St->Hp->SY
abbrev TT:=St->Hp->Q5 (TJ Bool)
abbrev TA:=St->Hp->Q5 (TJ Q8)
structure Ends where
 nx:ZT
 rt:VK
 bk:ZT:=Tx
 ct:ZT:=Tx
abbrev TS:=Ends->ZT
end
def EP(X:Cx)(pins:Tr)(σ:St)(Q:VK)(u:aJ)(b:bH):Prop:= ∃v a,SM a b/\U0/\Q v a
def TP(X:Cx)(pins:Tr)(σ:St)(Q:TJ Bool)(b:Bool)(c:bH):Prop:= ∃a,SM a c/\Q b a
def AP(X:Cx)(pins:Tr)(σ:St)(Q:TJ Q8)(us:Wr)(c:bH):Prop:= ∃a b,SM b c/\UJ a/\Q a b
def SP(X:Cx)(pins:Tr)(D:Ends)(f:Flow)(c:bH):Prop:=
 match f with
 | .next=>∃b a,Qbb X b a c/\D.nx b a
 | .brk=>∃b a,Qbb X b a c/\D.bk b a
 | .cont=>∃b a,Qbb X b a c/\D.ct b a
 | .ret u=>∃v b a,Qbb X b a c/\U0/\D.rt v a
def PE(X:Cx)(e:Expr)(t:TE):Prop:=
 Qgm (Inv X b a H s->t a H Q->aj (aV Qr X.w) X.A Qah (EP X b a Q) Q3 s)
def PT(X:Cx)(e:Expr)(t:TT):Prop:=
 Qgm (Inv X b a H s->t a H Q->aj (aV Qr X.w) X.A (mO e Qg Qah) (TP X b a Q) Q3 s)
def PW(X:Cx)(e:Expr)(t:TT):Prop:=
 ∀c b s(a:St)H Q,Inv X b a H s->t a H Q->aj (aV Qr X.w) X.A (mO e Qg c) (TP X b a Q) Q3 s
def PW.pt(h:PW X e t):PT X e t:=h _
def PA(X:Cx)(c:Tc)(t:TA):Prop:=
 ∀d b s(a:St)H Q,Inv X b a H s->t a H Q->aj (aV Qr X.w) X.A (spliced (eC d (a_ c Qg))) (AP X b a Q) Q3 s
def PS(X:Cx)(st:Stmt)(t:TS):Prop:=
 ∀a s(b:St)H D,Inv X a b H s->t D b H->aj (aV Qr X.w) X.A (exec st Qg) (SP X a D) Q3 s
def gv(X:Cx)(st:US)(t:TS):Prop:=
 ∀a s(b:St)H D,Inv X a b H s->t D b H->aj (aV Qr X.w) X.A (execs st Qg) (SP X a D) Q3 s
def aR{M}{A}{E}{s}(h:aj M A t Q E s)(d:∀a s,Q a s->c a s):aj M A t c E s:=ej h d QcF
section
variable{X:Cx}
def Jp(i:Nat):TE:=Uq (∃v,a[i]?=Qc Rg/\Q v H)
def tC(v:V):TE:=λ_ H Q=>Q v H
def oG{g}(j:UC=Qz)(hv:kY Sg x)(hd:SK=Qb:=by decide)(k:(x==Zv)=Qb:=by decide):PE X (UB g) (Jp i):=by
 intro n s o H Q I h;obtain⟨v,e,h⟩:=h;obtain⟨m,p,hl⟩:=I.loc;obtain⟨u,r,l⟩:=hl i x v j e hv;have b:EP X n o Q u s:=⟨v,H,I,r,h⟩;rcases l with⟨a,q⟩|⟨a,c,d,f⟩
 ·exact wpAny_Name (wpAny_loadName_local QcR a p q b) hd
 ·rcases a with a|a
  ·exact wpAny_Name (wpAny_loadName_cell QcR a d f b) hd
  ·exact wpAny_Name (wpAny_loadName_free QcR a d f b k) hd
def dP:PE X (XB S0 j a) (tC S0):=Qes (wpAny_Constant_int ⟨S0,H,I.tok _,Yv,h⟩)
def CL:PE X (XB (.bool b) j a) (tC (.bl b)):=Qes (Constant_bool (Rl (.bl b) H I h))
def sd:PE X (XB Sf j a) (tC .a9):=Qes (Constant_none (Rl .a9 H I h))
def Gl(X:Cx)(x:Str):Prop:=X.env.kindOf x=Qc .globalImplicit
def CM{σ:St}(I:QI)(hg:Gl X x)(b:X.mg x=Rj)(h:Q u s)
  (hd:SK=Qb:=by decide):aj (aV Qr X.w) X.A (Ws Qb4) Q E s:=
 II QcR hg (Calls.loadGlobal_global (by rw[I.ok.glob];exact I.mod.glob.keeps I.bk) b h) hd
def lO{E}{σ:St}{a}(I:QI)(hg:Gl X x)(b:X.mg x=none)(hv:gY x=Rj)(h:Q u s)
  (c:x≠QaN:=by decide)(hd:SK=Qb:=by decide):aj (aV Qr X.w) X.A (Ws Qb4) Q E s:=by
 obtain⟨f,d,e⟩:=I.mod.blt;exact II QcR hg (Calls.loadGlobal_builtin (by rw[I.ok.glob];exact I.mod.glob.keeps I.bk) b (by rw[I.ok.blt];exact d.keeps I.bk) (Rx e x c hv) h) hd
def qk(hg:Gl X x)(b:X.mg x=Rj)(r:U0)(hd:SK=Qb:=by decide):PE X Qb4 (tC v):=
 Qes (CM I hg b ⟨v,H,I,r,h⟩ hd)
variable{a b:Expr}{ta tb:TE}{pos:Pos}
def PC(X:Cx)(op:CmpOp)(a b:Expr)(t:TE):Prop:=
 ∀d s(c:St)H Q,Inv X d c H s->t c H Q->aj (aV Qr X.w) X.A (Ws a) (λv e=>aj (aV Qr X.w) X.A (Ws b) (λu f=>aj (aV Qr X.w) X.A (eY op v u) (EP X d c Q) Q3 f) Q3 e) Q3 s
def Jq(b:Expr)(h:op≠ .In)(d:op≠ .NotIn):hY op b=Qb:=by
 have a:(op==CmpOp.In)=Qb:=by grind
 have c:(op==CmpOp.NotIn)=Qb:=by grind
 cases b<;>simp[hY,a,c]
def abj(a:TE):TE:=YN (a b H (λx c=>Q (.bl (Ro x .a9)) c))
def abk(a:TE):TE:=YN (a b H (λx c=>Q (.bl (!decide (x= .a9))) c))
def RelV.Jr(r:SD x v):(v==ji)=Ro x .a9:=by
 cases x with
 |a9=>cases r;rfl
 |bl _=>cases r;rfl
 |int _=>obtain⟨t,rfl⟩:=r;rfl
 |str _=>obtain⟨t,rfl⟩:=r;rfl
 |fm _=>obtain⟨t,rfl⟩:=r;rfl
 |sb _=>obtain⟨t,rfl⟩:=r;rfl
 |ref _=>cases r;rfl
 |ty _=>cases r;rfl
def vf{j b}(c:PE X a ta):PC X .Is a (XB Sf j b) (abj ta):=by
 exact Qgi (aR (c d s e H _ I h) (Qhj (Constant_none (is_none_gen ⟨.bl _,f,g,by rw[i.Jr];rfl,q1⟩))))
def abl{j b}(c:PE X a ta):PC X .IsNot a (XB Sf j b) (abk ta):=by
 exact Qgi (aR (c d s e H _ I h) (Qhj (Constant_none (isnot_none_gen ⟨.bl _,f,g,by rw[i.Jr];rfl,q1⟩))))
def tB(t:TE):TT:=Uq (t a H (λx b=> ∃c,x= .bl c/\Q c b))
def abm(h:PC X op a b t)(c:hY op b=Qb:=by first|exact Jq _ QD QD|rfl):PE X Qdb t:=λd s e H Q I f=>wpAny_Compare1 (h d s e H Q I f) c
def ql(h:PC X op a b t)(e:hY op b=Qb:=by first|exact Jq _ QD QD|rfl):PT X Qdb (tB t):=by
 refine λf s g H Q I i=>wpAny_isTrue_Compare1 (aR (h f s g H _ I i) (λv s1 e=>aR e (λu s2 j=>aR j (λc s3⟨x,k,l,m,q1⟩=>?_)))) e;obtain⟨d,rfl,q⟩:=q1;cases m;exact TZ oh k l q
def CN(h:PE X e t)(b:∀a,mO e Qg a=(do let v<-a;standAt e.pos;qb [v] (truthy v)):=by intro _;rfl):PT X e (tB t):=by
 refine λc s f H Q I g=>isTrue_plain (aR (h c s f H _ I g) (λv s1⟨x,i,j,k,q1⟩=>?_)) (b _);obtain⟨d,rfl,q⟩:=q1;cases k;exact TZ oh i j q
variable{tA tB':TT}{rest:Tc}
def abn(t u:TT):TT:=Uq (t a H (λc b=>if c=true then u a b Q else Q false b))
def abo(t u:TT):TT:=Uq (t a H (λc b=>if c=true then Q true b else u a b Q))
def abp(t:TT):TT:=Uq (t a H (λc b=>Q (!c) b))
def Js(b:PT X a tA):PW X (Z0 [a]) tA:=by
 refine λg d s f H Q I h=>isTrue_and (aR (b d s f H Q I h) (λc s1 e=>?_));cases c with
 |true=>exact isTrue_and_nil e
 |false=>exact e
def CO(b:PT X a tA):PW X (Zl .Or [a]) tA:=by
 refine λg d s f H Q I h=>isTrue_or (aR (b d s f H Q I h) (λc s1 e=>?_));cases c with
 |false=>exact isTrue_or_nil e
 |true=>exact e
def Jt(i:PT X a tA)(j:PW X (Z0 (b::rest)) tB'):PW X (Z0 (a::b::rest)) (abn tA tB'):=by
 refine λk d s e H Q I h=>isTrue_and (aR (i d s e H _ I h) (λc s1⟨f,g,q1⟩=>?_));cases c with
 |true=>exact j k d s1 e f Q g q1
 |false=>exact Qh f g q1
def yN(i:PT X a tA)(j:PW X (Zl .Or (b::rest)) tB'):PW X (Zl .Or (a::b::rest)) (abo tA tB'):=by
 refine λk d s e H Q I h=>isTrue_or (aR (i d s e H _ I h) (λc s1⟨f,g,q1⟩=>?_));cases c with
 |true=>exact Qh f g q1
 |false=>exact j k d s1 e f Q g q1
def yO(b:PT X a tA):PT X (.UnaryOp .Not a pos) (abp tA):=by
 exact Qgi (isTrue_not (b d s e H _ I h))
def abq(d tb:TE):TE:=Uq (d a H (λx b=> ∃c,x= .bl c/\if c=true then tb a b Q else Q (.bl false) b))
def Ju(h:PE X a t):PE X (Zl op [a]) t:=λb s c H Q I d=>BoolOp_one (h b s c H Q I d)
def Jv(i:PE X a ta)(j:PE X (Z0 (b::rest)) tb):PE X (Z0 (a::b::rest)) (abq ta tb):=by
 refine Qgi (BoolOp_and (aR (i d s e H _ I h) (λv s1⟨x,f,g,k,q1⟩=>?_)));obtain⟨c,rfl,q1⟩:=q1;cases k;refine oh ?_;cases c with
 |true=>exact j d s1 e f Q g q1
 |false=>exact Rl (.bl Qb) f g q1
def abr(t:TT)(d tb:TE):TE:=Uq (t a H (λc b=>if c=true then d a b Q else tb a b Q))
def Jw(j:PT X c tA)(k:PE X a ta)(l:PE X b tb):PE X (.IfExp c a b pos) (abr tA ta tb):=by
 refine λe s f H Q I h=>wpAny_IfExp (aR (j e s f H _ I h) (λd s1⟨g,i,q1⟩=>?_));cases d with
 |true=>exact k e s1 f g Q i q1
 |false=>exact l e s1 f g Q i q1
end
def bF(K:au)(H:Hp)(a:Addr)(xs:Q8):Prop:=
 QhD Rd H a xs\/Qhe (Vz a=Qi/\V8=SW/\o.dict=none/\Si= .seq b n/\RH b<=bq/\RX xs Xo)
def cw(K:au)(H:Hp)(a:Addr)(xs:Q8):Prop:=
 Rd H a (.tup xs)\/Qhe (Vz a=Qi/\V8=UQ/\Si= .seq b n/\RH b<=bq/\RX xs Xo)
def abt:aJ->ZS
 | .none=>Qc .a9
 | .bool b=>RE .bl b
 | .int i _=>QaC i
 | .str x _=>RE .str x
 | .bytes b _=>RE .fm b
 | .float b _=>RE .sb b
 | .ref a=>Y0
 | .type n=>RE .ty n
 |_=>none
def RelV.abs(r:Y4 x):abt u=Qz:=by
 cases x with
 |a9=>cases r;rfl
 |bl _=>cases r;rfl
 |int _=>obtain⟨t,rfl⟩:=r;rfl
 |str _=>obtain⟨t,rfl⟩:=r;rfl
 |fm _=>obtain⟨t,rfl⟩:=r;rfl
 |sb _=>obtain⟨t,rfl⟩:=r;rfl
 |ref _=>cases r;rfl
 |ty _=>cases r;rfl
def RelV.inj(r:Y4 x)(q:W4):x=y:=gn (r.abs.symm.trans q.abs)
def Vals.inj:∀ {xs ys:List V}{us:List aJ},ZO->UJ ys->xs=ys
 |_,_,_,.nil,.nil=>rfl
 |_,_,_,.cons r t,.cons a b=>by rw[r.inj a,Vals.inj t b]
section
variable{X:Cx}{pins:Tr}{σ:St}{H:Hp}{s:bH}{a:Addr}{xs ys:Q8}
def bF.of{K}(h:H a=RZ xs):bF K H a xs:= Qdr h
def cw.of{K}(h:H a=TQ):cw K H a xs:= Qdr h
def Inv.list(I:QI)(h:bF X.K H a xs):∃b,RX xs b/\PlainL Ql a Qa2/\Qu<=bq:=by
 rcases h with h|⟨o,b,n,c,d,hd,hs,f,r⟩
 ·obtain⟨z,b,n,r,e⟩:=h.ok Rb;exact⟨b,r,⟨_,n,e,rfl,rfl,rfl⟩,z⟩
 ·refine⟨Xo,r,⟨o,n,I.jk a o c,d,hd,by simpa using hs⟩,?_⟩;have e:=r.length;simp []at e;omega
def Inv.tuple(I:QI)(h:cw X.K H a xs):∃b,RX xs b/\IsTup Ql a Qa2/\Qu<=bq:=by
 rcases h with h|⟨o,b,n,c,d,hs,f,r⟩
 ·obtain⟨z,b,r,p⟩:=h.ok Rb;exact⟨b,r,p,z⟩
 ·refine⟨Xo,r,⟨o,I.jk a o c,d,n,by simpa using hs⟩,?_⟩;have e:=r.length;simp []at e;omega
def Inv.yP(I:QI)(h:bF X.K H a xs)(h':bF X.K H a ys):xs=ys:=by
 obtain⟨f,r,⟨o,n,e,_,_,d⟩,_⟩:=I.list h;obtain⟨g,i,⟨j,k,b,_,_,c⟩,_⟩:=I.list h';rw[e]at b;cases b;rw[d]at c;injection c with d1 _;have:f=g:=by grind
 subst this;exact r.inj i
def Inv.abu(I:QI)(h:cw X.K H a xs)(h':cw X.K H a ys):xs=ys:=by
 obtain⟨f,r,⟨o,e,_,n,d⟩,_⟩:=I.tuple h;obtain⟨g,i,⟨j,b,_,k,c⟩,_⟩:=I.tuple h';rw[e]at b;cases b;rw[d]at c;injection c with d1 _;have:f=g:=by grind
 subst this;exact r.inj i
end
abbrev Cx.lP(X:Cx)(E:SR):Cx:={X with xe:=E}
abbrev Cx.lQ(X:Cx):Cx:=X.lP Tx
def Cx.Ok.lP{X:Cx}(ok:X.Ok)(E:SR):(X.lP E).Ok:=
 ⟨ok.mod,ok.kind,ok.glob,ok.blt,ok.above,ok.inj,ok.has,ok.vc,ok.hd,ok.frames,ok.yK,ok.yL,ok.bs,ok.lN,ok.vd,ok.ve,ok.jX,ok.qi⟩
def Cx.Ok.oH{X:Cx}(ok:(X.lP E).Ok):X.Ok:=
 ⟨ok.mod,ok.kind,ok.glob,ok.blt,ok.above,ok.inj,ok.has,ok.vc,ok.hd,ok.frames,ok.yK,ok.yL,ok.bs,ok.lN,ok.vd,ok.ve,ok.jX,ok.qi⟩
section
variable{X:Cx}{pins:Tr}{σ:St}{H:Hp}{s:bH}{E:SR}
def Inv.lP(I:QI)(E:SR):Qg3 (X.lP E) H s:=⟨I.ok.lP E,I.os,WR,I.base,I.loc,I.cell,ZP,I.iR,I.pin,Rb,I.len⟩
def Inv.oH(I:Qg3 (X.lP E) H s):QI:=⟨I.ok.oH,I.os,WR,I.base,I.loc,I.cell,ZP,I.iR,I.pin,Rb,I.len⟩
def SP.oH(h:QfY SP (X.lP E) D f c):QfY SP X D f c:=by
 cases f with
 |next=>obtain⟨a,b,I,q⟩:=h;exact⟨a,b,I.oH,q⟩
 |brk=>obtain⟨a,b,I,q⟩:=h;exact⟨a,b,I.oH,q⟩
 |cont=>obtain⟨a,b,I,q⟩:=h;exact⟨a,b,I.oH,q⟩
 |ret u=>obtain⟨v,a,b,I,r,q⟩:=h;exact⟨v,a,b,I.oH,r,q⟩
def gv.lQ{st}(h:gv X.lQ st t):gv X st t:=λpins s σ H D I a=>ej (h pins s σ H D (I.lP _) a) (λ_ _ q=>q.oH) (λ_ _ z=>cP z)
end
section
variable{X:Cx}{st:Stmt}{rest:US}{t u:TS}{e:Expr}{te:TE}{pos:Pos}
def abv:TS:=λD a H=>D.nx a H
def abw(t u:TS):TS:=λD a H=>t {D with nx:=u D} a H
def fb:gv X [] abv:=λ_ _ a H _ I h=>x5 ⟨a,H,I,h⟩
def dC(b:PS X st t)(c:gv X rest u):gv X (st::rest) (abw t u):=by
 refine λa s d H D I h=>wpAny_execs_cons (aR (b a s d H _ I h) QgZ);cases f with
 |next=>
  obtain⟨e,g,i,q⟩:=q;exact c a s1 e g D i q
 |ret v=>exact q
 |brk=>exact q
 |cont=>exact q
def cS(a:PS X st t):gv X [st] t:=by
 refine λb s c H D I h=>wpAny_execs_cons (aR (a b s c H D I h) QgZ);cases f with
 |next=>exact x5 q
 |ret v=>exact q
 |brk=>exact q
 |cont=>exact q
def Inv.quiet{σ:St}(I:QI):interactive Qg=Qb:=by simp[interactive,I.ok.kind]
def abx(te:TE):TS:=λD a H=>te a H (λ_ b=>D.nx a b)
def iS(b:PE X e te)(hs:eZ e none VL Qg=UH:=by rfl):PS X (.Expr e pos) (abx te):=by
 exact λc s a H D I h=>wpAny_Expr_any (aR (b c s a H _ I h) (λv s1⟨x,d,f,g,q1⟩=>⟨a,d,f,q1⟩)) I.quiet hs
def aby(te:TE):TS:=λD a H=>te a H D.rt
def dy(b:PE X e te):PS X (.Return Xr pos) (aby te):=by
 exact λc s a H D I h=>wpAny_Return_some (aR (b c s a H _ I h) (λv s1⟨x,d,f,g,q1⟩=>⟨x,a,d,f,g,q1⟩))
def abz(c:TT)(t u:TS):TS:=λD a H=>c a H (λb d=>if b=true then t D a d else u D a d)
def gw(k:PT X c g)(l:gv X a t)(m:gv X b u):PS X (.If c a b pos) (abz g t u):=by
 refine λe s f H D I h=>wpAny_If (aR (k e s f H _ I h) (λd s1⟨i,j,q1⟩=>?_));cases d with
 |true=>exact l e s1 f i D j q1
 |false=>exact m e s1 f i D j q1
abbrev TG:=V->St->Hp->Q5 (ZT)
abbrev se:=Q8->St->Hp->Q5 (ZT)
end
def PG(X:Cx)(e:Expr)(t:TG):Prop:=
 ∀a s(b:St)H v u Q,Inv X a b H s->U0->t v b H Q->aj (aV Qr X.w) X.A (assign e Qg u) (λ_ f=> ∃c d,Inv X a c d f/\Q c d) Q3 s
def oI(X:Cx)(g:Tc)(t:se):Prop:=
 ∀a s(b:St)H c d Q,Inv X a b H s->RX c d->t c b H Q->
  aj (aV Qr X.w) X.A (assignInOrder ((jh g X.env).map (·.2)) d) (λ_ h=> ∃e f,Inv X a e f h/\Q e f) Q3 s
section
variable{X:Cx}{pos:Pos}
def fo(i:Nat):TG:=λv a H Q=>Q (a.set i Rg) H
def bS(a:X.N.Nodup)(hi:UC=Qz)(hx:Loc Sg x)(b:YP X\/X8 X x=Vj:=by first|exact Qw|exact WH|assumption):PG X (UB pos) (fo i):=by
 exact λd s e H v u Q I r h=>wpAny_assign_Name (Jo I a hi hx r (λf c=>⟨_,H,c,h⟩) b)
def yQ:se:=λa b H Q=>a=[]/\Q b H
def sg(t:TG)(u:se):se:=λa b H Q=> ∃v r,a=v::r/\t v b H (λc d=>u r c d Q)
def jY:oI X [] yQ:=by
 intro b s a H c d Q I r h;obtain⟨e,h⟩:=h;subst e;cases r;exact assignInOrder_nil ⟨a,H,I,h⟩
def dQ(c:PG X e t)(d:oI X a u)
  (hs:(jh (e::a) X.env).map (·.2)=assign e X.env::(jh a X.env).map (·.2):=by rfl):oI X (e::a) (sg t u):=by
 intro b s f H m n Q I r h;obtain⟨v,o,g,h⟩:=h;subst g;cases r with
 |cons r i=>
  rw[hs];exact assignInOrder_cons (aR (c b s f H _ _ _ I r h) (λ_ s1⟨j,k,l,q1⟩=>d b s1 j k _ _ Q l i q1))
def CP(K:au)(n:Nat)(t:se):TG:=λv c H Q=> ∃a b,v=QS/\cw K H a b/\WW=n/\t b c H Q
def oJ{k}(j:RD)(h:oI X c t)
  (l:Wa jh c Qg=n:=by rfl)(aq:(jh c X.env).findIdx? (·.1)=none:=by rfl):PG X (Xe c k pos) (CP X.K n t):=by
 intro f s g H v u Q I r d;obtain⟨a,m,p,q,hl,d⟩:=d;subst p;cases r;obtain⟨y,i,ht,z⟩:=I.tuple q;refine assign_Tuple_tuple (VC j) ht (by simp[l,<-hl,i.length]) aq (λw hx=>?_);exact h f _ g H m _ Q (I.kept (t':=Tg) (Q4 (hx b o (b9 (bx e)) e))) QdG d
def Jx(te:TE)(g:TG):TS:=λD a H=>te a H (λx b=>g x a b D.nx)
def fU(b:X.N.Nodup)(hi:UC=Qz)(hx:Loc Sg x)(c:PE X e te)(hs:eZ e (Qc Qb4) VL Qg=UH:=by rfl)(d:YP X\/X8 X x=Vj:=by first|exact Qw|exact WH|assumption):
  PS X (Z4 [Qb4] e) (Jx te (fo i)):=by
 exact λf s g H D I h=>wpAny_Assign_Name (aR (c f s g H _ I h) (λv s1⟨y,j,k,l,q1⟩=>Jo k b hi hx l (λs2 m=>⟨_,j,m,q1⟩) d)) hs
def abA(c:TT)(tb:TS):TS:=λD a H=> ∃W:Nat->St->Hp->Prop,(∃m,W m a H)/\ ∀m a H,W m a H->c a H (λb d=>if b=true then∃N,(∀e f,N e f->∃g,g<m/\W g e f)/\tb {D with nx:=N,ct:=N,bk:=D.nx} a d else D.nx a d)
def abB(r:fQ (aV Qr X.w) X.A Qg Q3)(A:PT X c q)(B:gv X body tb):PS X (.While c body [] pos) (abA q tb):=by
 intro j s C H D I h;obtain⟨W,⟨E,F⟩,G⟩:=h;refine wpAny_While (codeAny_whileLoop (λn J=> ∃t u,Inv X j t u J/\W n t u) ?_ E ⟨C,H,I,F⟩);rintro n s1⟨e,w,K,L⟩;refine pZ r (aR (A j s1 e w _ K (G n e w L)) (λb s2⟨x,y,g⟩=>?_));cases b with
 |true=>
  obtain⟨N,z,g⟩:=g;refine pZ r (aR (B j s2 e x _ y g) (λf s3 i=>?_));cases f with
  |next=>
   obtain⟨a,d,k,l⟩:=i;obtain⟨m,o,p⟩:=z a d l;exact⟨m,o,a,d,k,p⟩
  |cont=>
   obtain⟨a,d,k,l⟩:=i;obtain⟨m,o,p⟩:=z a d l;exact⟨m,o,a,d,k,p⟩
  |brk=>exact i
  |ret v=>exact i
 |false=>
  exact x5 ⟨e,x,y,g⟩
structure It where
 go:TJ Nat
 jl:Nat->Hp->TJ V
 stop:TJ Nat
end
def jZ(X:Cx)(pins:Tr)(H:Hp)(b:Addr):Prop:=
 H b=none/\b≠T6/\b∉X.fs/\(b∈X.ex\/YR<=b)/\(∀x c,VP=R9->c≠b)/\Qb9 p.1 b
def Inv.oK{σ:St}{b:Addr}(I:QI)(a:Qt<=b)(d:H' b=none):jZ X pins H' b:=⟨d,lC (d5 I.lt a),I.Jm a,Qy (bp I.sz a),λx c e z=>by obtain⟨v,q⟩:=I.cell x c e;exact absurd (d5 q.lt (by rw[z];exact a)) (pR _),λp f z=>XN (d5 (bx (I.pin p f).1) (by rw[z];exact a))⟩
structure Turn(P:aO)(w:aA)(K:au)(tg:Expr)(J:It)(fp:QZ)(it:Addr)(tn:Nat->Q5 Heap):Prop where
 mem:it∈fp
 obj:∀i h,tn i h-> ∀b∈fp,∃o,S1=Qi/\ ∀v,Si≠ .cell v
 keep:∀i h h',tn i h->(∀b∈fp,∀o,S1=Qi->T_=Qi)->tn i h'
 item:∀(X:Cx),Qr=P->X.w=w->X.K=K->RD-> ∀(i:Nat)(pins:List (Addr×Obj))(s:bH)(σ:St)(H:Hp)(E:aJ->bH->Prop),QI->(∀b∈fp,jZ X pins H b)->tn i Ql->J.go i H->aj (aV P w) X.A (jQ WI) (λr s1=> ∃u,r=Rj/\aj (aV P w) X.A (Cb tg WI u) (λ_ s2=> ∃x H',SM H' s2/\Y4 x/\J.jl i H x H'/\tn (i+1) s2.heap/\ ∀b∈fp,H' b=none) E s1) E s
 done:∀(X:Cx),Qr=P->X.w=w->X.K=K->RD-> ∀(i:Nat)(pins:List (Addr×Obj))(s:bH)(σ:St)(H:Hp)(E:aJ->bH->Prop),QI->(∀b∈fp,jZ X pins H b)->tn i Ql->J.stop i H->aj (aV P w) X.A (jQ WI) (λr s1=>r=none/\YV s1) E s
 self:∀(A:di)(i:Nat)(s:bH)(Q:aJ->bH->Prop)(E:aJ->bH->Prop),tn i Ql->R3 it s->aj (aV P w) A (lH WI) Q E s
abbrev TI:=St->Hp->Q5 (TJ It)
def yR(X:Cx)(pins:Tr)(σ:St)(tg:Expr)(R:TJ It)(e:aJ)(s2:bH):Prop:=
 ∃(it:Addr)(c:List Addr)(d:Nat->Heap->Prop)(J:It)(a:Hp),e=WI/\SM a s2/\Turn Qr X.w X.K tg J c it d/\d 0 s2.heap/\(∀b∈c,jZ X pins a b)/\R J a
def PI(X:Cx)(tg c:Expr)(d:TI):Prop:=
 ∀b s(a:St)H R,Inv X b a H s->d a H R->aj (aV Qr X.w) X.A (Ws c) (λv s1=>aj (aV Qr X.w) X.A (lH v) (yR X b a tg R) Q3 s1) Q3 s
def qm(b:RV it=Qi)(c:V8=SV n)(hd:Si=Vw vs)
  (d: Xb [Uw,"zip","dict_itemiterator","dict_reverseitemiterator","odict_iterator","itertools.zip_longest","itertools.pairwise"] n=Qb)(a:Q () s):aj M A (Cb tg WI u) Q E s:=by
 cases tg<;>first
  |exact ah a
  |(cases u<;>first
     |exact ah a
     |(refine ab (wpAny_load b ?_);rw[c,hd];show aj M A (if Qv (Xb [Uw,"zip","dict_itemiterator","dict_reverseitemiterator","odict_iterator","itertools.zip_longest","itertools.pairwise"] n&&vs[0]?==Qc _) then _ else _) Q E s;rw[Qs (by intro h;rw[d,BH]at h;cases h)];exact ah a))
def oM(K:au)(a:Addr):It:=
 ⟨λi H=> ∃b x,bF K H a b/\b[i]?=Qz,λi H x c=>c=H/\ ∀b,bF K H a b->b[i]?=Qz,λi H=> ∃b,bF K H a b/\QP b i⟩
def Jy(K:au)(a:Addr):It:=
 ⟨λi H=> ∃b x,cw K H a b/\b[i]?=Qz,λi H x c=>c=H/\ ∀b,cw K H a b->b[i]?=Qz,λi H=> ∃b,cw K H a b/\QP b i⟩
def yS(lo:Int)(n:Nat):It:=⟨λi _=>i<n,λi H x a=>a=H/\x=QL (lo+i),λi _=>n<=i⟩
def abC{K}(a it:Addr):Turn P w K tg (oM K a) [it] it (λi h=>h.IsListIter it a i)where
 mem:=by simp
 obj:=λi h st b f=>by
  have e:=by simpa using f
  subst e;obtain⟨o,e,c,d⟩:=st;exact SF e Qgy
 keep:=λi h g st k=>Yg st.at (k it Qj o e)
 item:=by
  intro X m n q A i B s C H E I j st hg;subst m n q;obtain⟨F,x,l,hx⟩:=hg;obtain⟨G,r,p,J⟩:=I.list l;obtain⟨u,L,M⟩:=r.get hx;obtain⟨f0,f1,f2,f3,t,y⟩:=j it Qj;refine wpAny_pyNext_list_item st QaX QgP (λg D N=>?_);obtain⟨o,e,c,d⟩:=id D;exact Ss u (qm e c d QD ⟨x,H,I.turned (t':=Tg) (Qct (Rx N.2 b f e)) f0 f1 f3 t y,M,RL (λS Q=>by rw[I.yP Q l];exact hx),D,λb f=>(j b f).1⟩)
 done:=by
  intro X m n q A i B s C H E I j st hg;subst m n q;obtain⟨F,l,hx⟩:=hg;obtain⟨G,r,p,J⟩:=I.list l;obtain⟨f0,f1,f2,f3,t,y⟩:=j it Qj;have hl:=r.length;exact wpAny_pyNext_list_end (VC A) st QaX Tv (λg R=>RL (I.turned (Qct (R b o f e)) f0 f1 f3 t y))
 self:=λ_ _ _ _ _ st h=>wpAny_pyIter_listiter st h
def abD{K}(a it:Addr):Turn P w K tg (Jy K a) [it] it (λi h=>h.IsTupleIter it a i)where
 mem:=by simp
 obj:=λi h st b f=>by
  have e:=by simpa using f
  subst e;obtain⟨o,e,c,d⟩:=st;exact SF e Qgy
 keep:=λi h g st k=>Yg st.at (k it Qj o e)
 item:=by
  intro X m n q B i C s D H E I j st hg;subst m n q;obtain⟨G,x,l,hx⟩:=hg;obtain⟨r,t,p,J⟩:=I.tuple l;obtain⟨u,L,M⟩:=t.get hx;obtain⟨f0,f1,f2,f3,y,A⟩:=j it Qj;refine wpAny_pyNext_tuple_item st p QgP (λg F N=>?_);obtain⟨o,e,c,d⟩:=id F;exact Ss u (qm e c d QD ⟨x,H,I.turned (t':=Tg) (Qct (Rx N.2 b f e)) f0 f1 f3 y A,M,RL (λS Q=>by rw[I.abu Q l];exact hx),F,λb f=>(j b f).1⟩)
 done:=by
  intro X m n q B i C s D H E I j st hg;subst m n q;obtain⟨G,l,hx⟩:=hg;obtain⟨r,t,p,J⟩:=I.tuple l;obtain⟨f0,f1,f2,f3,y,A⟩:=j it Qj;have hl:=t.length;exact wpAny_pyNext_tuple_end (VC B) st p Tv (λg R=>RL (I.turned (Qct (R b o f e)) f0 f1 f3 y A))
 self:=λ_ _ _ _ _ st h=>wpAny_pyIter_tupleiter st h
def abE{K}(it:Addr)(lo:Int)(n:Nat):Turn P w K tg (yS lo n) [it] it (λi h=>IsRangeIter h it (lo+i*1) (n-i) 1)where
 mem:=by simp
 obj:=λi h st b a=>by
  grind
 keep:=λi h c st k=>k it Qj _ st
 item:=by
  intro X f g j l i q s r H E I d st hg;subst f g j;obtain⟨f0,f1,f2,f3,m,p⟩:=d it Qj;refine(Walks.range (prog:=Qr) (w:=X.w) (VC l) it lo 1 n).item i s _ _ hg st (λv c u hv x y=>?_);obtain⟨t,rfl⟩:=hv;refine SE (qm x rfl rfl QD ⟨QL _,H,I.turned (Qcs (y b o QaM e)) f0 f1 f3 m p,Q_ t,Vh,x,λb a=>(d b a).1⟩);rw[Int.mul_one]
 done:=by
  intro X f g j l i q s r H E I d st hg;obtain⟨f0,f1,f2,f3,m,p⟩:=d it Qj;exact wpAny_pyNext_range_end (VC l) st (by have:n<=i:=hg;omega) (λc A=>RL (I.turned (Qcs (A b o a e)) f0 f1 f3 m p))
 self:=λ_ _ _ _ _ st h=>wpAny_pyIter_rangeiter st h
section
variable{X:Cx}{tg:Expr}
def abF(K:au)(tl:TE):TI:=λc H R=>tl c H (λx b=> ∃a,x=QS/\(∃d,bF K b a d)/\R (oM K a) b)
def abG(K:au)(tl:TE):TI:=λc H R=>tl c H (λx b=> ∃a,x=QS/\(∃d,cw K b a d)/\R (Jy K a) b)
def iT(hl:PE X l tl):PI X tg l (abF X.K tl):=by
 refine λd s f H R I h=>aR (hl d s f H _ I h) (λv s1⟨x,g,c,i,q1⟩=>?_);obtain⟨a,e,⟨m,j⟩,q⟩:=q1;subst e;cases i;obtain⟨n,r,p,t⟩:=c.list j;refine rK QaX ⟨Zw,[Zw],_,_,g,rfl,c.kept (Q4 (bM _ e)),abC a _,Zp _ (cH _ rfl),λb k=>?_,q⟩;have e:=by simpa using k
 subst e;exact c.oK (aQ _) (X9 c (aQ _))
def yT(hl:PE X l tl):PI X tg l (abG X.K tl):=by
 refine λd s f H R I h=>aR (hl d s f H _ I h) (λv s1⟨x,g,c,i,q1⟩=>?_);obtain⟨a,e,⟨n,j⟩,q⟩:=q1;subst e;cases i;obtain⟨k,r,p,t⟩:=c.tuple j;refine wpAny_pyIter_tuple p ⟨Zw,[Zw],_,_,g,rfl,c.kept (Q4 (bM _ e)),abD a _,Zp _ (cH _ rfl),λb m=>?_,q⟩;have e:=by simpa using m
 subst e;exact c.oK (aQ _) (X9 c (aQ _))
def Jz{σ:St}{lo hi}(I:QI)(c: -(2^62)<=lo)(d:lo<2^62)(f: -(2^62)<=hi)(g:hi<2^62)
  (q:R (yS lo (hi-lo).toNat) H):aj (aV Qr X.w) X.A (lH UA) (QfY yR X σ tg R) E {s with heap:=S5 {cls:= SV TN,data:= Vw QeH},toks:=tk}:=by
 refine wpAny_pyIter_range (IsRange.new ..) (small_one c d f g) ?_;have a:YV {s with heap:=S5 {cls:= SV TN,data:= Vw QeH},toks:=tk}:=I.kept (Q4 (bM _ e));refine⟨Qer _,[Qer _],_,_,H,rfl,a.kept (Q4 (bM _ e)),abE _ lo _,?_,λb h=>?_,q⟩
 ·have i:lo+(0:Nat)*1=lo:=by simp
  have j:((hi-lo).toNat)-(0:Nat)=Builtin.Range.rangeSize lo hi 1:=by rw[rangeSize_one];split<;>omega
  show IsRangeIter _ _ _ _ 1;rw[i,j];exact cH _ rfl
 ·have e:b=Qer {cls:= SV TN,data:= Vw QeH}:=by simpa using h
  subst e;exact a.oK (aQ _) (X9 a (aQ _))
def abH(a:TA):TI:=λb H R=>a b H (λc d=> ∃j,c=[QL j]/\ -(2^62)<=j/\j<2^62/\R (yS 0 j.toNat) d)
def abI(a:TA):TI:=λb H R=>a b H (λc d=> ∃i j,c=[S0,QL j]/\(-(2^62)<=i/\i<2^62/\ -(2^62)<=j/\j<2^62)/\R (yS i (j-i).toNat) d)
def JA(hg:Gl X TN)(d:X.mg TN=none)(f:PA X [a] b)(hs:a_ [a] Qg=[Yb a]:=by rfl):PI X tg (XG TN [a] c) (abH b):=by
 refine λg s i H R I h=>Call_ (lO I hg d boot_range (pV (aR (f c g s i H _ I h) (λo s1⟨u,v,k,l,q1⟩=>?_)) hs rfl));obtain⟨j,e,q1,m,q⟩:=q1;subst e;cases l with
 |cons r n=>
  cases n;obtain⟨t,rfl⟩:=r;exact call_range_1 (Jz k Qa Qa q1 m (by simpa using q))
def abJ{p f}(hg:Gl X TN)(k:X.mg TN=none)(l:PA X [a,b] d)(hs:a_ [a,b] Qg=[Yb a,Yb b]:=by rfl)(g:a_ [b] Qg=[Yb b]:=by rfl):
  PI X tg (XG TN [a,b] f) (abI d):=by
 refine λm s n H R I h=>Call_ (lO I hg k boot_range (pV (aR (l f m s n H _ I h) (λz s1⟨A,B,o,u,q1⟩=>?_)) (by rw[hs,g]) (by rw[g];rfl)));obtain⟨i,j,e,⟨q1,v,w,x⟩,q⟩:=q1;subst e;cases u with
 |cons r c=>
  cases c with
  |cons y c=>
   cases c;obtain⟨t,rfl⟩:=r;obtain⟨C,rfl⟩:=y;exact call_range_2 (Jz o q1 v w x q)
def abK(e:TI)(g:TG)(tb:TS):TS:=λD a H=>e a H (λJ f=>Qem ((∃m,W 0 m a f)/\ ∀i m a H,W i m a H->(J.stop i H/\D.nx a H)\/(J.go i H/\ ∃N,(∀c b,N c b-> ∃d,d<m/\W (i+1) d c b)/\ ∀x b,J.jl i H x b->g x a b (λh j=>tb QdC h j))))
def yU(a:QZ)(h:Heap):Tr:=TV a (λb=>Q9 h.get? b (λo=>(b,o)))
def CQ(c:b∈a)(e:S1=Qi):(b,o)∈yU a h:=gk.mpr ⟨b,c,by rw[e];rfl⟩
def abL(c:p∈yU a h):p.1∈a/\Qai p.1=Qc p.2:=by
 obtain⟨b,d,e⟩:=gk.mp c;cases q:(S1) with
 |none=>rw[q]at e;cases e
 |some o=>
  grind
def Inv.pinned{σ:St}(I:QI)(g:∀b∈a,jZ X pins H b)(h:∀b∈a,∃o,Th=Qi/\ ∀v,Si≠ .cell v):Inv X (pins++yU a Ql) σ H s:=
 I.yM (λp i=>(Vd i).elim (λz=>I.pin p (jI _ z)) (λz=>by
  obtain⟨c,e⟩:=abL z;obtain⟨f0,f1,f2,_⟩:=g p.1 c;obtain⟨o,f,d⟩:=h p.1 c;rw[e]at f;cases f;exact⟨e,f0,f1,f2,d⟩))
def Inv.yV{σ:St}(I:Inv X (pins++pl) σ H s):QI:=I.yM (λp a=>I.pin p (jI _ (List.mem_append_left _ a)))
def h_{K}(q:fQ (aV Qr X.w) X.A Qg Q3)(L:RD)(hi:PI X tg B K)(hg:PG X tg g)(a:gv X body tb)
  (hs:∀x,eB B Qg x=Ul:=by intro _;rfl):PS X (.For tg B body [] Z) (abK K g tb):=by
 refine λp s M H D I h=>wpAny_For (aR (hi p s M H _ I h) (λv s1 h1=>aR h1 (λitv s2 h2=>?_))) hs;obtain⟨it,t,O,J,H2,e,I2,T,st2,f2,W,⟨m0,w0⟩,turn⟩:=h2;subst e;have C:∀ {l:Hp},(∀b∈t,l b=none)-> ∀b∈t,jZ X p l b:=λhn b a=>Qe (hn b a) (f2 b a).2;refine codeAny_forLoop_any (λn P=> ∃i w l,Inv X p w l P/\O i P.heap/\(∀b∈t,l b=none)/\W i n w l) ?_ m0 ⟨0,M,H2,I2,st2,λb a=>(f2 b a).1,w0⟩;rintro n s3⟨i,y,A,Q,R,S,w3⟩;rcases turn i n y A w3 with⟨stop,qn⟩|⟨go,N,hN,step⟩
 ·refine pZ q (aR (T.done X rfl rfl rfl L i p s3 y A Q3 Q (C S) R stop) (λr s4⟨E,I4⟩=>?_));subst E;exact x5 ⟨y,A,I4,qn⟩
 ·refine pZ q (aR (T.item X rfl rfl rfl L i p s3 y A Q3 Q (C S) R go) (λr s4⟨u,E,h4⟩=>?_));subst E;refine pZ q (aR h4 (λ_ U⟨x,V,I5,r5,y5,F,fr5⟩=>?_));refine pZ q (aR (hg _ U y V x u _ (I5.pinned (C fr5) (T.obj _ _ F)) r5 (step x V y5)) (λ_ s6⟨σ6,H6,I6,q6⟩=>pZ q (aR (a _ s6 σ6 H6 _ I6 q6) (λf G q7=>?_))));have Y:∀ {c:St}{j:Hp},Inv X _ c j G->N c j-> ∃m,m<n/\ ∃i w l,Inv X p w l G/\O i _/\(∀b∈t,l b=none)/\W i m w l:=λ{c j}k z=>by
   obtain⟨m',hm,w7⟩:=hN c j z;refine⟨m',hm,i+1,c,j,k.yV,T.keep _ _ _ F (λb a o e=>(k.pin (b,o) (jI _ (jI _ (CQ a e)))).1),λb a=>?_,w7⟩;obtain⟨o,e,d⟩:=T.obj _ _ F b a;exact(k.pin (b,o) (jI _ (jI _ (CQ a e)))).2.1
  cases f with
  |next=>obtain⟨c,j,k,z⟩:=q7;exact Y k z
  |cont=>obtain⟨c,j,k,z⟩:=q7;exact Y k z
  |brk=>obtain⟨c,j,k,q7⟩:=q7;exact⟨c,j,k.yV,q7⟩
  |ret v=>obtain⟨x7,c,j,k,r7,q7⟩:=q7;exact⟨x7,c,j,k.yV,r7,q7⟩
def lR{K}{g:TG}{tb:TS}{D:Ends}(b:Nat->ZT)(h0:b 0 σ H)(hl:∀i σ H,i<=Qu->b i σ H->bF K H a xs)
  (hs:∀i x σ H,xs[i]?=Qz->b i σ H->g x σ H (λc d=>tb Qgt c d))(hd:∀σ H,b Qu σ H->D.nx σ H):
  Qem ((∃m,W 0 m σ H)/\ ∀i m σ H,W i m σ H->((oM K a).stop i H/\D.nx σ H)\/((oM K a).go i H/\ ∃N,(∀f H',N f H'-> ∃h,h<m/\W (i+1) h f H')/\ ∀x H',(oM K a).jl i H x H'->g x σ H' (λc d=>tb QdC c d))):=by
 refine Qgk (m=Qu-i/\i<=Qu/\b i σ H) ⟨Qu,Qj,cG _,h0⟩;rintro i m σ H⟨rfl,hi,p⟩;have q:=hl i σ H hi p;by_cases j:i<Qu
 ·refine Qy ⟨⟨xs,xs[i],q,QaQ⟩,b (i+1),λf H' k=>RF (Qu-(i+1)) Qa j k,λx H' y=>?_⟩;obtain⟨e,y⟩:=y;subst e;exact hs i x σ _ (y xs q) p
 ·have e:i=Qu:=by omega
  subst e;exact Qq ⟨Qh xs q (aQ _),hd σ H p⟩
abbrev R2:=V->V->Hp->SY
end
def dz(X:Cx)(f:aJ->aJ->Sem aJ)(r:R2):Prop:=
 ∀a s(b:St)H x y v u Q,Inv X a b H s->SD x v->W4->r x y H Q->aj (aV Qr X.w) X.A (f v u) (EP X a b Q) Q3 s
def CS(X:Cx)(f:aJ->Sem aJ)(r:V->Hp->SY):Prop:=
 ∀a s(b:St)H x v Q,Inv X a b H s->SD x v->r x H Q->aj (aV Qr X.w) X.A (f v) (EP X a b Q) Q3 s
def fV(X:Cx)(f:aJ)(r:Q8->Hp->SY):Prop:=
 ∀a s(b:St)H c d Q,Inv X a b H s->RX c d->r c H Q->aj (aV Qr X.w) X.A (call f d) (EP X a b Q) Q3 s
def yW(r:R2)(b tb:TE):TE:=Uq (b a H (λx c=>tb a c (λy d=>r x y d Q)))
def abM(r:V->Hp->SY)(a:TE):TE:=YN (a b H (λx c=>r x c Q))
def rI(C:Int->Q5 Int)(g:Int->Int->V):R2:=QaD (∃i j,x=S0/\y=QL j/\C i j/\Q (g i j) H)
def m8(g:Int->Int->V):R2:=QaD (∃i j,x=S0/\y=QL j/\Q (g i j) H)
def rU(g:Int->V):V->Hp->SY:=λx H Q=> ∃i,x=S0/\Q (g i) H
section
variable{X:Cx}{a b c:Expr}{ta tb tc:TE}{pos:Pos}
def CT(e:PE X a ta)(g:PE X b tb){σ:St}{R:V->TJ V}(I:QI)
  (h:ta σ H (λx d=>tb σ d (λy c=>R x y c))){f:aJ->aJ->Sem aJ}
  (i:∀v u s2 x y c,SM c s2->SD x v->W4->R x y c->aj (aV Qr X.w) X.A (f v u) Q Q3 s2):
  aj (aV Qr X.w) X.A (Ws a) (λv j=>aj (aV Qr X.w) X.A (Ws b) (λu k=>aj (aV Qr X.w) X.A (f v u) Q Q3 k) Q3 j) Q3 s:=aR (e pins s σ H _ I h) (λv s1⟨x,d,l,m,q1⟩=>aR (g pins s1 σ d _ l q1) (λu s2⟨y,c,n,o,p⟩=>i v u s2 x y c n m o p))
def ia(c:dz X (iH op) r)(d:PE X a ta)(e:PE X b tb):PE X (.BinOp a op b pos) (yW r ta tb):=by
 exact Qgj (wpAny_BinOp (CT d e I h (λv u s2 x y i j k l q=>c f s2 g i x y v u Q j k l q)))
def JB(d:CS X (unaryOp op) r)(e:PE X a ta):PE X (.UnaryOp op a pos) (abM r ta):=by
 exact Qcc (UnaryOp_ (aR (e b s c H _ I h) (Qhj (d b s1 c f x v Q g i q1))))
def CU{g:Int->Int->Int}
  (a:∀i j t u s Q E,C i j->Q (.int (g i j) Tg) QeJ->aj (aV Qr X.w) X.A (f (.int i t) (.int j u)) Q E s):
  dz X f (rI C (Qaw (g i j))):=by
 intro k s l H x y v u Q I b c h;obtain⟨i,j,rfl,rfl,d,q⟩:=h;obtain⟨t,rfl⟩:=b;obtain⟨e,rfl⟩:=c;exact a i j t e s _ _ d ⟨QL _,H,I.tok _,Yv,q⟩
def yX{g:Int->Int->Int}
  (a:∀i j t u s Q E,Q (.int (g i j) Tg) QeJ->aj (aV Qr X.w) X.A (f (.int i t) (.int j u)) Q E s):
  dz X f (m8 (Qaw (g i j))):=by
 intro e s k H x y v u Q I b c h;obtain⟨i,j,rfl,rfl,q⟩:=h;obtain⟨t,rfl⟩:=b;obtain⟨d,rfl⟩:=c;exact a i j t d s _ _ ⟨QL _,H,I.tok _,Yv,q⟩
def CV{g:Int->S4 Int}
  (a:∀i j t u s Q E,Q (.bool (g i j)) s->aj (aV Qr X.w) X.A (f (.int i t) (.int j u)) Q E s):
  dz X f (m8 (λi j=> .bl (g i j))):=by
 intro e s k H x y v u Q I b c h;obtain⟨i,j,rfl,rfl,q⟩:=h;obtain⟨t,rfl⟩:=b;obtain⟨d,rfl⟩:=c;exact a i j t d s _ _ (Rl (.bl _) H I q)
def JC(i j:Int):Prop:=0<j/\j<1073741824
def vg(i j:Int):Prop:=(-(2^64)<i/\i<2^64)\/(-(2^64)<j/\j<2^64)
def vg.ok(h:vg i j):IntMulOk i j:=by
 rcases h with⟨a,b⟩|⟨a,b⟩
 ·exact .of_left (intBits_le_64 a b)
 ·exact .of_right (intBits_le_64 a b)
def qo:dz X (iH .Add) (m8 (Qaw (i+j))):=Qcb yX (add_int q)
def JD:dz X (iH .Sub) (m8 (Qaw (i-j))):=Qcb yX (sub_int q)
def abN:dz X (iH .Mult) (rI vg (Qaw (i*j))):=CU (λ_ _ _ _ _ _ _ a q=>mul_int q a.ok)
def abO:dz X (iH .FloorDiv) (rI JC (Qaw (i/j))):=CU (λi j _ _ _ _ _ a q=>by
 have b:=a.1;have c:=a.2;exact floordiv_int Qa Qm (Qq (PyProof.noPylong_small Qa)))
def abP:dz X (iH .Mod) (rI (λ_ j=>0<j) (Qaw (i%j))):=CU (λi j _ _ _ _ _ a q=>by
 exact mod_int' Qa Qm)
def abQ:dz X (iH .BitAnd) (m8 (Qaw (qc i j))):=Qcb yX (and_int q)
def abR:dz X (iH .BitOr) (m8 (Qaw (uT i j))):=Qcb yX (or_int q)
def abS{g:Int->Int}
  (a:∀i t s Q E,Q (.int (g i) Tg) QeJ->aj (aV Qr X.w) X.A (f (.int i t)) Q E s):
  CS X f (rU (λi=>QL (g i))):=by
 intro c s d H x v Q I b h;obtain⟨i,rfl,q⟩:=h;obtain⟨t,rfl⟩:=b;exact a i t s _ _ ⟨QL (g i),H,I.tok _,Yv,q⟩
def JE:CS X (unaryOp .USub) (rU (λi=>QL (-i))):=abS (λ_ _ _ _ _ q=>neg_int q)
def JF:V->S4 V
 | .a9,.a9=>true| .a9,.int _=>true| .int _,.a9=>true| .a9,.bl _=>true| .bl _,.a9=>true| .a9,.str _=>true| .str _,.a9=>true
 | .int _,.int _=>true| .bl _,.bl _=>true| .str _,.str _=>true| .fm _,.fm _=>true
 | .int _,.str _=>true| .str _,.int _=>true| .bl _,.str _=>true| .str _,.bl _=>true
 |_,_=>false
def JG:R2:=QaD (Rm JF x y/\Q (.bl (Ro x y)) H)
def JH:R2:=QaD (Rm JF x y/\Q (.bl (!decide (x=y))) H)
def JI:QV (Um i=Um j)=(i==j):=by
 rw[gU];simp
def JJ:QV (V.bl i=V.bl j)=(i==j):=by
 rw[gU];simp
def JK:QV (V.str i=V.str j)=(i==j):=by
 rw[gU];simp
def JL:QV (V.fm i=V.fm j)=(TH i==TH j):=by
 rw[gU];cases i;cases j;simp
def dI{σ:St}{k a}(I:QI)(q:Q (.bl k) H)(e:k=a):EP X pins σ Q (.bool a) s:=by
 subst e;exact Rl (.bl k) H I q
def si:dz X (eY .Eq) JG:=by
 intro d s e H x y v u Q I c a h;obtain⟨hs,q⟩:=h;cases x with
 |a9=>
  cases c;cases y with
  |a9=>cases a;exact PySem.EqNone.eq_none_none (dI I q Qj)
  |bl j=>cases a;exact PySem.EqNone.eq_none_bool (dI I q Qj)
  |int j=>obtain⟨b,rfl⟩:=a;exact PySem.EqNone.eq_none_int (dI I q Qj)
  |str j=>obtain⟨b,rfl⟩:=a;exact PySem.EqNone.eq_none_str (dI I q Qj)
  |_=>exact Ys
 |bl i=>
  cases c;cases y with
  |a9=>cases a;exact PySem.EqNone.eq_bool_none (dI I q Qj)
  |bl j=>cases a;exact eq_bool (dI I q JJ)
  |str j=>obtain⟨b,rfl⟩:=a;exact PySem.EqMixed.eq_bool_str (dI I q Qj)
  |_=>exact Ys
 |int i=>
  obtain⟨t,rfl⟩:=c;cases y with
  |a9=>cases a;exact PySem.EqNone.eq_int_none (dI I q Qj)
  |int j=>obtain⟨b,rfl⟩:=a;exact eq_int (dI I q JI)
  |str j=>obtain⟨b,rfl⟩:=a;exact PySem.EqMixed.eq_int_str (dI I q Qj)
  |_=>exact Ys
 |str i=>
  obtain⟨t,rfl⟩:=c;cases y with
  |a9=>cases a;exact PySem.EqNone.eq_str_none (dI I q Qj)
  |bl j=>cases a;exact PySem.EqMixed.eq_str_bool (dI I q Qj)
  |int j=>obtain⟨b,rfl⟩:=a;exact PySem.EqMixed.eq_str_int (dI I q Qj)
  |str j=>obtain⟨b,rfl⟩:=a;exact eq_str (dI I q JK)
  |_=>exact Ys
 |fm i=>
  obtain⟨t,rfl⟩:=c;cases y with
  |fm j=>obtain⟨b,rfl⟩:=a;exact PySem.W.eq_bytes (dI I q JL)
  |_=>exact Ys
 |_=>cases y<;>exact Ys
def JM:dz X (eY .NotEq) JH:=by
 intro d s e H x y v u Q I c a h;obtain⟨hs,q⟩:=h;cases x with
 |a9=>
  cases c;cases y with
  |a9=>cases a;exact PySem.EqNone.ne_none_none (dI I q Qj)
  |bl j=>cases a;exact PySem.EqNone.ne_none_bool (dI I q Qj)
  |int j=>obtain⟨b,rfl⟩:=a;exact PySem.EqNone.ne_none_int (dI I q Qj)
  |str j=>obtain⟨b,rfl⟩:=a;exact PySem.EqNone.ne_none_str (dI I q Qj)
  |_=>exact Ys
 |bl i=>
  cases c;cases y with
  |a9=>cases a;exact PySem.EqNone.ne_bool_none (dI I q Qj)
  |bl j=>cases a;exact ne_bool (dI I q (Qat not JJ))
  |str j=>obtain⟨b,rfl⟩:=a;exact PySem.EqMixed.ne_bool_str (dI I q Qj)
  |_=>exact Ys
 |int i=>
  obtain⟨t,rfl⟩:=c;cases y with
  |a9=>cases a;exact PySem.EqNone.ne_int_none (dI I q Qj)
  |int j=>obtain⟨b,rfl⟩:=a;exact ne_int (dI I q (Qat not JI))
  |str j=>obtain⟨b,rfl⟩:=a;exact PySem.EqMixed.ne_int_str (dI I q Qj)
  |_=>exact Ys
 |str i=>
  obtain⟨t,rfl⟩:=c;cases y with
  |a9=>cases a;exact PySem.EqNone.ne_str_none (dI I q Qj)
  |bl j=>cases a;exact PySem.EqMixed.ne_str_bool (dI I q Qj)
  |int j=>obtain⟨b,rfl⟩:=a;exact PySem.EqMixed.ne_str_int (dI I q Qj)
  |str j=>obtain⟨b,rfl⟩:=a;exact ne_str (dI I q (Qat not JK))
  |_=>exact Ys
 |fm i=>
  obtain⟨t,rfl⟩:=c;cases y with
  |fm j=>obtain⟨b,rfl⟩:=a;exact PySem.W.ne_bytes (dI I q (Qat not JL))
  |_=>exact Ys
 |_=>cases y<;>exact Ys
def qp:dz X (eY .Lt) (m8 (λi j=> .bl (QV (i<j)))):=Qcb CV (lt_int q)
def sj:dz X (eY .LtE) (m8 (λi j=> .bl (QV (i<=j)))):=Qcb CV (le_int q)
def oN:dz X (eY .Gt) (m8 (λi j=> .bl (QV (j<i)))):=Qcb CV (gt_int q)
def eO(b:Expr)(h:op≠ .In:=by decide)(d:op≠ .NotIn:=by decide):hY op b=Qb:=by
 have a:(op==CmpOp.In)=Qb:=by grind
 have c:(op==CmpOp.NotIn)=Qb:=by grind
 cases b<;>simp[hY,a,c]
def JN(c:dz X (eY op) r)(d:PE X a ta)(e:PE X b tb)(f:hY op b=Qb):PE X Qdb (yW r ta tb):=by
 exact λg s i H Q I h=>wpAny_Compare1 (CT d e I h (λv u s2 x y j k l m q=>c g s2 i j x y v u Q k l m q)) f
def JO(t:TE):TT:=Uq (t a H (λx b=> ∃k,x= .bl k/\Q k b))
def g8(g:dz X (eY op) r)(i:PE X a ta)(j:PE X b tb)(l:hY op b=Qb):PT X Qdb (JO (yW r ta tb)):=by
 refine λd s f H Q I h=>wpAny_isTrue_Compare1 (aR (i d s f H _ I h) (λv s1⟨x,m,n,o,q1⟩=>aR (j d s1 f m _ n q1) (λu s2⟨y,p,q,t,w⟩=>aR (g d s2 f p x y v u _ q o t w) (λc s3⟨z,A,B,C,k,e,D⟩=>?_)))) l
 subst e;cases C;exact TZ oh A B D
def JP(r c:R2)(d tb e:TE):TE:=Uq (d a H (λx f=>tb a f (λy g=>r x y g (λz b=> ∃k,z= .bl k/\(if k=true then e a b λh i=>c y h i Q else Q (.bl false) b)))))
def JQ(p:dz X (eY op) r)(q:dz X (eY i) j)(t:PE X a ta)(w:PE X b tb)(A:PE X c tc)
  (B:lastMarks [op,i] [b,c]=Qb:=by with_unfolding_all rfl):PE X (Qhh [op,i] [b,c]) (JP r j ta tb tc):=by
 refine Qgj (Compare_chain (aR (t f s g H _ I h) (λv s1⟨x,C,D,E,q1⟩=>chain_link (aR (w f s1 g C _ D q1) (λu s2⟨y,F,G,l,J⟩=>aR (p f s2 g F x y v u _ G E l J) (λd s3⟨z,m,n,K,k,e,o⟩=>?_))))) B)
 subst e;cases K;refine oh ?_;cases k with
 |false=>exact ite_ff (Rl (.bl Qb) m n o)
 |true=>exact ite_tt (chain_last (aR (A f s3 g m _ n o) (λL M⟨N,O,P,R,S⟩=>q f M g O y N u L Q P l R S)))
def abT(p:dz X (eY op) r)(q:dz X (eY i) j)(t:PE X a ta)(w:PE X b tb)(A:PE X c tc)
  (B:lastMarks [op,i] [b,c]=Qb:=by with_unfolding_all rfl):PT X (Qhh [op,i] [b,c]) (JO (JP r j ta tb tc)):=by
 refine Qgj (isTrue_chain (aR (t f s g H _ I h) (λv s1⟨x,C,D,E,q1⟩=>test_link (aR (w f s1 g C _ D q1) (λu s2⟨y,F,G,l,J⟩=>aR (p f s2 g F x y v u _ G E l J) (λd s3⟨z,m,n,K,k,e,o⟩=>?_))))) B)
 subst e;cases K;refine oh ?_;cases k with
 |false=>
  obtain⟨k',L,M⟩:=o;cases L;exact TZ ite_ff m n M
 |true=>
  refine ite_tt (test_last (aR (A f s3 g m _ n o) (λN O⟨P,R,S,T,U⟩=>aR (q f O g R y P u N _ S l T U) (λd' s5⟨z2,V,W,Y,k2,Z,q5⟩=>?_))));subst Z;cases Y;exact TZ oh V W q5
def CW:bq<2^63:=by decide
def vals1(r:UJ [x]):∃u,us=[u]/\Y4 x:=by
 cases r with
 |cons a b=>cases b;exact SE a
structure qr(h:Heap)(x dx C:Addr)(mA:QQ):Prop where
 obj:Qai x=Rz rX C dx
 ns:h.Ns1 dx mA
 ne:dx≠x
end
def abU{h:Heap}(n:h.Ns1 b c):∃d,S1=Qc d/\ ∀name,yx name d=RE c name:=by
 obtain⟨o,f,p,g,hd,i,_,j⟩:=n;refine SF g (λname=>?_);have e:=j name;unfold nsFind findBy at e;rw[<-Array.find?_toList]at e;unfold yx;rw[hd];dsimp only;split
 ·grind
 ·rename_i q;rw[q]at e;have a:f.toList.any (·.refKey)=false:=by
   rw[List.any_eq_false];intro y k;obtain⟨z,t,l⟩:=i y (Array.mem_toList_iff.mp k);simp[DictEntry.refKey,l]
  rw[(ZG)];exact Qat some e
def qr.look(I:qr h x b C c):∃a,PySem.W.InstAt h x (rX C b) C Zb/\ ∀name,yx name a=RE c name:=
 let⟨a,ho,hl⟩:=abU I.ns
 Qh a (Rn I.obj rfl ho) hl
section
variable{prog:aO}{w:aA}{A:di}{E:SR}{s:bH}{K:au}{x dx C f:Addr}{mA:QQ}{name:Str}{v:aJ}
def get_map(X:K.In Ql)(I:qr Ql x dx C mA)(hg:T2 yw K C name)(b:Rm Cr K C)
  (c:mT K Wq name=WJ)(hv:mA name=Rg)(d:QJ PySem.W.handedIn v)(h:Q v QeJ):
  aj QA A (getAttr (Q1 x) name a) Q E s:=by
 obtain⟨e,J,hl⟩:=I.look;exact PySem.W.get_value X J (Cq hg).1 (PySem.W.findObj_own b c rfl (by rw[hl,hv])) d h
def abV(X:K.In Ql)(I:qr Ql x dx C mA)(hg:T2 yw K C name)
  (a:mT K Wq name=XC f)(ht:Zq Cu K)(hv:mA name=none)(h:Q (QbE,[Q1 x]) s):
  aj QA A (uQ (Q1 x) name pl) Q E s:=by
 obtain⟨b,J,hl⟩:=I.look;exact PySem.W.method_fn X J (Cq hg).1 (Cq hg).2 a (beq_iff_eq.mp ht) (by show(yx name b).map _=some false;rw[hl,hv];rfl) h
def abW(X:K.In Ql)(I:qr Ql x dx C mA)
  (hs:mT K Wq "__setattr__"=Qc (YA "object.__setattr__"))(e:Rm PySem.W.plainOver K C)(ht:Cs K C name=WJ)(f:Rm Cr K C)
  (g:Cc mA ns)(hsz:S9<=bq)
  (h:∀h',qr h' x dx C (λy=>if y=name then some v else mA y)->dN dx Ql h'->Q () {s with heap:=h',toks:=s.toks+2}):
  aj QA A (setAttr (Q1 x) name v) Q E s:=by
 obtain⟨n,J,hl⟩:=I.look;refine PySem.W.set_plain X J hs (PySem.W.osa_open X J e ht Qad);obtain⟨o,i,j⟩:=PySem.W.any_some f;refine ab (ah (ab (ab (wpAny_loadPart I.obj (ab (PySem.W.Looks.here (PySem.W.looks_clsIn X i) ?_))))));rw[j];refine ah (ab (ah (ab (wpAny_nsSet1 I.ns (λh' c d=>?_)))));obtain⟨p,q,t,k,l,m⟩:=c.count (PySem.Within.cons name v g);exact ab (wpAny_lookBehind k (by rw[l];exact pastItsLine_dict (bp m (by grind))) (ah (h _ ⟨Rx d.2 _ (fP I.ne) I.obj,c,I.ne⟩ d)))
def abX(X:K.In Ql)(b:Rm Ct K C)
  (hi:mT K Wq Qd6=XC f)(c:PySem.W.typeIn K QbE=Qbq "function")
  (h:lG QA (A.under (.builtin QdN ⟨Wq::vs,a⟩)) (U7 .call f ⟨Q1 (Qt+1)::vs,a⟩) (PySem.W.InitBack (Qt+1) R) {s with heap:=(s.heap.push u5).push (rX C s.heap.objs.size)}):
  lG QA A (U7 .call C (Qe vs a)) R s:=by
 obtain⟨e,g,d,t,os⟩:=s;exact PySem.W.make_core (PySem.W.makes_of X b) (PySem.W.looks_findIn X hi) (λself=>PySem.W.bind_fn X self c) Qw h
end
def h9(f:Str)(v:V):Qb3->Qb3
 |[]=>[(f,v)]
 |(g,x)::r=>if g=f then(g,v)::r else(g,x)::h9 f v r
def yY(f g:Str)(v:V):∀fs,ZU (h9 f v fs) g=if g=f then some v else fs.lookup g
 |[]=>by
  show List.lookup g [(f,v)]=_;by_cases h:g=f
  ·grind
  ·grind
 |(k,x)::r=>by
  have a:=yY f g v r;rw[show h9 f v _=Qgs from rfl];by_cases b:k=f
  ·grind
  ·grind
def CY(f:Str)(v:V):∀fs,f∈(h9 f v fs).map (·.1)/\∀g,g∈fs.map (·.1)->g∈(h9 f v fs).map (·.1)
 |[]=>⟨by simp[h9],λg h=>by simp at h⟩
 |(k,x)::r=>by
  obtain⟨a,b⟩:=CY f v r;rw[show h9 f v _=Qgs from rfl];by_cases c:k=f
  ·grind
  ·grind
def JR(f:Str)(v:V):∀fs,QP (h9 f v fs) (T7+1)
 |[]=>by simp[h9]
 |(k,x)::r=>by
  have a:=JR f v r;rw[show h9 f v _=Qgs from rfl];by_cases b:k=f
  ·grind
  ·grind
def g7.some_of(r:g7 Rg o):∃u,o=Rj/\U0:=by
 cases o with
 |none=>exact r.elim
 |some u=>exact Ss u r
def g7.none_of(r:g7 none o):o=none:=by
 cases o with
 |none=>rfl
 |some u=>exact r.elim
def abY(r:U0):QJ PySem.W.handedIn u:=by
 cases v with
 |a9=>cases(r);rfl
 |bl b=>cases(r);rfl
 |int i=>obtain⟨t,e⟩:=(r);cases e;rfl
 |str x=>obtain⟨t,e⟩:=(r);cases e;rfl
 |fm b=>obtain⟨t,e⟩:=(r);cases e;rfl
 |sb b=>obtain⟨t,e⟩:=(r);cases e;rfl
 |ref a=>cases(r);rfl
 |ty n=>cases(r);rfl
section
variable{P:aO}{w:aA}{H H':Hp}{h h':Heap}{a C dx:Addr}{fs fs':Qb3}
def CZ(a5:cj P w H h)(e:H a=Zs C dx fs):∃b,qr h a dx C b/\(∀f,g7 (fs.lookup f) (b f))/\Cc b (fs.map (·.1))/\fs.length<=1000/\H dx=some (.own a):=by
 obtain⟨d,z,ne,ob,b,n,r,q⟩:=(a5 a _ e);exact⟨b,Qh ob n ne,r,q,z,d⟩
end
structure ib(K:au)(C:Addr):Prop where
 pg:T2 yw K C Str.empty
 hd:Rm Cr K C
 po:Rm PySem.W.plainOver K C
 sa:mT K Wq "__setattr__"=Qc (YA "object.__setattr__")
def ib.get{K}(c:ib K C)(f:Str):T2 yw K C f:=c.pg
def j0(K:au)(C:Addr)(f:Str):Prop:=mT K Wq f=WJ
def j0.abZ{K}(n:j0 K C f):Cs K C f=WJ:=by
 unfold Cs;rw[n];rfl
structure Meth(K:au)(C:Addr)(m:Str)(f:Addr):Prop where
 at_:mT K Wq m=XC f
 fn:Zq Cu K
 kp:Zq mV K
section
variable{X:Cx}{pins:Tr}{σ:St}{H:Hp}{s:bH}{a C dx:Addr}{fs:Qb3}{f:Str}{v:V}{A:di}{E:SR}
def ab0(I:QI)(e:H a=Zs C dx fs)(c:ib X.K C)(n:j0 X.K C f)(l:fs.lookup f=Rg)
  (h:∀u d,YV d->U0->Q u d):aj (aV Qr X.w) A (getAttr QS f b) Q E s:=by
 obtain⟨i,O,r,_,_,_⟩:=CZ Rb e;obtain⟨u,j,g⟩:=g7.some_of (by rw[<-l];exact r f);exact get_map I.jk O (c.get f) c.hd n j (abY g) (h u _ (I.tok _) g)
def ab1(I:QI)(e:H a=Zs C dx fs)(c:ib X.K C)(k:Meth X.K C m g)(l:fs.lookup m=none)
  (h:Q (Q1 g,UG) s):aj (aV Qr X.w) A (uQ QS m pl) Q E s:=by
 obtain⟨b,O,r,_,_,_⟩:=CZ Rb e;exact abV I.jk O (c.get m) k.at_ k.fn (g7.none_of (by rw[<-l];exact r m)) h
def ab2(I:QI)(e:H a=Zs C dx fs)(c:ib X.K C)(n:j0 X.K C f)(hl:T7<1000)(m:W4)
  (h:∀i,SM (upd H a (.ins C dx (h9 f y fs))) i->Q () i):aj (aV Qr X.w) A (setAttr QS f u) Q E s:=by
 obtain⟨j,O,r,k,_,l⟩:=CZ Rb e
 refine abW I.jk O c.sa c.po n.abZ c.hd k YS (λt d v=>h _ ?_);refine I.write Qcy (Qy l) (λb q w z=>Rx v.2 b w z) (let⟨o,_,_,e',_⟩:=d.ns;⟨o,e'⟩) ⟨by rw[ax O.ne];exact l,by have:=JR f y fs;omega,O.ne,d.obj,_,d.ns,λg=>?_,YL ?_⟩
 ·rw[yY];by_cases q:g=f
  ·rw[Qp q,Qp q];exact m
  ·grind
 ·by_cases q:g=f
  ·rw[q];exact(CY f y fs).1
  ·refine(CY f y fs).2 g (k g (λz=>hg ?_));show(if g=f then some u else j g)=none;rw[Qs q];exact z
def Inv.made(I:QI):SM (upd (upd H Qt (.own (Qt+1))) (Qt+1) (.ins C Qt [])) {s with heap:=(s.heap.push u5).push (rX C s.heap.objs.size)}:=by
 have c:R0 (S5 _) _=Qc u5:=cH _ rfl;have d:=by
  have:=cH (S5 u5) (o:=rX C Qt) rfl;rwa [g0]at this
 have f:(S5 _).Ns _ _:=⟨u5,#[],_,c,rfl,(λe g=>Zj g),Vn⟩;refine(I.laid (o:= .own _) (t':=Tg) (λb u q=>bM _ q) (aQ _) (Rh c)).laid (λb u q=>bM _ q) (rG (g0 _ _)) ?_;have ne:Qt≠Qt+1:=b9 (uD _);refine⟨by rw[ax ne,aC],cG _,ne,d,Tb,(Heap.Ns1.of_empty f).at (λo q=>bM _ q),RC qe,λy i=>Wz i⟩
def ab3{a}(b:kE e f env (QaE e)=QaE e)
  (h:aj QA A (QaE e) (λo c=>aj QA A (getAttr o f true) Q E c) E s):aj QA A (QaE (Yy e f a)) Q E s:=
 Attribute_any_ h (by rw[arm_eval_Attribute,b])
end
def ab4(K:au)(c:TE)(f:Str):TE:=λd H Q=>c d H (λx b=> ∃a C e fs v,x=QS/\b a=Zs C e fs/\ib K C/\j0 K C f/\fs.lookup f=Rg/\Q v b)
def ab5(K:au)(e g:TE)(f:Str):TS:=λD b H=>g b H (λy h=>e b h (λx c=> ∃a C d fs,x=QS/\c a=Zs C d fs/\ib K C/\j0 K C f/\T7<1000/\D.nx b (upd c a (.ins C d (h9 f y fs)))))
section
variable{X:Cx}{o e value:Expr}{f:Str}{pos pos' tpos:Pos}{ta tv:TE}
def JS(b:PE X e ta)(d:kE e f Qg Qah=Qah):PE X (Yy e f pos) (ab4 X.K ta f):=by
 refine λg s i H Q I h=>ab3 d (aR (b g s i H _ I h) (λu s1⟨x,j,k,m,a,C,t,fs,v,ex,o,c,n,l,q⟩=>?_));subst ex;obtain rfl:u=bD a:=m;exact ab0 k o c n l (λw s2 p r=>⟨v,j,p,r,q⟩)
def ab6(e:PE X o ta)(hv:PE X value tv)(hs:eZ value (Qc (Yy o f pos')) VL Qg=UH):PS X (Z4 [Yy o f pos'] value) (ab5 X.K ta tv f):=by
 refine λd s b H D I h=>plainObj_wpAny_Assign_Attribute (aR (hv d s b H _ I h) (λu s1⟨y,g,i,j,q⟩=>aR (e d s1 b g _ i q) (λk s2⟨x,w,m,p,a,C,z,fs,ex,r,c,n,l,t⟩=>?_))) hs;subst ex;obtain rfl:k=bD a:=p;exact ab2 m r c n l j (λs3 v=>⟨b,_,v,t⟩)
structure dt(k:Nat)(A:di):Prop where
 hd:VH=none
 dp:A.depth+3*k+5<x'
 un:RS+16*k+200<bf
def dt.mono(r:dt k A)(h:j<=k):dt j A:=⟨r.hd,by have:=r.dp;omega,by have:=r.un;omega⟩
def dt.deeper(r:dt (k+1) A)(env:Env):dt k (A.deeper env):=
 ⟨r.hd,by have:=r.dp;show A.depth+1+3*k+5<_;omega,by have:=r.un;show A.units+3+16*k+200<_;omega⟩
def ab7{A:di}:(A.under (.builtin QdN ⟨Wq::us,a⟩)).depth=A.depth+1:=by
 rfl
def ab8{A:di}:(A.under (.builtin QdN ⟨Wq::us,a⟩)).units=RS+1:=by
 rfl
def dt.make(r:dt (k+1) A)(C:Addr)(us:Wr)(a:R_):dt k (A.under (.builtin QdN ⟨Wq::us,a⟩)):=
 ⟨r.hd,by have:=r.dp;rw[ab7];omega,by have:=r.un;rw[ab8];omega⟩
def dt.depth(r:dt k A):A.depth<x':=by have:=r.dp;omega
def dt.units(r:dt k A):RS+64<bf:=by have:=r.un;omega
def C4:TA:=λ_ H Q=>Q [] H
end
def JT(b:TE)(tr:TA):TA:=Uq (b a H (λx c=>tr a c (λd e=>Q (x::d) e)))
section
variable{X:Cx}{e:Expr}{es:Tc}{te:TE}{t:TA}{pos:Pos}
def bh:PA X [] C4:=λ_ _ _ _ H Q I h=>uV ⟨[],H,I,.nil,h⟩
def bb(c:PE X e te)(d:PA X es t)(hs:a_ (e::es) Qg=UY::a_ es Qg:=by rfl):PA X (e::es) (JT te t):=by
 intro pos a s b H Q I h;rw[hs];exact rR (aR (c a s b H _ I h) (λu s1⟨x,f,g,i,q1⟩=>aR (d pos a s1 b f _ g q1) (λo s2⟨j,k,l,m,n⟩=>⟨x::j,k,l,Rc i m,n⟩)))
def ab9(t:TA):TE:=λc H Q=>t c H (λa b=>QP a bq/\ ∀p,b p=none->R3 p (upd b p (.tup a)))
def aca(t:TA):TE:=λc H Q=>t c H (λa b=>QP a bq/\ ∀p,b p=none->R3 p (SG b p a))
def vh(h:PA X es t):PE X (Xe es d pos) (ab9 t):=by
 refine λf s g H Q I i=>wpAny_Tuple_spliced (aR (h pos f s g H _ I i) (λj s1⟨k,a,c,r,z,q⟩=>Q_ (by rw[<-r.length];exact z)));refine⟨WQ,upd a _ (.tup k),c.laid (Ye (bM _ e)) (aQ _) ⟨z,j,r,_,cH _ rfl,rfl,_,rfl⟩,rfl,q _ (X9 c (aQ _))⟩
def ic(h:PA X es t):PE X (.List es pos) (aca t):=by
 refine λd s f H Q I g=>wpAny_List_spliced (aR (h pos d s f H _ I g) (λi s1⟨j,a,c,r,z,q⟩=>Q_ (by rw[<-r.length];exact z)));refine⟨WQ,SG a _ j,c.laid (Ye (bM _ e)) (aQ _) ⟨z,i,0,r,cH _ rfl⟩,rfl,q _ (X9 c (aQ _))⟩
abbrev Sp:=Q8->Hp->VK->Q5 XK
abbrev qs:=Qa1->Hp->bH->XK->SR
structure so(P:aO)(w:aA)(K:au)(mg:QQ)(base:Heap)(A:di)(outer:Qa1)(s:bH)(H:Hp):Prop where
 frames:A.frames=Qc Sx
 mod:Mod K mg base
 bs:RN (base.get? b=Qi->Th=Qi/\H b=none)
 lN:base.objs.size<=Qt
 jX:s.heap.FunFrames base Sx
 qi:∀b∈kX outer,H b=none
 a5:cj P w H Ql
 bare:pX s.gens
def CE(outer:Qa1)(P:aO)(w:aA)(H:Hp)(s:bH)(Q:VK)(u:aJ)(a:bH):Prop:=
 ∃v b,a.os=s.os/\pX a.gens/\Un (kX Sx) [] H b Ql Tf/\cj P w b Tf/\U0/\Q v b
end
def CR(b:qs)(outer:Qa1)(P:aO)(w:aA)(H:Hp)(s:bH)(Q:VK)(E:XK)(r:Result)(a:bH):Prop:=
 match r with
 | .ok (.ret u)=>CE Sx P w H s Q u a
 | .ok _=>False
 | .error e=>b Sx H s E e a
structure ay(P:aO)(w:aA)(K:au)(mg:QQ)(base:Heap)(CX:qs)(k:Nat)(f:Addr)(fd:b_)(ps:Uh)(sp:Sp):Prop where
 len:∀vs H Q E,sp vs H Q E->V1=Vk
 run:∀(A:di)(outer:List Env)(s:bH)(H:Hp)(args:Args)(us:List aJ)(vs:List V)(Q:VK)(E:XK),dt k A->so P w K mg base A Sx s H->BindsTo s fd args (ps.zip us)->UJ vs->sp vs H Q E->lG (aV P w) A (U7 .call f args) (CR CX Sx P w H s Q E) s
def ay.imp{K}(F:ay P w K mg base a k f b ps c)
  (h:∀vs H Q E,d vs H Q E->c vs H Q E):ay P w K mg base a k f b ps d:=
 ⟨λvs H Q E q=>F.len vs H Q E (h _ _ _ _ q),λA outer s H e g vs Q E i j l hv hs=>F.run A Sx s H e g vs Q E i j l hv (h _ _ _ _ hs)⟩
def so.make{K}(e:so P w K mg base A Sx s H)(C:Addr)(us:Wr)(a:R_):
  so P w K mg base (A.under (.builtin QdN ⟨Wq::us,a⟩)) Sx s H:=⟨by exact e.frames,e.mod,e.bs,e.lN,e.jX,e.qi,e.a5,e.bare⟩
section
variable{X:Cx}{pins:Tr}{σ:St}{H:Hp}{s s':bH}
def Inv.JU(I:QI):so Qr X.w X.K X.mg Vp X.A Yn s H:=
 ⟨I.ok.frames,I.ok.mod,I.bs,bp I.ok.lN I.sz,I.stack,I.CJ,Rb,WR⟩
def Inv.after(I:QI)(h:CE Yn Qr X.w H s Q u s'):EP X pins σ Q u s':=by
 obtain⟨v,a,os,bare,un,a5,r,q⟩:=h;obtain⟨c,g,d,t,e⟩:=s';obtain rfl:e=s.os:=os;exact⟨v,a,I.call un a5 bare (λb z=>Zj z),r,q⟩
end
def JV(a:Sp)(b:Q8)(E:XK)(t:TA):TE:=λc H Q=>t c H (λd e=>a (d++b) e Q E)
def acb(C:Addr)(m:Str)(d:Sp)(e:Q8)(E:XK)(f:TE)(t:TA):TE:=YN (f b H (λx c=> ∃a g fs,x=QS/\c a=Zs C g fs/\fs.lookup m=none/\t b c (λh i=>d (x::(h++e)) i Q E)))
def acd(C:Addr)(c:Sp)(d:Q8)(E:XK)(t:TA):TE:=λe H Q=>t e H (λf b=> ∀x a,b x=none->b a=none->a≠x->c (Q1 x::(f++d)) (upd (upd b a (.own x)) x (.ins C a [])) (λv g=>v= .a9/\R3 x g) E)
def Binds(K:au)(c:b_)(ps:Uh)(b:Wr):Prop:=
 ∀s a,K.In Ql->Qn (a++b)=Vk->BindsTo s c (Wd a) (ps.zip (a++b))
def Binds.all{K}(h:∀us,QaR=Vk->bindArgs a (Wd us)=Sy (ps.zip us)):Binds K a ps []:=λs us _ hl=>by
 rw[dR]at hl⊢;exact .of_eq (h us hl)
def Passes(b:qs)(X:Cx)(E:XK):Prop:= ∀c(d:St)H s e a,Inv X c d H s->b Yn H s E e a->X.xe e a
section
variable{X:Cx}{CX:qs}{k:Nat}{f C:Addr}{fd:b_}{ps:Uh}{sp:Sp}{dvs:Q8}{ds:Wr}{E:XK}{x m:Str}{p pos apos:Pos}{e o:Expr}{es:Tc}{ta:TE}{t:TA}
def JW{σ:St}(F:ay Qr X.w X.K X.mg Vp CX k f fd ps sp)(c:dt k X.A)(d:Binds X.K fd ps ds)(hd:RX dvs ds)(hx:Passes CX X E)
  (I:QI)(r:UJ vs)(h:sp (vs++dvs) H Q E):aj (aV Qr X.w) X.A (U7 call f us) (EP X pins σ Q) Q3 s:=by
 have b:=r.append hd
 refine rN (jO (F.run X.A _ s H _ _ _ Q E c I.JU (d s us I.jk (by rw[<-b.length];exact F.len _ _ _ _ h)) b h) (λr g a=>?_));cases r with
 |error e=>exact hx pins σ H s e g I a
 |ok i=>
  cases i with
  |ret u=>exact I.after a
  |next=>exact cP a
  |brk=>exact cP a
  |cont=>exact cP a
def ace(F:ay Qr X.w X.K X.mg Vp CX k f fd ps sp)(b:dt k X.A)(hg:Gl X x)(c:X.mg x=UK f)(d:Zq mV X.K)(g:Binds X.K fd ps ds)(hd:RX dvs ds)(hx:Passes CX X E)
  (i:PA X (e::es) t)(j:SK=Qb:=by decide)(l:a_ (e::es) Qg=UY::a_ es Qg:=by rfl)(m:Zu:=by rfl):
  PE X (UM Te (e::es) pos) (JV sp dvs E t):=by
 exact λn s o H Q I h=>pY (CM I hg c (PySem.W.callWith_K I.ok.mod.yJ d (aR (i pos n s o H _ I h) (λu s1⟨v,w,a,r,q⟩=>Qe a.jk (JW F b g hd hx a r q))) l m) j)
def JX{pl}(n:PE X o ta)(c:ib X.K C)(b:Meth X.K C m f)(F:ay Qr X.w X.K X.mg Vp CX k f fd ps sp)(p:dt k X.A)(v:Binds X.K fd ps ds)(hd:RX dvs ds)(hx:Passes CX X E)(w:PA X (e::es) t)
  (aq:a_ (e::es) Qg=UY::a_ es Qg:=by rfl)(y:Zu:=by rfl)
  (ht:Ws (Qcj o m (e::es) pos)=(do
   let ov<-XX
   standAt apos.atName
   let(f,first)<-qb [ov] (uQ ov m pl)
   callWith pos f first (eC pos (a_ (e::es) Qg)) (fx pos (fw [] Qg))):=by rfl):
  PE X (Qcj o m (e::es) pos) (acb C m sp dvs E ta t):=by
 refine λd s g H Q I h=>PySem.W.methodCall_KW (aR (n d s g H _ I h) (λu s1⟨x,z,i,A,a,K,fs,ex,B,l,q⟩=>?_)) ht;subst ex;obtain rfl:u=bD a:=A;exact ab1 i B c b l (PySem.W.callWith_K I.ok.mod.yJ b.kp (aR (w pos d s1 g z _ i q) (λD s2⟨G,L,j,r,J⟩=>Qe j.jk (JW (vs:=QS::G) F p v hd hx j (Qhw rfl) J))) aq y)
structure Mk(K:au)(C f:Addr):Prop where
 makes:Rm Ct K C
 init:mT K Wq Qd6=XC f
 fn:Zq Cu K
 kp:Rm mV K Wq
def acf{σ:St}(M:Mk X.K C f)(F:ay Qr X.w X.K X.mg Vp CX k f fd ps sp)(i:dt (k+1) X.A)(j:Binds X.K fd ps ds)(hd:RX dvs ds)
  (hx:Passes CX X E)(I:QI)(r:UJ vs)
  (h:∀x b,H x=none->H b=none->b≠x->sp (Q1 x::(vs++dvs)) (upd (upd H b (.own x)) x (.ins C b [])) (λv l=>v= .a9/\R3 x l) E):
  aj (aV Qr X.w) X.A (U7 call C us) (EP X pins σ Q) Q3 s:=by
 have d:=h _ _ (Ut (Nat.le_succ _)) (Ut (aQ _)) (b9 (uD _));have c:=Inv.made (C:=C) I;have g:RX (Sa (Qt+1)::(vs++dvs)) _:= UP rfl r.append hd;have hl:=by
  have e:=g.length;rw[F.len _ _ _ _ d]at e;exact e.symm
 refine rN (abX I.jk M.makes M.init (beq_iff_eq.mp M.fn) (jO (F.run _ _ _ _ _ _ _ _ E (i.make C us []) (c.JU.make C us []) (j _ _ c.jk hl) g d) (λr m a=>?_)))
 cases r with
 |error e=>exact hx pins σ _ _ e m c a
 |ok n=>
  cases n with
  |ret u=>
   obtain⟨v,o,p,q,ev,t⟩:=c.after a;subst ev;exact⟨q,Sa _,o,p,rfl,t⟩
  |next=>exact cP a
  |brk=>exact cP a
  |cont=>exact cP a
def acg(M:Mk X.K C f)(F:ay Qr X.w X.K X.mg Vp CX k f fd ps sp)(a:dt (k+1) X.A)(hg:Gl X x)(b:X.mg x=UK C)(c:Binds X.K fd ps ds)(hd:RX dvs ds)(hx:Passes CX X E)
  (d:SK=Qb:=by decide):PE X (UM Te [] pos) (acd C sp dvs E C4):=by
 exact λe s g H Q I h=>pY (CM I hg b (PySem.W.callWith_K0 I.jk M.kp (acf M F a c hd hx I .nil h)) d)
end
def PK(X:Cx)(c:Qa3)(t:TA):Prop:=
 ∀d b s(a:St)H Q,Inv X b a H s->t a H Q->aj (aV X.prog X.w) X.A (evalAll ((fx d (fw c X.env)).map (·.2))) (AP X b a Q) X.xe s
section
variable{X:Cx}{CX:qs}{k:Nat}{f C:Addr}{fd:b_}{ps ks:Uh}{sp:Sp}{E:XK}{x m:Str}{p pos apos kpos:Pos}{e o:Expr}{es:Tc}{kws:Qa3}{te ta:TE}{t tk:TA}{nm:Ri Str}
def JY:PK X [] C4:=λ_ _ _ _ H Q I h=>wpAny_evalAll_nil ⟨[],H,I,.nil,h⟩
def JZ(c:PE X e te)(d:PK X kws t):PK X (Qh nm e kpos::kws) (JT te t):=by
 intro pos a s b H Q I h;exact wpAny_evalAll_cons (ab (aR (c a s b H _ I h) (λu s1⟨x,f,g,i,q1⟩=>ab (yb (ah (aR (d pos a s1 b f _ g q1) (λo s2⟨j,k,l,m,n⟩=>⟨x::j,k,l,Rc i m,n⟩)))))))
end
structure aY(N P:Uh)(sc:eT):Prop where
 kind:sc.kind= .function
 co:sc.isCoroutine=Qb
 gen:sc.isGenerator=Qb
 nd:N.Nodup
 pre:Rf N (Qn P)=P
 par:∀x∈P,Xy x=Vj\/Xy x=XQ
 ach:∀y∈sc.names,y.2≠XT
def J1:∀ {binds:List _}{m:Str->Option aJ},(∀v,(x,v)∉binds)->bindL a binds m x=m x
 |[],_,_=>rfl
 |(n,v)::r,m,h=>by
  unfold bindL;rw[J1 (λw b=>h w (bP _ b))];split
  ·grind
  ·rfl
def J2:∀ {binds:List _}{m:Str->Option aJ},(∀v,(x,v)∉binds)->bindC a binds m x=m x
 |[],_,_=>rfl
 |(n,v)::r,m,h=>by
  unfold bindC;rw[J2 (λw b=>h w (bP _ b))];split
  ·rfl
  ·grind
def J3:∀ {P:List Str}{vs:List aJ}{i:Nat}{m:Str->Option aJ},S7 P->P[i]?=Qz->vs[i]?=Rg->a x=Vj->bindL a (P.zip vs) m x=Rg
 |[],_,_,_,_,h,_,_=>by simp at h
 |_::_,[],_,_,_,_,h,_=>by simp at h
 |p::P,w::vs,0,m,nd,b,c,d=>by
  simp at b c;subst b c;show bindL a ((p,w)::P.zip vs) m p=_;unfold bindL;rw[J1 (λv hv=>(gm.mp nd).1 (BR hv).1),Qp d];simp
 |p::P,w::vs,i+1,m,nd,b,c,d=>by
  unfold bindL;exact J3 (gm.mp nd).2 QbD Vg d
def J4:∀ {P:List Str}{vs:List aJ}{i:Nat}{m:Str->Option aJ},S7 P->P[i]?=Qz->vs[i]?=Rg->a x≠Vj->bindC a (P.zip vs) m x=Rg
 |[],_,_,_,_,h,_,_=>by simp at h
 |_::_,[],_,_,_,_,h,_=>by simp at h
 |p::P,w::vs,0,m,nd,b,c,d=>by
  simp at b c;subst b c;show bindC a ((p,w)::P.zip vs) m p=_;unfold bindC;rw[J2 (λv hv=>(gm.mp nd).1 (BR hv).1),Qs d];simp
 |p::P,w::vs,i+1,m,nd,b,c,d=>by
  unfold bindC;exact J4 (gm.mp nd).2 QbD Vg d
def start(N:Uh)(vs:Q8):St:=vs.map some++List.replicate (Qn N-V1) none
def lS(g:qs)(P:aO)(w:aA)(K:au)(mg:QQ)(base:Heap)(N:Uh)(a:Str)(b:eT)(f:Addr)(c:aJ)(A:di)(outer:Qa1)(s:bH)(H:Hp)(E:XK):Cx where
 prog:=P
 w:=w
 K:=K
 mg:=mg
 base:=base
 A:=A.deeper (gW a b Qt f c)
 N:=N
 jj:=s
 oF:=H
 env:=gW a b Qt f c
 outer:=outer
 stack:=gW a b Qt f c::Sx
 ex:=[]
 calm:=true
 fn:=RC true
 pn:=[]
 xe:=λe h=>aj (aV P w) (A.deeper (gW a b Qt f c)) (leaving (gW a b Qt f c) e) (λ_ d=>g Sx H s E e d) (λi d=>g Sx H s E i d) h
def J5{sc:eT}(h:Xy x=XQ):∃c,ZU (e7 n sc.names []) x=R9:=by
 exact IA.mp (Jb _ n [] (Qq h))
def aci{K}
  (S:aY N ps g)(hd:VH=none)(d:so P w K mg base A Sx s H)(hl:V1=Vk)(r:UJ vs)
  (x:InCallC s Qt (bindL (gW o g Qt f t).kindOf (ps.zip us) Tb) (e7 (Qt+1) g.names []) (bindC (gW o g Qt f t).kindOf (ps.zip us) Tb) s1):
  Inv (lS D P w K mg base N o g f t A Sx s H E) [] (start N vs) H s1:=by
 have M:=by have:=YG S.pre;rw[n']at this;omega
 obtain⟨B,O,rfl,F⟩:=x.done;have C:∀b,b∉(lS D P w K mg base N o g f t A Sx s H E).ex:=λb z=>Zj (show b∈[]from z);refine⟨⟨d.mod,S.kind,rfl,rfl,aQ _,λy z c B j=>name_of_addr x.apart (hW B) (hW j),λy l=>?_,λy c _ h=>oe (x.above y c (hW h)),RC hd,IE d.frames,Qy Vh,λb z=>Qck z C b,d.bs,d.lN,λb _ _=>C b,λb z=>Qck z C b,d.jX,d.qi⟩,rfl,d.bare,Un.kept F,Tn x.toInCall.ns (λi y v B j Q=>?_),λy c h=>Rh (x.cell y c h),X9 d (aQ _),λy c h=>X9 d (oe (x.above y c (hW h))),λp m=>Zj (show p∈[]from m),d.a5.kept F,by unfold start;show _=N.length;rw[b0,ak,List.length_replicate];omega⟩
 ·rcases l with l|l
  ·exact J5 l
  ·exact Wz (S.ach _ (hW l))
 ·have hi:i<V1:=by
   unfold start at j;by_cases hi:i<V1
   ·exact hi
   ·grind
  have J:vs[i]?=Rg:=by
   unfold start at j;rw[Io (by simpa using hi),cY]at j;cases e:vs[i]? with
   |none=>rw[e]at j;cases j
   |some a=>rw[e]at j;cases j;rfl
  obtain⟨u,G,L⟩:=r.get J;have m:ps[i]?=V7:=by
   rw[<-S.pre,List.getElem?_take_of_lt Qa];exact B
  have I:ps.Nodup:=by rw[<-S.pre];exact S.nd.sublist (rr _ _)
  refine Rv u L;rcases S.par y (bL m)with k|k
  ·exact Qq ⟨k,J3 I m G k⟩
  ·obtain⟨c,e⟩:=J5 k;refine Qy ⟨Qq k,c,e,?_⟩;have q:=x.cell y c e;rw[J4 I m G (by show g.names.lookup y≠_;rw[k];decide)]at q;exact q
def J6{K}{z kV B pm d ct L}
  (lk:Vz f=Qc ⟨L,M,.func (mU name c UX body a z kV B pm C d ct),O⟩)(R:T2 u6 K d c)(S:aY N ps a)
  (len:∀vs H Q E,j vs H Q E->V1=Vk)
  (T:∀A outer s H vs Q E,dt k (A.deeper (gW c a Qt f d))->j vs H Q E-> ∃t,gv (lS h P w K mg base N c a f d A Sx s H E) body t/\t QgA (start N vs) H):
  ay P w K mg base h (k+1) f (mU name c UX body a z kV B pm C d ct) ps j:=by
 refine Qe len (λA outer s H args U vs Q E l g W r D=>?_);have F:=g.mod.yJ.keeps (Q4 (g.bs b o e).1);have Y:∀y∈ps.zip U,Qav a y.1=Qc _\/(Qav a y.1=XQ/\YD (ZU (e7 (Qt+1) _ []) y.1)):=λ⟨n,v⟩Z=>by
  rcases S.par n (BR Z).1 with q|q
  ·exact Qq q
  ·exact WA q (Jb _ _ _ (Qq q))
 refine codeAny_call_function l.depth (F _ _ lk) rfl S.co S.gen rfl (PySem.W.codeRec_of F R) (W _ _ _ _ (wpAny_newFunctionEnv_cells S.kind Y (λenv he s1 x=>?_)));subst he;refine⟨(g.mod.nolimit.keeps (Q4 (g.bs b o e).1)).keeps x.toInCall.keep,codeAny_func ?_⟩;obtain⟨t,ht,hq⟩:=T A Sx s H vs Q E (l.deeper _) D;refine ej (ht [] s1 _ H _ (aci S l.hd g (len _ _ _ _ D) r x) hq) (λfl m hs=>?_) (λe m hs=>hs);have G:∀ {i:St}{H':Hp}{v:V}{u:aJ},Inv (lS h P w K mg base N c a f d A Sx s H E) [] i H' m->U0->Q v H'->CE Sx P w H s Q u m:=
  λ{i H' v u}J p q=>⟨v,H',J.os,J.bare,J.base,J.a5,p,q⟩
 cases fl with
 |ret u=>
  obtain⟨v,i,H',J,p,q⟩:=hs;exact G J p q
 |next=>
  obtain⟨i,H',J,q⟩:=hs;exact G (v:=V.a9) J rfl q
 |brk=>
  obtain⟨_,_,_,q⟩:=hs;exact cP q
 |cont=>
  obtain⟨_,_,_,q⟩:=hs;exact cP q
section
variable{X:Cx}{x:Str}{p pos:Pos}{e:Expr}{es:Tc}{t:TA}{id T:String}{r:Q8->Hp->SY}
def J7(r:Q8->Hp->SY)(t:TA):TE:=Uq (t a H (λb c=>r b c Q))
def gA(c:fV X (VS id) r)(hg:Gl X x)(d:X.mg x=none)(hv:gY x=YA id)(f:PA X (e::es) t)(g:x≠QaN:=by decide)(i:SK=Qb:=by decide)
  (j:a_ (e::es) Qg=UY::a_ es Qg:=by rfl)(k:Zu:=by rfl):PE X (UM Te (e::es) pos) (J7 r t):=by
 exact Qcd (pY (lO I hg d hv (PyProof.Rows.callWith_builtin1 (aR (f pos a s b H _ I h) (λl s1⟨m,n,o,q,q1⟩=>c a s1 b n m l Q o q q1)) j k) g i))
def lT(c:fV X Yp r)(hg:Gl X x)(d:X.mg x=none)(hv:gY x=Qbq T)(f:PA X (e::es) t)(g:x≠QaN:=by decide)(i:SK=Qb:=by decide)
  (j:a_ (e::es) Qg=UY::a_ es Qg:=by rfl)(k:Zu:=by rfl):PE X (UM Te (e::es) pos) (J7 r t):=by
 exact Qcd (pY (lO I hg d hv (pV (aR (f pos a s b H _ I h) (λl s1⟨m,n,o,q,q1⟩=>c a s1 b n m l Q o q q1)) j k) g i))
end
end L2
namespace HT
open PySem PyProof.Rows
section
variable{prog:aO}{w:aA}{A:di}{E:SR}{s:bH}
def gB(n d:Nat):Wm->Nat
 |none=>d
 |some v=>if v<0 then(v+n).toNat else min v.toNat n
def C5(n d:Nat):gB n d none=d:=rfl
def vi(n d k:Nat):gB n d XY=min k n:=by
 show(if k<0 then(k+(n:Int)).toNat else min _ n)=min k n;rw[(Qa4),Int.toNat_natCast]
end
end HT
namespace L2
open PySem PySem.Spec PyProof.Rows
abbrev TO:=St->Hp->Q5 (TJ Wm)
def PO(X:Cx)(e:Ri Expr)(t:TO):Prop:=
 Qgm (Inv X b a H s->t a H Q->aj (aV Qr X.w) X.A (evalPart e Qg) (λu d=> ∃o c,Inv X b a c d/\IsPart u o/\Q o c) Q3 s)
def acj:TO:=λ_ H Q=>Q none H
def ack(t:TE):TO:=Uq (t a H (λx b=> ∃i,x=S0/\Q (Qc i) b))
def intsAre_of:∀ {us:List aJ},UJ R6->IntsAre us ns:=by
 induction ns with
 |nil=>intro us r;cases r;exact .nil
 |cons n ns a=>
  intro us r;cases r with
  |cons b c=>
   obtain⟨t,e⟩:=b;subst e;exact .cons n t (a c)
section
variable{X:Cx}{e:Expr}{te:TE}{lo hi:Ri Expr}{tl th:TO}{pos p2:Pos}
def C6:PO X none acj:=by
 intro a s b H Q I h;exact ah ⟨none,H,I,Sf,h⟩
def qt(h:PE X e te):PO X Xr (ack te):=by
 intro a s b H Q I c;refine aR (h a s b H _ I c) (λu s1⟨x,d,f,g,q1⟩=>?_);obtain⟨i,rfl,q⟩:=q1;obtain⟨t,rfl⟩:=g;exact⟨Qc i,d,f,.int i t,q⟩
def J8(X:Cx)(r:V->Wm->Wm->Hp->SY):Prop:=
 ∀a s(b:St)H x v c d lo hi sl Q,Inv X a b H s->SD x v->s.heap.IsSliceOf sl c d Sf->IsPart c lo->IsPart d hi->r x lo hi H Q-> ∃T e,uP Yp "__getitem__"=Sy (YA e)/\s.TypeIs v T/\aj (aV Qr X.w) X.A (getItem v (Q1 sl)) (EP X a b Q) Q3 s
def acm(r:V->Wm->Wm->Hp->SY)(te:TE)(tl b:TO):TE:=Uq (te a H (λx c=>tl a c (λl d=>b a d (λu e=>r x l u e Q))))
def vj(i:J8 X r)(j:PE X e te)(hl:PO X lo tl)(k:PO X hi th):PE X (Vx e (.Slice lo hi none p2)) (acm r te tl th):=by
 refine λa s c H Q I h=>Subscript_ (aR (j a s c H _ I h) (λv s1⟨x,m,n,o,q1⟩=>wpAny_Slice (aR (hl a s1 c m _ n q1) (λd s2⟨l,p,t,pl,w⟩=>aR (k a s2 c p _ t w) (λf s3⟨u,g,y,z,A⟩=>?_)))));refine ah ?_;obtain⟨T,D,C,ht,hg⟩:=i a _ c g x v d f l u _ Q (y.kept (λb ob q=>bM _ q)) o (Heap.IsSliceOf.new ..) pl z A
 exact tail_any ht C hg (by with_unfolding_all rfl)
def iU(xs:Q8)(lo hi:Wm):Q8:=Rf (xs.drop (HT.gB Qu 0 lo)) (HT.gB Qu Qu hi-HT.gB Qu 0 lo)
def acn(xs:Q8)(lo hi:Wm):QP (iU xs lo hi) Qu:=by
 unfold iU;rw[n',uv];omega
def oO(n:Nat)(i:Int):QbT:=if 0<=i then(if i<n then some i.toNat else none)else if-n<=i then Qc (i+n).toNat else none
def lU{a:Type}(xs:VQ)(i:Int):Ri a:=(oO Qu i).bind (λj=>xs[j]?)
end
def aco(h:oO n i=Qc j):seqIndex? i n=Qc j/\j<n/\ -n<=i/\i<n:=by
 unfold oO at h;by_cases b:0<=i
 ·rw[Qp b]at h;by_cases a:i<n
  ·rw[(VR)]at h;have e:=gn h;exact⟨by rw[seqIndex_of b a,e],Qa,Qa,a⟩
  ·rw[(W2)]at h;cases h
 ·rw[Qs b]at h;by_cases a: -n<=i
  ·rw[(VR)]at h;have e:=gn h;exact⟨by rw[seqIndex_neg (by omega) a,e],Qa,a,Qa⟩
  ·rw[(W2)]at h;cases h
def J9(h:lU xs i=Rg):∃j,seqIndex? i Qu=Qc j/\xs[j]?=Rg/\j<Qu/\ -xs.length<=i/\i<Qu:=by
 unfold lU at h;cases e:oO _ i with
 |none=>rw[e]at h;cases h
 |some j=>
  rw[e]at h;obtain⟨b,c,d,f⟩:=aco e;exact⟨j,b,h,c,d,f⟩
def kZ{j:Nat}{v}(h:xs[j]?=Rg):lU xs j=Rg:=by
 have b:=Ub h;have e:oO Qu j=Qc j:=by
  unfold oO;rw[(ZH),(ZH)];simp
 unfold lU;rw[e];exact h
def acp(xs:VQ)(v:a):lU (xs++[v]) (-1)=Rg:=by
 have hl:Qn (xs++[v])=Qu+1:=by simp
 have e:oO (Qn (xs++[v])) (-1)=Qc Qu:=by
  unfold oO;rw[hl,(Xm),(ZH)];congr 1
  omega
 unfold lU;rw[e];simp
def sq(b:Expr):Prop:= ∀o i,yf b Qb o i=operate [o,i] (getItem o i)
def C7(X:Cx)(r:R2):Prop:=
 ∀d a b s(c:St)H x y v u Q,Inv X b c H s->SD x v->W4->r x y H Q->yf a Qb v u=operate [v,u] (getItem v u)->aj (aV Qr X.w) X.A (subscriptTail d a v u) (EP X b c Q) Q3 s
def J_(X:Cx)(id:String)(r:V->Q8->Hp->SY):Prop:=
 ∀a s(b:St)H x c v d Q,Inv X a b H s->SD x v->RX c d->r x c H Q->aj (aV Qr X.w) X.A (call (VS id) (v::d)) (EP X a b Q) Q3 s
section
variable{X:Cx}{a b:Expr}{ta tb:TE}{pos:Pos}
def iV(c:C7 X r)(d:PE X a ta)(e:PE X b tb)(hs:sq b):PE X (Vx a b) (yW r ta tb):=by
 exact Qgj (Subscript_ (CT d e I h (λv u s2 x y i j k l q=>c a b f s2 g i x y v u Q j k l q (hs _ _))))
def acq(K:au):R2:=QaD (∃p a i v,x=Vm/\y=S0/\bF K H p a/\lU a i=Rg/\Q v H)
def acr(K:au):R2:=QaD (∃p a i v,x=Vm/\y=S0/\cw K H p a/\lU a i=Rg/\Q v H)
def m9:C7 X (acq X.K):=by
 intro F G c s d H x y v u Q I k l h hs;obtain⟨p,J,i,z,rfl,rfl,m,n,q⟩:=h;cases k;obtain⟨t,rfl⟩:=l;obtain⟨o,r,pl,K⟩:=I.list m;obtain⟨j,a,A,L,B,C⟩:=J9 n;obtain⟨w,e,D⟩:=r.get A;have hl:=r.length;have M:=CW;have f:EP X c d Q w s:=⟨z,H,I,D,q⟩;by_cases g:0<=i
 ·have b:=by
   rw[seqIndex_of g C]at a;exact gn a
  exact item_listR QaS g Qa (by rw[b];simpa using e) f hs
 ·have b:(i+Zg o).toNat=j:=by
   rw[seqIndex_neg Qa B]at a;rw[lz,<-hl];exact gn a
  exact subscriptTail_builtinR pl.isList.typeIs slot_list_getitem.lookup (wpAny_getItem_list_neg QaS Qa Qm Qa (by rw[b];simpa using e) (RL f)) hs
def vk:C7 X (acr X.K):=by
 intro o A a s b H x y v u Q I c d h hs;obtain⟨p,B,i,z,rfl,rfl,e,f,q⟩:=h;cases c;obtain⟨t,rfl⟩:=d;obtain⟨C,r,pl,D⟩:=I.tuple e;obtain⟨j,E,g,F,G,J⟩:=J9 f;obtain⟨w,k,l⟩:=r.get g;have hl:=r.length;have K:=CW;exact subscriptTail_builtinR pl.typeIs slot_tuple_getitem.lookup (getItem_tuple (j:=j) pl Qa Qa Qm (by simpa using k) (RL ⟨z,H,I,l,q⟩)) hs
def acs(lo hi:Wm)(n:Nat):(p_ lo hi none n).1=(HT.gB n 0 lo)/\(p_ lo hi none n).2.1=(HT.gB n n hi)/\(p_ lo hi none n).2.2=1:=by
 refine Sz ?_ ?_
 ·cases lo with
  |none=>simp[p_,HT.gB]
  |some i=>
   simp [p_,HT.gB];by_cases h:i<0
   ·grind
   ·grind
 ·cases hi with
  |none=>simp[p_,HT.gB]
  |some i=>
   simp [p_,HT.gB];by_cases h:i<0
   ·grind
   ·grind
def acu(a:Wr)(lo hi:Wm):slicePick (U4 a) lo hi none=U4 (Rf (a.drop (HT.gB Sj 0 lo)) (HT.gB Sj Sj hi-HT.gB Sj 0 lo)):=by
 obtain⟨b,c,d⟩:=acs lo hi _;unfold slicePick;rw[b,c,d];simp only[sliceRange_one,pick_run]<;>rfl
def acv(K:au):V->Wm->Wm->Hp->SY:=λx lo hi H Q=> ∃a b,x=QS/\bF K H a b/\ ∀p,H p=none->R3 p (UN p (iU b lo hi))
def vl:J8 X (acv X.K):=by
 intro i s j H x v k l lo hi sl Q I d hs pl e h;obtain⟨a,c,rfl,hx,q⟩:=h;cases d;obtain⟨m,r,ht,f⟩:=I.list hx;have g:=r.length;refine⟨Rq,_,slot_list_getitem.lookup,ht.isList.typeIs,wpAny_getItem_list_slice ht.isList hs pl e Sf Qj ?_ Qm⟩;rw[acu,<-g];refine Rl WQ _ (I.laid (λb ob q=>bM _ q) (aQ _) ?_) (q _ (Ut (aQ _)));exact⟨bp (acn c lo hi) f,_,0,Rf (r.drop _) _,cH _ rfl⟩
def iW:S4 V
 | .a9=>true
 | .bl _=>true
 | .int _=>true
 | .str _=>true
 |_=>false
def jm:V->S4 V
 | .a9,.a9=>true
 | .bl a,.bl b=>a==b
 | .bl a,.int b=>(if a then 1 else 0)==b
 | .int a,.bl b=>a==(if b then 1 else 0)
 | .int a,.int b=>a==b
 | .str a,.str b=>a==b
 |_,_=>false
def acw(e:W4)(c:SD x v)(g:QJ iW y)(f:Qdq iW):SeqAt.EqAt A s u v (jm y x):=by
 cases y with
 |a9=>
  cases e;cases x with
  |a9=>cases c;exact SeqAt.EqAt.same _
  |bl b=>cases c;exact SeqAt.EqAt.none_bool b
  |int b=>obtain⟨t,rfl⟩:=c;exact SeqAt.EqAt.none_int b t
  |str b=>obtain⟨t,rfl⟩:=c;exact SeqAt.EqAt.none_str b t
  |_=>exact QbU f
 |bl a=>
  cases e;cases x with
  |a9=>cases c;exact SeqAt.EqAt.bool_none a
  |bl b=>cases c;exact SeqAt.EqAt.bool_bool a b
  |int b=>obtain⟨t,rfl⟩:=c;exact SeqAt.EqAt.bool_int a b t
  |str b=>obtain⟨t,rfl⟩:=c;exact SeqAt.EqAt.bool_str a b t
  |_=>exact QbU f
 |int a=>
  obtain⟨d,rfl⟩:=e;cases x with
  |a9=>cases c;exact SeqAt.EqAt.int_none a d
  |bl b=>cases c;exact SeqAt.EqAt.int_bool a d b
  |int b=>obtain⟨t,rfl⟩:=c;exact SeqAt.EqAt.int_int a d b t
  |str b=>obtain⟨t,rfl⟩:=c;exact I7 a d b t
  |_=>exact QbU f
 |str a=>
  obtain⟨d,rfl⟩:=e;cases x with
  |a9=>cases c;exact SeqAt.EqAt.str_none a d
  |bl b=>cases c;exact SeqAt.EqAt.str_bool a d b
  |int b=>obtain⟨t,rfl⟩:=c;exact I_ a d b t
  |str b=>obtain⟨t,rfl⟩:=c;exact SeqAt.EqAt.str_str a d b t
  |_=>exact QbU f
 |_=>exact QbU g
def qu(x:V)(u:aJ):Bool:=match u with
 | .none=>jm .a9 x
 | .bool b=>jm (.bl b) x
 | .int i _=>jm S0 x
 | .str z _=>jm (.str z) x
 |_=>false
def yZ(r:W4)(f:QJ iW y):qu x u=jm y x:=by
 cases y with
 |a9=>cases r;rfl
 |bl b=>cases r;rfl
 |int i=>obtain⟨t,rfl⟩:=r;rfl
 |str z=>obtain⟨t,rfl⟩:=r;rfl
 |_=>exact QbU f
def vm:∀ {xs:List V}{us:List aJ},ZO->QJ xs.all iW->us.any (qu x)=xs.any (λy=>jm y x)
 |_,_,.nil,_=>rfl
 |y::xs,u::us,.cons r t,f=>by
  rw[ux,bX]at f;rw[rB,rB,yZ r f.1,vm t f.2]
def sr(b:SD x v)(c:Qdq iW):∀ {xs:List V}{us:List aJ},ZO->QJ xs.all iW-> ∀u∈us,SeqAt.EqAt A s u v (qu x u)
 |_,_,.nil,_=>λu a=>by cases a
 |y::xs,u::us,.cons r t,f=>λd a=>by
  rw[ux,bX]at f;rcases RA a with rfl|a
  ·rw[yZ r f.1];exact acw r b f.1 c
  ·exact sr b c t f.2 d a
def su(x:V)(xs:Q8):Bool:=xs.any (λy=>jm y x)
def Ka(K:au)(b:Bool):R2:=QaD (∃p a,y=Vm/\(bF K H p a\/cw K H p a)/\Qdq iW/\QaH a iW/\Q (.bl (if b then !su x a else su x a)) H)
def Kb:dz X (eY .In) (Ka X.K Qb):=by
 intro i s j H x y v u Q I d f h;obtain⟨p,k,rfl,a,e,fs,q⟩:=h;cases f;rcases a with a|a
 ·obtain⟨b,r,pl,g⟩:=I.list a;refine SeqAt.in_listAt _ QaS (λw c=>sr d e r fs w Vg) (Rl (.bl _) H I ?_);rw[show b.toArray.any _=b.any (qu x)by simp,vm r fs];exact q
 ·obtain⟨b,r,pl,g⟩:=I.tuple a;refine SeqAt.in_tupleAt _ pl (λw c=>sr d e r fs w Vg) (Rl (.bl _) H I ?_);rw[show b.toArray.any _=b.any (qu x)by simp,vm r fs];exact q
def Kc:dz X (eY .NotIn) (Ka X.K true):=by
 intro i s j H x y v u Q I d f h;obtain⟨p,k,rfl,a,e,fs,q⟩:=h;cases f;rcases a with a|a
 ·obtain⟨b,r,pl,g⟩:=I.list a;refine SeqAt.notIn_listAt _ QaS (λw c=>sr d e r fs w Vg) (Rl (.bl _) H I ?_);rw[show b.toArray.any _=b.any (qu x)by simp,vm r fs];exact q
 ·obtain⟨b,r,pl,g⟩:=I.tuple a;refine SeqAt.notIn_tupleAt _ pl (λw c=>sr d e r fs w Vg) (Rl (.bl _) H I ?_);rw[show b.toArray.any _=b.any (qu x)by simp,vm r fs];exact q
def y0:fV X QdX (λxs H Q=> ∃p ys,xs=[Vm]/\(bF X.K H p ys\/cw X.K H p ys)/\Q (QL QbO) H):=by
 intro g s i H xs j Q I r h;obtain⟨p,ys,rfl,a,q⟩:=h;obtain⟨u,rfl,c⟩:=vals1 r;cases c;have k:=CW;rcases a with a|a
 ·obtain⟨d,b,pl,e⟩:=I.list a;have f:=b.length;exact Calls.call_len_list QaS Qm ⟨QL _,H,I.tok _,Qe (Tg+1) Qm,q⟩
 ·obtain⟨d,b,pl,e⟩:=I.tuple a;have f:=b.length;exact len_tuple pl Qm ⟨QL _,H,I.tok _,Qe (Tg+1) Qm,q⟩
def Kd:fV X SW (λxs H Q=> ∃p ys,xs=[Vm]/\(bF X.K H p ys\/cw X.K H p ys)/\ ∀l,H l=none->R3 l (UN l ys)):=by
 intro v s w H xs z Q I r h;obtain⟨p,ys,rfl,g,q⟩:=h;obtain⟨u,rfl,x⟩:=vals1 r;cases x;have m:∀c,RX ys c->QbO<=bq-> ∀a d,(∀b t,Th=Qc t->R0 a b=Qc t)->R0 a Qt=Qc _->EP X v w Q _ {s with heap:=a}:=λc f i a d kp e=>Rl WQ _ (I.laid kp (aQ _) (show d6 _ X.w _ a _ (.lst ys)from⟨i,c,d,f,e⟩)) (q _ (Ut (aQ _)))
 rcases g with g|g
 ·obtain⟨c,f,pl,i⟩:=I.list g;have y:=f.length;obtain⟨o,j,k,n,hd⟩:=pl.isList;exact call_list_seq p Qw j k hd (λa d kp e=>m c f i a d kp e) Qm
 ·obtain⟨c,f,pl,i⟩:=I.tuple g;have y:=f.length;obtain⟨o,j,k,n,hd⟩:=pl;exact call_list_seq p WH j k hd (λa d kp e=>m c f i a d kp e) Qm
def Ke:fV X UQ (λxs H Q=> ∃p ys,xs=[Vm]/\((bF X.K H p ys/\ ∀l,H l=none->R3 l (upd H l (.tup ys)))\/(cw X.K H p ys/\R3 p H))):=by
 intro g s i H xs t Q I r h;obtain⟨p,ys,rfl,h⟩:=h;obtain⟨u,rfl,m⟩:=vals1 r;cases m;rcases h with⟨c,q⟩|⟨c,q⟩
 ·obtain⟨d,f,pl,j⟩:=I.list c;have v:=f.length;refine call_tuple_list QaS (λa kp=>?_) Qm;have k:=I.kept (t':=Tg) kp
  exact Rl WQ _ (k.laid (t':=Tg) (Q4 (bM _ e)) (aQ _) (show d6 _ X.w _ _ _ (.tup ys)from⟨j,d,f,IsTup.new _ _⟩)) (q _ (X9 k (aQ _)))
 ·obtain⟨d,f,pl,j⟩:=I.tuple c;exact call_tuple_same pl (Rl Vm H I q)
def Kf(K:au)(T:String)(x:V)(H:Hp):Prop:=match x with
 | .str _=>T="str"
 | .int _=>T="int"
 | .ref p=>(T=Rq/\ ∃b,bF K H p b)\/(T=XR/\ ∃o,Vz p=Qi/\V8=UQ/\o.dict=none)\/(T="dict"/\((∃a,H p=QaF a)\/ ∃a,H p=ZN a))\/(T=X5/\ ∃S n,H p=Rz .set S n)
 |_=>False
def acx{σ:St}(I:QI)(r:SD x v)(ty:Kf X.K T x H):
  s.TypeIs v T/\ ∀a,v=QS-> ∃ob,RV a=Qc ob/\ob.dict=none:=by
 cases x with
 |str z=>
  obtain⟨t,rfl⟩:=r;cases(ty);exact Qbs (typeIs_str s z t) QbI
 |int i=>
  obtain⟨t,rfl⟩:=r;cases(ty);exact Qbs (typeIs_int s i t) QbI
 |ref p=>
  cases r;rcases ty with⟨rfl,j,f⟩|⟨rfl,o,b,g,hd⟩|⟨rfl,b⟩|⟨rfl,S,n,b⟩
  ·obtain⟨k,_,pl,_⟩:=I.list f;refine Qe pl.isList.typeIs (λa e=>?_);cases e;obtain⟨o,n,e,c,hd,_⟩:=pl;exact SF e hd
  ·refine⟨SF (I.jk p o b) g,λa e=>?_⟩;cases e;exact SF (I.jk _ o b) hd
  ·have z:∃o,RV p=Qi/\QfP:=by
    rcases b with⟨h,b⟩|⟨h,b⟩
    ·obtain⟨_,_,_,_,o,_,_,e,ex,_⟩:=I.a5 p _ b;exact SF e ex
    ·obtain⟨_,_,_,_,o,_,_,e,ex,_⟩:=I.a5 p _ b;exact SF e ex
   obtain⟨o,e,ex⟩:=z;refine⟨SF e ex.1,λa d=>?_⟩;cases d;exact SF e ex.2.1
  ·obtain⟨o,_,_,_,e,ex,_⟩:=I.a5 p _ b;refine⟨SF e ex.1,λa d=>?_⟩;cases d;exact SF e ex.2.1
 |_=>exact cP ty
def acy(K:au)(T:String)(r:V->Q8->Hp->SY)(c:TE)(t:TA):TE:=Uq (c a H (λx b=>Kf K T x b/\t a b (λd e=>r x d e Q)))
variable{o e:Expr}{es:Tc}{to:TE}{t:TA}{name:Str}{apos cpos:Pos}{T id:String}{r:V->Q8->Hp->SY}
def j1(g:PlainAttrs T)(slot:Slot T name id)(i:typeOf (VS id)=Sy (SV "method_descriptor"))(j:J_ X id r)(k:PE X o to)(l:PA X (e::es) t)
  (m:kE o name Qg XX=XX:=by rfl)
  (n:Qv ((eC cpos (a_ (e::es) Qg)).all QcJ&&(fx cpos (fw [] Qg)).all QcC&&QV (Qn (e::es)+Qn ([]:Qa3)+Qcw<30)):=by rfl)
  (p:Qv (QbL):=by rfl)(hs:a_ (e::es) Qg=UY::a_ es Qg:=by rfl)(E:(eC cpos (a_ es X.env)).any (·.1)=false:=by rfl):
  PE X (YJ o name (e::es)) (acy X.K T r to t):=by
 refine Qcd (wpAny_Call_method_late m n p rfl (aR (k a s b H _ I h) (λv s1⟨x,q,c,d,ty,q1⟩=>?_)));obtain⟨u,w⟩:=acx c d ty;refine⟨T,id,g,slot,i,u,w,?_⟩;have f:=l cpos a s1 b q _ c q1;rw[hs]at f⊢;exact yh Qm (Cg (aR f (λy s2⟨z,A,B,C,D⟩=>j a s2 b A x z v y Q B d C D)))
end
def C8(X:Cx)(id:String)(r:V->Q8->Hp->SY):Prop:=
 ∀a s(b:St)H x c v d Q,Inv X a b H s->SD x v->RX c d->r x c H Q->aj (aV Qr X.w) X.A (call (VS id) (v::d)) (EP X a b Q) Q3 s
def Vals.one:∀ {x:V}{us:List aJ},UJ [x]-> ∃u,us=[u]/\Y4 x
 |_,_,.cons r .nil=>SE r
section
variable{X:Cx}{pins:Tr}{σ:St}{H:Hp}{s:bH}{l b:Addr}{xs ys zs:Q8}
def Inv.C9{a its':Wr}(I:QI)(b:H l=RZ xs)
  (e:RV l=Qc {cls:= SW,data:= .seq (U4 a) n})(c:f (U4 a)=its'.toArray)(hv:RX ys its')(hz:QbO<=bq):
  SM (UN l ys) {s with heap:=s.heap.update l (g6 f),toks:=t'}:=by
 have q:=PySem.IsL.update e f;rw[c]at q;refine I.write (by rw[b];exact trivial) Qw (λh u d g=>QH (I0 _ _ (fP d)) g) (Rh q) ⟨hz,its',_,hv,q⟩
def Inv.acz(I:QI)(hv:RX ys a)(hz:QbO<=bq):
  SM (UN Qt ys) {s with heap:=S5 {cls:= SW,data:= .seq (U4 a)},toks:=t'}:=
 I.laid (λ_ _ q=>bM _ q) (aQ _) ⟨hz,a,0,hv,cH _ rfl⟩
def Inv.fresh(I:QI):H Qt=none:=Ut (aQ _)
def Inv.sv(I:QI)(b:H l=RZ xs):Qu<=bq/\ ∃(a:List aJ)(n:Nat),RX xs a/\Qu=Sj/\RV l=Qc {cls:= SW,data:= .seq (U4 a) n}:=by
 obtain⟨z,a,n,r,e⟩:=I.a5 l _ b;exact⟨z,a,n,r,Qn r,e⟩
def Kg(h:n<=bq):Ce n=Qb:=by
 exact TK Qa
end
section
variable{X:Cx}
def acA:V->Q8->Hp->SY:=λx b H Q=> ∃l a y,x=Uj/\b=[y]/\H l=RZ a/\Sj<bq/\Q .a9 (UN l (a++[y]))
def oP:C8 X "list.append" acA:=by
 intro g s i H x j v k Q I c d h;obtain⟨l,m,y,rfl,rfl,a,o,q⟩:=h;cases c;obtain⟨u,rfl,f⟩:=d.one;obtain⟨z,b,n,r,hl,e⟩:=I.sv a;refine call_meets mP (Sz _ e) F.entry_list_append (F.args_list_append_2 _ _) (PySem.list_append l _ n u Qm) (Qe e (Rl .a9 _ (I.C9 a e Qj (r.append (Zf f)) ?_) q));rw[b0,List.length_singleton];omega
def acB:V->Q8->Hp->SY:=λx c H Q=> ∃l b a zs,x=Uj/\c=[SI]/\H l=RZ a/\H b=RZ zs/\Sj+Vl<=bq/\Q .a9 (UN l (a++zs))
def Kh:C8 X "list.extend" acB:=by
 intro t s w H x y v A Q I f g h;obtain⟨l,b,B,zs,rfl,rfl,d,i,C,q⟩:=h;cases f;obtain⟨u,rfl,j⟩:=g.one;cases j;obtain⟨z,a,n,r,hl,e⟩:=I.sv d;obtain⟨D,c,n2,k,E,m⟩:=I.sv i;have o:Zg a+Zg c<=bq:=by grind
 have p:¬Qv (!a.toArray.isEmpty&&Ce (Zg a+Zg c)):=by
  rw[Kg o,BI];exact BG
 refine call_meets uX (Sz _ e) F.entry_list_extend (F.args_list_extend_2 _ _) (AutoSeq1.list_extend_list_list_0 l _ n b _ n2 p Qm Qa) (Qh e m (Rl .a9 _ (I.C9 d e Qj (r.append k) ?_) q));rw[b0];omega
def acC:R2:=QaD (∃l b a zs,x=Uj/\y=SI/\H l=RZ a/\H b=RZ zs/\Sj+Vl<=bq/\ ∀p,H p=none->R3 p (UN p (a++zs)))
def vn:dz X (iH .Add) acC:=by
 intro o s p H x y v u Q I d f h;obtain⟨l,b,t,zs,rfl,rfl,g,i,w,q⟩:=h;cases d;cases f;obtain⟨z,a,n,r,hl,e⟩:=I.sv g;obtain⟨A,c,n2,j,B,k⟩:=I.sv i;refine PySem.P.add_list e k ?_ Qm;have m:U4 a++Qb5=U4 (a++c):=by simp
 rw[m];exact Rl WQ _ (I.acz (r.append j) Qm) (q _ I.fresh)
def Vals.ints:∀ {ns:List Int}{us:List aJ},UJ R6->IntsAre us ns
 |[],us,h=>by
  cases h;exact IntsAre.nil
 |n::ns,us,h=>by
  cases h with
  |cons r t=>
   obtain⟨k,rfl⟩:=r;exact IntsAre.cons n k (Vals.ints t)
def Vals.C_:∀ {bs:List Bool}{us:List aJ},UJ (bs.map V.bl)->us=bs.map mS
 |[],us,h=>by
  cases h;rfl
 |b::bs,us,h=>by
  cases h with
  |cons r t=>
   cases r;rw[Vals.C_ t,cg]
def Vals.aa1(r:UJ [Sa a]):us=[bD a]:=by
 cases r with
 |cons r t=>
  cases t;cases r;rfl
end
section
variable{prog:aO}{w:aA}{A:di}{E:SR}{s:bH}{l:Addr}{its:Wr}{ns:Qo}{Q:SR}
def acD(c:VH=none)(hl:Qco s l its.toArray)(hi:IntsAre its ns)
  (h:∀h' tk t',(RN (Th=Qi->T_=Qi))->Q (.int ns.sum t') Xg):aj QA A (call (VS "sum") [Uj]) Q E s:=by
 obtain⟨d,e⟩:=hi.allInts.items;have a:numsOf (TH (intItems d))=ns:=by rw[<-e];exact hi.numsOf
 rw[nums_intItems]at a;rw[e]at hl;refine PySem.sum_intListG c hl (λh' tk t' f=>?_);have:=h h' tk t' f;rw[preSum_eq,ur Qj,a];exact this
end
section
variable{X:Cx}
def acE(K:au):Q8->Hp->SY:=YN (Qbc (b=[Sa a]/\bF K H a R6/\Q (QL ns.sum) H))
def acF(b:RD):fV X (VS "sum") (acE X.K):=by
 intro e s f H g i Q I r h;obtain⟨a,ns,rfl,hs,q⟩:=h;obtain⟨j,c,hl,_⟩:=I.list hs;rw[YH r];exact acD (VC b) Qeh c.ints (λk l m d=>⟨QL _,H,I.kept d,Yv,q⟩)
def acG(K:au):V->Q8->Hp->SY:=λx d H Q=> ∃(a:Addr)(b:List V)(y:V)(j:Nat)(z:V),x=Sa a/\d=[y]/\bF K H a b/\QJ iW y/\QaH b iW/\b[j]?=Qc z/\Rm jm z y/\(∀m c,m<j->b[m]?=R9->jm c y=Qb)/\Q (QL j) H
def Ki{ys:Q8}(f:QJ ys.all iW){j:Nat}(h:ys[j]?=Qc z):QJ iW z:=hV.mp f z (bL h)
def acH:J_ X "list.index" (acG X.K):=by
 intro U s V H x W v Y Q I o p h;obtain⟨a,d,y,j,z,rfl,rfl,hs,r,e,i,t,w,q⟩:=h;cases o;cases p with
 |cons A rt=>
  rename_i B Z;cases rt;obtain⟨b,c,⟨⟨cls,C,data,sl⟩,n,k,l,hdn,hd⟩,hlen⟩:=I.list hs;subst l hd;obtain⟨u,D,E⟩:=c.get i;obtain⟨F,G⟩:=Zh D;have hvl:=c.length
  have hsl:=bK;refine call_meets IS (Sz _ k) PySem.F.entry_list_index (PySem.F.args_list_index_2 _ _) (SeqAt.list_indexAt a _ n C sl B _ j (by simpa using F) Qa ?_ ?_) ⟨k,λK L=>sr A r c e K QgP,⟨QL j,H,I.tok _,Yv,q⟩⟩
  ·have f:b.toArray[j]=u:=by simpa using G
   rw[f,yZ E (Ki e i)];exact t
  ·intro m M N
   have O:m<WZ:=by omega
   have g:=cN O;obtain⟨P,R,S⟩:=c.get g;obtain⟨_,T⟩:=Zh R;have f:b.toArray[m]=P:=by simpa using T
   rw[f,yZ S (Ki e g)];exact w m _ N g
def Kj(hl:Qco s l Vt)
  (h:∀a,a={s with heap:=S5 {cls:= QcA,data:= Vw Qcz}}->(a.heap.IsListIter Qt l 0/\Qco a l Vt)->l≠Qt->Q UA a):aj QA A (lH Uj) Q E s:=by
 exact rK hl (h _ rfl ⟨Zp _ (cH _ rfl),hl.push _⟩ (b9 (by obtain⟨_,e,_⟩:=hl;exact bx e)))
def Kk{bs:QR Bool}(e:a=bs.map mS):
  TruthOf prog w A (λi v=>a.toArray[i]?=Rg) (λi=>bs.getD i Qb):=λi v s Q E hv f=>by
 have c:=by simpa using hv
 rw[e,cY]at c;obtain⟨b,g,rfl⟩:=mK.mp c;have hg:bs.getD i Qb=b:=by grind
 have d:Q (bs.getD i Qb) s:=f;rw[hg]at d;exact oh d
def any_range:∀bs:List Bool,(dd bs.length).any (λi=>bs.getD i Qb)=bs.any id
 |[]=>rfl
 |b::bs=>by
  rw[dh,Ir,rB,List.any_map,rB,<-any_range bs];all_goals rfl
def all_range:∀bs:List Bool,(dd bs.length).all (λi=>bs.getD i Qb)=bs.all id
 |[]=>rfl
 |b::bs=>by
  rw[dh,Ir,ux,uy,ux,<-all_range bs];all_goals rfl
def acI(K:au):Q8->Hp->SY:=YN (∃(a:Addr)(bs:List Bool),b=[Sa a]/\bF K H a (bs.map V.bl)/\Q (.bl (bs.any id)) H)
def acJ(K:au):Q8->Hp->SY:=YN (∃(a:Addr)(bs:List Bool),b=[Sa a]/\bF K H a (bs.map V.bl)/\Q (.bl (bs.all id)) H)
def acK(f:RD):fV X (VS "any") (acI X.K):=by
 intro n s p H t u Q I r h;obtain⟨a,bs,rfl,hs,q⟩:=h;obtain⟨g,i,hl,_⟩:=I.list hs;rw[YH r];have d:=i.C_;refine call_any_walk (Kj Qeh (λv j st k=>?_));subst j;refine⟨_,_,_,_,_,_,_,rfl,Walks.list (A:=X.A.in1) (VC f) _ a k _,st,Kk d,λw x l=>⟨.bl _,H,I.kept (Q4 (l b o Qee (bM _ e))),by show mS _=mS _;rw[<-any_range,d,lz,ak],q⟩⟩
 ·rcases RA c with m|c
  ·exact XN (m▸bx e)
  ·cases c
def Kl(f:RD):fV X (VS "all") (acJ X.K):=by
 intro n s p H t u Q I r h;obtain⟨a,bs,rfl,hs,q⟩:=h;obtain⟨g,i,hl,_⟩:=I.list hs;rw[YH r];have d:=i.C_;refine call_all_walk (Kj Qeh (λv j st k=>?_));subst j;refine⟨_,_,_,_,_,_,_,rfl,Walks.list (A:=X.A.in1) (VC f) _ a k _,st,Kk d,λw x l=>⟨.bl _,H,I.kept (Q4 (l b o Qee (bM _ e))),by show mS _=mS _;rw[<-all_range,d,lz,ak],q⟩⟩
 ·rcases RA c with m|c
  ·exact XN (m▸bx e)
  ·cases c
mutual
inductive Dp(K:au)(H:Hp):V->Q5 jP
 |a9:Dp K H .a9 Sf
 |bl(b:Bool):Dp K H (.bl b) (.bool b)
 |int(i:Int):Dp K H S0 S0
 |str(x:Str):Dp K H (.str x) (.str x)
 |lst{a:Addr}{xs:Q8}{ds:QR jP}:bF K H a xs->m_ K H xs ds->Dp K H QS (.list ds)
 |tup{a:Addr}{xs:Q8}{ds:QR jP}:cw K H a xs->m_ K H xs ds->Dp K H QS (.tuple ds)
inductive m_(K:au)(H:Hp):Q8->Q5 (QR jP)
 |nil:m_ K H [] []
 |cons{v:V}{vs:Q8}{d:jP}{ds:QR jP}:Dp K H v d->m_ K H vs ds->m_ K H (v::vs) (d::ds)
end
end
section
variable{X:Cx}{pins:Tr}{σ:St}{H:Hp}{s:bH}
mutual
theorem Dp.reads(I:QI):∀(d:jP)(v:V)(u:aJ),Dp X.K H v d->U0-> ∃as,Reads Ql u d as
 | .none,_,_,h,r=>by
  cases h;cases r;exact Rh Reads.none
 | .bool b,_,_,h,r=>by
  cases h;cases r;exact V0 Reads.bool b
 | .int i,_,_,h,r=>by
  cases h;obtain⟨t,rfl⟩:=r;exact Rh (Reads.int i t)
 | .str x,_,_,h,r=>by
  cases h;obtain⟨t,rfl⟩:=r;exact Rh (Reads.str x t)
 | .list ds,_,_,h,r=>by
  cases h with
  |lst hs ha=>
   cases r;obtain⟨its,rv,⟨o,n,ho,hc,_,hd⟩,_⟩:=I.list hs;obtain⟨as,hr⟩:=Dp.readsAll I ds _ its ha rv;exact Rh (Reads.list ho hc hd hr)
 | .tuple ds,_,_,h,r=>by
  cases h with
  |tup hs ha=>
   cases r;obtain⟨its,rv,⟨o,ho,hc,n,hd⟩,_⟩:=I.tuple hs;obtain⟨as,hr⟩:=Dp.readsAll I ds _ its ha rv;exact Rh (Reads.tuple ho hc hd hr)
 | .dict _,_,_,h,_=>by cases h
theorem Dp.readsAll(I:QI):∀(ds:List jP)(vs:List V)(us:List aJ),m_ X.K H vs ds->UJ vs-> ∃as,ReadsAll Ql us ds as
 |[],_,_,h,r=>by
  cases h;cases r;exact Rh ReadsAll.nil
 |d::ds,_,_,h,r=>by
  cases h with
  |cons h1 h2=>
   cases r with
   |cons r1 r2=>
    obtain⟨as,q1⟩:=Dp.reads I d _ _ h1 r1;obtain⟨bs,q2⟩:=Dp.readsAll I ds _ _ h2 r2;exact Rh (ReadsAll.cons q1 q2)
end
end
section
variable{X:Cx}
def Km(K:au):R2:=QaD (∃d e,Dp K H x d/\Dp K H y e/\QJ ox d/\QJ ox e/\Q (.bl (gp d e)) H)
def y1(a:RY+64<bf):dz X (eY .Eq) (Km X.K):=by
 intro l s m H x y v u Q I b c h;obtain⟨d,e,hd,f,g,i,q⟩:=h;obtain⟨n,j⟩:=Dp.reads I d x v hd b;obtain⟨bs,k⟩:=Dp.reads I e y u f c;exact SeqAt.compareEq_shaped j k g i a (Rl (.bl _) H I q)
abbrev Kn(h:Heap)(c:Addr)(v:Qdz):Prop:=h.IsCell c v
def acL(a sc:eT):eT:=
 {a with names:=a.names.map (λ(n,k)=>if(k== .free&&sc.kind== .function&&sc.names.lookup n==some .cell)then(n,.cell)else(n,k))}
def fq(cells:TU Str Addr):TU Str NameKind->TU Str Addr->TU Str Addr
 |[],a=>a
 |(n,k)::r,a=>if k==XT then fq cells r ((n,(cells.lookup n).getD 0)::a)else fq cells r a
def Ko(env:Env)(f:Str×NameKind->R_->Sem _)
  (d:∀n k c,f (n,k) c=if k== .free then(do let a<-cellOf env n;pure (.yield ((n,a)::c)))else pure (.yield c)):
  ∀names acc,(∀y∈names,y.2=XT-> ∃c,Qgc y.1=R9)->forIn W8 acc f=Sy (fq env.cells W8 acc)
 |[],acc,_=>by rfl
 |(n,k)::r,acc,h=>by
  rw[BS,d];have i:=λacc=>Ko env f d r acc (λy j=>h y (bP _ j));unfold fq;by_cases b:Qv (k==yn)
  ·rw[Qp b,Qp b];obtain⟨c,g⟩:=h (n,k) lq QbD;have e:cellOf env n=Sy c:=by unfold cellOf;rw[g]
   rw[e];have l:(Qgc n).getD 0=c:=by rw[g];rfl
   rw[l];exact i _
  ·grind
def acM(h:∀y∈a.names,y.2=XT-> ∃c,Qgc y.1=R9):closureFor a env=Sy (fq env.cells WM []):=by
 simp only[closureFor];rw[Ko env _ (λn k c=>rfl) _ [] h];rfl
def mem_lookup{a:Type}:∀ {l:List _}{n:Str}{c:a},(n,c)∈l-> ∃b,ZU l n=Qc b
 |(k,v)::r,n,c,h=>by
  rw[List.lookup_cons];cases d:n==k with
  |true=>exact Yv
  |false=>
   rcases RA h with e|h
   ·cases e;simp at d
   ·exact mem_lookup h
def y2:∀ {names:List _}{acc:List _}{n:Str}{c:Addr},(n,c)∈fq cells W8 acc->(n,c)∈acc\/((n,XT)∈W8/\c=(cells.lookup n).getD 0)
 |[],_,_,_,h=> Qq h
 |(m,k)::r,acc,n,c,h=>by
  unfold fq at h;split at h
  ·rename_i a
   rcases y2 h with h|⟨b,d⟩
   ·grind
   ·grind
  ·rcases y2 h with h|⟨b,d⟩
   ·exact Qq h
   ·grind
def C':∀ {names:List _}{acc:List _}{p:Str×Addr},p∈acc->p∈fq cells W8 acc
 |[],_,_,h=>h
 |(m,k)::r,acc,p,h=>by
  unfold fq;split
  ·exact C' (bP _ h)
  ·exact C' h
def Dc:∀ {names:List _}{acc:List _}{n:Str},(n,XT)∈W8->(n,(cells.lookup n).getD 0)∈fq cells W8 acc
 |(m,k)::r,acc,n,h=>by
  unfold fq;rcases RA h with e|h
  ·cases e;exact C' lq
  ·split
   ·exact Dc h
   ·exact Dc h
def vo:∀ {names:List _}{h:Heap}{acc:List _}{x:Str}{c:Addr},(x,c)∈e7 Uk W8 acc->(x,c)∈acc\/((x,.cell)∈W8/\Uk<=c/\Kn (om h W8) c none)
 |[],_,_,_,_,h=> Qq h
 |(n,k)::r,h,acc,x,c,a=>by
  unfold e7 at a;unfold om;split at a
  ·rename_i b;rw[Qp b]
   rw[<-g0 h _]at a;rcases vo a with a|⟨f,d,g⟩
   ·rcases RA a with e|a
    ·cases e;exact Qy ⟨(QbD)▸lq,aQ _,_,x6 r _ _ _ (cH _ rfl),rfl⟩
    ·exact Qq a
   ·rw[g0]at d;exact Qy ⟨bP _ f,B0 d,g⟩
  ·rename_i b;rcases vo a with a|⟨f,d,g⟩
   ·exact Qq a
   ·grind
def y3:∀ {names:List _}{n:Nat}{acc:List _}{p:Str×Addr},p∈acc->p∈e7 n W8 acc
 |[],_,_,_,h=>h
 |(m,k)::r,n,acc,p,h=>by
  unfold e7;split
  ·exact y3 (bP _ h)
  ·exact y3 h
def Dd:∀ {names:List _}{n:Nat}{acc:List _}{x:Str},(x,.cell)∈W8-> ∃c,(x,c)∈e7 n W8 acc
 |(m,k)::r,n,acc,x,h=>by
  unfold e7;rcases RA h with e|h
  ·cases e;exact Qe n (y3 lq)
  ·split
   ·exact Dd h
   ·exact Dd h
def De:∀ {names:List _}{h:Heap}{acc:List (Str×Addr)}{x y:Str}{c:Addr},(∀p∈acc,p.2<Uk)->(∀x y c,(x,c)∈acc->(y,c)∈acc->x=y)->(x,c)∈e7 Uk W8 acc->(y,c)∈e7 Uk W8 acc->x=y
 |[],_,_,_,_,_,_,hi,e,d=>hi _ _ _ e d
 |(n,k)::r,h,acc,x,y,c,hl,hi,e,d=>by
  unfold e7 at e d;split at e
  ·rename_i f;rw[Qp f]at d;rw[<-g0 h {cls:= SV "cell",data:= .cell none}]at e d;refine De (λp g=>?_) (λx y c a b=>Qm) e d
   ·rw[g0];rcases RA g with rfl|g
    ·exact uD _
    ·grind
  ·rename_i f;rw[Qs f]at d;exact De hl hi e d
def acN{code}
  (h:Q (newEnv a Qt d (e7 (Qt+1) WM b) e f code (Qc g) i) {s with heap:=om (S5 {cls:= YX,data:= Qao}) WM}):
  aj M A (newFunctionEnv a d b [] e f code (Qc g) i) Q E s:=by
 simp only[newFunctionEnv];refine ab (wpAny_alloc (ab (wpAny_layCells _ (λn k c=>rfl) _ b _ _ ?_)));rw[g0 ..];exact ab (ah (ah h))
def Df{sc:eT}:∀ {names:R_}{x:Str}{k:NameKind},
  ZU (names.map (λ(n,k)=>if(k==yn&&sc.kind== .function&&sc.names.lookup n==some .cell)then(n,NameKind.cell)else(n,k))) x=XY-> ∃a,names.lookup x=Zb/\(k=a\/(a=XT/\k= .cell))
 |[],_,_,h=>by simp at h
 |(n,b)::r,x,k,h=>by
  have c:=@Df sc r x k;cases hx:x==n with
  |true=>
   grind
  |false=>
   grind
structure j2(N:Uh)(sc scope:eT)(own:TU Str Nat):Prop where
 kind:scope.kind= .function
 uniq:∀y∈scope.names,scope.names.lookup y.1=Qc y.2
 ix:∀p∈own,N[p.2]?=Qc p.1
 free:∀y∈scope.names,y.2=XT->Xy y.1=XQ\/Xy y.1=YZ
 own:∀y∈scope.names,y.2= .local\/y.2= .cell->y.1∈own.map (·.1)\/y.1∉N
def wipe(σ:St):QU->St
 |[]=>σ
 |v::a=>(wipe σ a).set v none
def Dg(σ:St):∀vs,Wa wipe σ vs=Qeg
 |[]=>rfl
 |v::vs=>by unfold wipe;rw[List.length_set,Dg σ vs]
def Dh:∀ {vs:List Nat},(wipe σ vs)[i]?=Qc Qz->σ[i]?=Qc Qz/\i∉vs
 |[],h=>Z2 h
 |v::vs,h=>by
  unfold wipe at h;by_cases hi:v=i
  ·grind
  ·rw[xC hi]at h;obtain⟨a,b⟩:=Dh h;exact Qe a Qm
end
abbrev Cx.a'(X:Cx)(s:bH)(H:Hp)(a:eT)(b:Env)(c:QZ):Cx:={X with jj:=s,oF:=H,env:=b,outer:=X.stack,ex:=c,fn:=λx=>Qav a x==XQ,pn:=[],xe:=Tx}
section
variable{X:Cx}{pins:Tr}{σ:St}{H:Hp}{s:bH}
def acO(I:QI)(ok:j2 X.N Sg f own)(S:X.N.Nodup)(J:∀b∈M,jZ X pins H b/\b<Qt):
  Inv (X.a' s H f (dw f (e7 (Qt+1) ZI (fq Qac ZI [])) Qt Qg) M) [] (wipe σ (own.map (·.2))) H {s with heap:=om (S5 {cls:= YX,data:= Qao}) ZI}:=by
 have T:∀y∈f.names,y.2=XT-> ∃c,QbS y.1=R9:=λy t e=>by
  rcases ok.free y t e with k|k
  ·exact I.ok.has _ (Qq k)
  ·exact I.ok.has _ (Qy k)
 generalize D:dw f (e7 (Qt+1) ZI (fq Qac ZI [])) Qt Qg=d;have kp:RN (Th=Qi->R0 (om (S5 {cls:= YX,data:= Qao}) ZI) b=Qi):=Q4 (x6 _ _ _ _ (bM _ e));have O:d.locals=Qt:=by rw[<-D];rfl
 have x:d.cells=e7 (Qt+1) ZI (fq Qac ZI []):=by rw[<-D];rfl
 have N:d.scope=acL f Sg:=by rw[<-D];rfl
 rw[<-g0 Ql {cls:= YX,data:= Qao}]at x;have E:∀ {y c},(y,c)∈fq Qac ZI []->QbS y=R9/\c<Qt:=λ{y c}h=>by
  rcases y2 h with h|⟨g,rfl⟩
  ·cases h
  ·obtain⟨c,P⟩:=T _ g rfl;rw[P];obtain⟨w,z⟩:=I.cell _ _ P;exact RL z.lt
 have mem:∀ {y c},d.cells.lookup y=R9->(QbS y=R9/\c<Qt)\/(Qt+1<=c/\Kn (om (S5 {cls:= YX,data:= Qao}) ZI) c none):=λ{y c}e=>by
  rw[x]at e;rcases vo (hW e)with h|⟨_,F,h3⟩
  ·exact Qq (E h)
  ·simp_all
 have look:∀ {y},Qav f y=YZ-> ∃c,d.cells.lookup y=R9/\QbS y=R9:=λ{y}hl=>by
  obtain⟨K,j⟩:=mem_lookup (y3 (Dc (hW hl)));rw[<-x]at j;refine Rv K j;rw[x]at j;rcases vo (hW j)with h|⟨g,_,_⟩
  ·exact(E h).1
  ·have:=ok.uniq _ g;rw[hl]at this;cases this
 have U:(X.a' s H f d M).Ok:=by
  refine⟨I.ok.mod,by rw[N];exact ok.kind,by rw[<-D];exact I.ok.glob,by rw[<-D];exact I.ok.blt,Qm,λy z c A u=>by rw[x]at A u;refine De (λp G=>?_) (λy z c a b=>I.ok.inj y z c (E a).1 (E b).1) (hW A) (hW u);rw[g0];exact rE (E G).2,λy t=>?_,λy c z e=>?_,I.ok.hd,I.ok.frames,Qw,λb C=>Qe Qm (λy c e z=>?_),I.bs,bp I.ok.lN I.sz,λb o e C=>?_,λb C z=>?_,I.stack,I.CJ⟩
  ·have key:∀k,d.kindOf y=XY->(k= .cell\/k=XT)-> ∃c,d.cells.lookup y=R9:=λk B Q=>by
    unfold Env.kindOf at B;rw[N]at B;obtain⟨v,e,r⟩:=Df B;have:v= .cell\/v=XT:=by
     grind
    rcases this with rfl|rfl
    ·obtain⟨c,h⟩:=Dd (hW e);obtain⟨K,j⟩:=mem_lookup h;exact Qe K (by rw[x];exact j)
    ·grind
   rcases t with t|t
   ·exact key _ t Qw
   ·exact key _ t WH
  ·have z:=by simpa using z
   have e:=e;rw[x]at e;rcases vo (hW e)with h|⟨_,F,_⟩
   ·rcases y2 h with h|⟨g,_⟩
    ·cases h
    ·have q:=ok.uniq _ g;rw[z]at q;cases q
   ·rw[g0]at F;exact B0 F
  ·rcases mem e with⟨g,_⟩|⟨g,_⟩
   ·exact(J b C).1.2.2.2.2.1 y c g z
   ·grind
  ·rcases(J b C).1.2.2.2.1 with z|z
   ·exact I.ok.vd b o e z
   ·exact XN (d5 (bx e) (bp I.ok.lN z))
  ·rcases RA (I.CI b z)with z|z
   ·exact(J b C).1.2.1 z
   ·exact(J b C).1.2.2.1 z
 refine⟨U,rfl,WR,Un.kept kp,⟨Tb,by rw[O];exact Heap.Ns.keeps (Heap.Ns.new ..) λb o e=>x6 _ _ _ _ e,λi y V A u l=>?_⟩,λy c e=>?_,by rw[O];exact I.a5.fresh (aQ _),λy c e=>?_,λp G=>Qm,I.a5.kept kp,by rw[Dg];exact I.len⟩
 ·obtain⟨u,W⟩:=Dh u;have L:Qav f y=YZ/\(d.kindOf y=XQ\/d.kindOf y=YZ):=by
   have key:∀k,d.scope.names.lookup y=XY->k= .local\/k= .cell\/k=XT->Qav f y=YZ/\(d.kindOf y=XQ\/d.kindOf y=YZ):=λk B Q=>by
    have R:=B;rw[N]at B;obtain⟨v,e,r⟩:=Df B;have no:¬(v= .local\/v= .cell):=λY=>by
     rcases ok.own _ (hW e) Y with j|j
     ·obtain⟨p,G,Z⟩:=RM j;have l:=ok.ix p G;have:=Z;rw[this]at l;exact W (Qeo ⟨p,G,CK S l A⟩)
     ·grind
    rcases r with rfl|⟨rfl,rfl⟩
    ·rcases Q with rfl|rfl|rfl
     ·exact Rk Qw no
     ·exact Rk WH no
     ·exact Qe e (Qy R)
    ·exact Qe e (Qq R)
   have l:=l;rcases l with l|l|l
   ·exact key _ l Qw
   ·grind
   ·grind
  obtain⟨m,hn,hl⟩:=I.loc;obtain⟨w,r,q⟩:=hl i y V A u ((ok.free _ (hW L.1) rfl).elim (λk=>Qay k) (λk=>Qy (Qy k)));refine Qh w r (Qy (Q_ L.2));obtain⟨c,g,F⟩:=look L.1;rcases q with⟨k,_⟩|⟨_,K,j,z⟩
  ·have k:X8 X y=Vj:=k;rcases ok.free _ (hW L.1) rfl with v|v<;>rw[v]at k<;>cases k
  ·rw[F]at j;cases j;exact Qh c g (z.keeps kp)
 ·rcases mem e with⟨g,_⟩|⟨_,z⟩
  ·obtain⟨w,z⟩:=I.cell y c g;exact Qe w (z.keeps kp)
  ·exact Rh z
 ·rcases mem e with⟨g,_⟩|⟨g,_⟩
  ·exact I.iR y c g
  ·exact Ut (B0 g)
def acP(I:QI)(a:H D=RZ xs)(hz:Qu<bq)(r:SD y v)
  (h:∀c,SM (UN D (xs++[y])) c->Q Sf c):aj (aV Qr X.w) X.A (call (VS "list.append") [Xn,v]) Q E s:=by
 obtain⟨l,g,n,d,e⟩:=I.a5 D _ a;have hl:=d.length;refine append_at e (λi j f=>h _ (I.write (by rw[a];trivial) Qw (λb u k q=>Rx j.2 b k q) (Rh f) ⟨Qm,g++[v],n+1,d.append (Zf r),?_⟩));rw[f];simp
def vp(X:Cx)(a:Tc)(t:TT):Prop:=
 ∀pins s(σ:St)H Q,QI->t σ H Q->aj (aV Qr X.w) X.A (forIn a true (λc r=>if r=true then do let ok<-mO c X.env (eval c X.env);pure (pO ok)else pure (pO r))) (TP X pins σ Q) Q3 s
def acQ:TT:=λ_ H Q=>X6 Q H
def Kp:vp X [] acQ:=Qes (TZ wpAny_tests_nil H I h)
def Kq(h:PT X c t):vp X [c] t:=λpins s σ H Q I a=>wpAny_tests_one (h pins s σ H Q I a)
end
def sx{M}{A}{E}{s}(h:aj M A t Q Tx s)(d:∀a s,Q a s->c a s):aj M A t c E s:=ej h d (λ_ _ z=>cP z)
def acR(I:Qej Nat)
  (B:∀n s,I n s->aj QA A (jQ it) (λr i=>match r with
   |none=>R (.ok .next) i
   |some v=>aj QA A (Cb d it v) (λ_ p=>aj QA A (assign d env v) (λ_ q=>aj QA A (forIn g true (λc r=>if r=true then do let ok<-mO c env (eval c env);pure (pO ok)else pure (pO r))) (λok j=>if Qv ok then aj QA A (QaE f) (λx t=>aj QA A (call (VS "list.append") [acc,x]) (λ_ u=> ∃m,m<n/\I m u) (notedBy QA A env (λe a=>R Qb0 a)) t) (notedBy QA A env (λe a=>R Qb0 a)) j
      else∃m,m<n/\I m j) (notedBy QA A env (λe a=>R Qb0 a)) q) (notedBy QA A env (λe a=>R Qb0 a)) p) (notedBy QA A env (λe a=>R Qb0 a)) i) (notedBy QA A env (λe a=>R Qb0 a)) s)
  (n:Nat)(h:I n s):
  lG QA A (.compLoop (X' f [U' d k g] l o) 0 it acc env) R s:=by
 refine codeAny_loop rfl I (λn s C=>?_) n h;refine wpAny_noted ?_;refine ab (yb (ab (ej (B n s C) (λr i y=>?_) QcG)));cases r with
 |none=>exact ah y
 |some v=>
  refine ab (ej y (λ_ p D=>ab (ej D (λ_ q E=>ab (ej E (λok j z=>?_) QcG)) QcG)) QcG);cases ok with
  |false=>exact ah (RL z)
  |true=>
   exact ab (ab (ej z (λx t F=>ab (ej F (λ_ u G=>ah (ah (RL G))) QcG)) QcG))
section
variable{X:Cx}
def y4(n:TI)(g:TG)(tt:TT)(te:TE)(vs:QU):TE:=λc H Q=>n c H (λJ h=> ∀D,h D=none-> ∃W:Nat->Nat->Hp->Prop,(∃m,W 0 m (SG h D []))/\ ∀i m H,W i m H->(J.stop i H/\R3 D H)\/(J.go i H/\ ∃d:Hp->Prop,(∀a,d a-> ∃j,j<m/\W (i+1) j a)/\ ∀x a,J.jl i H x a->g x (wipe c vs) a (λe o=>wipe e vs=wipe c vs/\tt e o (λb k=>if b=true then te e k λy l=>∃f,l D=some (.lst f)/\f.length<bq/\d (upd l D (.lst (f++[y])))else d k))))
def Kr{σ:St}
  (hc:RD)(hN:X.N.Nodup)(I:QI)(hi:PI X tg E wi)(ok:j2 X.N Sg a own)
  (hg:∀s H C cl d,PG (X.a' s H a (dw a cl C Qg) d) tg g)(ht:∀s H C cl d,vp (X.a' s H a (dw a cl C Qg) d) M tt)
  (he:∀s H C cl d,PE (X.a' s H a (dw a cl C Qg) d) L te)(hs:∀x,eB E Qg x=Ul)
  (h:y4 wi g tt te (own.map (·.2)) σ H Q)
  (hRR:∀D C l m H',SM H' l->R3 D H'->l.heap.Ns C m->jZ X pins H' C->compPost (aV Qr X.w) X.A Q3 use Qf Xn C (.ok .next) l):
  aj (aV Qr X.w) X.A (comprehension (X' L [U' tg E M] a Y) a Qg pos' (newList []) Qb (Ws E) use) Qf Q3 s:=by
 have hfree:∀y∈a.names,y.2=XT-> ∃c,QbS y.1=R9:=λy Z e=>by
  rcases ok.free y Z e with k|k
  ·exact I.ok.has _ (Qq k)
  ·exact I.ok.has _ (Qy k)
 refine wpAny_comprehension_free rfl hs (acM hfree) ok.kind (λy Z e=>by rw[ok.uniq y Z,e]) (aR (hi pins s σ H _ I h) (λxv s1 hx=>aR hx (λitv s2 h2=>?_)))
 obtain⟨it,d,N,J,A,e,I2,T,st2,f2,q⟩:=h2;subst e;refine jM (acN ?_) (by show 0<=bq;decide);generalize hD:s2.heap.objs.size=D;obtain⟨W,⟨m0,w0⟩,turn⟩:=q D (I2.a5.fresh (rG hD));generalize hs3:{s2 with heap:=s2.heap.push {cls:= SW,data:= .seq (U4 [])}}=s3;have O:SM (SG A D []) s3:=by
  rw[<-hs3];refine I2.laid (Q4 (bM _ e)) (rG hD) ⟨cG _,[],0,.nil,?_⟩;rw[<-hD];exact cH _ rfl
 have h3:s3.heap=s2.heap.push {cls:= SW,data:= .seq (U4 [])}:=by rw[<-hs3]
 have sz:∀b∈d,b<QdI:=λb f=>by
  obtain⟨o,e,_⟩:=T.obj _ _ st2 b f;exact bx e
 have f3:∀b∈d,jZ X pins (SG A D []) b/\b<WD:=λb f=>by
  refine Qe (Qe ?_ (f2 b f).2) (by rw[h3,g0];exact rE (sz b f));rw[ax Qm];exact(f2 b f).1
 have st3:N 0 s3.heap:=T.keep _ _ _ st2 (λb _ o e=>by rw[h3];exact bM _ e)
 have P:=acO O ok hN f3;have pg:=hg s3 (SG A D []) WD (e7 (WD+1) WM (fq Qac WM [])) d;have pt:=ht s3 (SG A D []) WD (e7 (WD+1) WM (fq Qac WM [])) d;have pe:=he s3 (SG A D []) WD (e7 (WD+1) WM (fq Qac WM [])) d;show lG _ _ (.compStart (X' L [U' tg E M] a Y) 0 WI Xn (dw a (e7 (WD+1) WM (fq Qac WM [])) WD Qg)) (compPost (aV Qr X.w) X.A Q3 use Qf Xn WD) {s3 with heap:=om (s3.heap.push {cls:= YX,data:= Qao}) WM}
 have nfp:=λb f=>(f3 b f).1.1;generalize hce:dw a (e7 (WD+1) WM (fq Qac WM [])) WD Qg=t at P pg pt pe⊢;have cL:t.locals=WD:=by subst hce;rfl
 generalize hH3:SG A D []=w at O P pg pt pe w0 nfp f3;generalize hs4:{s3 with heap:=om (s3.heap.push {cls:= YX,data:= Qao}) WM}=s4 at P⊢;have st4:N 0 s4.heap:=T.keep _ _ _ st3 (λb _ o e=>by rw[<-hs4];exact x6 _ _ _ _ (bM _ e))
 have stat:∀ {σ':St}{H':Hp}{l:bH},Inv (X.a' s3 w a t d) [] σ' H' l->(∀b∈d,H' b=none)-> ∀b∈d,jZ (X.a' s3 w a t d) [] H' b:=λ{σ' H' l}F G b f=>⟨G b f,(F.ok.yL b f).1,F.ok.ve b f,Qq f,λx c e=>(F.ok.yL b f).2 x c e,λp hp=>Zj hp⟩
 have loop:lG (aV Qr X.w) X.A (.compLoop (X' L [U' tg E M] a Y) 0 WI Xn t) (compPost (aV Qr X.w) X.A Q3 use Qf Xn WD) s4:=by
  refine acR (λn l=>∃i H',Inv (X.a' s3 w a t d) [] (wipe σ (own.map (·.2))) H' l/\N i l.heap/\(∀b∈d,H' b=none)/\W i n H') ?_ m0 ⟨0,w,P,st4,nfp,w0⟩;rintro n s5⟨i,B,R,st5,n5,w5⟩;rcases turn i n B w5 with⟨stop,qq⟩|⟨go,Nx,hNx,step⟩
  ·refine sx (T.done (X.a' s3 w a t d) rfl rfl rfl hc i [] s5 _ B Tx R (stat R n5) st5 stop) (λr S⟨hr,K⟩=>?_);subst hr;have nC:=by
    have z:=K.free;rw[cL]at z;exact z
   obtain⟨m,G,_⟩:=K.loc;rw[cL]at G;exact hRR D WD S m B (O.abi K.os K.base K.a5 K.bare (λb f=>⟨(f3 b f).1.2.2.2.1,(f3 b f).1.2.1,(f3 b f).1.2.2.2.2.1,(f3 b f).1.2.2.2.2.2⟩)) qq G (O.oK (aQ _) nC)
  ·refine sx (T.item (X.a' s3 w a t d) rfl rfl rfl hc i [] s5 _ B Tx R (stat R n5) st5 go) (λr S⟨u,hr,h6⟩=>?_);subst hr;refine sx h6 (λ_ s7⟨x,H7,U,r7,y7,st7,n7⟩=>?_);refine sx (pg _ s7 _ H7 x u _ (U.pinned (stat U n7) (T.obj _ _ st7)) r7 (step x H7 y7)) (λ_ s8⟨V,H8,I8,hw8,q8⟩=>sx (pt _ s8 V H8 _ I8 q8) (λb s9⟨H9,I9,q9⟩=>?_));have fin:∀ {l:bH}{H':Hp},Inv (X.a' s3 w a t d) ([]++yU d s7.heap) V H' l->Nx H'->∃m,m<n/\∃i H',Inv (X.a' s3 w a t d) [] (wipe σ (own.map (·.2))) H' l/\N i l.heap/\(∀b∈d,H' b=none)/\W i m H':=λ{l H'}F nx=>by
    obtain⟨m',hm,w'⟩:=hNx H' nx;have pin':∀b∈d,∀o,s7.heap.get? b=Qi->Qar l b=Qi/\H' b=none:=λb f o e=>let z:=F.pin (b,o) (jI _ (jI _ (CQ f e)))
     Qe z.1 z.2.1
    exact⟨m',hm,i+1,H',F.yV.weak (by rw[<-hw8,Dg]) (λj v e=>by rw[<-hw8]at e;exact(Dh e).1),T.keep _ _ _ st7 (λb f o e=>(pin' b f o e).1),λb f=>by obtain⟨o,e,_⟩:=T.obj _ _ st7 b f;exact(pin' b f o e).2,w'⟩
   cases b with
   |false=>
    grind
   |true=>
    exact sx (pe _ s9 V H9 _ I9 q9) (λz s10⟨yv,H10,I10,r10,acc,hD10,hz10,nx⟩=>acP (X:=X.a' s3 w a t d) I10 hD10 hz10 r10 (λs11 I11=>fin I11 nx))
 exact codeAny_compStart_list loop (T.self X.A 0 _ _ _ st4 loop)
def y6(n:RD)(p:X.N.Nodup)(hi:PI X tg d k)(ok:j2 X.N Sg a own)
  (hg:∀s H C cl c,PG (X.a' s H a (dw a cl C Qg) c) tg g)(ht:∀s H C cl c,vp (X.a' s H a (dw a cl C Qg) c) j tt)
  (r:∀s H C cl c,PE (X.a' s H a (dw a cl C Qg) c) i te)(hs:∀x,eB d Qg x=Ul:=by intro _;rfl):
  PE X (X' i [U' tg d j] a l) (y4 k g tt te (own.map (·.2))):=by
 intro E s F H Q I h;refine Kr n p I hi ok hg ht r hs h (λD C t m u v q w f=>Qh m w (λG y=>?_));obtain⟨f0,f1,f2,f3,z,A⟩:=f;exact Rl Xn u (v.turned (λb o B e=>Rx y.2 b B e) f0 f1 f3 z A) q
def acS(B:RD)(w:X.N.Nodup)(E:UC=V7)(z:X8 X y=Vj)
  (F:eZ (X' n [U' tg d j] c p) (Qc (Wx y l)) u.line Qg=Sy true)(hi:PI X tg d r)(ok:j2 X.N Sg c own)
  (hg:∀s H C cl k,PG (X.a' s H c (dw c cl C Qg) k) tg g)(ht:∀s H C cl k,vp (X.a' s H c (dw c cl C Qg) k) j tt)
  (G:∀s H C cl k,PE (X.a' s H c (dw c cl C Qg) k) n te)(hs:∀x,eB d Qg x=Ul:=by intro _;rfl):
  PS X (Qbm [Wx y l] (X' n [U' tg d j] c p) u) (Jx (y4 r g tt te (own.map (·.2))) (fo i)):=by
 intro J s A H D I h;rw[exec_Assign_Name_used _ _ _ _ F];refine ab (yb (ab ?_));refine ab (aR (Kr B w I hi ok hg ht G hs h (λL C t m M N q O f=>?_)) (λ_ t P=>ah (ah P)));refine wpAny_assign_Name (Jn (v:=Sa L) N w E (Qq z) rfl (λs2 Q⟨a,R,Z⟩=>?_) (Qy z));obtain⟨f0,f1,f2,f3,S,T⟩:=f;have U:C≠a:=by
  grind
 exact⟨m,O.sameBut R U,λh3 W=>⟨_,M,Q.turned (λb o Y e=>Rx W.2 b Y e) f0 f1 f3 S T,q⟩⟩
def Di{K}{g:TG}{tt:TT}{te:TE}{Qd:Qgr}(c:TJ Nat)(h0:c 0 (SG l D []))(hl:∀i H,i<=Qu->c i H->bF K H a xs)
  (hs:∀i x H,xs[i]?=Qz->c i H->g x (wipe σ vs) H (λd j=>wipe d vs=wipe σ vs/\tt d j (λb f=>if b=true then te d f λy h=>∃acc,h D=some (.lst acc)/\acc.length<bq/\c (i+1) (upd h D (.lst (acc++[y])))else c (i+1) f)))(hd:∀H,c Qu H->Qd H):
  ∃W:Nat->Nat->Hp->Prop,(∃m,W 0 m (SG l D []))/\ ∀i m H,W i m H->((oM K a).stop i H/\Qd H)\/((oM K a).go i H/\ ∃k:Hp->Prop,(∀H',k H'-> ∃n,n<m/\W (i+1) n H')/\ ∀x H',(oM K a).jl i H x H'->g x (wipe σ vs) H' (λd j=>wipe d vs=wipe σ vs/\tt d j (λb f=>if b=true then te d f λy h=>∃acc,h D=some (.lst acc)/\acc.length<bq/\k (upd h D (.lst (acc++[y])))else k f))):=by
 refine Rv (λi m H=>m=Qu-i/\i<=Qu/\c i H) ⟨Qu,Qj,cG _,h0⟩;rintro i m H⟨rfl,hi,p⟩;have q:=hl i H hi p;by_cases o:i<Qu
 ·refine Qy ⟨⟨xs,xs[i],q,QaQ⟩,c (i+1),λH' r=>RF (Qu-(i+1)) Qa o r,λx H' y=>?_⟩;obtain⟨e,y⟩:=y;subst e;exact hs i x _ (y xs q) p
 ·have e:i=Qu:=by omega
  subst e;exact Qq ⟨Qh xs q (aQ _),hd H p⟩
def Kt(N:Uh)(sc a:eT)(own:TU Str Nat):Bool:=
 (match a.kind with| .function=>true|_=>false)&&(a.names.all (λy=>QV (Qav a y.1=Qc y.2)))&&(own.all (λp=>QV (N[p.2]?=Qc p.1)))&&
  (a.names.all (λy=>match y.2 with
   | .free=>(match sc.names.lookup y.1 with|some .cell=>true|some .free=>true|_=>false)
   | .local=>decide (y.1∈own.map (·.1))||decide (y.1∉N)
   | .cell=>decide (y.1∈own.map (·.1))||decide (y.1∉N)
   |_=>true))
def fc(h:Qv (Kt N sc a own)):j2 N sc a own:=by
 unfold Kt at h;simp only[bX,hV,decide_eq_true_eq]at h;obtain⟨⟨⟨f,b⟩,c⟩,g⟩:=h;exact⟨Qm,b,c,λy d e=>Qm,λy d e=>Qm⟩
end
section
variable{κ:Type}[Qbl κ]
def cO(kvs:UI κ)(k:κ):ZS:=Q9 kvs.find? (λa=>Ro a.1 k) (·.2)
def putK(kvs:UI κ)(k:κ)(v:V):UI κ:=
 if Qv (kvs.any (λa=>Ro a.1 k)) then kvs.map (λa=>if a.1=k then(a.1,v)else a)else kvs++[(k,v)]
def k3(kvs:UI κ)(k:κ):UI κ:=kvs.filter (λa=>QV (a.1≠k))
def nc{k:κ}(e:p.1=k):cO (p::r) k=Qc p.2:=by simp[cO,e]
def nf{k:κ}(e:¬p.1=k):cO (p::r) k=cO r k:=by simp[cO,e]
def sy(k:κ):∀kvs,(kvs.any (λa=>Ro a.1 k))=(cO kvs k).isSome
 |[]=>rfl
 |p::r=>by
  rw[rB];by_cases e:p.1=k
  ·simp [nc e,Ze e]
  ·rw[nf e,TK e,Bool.false_or];exact sy k r
def y8(kvs:R_)(k:κ)(v:V):QP (putK kvs k v) (Ta+1):=by
 unfold putK;split
 ·rw[ak];omega
 ·simp
def lV{k:κ}(v:V)(h:cO kvs k=none):putK kvs k v=kvs++[(k,v)]:=by
 unfold putK;rw[sy,h];exact Xm
def g7.vq(r:g7 o u):o.isSome=u.isSome:=by
 cases o with
 |none=>cases u with
  |none=>rfl
  |some _=>exact r.elim
 |some _=>cases u with
  |none=>exact r.elim
  |some _=>rfl
def KV.val(r:KV kvs vs)(k:κ):g7 (cO kvs k) (valueAt vs k):=by
 induction r with
 |nil=>exact qe
 | @cons p q i a h t f=>
  obtain⟨d,g⟩:=h;by_cases e:p.1=k
  ·have b:valueAt (q::a) k=Qc q.2:=by simp[valueAt,(d.symm.trans e)]
   rw[nc e,b];exact g
  ·have c:¬q.1=k:=λz=>e (QH d z);have b:valueAt (q::a) k=valueAt a k:=by simp[valueAt,c]
   rw[nf e,b];exact f
def KV.any(r:KV kvs vs)(k:κ):(kvs.any (λa=>Ro a.1 k))=vs.any (λa=>Ro a.1 k):=by
 induction r with
 |nil=>rfl
 |cons h t b=>grind
def KV.Dj(r:KV kvs vs)(k:κ)(c:W4):
  KV (kvs.map (λa=>if a.1=k then(a.1,y)else a)) (vs.map (λa=>if a.1=k then(a.1,u)else a)):=by
 induction r with
 |nil=>exact .nil
 | @cons p q d f h t b=>
  refine Rc ?_ b;obtain⟨g,i⟩:=h;by_cases e:p.1=k
  ·grind
  ·grind
def KV.put(r:KV kvs vs)(k:κ)(a:W4):KV (putK kvs k y) (stored vs k u):=by
 unfold putK stored;rw[r.any k];by_cases e:Qv (vs.any (λb=>Ro b.1 k))
 ·rw[Qp e,Qp e];exact r.Dj k a
 ·rw[(W5),(W5)];exact jT r (RL a)
def KV.length{vs:TU κ aJ}(r:KV kvs vs):Ta=V1:=bQ r
def acT(kvs:R_)(k:κ):Tj k3 kvs k Ta:=eX _ _
def vr(r:Y4 (kV k)):Rm (lL P w).is k u:=by
 cases k with
 |inl i=>obtain⟨t,e⟩:=(r);subst e;exact abb P w i t
 |inr x=>obtain⟨t,e⟩:=(r);subst e;exact abc P w x t
abbrev KT(H:Hp):UI NT.Nk->Q5 (TU NT.Nk (Addr×aJ)):=dj (λp q=>p.1=q.1/\bV H p.1 q.2.1/\SD p.2 q.2.2)
def KT.val(r:KT H kvs xs)(k:NT.Nk):g7 (cO kvs k) ((atKey xs k).map (·.2)):=by
 induction r with
 |nil=>exact qe
 | @cons p q i a h t f=>
  obtain⟨d,_,g⟩:=h;by_cases e:p.1=k
  ·have b:atKey (q::a) k=Qc q.2:=by simp[atKey,(d.symm.trans e)]
   rw[nc e,b];exact g
  ·have c:¬q.1=k:=λz=>e (QH d z);have b:atKey (q::a) k=atKey a k:=by simp[atKey,c]
   rw[nf e,b];exact f
def KT.Dj(r:KT H kvs xs)(k:NT.Nk)(c:W4):
  KT H (kvs.map (λa=>if a.1=k then(a.1,y)else a)) (Ti (putAt k u)):=by
 induction r with
 |nil=>exact .nil
 | @cons p q d f h t b=>
  refine Rc ?_ b;obtain⟨g,i,j⟩:=h;unfold putAt;by_cases e:p.1=k
  ·grind
  ·grind
def KT.put(r:KT H kvs xs)(k:NT.Nk)(c:bV H k b)(a:W4):
  KT H (putK kvs k y) (storedH xs k b u):=by
 have e:(kvs.any (λd=>Ro d.1 k))=(atKey xs k).isSome:=by
  rw[sy,(r.val k).vq,B7]
 unfold putK storedH;rw[e];by_cases q:YD (atKey xs k)
 ·rw[Qp q,Qp q];exact r.Dj k a
 ·rw[Qs q,Qs q];exact jT r (Qba c a)
def KT.keeps(r:KT H kvs xs)(ht:∀b ys,H b=UU ys->H' b=UU ys):KT H' kvs xs:=
 Paired.yI r (λ_ _ z=>Qh z.1 (z.2.1.keep ht) z.2.2)
end
section
variable{P:aO}{w:aA}{H:Hp}{h:Heap}{a:Addr}
def Ku(ok:cj P w H h)(e:Rd H a u):d6 P w H h a u:=e.ok ok
def sA(ok:cj P w H h)(e:Rd H a (.dK kvs)):Ta<=bq/\(a==eS)=Qb/\ ∃vs,KV kvs vs/\h.DictOf (lL P w) a vs:=
 Ku ok e
def Kv(ok:cj P w H h)(e:H a=QaF kvs):Ta<=bq/\(a==eS)=Qb/\ ∃vs,KV kvs vs/\h.DictOf (lL P w) a vs:=sA ok (Qq e)
def sC(ok:cj P w H h)(e:H a=TQ):∃o b n,SJ=Qi/\V8=UQ/\Si= .seq b n/\RX xs Xo:=by
 obtain⟨_,b,r,o,c,d,n,f⟩:=(ok a _ e);exact⟨o,Qa2,n,c,d,f,by simpa using r⟩
def Dk(ok:cj P w H h):∀k,(∀v u,(eU H k).1 v->U0->(Yh h k).1 u)/\ ∀l us,(eU H k).2 l->UJ l->(Yh h k).2 us
 | .i n=>⟨λv u e r=>(by
   subst e;exact r),λ_ _ e _=>cP e⟩
 | .nil=>by
  refine⟨λv u e r=>by obtain⟨b,rfl,d⟩:=e;cases(r);obtain⟨o,c,n,f,g,j,hv⟩:=sC ok d;refine NT.m6.2 ⟨b,o,c,n,rfl,f,g,j,?_⟩;generalize c.toList=z at hv⊢;cases hv;rfl,λl us e r=>by subst e;cases r;rfl⟩
 | .cons a r=>by
  have t:=Dk ok a;have y:=Dk ok r;refine⟨λv u e q=>?_,λl us e q=>?_⟩
  ·obtain⟨b,x,A,rfl,d,m,p⟩:=e;cases(q);obtain⟨o,c,n,f,g,j,hv⟩:=sC ok d;refine NT.iQ.2 ⟨b,o,c,n,rfl,f,g,j,?_⟩;generalize c.toList=z at hv⊢;cases hv with
   |cons q1 s=>exact Uu (t.1 _ _ m q1) (y.2 _ _ p s)
  ·obtain⟨x,A,rfl,m,p⟩:=e;cases q with
   |cons q1 s=>exact Uu (t.1 _ _ m q1) (y.2 _ _ p s)
def g9(ok:cj P w H h)(e:bV H k a):(NT.oC P w).is h k a:=Qe e.1 ((Dk ok k).1 _ _ e.2 rfl)
def oQ(ok:cj P w H h)(e:Rd H a (.dT kvs)):Ta<=bq/\(a==eS)=Qb/\ ∃xs,KT H kvs xs/\h.DictOfH (NT.oC P w) a xs:=by
 obtain⟨z,y,xs,r,o,c,d,f,g,i,j,k⟩:=(Ku ok e);refine⟨z,y,xs,r,o,c,d,f,g,i,j,Sv ?_,k⟩;have all:∀ {l:List _}{m:List _},KT H l m-> ∀x∈m,(NT.oC P w).is h x.1 x.2.1:=by
  intro l m q;induction q with
  |nil=>simp
  | @cons p q s u b t n=>
   intro x hx;rcases RA hx with e|hx
   ·subst e;exact g9 ok (by rw[<-b.1];exact b.2.1)
   ·exact n x hx
 exact all r x hx
def Dl(ok:cj P w H h)(e:H a=Qa5):Ta<=bq/\(a==eS)=Qb/\ ∃xs,KT H kvs xs/\h.DictOfH (NT.oC P w) a xs:=oQ ok (Qq e)
end
def gC(H:Hp)(a:Addr)(y:V)(r:ZS):Prop:=
 (∃c k,Rd H a (.dK c)/\y=kV k/\r=cO c k)\/ ∃c k b,Rd H a (.dT c)/\y=SI/\bV H k b/\r=cO c k
def oR(H:Hp)(a:Addr)(y v:V)(H':Hp):Prop:=
 (∃c k,H a=QaF c/\y=kV k/\Qn c<bq/\H'=upd H a (.dK (putK c k v)))\/ ∃c k b,H a=ZN c/\y=SI/\bV H k b/\Qn c<bq/\H'=upd H a (.dT (putK c k v))
def gC.k{k}(e:H a=QaF kvs):gC H a (kV k) (cO kvs k):= Qq (Rl kvs k (Qq e) rfl)
def gC.t{k}(e:H a=Qa5)(c:bV H k b):gC H a SI (cO kvs k):= Qy ⟨kvs,k,b,Qq e,rfl,c,rfl⟩
def oR.t(e:H a=Qa5)(c:bV H k b)(hl:Ta<bq):
  oR H a SI v (upd H a (.dT (putK kvs k v))):= Qy ⟨kvs,k,b,e,rfl,c,hl,rfl⟩
section
variable{X:Cx}{pins:Tr}{σ:St}{H:Hp}{s:bH}{a:Addr}{y v:V}{u r:aJ}{o:ZS}{A:di}{E:SR}
def Inv.big(I:QI):eS<Qt:=by
 exact xQ QD (I.mod.glob.keeps I.bk).lt
def acU(q:RS+5<bf)(I:QI)(g:gC H a y Rg)(m:W4)(h:∀c n,YV n->SD v c->Q c n):
  aj (aV Qr X.w) A (getItem QS u) Q E s:=by
 rcases g with⟨r,k,e,d,l⟩|⟨r,k,b,e,d,t,l⟩
 ·subst d;obtain⟨z,hd,w,rel,f⟩:=sA Rb e;obtain⟨c,i,j⟩:=g7.some_of (by rw[l];exact rel.val k);exact wpAny_getItem_of (vr m) f.mapOf i (h c _ (I.tok _) j)
 ·subst d;cases(m);obtain⟨z,hd,x,rel,f⟩:=oQ Rb e;obtain⟨c,i,j⟩:=g7.some_of (by rw[l];exact rel.val k);obtain⟨p,B,C⟩:=mK.mp i;refine wpAny_getItem_heap (NT.r_ q) (g9 Rb t) f B ?_;rw[C];exact h c _ (I.tok _) j
def acV(j:RS+5<bf)(I:QI)(g:gC H a y o)(f:W4)(h:∀i,YV i->Q (.bool o.isSome) i):
  aj (aV Qr X.w) A (eY .In u QS) Q E s:=by
 rcases g with⟨m,k,e,c,l⟩|⟨m,k,b,e,c,n,l⟩
 ·subst c;obtain⟨z,hd,p,rel,d⟩:=sA Rb e;refine wpAny_in_of (vr f) hd d.mapOf ?_;rw[<-(rel.val k).vq,<-l];exact h _ (I.tok _)
 ·subst c;cases(f);obtain⟨z,hd,r,rel,d⟩:=oQ Rb e;refine wpAny_in_heap (NT.r_ j) (g9 Rb n) hd d ?_;have q:=(rel.val k).vq;rw[B7]at q;rw[<-q,<-l];exact h _ (I.tok _)
def acW(j:RS+5<bf)(I:QI)(g:gC H a y o)(f:W4)(h:∀i,YV i->Q (.bool (!o.isSome)) i):
  aj (aV Qr X.w) A (eY .NotIn u QS) Q E s:=by
 rcases g with⟨m,k,e,c,l⟩|⟨m,k,b,e,c,n,l⟩
 ·subst c;obtain⟨z,hd,p,rel,d⟩:=sA Rb e;refine wpAny_notIn_of (vr f) hd d.mapOf ?_;rw[<-(rel.val k).vq,<-l];exact h _ (I.tok _)
 ·subst c;cases(f);obtain⟨z,hd,r,rel,d⟩:=oQ Rb e;refine wpAny_notIn_heap (NT.r_ j) (g9 Rb n) hd d ?_;have q:=(rel.val k).vq;rw[B7]at q;rw[<-q,<-l];exact h _ (I.tok _)
def vt(I:QI)(c:oD (H a))(hs:dN a Ql h')(d:∃q,V5 a=U1)(new:d6 Qr X.w (upd H a ob) h' a ob):
  SM (upd H a ob) QbC:=
 I.write c Qw (λb q f z=>Rx hs.2 b f z) d new
def Kw(z:Ta<=bq)(hd:(a==eS)=Qb)(rel:KV kvs vs)(b:h'.DictOf (lL P w) a vs):
  d6 P w H' h' a (.dK kvs):=⟨z,hd,vs,rel,b⟩
def acX(C:RS+5<bf)(I:QI)(g:oR H a y v H')(p:W4)(rv:SD v r)(h:∀t,SM H' t->Q () t):
  aj (aV Qr X.w) A (setItem QS u r) Q E s:=by
 rcases g with⟨d,k,e,j,l,m⟩|⟨d,k,b,e,j,w,l,m⟩
 ·subst j m;obtain⟨z,hd,D,rel,n⟩:=Kv Rb e;have o:QP D bq:=by rw[<-rel.length];exact z
  refine wpAny_setItem_pairs (vr p) n (λx f hs=>h _ ?_);exact vt I Qcy hs (let⟨q,_,_,i,_⟩:=f;⟨q,i⟩) (Kw (by have:=y8 d k v;omega) hd (rel.put k rv) f)
 ·subst j m;cases(p);obtain⟨z,hd,G,rel,n⟩:=Dl Rb e;have o:G.length<=bq:=by rw[<-bQ rel];exact z
  refine wpAny_setItem_heap (NT.r_ C) (g9 Rb w) n (λx f hs=>h _ ?_);obtain⟨q,J,K,i,L,M,N,_,O⟩:=f;refine vt I Qcy hs (Qe q i) ⟨by have:=y8 d k v;omega,hd,_,(rel.put k w rv).keeps (λc P B=>?_),q,J,K,i,L,M,N,O⟩;rw[ax (CG B e Qfb)];exact B
end
def nh(i:Expr):Prop:= ∀a b,yf i Qb a b=operate [a,b] (getItem a b)
def acY{T id}
  (hl:uP Yp "__getitem__"=Sy (YA id))(hs:nh a)
  (h:aj QA A (QaE c) (λo f=>aj QA A (QaE a) (λi b=>b.TypeIs o T/\aj QA A (getItem o i) Q E b) E f) E s):
  aj QA A (QaE (Zd c a k)) Q E s:=by
 refine Subscript_ (ej h (λo f l=>ej l (λi b d=>?_) QcF) QcF);obtain⟨g,d⟩:=d;refine ab ?_;refine ab (mN g hl ?_);have e:aj QA A (yf a Qb o i) (λr j=>aj QA A (letTemporaryGo c o r>>=λ_=>pure r) Q E j) E b:=by
  rw[hs o i];exact wpAny_operating (ej d (λr j m=>ab (wpAny_letTemporaryGo (ah m))) QcF)
 exact ah (ab e)
def acZ{σ:St}(I:QI)(g:gC H a y o):s.TypeIs QS "dict":=by
 rcases g with⟨d,k,e,_,_⟩|⟨d,k,b,e,_,_,_⟩
 ·obtain⟨_,_,f,_,c⟩:=sA Rb e;exact c.typeIs
 ·obtain⟨_,_,h,_,c⟩:=oQ Rb e;exact c.typeIs
def ac0(d ty:TE):TE:=YN (d b H (λx e=>ty b e (λy c=> ∃a v,x=QS/\gC c a y Rg/\Q v c)))
def ac1(ty d:TE):TE:=YN (ty b H (λy e=>d b e (λx c=> ∃a o,x=QS/\gC c a y o/\Q (.bl o.isSome) c)))
def ac2(ty d:TE):TE:=YN (ty b H (λy e=>d b e (λx c=> ∃a o,x=QS/\gC c a y o/\Q (.bl (!o.isSome)) c)))
def ac3(d ty e:TE):TS:=λD b H=>e b H (λv f=>d b f (λx g=>ty b g (λy h=> ∃a c,x=QS/\oR h a y v c/\D.nx b c)))
section
variable{X:Cx}{o i e value:Expr}{pos pos' tpos:Pos}{td ty tv:TE}
def qv(e:RY+5<bf)(f:PE X o td)(hi:PE X i ty)(hs:nh i):PE X (Vx o i) (ac0 td ty):=by
 refine Qcc (acY PySem.F.slot_dict_getitem.lookup hs (aR (f b s c H _ I h) (λu s1⟨x,j,k,l,q1⟩=>aR (hi b s1 c j _ k q1) (λt s2⟨y,m,d,n,a,v,ex,g,p⟩=>?_))));subst ex;obtain rfl:u=bD a:=l;exact⟨acZ d g,acU e d g n (λw s3 q r=>⟨v,m,q,r,p⟩)⟩
def ac4(d:RY+5<bf)(hi:PE X i ty)(e:PE X o td):PC X .In i o (ac1 ty td):=by
 refine Qcc (aR (hi b s c H _ I h) (λt s1⟨y,f,j,k,q1⟩=>aR (e b s1 c f _ j q1) (λu s2⟨x,l,m,n,a,p,ex,g,q⟩=>?_)));subst ex;obtain rfl:u=bD a:=n;exact acV d m g k (λs3 r=>Rl (.bl _) l r q)
def ac5(d:RY+5<bf)(hi:PE X i ty)(e:PE X o td):PC X .NotIn i o (ac2 ty td):=by
 refine Qcc (aR (hi b s c H _ I h) (λt s1⟨y,f,j,k,q1⟩=>aR (e b s1 c f _ j q1) (λu s2⟨x,l,m,n,a,p,ex,g,q⟩=>?_)));subst ex;obtain rfl:u=bD a:=n;exact acW d m g k (λs3 r=>Rl (.bl _) l r q)
def Dm(d:RY+5<bf)(e:PE X o td)(hi:PE X i ty)(hv:PE X value tv)(hs:eZ value (Qc (Zd o i pos')) VL Qg=UH):
  PS X (Z4 [Zd o i pos'] value) (ac3 td ty tv):=by
 refine λc s b H D I h=>wpAny_Assign_Subscript (aR (hv c s b H _ I h) (λr s1⟨v,f,j,k,q1⟩=>aR (e c s1 b f _ j q1) (λu s2⟨x,l,m,n,p⟩=>aR (hi c s2 b l _ m p) (λB s3⟨y,C,q,t,a,w,ex,g,z⟩=>?_)))) hs;subst ex;obtain rfl:u=bD a:=n;exact acX d q g t k (λE A=>⟨b,w,A,z⟩)
def ac6(h:Heap)(a:eS<Uk):d6 P w H (h.push {cls:= YX,data:= Qao}) Uk (.dK []):=
 ⟨cG _,beq_eq_false_iff_ne.mpr (fP (b9 a)),[],.nil,Heap.DictOf.new h⟩
def ac7(h:Heap)(a:eS<Uk):d6 P w H (h.push {cls:= YX,data:= Qao}) Uk (.dT []):=
 ⟨cG _,beq_eq_false_iff_ne.mpr (fP (b9 a)),[],.nil,_,#[],0,cH _ rfl,QaV,rfl,rfl,jf⟩
def lW:TE:=λ_ H Q=> ∀p,H p=none->R3 p (upd H p (.dT []))
end
section
variable{X:Cx}{pos:Pos}
def vu:PE X (.Dict [] [] pos) lW:=Qcc (wpAny_Dict_empty ⟨WQ,_,I.laid (λ_ _ q=>bM _ q) (aQ _) (ac7 _ I.big),rfl,h _ (Ut (aQ _))⟩)
def Dn:TU TE TE->St->Hp->Q5 (UI V->Qgr)
 |[],_,H,Q=>Q [] H
 |(b,c)::r,a,H,Q=>b a H (λx d=>c a d (λy e=>Dn r a e (λf g=>Q ((x,y)::f) g)))
abbrev VV:UI V->Q5 (TU aJ aJ):=dj (λp q=>SD p.1 q.1/\SD p.2 q.2)
end
def vv(X:Cx)(e:Pos)(keys:QR (Ri Expr))(f:Tc)(g:TU TE TE):Prop:=
 Qgm (Inv X b a H s->Dn g a H Q->aj (aV Qr X.w) X.A (evalPairs (pairTrees keys f Qg e)) (λh i=> ∃c d,Inv X b a d i/\VV c h/\Q c d) Q3 s)
def ac8:vv X a [] [] []:=Qcc (pairTrees_nil_walk ⟨[],H,I,.nil,h⟩)
def Dq(f:PE X k tk)(hv:PE X v d)(g:vv X c ks vs e):
  vv X c (XY::ks) (v::vs) ((tk,d)::e):=Qcd (pairTrees_cons_walk (aR (f a s b H _ I h) (λu s1⟨x,i,j,l,q1⟩=>aR (hv a s1 b i _ j q1) (λz s2⟨y,m,n,o,p⟩=>aR (g a s2 b m _ n p) (λA s3⟨q,r,t,rel,w⟩=>⟨(x,y)::q,r,t,Rc (Qe l o) rel,w⟩)))))
def vw(kvs more:UI Key):UI Key:=more.foldl (λb a=>putK b a.1 a.2) kvs
def KV.merge:∀ {more:List _}{rs:List _}{kvs:List _}{vs:List _},KV more rs->KV kvs vs->KV (vw kvs more) (merged vs rs):=by
 intro more rs kvs vs r;induction r generalizing kvs vs with
 |nil=>exact λq=>q
 | @cons p q c d h t a=>
  intro b;have e:KV (putK kvs p.1 p.2) (stored vs q.1 q.2):=by
   have:=b.put p.1 h.2;rw[<-h.1];exact this
  exact a e
def Kx:∀more kvs,Tj vw kvs more (Ta+more.length)
 |[],kvs=>by show Ta<=Ta+0;omega
 |p::r,kvs=>by
  have a:=Kx r (putK kvs p.1 p.2);have b:=y8 kvs p.1 p.2;show Tj vw (putK kvs p.1 p.2) r _;rw[dh];omega
def Ky:∀ {kvs:List _}{d:List _},VV (kvs.map (λe=>(kV e.1,e.2))) d-> ∃rs,Carries (lL P w) d rs/\KV kvs rs
 |[],_,r=>by cases r;exact Qh [] qe .nil
 |p::kvs,_,r=>by
  cases r with
  | @cons a b g bs h t=>
   obtain⟨rs,c,q⟩:=Ky t;obtain⟨i,f⟩:=b;exact⟨(p.1,f)::rs,Ss (vr h.1) c,Rc (RL h.2) q⟩
def y9(d:TU TE TE):TE:=λe H Q=> ∀p,H p=none->Dn d e (upd H p (.dK [])) (λf b=>b p=QaF []/\ ∃a,f=QG a (λc=>(kV c.1,c.2))/\QP a 15/\R3 p (upd b p (.dK (vw [] a))))
def ac9(h:vv X d keys b f)(k:keys.all (·.isSome)=true)(hl:keys.length=WW)(h0:keys≠[])
  (l:keys.length<=15):PE X (.Dict keys b d) (y9 f):=by
 intro m s n H Q I q;refine wpAny_Dict_walk (knd:=lL _ X.w) k hl h0 l (aR (h m _ n _ _ (I.laid (t':=Tg) (λ_ _ q=>bM _ q) (aQ _) (ac6 _ I.big)) (q _ (Ut (aQ _)))) (λD s2⟨E,F,g,rel,e,i,t,lk,u⟩=>?_));subst t;obtain⟨rs,c,rk⟩:=Ky rel;obtain⟨z,hd,G,v,x⟩:=Kv g.a5 e;cases v;refine⟨rs,c,x,λy j hs=>Rl WQ _ ?_ u⟩;have A:Tj vw [] i bq:=by
  have B:=Kx i [];rw[List.length_nil]at B;rw[bK];omega
 have C:∃q,R0 y _=U1:=let⟨q,_,_,hq,_⟩:=j;Qe q hq;exact vt g Qcy hs C (Kw A hd (Qht rk.merge) j)
structure M1(X:Cx)(o:Expr)(m:Str)(apos:Pos)(e:Expr)(cpos:Pos):Prop where
 base:kE o m Qg XX=XX
 bc:Qv ((eC cpos (a_ [e] Qg)).all QcJ&&(fx cpos (fw [] Qg)).all QcC&&QV (Qn ([e]:Tc)+Qn ([]:Qa3)+Qcw<30))
 line:Qv (QbL)
 trees:eC cpos (a_ [e] Qg)=U2
structure M2(X:Cx)(o:Expr)(m:Str)(apos:Pos)(e f:Expr)(cpos:Pos):Prop where
 base:kE o m Qg XX=XX
 bc:Qv ((eC cpos (a_ [e,f] Qg)).all QcJ&&(fx cpos (fw [] Qg)).all QcC&&QV (Qn ([e,f]:Tc)+Qn ([]:Qa3)+Qcw<30))
 line:Qv (QbL)
 trees:eC cpos (a_ [e,f] Qg)=[UY,Yb f]
def Ds(H:Hp)(a:Addr):Prop:=(∃b,Rd H a (.dK b))\/ ∃b,Rd H a (.dT b)
def Dt{σ:St}(I:QI)(d:Ds H a):
  s.TypeIs QS "dict"/\(∀b,bD a=SI-> ∃ob,Th=Qc ob/\ob.dict=none)/\(a==eS)=Qb:=by
 rcases d with⟨h,e⟩|⟨h,e⟩
 ·obtain⟨_,hd,i,_,c⟩:=sA Rb e;refine Qh c.typeIs (λb q=>?_) hd;cases q;obtain⟨ob,_,_,f,g,_⟩:=c;exact Qh ob f g.2.1
 ·obtain⟨_,hd,j,_,c⟩:=oQ Rb e;refine Qh c.typeIs (λb q=>?_) hd;cases q;obtain⟨ob,_,_,f,g,_⟩:=c;exact Qh ob f g.2.1
def Kz:gY Ux=Qbq Ux:=by decide+kernel
section
variable{X:Cx}{pins:Tr}{σ:St}{H:Hp}{s:bH}{h':Heap}
def Inv.Du{ch:QZ}{T:Addr}(I:QI)(k:RN (b∉ch->Th=Qi->T_=Qi))(f:∀b∈ch,jZ X pins H b)(h:Qt<=T)
  (new:d6 Qr X.w (upd H T ob) h' T ob):SM (upd H T ob) QbC:=by
 have g:=Ut h;have i:∀b u,H b=Rj->b∉ch:=λb u e z=>by
  rw[((f b z).1)]at e;cases e
 refine I.step (λb a=>⟨(f b a).2.2.2.1,(f b a).2.1,(f b a).2.2.2.2.1,(f b a).2.2.2.2.2⟩) (λb o _ _ d e _=>k b o d e) (λb o _ _ d e _=>Qe o.slots (k b o d e)) (λb o _ e n=>by rw[ax (b9 (d5 (bx e) h))];exact n) (λb o d e=>Qe o (k b o d e)) (λb j e=>by rw[ax (cZ e g)];exact e) (λb o u e=>by rw[ax (cZ e g)];exact e) (λb x e=>⟨#[],by rw[ax (cZ e g),e];simp⟩) (λm l=>by obtain⟨o,p,t,w,r⟩:=l;exact⟨o,p,t,k _ o (λz=>(f _ z).2.1 rfl) w,r⟩) (Ye ?_) WR
 ·by_cases a:b=T
  ·subst a;rw[aC]at e;cases e;exact new
  ·rw[ax a]at e;refine(I.a5 b u e).e_ (λc v d q=>k c v ?_ q) (λc q=>by rw[ax (cZ q g)];exact q) (λc j q=>by rw[ax (cZ q g)];exact q)
   rcases d with z|z
   ·rw[z];exact i b u e
   ·exact i c _ z
def Inv.lock(I:QI)(h:H d=Rj)(c:oD Rj):∃a,SM (upd H d (.gr a u)) s:=by
 have x:=I.a5 d u h;have ex:∃a,RV d=Zb:=by
  cases u with
  |lst f=>obtain⟨_,_,_,_,e⟩:=x;exact Rh e
  |dK g=>obtain⟨_,_,_,_,o,_,_,e,_⟩:=x;exact Qe o e
  |dT g=>obtain⟨_,_,_,_,o,_,_,e,_⟩:=x;exact Qe o e
  |set S n=>obtain⟨o,_,_,_,e,_⟩:=x;exact Qe o e
  |ins C i fs=>obtain⟨_,_,_,e,_⟩:=x;exact Rh e
  |ext j=>obtain⟨_,⟨_,e⟩,_⟩:=x;exact Rh e
  |_=>exact cP c
 obtain⟨a,e⟩:=ex;have new:d6 _ X.w (upd H d (.gr a u)) _ d (.gr a u):=Qe e (x.e_ (λb v _ q=>q) (λb q=>by rw[ax (λz=>by rw[z,h]at q;cases q;exact c)];exact q) (λb f q=>by rw[ax (λz=>by rw[z,h]at q;cases q;exact c)];exact q))
 exact Qe a (I.write (by rw[h];exact c) Qw (λb v _ q=>q) (Qe a e) new)
def Inv.y_(I:QI)(h:H d=Rj)(c:oD Rj):∀a b,X.oF d≠XA a b:=λa b e=>by
 have q:=I.base.kW d a b e;rw[h]at q;cases q;exact c
def Inv.unlock(I:QI)(h:H d=XA l u)(t:∀g i,X.oF d≠XA g i):SM (upd H d u) s:=by
 have a:RN (H b=Qi->(∀g i,o≠ .gr g i)->b≠d):=λb o e A z=>by
  grind
 have f:∀b,H b=none->b≠d:=λb e z=>by rw[z,h]at e;cases e
 refine⟨I.ok,I.os,WR,⟨I.base.keep,I.base.slot,λb o e n hx=>by rw[ax (f b (I.base.free b o e n hx))];exact I.base.free b o e n hx,I.base.there,λb j e=>by have q:=I.base.kU b j e;rw[ax (a b _ q (λ_ _ z=>nomatch z))];exact q,λb o x e=>by rw[ax (λz=>by rw[z]at e;exact t _ _ e)];exact I.base.kW b o x e,λb w e=>by obtain⟨m,q⟩:=I.base.lM b w e;exact⟨m,by rw[ax (a b _ q (λ_ _ z=>nomatch z))];exact q⟩⟩,I.loc,I.cell,by rw[ax (f _ I.free)];exact I.free,λx c e=>by rw[ax (f c (I.iR x c e))];exact I.iR x c e,λp y=>by obtain⟨e,n,r⟩:=I.pin p y;exact⟨e,by rw[ax (f _ n)];exact n,r⟩,Q4 ?_,I.len⟩
 ·by_cases k:b=d
  ·rw[k,aC]at e;cases e;rw[k];obtain⟨_,x⟩:=I.a5 d _ h;exact x.e_ Qg0 (λc q=>QeG) (λc j q=>QeG)
  ·rw[ax k]at e;exact(I.a5 b o e).e_ Qg0 (λc q=>QeG) (λc j q=>QeG)
end
def ada(t:TS):TS:=λD e H=> ∃d u,H d=Rj/\oD Rj/\ ∀b,t ⟨λc a=>a d=XA b u/\D.nx c (upd a d u),λv a=>a d=XA b u/\D.rt v (upd a d u),λc a=>a d=XA b u/\D.bk c (upd a d u),λc a=>a d=XA b u/\D.ct c (upd a d u)⟩ e (upd H d (.gr b u))
section
variable{X:Cx}
def za{σ:St}(I:QI)(o:Obj)
  (T:Turn Qr X.w X.K tg J [Qt] Qt a)(st:a 0 (S5 o))(q:R J H):yR X pins σ tg R UA {s with heap:=s.heap.push o,toks:=tk}:=by
 refine⟨Qt,[Qt],a,J,H,rfl,I.kept (λb ob e=>bM _ e),T,st,λb c=>?_,q⟩;have e:=by simpa using c
 subst e;exact I.oK (aQ _) (Ut (aQ _))
def KA(K:au)(a:Addr)(n:Nat):It:=
 ⟨λi H=>i<n/\ ∃(b:List V)(x:V),bF K H a b/\b[n- 1- i]?=Qz,λi H x c=>c=H/\ ∀b,bF K H a b->b[n- 1- i]?=Qz,λi _=>n<=i⟩
end
def adb{K}(a it:Addr)(n:Nat):Turn P w K tg (KA K a n) [it] it (λi h=>i<=n/\h.IsRevIter it a (n-1-i))where
 mem:=by simp
 obj:=λi h st b f=>by
  have e:=by simpa using f
  subst e;obtain⟨_,o,e,c,d⟩:=st;exact SF e Qgy
 keep:=λi h g st k=>Qe st.1 (Yg st.2.at (k it Qj o e))
 item:=by
  intro X l m q C i D s F H E I j st hg;subst l m q;obtain⟨G,V,x,J,hx⟩:=hg;obtain⟨W,L,p,Y⟩:=I.list J;obtain⟨u,M,N⟩:=L.get hx;obtain⟨f0,f1,f2,f3,r,t⟩:=j it Qj;obtain⟨_,hit⟩:=st;have y:n-1-i=QW (n-1-i:Nat):=by omega
  rw[y]at hit;refine wpAny_pyNext_rev_item hit QaX (by simpa using M) (λg B O=>?_);have R:(n-1-i:Nat)-1=n-1-QW (i+1):=by omega
  rw[R]at B;obtain⟨o,e,c,d⟩:=id B;exact Ss u (qm e c d QD ⟨x,H,I.turned (t':=Tg) (Qct (Rx O.2 b f e)) f0 f1 f3 r t,N,RL (λZ T=>by rw[I.yP T J];exact hx),Qe G B,λb f=>(j b f).1⟩)
 done:=by
  intro X l m q C i D s F H E I j st hg;obtain⟨f0,f1,f2,f3,r,t⟩:=j it Qj;obtain⟨G,hit⟩:=st;have hge:n<=i:=hg;have y:n-1-QW i= -1:=by omega
  rw[y]at hit;exact wpAny_pyNext_rev_end (VC C) hit (λg U=>RL (I.turned (Qct (U b o f e)) f0 f1 f3 r t))
 self:=Qdg (xY st.2 h)
def ade(K:au)(d:TA):TI:=λe H R=>d e H (λf b=> ∃(a:Addr)(c:List V),f=UG/\bF K b a c/\R (KA K a (Qn c)) b)
section
variable{X:Cx}{tg:Expr}
def adf(hg:Gl X Ux)(j:X.mg Ux=none)(k:PA X [e] b)(hs:a_ [e] Qg=U2:=by rfl):PI X tg (XG Ux [e] c) (ade X.K b):=by
 refine λm s n H R I h=>Call_ (lO I hg j Kz (pV (aR (k c m s n H _ I h) (λy s1⟨z,A,d,o,q1⟩=>?_)) hs rfl));obtain⟨a,f,e,t,q⟩:=q1;subst e;cases o with
 |cons r u=>
  cases u;cases r;obtain⟨g,v,w,B⟩:=d.list t;have hl:=v.length;have x:Zg g-1=Qn f-1-QW (0:Nat):=by grind
  refine call_reversed_list w.isList (xY (Zp _ (cH _ rfl)) (za d _ (adb a _ _) ⟨cG _,?_⟩ q));rw[<-x];exact Zp _ (cH _ rfl)
end
section
variable{prog:aO}{w:aA}{A:di}{E:SR}{s:bH}
def Dv(hd:(d==eS)=Qb)(a:RV d=Qi)(g:o.ExactDict)(f:Si=Ve c e)
  (h:Q UA {s with heap:=S5 {cls:= SV QgT,data:= Vw (#[.ref d,.int 0 0,.int c.size 0,.int e 0])}}):
  aj QA A (lH WY) Q E s:=by
 have b:U7 s.TypeIs d _:=SF a g.1;refine uL b F.slot_dict_iter (fv F.slot_dict_iter b F.entry_dict_iter ?_ (F.args_dict_iter_1 _));refine ab ?_;refine ab (xX b ?_);refine ah ?_;show aj _ _ (Cd d>>=_) _ _ s;unfold Cd;rw[(ZG)];refine ab (ah (ab (jN a f (ab (oi a f (ab (jM (ah ⟨_,rfl,QgT,_,Sz _ (cH _ rfl),rS.lookup,?_⟩))))))));simpa[gZ]using h
def KC(hit:s.heap.IsKeyIter it d i n a)(f:RV d=Xr)(g:e.data=Ve b a)
  (hsz:RH b=n)(hx:b[i]?=Qc en)(j:∀h',h'.IsKeyIter it d (i+1) n a->dN it Ql h'->Q (Qc en.key) Xi):aj QA A (jQ WI) Q E s:=by
 obtain⟨o,c,k,hd⟩:=id hit;refine ab (p9 (rJ Tw rS (fv rS Tw IM (ab (ah (ab (ab ?_)))) (IL _))));refine ab (xV Tw (ah ?_))
 refine ab (rL c hd ?_)
 simp only[];show aj _ _ _ _ _ s;refine ab (ah (ab (jN f g ?_)));rw[(QeN)];refine ab (ah (ab (oi f g ?_)));rw[(Y1)];refine ah ?_;obtain⟨m,p⟩:=Ig.mp hx;simp [xw m];refine ab ?_;refine ab (xV Tw (ah ?_))
 refine ab (wpAny_isOneOf_keyiter Tw ?_);show aj _ _ (setField _ 1 _>>=_) _ _ s;refine ab (p0 c hd Qj ?_);have h:((s.heap.update it (yr (·.setIfInBounds 1 (gZ (i+1))))).IsKeyIter) it d (i+1) n a:=
  ⟨_,oq _ c (yo (ou hd _)),QH (yq ..) k,by rw[ou hd];simp[gZ]⟩
 refine ab (fj (ab (wpAny_isOneOf_keyiter h.typeIs ?_)));rw[p];exact ah (ah (SE (ah (j _ h ZE))))
def Dx(k:VH=none)(hit:s.heap.IsKeyIter it d i n e)(g:RV d=Qc f)(h:f.data=Ve c e)
  (hsz:RH c=n)(l:n<=i)(p:∀h',yk it Ql h'->Q none Xi):aj QA A (jQ WI) Q E s:=by
 obtain⟨o,j,t,hd⟩:=id hit;refine ab (p9 (rJ Tw rS (fv rS Tw IM (ab (ah (ab (ab ?_)))) (IL _))));refine ab (xV Tw (ah ?_))
 refine ab (rL j hd ?_)
 simp only[];refine ab (ah (ab (jN g h ?_)));rw[(QeN)];refine ab (ah (ab (oi g h ?_)));rw[(Y1)];refine ah ?_
 simp [xx (by rw[hsz];exact l)];refine ab ?_;refine ab (xV Tw (ah ?_))
 show aj _ _ (setField _ 0 .none>>=_) _ _ s;refine ab (p0 j hd Qj ?_);refine ab ?_;refine ab (jM (ab (uN QB (jM ?_ QcD))) QcD);refine ab (wpAny_handled ?_);rw[k];refine ab (ah (wpAny_throw ?_));refine ab (kC (Qek _ (cH _ rfl)) isSubtype_stop (ah (p _ (((ZE).extBut.push _).push _))))
def adg{vs:TU κ aJ}(h:KV kvs vs):∀ {i:Nat}{k:κ}{v:V},Qam=Se k v-> ∃u,vs[i]?=Se k u/\U0:=by
 induction h with
 |nil=>intro i k v e;simp at e
 | @cons a b c d r t f=>
  grind
def Dy{l₁:QR c}{l₂}(h:dj G l₁ l₂):∀ {i:Nat}{a:c},l₁[i]?=Zb-> ∃b,l₂[i]?=Qc b/\G a b:=by
 induction h with
 |nil=>intro i a e;simp at e
 | @cons a b l₁ l₂ r t f=>
  grind
def adh(h:Rm qh k u):Y4 (kV k):=by
 rcases lK h with⟨i,t,rfl,rfl⟩|⟨x,t,rfl,rfl⟩
 ·exact V' t
 ·exact V' t
end
section
variable{X:Cx}{pins:Tr}{σ:St}{H:Hp}{s:bH}{d:Addr}{o:Obj}
def Inv.Dz(I:QI)(h:H d=Uc (.dK kvs)):
  (d==eS)=Qb/\RV d=Qi/\QfP/\ ∃(a:Array _)(b:Nat)(vs:List _),Si=Ve a b/\RH a=Ta/\KV kvs vs/\s.heap.DictAt (lL Qr X.w) d vs b:=by
 obtain⟨hd,z,hs,vs,c,g,a,b,e,hx,f,r⟩:=I.a5 d _ h;rw[hd]at e;cases e;refine⟨hs,hd,hx,a,b,vs,f,?_,c,o,a,hd,hx,f,r⟩;have l1:=r.2.1.length;have l2:=bQ c;rw[mF]at l1;omega
def Inv.DA(I:QI)(h:H d=Uc (.dT kvs)):
  (d==eS)=Qb/\RV d=Qi/\QfP/\ ∃(a:Array _)(c:Nat),Si=Ve a c/\RH a=Ta/\ ∀(i:Nat)k v,Qam=Se k v-> ∃(en:rO)(q:Addr),a[i]?=Qc en/\en.key=UD/\bV H k q:=by
 obtain⟨hd,z,hs,f,g,r,a,c,j,hx,m,l,_⟩:=I.a5 d _ h;rw[hd]at j;cases j;exact⟨hs,hd,hx,a,c,m,by have l1:=x8 l;have l2:=bQ g;omega,λi k v e=>by obtain⟨b,n,t,p,_⟩:=Dy g e;have q:=rP l i;rw[n]at q;exact⟨_,b.2.1,q,rfl,p⟩⟩
end
def KD(d:Addr)(o:Obj)(kvs:UI Key):It:=
 ⟨λi H=>H d=Uc (.dK kvs)/\i<Ta,λi H x a=>a=H/\ ∃k v,Qam=Se k v/\x=kV k,λi H=>H d=Uc (.dK kvs)/\Ta<=i⟩
def KG(d:Addr)(o:Obj)(kvs:UI NT.Nk):It:=
 ⟨λi H=>H d=Uc (.dT kvs)/\i<Ta,λi H x a=>a=H/\ ∃(k:NT.Nk)(v:V)(q:Addr),Qam=Se k v/\x=UD/\bV H k q,λi H=>H d=Uc (.dT kvs)/\Ta<=i⟩
def sD{o:Obj}(h:Si=Ve a c)(h':Si=Ve b d):b=a/\d=c:=by
 grind
section
variable{P:aO}{w:aA}{K:au}{tg:Expr}{d:Addr}{o:Obj}{es:SO rO}{ep:Nat}
def adi(it:Addr)(B:Si=Ve es ep):Turn P w K tg (KD d o kvs) [it] it (λi h=>h.IsKeyIter it d i Ta ep)where
 mem:=by simp
 obj:=λi h st b a=>by
  have e:=by simpa using a
  subst e;obtain⟨g,e,c,m⟩:=st;exact Qh g e Qgz
 keep:=λi h f st k=>st.at (λg e=>k it Qj g e)
 item:=by
  intro X n q r C i D s F H E I j st hg;subst n q r;obtain⟨hd,hi⟩:=hg;obtain⟨f0,f1,f2,f3,t,x⟩:=j it Qj;obtain⟨hs,G,hx,R,S,J,l,L,y,M⟩:=I.Dz hd;obtain⟨rfl,rfl⟩:=sD B l;obtain⟨⟨k,v⟩,N⟩:∃p,Qam=Qc p:=⟨kvs[i],cN hi⟩;obtain⟨u,T,ru⟩:=adg y N;have hl:=bQ y;rw[hl]at st;refine wpAny_pyNext_dict_item st M T (λkey f U O W=>?_);obtain⟨g,e,c,m⟩:=id O;refine Ss key (qm e c m QD ⟨kV k,H,I.turned (t':=Tg) (Qdv (Rx W.2 b a e)) f0 f1 f3 t x,adh U,⟨rfl,k,v,N,rfl⟩,?_,λb a=>(j b a).1⟩);rw[hl];exact O
 done:=by
  intro X n q r C i D s F H E I j st hg;obtain⟨hd,hi⟩:=hg;obtain⟨f0,f1,f2,f3,t,x⟩:=j it Qj;obtain⟨hs,G,hx,R,S,J,l,L,y,M⟩:=I.Dz hd;obtain⟨rfl,rfl⟩:=sD B l;exact Dx (VC C) st G l L hi (λf Z=>RL (I.turned (Qdv (Z b ob a e)) f0 f1 f3 t x))
 self:=Qdg (wpAny_pyIter_keyiter st h)
def adj(it:Addr)(C:Si=Ve es ep):Turn P w K tg (KG d o kvs) [it] it (λi h=>h.IsKeyIter it d i Ta ep)where
 mem:=by simp
 obj:=λi h st b a=>by
  have e:=by simpa using a
  subst e;obtain⟨g,e,c,m⟩:=st;exact Qh g e Qgz
 keep:=λi h j st k=>st.at (λg e=>k it Qj g e)
 item:=by
  intro X n r t D i G s J H E I l st hg;obtain⟨hd,hi⟩:=hg;obtain⟨f0,f1,f2,f3,u,x⟩:=l it Qj;obtain⟨hs,y,hx,O,R,f,B,L⟩:=I.DA hd;obtain⟨rfl,rfl⟩:=sD C f;obtain⟨⟨k,v⟩,M⟩:∃p,Qam=Qc p:=⟨kvs[i],cN hi⟩;obtain⟨en,q,S,T,U⟩:=L i k v M;refine KC st y f B S (λj N W=>?_);obtain⟨g,e,c,m⟩:=id N;exact Ss en.key (qm e c m QD ⟨UD,H,I.turned (t':=Tg) (Qdv (Rx W.2 b a e)) f0 f1 f3 u x,T,⟨rfl,k,v,q,M,rfl,U⟩,N,λb a=>(l b a).1⟩)
 done:=by
  intro X n r t D i G s J H E I l st hg;obtain⟨hd,hi⟩:=hg;obtain⟨f0,f1,f2,f3,u,x⟩:=l it Qj;obtain⟨hs,y,hx,O,R,f,B,L⟩:=I.DA hd;obtain⟨rfl,rfl⟩:=sD C f;exact Dx (VC D) st y f B hi (λj Z=>RL (I.turned (Qdv (Z b ob a e)) f0 f1 f3 u x))
 self:=Qdg (by
  refine uL st.typeIs IP (fv IP st.typeIs F.entry_dict_keyiterator_iter ?_ (F.args_dict_keyiterator_iter_1 _));exact ah ⟨_,rfl,QgT,_,st.typeIs,rS.lookup,h⟩)
end
def adk(c:TE):TI:=λe H R=>c e H (λx b=> ∃d o,x=WY/\((∃a,b d=Uc (.dK a)/\R (KD d o a) b)\/ ∃a,b d=Uc (.dT a)/\R (KG d o a) b))
section
variable{X:Cx}{tg e:Expr}{td:TE}{apos cpos:Pos}
def adl(g:PE X e td):PI X tg e (adk td):=by
 refine λi s j H R I h=>aR (g i s j H _ I h) (λu s1⟨x,p,b,k,d,o,ex,q⟩=>?_);subst ex;obtain rfl:u=bD d:=k;rcases q with⟨l,hd,q⟩|⟨l,hd,q⟩
 ·obtain⟨hs,c,hx,m,n,r,a,f,t,v⟩:=b.Dz hd;refine Dv hs c hx a (za b _ (adi _ a) (Wb _ (cH _ rfl) ?_) q);rw[f]<;>rfl
 ·obtain⟨hs,c,hx,m,n,a,f,w⟩:=b.DA hd;refine Dv hs c hx a (za b _ (adj _ a) (Wb _ (cH _ rfl) ?_) q);rw[f]<;>rfl
def vx(K:au)(a:Addr):It:=
 ⟨λi H=> ∃(b:List V)(x:V),bF K H a b/\b[i]?=Qz,λi H v c=> ∃T x,v=Q1 T/\H T=none/\c=upd H T (.tup [S0,x])/\ ∀b,bF K H a b->b[i]?=Qz,λi H=> ∃b,bF K H a b/\QP b i⟩
end
def adm{K}(a e it:Addr):
  Turn P w K (Xe J L M) (vx K a) [e,it] e (λi h=>(∃f,IsEnum h e it i f)/\h.IsListIter it a i/\e≠it)where
 mem:=by simp
 obj:=λi h st b c=>by
  obtain⟨⟨f,d⟩,⟨o,D,m,hd⟩,_⟩:=st
  rcases (Vg) with z|z
  ·grind
  ·grind
 keep:=λi h n st k=>let⟨⟨f,d⟩,hi,g⟩:=st;⟨⟨f,k e (by simp) _ d⟩,hi.at λo q=>k it (by simp) o q,g⟩
 item:=by
  intro X r t v m i F s G H E I j st hg;subst r t v;obtain⟨⟨f,d⟩,hit,g⟩:=st;obtain⟨O,x,l,hx⟩:=hg;obtain⟨R,y,p,S⟩:=I.list l;obtain⟨u,T,U⟩:=y.get hx;have V:=bx d;have hil:it<Qt:=by obtain⟨_,q,_⟩:=hit;exact bx q
  refine wpAny_pyNext_enum_item d hit QaX (by simpa using T) g (λn D W Y hsz Z=>SE (wpAny_letOwnedTupleGo_enum D (λB he' C=>?_)))
  have I1:Inv X F G (upd H _ (.tup [S0,x])) {s with heap:=B,toks:=s.toks+1}:=
   I.Du (λb ob c q=>Rx C.2 b (λz=>c Qab) (Z b ob (λz=>c Qab) (λz=>c Qab) q)) j (aQ _) ⟨QaK,[.int i _,u],Zm Yv U,_,Rx C.2 _ (lC V) Y,rfl,_,rfl⟩
  refine⟨WQ,_,I1,rfl,⟨_,x,rfl,Ut (aQ _),rfl,λys hy=>by rw[I.yP hy l];exact hx⟩,Qh (Qe u Qm) (W.at (λo q=>Rx C.2 it (fP g) q)) g,λb c=>?_⟩
  ·have hb':b<Qt:=by
    grind
   rw[ax (b9 hb')];exact(j b c).1
 done:=by
  intro X r t v m i F s G H E I j st hg;subst r t v;obtain⟨⟨f,d⟩,hit,g⟩:=st;obtain⟨O,l,hx⟩:=hg;obtain⟨R,y,p,S⟩:=I.list l;obtain⟨f0,f1,f2,f3,f4,f5⟩:=j it Qj;have hl:=y.length;exact wpAny_pyNext_enum_end (VC m) d hit QaX Tv (λn eb=>RL (I.turned (λb o c q=>eb b o c q) f0 f1 f3 f4 f5))
 self:=Qdg (let⟨⟨_,d⟩,_⟩:=st;x4 d h)
def adn(K:au)(c:TA):TI:=λd H R=>c d H (λe b=> ∃a f,e=UG/\bF K b a f/\R (vx K a) b)
def KH(hg:Gl X Uw)(t:X.mg Uw=none)(u:PA X [e] d)(hs:a_ [e] Qg=U2:=by rfl):
  PI X (Xe n o m) (XG Uw [e] f) (adn X.K d):=by
 refine λg s i H R I h=>Call_ (lO I hg t boot_enumerate (pV (aR (u f g s i H _ I h) (λD s1⟨E,j,c,v,q1⟩=>?_)) hs rfl));obtain⟨a,F,ex,w,q⟩:=q1;subst ex;cases v with
 |cons r x=>
  cases x;cases r;obtain⟨G,J,y,K⟩:=c.list w;refine call_enumerate_list y.isList (λz k hit L A=>x4 k ?_);refine⟨Zw+1,[Zw+1,Zw],_,_,j,rfl,c.kept (t':=s1.toks) A,adm a _ _,Qh (Qe Sf k) hit (Nat.succ_ne_self _),λb C=>?_,q⟩
  have l:Zw<=b:=by
   grind
  exact c.oK l (X9 c l)
def inClass(s:Stmt)(j:Nat):Stmt:=match s with
 | .ClassDef _ _ _ a _ _ _ _ _ _ _=>RG a j (.Pass (U' 0 0 0))
 |_=> .Pass (U' 0 0 0)
def qw(s:Stmt):uR:=match s with
 | .FunctionDef _ a _ _ _ _ _ _ _ _=>a
 |_=>{posonlyargs:=[],args:=[],vararg:=none,kwonlyargs:=[],kw_defaults:=[],kwarg:=none,defaults:=[]}
def g_(s:Stmt):US:=match s with
 | .FunctionDef _ _ b _ _ _ _ _ _ _=>b
 |_=>[]
def aK(s:Stmt):eT:=match s with
 | .FunctionDef _ _ _ _ _ _ a _ _ _=>a
 |_=>{kind:= .function,names:=[],isGenerator:=false,isCoroutine:=false}
abbrev az:qs:=λ_ _ _ _ _ _=>False
abbrev E0:XK:=QdL
def zb:Passes az X E0:=λ_ _ _ _ _ _ _ h=>h.elim
structure aP(K:au)(x qual:Str)(st:Stmt)(f:Addr)(fd:b_):Prop where
 ex:∃(oc:aJ)(od:QaW)(kV doc pm:aJ)(an:QaW)(cdv ct:aJ)(osl:SO Qdz),
  fd=mU x qual (qw st) (g_ st) (aK st) Sf kV doc pm an cdv ct/\Vz f=Qc ⟨oc,od,.func fd,osl⟩/\T2 u6 K cdv qual
 kp:Zq mV K
section
variable{P:aO}{w:aA}{K:au}{mg:QQ}{base:Heap}
def aP.ok{st}(F:aP K x b st f d)(S:aY N ps (aK st))(len:∀vs H Q E,c vs H Q E->V1=Vk)
  (e:∀a A outer s H vs Q E,dt k (A.deeper (gW b (aK st) Qt f a))->c vs H Q E-> ∃t,gv (lS az P w K mg base N b (aK st) f a A Sx s H E).lQ (g_ st) t/\t QgA (start N vs) H):ay P w K mg base az (k+1) f d ps c:=by
 obtain⟨l,m,kV,n,pm,o,a,ct,p,rfl,lk,g⟩:=F.ex;refine J6 lk g S len (λA outer s H vs Q E i j=>?_);obtain⟨t,h,q⟩:=e a A Sx s H vs Q E i j;exact Qh t h.lQ q
def aP.binds{st}(F:aP K x d st f e)
  (h:∀kV a pm b c ct us,QaR=Vk->bindArgs (mU x d (qw st) (g_ st) (aK st) Sf kV a pm b c ct) (Wd us)=Sy (ps.zip us)):Binds K e ps []:=by
 obtain⟨g,i,kV,a,pm,b,c,ct,j,rfl,lk,k⟩:=F.ex;exact .all (h kV a pm b c ct)
def KI{st}{kV e pm b ct}(l:Vz f=Qc ⟨g,h,.func (mU x a (qw st) (g_ st) (aK st) Sf kV e pm d b ct),i⟩)
  (c:T2 u6 K b a)(k:Zq mV K):aP K x a st f (mU x a (qw st) (g_ st) (aK st) Sf kV e pm d b ct):=Qe ⟨g,h,kV,e,pm,d,b,ct,i,rfl,l,c⟩ k
end
section
variable{X:Cx}
def pv(i:Nat){a}(b:UC=Qz:=by rfl)(hv:kY Sg x:=by first|exact QK|exact eM QK|exact eM WL)(hd:SK=Qb:=by decide)
  (c:(x==Zv)=Qb:=by decide):PE X Qb4 (Jp i):=oG b hv hd c
def oS{A B:Prop}(h:B):if Qv Qb then A else B:=by
 grind
def oT{A B:Prop}(h:A):if Qv true then A else B:=by
 exact h
def af(H H':Hp):Prop:= RN (H b=Qi->H' b=Qi)
def af.refl(H:Hp):af H H:=Yl
def af.trans(a:af H d)(b:af d e):af H e:=λc o h=>b c o (a c o h)
def af.free(e:af H H')(h:H' l=xT):H l=xT:=by
 cases q:H l with
 |none=>rfl
 |some o=>
  rw[e l o q]at h;cases h
def af.seq{K}(e:af H H')(h:bF K H a xs):bF K H' a xs:=by
 rcases h with(h|⟨o,h⟩)|h
 ·exact Qdr (e _ _ h)
 ·exact Qq (WA o (e _ _ h))
 ·exact Qy h
def af.made(nx:H x=xT)(nd:H a=xT)(k:RN ((upd (upd H a (.own x)) x (.ins C a [])) b=Qi->b≠x->c b=Qi)):af H c:=Q4 (k b o (by rw[ax (cZ e nx),ax (cZ e nd)];exact e) (cZ e nx))
end
end L2
namespace NT
open PySem PySem.Spec PyProof.Rows
def erase_filter{b:Type}:∀ {xs:List _}{j:Nat}{k:Nk}{p:b},(xs.map (·.1)).Nodup->xs[j]?=some (k,p)->xs.eraseIdx j=xs.filter λx=>decide (x.1≠k)
 |[],j,k,p,_,h=>by simp at h
 |x::xs,0,k,p,a,h=>by
  simp []at h;subst h;rw[cg,gm]at a;rw[List.eraseIdx_cons_zero,jK];simp [];refine(Qhx (λy c=>?_)).symm;have:y.1≠k:=λe=>a.1 (e▸cQ.mpr ⟨y,c,rfl⟩);simpa using this
 |x::xs,j+1,k,p,a,h=>by
  rw[cg,gm]at a;have d:x.1≠k:=λe=>a.1 Qm;rw[List.eraseIdx_cons_succ,jK,erase_filter a.2 h];simp[d]
section
variable{prog:aO}{w:aA}{A:di}{E:SR}{s:bH}
def ado(B:RS+5<bf)(m:(VI).is Ql k a)(n:s.heap.DictOfH VI d xs)(r:atKey xs k=Qc p)(hz:Qu<=bq)
  (h:∀h' tk,h'.DictOfH VI d (Qbr (λx=>QV (x.1≠k)))->dN d Ql h'->Q p.2 Xg):
  aj QA A (call (VS "dict.pop") [WY,QS]) Q E s:=by
 have t:=n.typeIs;obtain⟨o,e,C,c,D,hd,f,u,g⟩:=n;have L:=x8 f;obtain⟨j,b⟩:∃j,xs[j]?=Se k p:=by
  obtain⟨x,hx,rfl⟩:=mK.mp r;obtain⟨j,b⟩:=ko.mp (List.mem_of_find?_eq_some hx);have F:x.1=k:=by grind
  exact Qe j (by rw[b,<-F])
 have M:=Ub b;refine fv IV t PySem.F.entry_dict_pop ?_ (PySem.F.args_dict_pop_2 _ _);refine ab ?_;refine ab (xX t ?_);refine ah ?_;refine ab (jN c hd (ab (ah ?_)));have H:e.isEmpty=Qb:=by
  grind
 rw[H];unfold Builtin.Dict.takeOut;refine ab ?_;try with_reducible refine fj ?_
 have y:(VI).room UZ:=r_ B;refine ab ((VI).pyHash y m (ab (wpAny_dictFind_heap y m c hd f u g (λI=>Rk b (I j p)) (λi q hi=>?_))));have J:=idxH_unique g hi b;subst J;refine ab (jN c hd ?_);rw[rP f i,b];refine ab (wpAny_updateDictKeys c hd (ah ?_));refine ab (wpAny_letGo ?_);have z:=ot Ql d (Obj.mapDictKeys (λx=>x.eraseIdxIfInBounds i));have l:aj QA UZ (ret (uO VI (k,p)).val) (λl K=> ∃v,l= .done (.ret v)/\Q v K) E {s with heap:=s.heap.update d (Obj.mapDictKeys λx=>x.eraseIdxIfInBounds i),toks:=s.toks+(oC prog w).draws k}:=by
  refine ah (SE (h _ _ ⟨_,_,C+1,oq _ c (Obj.isFreed_of_dict (yp hd _)),D.mapDictKeys _,yp hd _,?_,by exactλx hx=>(oC prog w).keeps (u x (eh.mp hx).1) c hd z,Qm⟩ z))
  ·rw[<-erase_filter g b];have:TH (e.eraseIdxIfInBounds i)=e.toList.eraseIdx i:=by
    simp
   rw[this,f,BM,BM,bO,mH,mI]
 exact l
end
end NT
namespace L2
open PySem PySem.Spec PyProof.Rows
def DB{p:S4 c}{q:S4 d}(e:∀a b,F a b->p a=q b):∀ {l:List c}{m:List d},dj F l m->dj F (Sd l p) (Sd m q)
 |_,_,.nil=> .nil
 |_,_,.cons   r t=>by
  rw[jK,jK,e _ _ r];split
  ·exact Rc r (DB e t)
  ·exact DB e t
def adp{σ:St}(m:RS+5<bf)(I:QI)(e:H a=Qa5)(n:bV H k b)(l:cO kvs k=Rg)
  (h:∀d g,SM (upd H a (.dT (k3 kvs k))) g->SD v d->Q d g):aj (aV Qr X.w) A (call (VS "dict.pop") [QS,SI]) Q E s:=by
 obtain⟨z,hd,f,rel,r⟩:=Dl Rb e;obtain⟨d,t,u⟩:=g7.some_of (by rw[<-l];exact rel.val k);obtain⟨p,w,y⟩:=mK.mp t
 refine NT.ado m (g9 Rb n) r w (by rw[<-bQ rel];exact z) (λO P C hs=>?_);rw[y];refine h d _ ?_ u;obtain⟨q,D,F,i,G,J,K,_,L⟩:=C;have M:KT H (k3 kvs k) _:=DB (λp q N=>by rw[N.1]) rel;refine vt I Qcy hs (Qe q i) ⟨bp (acT kvs k) z,hd,_,M.keeps (λc R j=>?_),q,D,F,i,G,J,K,L⟩;rw[ax (CG j e Qfb)];exact j
end L2
namespace TB
open PySem PySem.SetTable
def it:Nat->Nat->Nat
 |0,x=>x
 |n+1,x=>5*it n x+1
def KL(m:Nat):∀n x,it (m+n) x=it m (it n x):=by
 induction m with
 |zero=>intro n x;rw[xR];rfl
 |succ m a=>intro n x;rw[Nat.succ_add];show 5*it (m+n) x+1=5*it m _+1;rw[a]
def adq(k:Nat):∃u v,∀x,it (2^k) x=(1+2^k*4*u)*x+2^k*(1+2*v):=by
 induction k with
 |zero=>exact Qh 1 0 (λx=>by show 5*x+1=_;omega)
 |succ k a=>
  obtain⟨u,v,h⟩:=a;refine⟨u+2*2^k*u*u,v+2^k*u+2*(2^k*u*v),λx=>?_⟩;have e:2^(k+1)=2^k+2^k:=by omega
  rw[e,KL,h,h];generalize 2^k=p;grind
def ads(k x:Nat):it (2^k) x%(2^k*2)=(x+2^k)%(2^k*2):=by
 obtain⟨u,v,h⟩:=adq k;rw[h];have e:(1+2^k*4*u)*x+2^k*(1+2*v)=(x+2^k)+2^k*2*(2*u*x+v):=by
  generalize 2^k=p;grind
 rw[e,Nat.add_mul_mod_self_left]
def KN(k:Nat):∀x y,∃n,n<2^k/\it n x%2^k=y%2^k:=by
 induction k with
 |zero=>grind
 |succ k d=>
  intro x y;obtain⟨n,g,h⟩:=d x y;have c:=ads k (it n x);rw[<-KL,Nat.mod_mul (x:=it n x+2^k),Nat.add_mod_right,Nat.add_div_right _ (Nat.pos_of_ne_zero Qj)]at c;have i:=Nat.mod_mul (x:=it n x) (a:=2^k) (b:=2);have j:=Nat.mod_mul (x:=y) (a:=2^k) (b:=2);rcases uB (it n x/2^k)with a|a<;>rcases uB (y/2^k)with b|b
  ·grind
  ·grind
  ·grind
  ·grind
def j3(a:Nat)(p:Probe):Probe:=
 if p.more>0 then{p with j:=p.j+1,more:=p.more-1}else
 {p with j:=(leap a p.i Qef).1,more:=gq a (leap a p.i Qef).1-(leap a p.i Qef).1,i:=(leap a p.i Qef).1,perturb:=(leap a p.i Qef).2}
def adt(t:lF)(p:Probe):t.advance p=j3 Q7 p:=rfl
def bB(a:Nat)(h:Int):Probe:={j:=bits h%(a+1),more:=gq a (bits h%(a+1))-bits h%(a+1),i:=bits h%(a+1),perturb:=bits h,dummy:=none}
def br(a:Nat)(h:Int):Nat->Probe
 |0=>bB a h
 |n+1=>j3 a (br a h n)
def a'(a:Nat)(h:Int):Nat->Nat×Nat
 |0=>(bits h%(a+1),bits h)
 |q+1=>leap a (a' a h q).1 (a' a h q).2
def at_(a:Nat)(x:Nat×Nat)(d:Nat):Probe:={j:=x.1+d,more:=gq a x.1-x.1-d,i:=x.1,perturb:=x.2,dummy:=none}
def DC(a i:Nat):i<=gq a i/\gq a i<=i+9/\(i<=a->gq a i<=a):=by
 unfold gq;split<;>omega
def DD(h:d<gq a x.1-x.1):j3 a (at_ a x d)=at_ a x (d+1):=by
 unfold j3 at_;dsimp only;rw[(ZH)];simp [];omega
def DE:j3 a (at_ a x (gq a x.1-x.1))=at_ a (leap a x.1 x.2) 0:=by
 unfold j3 at_;simp
def adu(a:Nat)(h:Int):∀q,∃n,n<=10*q/\br a h n=at_ a (a' a h q) 0:=by
 intro q;induction q with
 |zero=>exact⟨0,aQ _,QgJ⟩
 |succ q b=>
  obtain⟨n,f,e⟩:=b;have g:=DC a (a' a h q).1;have go:∀d,d<=gq a (a' a h q).1-(a' a h q).1->br a h (n+d)=at_ a (a' a h q) d:=by
   intro d;induction d with
   |zero=>exact RC e
   |succ d c=>intro hd;show j3 a (br a h (n+d))=_;rw[c Qa,DD Qa]
  refine Rv (n+(gq a (a' a h q).1-(a' a h q).1)+1) Qa;show j3 a _=_;rw[go _ (aQ _),DE];rfl
def adv(a:Nat)(h:Int):∀n,∃q d,d<=gq a (a' a h q).1-(a' a h q).1/\br a h n=at_ a (a' a h q) d:=by
 intro n;induction n with
 |zero=>exact⟨0,0,cG _,QgJ⟩
 |succ n b=>
  obtain⟨q,d,hd,e⟩:=b;by_cases c:d<gq a (a' a h q).1-(a' a h q).1
  ·exact⟨q,d+1,c,by show j3 a _=_;rw[e,DD c]⟩
  ·have:d=gq a (a' a h q).1-(a' a h q).1:=by omega
   subst this;exact⟨q+1,0,cG _,by show j3 a _=_;rw[e,DE];rfl⟩
def adw(h:Int):bits h<2^64:=by
 unfold bits;omega
def DF(a:Nat)(h:Int):∀q,(a' a h q).1<=a:=by
 intro q;cases q with
 |zero=>exact B1 (xS _ (Nat.succ_pos _))
 |succ q=>exact B1 (xS _ (Nat.succ_pos _))
def DG(a:Nat)(h:Int)(n:Nat):(br a h n).j<=a/\(br a h n).dummy=none:=by
 obtain⟨q,d,hd,e⟩:=adv a h n;have b:=DC a (a' a h q).1;have c:=DF a h q;rw[e];refine V' ?_;show(a' a h q).1+d<=a;omega
def adx(a:Nat)(h:Int):∀q,(a' a h q).2=bits h/32^q:=by
 intro q;induction q with
 |zero=>simp[a']
 |succ q b=>
  show(a' a h q).2/32=_;rw[b,Nat.div_div_eq_div_mul,Nat.pow_succ]
def KO(a:Nat)(h:Int):∀n,(a' a h (12+n)).1=it n (a' a h 12).1%(a+1):=by
 intro n;induction n with
 |zero=>exact(B3 (Nat.lt_succ_of_le (DF a h 12))).symm
 |succ n b=>
  have c:(a' a h (12+n)).2/32=0:=by
   rw[adx,Nat.div_div_eq_div_mul,<-Nat.pow_succ];refine Nat.div_eq_of_lt (d5 (adw h) ?_);have e:2^64<=32^13:=by decide
   exact bp e (rD QD Qa)
  show((a' a h (12+n)).1*5+1+(a' a h (12+n)).2/32)%(a+1)=(5*it n _+1)%(a+1);rw[c,b,Nat.add_zero,Nat.mul_comm,Nat.add_mod,Nat.mul_mod_mod,<-Nat.add_mod]
def cover(c:a+1=2^k)(h:Int)(g:e<=a):∃n,n<=10*(a+12)/\(br a h n).j=e:=by
 obtain⟨n,d,b⟩:=KN k _ e;rw[<-c]at d b;rw[B3 (show e<a+1 by omega),<-KO]at b;obtain⟨m,i,f⟩:=adu a h (12+n);refine Rv m Qa;rw[f];show(a' a h _).1+0=e;omega
def gap:∀m(l:List Nat),QT<m-> ∃e,e<m/\e∉l:=by
 intro m;induction m with
 |zero=>omega
 |succ m a=>
  intro l h;by_cases c:m∈l
  ·have d:Qx l.filter (λx=>QV (x≠m))<QT:=by
    simp_all
   obtain⟨e,f,b⟩:=a _ (show(l.filter λx=>decide (x≠m)).length<m by omega);exact Qh e Qa (λq=>b (eh.mpr ⟨q,Tv⟩))
  ·grind
def k4(l:QU):Prop:=UL l (λa b=>a<b)
def DH{xs:SO Nat}(h:xs.toList[i]?=Qz):xs.getD i d=x:=by
 simp_all
structure Cut(l:QU)(j p:Nat):Prop where
 le:p<=QT
 lo:∀i x,i<p->l[i]?=Qz->x<j
 hi:∀i x,p<=i->l[i]?=Qz->j<=x
def k4.get(h:k4 l){i k x y:Nat}(c:i<k)(a:l[i]?=Qz)(b:l[k]?=V7):x<y:=by
 obtain⟨d,rfl⟩:=Zh a;obtain⟨e,rfl⟩:=Zh b;exact xB.mp h i k d e c
def ady(h:k4 QcU)(j:Nat):∀a lo hi,hi-lo<=a->lo<=hi->hi<=xs.toList.length->(∀i x,i<lo->xs.toList[i]?=Qz->x<j)->(∀i x,hi<=i->xs.toList[i]?=Qz->j<=x)->Cut QcU j (below.go xs j a lo hi):=by
 intro a;induction a with
 |zero=>
  intro lo hi m n b f g;have:lo=hi:=by omega
  subst this;exact Qh b f g
 |succ a l=>
  intro lo hi m n b f g;unfold below.go;by_cases c:lo<hi
  ·rw[(Tz)];dsimp only
   obtain⟨x,hx⟩:∃x,xs.toList[(lo+hi)/2]?=Qz:=V0 cN Qa;rw[DH hx];by_cases d:x<j
   ·rw[Qp d];refine l _ _ Qa Qa b (λi y p k=>?_) g;by_cases e:i=(lo+hi)/2
    ·grind
    ·exact xQ (h.get (show i<(lo+hi)/2 by omega) k hx) d
   ·rw[Qs d];refine l _ _ Qa Qa Qa f (λi y p k=>?_);by_cases e:i=(lo+hi)/2
    ·grind
    ·have:=h.get (show(lo+hi)/2<i by omega) hx k;omega
  ·rw[(Sk)];have:lo=hi:=by omega
   subst this;exact Qh b f g
def zc(h:k4 QcU)(j:Nat):Cut QcU j (below xs j):=by
 have e:xs.size=xs.toList.length:=by simp
 refine ady h j _ _ _ Qa (cG _) Qa (λi x hi=>QbB hi rF) (λi x hi hx=>?_);have:=Ub hx;omega
def Cut.found(hl:k4 l)(c:Cut l j p)(h:l[i]?=Qc j):p=i:=by
 have a:¬i<p:=λq=>XN (c.lo i j q h);have b:¬p<i:=λq=>by
  have d:=Ub h;obtain⟨x,hx⟩:∃x,l[p]?=Qz:=V0 cN Qa;have:=hl.get q hx h;have:=c.hi p x (aQ _) hx;omega
 omega
abbrev Ent:=Int×aJ
structure Lay(t:lF)(es:WV)(L:XU):Prop where
 pl:t.place.toList=L.map (·.1)
 en:es.toList=L.map (·.2)
 inc:k4 Qfh
 le:∀x∈L,x.1<=Q7
 nd:t.dummies= #[]
 pow:∃k,Q7+1=2^k/\3<=k/\k<=13
 bc:QP L Q7
def Lay.size(y:Lay t a L):t.place.size=Wt/\RH a=Wt:=by
 constructor
 ·rw[<-mF,y.pl,ak]
 ·rw[<-mF,y.en,ak]
def Lay.fits(y:Lay t a L):QJ t.fits a.size:=by
 have h:=y.size;simp [SetTable.fits,yt,y.nd,h.1,h.2];simpa using y.bc
def KP(j:Nat):has (#[]) j=Qb:=by
 rfl
def Lay.DI(y:Lay t b L)(h:L[i]?=Se j e):t.slot j= .live i:=by
 have a:QgU=Qc j:=by rw[y.pl,cY,h];rfl
 have hi:k4 t.place.toList:=by rw[y.pl];exact y.inc
 have c:=(zc hi j).found hi a;unfold slot;dsimp only;rw[c,<-km,a];simp
def Lay.KQ(y:Lay t b L)(h:Qdx x.1 j):t.slot j= .empty:=by
 unfold slot;have c:¬Qv (t.place[below t.place j]?==Qc j):=λq=>by
  have a:t.place.toList[below t.place j]?=Qc j:=by grind
  rw[y.pl]at a;obtain⟨x,hx,e⟩:=RM (bL a);exact h x hx e
 rw[(Sk),y.nd,KP];rfl
def sE(L:XU)(j:Nat):Prop:= ∃e,(j,e)∈L
def Lay.DJ(y:Lay t a L)(j:Nat):(∃i e,L[i]?=Se j e/\t.slot j= .live i)\/((Qdx x.1 j)/\t.slot j= .empty):=by
 by_cases h:∃x∈L,x.1=j
 ·obtain⟨x,hx,e⟩:=h;obtain⟨i,hi⟩:=ko.mp hx;exact Qq ⟨i,x.2,by rw[hi,<-e],y.DI (by rw[hi,<-e])⟩
 ·refine WA (λx hx e=>TZ h x hx e) (y.KQ (λx hx e=>TZ h x hx e))
structure vy(mask:Nat)(L:XU)(h:Int)(N:Nat):Prop where
 free:Qdx x.1 (br mask h N).j
 full:∀m,m<N->sE L (br mask h m).j
def least{P:Q5 Nat}:∀n,P n-> ∃m,m<=n/\P m/\ ∀k,k<m-> ¬P k:=by
 intro n;induction n using Nat.strongRecOn with
 |_ n a=>
  grind
def Lay.KR(y:Lay t b L)(h:Int):∃N,N<=10*(Q7+12)/\vy Q7 L h N:=by
 obtain⟨k,a,_⟩:=y.pow;obtain⟨e,i,d⟩:=gap (Q7+1) Qfh (by rw[ak];have:=y.bc;omega);obtain⟨n,l,o⟩:=cover a h (show e<=t.mask by omega);obtain⟨m,p,f,g⟩:=least (P:=λn=>Qdx x.1 (br Q7 h n).j) n (λx hx q=>d Qm);refine⟨m,Qa,f,λk a=>?_⟩;by_cases c:∃x∈L,x.1=(br Q7 h k).j
 ·obtain⟨x,hx,e⟩:=c;exact Qe x.2 (by rw[<-e];exact hx)
 ·grind
def Reach(a:Nat)(L:XU)(h:Int)(j:Nat):Prop:= ∃n,(br a h n).j=j/\ ∀m,m<n->sE L (br a h m).j
def Good(a:Nat)(L:XU):Prop:= ∀x∈L,Reach a L x.2.1 x.1
def Reach.lt(r:Reach a L h j)(f:vy a L h N)(o:sE L j):∃n,n<N/\(br a h n).j=j:=by
 obtain⟨n,e,g⟩:=r;refine Qh n ?_ e;by_cases c:n<N
 ·exact c
 ·exfalso
  by_cases d:N=n
  ·subst d;obtain⟨z,b⟩:=o;exact f.free _ b Qd5
  ·obtain⟨z,b⟩:=g N Qa;exact f.free _ b rfl
def vz(a:Nat)(L:XU)(h:Int)(m:Nat):Prop:=(Qdx x.1 (br a h m).j)\/ ∃e,((br a h m).j,e)∈L/\e.1=h
def adz(y:Lay t u L)(v:∀i x,L[i]?=Qz->hashAt i=x.2.1)(h:Int):∀d a n,d<a->vz Q7 L h (n+d)->(∀m,n<=m->m<n+d-> ¬vz t.mask L h m)->u0 t hashAt h a (br Q7 h n)=(match t.slot (br Q7 h (n+d)).j with
   | .live i=>Wg .candidate (br Q7 h (n+d)).j i (br Q7 h (n+d+1))
   |_=>Rz .empty (br Q7 h (n+d)).j none):=by
 intro d;induction d with
 |zero=>
  intro a n w hit _;obtain⟨a,rfl⟩:∃f,a=f+1:=Z3 (a-1);unfold u0;rcases y.DJ _ with⟨i,e,hi,hs⟩|⟨k,hs⟩
  ·rw[hs];dsimp only;have b:Qv (hashAt i==h):=by
    rw[v i _ hi];rcases hit with q|⟨z,A,q⟩
    ·grind
    ·have:z=e:=by
      obtain⟨g,l⟩:=ko.mp A;have o:(L.map (·.1))[i]?=some (br t.mask h n).j:=by grind
      have p:(L.map (·.1))[g]?=some (br t.mask h n).j:=by grind
      have:i=g:=by
       rcases B2 i g with c|c|c
       ·exact XN (y.inc.get c o p)
       ·exact c
       ·exact XN (y.inc.get c p o)
      subst this;rw[hi]at l;cases l;rfl
     subst this;exact beq_iff_eq.mpr q
   rw[Qp b,show t.slot (br _ h (n+0)).j= .live i from hs];rfl
  ·rw[hs];rw[(DG _ h n).2,show t.slot (br _ h (n+0)).j= .empty from hs];rfl
 |succ d B=>
  intro a n w hit r;obtain⟨a,rfl⟩:∃f,a=f+1:=Z3 (a-1);have s:=r n (aQ _) Qa;unfold u0;rcases y.DJ _ with⟨i,e,hi,hs⟩|⟨k,hs⟩
  ·rw[hs];dsimp only;rw[Qbx (s (Qy ⟨e,bL hi,Qm⟩)),adt];have:=B a (n+1) Qa Qm (λm C D=>r m Qa Qa);rw[show n+(d+1)=n+1+d by omega];exact this
  ·exact Rk (Qq k) s
def ins(j:Nat)(e:Ent)(L:XU)(p:Nat):XU:=Rf L p++(j,e)::L.drop p
def KS(xs:SO a)(p:Nat)(x:a)(b:p<=xs.size):TH (qd xs p x)=xs.toList.take p++x::xs.toList.drop p:=by
 unfold qd;simp[];exact ur Qj
def DK:x∈ins j e L p↔x=(j,e)\/x∈L:=by
 unfold ins;rw[gg,kn];constructor
 ·grind
 ·rintro(h|h)
  ·exact Qay h
  ·rw[<-n8 p L,gg]at h;rcases h with h|h
   ·exact Qq h
   ·exact Qy (Qy h)
def zd:(ins j e L p).Perm ((j,e)::L):=by
 have h:=List.perm_middle (a:=(j,e)) (l₁:=Rf L p) (l₂:=L.drop p);rw[n8]at h;exact h
def Cut.ins(hl:k4 l)(c:Cut l j p)(d:j∉l):k4 (Rf l p++j::l.drop p):=by
 refine BP.mpr ⟨Iv (rr _ _) hl,kr.mpr ⟨Sv (by obtain⟨i,hi⟩:=ko.mp hx;rw[rq]at hi;have:=c.hi (p+i) x (by omega) hi;have:x≠j:=λq=>d (q▸bL hi);omega),Iv (List.drop_sublist _ _) hl⟩,λx hx z a=>?_⟩
 ·obtain⟨i,hi⟩:=ko.mp hx;rw[List.getElem?_take]at hi;split at hi
  ·have e:=c.lo i x Qa hi;rcases RA a with rfl|a
   ·exact e
   ·obtain⟨k,b⟩:=ko.mp a;rw[rq]at b;have:=c.hi (p+k) z Qa b;omega
  ·cases hi
def Lay.put(y:Lay t a L)(hj:j<=Q7)(d:Qdx x.1 j)(bc:Wt+1<=Q7):
  Lay (t.put j).1 (qd a (t.put j).2 e) (ins j e L (t.put j).2):=by
 have c:=zc (by rw[y.pl];exact y.inc) j;have cl:(t.put j).2<=Wt:=by have:=c.le;rw[y.pl,ak]at this;exact this
 have sz:=y.size;refine⟨by show(qd _ (t.put j).2 j).toList=_;rw[KS _ _ _ (by omega),y.pl];unfold ins;rw[bO,cg,mH,mI],by rw[KS _ _ _ (by omega),y.en];unfold ins;rw[bO,cg,mH,mI],?_,?_,by show(if has _ j then _ else t.dummies)=#[];rw[y.nd,KP];rfl,y.pow,by rw[zd.length_eq];exact bc⟩
 ·have b:Cut Qfh j (t.put j).2:=by rw[<-y.pl];exact c
  unfold ins;rw[bO,cg,mH,mI];exact b.ins y.inc (λq=>by
   grind)
 ·intro x hx;rcases DK.mp hx with rfl|hx
  ·exact hj
  ·exact y.le x hx
def KU(h:sE L k):sE (ins j e L p) k:=by
 obtain⟨z,a⟩:=h;exact Qe z (DK.mpr (Qy a))
def Good.ins(g:Good a L)(f:vy a L e.1 N):Good a (TB.ins (br a e.1 N).j e L p):=by
 intro x hx;rcases DK.mp hx with rfl|hx
 ·exact Ss N (λm b=>KU (f.full m b))
 ·obtain⟨n,c,d⟩:=g x hx;exact Qh n c (λm b=>KU (d m b))
def own(o:SO QbT)(j:Nat):QbT:=RG o j none
def KW(sz:RH o=a+1)(hj:j<=a)(i x:Nat):own (o.setIfInBounds j (Qc i)) x=if x=j then some i else own o x:=by
 unfold own;rw[ui,ui,Array.getElem?_setIfInBounds];by_cases c:x=j
 ·grind
 ·grind
def adA:∀n,match(dd n).find? p with
  |some d=>d<n/\QJ p d/\ ∀m,m<d->p m=Qb
  |none=>∀m,m<n->p m=Qb:=by
 intro n;cases h:(dd n).find? p with
 |none=>
  grind
 |some d=>
  simp_all
def adB(D:a+1=2^u)(sz:RH o=a+1)(h:Int)(v:e<=a)(w:own o e=none):∀f q b,(∃Q,Q<=q+f/\q<=Q/\Q<q+f/\(a' a h Q).1=e)->br a h b=at_ a (a' a h q) 0->(∀m,m<b->YD (own o (br a h m).j))-> ∃n,rW a o f (a' a h q).1 (a' a h q).2=Qc (br a h n).j/\own o (br a h n).j=none/\ ∀m,m<n->YD (own o (br a h m).j):=by
 intro f;induction f with
 |zero=>omega
 |succ f x=>
  intro q b⟨Q,E,F,G,r⟩y s;have z:=DC a (a' a h q).1;have A:=DF a h q;have go:∀d,d<=gq a (a' a h q).1-(a' a h q).1->br a h (b+d)=at_ a (a' a h q) d:=by
   intro d;induction d with
   |zero=>exact RC y
   |succ d B=>intro hd;show j3 a (br a h (b+d))=_;rw[B Qa,DD Qa]
  have i:∀j,j<=a->(RG o j (Qc 0)).isNone=!(own o j).isSome:=by
   intro j I;unfold own;rw[ui,ui,xw Qa];simp
  unfold rW;have fr:=adA (p:=λk=>(RG o ((a' a h q).1+k) (Qc 0)).isNone) (gq a (a' a h q).1+1-(a' a h q).1);cases t:(dd _).find? _ with
  |some d=>
   rw[t]at fr;obtain⟨f1,f2,f3⟩:=fr;refine⟨b+d,by rw[go d (by omega)];rfl,by rw[go d (by omega)];show own o ((a' a h q).1+d)=none;rw[i _ (by omega)]at f2;simpa using f2,?_⟩
   ·intro m C;by_cases c:m<b
    ·exact s m c
    ·have g:=f3 (m-b) Qa;rw[i _ Qa]at g;have l:br a h m=at_ a (a' a h q) (m-b):=by rw[<-go _ Qa];congr 1;omega
     rw[l];show YD (own o ((a' a h q).1+(m-b)));simpa using g
  |none=>
   rw[t]at fr;have J:q≠Q:=λc=>by
    subst c;have:=fr 0 Qa;rw[Nat.add_zero,r,i _ v,w]at this;cases this
   show∃n,rW a o f _ _=_/\_;refine x (q+1) (b+(gq a _-(a' a h q).1)+1) ⟨Q,Qa,Qa,Qa,r⟩ (by show j3 a _=_;rw[go _ (aQ _),DE];rfl) ?_
   ·intro m C;by_cases c:m<b
    ·exact s m c
    ·have g:=fr (m-b) Qa;rw[i _ Qa]at g;have l:br a h m=at_ a (a' a h q) (m-b):=by rw[<-go _ Qa];congr 1;omega
     rw[l];show YD (own o ((a' a h q).1+(m-b)));simpa using g
def adC(b:a+1=2^d)(sz:RH o=a+1)(h:Int)(f:e<=a)(g:own o e=none):
  ∃n,rW a o (yu a) (bits h%(a+1)) (bits h)=Qc (br a h n).j/\own o (br a h n).j=none/\ ∀m,m<n->YD (own o (br a h m).j):=by
 obtain⟨n,i,c⟩:=KN d _ e;rw[<-b]at i c;rw[B3 (show e<a+1 by omega),<-KO]at c;exact adB b sz h f g _ 0 0 ⟨12+n,QgK,Qa,QgK,c⟩ QgJ (λm b=>QbB b rF)
structure Own(mask:Nat)(hs:Qo)(o:SO QbT)(sl:QU):Prop where
 sz:RH o=mask+1
 iff:∀j i,own o j=Qc i↔sl[i]?=Qc j
 le:∀j∈sl,j<=mask
 reach:∀(i j:Nat)(h:Int),sl[i]?=Qc j->hs[i]?=Qc h-> ∃n,(br mask h n).j=j/\ ∀m,m<n->YD (own o (br mask h m).j)
def adD(a:Nat)(hs:Qo):Own a hs (xy (a+1) none) []:=by
 have e:∀j,own (xy (a+1) none) j=none:=λj=>by
  unfold own;rw[ui,Array.getElem?_replicate];split<;>rfl
 refine⟨Qj,λj i=>?_,λj h=>by simp at h,λi j h q=>by simp at q⟩;rw[e];simp
def ze(a:Nat)(acc:Ri (SO QbT×Nat))(h:Int):Ri (SO QbT×Nat):=do
 let(owner,k)<-acc
 let j<-rW a owner (yu a) (bits h%(a+1)) (bits h)
 Sy (owner.setIfInBounds j XY,k+1)
def adE(r:a+1=2^p)(hs:Qo)(bc:Ug<=a):∀rs b o sl,hs=b++rs->sl.length=WW->Own a hs o sl-> ∃d f,rs.foldl (ze a) (Se o WW)=Se d Ug/\Own a hs d f/\Qn f=Ug:=by
 intro rs;induction rs with
 |nil=>
  grind
 |cons h rs s=>
  intro b o sl e hl w;have E:WW<Ug:=by rw[e];simp
  obtain⟨x,hx,t⟩:=gap (a+1) sl Qa;have u:own o x=none:=by
   cases q:own o x with
   |none=>rfl
   |some i=>exact Rk (bL ((w.iff x i).mp q)) t
  obtain⟨n,v,k,F⟩:=adC r w.sz h (show x<=a by omega) u;have l:=(DG a h n).1;have st:ze a (Se o WW) h=Qc (o.setIfInBounds (br a h n).j (Qc WW),WW+1):=by
   show(do let j<-rW a o _ _ _;pure _)=_;rw[v];rfl
  rw[xH,st]
  have G:(br a h n).j∉sl:=λq=>by
   obtain⟨i,hi⟩:=ko.mp q;rw[(w.iff _ i).mpr hi]at k;cases k
  have keep:∀j,YD (own o j)->YD (own (o.setIfInBounds _ (Qc WW)) j):=λj q=>by
   rw[KW w.sz l];split
   ·rfl
   ·exact q
  have y:Own a hs (o.setIfInBounds (br a h n).j (Qc WW)) (sl++[(br a h n).j]):=by
   refine⟨by rw[Array.size_setIfInBounds];exact w.sz,λj i=>?_,λj z=>?_,λi j g hi hg=>?_⟩
   ·rw[KW w.sz l];by_cases c:j=(br a h n).j
    ·grind
    ·rw[(Sk),w.iff,List.getElem?_append];split
     ·exact jG
     ·grind
   ·rcases Vd z with q|q
    ·exact w.le j q
    ·grind
   ·rw[List.getElem?_append]at hi;split at hi
    ·obtain⟨m,A,B⟩:=w.reach i j g hi hg;exact Qh m A (λC D=>keep _ (B C D))
    ·grind
  have:=s (b++[h]) _ _ QdM (by simp[hl]) y;simpa using this
def oU(a:Nat)(o:SO QbT):QbM Nat:=TV (dd (a+1)) (λj=>(o.getD j none).map (j,·))
def DM:x∈oU a o↔x.1<=a/\own o x.1=Qc x.2:=by
 unfold oU own;rw[gk];constructor
 ·rintro⟨j,b,e⟩;obtain⟨i,c,d⟩:=mK.mp e;subst d;exact Qe (B1 (fO.mp b)) c
 ·grind
def adF(c:Nat)(o:SO _):UL (oU c o) (λa b=>a.1<b.1):=by
 unfold oU;rw[List.pairwise_filterMap];refine Iw (λ{a b}d x hx y e=>?_) List.pairwise_lt_range;obtain⟨i,_,f⟩:=mK.mp hx;obtain⟨k,_,g⟩:=mK.mp e;subst f g;exact d
def KY{mask g}(k:mask+1=2^g)(C:3<=g/\g<=13)(c:WV)(bc:RH c<=mask)(finger moves:Nat)(led plain:Bool):
  ∃t u L,SetTable.laid mask finger moves led plain (c.map (·.1))=some (t,u)/\(t.mask=mask/\t.led=led/\t.plain=plain/\t.finger=finger/\t.moves=moves)/\Lay t (u.filterMap (c[·]?)) L/\Good mask L/\(L.map (·.2)).Perm c.toList:=by
 have D:(c.toList.map (·.1)).length=c.size:=by simp
 obtain⟨o,sl,E,w,hl⟩:=adE k (c.toList.map (·.1)) Qa (c.toList.map (·.1)) [] _ [] rfl rfl (adD mask _);have F:layClean mask (c.map (·.1))=some o:=by
  have e:(c.map (·.1)).foldl (ze mask) (some (xy (mask+1) none,0))=some (o,(c.toList.map (·.1)).length):=by
   rw[<-Array.foldl_toList,Array.toList_map];exact E
  show((c.map (·.1)).foldl (ze mask) (some (xy (mask+1) none,0))).map (·.1)=some o;rw[e];rfl
 have v:∀x∈oU mask o,x.2<Qbh c:=Sv (by
  have:=Ub ((w.iff _ _).mp (DM.mp hx).2);rw[hl,D]at this;simpa using this)
 let L:=TV (oU mask o) (λx=>QG (c[x.2]?) (λe=>(x.1,e)))
 have p:∀y,y∈L↔ ∃i,own o y.1=Qc i/\c[i]?=Qc y.2:=by
  intro y;constructor
  ·intro h;obtain⟨x,hx,e⟩:=gk.mp h;obtain⟨z,d,f⟩:=mK.mp e;subst f;exact Qh x.2 (DM.mp hx).2 d
  ·rintro⟨i,d,f⟩;refine gk.mpr ⟨(y.1,i),DM.mpr ⟨w.le _ (bL ((w.iff _ _).mp d)),d⟩,?_⟩;rw[f];rfl
 have pairs:∀l:QbM Nat,(∀x∈l,x.2<Qbh c)->(l.filterMap λx=>(c[x.2]?).map λe=>(x.1,e)).map (·.1)=l.map (·.1)/\
   (l.filterMap λx=>(c[x.2]?).map λe=>(x.1,e)).map (·.2)=(l.map (·.2)).filterMap (c[·]?):=by
  intro l;induction l with
  |nil=>exact λ_=>Vh
  |cons x l T=>
   grind
 have r:=pairs _ v;have A:k4 Qfh:=by
  rw[r.1];exact We (adF mask o)
 have G:L.Nodup:=Iw (λ{a b}h q=>Qm) (iC.mp A);let Z:=sl.zip (TH c)
 have H:sl.length=Qbh c:=by simpa using hl
 have I:∀y,y∈Z↔ ∃i:Nat,sl[i]?=Qc y.1/\c[i]?=Qc y.2:=by
  intro y;constructor
  ·intro h;obtain⟨i,hi⟩:=ko.mp h;rw[Ip]at hi;exact Qh i hi.1 Qm
  ·rintro⟨i,d,f⟩;refine ko.mpr (Q_ i);rw[Ip];exact Qe d Qm
 have U:sl.Nodup:=by
  refine xB.mpr (λi j hi V J q=>?_);have f:=(w.iff (sl[i]) j).mpr Qm;rw[((w.iff (sl[i]) i).mpr (cN hi))]at f;cases f;exact XN J
 have W:Z.map (·.1)=sl:=List.map_fst_zip Qa;have K:Z.map (·.2)=c.toList:=List.map_snd_zip Qa;have M:Z.Nodup:=by
  grind
 have N:=(lr G M).mpr (λy=>by
  rw[p,I];constructor
  ·rintro⟨i,d,f⟩;exact Qh i ((w.iff _ _).mp d) f
  ·rintro⟨i,d,f⟩;exact Qh i ((w.iff _ _).mpr d) f)
 have B:((L.map (·.2)).Perm) (TH c):=by rw[<-K];exact VA N
 have O:=by
  have:=B.length_eq;simpa using this
 have P:∀j,YD (own o j)->sE L j:=λj q=>by
  obtain⟨i,hi⟩:=IA.mp q;have v:=Ub ((w.iff _ _).mp hi);obtain⟨e,Q⟩:∃e,c[i]?=Xr:=V0 xw Qa;exact Qe e (TZ (p (j,e)).mpr i hi Q)
 refine⟨{mask,place:=((oU mask o).map (·.1)).toArray,dummies:=#[],finger,led,moves,plain},((oU mask o).map (·.2)).toArray,L,by unfold SetTable.laid;rw[F];rfl,RF rfl rfl rfl rfl,⟨r.1.symm,by rw[r.2];simp,A,by intro y s;obtain⟨i,d,_⟩:=(p y).mp s;exact w.le _ (bL ((w.iff _ _).mp d)),rfl,Qh g k C,by rw[O];exact bc⟩,by intro y s;obtain⟨i,d,f⟩:=(p y).mp s;obtain⟨n,R,S⟩:=w.reach i y.1 y.2.1 ((w.iff _ _).mp d) (by grind);exact⟨n,R,λm k=>P _ (S m k)⟩,B⟩
end TB
namespace NT
open PySem PySem.Spec PyProof.Rows TB
def dD(h:Heap)(e:Ent)(k:Nk):Prop:= ∃q,e=((hv k).1,bD q)/\TY k/\(rel h k).1 UD
def dD.keep(kp:kR h h')(x:dD h e k):dD h' e k:=by
 obtain⟨q,a,b,c⟩:=x;exact⟨q,a,b,(m7 kp k).1 _ c⟩
def dD.inj(x:dD h e k)(y:dD h e a):k=a:=by
 obtain⟨q,b,_,c⟩:=x;obtain⟨d,f,_,g⟩:=y;have:q=d:=by grind
 subst this;exact(r6 k a).1 _ c g
structure bU(h:Heap)(El:ZJ)(S:UE):Prop where
 mem:∀k,k∈S↔ ∃e∈El,dD h e k
 all:∀e∈El,∃k,dD h e k
 zf:El.Pairwise (λx y=> ∀k,dD h x k-> ¬dD h y k)
 len:El.length=TR
 nd:S.Nodup
def bU.nil:bU h [] []:=Rl Qd9 (λe a=>by simp at a) .nil jf
def bU.perm(x:bU h d S)(p:d.Perm f):bU h f S:=
 ⟨λk=>XE x.mem k ⟨Qgf e (X_ p c) q,Qgf e (Qdm p c) q⟩,λe c=>x.all e (Qdm p c),p.pairwise x.zf (λ{a b}g k i j=>g k j i),p.length_eq.symm.trans x.len,x.nd⟩
def bU.cons{h:Heap}{g:ZJ}{S:UE}(x:bU h g S){e:Ent}{k:Nk}(f:dD h e k)(i:k∉S):bU h (e::g) (S++[k]):=by
 refine⟨Qae,λd c=>?_,kr.mpr ⟨λd c l a b=>by have:=f.inj a;subst this;exact i ((x.mem k).mpr ⟨d,c,b⟩),x.zf⟩,by simp[x.len],by refine je.mpr ⟨x.nd,by simp,?_⟩;intro a m b j;simp at j;subst j;intro q;subst q;exact i m⟩
 ·rw[gg,x.mem];constructor
  ·grind
  ·rintro⟨d,c,q⟩;rcases RA c with rfl|c
   ·exact Qy (by simp;exact(f.inj q).symm)
   ·exact Qq (Qh d c q)
 ·rcases RA c with rfl|c
  ·exact Qe k f
  ·exact x.all d c
def bU.keep(kp:kR h h')(x:bU h d S):bU h' d S:=by
 have back:∀e∈d,∀k,dD h' e k->dD h e k:=λe c k q=>by
  obtain⟨n,f⟩:=x.all e c;have:=(QY f kp).inj q;subst this;exact f
 exact⟨λk=>XE x.mem k ⟨Qgf e c (QY q kp),Qgf e c (back e c k q)⟩,λe c=>by obtain⟨k,q⟩:=x.all e c;exact⟨k,q.keep kp⟩,uA (λ{a b}g i j k l m=>j k (back a g k l) (back b i k m)) x.zf,x.len,x.nd⟩
structure hh(bt:Bool)(h:Heap)(o:Obj)(S:UE)(es:WV)(ep:Nat)(t:lF)(L:XU):Prop where
 ex:o.ExactSet
 dat:Si= .set es ep t
 lay:Lay t es L
 good:Good Q7 L
 ents:bU h Qfi S
 room:Wt*5<Q7*3
 bc:QP S 2000
 pl:Qv t.plain
 ld:t.led=!bt
def hh.len(x:hh bt h o S a b t L):Wt=TR:=by
 have:=x.ents.len;rwa [ak]at this
def hh.odd(x:hh bt h o S b c t L):t.gaveWay=Qb:=by
 obtain⟨k,d,e,_⟩:=x.lay.pow;obtain⟨a,rfl⟩:∃a,k=a+1:=Z3 (k-1);unfold SetTable.gaveWay;have:¬Q7%2=0:=by omega
 simpa using this
def hh.big(x:hh bt h o S c d t L):7<=Q7/\Q7<=8191:=by
 obtain⟨k,g,e,f⟩:=x.lay.pow;have a:2^3<=2^k:=rD QD e;have b:2^k<=2^13:=rD QD f
 omega
section
variable{prog:aO}{w:aA}
def zg(prog:aO)(w:aA)(k:Nk):Prop:= ∀A E s v d Q,dp k<=d->(rel Ql k).1 v->Q Qb s->aj QA A (B_ d v) Q E s
def KZ(ht:Y5)(p:gu (XP zg) k):zg prog w k:=λA E s v d Q G q h=>by
 have H:=CB ht;obtain⟨a,o,t,n,rfl,j,x,hd,hi⟩:=(kQ ht).1 q;obtain⟨d,rfl⟩:∃z,d=z+1:=Z3 (d-1);unfold B_;refine ab (ye (SF j x) ?_);refine ab (ah ?_);refine ab (x_ j hd ?_);refine ab ?_;rw[<-n4];refine mL _ (λl r c=>r.1=none/\c=s/\ ∃b,gu _ b/\dp b<=dp k/\(rel _ b).2 l) _ ?_ (by rintro⟨J,K⟩c⟨f,rfl,_⟩;subst f;exact ah h) _ _ ⟨rfl,rfl,k,p,aQ _,hi⟩
 ·rintro v l r c⟨f,rfl,b,hl,B,g⟩;cases b with
  |i n=>exact cP g
  |nil=>cases g
  |cons C m=>
   obtain⟨u,I,e,D,F⟩:=g;injection e with e1 e2;subst e1 e2;exact ab (hl.1 A _ _ _ d _ (by have:=r8 (a:=C) (r:=m);omega) D (by exact ah ⟨rfl,rfl,m,hl.2,bp r9 B,F⟩))
def zh:∀k,VX k->zg prog w k/\gu (XP zg) k
 | .i n,_=>Qhl (by
   obtain⟨t,rfl⟩:=e;unfold B_;exact ah h)
 | .nil,_=>Qbw (KZ rfl RQ)
 | .cons a r,o1=>by
  rw[ok,bX,bX]at o1;have b:=(zh a o1.1).1;have c:=(zh r o1.2.2).2;exact Qh (KZ o1.2.1 (Qe b c)) b c
def zi(prog:aO)(w:aA)(k:Nk):Prop:= ∀A E s v d Q,dp k<=d->(rel Ql k).1 v->X6 Q s->aj QA A (hashByValue d v) Q E s
def K0(ht:Y5)(p:gu (XP zi) k):zi prog w k:=λA E s v d Q H q h=>by
 have I:=CB ht;obtain⟨a,o,t,n,rfl,j,x,hd,hi⟩:=(kQ ht).1 q;obtain⟨d,rfl⟩:∃z,d=z+1:=Z3 (d-1);refine ab (mN (SF j x) uY.lookup ?_);refine ab (x_ j hd (ab ?_));rw[<-n4];refine mL _ (λl r c=>r.1=none/\c=s/\ ∃b,gu _ b/\dp b<=dp k/\(rel _ b).2 l) _ ?_ (by rintro⟨K,L⟩c⟨f,rfl,_⟩;subst f;exact ah h) _ _ ⟨rfl,rfl,k,p,aQ _,hi⟩
 ·rintro v l r c⟨f,rfl,b,hl,B,g⟩;cases b with
  |i n=>exact cP g
  |nil=>cases g
  |cons C m=>
   obtain⟨u,J,e,D,G⟩:=g;injection e with e1 e2;subst e1 e2;exact ab (hl.1 A _ _ _ d _ (by have:=r8 (a:=C) (r:=m);omega) D (by exact ah ⟨rfl,rfl,m,hl.2,bp r9 B,G⟩))
def DN:∀k,VX k->zi prog w k/\gu (XP zi) k
 | .i n,_=>Qhl (by
   obtain⟨t,rfl⟩:=e;cases d<;>exact ah h)
 | .nil,_=>Qbw (K0 rfl RQ)
 | .cons a r,o1=>by
  rw[ok,bX,bX]at o1;have b:=(DN a o1.1).1;have c:=(DN r o1.2.2).2;exact Qh (K0 o1.2.1 (Qe b c)) b c
def adG(g:TY k)(i:(rel Ql k).1 UD)(h:Q Qb s):
  ∀stored,(∀y∈stored,∃a,TY a/\(rel Ql a).1 y)->aj QA A (U7 searchCouldBeSeen q stored) Q E s:=by
 intro stored b;refine ab (mL _ (λe r c=>r.1=none/\c=s/\ ∀y∈e,∃a,TY a/\(rel _ a).1 y) _ ?_ (by rintro⟨n,o⟩c⟨f,rfl,_⟩;subst f;exact ah h) _ _ (QdA b))
 ·rintro y e r c⟨f,rfl,b⟩;obtain⟨a,m,j⟩:=b y Ru;have l:=Sv (b x (bP _ hx));have o1:=d_ g;have d:=d_ m;dsimp only;split<;>split
  all_goals first
   |exact ah (QdA l)
   |(refine ab ((vb k o1.1).1 _ _ _ _ 8 _ (bp o1.2.2 QD) i ?_);refine ab ((vb a d.1).1 _ _ _ _ 8 _ (bp d.2.2 QD) j ?_);refine ab ((zh k o1.1).1 _ _ _ _ 8 _ (bp o1.2.2 QD) i ?_);refine ab ((zh a d.1).1 _ _ _ _ 8 _ (bp d.2.2 QD) j ?_);exact ah (QdA l))
end
section
variable{prog:aO}{w:aA}{A:di}{E:SR}{s:bH}{a q:Addr}{o:Obj}{S:UE}{es:WV}{ep:Nat}{t:lF}{L:XU}{k:Nk}{bt:Bool}
def K1{a}(y:Lay t a L){i:Nat}(h:L[i]?=Qz):a[i]?=Qc x.2:=by
 rw[<-km,y.en,cY,h];rfl
def adH(y:hh bt Ql o S es ep t L)(B:N<=10*(Q7+12))(f:vy Q7 L (hv k).1 N)(C:n<=N):
  ∃m,n<=m/\m<=N/\(∀x,n<=x->x<m-> ¬vz t.mask L (hv k).1 x)/\
   ((m=N/\t.probe (λi=>(es[i]?.map (·.1)).getD 0) (hv k).1 (br t.mask (hv k).1 n)=some (.empty (br t.mask (hv k).1 N).j none))\/
    (m<N/\∃i e,L[i]?=Se (br Q7 (hv k).1 m).j e/\e.1=(hv k).1/\t.slot (br Q7 (hv k).1 m).j= .live i/\
     t.probe (λi=>(es[i]?.map (·.1)).getD 0) (hv k).1 (br t.mask (hv k).1 n)=some (.candidate (br t.mask (hv k).1 m).j i (br t.mask (hv k).1 (m+1))))):=by
 obtain⟨d,D,h,r⟩:=least (P:=λd=>vz _ L _ (n+d)) _ (Qq (by rw[show n+(N- n)=N by omega];exact f.free));have l:∀x,n<=x->x<n+d-> ¬vz _ L _ x:=λx a b=>by
  have:=r (x-n) Qa;rwa [show n+(x-n)=x by omega]at this
 refine⟨n+d,Qa,Qa,l,?_⟩;have p:=adz y.lay (hashAt:=λi=>(VA (es[i]?)).getD 0) (λi x hx=>by rw[K1 y.lay hx];rfl) _ d (10*yu Q7) n QgK h l;by_cases c:n+d=N
 ·refine Qq (Q_ c);show u0 t _ _ _ _=_;rw[p,c,y.lay.KQ f.free]
 ·rcases y.lay.DJ _ with⟨i,e,hi,hs⟩|⟨v,_⟩
  ·refine Qy ⟨Qa,i,e,hi,?_,hs,by show u0 t _ _ _ _=_;rw[p,hs]⟩
   ·rcases h with q|⟨E,w,q⟩
    ·grind
    ·obtain⟨F,g⟩:=ko.mp w;have:=y.lay.DI g;rw[hs]at this;cases this;rw[hi]at g;cases g;exact q
  ·obtain⟨z,A⟩:=(f.full (n+d) Qa);exact Wz (v _ A)
def K2(U:RV a=Qi)(y:hh bt Ql o S es ep t L)(g:TY k)(V:(rel Ql k).1 UD)(hu:RS+4<bf)(hN:N<=10*(Q7+12))(f:vy Q7 L (hv k).1 N)
  (p:Bool)(there:∀i x,L[i]?=Qz->dD Ql x.2 k->Q (.there (if p=true then none else some i)) s)(free:k∉S->Q (.free (br Q7 (hv k).1 N).j Qb) s):
  ∀b n u,N-n<b->n<=N->u.getD (t.probeStart (hv k).1)=br Q7 (hv k).1 n->(∀m e,m<n->((br Q7 (hv k).1 m).j,e)∈L-> ¬dD s.heap e k)->aj QA A (setSearchFrom a UD (hv k).1 p b u) Q E s:=by
 intro b;induction b with
 |zero=>intro n u h;omega
 |succ b ih=>
  intro n u hf hn aq W;refine ab (hX U TC VF ?_);dsimp only;rw[y.odd];simp only[mG,if_false];obtain⟨m,hm1,hm2,X,Y⟩:=adH y hN f hn;split
  ·rename_i met hmet;have B:t.probe (λi=>(es[i]?.map (·.1)).getD 0) (hv k).1 (br t.mask (hv k).1 n)=some met:=by rw[<-aq];exact hmet
   rcases Y with⟨rfl,d⟩|⟨hlt,i,e,hi,Z,hs,d⟩
   ·rw[d]at B;cases B;refine ah (free (λhS=>?_));obtain⟨e,Z,C⟩:=(y.ents.mem k).mp hS;obtain⟨x,hx,rfl⟩:=RM Z;have hxh:x.2.1=(hv k).1:=by obtain⟨H,l,_⟩:=C;rw[l]
    have hr:=y.good x hx;rw[hxh]at hr;obtain⟨D,hn',hj⟩:=hr.lt f (Qe x.2 hx);have hx2:((br Q7 (hv k).1 D).j,x.2)∈L:=by rw[hj];exact hx
    by_cases c:D<n
    ·exact W D x.2 c hx2 C
    ·exact X D Qa hn' (Qy (Qh x.2 hx2 hxh))
   ·rw[d]at B;cases B;dsimp only;have F:=K1 y.lay hi;obtain⟨I,C⟩:=y.ents.all e (Qbt _ (bL hi));obtain⟨H,l,J,K⟩:=C;have cont:aj QA A (do
      let equal<-qb [e.2] (eqBool e.2 UD)
      let(es',_,t')<-setState a
      if p&&equal then return .there none
      let Qc same:=t'.sameMemory t.moves Q7|unsupported "set.changed-during-lookup:is-the-new-block-at-the-old-address"
      let still<-match(if same then t'.slot (br t.mask (hv k).1 m).j else .empty)with
       | .live r=>match es'[r]? with
        |some (_,y')=>do Sy (if<-isSame y' e.2 then some r else none)
        |none=>Sy none
       |_=>Sy none
      match still with
      |none=>rule "set.search.anew";setSearchFrom a UD (hv k).1 p b none
      |some r=>if equal then return .there (Qc r)else setSearchFrom a UD (hv k).1 p b (Wg br Q7 (hv k).1 (m+1))) Q E s:=by
     rw[l];have o1:=d_ g;have o2:=d_ J;refine ab (fj (va o2.1 o1.1 Qa K V ?_));refine ab (hX U TC VF ?_);have sm:t.sameMemory t.moves Q7=QbV:=by unfold SetTable.sameMemory;simp
     by_cases M:I=k
     ·subst M;have th:=there i _ hi ⟨H,l,J,K⟩;cases p with
      |true=>
       simp only[decide_true,Bool.and_self,if_true];exact ah (by simpa using th)
      |false=>
       simp only[BH,mG,if_false];rw[sm];simp only[if_true];rw[hs];dsimp only;rw[F,l];refine ab (wpAny_isSame_ref_self ?_);refine ab (ah ?_);exact ah (by simpa using th)
     ·have dk:=TK M;rw[dk];simp only[BI,mG,if_false];rw[sm];simp only[if_true];rw[hs];dsimp only;rw[F,l];refine ab (wpAny_isSame_ref_self ?_);simp only[if_true];refine ab (ah ?_);refine ih (m+1) _ Qa Qa rfl (λG O hm' P R=>?_);by_cases c:G<n
      ·exact W G O c P R
      ·by_cases c2:G=m
       ·subst c2;obtain⟨r,T⟩:=ko.mp P;have:=y.lay.DI T;rw[hs]at this;cases this;rw[hi]at T;cases T;exact M ((show dD s.heap e I from⟨H,l,J,K⟩).inj R)
       ·have hx:O.1=(hv k).1:=by obtain⟨q2,e2,_⟩:=R;rw[e2]
        exact X G Qa Qa (Qy (Qh O P hx))
    split
    ·refine ab (adG g V ?_ _ (λv hv'=>?_))
     ·simp only[mG,if_false];rw[F];exact cont
     ·obtain⟨z,hz,rfl⟩:=RM hv';have hz2:z∈es.toList:=by grind
      rw[y.lay.en]at hz2;obtain⟨kz,qz,ez,gz,rz⟩:=y.ents.all z hz2;exact Qh kz gz (by rw[ez];exact rz)
    ·rw[F];exact cont
  ·rename_i hx;exfalso
   have hx':=λmet e=>hx met (by rw[aq];exact e);rcases Y with⟨_,d⟩|⟨_,i,e,_,_,_,d⟩
   ·exact hx' _ d
   ·exact hx' _ d
end
def adI(n:Nat):∀a j,n<2^(j+a)-> ∃k,j<=k/\I' n a (2^j)=2^k/\n<2^k/\(j<k->2^(k-1)<=n):=by
 intro a;induction a with
 |zero=>exact λj h=>RF j (aQ _) h (λq=>XN q)
 |succ a b=>
  intro j h;unfold I';by_cases c:2^j<=n
  ·rw[(Tz)];obtain⟨k,l,f,g,i⟩:=b (j+1) Qm;refine⟨k,Qa,f,g,RC ?_⟩;by_cases d:j+1<k
   ·exact i d
   ·grind
  ·grind
def adJ(h:n<8192):∃k,Co n=2^k/\3<=k/\k<=13/\n<2^k:=by
 obtain⟨k,a,b,d,f⟩:=adI n 64 3 (d5 h QD);refine⟨k,b,a,?_,d⟩;by_cases c:k<=13
 ·exact c
 ·exfalso;have g:2^13<=2^(k-1):=rD QD Qa
  omega
section
variable{prog:aO}{w:aA}{A:di}{E:SR}{s:bH}{a q:Addr}{o:Obj}{S:UE}{es:WV}{ep:Nat}{t:lF}{L:XU}{k:Nk}{bt:Bool}
def apg(a:WV):U7 byScan q a=Qb:=rfl
def K3(y:hh bt Ql o S es ep t L)(a:N<=10*(Q7+12)):N-0<100000:=by
 have:=y.big;omega
def adK(b:RV a=Qi)(y:hh bt Ql o S es ep t L)(g:TY k)(d:(rel Ql k).1 UD)(j:RS+4<bf)(h:∀r,(YD r↔k∈S)->Q r s):
  aj QA A (setFind a UD (hv k).1) Q E s:=by
 obtain⟨N,c,f⟩:=y.lay.KR _;refine ab (hX b TC VF ?_);refine ab ?_;refine K2 b y g d j c f Qb (λi x hx l=>by refine ah (h _ ⟨λ_=>(y.ents.mem k).mpr ⟨x.2,cQ.mpr ⟨x,bL hx,rfl⟩,l⟩,λ_=>rfl⟩)) (λn=>by exact ah (h none ⟨λz=>(by cases z),λz=>absurd z n⟩)) _ 0 none (K3 y c) (cG _) rfl (λm e p=>QbB p rF)
def zj(e:SJ=Qi)(hd:Si= .set es ep t)(hs:dN a h h'):kR h h':=λb f c _⟨g,n,i⟩=>by
 have d:b≠a:=by
  grind
 exact Rx hs.2 b d c
def stored{h:Heap}(c:SJ=Qi)(hd:Si= .set es ep t)(b:WV)(t':lF):R0 (h.update a (rV b t')) a=Qc {o with data:= .set b (ep+1) t'}:=by
 have:=oq (rV b t') c (by rw[putSet_of b t' hd];rfl);rw[putSet_of b t' hd]at this;exact this
def K4(f:RV a=Qi)(ex:o.ExactSet)(hd:Si= .set es ep t)(lay:Lay t es L)(ents:bU Ql Qfi S)(bc:QP S 2000)(pl:Qv t.plain)(ld:t.led=!bt)(q:b<8192)(D:TR*5<b*3)
  (h:∀h' i r t' c,dN a s.heap h'->h'.get? a=some i->hh bt h' i S r (ep+1) t' c->b<=t'.mask->(c.map (·.2)).Perm (L.map (·.2))->Q () {s with heap:=h'}):
  aj QA A (setRelay a b) Q E s:=by
 obtain⟨g,j,k,l,F⟩:=adJ q;have u:=by have:=ents.len;rwa [ak]at this
 have H:Co b<=8192:=by
  have:2^g<=2^13:=rD QD l
  omega
 have v:Co b-1+1=2^g:=by omega
 have x:=lay.size.2;obtain⟨t',d,c,f1,f2,f3,y,m⟩:=KY v (Qe k l) es Qa _ _ t.led _;have z:t.relaid _ b=Qc _:=f1;have I:=by
  have:=m.length_eq;have e:es.toList.length=Y3:=by simp
  rw[ak,e,x,u]at this;exact this
 have J:=f3.size.2;refine ab (hX f hd lay.fits ?_);dsimp only;rw[Qs Z',z];have B:aj QA A (storeSet a (d.filterMap (es[·]?)) t') Q E s:=by
  refine B' f hd ?_ Z';have n:=ot Ql a (rV (d.filterMap (es[·]?)) t');have p:((c.map (·.2)).Perm) Qfi:=by rw[<-lay.en];exact m
  exact h _ _ _ t' c n (stored f hd _ _) ⟨ex,rfl,f3,by rw[f2.1];exact y,QY (ents.perm p.symm) (zj f hd n),Qa,bc,by rw[f2.2.2.1];exact pl,by rw[f2.2.1];exact ld⟩ Qa p
 have C:((d.filterMap (es[·]?)).size !=es.size)=false:=by
  grind
 (refine ab ?_;show aj _ _ (if((d.filterMap _).size !=es.size)=true then _ else _) _ _ _;rw[C];exact ah B)
def adL(lay:Lay t es L):t.tooFull=QV (Wt*5>=Q7*3):=by
 unfold SetTable.tooFull yt;rw[lay.nd,lay.size.1];simp
def ea(S:UE)(k:Nk):UE:=if k∈S then S else S++[k]
def DO{a}:a∈ea S k↔a∈S\/a=k:=by
 unfold ea;split
 ·grind
 ·simp
def DP:Tj ea S k (TR+1):=by
 unfold ea;split
 ·omega
 ·simp
structure oV(bt:Bool)(El:ZJ)(o:Obj)(es:WV)(ep:Nat)(t:lF)(L:XU):Prop where
 ex:o.ExactSet
 dat:Si= .set es ep t
 lay:Lay t es L
 good:TB.Good Q7 L
 perm:El.Perm Qfi
 room:Wt*5<Q7*3
 bc:QP L 2000
 pl:Qv t.plain
 ld:t.led=!bt
def bZ(bt:Bool)(h:Heap)(a:Addr)(b:ZJ):Prop:= ∃o es ep t L,SJ=Qi/\oV bt b o es ep t L
def bZ.obj(x:bZ bt h a b)(en:bU h b S):∃o c d t L,h.get? a=some o/\b.Perm (L.map (·.2))/\hh bt h o S c d t L:=by
 obtain⟨o,c,d,t,L,f,y⟩:=x;have e:=en.perm y.perm;have hl:=e.len;rw[ak]at hl;have g:=y.bc;exact⟨o,c,d,t,L,f,y.perm,y.ex,TC,y.lay,y.good,e,y.room,Qa,y.pl,y.ld⟩
def bZ.at(x:bZ bt h a b)(e:∀o,SJ=Qi->V5 a=Qi):bZ bt h' a b:=by
 obtain⟨o,es,ep,t,L,c,y⟩:=x;exact⟨o,es,ep,t,L,e o c,y⟩
def sF(a:ZJ)(S:UE)(k:Nk)(q:Addr):ZJ:=if k∈S then a else((hv k).1,bD q)::a
def bU.add{a}(x:bU h a S)(g:QcQ NT.good)(b:(rel h k).1 UD):bU h (sF a S k q) (ea S k):=by
 unfold sF ea;split
 ·exact x
 ·rename_i c;exact x.cons (Rn q g b) c
def zk(x:bZ bt Ql a l)(en:bU Ql l S)(g:TY k)(u:(rel Ql k).1 UD)(P:RS+4<bf)(hroom:TR+1<=2000)
  (h:∀h' b,dN a Ql h'->kR Ql h'->bZ bt h' a (sF l S k q)->Q b Xi):
  aj QA A (setAddHashed a UD (hv k).1) Q E s:=by
 have R:=x;obtain⟨o,es,ep,t,L,n,⟨T,y⟩⟩:=x.obj en;obtain⟨N,F,f⟩:=y.lay.KR _;have G:=y.len;have hrm:=y.room
 unfold setAddHashed;refine fj ?_;refine ab (hX n TC VF ?_);refine ab ?_;refine K2 n y g u P F f true (λi x hx V=>by refine ah ?_;refine h _ false (ym a _) (λ_ _ z _ _=>z) ?_;unfold sF;rw[if_pos ((y.ents.mem k).mpr ⟨x.2,cQ.mpr ⟨x,bL hx,rfl⟩,V⟩)];exact R) (λH=>?_) _ 0 none (K3 y F) (cG _) rfl (λm e W=>QbB W rF)
 ·refine ab (hX n TC VF ?_);dsimp only;have v:Qv (t.put (br Q7 (hv k).1 N).j).1.plain:=y.pl;rw[Qp v];refine ab ((DN k (d_ g).1).1 _ _ _ _ 8 _ (bp (d_ g).2.2 QD) u ?_);simp [];have r:=y.lay.put (e:=((hv k).1,bD q)) (DG _ _ N).1 f.free Qa;have B:=ot Ql a (rV (qd es (t.put (br Q7 (hv k).1 N).j).2 ((hv k).1,bD q)) (t.put (br Q7 (hv k).1 N).j).1);have kp:=zj n TC B;have aq:=stored n TC (qd es (t.put (br Q7 (hv k).1 N).j).2 ((hv k).1,bD q)) (t.put (br Q7 (hv k).1 N).j).1;have Z:bU (s.heap.update a (rV (qd es (t.put (br Q7 (hv k).1 N).j).2 ((hv k).1,bD q)) (t.put (br Q7 (hv k).1 N).j).1)) ((TB.ins (br t.mask (hv k).1 N).j ((hv k).1,bD q) L (t.put (br t.mask (hv k).1 N).j).2).map (·.2)) (S++[k]):=by
   have:=QY (y.ents.cons (Rn q g u) H) kp;refine this.perm ?_;exact((TB.zd (j:=(br _ _ N).j) (e:=((hv k).1,bD q)) (L:=L) (p:=(t.put _).2)).map (·.2)).symm
  have C:Qn (TB.ins (br Q7 (hv k).1 N).j ((hv k).1,bD q) L (t.put (br Q7 (hv k).1 N).j).2)=TR+1:=by
   rw[TB.zd.length_eq];simp[G]
  have I:sF l S k q=((hv k).1,bD q)::l:=by unfold sF;rw[Qs H]
  have J:=by
   have p:=QG (TB.zd (j:=(br Q7 (hv k).1 N).j) (e:=((hv k).1,bD q)) (L:=L) (p:=(t.put (br Q7 (hv k).1 N).j).2)) (·.2);exact XE T.cons _ p.symm
  have hes:=r.size.2;refine ab (B' n TC ?_ Z');rw[adL r,C];have D:(t.put (br Q7 (hv k).1 N).j).1.mask=Q7:=rfl;rw[D];by_cases c:(TR+1)*5>=Q7*3
  ·rw[Ze c];have hg:SetTable.grown (Y3+1)=(TR+1)*4:=by
    unfold SetTable.grown;rw[(Qd7),G,(Qa4)]
   rw[hg];refine ab (K4 (s:={s with heap:=_}) aq y.ex rfl r Z Tv v y.ld Qa Tv (λh2 o2 es2 t2 L2 K ho2 d hm2 p2=>ah (h h2 true (QH B K) (λb M hb O hd=>zj aq rfl K b M (kp b M hb O hd) O hd) ?_)));rw[I];exact⟨o2,es2,_,t2,L2,ho2,d.ex,d.dat,d.lay,d.good,QH J p2.symm,d.room,by have:=d.len;have:=d.bc;omega,d.pl,d.ld⟩
  ·rw[TK c];refine ah (h _ true B kp ?_);rw[I];exact⟨_,_,_,_,_,aq,y.ex,rfl,r,by exact y.good.ins (e:=((hv k).1,bD q)) (p:=(t.put _).2) f,J,Qa,Qa,v,y.ld⟩
def met(ks:UE):UE:=ks.foldl ea []
end
def Old(h0 h:Heap):Prop:= RN (Zo b=Qi->S1=Qi)
def Old.keep(x:Old h0 h):kR h0 h:=λb o e _ _=>x b o e
def DQ:∀(ks S:List Nk),Tj ks.foldl ea S (TR+QcV)
 |[],S=>by simp
 |k::ks,S=>by
  rw[xH];have a:=DQ ks (ea S k);have b:=DP (S:=S) (k:=k);rw[dh];omega
def K5:∀(ks S:List Nk),x∈ks.foldl ea S↔x∈S\/x∈ks
 |[],S=>by simp
 |k::ks,S=>by
  rw[xH,K5 ks,DO,kn,or_assoc]
def K6:x∈met ks↔x∈ks:=by
 unfold met;rw[K5];simp
section
variable{prog:aO}{w:aA}{A:di}{E:SR}{s:bH}{bt:Bool}
def adM{St}
  (W:WalksS prog w UZ I B f G n P St)(a:Addr)(C:a∉B)(h0:Heap)(hnew:∀b∈a::f,Zo b=none)(ks:UE)(hks:QcV=n)
  (N:∀i v k,P i v->ks[i]?=XY->TY k/\ ∃q,v=UD/\(rel h0 k).1 v)(hu:RS+5<bf)(hn:n<=1990):
  ∀m i s j,n-i=m->i<=n->St i s->Old h0 Ql->bZ bt Ql a j->bU h0 j (met (ks.take i))->(∀c D,Moved (a::f) G s c->Old h0 c.heap->bZ bt c.heap a D->bU h0 D (met ks)->R (.ok (.ret Sf)) c)->lG QA A (.builtin "set.update.loop" (Wd [QS,Q1 I])) R s:=by
 have E:=λh=>C (W.sub _ h);have F:∀b∈f,b∈a::f:=λb l=>bP _ l;have H:∀ {s1 s2:bH},Moved f G s1 s2->Old h0 s1.heap->Old h0 s2.heap:=λ{s1 s2}d O b o e=>d.heap b o (λq=>Qm) (O b o e)
 intro m;induction m with
 |zero=>
  intro i s j Q hi aq r t p u;have S:i=n:=by omega
  subst S;rw[ur Qa]at p;refine oj IB ?_;refine ab (W.done s _ _ aq (λc d=>?_));exact ah (u c j (d.mono F) (H d r) (Yg t.at (d.heap a o E e)) p)
 |succ m T=>
  intro i s j Q hi aq r t p u;have J:i<n:=by omega
  refine oj IB ?_;show aj _ UZ (jQ (.ref I)>>=_) _ _ s;refine ab (W.item i s _ _ J aq (λv c U V d=>?_));obtain⟨k,K⟩:∃k,ks[i]?=XY:=V0 cN Qa;obtain⟨g,q,rfl,L⟩:=N i v k U K;have x:=H d r;have M:=(m7 x.keep k).1 _ L;have o1:=d_ g;refine ab (fj ?_);refine fj (ab ((yG k o1.1).1 UZ _ _ _ _ Qm M ?_));have hlen:Qx met (ks.take i)<=i:=by
   have Y:=DQ (ks.take i) [];have h2:Qx ks.take i<=i:=by grind
   show QP (List.foldl ea [] (ks.take i)) i;simp []at Y;omega
  refine zk (s:={c with toks:=c.toks+(dr k).1}) (Yg t.at (d.heap a o E e)) (QY p x.keep) g M Qa Qa (λZ b y kp hS2=>?_);have hold2:Old h0 Z:=Q4 (by
   rw[y.2 b QcM];exact x b o e)
  have et:met (ks.take (i+1))=ea (met (ks.take i)) k:=by
   have:ks.take (i+1)=ks.take i++[k]:=by
    rw[BV,K];rfl
   unfold met;rw[this,iD];rfl
  refine ah ⟨yc PyProof.Rows.F.plain_set_update_loop _,T (i+1) _ _ Qa J (W.frame _ c _ _ V (xO _ _) (λb l o e=>by rw[y.2 b (λz:b=a=>C (by rw[<-z];exact l))];exact e)) hold2 hS2 (by rw[et];exact p.add g L) (λs'' El'' hm'' hold'' hS'' hE''=>by refine u s'' El'' (Moved.trans W.gtrans ((d.mono F).then_heap (xO _ _) λb o l e=>?_) hm'') hold'' hS'' hE'';rw[y.2 b (λz:b=a=>l (by grind))];exact e)⟩
def bY(w:aA):Bool:=w.params.followText "set-order"
def DR(e:SJ=Qc {cls:= Vi,dict:=none,data:= .set (#[]) 0 (.fresh 0 0 led)}):bZ (!led) h a []:=⟨_,#[],0,SetTable.fresh 0 0 led,[],e,QaV,rfl,⟨rfl,rfl,.nil,Sv (by simp at hx),rfl,Rn 3 QD QD,Qj⟩,Sv (by simp at hx),.refl _,by show 0*5<7*3;decide,QD,rfl,by simp[SetTable.fresh]⟩
def K7(v:aJ)
  (h:Q UA {s with heap:=S5 {cls:= Vi,dict:=none,data:= .set (#[]) 0 (.fresh 0 0 (!bY w))}}):
  lG QA A (.call (VS "set.__new__") (Wd [Vi,v])) (wants Q E) s:=by
 refine x9 ?_;refine ab (uN (PySem.F.newCall_set_1 v) (ah ⟨yc PySem.F.plain_set_new _,oj PySem.F.entry_set_new ?_⟩));unfold iI.«set.__new__» Builtin.Frozenset.newClass;have a:=sub_set_self;obtain⟨b,g,d,c,os⟩:=s;wp_walk
 refine mM (ah ?_);exact ab (wpAny_alloc (ah (ah h)))
def set_list(g:Old h0 Ql)(hgone:∀b,Qt<=b->Zo b=none)(G:VH=none)(hl:Qco s l Vt)(hsz:QcV=VG)(hn:QcV<=1990)
  (hi:∀(i:Nat)v k,items[i]?=Rg->ks[i]?=XY->TY k/\ ∃q,v=UD/\(rel h0 k).1 v)(hu:RS+9<bf)
  (h:∀h'(tk:Nat)(a:List Ent),bZ (bY w) h' Qt a->bU h0 a (met ks)->Old Ql h'->Qt<Xk->Q UA Xg):
  aj QA A (call Vi [Uj]) Q E s:=by
 obtain⟨c,tl,hmro⟩:=jS.mro;have hmade:=PySem.F.called_set.made;have hsub:=PySem.F.called_set.sub;refine rN (x9 ?_);show aj _ _ (callAny Vi _) _ _ _;refine ah ⟨Ci _ VD,oj Ck ?_⟩;rw[Around.under_plain (weight_type_call_type X5 [Uj] []) rfl];have h1:=jS.notType;have h2:=jS.canCreate;have hct:=IT Uj;repeat(any_goals(first|assumption|wp_step))
 let new:Obj:={cls:= Vi,dict:=none,data:= .set (#[]) 0 (.fresh 0 0 (!bY w))}
 refine jO (K7 Uj (E:=E) (Q:=λobj p=>obj=UA/\p=QdB) Vh) (λr p j=>?_);cases r with
 |error e=>exact j
 |ok H=>
  cases H with
  |ret obj=>
   obtain⟨rfl,rfl⟩:=j;have t:R0 QaU Qt=Qc new:=cH _ rfl;have I:Shared.TypeIs QdB UA X5:=Sz _ t;have hli:=jS.init.lookup;have hbi:=jS.init.bind UA;repeat(any_goals(first|assumption|wp_step))
   refine jO (xZ (R:=wants (λr u=>r=Sf/\ ∃h' tk a,u=Xg/\bZ (bY w) h' Qt a/\bU h0 a (met ks)/\Old Ql h'/\Qt<Xk) E) jS.init.plain IU (check_set_init_1 I ?_)) (λJ u m=>?_)
   ·obtain⟨g,x,y,nl,z⟩:=hl;obtain⟨ocls,K,odata,L⟩:=g;simp only at y z;subst y;subst z;have M:R0 QaU l=Qc {cls:= SW,dict:=K,data:= .seq Vt nl,slots:=L}:=bM _ x;have hsls:=PySem.F.sub_list_set;have hslf:=PySem.F.sub_list_frozenset;have hne:(iJ Rq==iJ "dict")=Qb:=by decide
    have B:(QaU).IsList l Vt:=RF _ M nl rfl;unfold iI.«set.__init__» noKeywords yg;generalize N:lH=PI;wp_walk
    subst N;refine rK B ?_;refine ab (wpAny_runValue ?_);have C:l<Qt:=bx x;have O:A.in1.in1.in1.handled=none:=by simp[G]
    have P:l≠Xl QaU:=by
     rw[g0];exact b9 (rE C)
    have S:Qt∉[Xl QaU,l]:=by
     rw[g0];simp only[kn,ku,List.not_mem_nil,or_false,not_or];exact⟨b9 (uD _),lC C⟩
    refine adM (bt:=bY w) (Walks.list O _ l P Vt).toS Qt S h0 ?hnew ks hsz (λi v k T U=>hi i v k T U) ?hu Qa (VG-0) 0 _ [] Qa (cG _) (Qe (Zp _ (cH _ rfl)) (B.push _)) ?hO ?hS0 ?hE0 ?hR
    case hnew=>
     simp_all
    case hu=>grind
    case hO=>exact Q4 (bM _ (bM _ (g b o e)))
    case hS0=>
     have:=DR (led:=!bY w) (bM {cls:= QcA,data:= Vw Qcz} t);rw[Bool.not_not]at this;exact this
    case hE0=>exact bU.nil
    case hR=>
     intro V a d D f n;obtain⟨h',W,X,Y,Z⟩:=V;have eg:W=s.gens:=d.gens;have ed:X=s.drawn:=d.drawn;have eo:Z=s.os:=d.os;subst eg;subst ed;subst eo;show aj _ _ _ _ _ _;refine ah ?_;show aj _ _ (ret ji) _ _ _;refine ah ⟨rfl,h',Y,a,rfl,f,n,Q4 ?_,?_⟩
     ·have F:b<Qt:=bx e;have hb1:b≠Qt:=b9 F;have hb2:b≠Xl QaU:=by rw[g0];exact b9 (rE F)
      exact d.heap b o Qm (bM _ (bM _ e))
     ·obtain⟨_,_,_,_,_,hg,_⟩:=f;exact bx hg
   ·cases J with
    |error e=>exact m
    |ok fl₂=>
     cases fl₂ with
     |ret r=>
      obtain⟨rfl,h',tk,a,rfl,f,n,D,hlt⟩:=m;repeat(any_goals(first|assumption|wp_step))
      exact h _ _ _ f n D hlt
     |_=>exact m.elim
  |_=>exact j.elim
def sub_dict_set:isSubtype YX Vi=UH:=by kernel_rfl
def adN:isSubtype YX (SV "frozenset")=UH:=by kernel_rfl
def sub_set_set:isSubtype Vi Vi=Sy true:=by kernel_rfl
end
section
variable{prog:aO}{w:aA}{A:di}{E:SR}{s:bH}{bt:Bool}{a:Addr}{El:ZJ}{S:UE}
def K8(x:bZ bt Ql a El)(en:bU Ql El S)(C:TR+more<=4000)
  (h:∀h' o f g t L,dN a Ql h'->kR Ql h'->V5 a=Qi->oV bt El o f g t L->(Wt+more)*5<Q7*3->Q () Xi):aj QA A (setRoomFor a more) Q E s:=by
 obtain⟨o,f,g,t,L,d,i,y⟩:=x.obj en;have j:=y.len;have D:=y.big
 have k:t.fill=TR:=by
  unfold yt;rw[y.lay.nd,y.lay.size.1,j];simp
 unfold setRoomFor;refine ab (hX d TC VF ?_);by_cases c:(TR+more)*5>=Q7*3
 ·have e:t.roomFor more=Qc ((TR+more)*2):=by
   unfold SetTable.roomFor;rw[k,(Tz),y.lay.size.1,j]
  rw[e];refine K4 d y.ex TC y.lay y.ents y.bc y.pl y.ld Qa Qa (λh' q r u v l B b F p=>?_);have G:=b.len;exact h h' q r _ u v l (zj d TC l) B ⟨b.ex,b.dat,b.lay,b.good,QH i p.symm,b.room,by have:=b.bc;omega,b.pl,b.ld⟩ Qa
 ·have e:t.roomFor more=none:=by
   unfold SetTable.roomFor;rw[k,(Sk)]
  rw[e];refine ah ?_;exact h _ o f g t L (ym _ _) (λ_ _ z _ _=>z) d ⟨y.ex,TC,y.lay,y.good,i,y.room,by have:=y.bc;omega,y.pl,y.ld⟩ Qa
def vA(c:Old h0 h)(f:Zo a=none)(d:dN a h h'):Old h0 h':=Q4 (by
 rw[d.2 b QcM];exact c b o e)
def adO{id}{xs:R_}(hd:(d==eS)=Qb)(hg:RV d=Qi)(R:o.ExactDict)(m:Si=Ve e P)(L:TH e=Ti (uO VI))(T:YI (TY x.1/\(rel h0 x.1).1 (Q1 x.2.1)))(u:d≠a)(v:Old h0 Ql)(z:Zo a=none)
  (x:bZ bt Ql a El)(en:bU h0 El S)(hb:TR+Qu<=1990)(hu:RS+5<bf)
  (h:∀h' M,dN a s.heap h'->bZ bt h' a M->bU h0 M ((xs.map (·.1)).foldl ea S)->Q () {s with heap:=h'}):
  aj QA A (yg id a WY) Q E s:=by
 have B:U7 s.TypeIs d _:=SF hg R.1;have N:RH e=Qu:=by rw[<-mF,L,ak]
 unfold yg rQ;refine ab (ab (kC B sub_dict_set ?_));refine kC B adN ?_;refine ab (ye B ?_);refine ab (rM (ab ?_));refine ah ?_;rw[hd];refine ab (oi hg m (ab (jN hg m (ab (K8 x (en.keep v.keep) Qa (λp o1 U V W X C kp1 Y Z _=>?_))))));refine ab (jN (Rx C.2 d u hg) m ?_);rw[Std.Legacy.Range.forIn_eq_forIn_range'];refine ab (mL _ (λD _ F=>∃i c f,D=jL i (e.size- i)/\i<=e.size/\F={s with heap:=c}/\dN a _ c/\bZ bt c a f/\bU h0 f (((xs.take i).map (·.1)).foldl ea S)) _ ?_ ?_ _ _ ⟨0,p,El,by simp,cG _,rfl,C,⟨o1,U,V,W,X,Y,Z⟩,by simpa using en⟩)
 ·rintro j D b F⟨i,c,f,g,hi,rfl,l,G,r⟩;obtain⟨n,hn⟩:∃n,RH e-i=n+1:=by
   cases q:RH e-i with
   |zero=>rw[q]at g;cases g
   |succ n=>exact V' n
  rw[hn,xG]at g;injection g with hj g;subst hj;have H:=vA v z l;obtain⟨y,I⟩:∃y,xs[j]?=V7:=V0 cN Qa;have hent:e[j]?=Rz uO VI y:=by rw[rP L,I];rfl
  have t:=T y (bL I);refine ab (jN (Rx l.2 d u hg) m ?_);rw[hent];have hlen:=by
   have p:=DQ ((xs.take j).map (·.1)) S;rw[ak,n']at p;omega
  refine ab (fj (zk G (QY r H.keep) t.1 ((m7 H.keep _).1 _ t.2) Qa Qa (λJ b3 K kp3 x3=>?_)));refine ab (oi (Rx (QH l K).2 d u hg) m ?_);simp only[bne_self_eq_false];have et:((xs.take (j+1)).map (·.1)).foldl ea S=ea (((xs.take j).map (·.1)).foldl ea S) y.1:=by
   rw[BV,I,bO,iD];rfl
  have O:∃i c f,D=jL i (RH e-i)/\i<=RH e/\{s with heap:=J}={s with heap:=c}/\dN a _ c/\bZ bt c a f/\bU h0 f ((Q9 xs.take i _).foldl ea S):=
   ⟨j+1,J,_,by rw[g];congr 1;omega,Qa,rfl,QH l K,x3,by rw[et];exact r.add t.1 t.2⟩
  exact ah O
 ·rintro b F⟨i,c,f,g,hi,rfl,l,G,r⟩;have:i=RH e:=by
   grind
  subst this;rw[N,cp]at r;exact ah (h c f l G r)
end
section
variable{prog:aO}{w:aA}{A:di}{E:SR}{s:bH}
def gone{h:Heap}{b:Addr}(a:Uk<=b):S1=none:=by
 cases q:(S1) with
 |none=>rfl
 |some o=>exact Qck (bx q) Nat.not_lt.mpr a
def set_dict(q:Old h0 Ql)(t:∀b,Qt<=b->Zo b=none)(hd:(d==eS)=Qb)(u:s.heap.DictOfH VI d xs)(v:YI (TY x.1/\(rel h0 x.1).1 (Q1 x.2.1)))(O:Qu<=1990)(P:RS+9<bf)
  (h:∀h' tk a,bZ (bY w) h' Qt a->bU h0 a (met (xs.map (·.1)))->Old s.heap h'->s.heap.objs.size<h'.objs.size->Q (.ref s.heap.objs.size) {s with heap:=h',toks:=tk}):
  aj QA A (call Vi [WY]) Q E s:=by
 obtain⟨c,tl,S⟩:=jS.mro;have T:=PySem.F.called_set.made;have U:=PySem.F.called_set.sub;refine rN (x9 ?_);show aj _ _ (callAny Vi _) _ _ _;refine ah ⟨Ci _ VD,oj Ck ?_⟩;rw[Around.under_plain (weight_type_call_type X5 [WY] []) rfl];have V:=jS.notType;have W:=jS.canCreate;have X:=IT WY;repeat(any_goals(first|assumption|wp_step))
 let new:Obj:={cls:= Vi,dict:=none,data:= .set (#[]) 0 (.fresh 0 0 (!bY w))}
 refine jO (K7 WY (E:=E) (Q:=λobj l=>obj=UA/\l=QdB) Vh) (λr l f=>?_);cases r with
 |error e=>exact f
 |ok y=>
  cases y with
  |ret obj=>
   obtain⟨rfl,rfl⟩:=f;have m:R0 QaU Qt=Qc new:=cH _ rfl;have z:Shared.TypeIs QdB UA X5:=Sz _ m;have Y:=jS.init.lookup;have Z:=jS.init.bind UA;repeat(any_goals(first|assumption|wp_step))
   refine jO (xZ (R:=wants (λr n=>r= .none/\∃h' tk a,n={s with heap:=h',toks:=tk}/\bZ (bY w) h' s.heap.objs.size a/\bU h0 a (met (xs.map (·.1)))/\Old s.heap h'/\s.heap.objs.size<h'.objs.size) E) jS.init.plain IU (check_set_init_1 z ?_)) (λB n g=>?_)
   ·unfold iI.«set.__init__» noKeywords;generalize C:yg=PI;wp_walk
    subst C;have p:=DR (led:=!bY w) m;rw[Bool.not_not]at p;obtain⟨o,es,ep,hg,D,F,G,_,_⟩:=u;refine adO (h0:=h0) (s:=QdB) hd (bM _ hg) D F G v (b9 (bx hg)) (Q4 (bM _ (q b o e))) (t _ (aQ _)) p bU.nil Tv Qm (λh' i H x en=>?_);have j:Old Ql h':=vA (h:=QaU) (Q4 (bM _ e)) (gone (aQ _)) H;have k:Qt<Xk:=by
     obtain⟨_,_,_,_,_,I,_⟩:=x;exact bx I
    first
     |exact ah ⟨rfl,h',Tg,i,rfl,x,en,j,k⟩
     |(show aj _ _ (ret ji) _ _ _;exact ah ⟨rfl,h',Tg,i,rfl,x,en,j,k⟩)
     |(refine ab (ah ?_);show aj _ _ (ret ji) _ _ _;exact ah ⟨rfl,h',Tg,i,rfl,x,en,j,k⟩)
   ·cases B with
    |error e=>exact g
    |ok J=>
     cases J with
     |ret r=>
      obtain⟨rfl,h',tk,a,rfl,K,L,M,N⟩:=g;repeat(any_goals(first|assumption|wp_step))
      exact h _ _ _ K L M N
     |_=>exact g.elim
  |_=>exact f.elim
def adP(c:Nat->Nat):∀f k d(out:Array g),QP d f->Qdn (Cv c f k d out) (out.toList++d):=by
 intro f;induction f with
 |zero=>
  intro k d out h;have:d=[]:=pP Qa;subst this;unfold Cv;simp
 |succ f j=>
  intro k d out h;unfold Cv;cases hl:d with
  |nil=>simp
  |cons y b=>
   obtain⟨x,hx⟩:∃x,(y::b)[c k%(y::b).length]?=Qz:=V0 cN (xS _ Qj);rw[hx];refine QH (j (k+1) _ _ Qm) ?_
   ·rw[Array.toList_push,eK];refine List.Perm.append_left _ ?_;obtain⟨m,n⟩:=Zh hx;have e:=by
     have o:(y::b)=Rf (y::b) (c k%Qn (y::b))++x::(y::b).drop (c k%Qn (y::b)+1):=by
      rw[<-n,<-BN m,n8]
     have i:=List.perm_middle (a:=x) (l₁:=Rf (y::b) (c k%Qn (y::b))) (l₂:=(y::b).drop (c k%Qn (y::b)+1));rw[<-o,<-BM]at i;exact i
    exact e.symm
def K9(a:Nat->Nat)(xs:SO b):Qdn (pickOrder a xs) QcU:=by
 have:=adP a xs.size 0 QcU (#[]) Qj;unfold pickOrder;simpa using this
end
section
variable{prog:aO}{w:aA}{A:di}{E:SR}{s:bH}{a:Addr}{El:ZJ}{S:UE}
def K_(e:RV a=Qi)(y:hh (bY w) Ql o S b d t L){Q:Qej WV}(h:∀c,Qdn c Xo->Q c s):
  aj QA A (setWalk a) Q E s:=by
 refine ab (hX e TC VF ?_);refine ab (ab (mM (ah ?_)));cases f:Qhm QA _ with
 |true=>
  exact ab (mM (ah (h _ (K9 _ b))))
 |false=>
  have hl:Qv t.led:=by rw[y.ld];show Qv (!(w.params.followText _));rw[show w.params.followText _=Qb from f];rfl
  have g:=y.pl;show aj _ _ (if(!t.plain&&decide _)=true then _ else _) _ _ _;rw[g];refine ab ?_;show aj _ _ (if(!t.led&&decide _)=true then _ else _) _ _ _;rw[hl];exact ah (ah (h b (.refl _)))
def adQ{a}(j:Th=Qi)(y:hh bt Ql o S a i t L)(l:0<RH a)(h:Q Qb s):
  aj QA A (setsQuiet (b::d)) Q E s:=by
 obtain⟨e,r,f⟩:∃e r,TH a=e::r:=by
  cases q:a.toList with
  |nil=>
   simp_all
  |cons e r=>exact Sz e r
 obtain⟨k,q,rfl,g,p⟩:=y.ents.all e (by rw[<-y.lay.en,f];exact lq ..);obtain⟨D,u,F,n,c,v,x,G,H⟩:=(kQ (d_ g).2.1).1 p;injection c with c;subst c;refine ab ?_;refine ab (ab (uK j TC VF ?_));rw[<-n4,f,BS];refine ab (ab (ab (mN (Qh u v x) PySem.F.slot_tuple_eq.lookup ?_)));have B:Qv ((RE Value.builtin "tuple.__eq__")!=RE Value.builtin "object.__eq__"):=by decide
 rw[B];exact ah (ah (ah (ah (ah h))))
def K'(b:RV a=Qi)(y:hh (bY w) Ql o S c g t L){Q:Qej WV}(h:∀d,Qdn d (TH c)->Q d s):
  aj QA A (setWalkUnseen a e f) Q E s:=by
 refine ab (hX b TC VF ?_);refine ab ?_;refine ab (mM (ah ?_));split
 ·exact K_ b y h
 ·rename_i j;have i:0<RH c:=by
   grind
  refine ab (adQ b y i ?_);exact K_ b y h
def Lc(hab:a≠b)(K:Old h0 Ql)(hna:Zo a=none)(x:bZ (bY w) Ql a El)(en:bU h0 El S)(xb:bZ (bY w) Ql b y)(v:bU h0 y Sb)
  (hb:TR+Zx<=1990)(hu:RS+4<bf)(hea:∀d Q',dN a Ql d->Q' () Qe1->aj QA A each Q' E Qe1)
  (h:∀h' El' S',dN a Ql h'->bZ (bY w) h' a El'->bU h0 El' S'->(∀k,k∈S'↔k∈S\/k∈Sb)->Q () Xi):
  aj QA A (setMerge a b each) Q E s:=by
 have hba:b≠a:=λz=>hab z.symm;have hlE:=en.len;have hlB:=v.len;obtain⟨ob,i,epb,tb,R,T,F,c⟩:=xb.obj (QY v K.keep);have hszb:=c.lay.size.2;have hlenb:=c.len;have e0:s={s with heap:=s.heap}:=by cases s;rfl
 have x0:=x;unfold setMerge;have hne:(a==b)=Qb:=by simpa using hab
 rw[hne];refine ab (hX T c.dat c.lay.fits ?_);dsimp only;by_cases hemp:Qv i.isEmpty
 ·rw[Qp hemp];have hz:Zx=0:=by
   grind
  have hnil:=pP hz;subst hnil;refine ah ?_;exact h Ql El S (ym _ _) x0 en Qd9
 ·rw[Qs hemp]
  refine ab (K8 x (en.keep K.keep) Qa (λp o1 es1 ep1 r L1 L kp1 M f hroom=>?_));have hold1:=vA K hna L;have hL1:L1.length=TR:=by
   have:=f.perm.length_eq;rw[ak]at this;omega
  have hob1:=Rx L.2 b hba T;refine ab (hX M f.dat f.lay.fits ?_);have enb1:=QY v hold1.keep;have hfill:r.fill=TR:=by
   unfold yt;rw[f.lay.nd,f.lay.size.1,hL1];simp
  have put:∀B j l,TR=0->Lay j B l->TB.Good j.mask l->y.Perm (l.map (·.2))->QT*5<j.mask*3->Qv j.plain->j.led=!(bY w)->aj QA A (storeSet a B j) Q E {s with heap:=p}:=by
   intro B j l C lay' gd' G rm pl ld;have hL':=by
    have:=G.length_eq;rw[ak]at this;omega
   have hes':=lay'.size.2;refine B' M f.dat ?_ Z';have D:=ot p a (rV B j);have hSnil:=pP C;subst hSnil;exact h _ y Sb (QH L D) ⟨_,B,_,j,l,stored M f.dat B j,f.ex,rfl,lay',gd',G,rm,Qa,pl,ld⟩ v Qd9
  unfold SetTable.road;rw[hfill];by_cases C:TR=0
  ·rw[C];simp only[bne_self_eq_false,mG,if_false];split
   ·rename_i hslot;split at hslot
    ·exact put i _ R C ⟨c.lay.pl,c.lay.en,c.lay.inc,c.lay.le,c.lay.nd,c.lay.pow,c.lay.bc⟩ c.good (by exact F) c.room (by rw[f.pl,c.pl];rfl) (by rw[f.ld,c.ld];simp)
    ·cases hslot
   ·obtain⟨kk,hkk⟩:=f.lay.pow;obtain⟨j,order,l,f1,f2,f3,f4,f5⟩:=KY hkk.1 hkk.2 i Qa r.finger r.moves (r.led&&tb.led) (r.plain&&tb.plain);rw[f1];have G:=by
     have:((l.map (·.2)).Perm) (R.map (·.2)):=by rw[<-c.lay.en];exact f5
     exact F.trans this.symm
    have hL':QT=Zx:=by
     have:=G.length_eq;rw[ak]at this;omega
    have hc:((order.filterMap (i[·]?)).size !=i.size)=false:=by
     rw[f3.size.2,hszb,hL',hlenb];simp
    refine ab ?_;show aj _ _ (if((order.filterMap (i[·]?)).size !=i.size)=true then _ else _) _ _ _;rw[hc];exact ah (put _ j l C f3 (by rw[f2.1];exact f4) G (by rw[f2.1];omega) (by rw[f2.2.2.1,f.pl,c.pl];rfl) (by rw[f2.2.1,f.ld,c.ld];simp))
   ·grind
  ·have hbn:Qv (S.length !=0):=by simpa using C
   rw[hbn];simp only[if_true];have yb1:hh (bY w) p ob Sb i epb tb R:=⟨c.ex,c.dat,c.lay,c.good,enb1.perm F,c.room,c.bc,c.pl,c.ld⟩;refine ab (K' hob1 yb1 (λH U=>?_));rw[<-n4];have hall:∀e∈H.toList,∃k,k∈Sb/\dD h0 e k:=λe m=>by
    have he':=by
     have:=X_ U m;rw[c.lay.en]at this;exact F.mem_iff.mpr this
    obtain⟨k,N⟩:=v.all e he';exact Qh k (TZ (v.mem k).mpr e he' N) N
   have hcov:∀k,k∈Sb-> ∃e∈H.toList,dD h0 e k:=λk N=>by
    obtain⟨e,m,V⟩:=(v.mem k).mp N;have:e∈TH i:=by rw[c.lay.en];exact F.mem_iff.mp m
    exact Qh e (Qdm U this) V
   have hwl:Qbh H=Zx:=by
    rw[U.length_eq];have:Qbh i=RH i:=by simp
    omega
   refine ab (mL _ (λW _ X=> ∃o d t n,TH H=o++W/\X=Qe1/\dN a Ql d/\bZ (bY w) d a t/\bU h0 t n/\QP n (TR+Qn o)/\(∀k,k∈n↔k∈S\/ ∃e∈o,dD h0 e k)) _ ?_ ?_ _ _ ⟨[],p,El,S,rfl,rfl,L,⟨o1,es1,ep1,r,L1,M,f⟩,en,Qj,Qd9⟩)
   ·rintro e W u X⟨o,d,t,n,I,rfl,D,Y,O,hl2,Z⟩;obtain⟨k,hkS,V⟩:=hall e (by rw[I];simp);obtain⟨q,rfl,g,P⟩:=V;have hold2:=vA K hna D;have hdn:Qn o+1<=Zx:=by
     grind
    refine ab (fj (zk Y (QY O hold2.keep) g ((m7 hold2.keep _).1 _ P) hu Qa (λJ b3 sb3 kp3 x3=>?_)));have sb23:=QH D sb3;refine ab (hea J _ sb23 ?_);have hob3:=Rx sb23.2 b hba T;refine ab (hX hob3 c.dat c.lay.fits ?_);dsimp only;simp only[bne_self_eq_false,mG,if_false];have fin:∃o d t n,TH H=o++W/\{s with heap:=J}=Qe1/\dN a Ql d/\bZ (bY w) d a t/\bU h0 t n/\QP n (TR+Qn o)/\(∀k,k∈n↔k∈S\/ ∃e∈o,dD h0 e k):=by
     refine⟨o++[((hv k).1,bD q)],J,_,ea n k,by rw[I];simp,rfl,sb23,x3,O.add g P,?_,λk'=>?_⟩
     ·have:=DP (S:=n) (k:=k);simp;omega
     ·rw[DO,Z];constructor
      ·rintro((q1|⟨e,m,q1⟩)|rfl)
       ·exact Qq q1
       ·grind
       ·exact Qy (Tn Qj (Rn q g P))
      ·rintro(q1|⟨e,m,q1⟩)
       ·exact Qdr q1
       ·rcases Vd m with m|m
        ·grind
        ·simp at m;subst m;exact Qy ((show dD h0 ((hv k).1,bD q) k from⟨q,rfl,g,P⟩).inj q1).symm
    first
     |exact ah fin
     |exact ab (ah (ah fin))
   ·rintro u X⟨o,d,t,n,I,rfl,D,Y,O,hl2,Z⟩;rw[dR]at I;subst I;refine ah (h d t n D Y O QbN);rw[Z];constructor
    ·rintro(q1|⟨e,m,q1⟩)
     ·exact Qq q1
     ·obtain⟨k2,h1',h2'⟩:=hall e m;have:=h2'.inj q1;subst this;exact Qy h1'
    ·grind
def adR:qa table "set.__or__"=Qc iI.«frozenset.__or__»:=ya (id':="frozenset.__or__") VE rfl VD VE
def adS:qa table "set.__and__"=Qc iI.«frozenset.__and__»:=ya (id':="frozenset.__and__") VE rfl VD VE
end
section
variable{prog:aO}{w:aA}{A:di}{E:SR}{s:bH}{a b:Addr}{El Eb:ZJ}{S Sb:UE}
def bZ.typeIs(x:bZ bt Ql a El):s.TypeIs QS X5:=by
 obtain⟨o,c,d,t,L,b,y⟩:=x;exact SF b y.ex.1
def sG(x:bZ bt Ql a El)(h:X6 Q s):aj QA A (rQ QS) Q E s:=by
 exact ab (kC Qc2 sub_set_set (ah h))
def Ld(h:Q UA {s with heap:=S5 {cls:= Vi,dict:=none,data:= .set (#[]) 0 (.fresh 0 0 (!bY w))}}):
  aj QA A (newSet Vi) Q E s:=by
 refine ab (ab (mM (ah ?_)));exact ab (wpAny_alloc (ah h))
def Le(x:bZ bt Ql a El)(h:Q Vi s):aj QA A (Builtin.Frozenset.baseOf a) Q E s:=by
 refine ab (kC Qc2 sub_set_set ?_);exact ah h
def vB(w:aA):Obj:={cls:= Vi,dict:=none,data:= .set (#[]) 0 (.fresh 0 0 (!bY w))}
def DS(h:Heap)(w:aA):bZ (bY w) (h.push (vB w)) Uk []:=by
 have:=DR (h:=h.push (vB w)) (cH _ rfl);rwa [Bool.not_not]at this
def adT(g:Old h0 Ql)(x:bZ (bY w) Ql a El)(en:bU h0 El S)(i:QP S 1990)(j:RS+4<bf)
  (hsz:∀c,Qt<=c->Zo c=none)
  (h:∀h' d f,dN Qt (S5 (vB w)) h'->bZ (bY w) h' Qt d->bU h0 d f->(∀k,k∈f↔k∈S)->Q UA Xi):
  aj QA A (Builtin.Frozenset.copyOf a) Q E s:=by
 refine ab (Le x (ab (Ld (ab ?_))));refine ah ?_
 refine ab (Lc (s:=Qcx) (lC (by obtain⟨o,_,_,_,_,m,_⟩:=x;exact bx m)) (Q4 (bM _ (g b o e))) (hsz _ (aQ _)) (DS _ w) bU.nil (Yg x.at (bM _ e)) en QdG j (λu v _ q=>ah q) (λh' d f n p r t=>ah (h h' d f n p r (λk=>by rw[t];simp))))
def Lg(a:dN Uk (h.push o) h'):Old h h':=λb x e=>by
 rw[a.2 b (b9 (bx e))];exact bM _ e
def adU(n:Old h0 Ql)(R:a≠b)(x:bZ (bY w) Ql a El)(en:bU h0 El S)(g:bZ (bY w) Ql b Eb)(y:bU h0 Eb Sb)(T:TR+Zx<=1990)(U:RS+5<bf)
  (hsz:∀c,Qt<=c->Zo c=none)
  (h:∀h' i j,Old Ql h'->bZ (bY w) h' Qt i->bU h0 i j->(∀k,k∈j↔k∈S\/k∈Sb)->Q UA Xi):
  aj QA A (iH .BitOr QS SI) Q E s:=by
 refine wpAny_binaryOp_same Qc2 g.typeIs PySem.F.fills_set_or IZ (fv IZ Qc2 adR ?_ (PySem.F.args_set_or_2 _ _));show aj _ UZ (do
  if !(<-rQ _<&&>rQ _)then _ else _) _ _ _
 refine ab (ab (sG x (sG g ?_)));refine ab ?_;refine ah (ab ?_);refine ab (adT n x en Qa Qa hsz (λd W p B C r t=>?_));have D:Qv (bD b !=bD a):=by
  grind
 have l:=Lg B;have X:=Qdw ((lr r.nd en.nd).mpr t);have u:=Yg g.at (l b o e);rw[Qp D];refine ab ?_;refine ah (ab (fj ?_));refine ab (sG u ?_);refine ab ?_;refine ah ?_;obtain⟨ob,H,I,tb,J,m,f⟩:=u;refine ab (uM m f.dat f.lay.fits ?_);have v:=b9 (by obtain⟨o,_,_,_,_,G,_⟩:=g;exact bx G);refine Lc (λz=>v z.symm) (λc o e=>l c o (n c o e)) (hsz _ (aQ _)) C r ⟨ob,H,I,tb,J,m,f⟩ y Qa Qa (λK Y L q=>by refine ab (uM ((L.2 b v).trans m) f.dat f.lay.fits ?_);simp [];exact ah q) (λh' i j M N O P=>by refine ah ?_;refine ah ⟨_,rfl,(λz=>by cases z),h h' i j (λc o e=>?_) N O λk=>by rw[P,t]⟩;rw[M.2 c (b9 (bx e))];exact l c o e)
def Lh{id}(O:Old h0 Ql)(hc:Zo c=none)(hac:a≠c)(hbc:b≠c)(x:bZ (bY w) Ql a El)(en:bU h0 El S)(xb:bZ (bY w) Ql b Eb)(H:bU h0 Eb Sb)(hb:Zx<=1990)(Z:RS+4<bf)
  (xc:bZ (bY w) Ql c [])
  (h:∀h' El' S',dN c Ql h'->bZ (bY w) h' c El'->bU h0 El' S'->(∀k,k∈S'↔k∈S/\k∈Sb)->Q () Xi):
  aj QA A (do
   let was<-setEpoch b
   for(h,x)in<-setWalkUnseen b others filled do
    qb [x] (do
     if(<-setFind a x h).isSome then
      let _<-setAddHashed c x h)
    IF id b was) Q E s:=by
 obtain⟨oa,esa,epa,ta,La,hoa,pEa,n⟩:=x.obj (en.keep O.keep);obtain⟨ob,P,epb,tb,Lb,T,pEb,l⟩:=xb.obj (QY H O.keep);have hszb:=l.lay.size.2;have hlenb:=l.len;refine ab (uM T l.dat l.lay.fits (ab (K' T l (λy U=>?_))));rw[<-n4];have hall:∀e∈y.toList,∃k,k∈Sb/\dD h0 e k:=λe d=>by
  have he':=by
   have:=X_ U d;rw[l.lay.en]at this;exact pEb.mem_iff.mpr this
  obtain⟨k,I⟩:=H.all e he';exact Qh k (TZ (H.mem k).mpr e he' I) I
 have hcov:∀k,k∈Sb-> ∃e∈y.toList,dD h0 e k:=λk I=>by
  obtain⟨e,d,V⟩:=(H.mem k).mp I;have:e∈TH P:=by rw[l.lay.en];exact pEb.mem_iff.mp d
  exact Qh e (Qdm U this) V
 have hwl:Qbh y=Zx:=by
  rw[U.length_eq];have:Qbh P=RH P:=by simp
  omega
 refine ab (mL _ (λW _ o=> ∃i f m j,TH y=i++W/\o={s with heap:=f}/\dN c _ f/\bZ _ f c m/\bU h0 m j/\Qcr j i/\(∀k,k∈j↔k∈S/\ ∃e∈i,dD h0 e k)) _ ?_ ?_ _ _ ⟨[],Ql,[],[],rfl,by cases s;rfl,ym _ _,xc,bU.nil,Qj,Qd9⟩)
 ·rintro e W u o⟨i,f,m,j,B,rfl,v,J,C,hl2,K⟩;obtain⟨k,hkS,V⟩:=hall e (by rw[B];simp);obtain⟨q,rfl,g,D⟩:=V;have X:=vA O hc v;have hdn:Qn i+1<=Zx:=by
   grind
  have hr2:=(m7 X.keep _).1 _ D;have step:∀p L F,dN c Ql p->bZ (bY w) p c L->bU h0 L F->F.length<=Qn i+1->(∀G,G∈F↔G∈S/\ ∃e∈i++[((hv k).1,bD q)],dD h0 e G)-> ∀R,(∀o,(∃i f m j,TH y=i++W/\o={s with heap:=f}/\dN c Ql f/\bZ (bY w) f c m/\bU h0 m j/\Qcr j i/\(∀k,k∈j↔k∈S/\ ∃e∈i,dD h0 e k))->R (.yield PUnit.unit) o)->aj QA A (IF id b epb>>=λ_=>pure (pO PUnit.unit)) R E {s with heap:=p}:=by
   intro p L F M Y en3 hl3 hm3 R hR;refine ab (ab (uM (Rx M.2 b hbc T) l.dat l.lay.fits ?_));simp [];exact ah (ah (hR _ ⟨i++[((hv k).1,bD q)],p,L,F,by rw[B];simp,rfl,M,Y,en3,Tv,hm3⟩))
  refine ab (fj (ab (adK (Rx v.2 a hac hoa) ⟨n.ex,n.dat,n.lay,n.good,(en.keep X.keep).perm pEa,n.room,n.bc,n.pl,n.ld⟩ g hr2 Z (λr hr'=>?_))));by_cases N:k∈S
  ·rw[Qp (hr'.mpr N)];refine ab (zk J (QY C X.keep) g hr2 Z Qa (λp b3 M kp3 Y=>ah (step p _ (ea j k) (QH v M) Y (C.add g D) (by have:=DP (S:=j) (k:=k);omega) (λG=>?_) _ (λo z=>z))));rw[DO,K];constructor
   ·rintro(⟨q1,e,d,t⟩|rfl)
    ·grind
    ·exact⟨N,_,Qj,q,rfl,g,D⟩
   ·rintro⟨q1,e,d,t⟩;rcases Vd d with d|d
    ·exact Qq ⟨q1,e,d,t⟩
    ·simp at d;subst d;exact Qy ((show dD h0 ((hv k).1,bD q) k from⟨q,rfl,g,D⟩).inj t).symm
  ·rw[Qs (λz=>N (hr'.mp z))];refine ah (step f m j v J C Qa (λG=>?_) _ (λo z=>z));rw[K];constructor
   ·grind
   ·rintro⟨q1,e,d,t⟩;rcases Vd d with d|d
    ·exact⟨q1,e,d,t⟩
    ·simp at d;subst d;have:=(show dD h0 ((hv k).1,bD q) k from⟨q,rfl,g,D⟩).inj t;subst this;exact Rk q1 N
 ·rintro u o⟨i,f,m,j,B,rfl,v,J,C,hl2,K⟩;rw[dR]at B;subst B;refine ah (h f m j v J C QbN);rw[K];constructor
  ·rintro⟨q1,e,d,t⟩;obtain⟨k2,h1',h2'⟩:=hall e d;have:=h2'.inj t;subst this;exact Qe q1 h1'
  ·grind
def Li(x:bZ bt Ql a El)(h:Q El.length s):aj QA A (Builtin.Frozenset.sizeOf a) Q E s:=by
 obtain⟨o,b,d,t,L,c,y⟩:=x;refine ab (uK c TC VF (ah ?_));have e:RH b=El.length:=by
  rw[(Qd7),y.perm.length_eq,ak]
 rw[e];exact h
def adV(F:Old h0 Ql)(J:a≠b)(x:bZ (bY w) Ql a El)(en:bU h0 El S)(m:bZ (bY w) Ql b Eb)(y:bU h0 Eb Sb)(G:QP S 1990)(H:Zx<=1990)(K:RS+5<bf)
  (hsz:∀c,Qt<=c->Zo c=none)
  (h:∀h' d f,Old Ql h'->bZ (bY w) h' Qt d->bU h0 d f->(∀k,k∈f↔k∈S/\k∈Sb)->Q UA Xi):
  aj QA A (iH .BitAnd QS SI) Q E s:=by
 refine wpAny_binaryOp_same Qc2 m.typeIs PySem.F.fills_set_and IY (fv IY Qc2 adS ?_ (PySem.F.args_set_and_2 _ _));show aj _ UZ (do
  if !(<-rQ _<&&>rQ _)then _ else _) _ _ _
 refine ab (ab (sG x (sG m ?_)));refine ab ?_;refine ah ?_;have I:(bD b==bD a)=Qb:=by
  grind
 have B:a<Qt:=by obtain⟨o,_,_,_,_,q,_⟩:=x;exact bx q
 have C:b<Qt:=by obtain⟨o,_,_,_,_,q,_⟩:=m;exact bx q
 unfold Builtin.Frozenset.intersection;refine ab ?_;rw[I];refine ab (Le x (ab (Ld (ab ?_))));refine ah ?_;have r:Old _ (S5 (vB w)):=λc o e=>bM _ e;have t:=Yg x.at (r a o e);have n:=Yg m.at (r b o e);have D:=λc o e=>r c o (F c o e);refine ab (fj (ab (sG n ?_)));simp only[];refine ab ?_;refine ah (ab (Li n (ab (Li (s:=Qcx) t ?_))));have p:∀h' d f,dN _ (S5 (vB w)) h'->bZ _ h' _ d->bU h0 d f->(∀k,k∈f↔k∈S/\k∈Sb)->aj QA UZ _ (λv u=>aj QA UZ (ret v) (λp u=> ∃v,p= .done (.ret v)/\v≠ .notImplemented/\Q v u) E u) E _:=λh' d f g i j l=>ah (ah (Rn _ (λz=>by cases z) (h h' d f (Lg g) i j l)))
 split
 ·exact Lh (s:=Qcx) D (hsz _ (aQ _)) (b9 C) (b9 B) n y t en G Qa (DS _ w) (λh' d f g i j l=>p h' d f g i j (λk=>by rw[l];exact And.comm))
 ·exact Lh (s:=Qcx) D (hsz _ (aQ _)) (b9 B) (b9 C) t en n y H Qa (DS _ w) (λh' d f g i j l=>p h' d f g i j l)
def adW(d:Old h0 Ql)(x:bZ bt Ql a El)(en:bU h0 El S)(h:∀t tk,Q (.int TR t) {s with toks:=tk}):aj QA A (call QdX UG) Q E s:=by
 obtain⟨o,b,f,t,L,c,y⟩:=x;have e:RH b=TR:=by
  rw[(Qd7),<-en.len,y.perm.length_eq,ak]
 have g:=y.bc;have hs:=Qd7;refine call_len_set c y.ex TC VF Qa ?_;rw[e];exact h _ _
end
end NT
namespace NT
open PySem PySem.Spec PyProof.Rows
def b8:Nk->S4 Nk
 | .i n,.i m=>QV (n<m)
 | .nil,.cons _ _=>true
 | .cons a r,.cons b q=>if a=b then b8 r q else b8 a b
 |_,_=>false
def du:Nk->S4 Nk
 | .i _,.i _=>true
 | .nil,.nil=>true
 | .nil,.cons _ _=>true
 | .cons _ _,.nil=>true
 | .cons a r,.cons b q=>if a=b then du r q else du a b
 |_,_=>false
section
variable{prog:aO}{w:aA}
def vC(prog:aO)(w:aA)(k:Nk):Prop:= ∀a A E s u v Q,VX a->Rm du k a->RS+dp k<bf->(rel Ql k).1 u->(rel Ql a).1 v->Q (.bool (b8 k a)) s->aj QA A (eY .Lt u v) Q E s
def adX(n:Int):vC prog w (.i n):=λc A E s u v Q _ b _ d e h=>by
 cases c with
 |i m=>
  obtain⟨t,rfl⟩:=d;obtain⟨f,rfl⟩:=e;exact lt_int h
 |nil=>cases b
 |cons a r=>cases b
def Lj(L:Y5)(okk:VX k)(hall:gu (XP vC) k):vC prog w k:=λt A E s u v Q B M hu h1 h2 h=>by
 have hk':QJ kP t:=by
  cases k with
  |i n=>cases L
  |nil=>cases t with
   |i n=>cases M
   |nil=>rfl
   |cons b q=>
    rw[ok,bX,bX]at B;exact B.2.1
  |cons a r=>cases t with
   |i n=>cases M
   |nil=>rfl
   |cons b q=>
    rw[ok,bX,bX]at B;exact B.2.1
 obtain⟨a,oa,C,na,rfl,U,hca,hda,hia⟩:=(kQ L).1 h1;obtain⟨b,ob,D,nb,rfl,V,hcb,hdb,hib⟩:=(kQ hk').1 h2;have W:s.TypeIs QS _:=Qh oa U hca;have X:U7 s.TypeIs b _:=Qh ob V hcb;show aj _ _ (richCompare .Lt _ _) _ _ _;refine wpAny_richCompare_same_room W X IW (fv IW W PySem.F.entry_tuple_lt ?_ (PySem.F.args_tuple_lt_2 _ _)) Qa;show aj _ _ (isInstance _ _>>=_) _ _ s;refine ab (kC X isSubtype_tuple_tuple ?_);refine ab (B9 U hda (ab (B9 V hdb (ab (mL _ (λY r I=>r.1=none/\I=s/\ ∃f j p m,Y=List.zip p m/\(rel _ f).2 p/\(rel _ j).2 m/\gu _ f/\VX f/\VX j/\dp f<=dp k/\Rm du f j/\b8 f j=b8 k t/\RH C+Qn m=RH D+Qn p) _ ?_ ?_ _ _ ⟨rfl,rfl,k,t,TH C,TH D,rfl,hia,hib,hall,okk,B,aQ _,M,rfl,Tv⟩)))))
 ·rintro⟨u,v⟩Y r I⟨N,rfl,f,j,p,m,x,hx,c,hl,J,F,Z,G,y,H⟩;cases f with
  |i n=>exact cP hx
  |nil=>
   subst hx;simp at x
  |cons d g=>
   cases j with
   |i n=>exact cP c
   |nil=>
    subst c;simp at x
   |cons o l=>
    obtain⟨u',us,rfl,O,hx2⟩:=hx;obtain⟨v',P,rfl,K,R⟩:=c;obtain⟨⟨rfl,rfl⟩,rfl⟩:=x;rw[ok,bX,bX]at J F;have hd1:=r8 (a:=d) (r:=g);refine ab (va J.1 F.1 Qm O K ?_);by_cases e:d=o
    ·subst e;simp [];have S:b8 (Rc d g) (Rc d l)=b8 g l:=by rw[b8,(SX)]
     have T:du (Rc d g) (Rc d l)=du g l:=by rw[du,(SX)]
     rw[S]at y;rw[T]at G;simp []at H;exact ah ⟨rfl,rfl,g,l,us,P,rfl,hx2,R,hl.2,J.2.2,F.2.2,bp r9 Z,G,y,Qa⟩
    ·rw[TK e];have S:b8 (Rc d g) (Rc o l)=b8 d o:=by rw[b8,(W5)]
     have T:du (Rc d g) (Rc o l)=du d o:=by rw[du,(W5)]
     rw[S]at y;rw[T]at G;refine ab (rM (ab (hl.1 o UZ _ _ _ _ _ F.1 G Qm O K ?_)));rw[y];exact ab (ah (ah (ah (Rn _ (Qfb) h))))
 ·rintro⟨r1,r2⟩I⟨N,rfl,f,j,p,m,x,hx,c,hl,J,F,Z,G,y,H⟩;subst N;have hfin:QV (RH C<RH D)=b8 k t:=by
   rw[<-y];cases f with
   |i n=>exact cP hx
   |nil=>
    subst hx;cases j with
    |i n=>exact cP c
    |nil=>
     subst c;exact TK Qa
    |cons o l=>
     obtain⟨v',P,rfl,K,R⟩:=c;simp []at H;exact Ze Qa
   |cons d g=>
    obtain⟨u',us,rfl,O,hx2⟩:=hx;cases j with
    |i n=>exact cP c
    |nil=>
     subst c;simp []at H;exact TK Qa
    |cons o l=>
     obtain⟨v',P,rfl,K,R⟩:=c;simp at x
  refine ah (SE ?_);show mS _≠Value.notImplemented/\Q (mS _) I;rw[hfin];exact Rw (Qfb)
def DT:∀k,VX k->vC prog w k/\gu (XP vC) k
 | .i n,_=>Qbw (adX n)
 | .nil,o1=>Qbw (Lj rfl o1 RQ)
 | .cons a r,o1=>by
  have b:=o1;rw[ok,bX,bX]at b;have c:=(DT a b.1).1;have d:=(DT r b.2.2).2;exact Qh (Lj b.2.1 o1 (Qe c d)) c d
def sI:∀a,b8 a a=Qb
 | .i n=>by rw[b8];simp
 | .nil=>rfl
 | .cons a r=>by rw[b8,(SX)];exact sI r
def vD:∀a b c,XJ a b->XJ b c->XJ a c
 | .i n,.i m,.i k,d,e=>by
  rw[b8,decide_eq_true_eq]at d e⊢;omega
 | .i n,.i m,.nil,_,e=>by cases e
 | .i n,.i m,.cons _ _,_,e=>by cases e
 | .i n,.nil,_,d,_=>by cases d
 | .i n,.cons _ _,_,d,_=>by cases d
 | .nil,.i _,_,d,_=>by cases d
 | .nil,.nil,_,d,_=>by cases d
 | .nil,.cons _ _,.i _,_,e=>by cases e
 | .nil,.cons _ _,.nil,_,e=>by cases e
 | .nil,.cons _ _,.cons _ _,_,_=>rfl
 | .cons _ _,.i _,_,d,_=>by cases d
 | .cons _ _,.nil,_,d,_=>by cases d
 | .cons _ _,.cons _ _,.i _,_,e=>by cases e
 | .cons _ _,.cons _ _,.nil,_,e=>by cases e
 | .cons a r,.cons b q,.cons c t,d,e=>by
  rw[b8]at d e⊢;by_cases h:a=b
  ·subst h;rw[(SX)]at d;by_cases f:a=c
   ·subst f;rw[(SX)]at e⊢;exact vD r q t d e
   ·grind
  ·rw[(Vs)]at d;by_cases f:b=c
   ·grind
   ·rw[Qs f]at e;have g:=vD a b c d e;have j:a≠c:=λz=>by
     subst z;rw[sI]at g;cases g
    rw[Qs j];exact g
def vE:∀a b,VX a->VX b->Rm du a b->a≠b->XJ a b\/XJ b a
 | .i n,.i m,_,_,_,h=>by
  rw[b8,b8,decide_eq_true_eq,decide_eq_true_eq];have:n≠m:=λz=>h (by rw[z]);omega
 | .i _,.nil,_,_,h,_=>by cases h
 | .i _,.cons _ _,_,_,h,_=>by cases h
 | .nil,.i _,_,_,h,_=>by cases h
 | .cons _ _,.i _,_,_,h,_=>by cases h
 | .nil,.nil,_,_,_,h=>Wz h
 | .nil,.cons _ _,_,_,_,_=> Qw
 | .cons _ _,.nil,_,_,_,_=> WH
 | .cons a r,.cons b q,o1,d,c,h=>by
  rw[ok,bX,bX]at o1 d;rw[du]at c;rw[b8,b8];by_cases e:a=b
  ·subst e;rw[(SX)]at c;rw[(SX),(SX)];exact vE r q o1.2.2 d.2.2 c (λz=>h (by rw[z]))
  ·rw[(W5)]at c;rw[(W5),Qs (λz=>e z.symm)];exact vE a b o1.1 d.1 c e
end
end NT
namespace NT
open PySem PySem.W PyProof.Rows
def ev{b:Type}(lt:Nat->Yr):KasT b->b
 | .ret a=>a
 | .ask i j k=>ev lt (k (lt i j))
def sJ(lt:Nat->Yr)(f:b->KasT c):∀t,ev lt (t.bind f)=ev lt (f (ev lt t))
 | .ret a=>rfl
 | .ask i j k=>by
  show ev lt ((k _).bind f)=_;rw[sJ lt f _];rfl
abbrev g(p:SO Nat)(i:Nat):Nat:=UO p 0
structure Ord(lt:Nat->Yr)(n:Nat):Prop where
 adY:∀i,lt i i=Qb
 tr:∀i j k,Vy i j->Vy j k->Vy i k
 Lk:∀i j,i<n->j<n->i≠j->Vy i j\/Vy j i
structure Pm(p:SO Nat)(n:Nat):Prop where
 sz:RH p=n
 pm:Qdn p (dd n)
def vF(h:i<RH p):p[i]?=Rz g p i:=by
 simp_all
def Pm.lt(x:Pm p n)(h:i<n):g p i<n:=by
 have a:i<RH p:=by rw[x.sz];exact h
 have:g p i∈TH p:=by
  simp_all
 exact fO.mp (x.pm.mem_iff.mp this)
def Pm.inj(x:Pm p n)(hi:i<n)(hj:j<n)(c:i≠j):g p i≠g p j:=λq=>by
 have a:=vF (by rw[x.sz];exact hi);have b:=vF (by rw[x.sz];exact hj);rw[<-km]at a b;rw[<-q]at b;exact c ((List.getElem?_inj Qm (x.pm.nodup_iff.mpr List.nodup_range)).mp (QH a b.symm))
def adZ(a:k<RH p)(hd:d<=k)(i:Nat):g (bubble p k d) i=if i=k- d then g p k else if k- d<i/\i<=k then g p (i- 1)else g p i:=by
 have hg:∀q j,g q j=(q[j]?).getD 0:=λq j=>Qj
 rw[hg,hg,hg,hg,(getElem?_bubble a d hd i)];split
 ·rfl
 ·split<;>rfl
def Ll(a:n<=RH p)(i:Nat):g (kas_rev p 0 n) i=if i<n then g p (n- 1- i)else g p i:=by
 have e:=getElem?_mirror_all (i:=0) a i;have hg:∀q j,g q j=(q[j]?).getD 0:=λq j=>Qj
 unfold kas_rev;by_cases c:i<n
 ·grind
 ·grind
def Pm.rev(x:Pm p n):Pm (kas_rev p 0 m) n:=
 ⟨by unfold kas_rev;rw[mirror_size];exact x.sz,XE Ii (mirror_perm p 0 m _) x.pm⟩
def Pm.bubble(x:Pm p n):Pm (PyProof.Rows.bubble p k d) n:=
 ⟨by rw[bubble_size];exact x.sz,XE Ii (bubble_perm p k d) x.pm⟩
def Up(lt:Nat->Yr)(p:SO Nat)(k:Nat):Prop:= ∀i j,i<j->j<k->Vy (g p i) (g p j)
section
variable{lt:Nat->Yr}{n:Nat}(O:Ord lt n)
include O
theorem not_lt(x:Pm p n)(hi:i<n)(hj:j<n)(a:i≠j)(h:lt (g p i) (g p j)=Qb):Vy (g p j) (g p i):=by
 rcases O.Lk _ _ (x.lt hi) (x.lt hj) (x.inj hi hj a)with q|q
 ·rw[h]at q;cases q
 ·exact q
theorem ad0(u:Up lt p k)(h:0<k->Vy (g p (k-1)) (g p k)):Up lt p (k+1):=λi j a b=>by
 by_cases c:j<k
 ·exact u i j a c
 ·have:j=k:=by omega
  subst this;by_cases d:i=j-1
  ·subst d;exact h Qa
  ·exact O.tr _ _ _ (u i _ Qa Qa) (h Qa)
theorem DU(x:Pm p n):∀f k,1<=k->k+f<=n->Up lt p k->k<=ev lt (mW p f k)/\ev lt (mW p f k)<=k+f/\Up lt p (ev lt (mW p f k))/\(ev lt (mW p f k)<k+f->Vy (g p (ev lt (mW p f k))) (g p (ev lt (mW p f k)-1))):=by
 intro f;induction f with
 |zero=>exact λk a b u=>⟨aQ _,aQ _,u,λq=>XN q⟩
 |succ f d=>
  intro k a b u;have e:ev lt (mW p (f+1) k)=if lt (g p k) (g p (k- 1))=true then k else ev lt (mW p f (k+1)):=by
   show ev lt Yj=_;split<;>rfl
  rw[e];by_cases c:Vy (g p k) (g p (k-1))
  ·grind
  ·rw[(Sk)];have:=d (k+1) Qa Qa (ad0 O u (λ_=>not_lt O x Qa Qa Qa Vg));exact⟨Qa,Qa,this.2.2.1,λq=>this.2.2.2 Qa⟩
def Down(lt:Nat->Yr)(p:SO Nat)(k:Nat):Prop:= ∀i j,i<j->j<k->Vy (g p j) (g p i)
theorem Lm(x:Pm p n):∀f k,2<=k->k+f<=n->Down lt p k-> ∃m,ev lt (kas_desc f p k 0)=(p,m,0)/\k<=m/\m<=k+f/\Down lt p m:=by
 intro f;induction f with
 |zero=>exact λk a b u=>⟨k,rfl,aQ _,aQ _,u⟩
 |succ f h=>
  intro k a b u;show∃m,ev lt Yj=_/\_;by_cases c:Vy (RG p k 0) (RG p (k-1) 0)
  ·rw[(Tz),Qs (pR 0)];have l:Down lt p (k+1):=λi j o t=>by
    by_cases e:j<k
    ·exact u i j o e
    ·have:j=k:=by omega
     subst this;by_cases d:i=j-1
     ·subst d;exact c
     ·exact O.tr _ _ _ c (u i _ Qa Qa)
   obtain⟨m,q,v,w,r⟩:=h (k+1) Qa Qa l;exact⟨m,q,Qa,Qa,r⟩
  ·rw[(Sk)];show∃m,ev lt Yj=_/\_;rw[Qp (not_lt O x Qa Qa Qa Vg)];exact⟨k,rfl,aQ _,xO _ _,u⟩
theorem ad1(x:Pm p n)(c:1<=m)(b:m<=n)(d:Down lt p m):∃k q,ev lt (kas_tail3 m n p)=(k,q)/\Pm q n/\Up lt q k/\1<=k/\k<=n:=by
 have u:Up lt _ m:=λi j f e=>by
  rw[Ll (by rw[x.sz];exact b),Ll (by rw[x.sz];exact b),(ZH),Qp e];exact d _ _ Qa Qa
 have a:=DU O x.rev (n-m) m c Qa u;unfold kas_tail3;rw[sJ];exact Xa _ _ x.rev a.2.2.1 Qa Qa
theorem Ln(x:Pm p n)(r:2<=n):∃k q,ev lt (kas_count n p)=(k,q)/\Pm q n/\Up lt q k/\1<=k/\k<=n:=by
 have a:=DU O x (n-1) 1 (aQ _) Qa (λi j e f=>Qa);unfold kas_count;rw[sJ];generalize ev lt _=m at a;by_cases b:Qv (m==n)
 ·rw[Qp b];have:=by simpa using b
  subst this;exact Xa m p x a.2.2.1 Qa (aQ _)
 ·rw[Qs b]
  by_cases d:m>1
  ·rw[Qp d];show∃k q,ev lt Yj=_/\_;rw[Qp (a.2.2.1 0 _ Qa Qa)];exact Xa m p x a.2.2.1 Qa Qa
  ·rw[Qs d];have c:m=1:=by omega
   subst c;unfold kas_descPart;rw[sJ];have g:Down lt p 2:=λi j e f=>by
    grind
   obtain⟨m,c,t,u,h⟩:=Lm O x (n-2) 2 (aQ _) Qa g;rw[c];have l:1<=m:=by omega
   have o:m<=n:=by omega
   exact ad1 O x l o h
theorem ad2(x:Pm p n)(o:k<n)(u:Up lt p k):∀f l r,r-l<=f->l<=r->r<=k->(∀i,i<l->Vy (g p i) (g p k))->(∀i,r<=i->i<k->Vy (g p k) (g p i))->ev lt (rY p k f l r)<=k/\(∀i,i<ev lt (rY p k f l r)->Vy (g p i) (g p k))/\(∀i,ev lt (rY p k f l r)<=i->i<k->Vy (g p k) (g p i)):=by
 intro f;induction f with
 |zero=>
  intro l r q s a b h;have:l=r:=by omega
  subst this;exact Qh a b h
 |succ f j=>
  intro l r q s a b h;unfold rY;by_cases c:l>=r
  ·rw[(Tz)];have:l=r:=by omega
   subst this;exact Qh a b h
  ·rw[(Sk)];show ev lt Yj<=k/\(∀i,i<ev lt Yj->_)/\(∀i,ev lt Yj<=i->_);by_cases d:Vy (RG p k 0) (RG p ((l+r)/2) 0)
   ·rw[Qp d];refine j l _ Qa Qa Qa b (λi t v=>?_);by_cases e:i=(l+r)/2
    ·subst e;exact d
    ·exact O.tr _ _ _ d (u _ _ Qa v)
   ·rw[Qs d]
    have m:=not_lt O x o (show(l+r)/2<n by omega) Qa Z_;refine j _ r Qa Qa a (λi t=>?_) h;by_cases e:i=(l+r)/2
    ·subst e;exact m
    ·exact O.tr _ _ _ (u _ _ Qa Qa) m
theorem ad3:∀f p k,Pm p n->k+f=n->Up lt p k->Pm (ev lt (kas_bin f p k)) n/\Up lt (ev lt (kas_bin f p k)) n:=by
 intro f;induction f with
 |zero=>
  intro p k x h u;have:k=n:=by omega
  subst this;exact Qe x u
 |succ f d=>
  intro p k x h u;unfold kas_bin;rw[sJ];have pl:=ad2 O x (show k<n by omega) u k 0 k Qa (cG _) (aQ _) (λi hi=>QbB hi rF) (λi r s=>Qa);generalize ev lt _=l at pl;obtain⟨t,v,w⟩:=pl;refine d _ (k+1) x.bubble Qa (λi j m y=>?_);have a:∀z,g (bubble p k _) z=if z=l then g p k else if l<z/\z<=k then g p _ else g p z:=λz=>by
   rw[adZ (by rw[x.sz];omega) (Nat.sub_le _ _)];have e:k-(k-l)=l:=by omega
   rw[e]
  rw[a,a];by_cases o:i=l
  ·grind
  ·rw[Qs o];by_cases q:j=l
   ·grind
   ·rw[Qs q];by_cases b:l<i/\i<=k
    ·rw[Qp b,(ZH)];exact u _ _ Qa Qa
    ·rw[Qs b];by_cases c:l<j/\j<=k
     ·rw[(Tz)];exact u _ _ Qa Qa
     ·rw[(Sk)];exact u _ _ m Qa
theorem Lo(a:2<=n):Pm (ev lt (kas_sort n)) n/\Up lt (ev lt (kas_sort n)) n:=by
 have b:Pm (List.toArray (dd n)) n:=Z2 Qj;obtain⟨k,q,e,x,u,f,g⟩:=Ln O b a;unfold kas_sort;rw[sJ,e];by_cases c:k<n
 ·rw[(Tz)];have d:max k 1=k:=by omega
  rw[d];exact ad3 O _ q k x Qa u
 ·rw[(Sk)];have:k=n:=by omega
  subst this;exact Qe x u
def inR(lt:Nat->Yr)(n:Nat){a:Type}:Q5 (KasT a)
 | .ret _=>True
 | .ask i j k=>i<n/\j<n/\inR lt n (k (lt i j))
omit O in
theorem sL(f:b->KasT c):∀t,inR lt n t->inR lt n (f (ev lt t))->inR lt n (t.bind f)
 | .ret a,_,h=>h
 | .ask i j k,h,d=>Qh h.1 h.2.1 (sL f _ h.2.2 d)
omit O in
theorem Lp(x:Pm p n):∀f k,1<=k->k+f<=n->inR lt n (mW p f k):=by
 intro f;induction f with
 |zero=>exact λk _ _=>RQ
 |succ f a=>
  refine λk b c=>⟨x.lt Qa,x.lt Qa,?_⟩;show inR lt n Yj;split
  ·exact trivial
  ·grind
theorem ad4(x:Pm p n):∀f k,2<=k->k+f<=n->inR lt n (kas_desc f p k 0):=by
 intro f;induction f with
 |zero=>exact λk _ _=>RQ
 |succ f b=>
  refine λk e h=>⟨x.lt Qa,x.lt Qa,?_⟩;show inR lt n Yj;by_cases c:Vy (RG p k 0) (RG p (k-1) 0)
  ·grind
  ·rw[(Sk)];refine⟨x.lt Qa,x.lt Qa,?_⟩;show inR lt n Yj;rw[Qp (not_lt O x Qa Qa Qa Vg)];exact trivial
theorem ad5(x:Pm p n)(a:1<=m)(b:m<=n):inR lt n (kas_tail3 m n p):=
 sL _ _ (Lp x.rev _ m a Qa) RQ
theorem ad6(x:Pm p n)(l:2<=n):inR lt n (kas_count n p):=by
 have a:=DU O x (n-1) 1 (aQ _) Qa (λi j e f=>Qa);refine sL _ _ (Lp x _ 1 (aQ _) Qa) ?_;generalize ev lt _=m at a;by_cases b:Qv (m==n)
 ·rw[Qp b];exact trivial
 ·rw[Qs b]
  by_cases d:m>1
  ·rw[Qp d];refine⟨x.lt Qa,x.lt Qa,?_⟩;show inR lt n Yj;rw[Qp (a.2.2.1 0 _ Qa Qa)];exact trivial
  ·have c:m=1:=by omega
   subst c;have g:Down lt p 2:=λi j e f=>by
    grind
   obtain⟨m,c,q,r,s⟩:=Lm O x (n-2) 2 (aQ _) Qa g;refine sL _ _ (ad4 O x _ 2 (aQ _) Qa) ?_;rw[c];have h:1<=m:=by omega
   have k:m<=n:=by omega
   exact ad5 O x h k
omit O in
theorem ad7(x:Pm p n)(b:k<n):∀f l r,r<=k->inR lt n (rY p k f l r):=by
 intro f;induction f with
 |zero=>exact λl r _=>RQ
 |succ f a=>
  intro l r h;unfold rY;split
  ·exact trivial
  ·refine⟨x.lt b,x.lt Qa,?_⟩;show inR lt n Yj;split
   ·exact a _ _ Qa
   ·exact a _ _ h
omit O in
theorem ad8:∀f p k,Pm p n->k+f=n->inR lt n (kas_bin f p k):=by
 intro f;induction f with
 |zero=>exact λp k _ _=>RQ
 |succ f a=>
  exact λp k x h=>sL _ _ (ad7 x Qa k 0 k (aQ _)) (a _ (k+1) x.bubble Qa)
theorem Lq(a:2<=n):inR lt n (kas_sort n):=by
 have b:Pm (List.toArray (dd n)) n:=Z2 Qj;obtain⟨k,q,e,x,u,f,g⟩:=Ln O b a;refine sL _ _ (ad6 O b a) ?_;rw[e];by_cases c:k<n
 ·rw[(Tz)];have d:max k 1=k:=by omega
  rw[d];exact ad8 _ q k x Qa
 ·rw[(Sk)];exact trivial
omit O in
theorem DV(c:∀i j C,i<n->j<n->C (lt i j) s->cmp i j C s):∀t{Q:b->bH->Prop},inR lt n t->Q (ev lt t) s->t.kasWp cmp Q s
 | .ret a,Q,_,h=>h
 | .ask i j k,Q,r,h=>c i j _ r.1 r.2.1 (DV c _ r.2.2 h)
end
end NT
namespace NT
open PySem PySem.W PySem.Spec PyProof.Rows
section
variable{prog:aO}{w:aA}{A:di}{E:SR}{s:bH}
def ad9(n:VH=none)(I:Addr)(p:d≠I)(k:Si=Ve a j):
  Walks prog w A I [I,d] [I] a.size (λi v=>(a[i]?).map (·.key)=some v) (λi h=>h.IsKeyIter I d i a.size j/\Qai d=Qi)where
 sub:=λb c=>by simp at c;simp[c]
 frame:=λ_ _ _ st l=>⟨Yg st.1.at (l I Qj o e),l d Qj _ st.2⟩
 item:=λi s Q E hi st f=>by
  obtain⟨en,hx⟩:∃en,a[i]?=Qc en:=⟨a[i],QaQ⟩;exact L2.KC st.1 st.2 k rfl hx (λg q m=>f _ g _ Qfa ⟨q,Rx m.2 d p st.2⟩ (λb o c e=>m.extBut b o (λh=>c QcH) e))
 done:=λs Q E st f=>L2.Dx n st.1 st.2 k rfl (aQ _) (λg r=>f g _ (λb o c e=>r b o (λh=>c QcH) e))
 self:=λ_ _ _ _ st f=>wpAny_pyIter_keyiter st.1 f
def aea(hd:(d==eS)=Qb)(c:o.ExactDict)(g:Si=Ve b f):
  KdlSrc prog w "dict" d d b.size (λi v=>(b[i]?).map (·.key)=some v) (λh=>Qai d=Qi)where
 type:=λ_ a=>SF a c.1
 there:=λ_ a=>⟨bx a,bx a⟩
 keep:=λ_ _ a j=>j d Qw o a
 notList:=by decide
 notTuple:=by decide
 hint:=λ_ _ _ _ a e=>kdl_hint_dict (SF a c.1) e
 iter:=λ_ s k a=>⟨{cls:= .type _,data:= .fields _},_,(λ_ _ e=>L2.Dv hd a c g e),ad9 k _ (b9 (bx a)) g,Zp _ (cH _ rfl),bM _ a⟩
def nr:Nk->Ri Bool
 | .cons (.i _) _=>QbV
 | .cons .nil _=>Qc Qb
 | .cons (.cons _ _) _=>Qc Qb
 |_=>none
def aeb:∀g f xs ys i,(rel Ql g).2 xs->(rel Ql f).2 ys->VX g->VX f->Rm du g f->RS+dp g<bf->(Qv b->i=0->nr g=QbV/\nr f=QbV)->(o:∀p q:List aJ,(p=[]\/q=[])->xs.length+q.length=ys.length+p.length->D=decide (p.length<q.length))->Q (b8 g f) s->KatLex prog w A b D Q (xs.zip ys) i s:=by
 intro g;induction g with
 |i n=>exact λf xs ys i hx=>cP hx
 |nil=>
  intro f xs ys i hx d x y B N I o h;subst hx;rw[(o [] ys Qw Qj)];cases f with
  |i n=>exact cP d
  |nil=>
   subst d;exact h
  |cons j k=>
   obtain⟨v,J,rfl,_,_⟩:=d;exact h
 |cons c l U O=>
  intro f xs ys i hx d x y B N I o h;obtain⟨u,K,rfl,E,P⟩:=hx;cases f with
  |i n=>exact cP d
  |nil=>
   subst d;rw[(o (u::K) [] WH Qj),TK Qj];exact h
  |cons j k=>
   obtain⟨v,J,rfl,F,R⟩:=d;rw[ok,bX,bX]at x y;have V:=r8 (a:=c) (r:=l);have W:=r9 (a:=c) (r:=l);refine kat_cons (va x.1 y.1 Qa E F ?_);by_cases e:c=j
   ·subst e;rw[S_ decide_eq_true];have G:b8 (Rc c l) (Rc c k)=b8 l k:=by rw[b8,(SX)]
    have H:du (Rc c l) (Rc c k)=du l k:=by rw[du,(SX)]
    rw[G]at h;rw[H]at B;refine kat_yes (O k K J (i+1) P R x.2.2 y.2.2 B Qa (λ_ z=>Qa) (λp q S hl=>o p q S Qm) h)
   ·rw[TK e];have G:b8 (Rc c l) (Rc j k)=b8 c j:=by rw[b8,(W5)]
    have H:du (Rc c l) (Rc j k)=du c j:=by rw[du,(W5)]
    rw[G]at h;rw[H]at B;refine kat_no ?_;by_cases C:Qv (b&&i==0)
    ·rw[bX,beq_iff_eq]at C;obtain⟨L,M⟩:=I C.1 C.2;cases c with
     |i n=>cases j with
      |i m=>
       obtain⟨t,rfl⟩:=E;obtain⟨X,rfl⟩:=F;exact oneLt_any_int h
      |nil=>cases M
      |cons _ _=>cases M
     |nil=>cases L
     |cons _ _=>cases L
    ·have T:(b&&i==0)=Qb:=by simpa using C
     rw[T];exact kat_one _ _ ((DT c x.1).1 j A _ s _ _ _ y.1 B Qa E F h)
def Lr(i:TY d)(j:TY e)(k:Rm du d e)(hx:(rel Ql d).1 u)(l:(rel Ql e).1 v)(B:RS+4<bf)
  (m:Qv b->nr d=QbV/\nr e=QbV)(h:Q (b8 d e) s):aj QA A (keyLt' (tuples' b) u v) Q E s:=by
 have f:=d_ i;have g:=d_ j;obtain⟨a,C,n,D,rfl,o,F,p,q⟩:=(kQ f.2.1).1 hx;obtain⟨c,G,r,H,rfl,t,I,x,y⟩:=(kQ g.2.1).1 l;refine kat_lt o p t x (aeb d e _ _ 0 q y f.1 g.1 k Qa (λz _=>m z) (λJ K L hl=>?_) h);simp []at hl;exact Qdc ⟨RC Qa,RC Qa⟩
structure b7(h:Heap)(b:Bool)(zs:Qb2 aJ):Prop where
 rel:U_ (TY z.1/\(rel h z.1).1 z.2)
 hd:U_ (nr z.1=Qc b)
 cmp:U_ (∀z'∈zs,Rm du z.1 z'.1)
 nd:QeO
def b7.keep(x:b7 h b zs)(kp:kR h h'):b7 h' b zs:=⟨Vf (Qe (x.rel z a).1 ((m7 kp _).1 _ (x.rel z a).2)),x.hd,x.cmp,x.nd⟩
def zD:Nk×aJ:=(.nil,ji)
def nt(zs:Qb2 aJ)(i j:Nat):Bool:=b8 (zs.getD i zD).1 (zs.getD j zD).1
def getD_mem{zs:R_}(h:i<Vl):zs.getD i zD∈zs:=by
 grind
def b7.ord(x:b7 h b zs):Ord (nt zs) Vl where
 adY:=λi=>sI _
 tr:=λi j k c d=>vD _ _ _ c d
 Lk:=λi j hi f g=>by
  have m1:=getD_mem hi;have m2:=getD_mem f;refine vE _ _ (d_ (x.rel _ m1).1).1 (d_ (x.rel _ m2).1).1 (x.cmp _ m1 _ m2) (λe=>g ?_);have l:(zs.map (·.1))[i]?=some (zs.getD i zD).1:=by grind
  have a:(zs.map (·.1))[j]?=some (zs.getD j zD).1:=by grind
  rw[<-e]at a;exact(List.getElem?_inj Qm x.nd).mp (QH l a.symm)
def qx(zs:Qb2 aJ)(p:SO Nat):Qb2 aJ:=ZX p (λi=>zs.getD i zD)
def Ls(x:Pm p Vl):(qx zs p).Perm zs:=by
 have a:(qx zs p).Perm _:=x.pm.map _;have b:WB Vl (λi=>zs.getD i zD)=zs:=by
  apply iE;intro i;by_cases c:i<Vl
  ·grind
  ·grind
 rw[b]at a;exact a
def aec(x:Pm p Vl)(u:Up (nt zs) p Vl):UL (qx zs p) (λz b=>XJ z.1 b.1):=by
 unfold qx;rw[iC,xB];intro i j hi a c;have d:=by
  have:=vF (by simpa using hi);rw[<-km,cN hi]at this;exact gn this
 have e:=by
  have:=vF QaM;rw[<-km,cN a]at this;exact gn this
 rw[d,e];exact u i j c (by have:=a;rw[mF,x.sz]at this;exact this)
def aed:(qx zs p).map (·.2)=p.toList.map λi=>(zs.map (·.2)).getD i ji:=by
 unfold qx;rw[cq];refine iG (λi _=>?_);show(zs.getD i zD).2=_;rw[jH,jH,cY];cases zs[i]?<;>rfl
def Lu(x:b7 Ql b zs)(T:0<Vl)(h:Q (tuples' b) s):aj QA A (keyKind' (zs.map (·.2)).toArray) Q E s:=by
 have kU:∀l:Qb2 aJ,(∀z∈l,TY z.1/\(rel Ql z.1).1 z.2)->(∀z∈l,nr z.1=Qc b)->∃fs,KatTups Ql (l.map (·.2)) fs/\T7=QT/\ ∀v∈fs,Looks QA Ql (typeOf v) (if Qv b then SV "int"else UQ):=by
  intro l;induction l with
  |nil=>exact Xj (Wb [] KatTups.nil (λv hv=>by simp at hv))
  |cons z l I=>
   intro D F;obtain⟨fs,q1,G,j⟩:=I (λz f=>D z (bP _ f)) (λz f=>F z (bP _ f));obtain⟨J,H⟩:=D z Ru;have f:=F z Ru;obtain⟨k,v⟩:=z;cases k with
   |i n=>cases f
   |nil=>cases f
   |cons a r=>
    obtain⟨q,o,K,n,rfl,L,M,hd,hi⟩:=iQ.1 H;obtain⟨u,U,e,p,V⟩:=hi
    refine⟨u::fs,KatTups.cons L M hd (by rw[<-km,e];rfl) q1,by simp[G],λv hv=>?_⟩;rcases RA hv with rfl|hv
    ·cases a with
     |i m=>
      have g:Qv b:=by cases f;rfl
      subst g;obtain⟨t,rfl⟩:=p;exact S_ Looks.of_pure
     |nil=>
      have g:b=Qb:=by cases f;rfl
      subst g;obtain⟨O,P,R,S,rfl,y,B,_⟩:=m6.1 p;exact λA Q E t ht C=>by
       refine wpAny_typeOf_ref (ht _ _ y) ?_;rw[B];exact C
     |cons c d=>
      have g:b=Qb:=by cases f;rfl
      subst g;obtain⟨O,P,R,S,rfl,y,B,_⟩:=iQ.1 p;exact λA Q E t ht C=>by
       refine wpAny_typeOf_ref (ht _ _ y) ?_;rw[B];exact C
    ·exact j v hv
 obtain⟨fs,q1,G,j⟩:=kU zs x.rel x.hd;refine kat_kind q1 Qa j (by cases b<;>rfl) ?_;have e:((if Qv b then iJ "int"else iJ XR)!=iJ XR)=b:=by cases b<;>rfl
 rw[e];exact h
def aee(k:PyProof.Rows.G.KeepsTups h h'):kR h h':=λa o e c _=>k a o e c
def aef(d:RV a=Qc (c_ "list" (zs.map (·.2)).toArray n))(x:b7 Ql b zs)(X:Vl<64)(H:RS+4<bf)
  (h:∀l:List _,l.Perm zs->(l.Pairwise λz I=>b8 z.1 I.1=true)->P (.done (.ret .none)) {s with heap:=sortedHeap s.heap a (zs.map (·.2)) (l.map (·.2)).toArray}):
  aj QA A (iI.«list.sort» (Wd UG)) P E s:=by
 rw[list_sort_plain];have t:=bx d;have J:(zs.map (·.2)).length=zs.length:=ak ..;refine ab (listItems_at d rfl (ab (pW d rfl ?_ (by rw[lz,bK];omega) (cG _))));obtain⟨m,u⟩:∃m,R0 (s.heap.update a (g6 Qd2)) a=Wg c_ Rq (#[]) m:=Rh (rH d Qd2);refine ab (uI u rfl (ab (wpAny_newTuple (ab (yd (fj ?_) (cG _))) (by show(zs.map (·.2)).length<=_;rw[bK];omega))));have g:((((s.heap.update a (g6 λ_=>#[])).push (c_ "tuple" (zs.map (·.2)).toArray 0)).push (c_ "list" #[] 0)).get?) a=Wg c_ Rq (#[]) m:=by
  rw[uZ _ _ _ (by rw[uJ,rT];exact b9 (rE t)),uZ _ _ _ (by rw[rT];exact b9 t)];exact u
 dsimp only;have Y:(zs.map (·.2)).toArray.size=zs.length:=by simp
 have K:=aee (PyProof.Rows.G.keeps_sort6 (vs:=zs.map (·.2)) d);have o:=QY x K;by_cases c:(zs.map (·.2)).toArray.size<2
 ·rw[(Tz),(Tz)];refine ab (ah ?_);refine ab (ah ?_);have L:((zs.map (·.2)).toArray.zip (zs.map (·.2)).toArray).map (·.2)=(zs.map (·.2)).toArray:=by
   grind
  refine ab (uI g rfl (ab (pW g rfl ?_ (cG _) Qm)));simp only[bne_self_eq_false];have v:=h zs (.refl _) (by
   match zs,c with
   |[],_=>exact .nil
   |[_],_=>simp
   |_::_::_,c=>simp at c;omega)
  rw[<-L]at v;exact ah v
 ·rw[(Sk),(Sk)];have y:2<=Vl:=by omega
  have O:=x.ord;refine ab (Lu o Qa ?_);have B:=Lo O y;have run:=kat_run (prog:=prog) (w:=w) (E:=E) (κ:=tuples' b) (Q:=λk f=>∃p,Pm p Vl/\Up (nt zs) p Vl/\arrOf k=p.map (kas_item ((zs.map (·.2)).toArray.zip (zs.map (·.2)).toArray))/\failedOf k=none/\f={s with heap:=IC s.heap a (zs.map (·.2))}) (G:=λp f=>Pm p zs.length/\Up (nt zs) p zs.length/\f={s with heap:=IC s.heap a (zs.map (·.2))}) rfl Qa Qa (λp k f Z M N q=>⟨p,q.1,q.2.1,M,N,q.2.2⟩) (by
    rw[J];refine DV (λi j C hi R S=>?_) _ (Lq O y) (Sz B.1 B.2);have m1:=getD_mem hi;have m2:=getD_mem R;have D:=o.rel _ m1;have F:=o.rel _ m2;unfold kas_ask;have g1:(zs.map (·.2)).getD i ji=(zs.getD i zD).2:=by grind
    have g2:(zs.map (·.2)).getD j ji=(zs.getD j zD).2:=by grind
    rw[g1,g2];exact Lr D.1 F.1 (x.cmp _ m1 _ m2) D.2 F.2 H (λz=>by subst z;exact⟨x.hd _ m1,x.hd _ m2⟩) S)
  refine ab (ej run ?_ QaJ);rintro⟨⟨⟩,k⟩f⟨p,r,T,U,V,rfl⟩;rw[(kat_snds rfl U),<-aed];refine ab (uI g rfl (ab (pW g rfl ?_ (cG _) (by rw[lz,ak,(Ls r).length_eq,bK];omega))));rw[V];simp [];exact ah (h (qx zs p) (Ls r) (aec r T))
def sortedHeap_at(d:SJ=Wg c_ Rq Wj n):∃c,R0 (sortedHeap h a vs out) a=Wg c_ Rq out c:=by
 have e:=bx d;obtain⟨b,f⟩:∃b,R0 (h.update a _) a=Wg c_ _ (#[]) b:=Rh (rH d Qd2);have g:R0 (((h.update a (g6 Qd2)).push (c_ XR Wj 0)).push (c_ Rq (#[]) 0)) a=Wg c_ Rq (#[]) b:=by
  rw[uZ _ _ _ (by rw[uJ,rT];exact b9 (rE e)),uZ _ _ _ (by rw[rT];exact b9 e)];exact f
 exact Rh (rH g _)
def sortedHeap_old(c:b≠a)(e:S1=Qi):R0 (sortedHeap h a vs out) b=Qi:=by
 unfold sortedHeap;rw[yj _ _ _ _ c];exact bM _ (bM _ (by rw[yj _ _ _ _ c];exact e))
def Lv(x:b7 Ql b zs)(k:Vl<64)(v:RS+6<bf)
  (l:∀g,(∀a tk,Old s.heap a->s.heap.objs.size<=a.objs.size->g (zs.map (·.2)) {s with heap:=a,toks:=tk})->aj (aV prog w) A.in1 (collect (.ref r)) g E s)
  (h:∀(D:Addr)h' tk(d:R_)c,Old Ql h'->Qt<=D->V5 D=Qc (c_ "list" (d.map (·.2)).toArray c)->d.Perm zs->(UL d (λz n=>XJ z.1 n.1))->R3 D Xg):
  aj QA A (call QcP [Q1 r]) Q E s:=by
 refine Calls.call_function_entry kind_sorted plain_sorted entry_sorted (args_sorted1 _) ?_;refine ab (ah (ab (l _ (λa tk i p=>ab (yd ?_ YS)))));have f:R0 (a.push _) _=Qc (c_ "list" (zs.map (·.2)).toArray 0):=cH _ rfl;have j:Old _ (a.push (c_ "list" (zs.map (·.2)).toArray 0)):=Q4 (bM _ (i b o e));refine ab (fj (fv slot_list_sort (Sz _ f) entry_list_sort (aef f (QY x j.keep) k Qa (λd q t=>?_)) (args_list_sort _)));obtain⟨c,u⟩:=sortedHeap_at f;exact SE (ah (SE (h _ _ tk d c (Q4 (sortedHeap_old (b9 (bx (i b o e))) (j b o e))) p u q t)))
def Lw(K:KdlSrc prog w T r d n P m)(t:VH=none)(a5:m Ql)(u:n<=bq)
  (h:∀h' tk acc,Old Ql h'->Qt<=Xk->ItemsOf P acc n->R acc.toList Xg):
  aj QA A (collect (Q1 r)) R E s:=by
 have p:=K.there _ a5;refine ab (wpAny_runValue (oj entry_proto_collect' ?_));refine ab (jM (ah ⟨yc PySem.F.plain_list_iadd _,oj entry_list_iadd' ?_⟩));have key:=kdl_extend (s:=Qcx) (R:=λq k=> ∃(h':Heap)(tk:Nat)(a:Array aJ)(g:Nat),q= .ok (.ret UA)/\k=Xg/\Old _ h'/\V5 _=Qc {cls:= .type _,dict:=none,data:= .seq a g,slots:=#[]}/\ItemsOf P a n) K t (K.keep _ _ a5 (λb _ o e=>bM _ e)) _ (lC p.1) (lC p.2) _ 0 (cH _ rfl) (λh' tk a g i c j=>⟨h',tk,a,g,rfl,rfl,Q4 (i b o (b9 (bx e)) (bM _ e)),c,j⟩) u
 refine ej key (λv k x=>?_) (λe k x=>Qm)
 ·cases v with
  |done f=>
   obtain⟨h',tk,a,g,e,rfl,i,c,j⟩:=x;cases e;exact ab (wpAny_load c (ah (h h' tk a i (oe (bx c)) j)))
  |again z=>
   refine Qe x.1 (jO x.2 (λq B y=>?_));obtain⟨h',tk,a,g,rfl,rfl,i,c,j⟩:=y;exact ab (wpAny_load c (ah (h h' tk a i (oe (bx c)) j)))
def aeg(hd:(d==eS)=Qb)(l:VH=none)(m:s.heap.DictOfH VI d xs)(x:b7 Ql b (Ti (Qep y.1 (bD y.2.1))))(G:Qu<64)(n:RS+6<bf)
  (h:∀(D:Addr)h' tk(f:R_)c,Old Ql h'->Qt<=D->V5 D=Qc (c_ "list" (f.map (·.2)).toArray c)->f.Perm (Ti (Qep y.1 (bD y.2.1)))->(UL f (λz p=>XJ z.1 p.1))->R3 D Xg):
  aj QA A (call QcP [WY]) Q E s:=by
 obtain⟨o,g,H,hg,r,t,j,I,J⟩:=m;have u:RH g=Qu:=by rw[<-mF,j,ak]
 refine Lv x Qm n (λK B=>Lw (aea hd r t) (by simpa using l) hg (by rw[u,bK];omega) (λh' tk a C F k=>?_)) h;have e:a.toList=(xs.map λy=>(y.1,bD y.2.1)).map (·.2):=by
  apply iE;intro i;rw[cq,cY,km];cases q:a[i]? with
  |none=>
   have hi:=Ih.mp q;have L:=k.1;rw[List.getElem?_eq_none Qa];rfl
  |some v=>
   have hv:VA (g[i]?)=Rg:=k.2 i v q;rw[rP j]at hv;cases hx:xs[i]? with
   |none=>rw[hx]at hv;cases hv
   |some y=>
    rw[hx]at hv;have:=hv;exact this.symm
 rw[e];exact B h' tk C F
end
end NT
namespace L2
open PySem PySem.Spec PyProof.Rows NT
def DW:S4 (Ri HO)
 |some (.tup _)=>true
 |_=>false
def aeh(h:QJ DW o):∃xs,o=TQ:=by
 cases o with
 |none=>cases h
 |some o=>cases o<;>first|(cases h;done)|exact Yv
def aei(h:Heap)(H:Hp):QZ:=Sd (dd Uk) (λa=>!DW (H a))
def fW(h:Heap)(H:Hp):Heap:=PySem.W.hideAll h (aei h H)
def Lx(e:S1=Qi)(n:H b=TQ):R0 (fW h H) b=Qi:=
 Je _ e (λa=>by
  have q:=(Zn a).2;rw[n]at q;cases q)
def DX(e:R0 (fW h H) b=Qi):S1=Qi/\ ∃xs,H b=TQ:=by
 have a:=PySem.W.of_hideAll _ e;refine Q_ a;cases q:DW (H b)with
 |true=>exact aeh q
 |false=>
  have z:R0 (fW h H) b=none:=Jd _ (eh.mpr ⟨fO.mpr (bx a),by rw[q];rfl⟩);rw[z]at e;cases e
def vG(h:Heap)(H:Hp):Old (fW h H) h:=λ_ _ e=>(DX e).1
def zl(h:Heap)(H:Hp):∀b,Uk<=b->R0 (fW h H) b=none:=λb a=>gone (by
 have:Xl (fW h H)=Uk:=Jc _ _;omega)
section
variable{P:aO}{w:aA}{H:Hp}{h:Heap}
def DY(ok:cj P w H h):∀k,(∀v u,(eU H k).1 v->U0->(Yh (fW h H) k).1 u)/\ ∀l us,(eU H k).2 l->UJ l->(Yh (fW h H) k).2 us
 | .i n=>⟨λv u e r=>(by
   subst e;exact r),λ_ _ e _=>cP e⟩
 | .nil=>by
  refine⟨λv u e r=>by obtain⟨b,rfl,c⟩:=e;cases(r);obtain⟨o,d,n,f,g,j,hv⟩:=sC ok c;refine NT.m6.2 ⟨b,o,d,n,rfl,Lx f c,g,j,?_⟩;generalize d.toList=z at hv⊢;cases hv;rfl,λl us e r=>by subst e;cases r;rfl⟩
 | .cons a r=>by
  have t:=DY ok a;have y:=DY ok r;refine⟨λv u e q=>?_,λl us e q=>?_⟩
  ·obtain⟨b,x,A,rfl,c,m,p⟩:=e;cases(q);obtain⟨o,d,n,f,g,j,hv⟩:=sC ok c;refine NT.iQ.2 ⟨b,o,d,n,rfl,Lx f c,g,j,?_⟩;generalize d.toList=z at hv⊢;cases hv with
   |cons q1 s=>exact Uu (t.1 _ _ m q1) (y.2 _ _ p s)
  ·obtain⟨x,A,rfl,m,p⟩:=e;cases q with
   |cons q1 s=>exact Uu (t.1 _ _ m q1) (y.2 _ _ p s)
def DZ(ok:cj P w H h):∀k,(∀u,(Yh (fW h H) k).1 u-> ∃v,U0/\(eU H k).1 v)/\ ∀us l,(Yh (fW h H) k).2 us->UJ l->(eU H k).2 l
 | .i n=>⟨λu e=>Sz ZM e,λ_ _ e _=>cP e⟩
 | .nil=>by
  have c:∀us l,(Yh (fW h H) .nil).2 us->UJ l->(eU H .nil).2 l:=λus l e r=>by
   subst e;cases r;rfl
  refine Qe (λu e=>?_) c;obtain⟨b,o,s,n,rfl,f,t,g,hv⟩:=NT.m6.1 e;obtain⟨j,p,hx⟩:=DX f;obtain⟨y,z,A,g1,g2,d,m⟩:=sC ok hx;rw[j]at g1;cases g1;rw[g]at d;cases d;have:=c _ _ hv m;subst this;exact Rl SI rfl b hx
 | .cons a r=>by
  have c:∀us l,(Yh _ W').2 us->UJ l->(eU H W').2 l:=λus l e q=>by
   obtain⟨u,N,rfl,D,E⟩:=e;cases q with
   | @cons v _ O _ q1 F=>
    obtain⟨G,I,J⟩:=(DZ ok a).1 u D;have:=I.inj q1;subst this;exact Uu J ((DZ ok r).2 _ _ E F)
  refine Qe (λu e=>?_) c;obtain⟨b,o,s,n,rfl,f,t,g,hv⟩:=NT.iQ.1 e;obtain⟨j,p,hx⟩:=DX f;obtain⟨y,z,A,g1,g2,d,m⟩:=sC ok hx;rw[j]at g1;cases g1;rw[g]at d;cases d;obtain⟨x,K,rfl,L,M⟩:=c _ _ hv m;exact⟨SI,rfl,b,x,K,rfl,hx,L,M⟩
def D0(ok:cj P w H h)(e:bV H k b):TY k/\(Yh (fW h H) k).1 SI:=Qe e.1 ((DY ok k).1 _ _ e.2 rfl)
def aej(ok:cj P w H h)(g:TY k)(e:(Yh (fW h H) k).1 SI):bV H k b:=by
 obtain⟨v,r,c⟩:=(DZ ok k).1 _ e;have:v=SI:=by
  cases v with
  |ref a=>cases(r);rfl
  |a9=>cases(r)
  |bl x=>cases(r)
  |int x=>obtain⟨t,q⟩:=(r);cases q
  |str x=>obtain⟨t,q⟩:=(r);cases q
  |fm x=>obtain⟨t,q⟩:=(r);cases q
  |sb x=>obtain⟨t,q⟩:=(r);cases q
  |ty x=>cases(r)
 subst this;exact Qe g c
def yC(z:Nk×Addr):TB.Ent:=((hv z.1).1,bD z.2)
def fX(w:aA)(a:Addr)(zs:Qc3):HO:= .ext (λh=>NT.bZ (bY w) h a Qda)
structure nu(w:aA)(H:Hp)(a:Addr)(zs:Qc3):Prop where
 at_:H a=Wg fX w a zs
 key:U_ (bV H z.1 z.2)
 nd:QeO
def vH(ok:cj P w H h){zs:R_}(key:U_ (bV H z.1 z.2))(nd:QeO):bU (fW h H) Qda (zs.map (·.1)):=by
 have d:U_ (dD _ (yC z) z.1):=λz c=>Ss z.2 (D0 ok (key z c));refine⟨QbN,λe f=>Qm,by rw[iC];exact uA (λ{a b}j l m k n o=>m ((d a j).inj n|>.trans ((d b l).inj o).symm)) (iC.mp nd),Qj,nd⟩
 ·rw[cQ];constructor
  ·grind
  ·rintro⟨e,f,g⟩;obtain⟨z,c,rfl⟩:=RM f;exact Qh z c ((d z c).inj g)
def Ly(ok:cj P w H h){S:UE}:∀ {b:List _},(∀e∈b,∃k,dD (fW h H) e k)-> ∃zs:List _,b=Qda/\U_ (bV H z.1 z.2/\dD (fW h H) (yC z) z.1)
 |[],_=>Ss [] (Vf (by simp at a))
 |e::b,h=>by
  obtain⟨zs,c,d⟩:=Ly ok (S:=S) (λe f=>h e (bP _ f));obtain⟨k,q,rfl,g,r⟩:=h e Ru;refine⟨(k,q)::zs,by rw[c];rfl,Vf ?_⟩;rcases RA a with rfl|a
  ·exact RF (aej ok g r) q g r
  ·exact d z a
def aek(ok:cj P w H h)(x:bU (fW h H) i S):∃zs:List _,i=zs.map yC/\(∀z∈zs,bV H z.1 z.2)/\(zs.map (·.1)).Nodup/\(zs.map (·.1)).Perm S:=by
 obtain⟨zs,g,c⟩:=Ly ok (S:=S) x.all;have nd:QeO:=by
  rw[g]at x;exact We (uA (λ{a b}j l m q=>m a.1 (c a j).2 (by rw[q];exact(c b l).2)) (iC.mp x.zf))
 refine⟨zs,g,λz f=>(c z f).1,nd,(lr nd x.nd).mpr QbN⟩;rw[x.mem k,g,cQ];constructor
 ·grind
 ·rintro⟨e,n,o⟩;obtain⟨z,f,rfl⟩:=RM n;exact Qh z f ((c z f).2.inj o)
def sM(ok:cj P w H h)(x:nu w H a zs):NT.bZ (bY w) h a Qda:=by
 obtain⟨p,_,_⟩:=(ok a _ x.at_);exact p
def ael(x:NT.bZ (bY w) h' a Qda):d6 P w H' h' a (fX w a zs):=by
 refine Qh x ?_ (λc d y e=>y.at e);obtain⟨o,_,_,_,_,b,_⟩:=x;exact Qe o b
end
section
variable{X:Cx}
def vI(w:aA)(H:Hp)(R:Q5 Nk)(Q:VK):Prop:= ∀p zs,H p=none->nu w (upd H p (fX w p zs)) p zs->(∀k,k∈zs.map (·.1)↔R k)->Q (.ref p) (upd H p (fX w p zs))
def zm{σ:St}{D:Addr}(I:QI)(d:Qt<=D)(x:NT.bZ (bY X.w) h' D c)(en:bU (fW Ql H) c S)(g:Old Ql h')
  (hR:∀k,k∈S↔R k)(q:vI X.w H R Q):EP X pins σ Q Xn Xg:=by
 obtain⟨zs,rfl,key,nd,pm⟩:=aek Rb en;have f:=Ut d
 exact Rl Xn _ (I.laid (Ye (g b u e)) d (ael x)) (q D zs f ⟨aC,λz i=>QY (key z i) (λb a e=>by rw[ax (cZ e f)];exact e),nd⟩ (λk=>QH pm.mem_iff (hR k)))
def aem(K:au)(w:aA):Q8->Hp->SY:=λb H Q=>∃(a:Addr)(zs:List (Nk×Addr)),b=[.ref a]/\bF K H a (zs.map λz=>V.ref z.2)/\(∀z∈zs,bV H z.1 z.2)/\zs.length<=1990/\vI w H (λk=>k∈zs.map (·.1)) Q
def D1:∀ {zs:List (Nk×Addr)}{us:List aJ},UJ (Yc QcX)->us=Yc (bD z.2)
 |[],us,r=>by cases r;rfl
 |z::zs,us,r=>by
  cases r with
  |cons h t=>rw[cg,D1 t,h]
def vJ(d:RD)(f:RY+9<bf):fV X Vi (aem X.K X.w):=by
 intro n s o H p t Q I r h;obtain⟨a,zs,rfl,hs,key,g,q⟩:=h;obtain⟨u,j,hl,_⟩:=I.list hs;rw[YH r];have l:=D1 j;subst l;refine NT.set_list (ks:=QbY _) (vG _ H) (zl _ H) (VC d) Qeh Qj QgQ (λi v k hv b=>?_) f (λw y A x en m _=>zm I (aQ _) x en m (λk=>K6) q)
 ·rw[cY]at b;have c:(zs.map λz=>bD z.2)[i]?=Rg:=by simpa using hv
  rw[cY]at c;cases e:zs[i]? with
  |none=>rw[e]at b;cases b
  |some z=>
   rw[e]at b c;cases b;cases c;have:=D0 Rb (key z (bL e));exact Wb this.1 z.2 this.2
def aen(w:aA):Q8->Hp->SY:=λc H Q=>∃(a:Addr)(b:List _),c=[.ref a]/\Rd H a (.dT b)/\b.length<=1990/\vI w H (λk=>k∈b.map (·.1)) Q
def KT.keys(r:KT H kvs xs):kvs.map (·.1)=xs.map (·.1):=by
 induction r with
 |nil=>rfl
 |cons h t a=>grind
def KT.at(r:KT H kvs xs):YI (bV H x.1 x.2.1):=by
 induction r with
 |nil=>intro x hx;simp at hx
 |cons h t a=>
  grind
def aeo(b:RY+9<bf):fV X Vi (aen X.w):=by
 intro i s j H l m Q I r h;obtain⟨a,c,rfl,e,n,q⟩:=h;rw[YH r];obtain⟨_,hd,d,rel,f⟩:=oQ Rb e;have hl:=bQ rel;exact NT.set_dict (vG _ H) (zl _ H) hd f (Sv (D0 Rb (rel.at x hx))) Qa b (λo p t x en g _=>zm I (aQ _) x en g (λk=>by rw[K6,<-rel.keys]) q)
def aep(w:aA):R2:=λx y H Q=>∃a b zs c,x= .ref a/\y= .ref b/\a≠b/\nu w H a zs/\nu w H b c/\zs.length+c.length<=1990/\vI w H (λk=>k∈zs.map (·.1)\/k∈c.map (·.1)) Q
def aeq(d:RY+5<bf):dz X (iH .BitOr) (aep X.w):=by
 intro l s m H x y v u Q I e f h;obtain⟨a,b,zs,n,rfl,rfl,g,sa,c,i,q⟩:=h;cases e;cases f;exact NT.adU (vG _ H) g (sM Rb sa) (vH Rb sa.key sa.nd) (sM Rb c) (vH Rb c.key c.nd) QdG d (zl _ H) (λo p S j x en k=>zm I (aQ _) x en j k q)
def aer(w:aA):R2:=λx y H Q=>∃a b zs c,x= .ref a/\y= .ref b/\a≠b/\nu w H a zs/\nu w H b c/\zs.length<=1990/\c.length<=1990/\vI w H (λk=>k∈zs.map (·.1)/\k∈c.map (·.1)) Q
def Lz(d:RY+5<bf):dz X (iH .BitAnd) (aer X.w):=by
 intro m s n H x y v u Q I e f h;obtain⟨a,b,zs,o,rfl,rfl,g,sa,c,i,j,q⟩:=h;cases e;cases f;exact NT.adV (vG _ H) g (sM Rb sa) (vH Rb sa.key sa.nd) (sM Rb c) (vH Rb c.key c.nd) QdG (by simpa using j) d (zl _ H) (λp r S k x en l=>zm I (aQ _) x en k l q)
def LA:fV X QdX (λvs H Q=> ∃a zs,vs=UG/\nu X.w H a zs/\Q (QL Vl) H):=by
 intro c s d H vs e Q I r h;obtain⟨a,zs,rfl,sa,q⟩:=h;rw[YH r];exact NT.adW (vG _ H) (sM Rb sa) (vH Rb sa.key sa.nd) (λt b=>⟨QL _,H,I.tok b,Z2 t,q⟩)
structure qy(b:Bool)(ks:UE):Prop where
 hd:∀k∈ks,nr k=Qc b
 cmp:∀k∈ks,∀k'∈ks,Rm du k k'
 nd:ks.Nodup
def zo(H:Hp)(ks:UE)(Q:VK):Prop:= ∀p(zs:Qc3),H p=none->(zs.map (·.1)).Perm ks->(zs.Pairwise λz a=>b8 z.1 a.1=true)->(∀z∈zs,bV H z.1 z.2)->Q (.ref p) (upd H p (.lst (zs.map λz=>V.ref z.2)))
def LB:∀zs:List (Nk×Addr),RX (Yc QcX) (Yc (bD z.2))
 |[]=> .nil
 |z::zs=> UP rfl LB zs
def adr:Qa9 aJ
 | .ref a=>a
 |_=>0
def LC{σ:St}{D:Addr}{a:Qc3}{d:R_}(I:QI)(i:a.map (·.1)=ks)(key:∀z∈a,bV H z.1 z.2)(n:Sj<64)(j:Old Ql h')(h:Qt<=D)
  (hg:V5 D=Qc (c_ "list" (d.map (·.2)).toArray c))(pm:SN d.Perm a (λz=>(z.1,bD z.2)))(k:UL d (λz l=>XJ z.1 l.1))(q:zo H ks Q):EP X pins σ Q Xn Xg:=by
 obtain⟨zs,e,f⟩:∃zs:List _,d=Yc (z.1,bD z.2)/\zs.Perm a:=by
  refine⟨Qcp d (z.1,adr z.2),by rw[cq];refine((iG λz g=>?_).trans (xJ _)).symm;obtain⟨y,_,rfl⟩:=cQ.mp (pm.mem_iff.mp g);rfl,by have:=pm.map (λz=>(z.1,adr z.2));rw[cq]at this;have e:QG a ((λz:Nk×aJ=>(z.1,adr z.2))∘λz=>(z.1,bD z.2))=a:=XE iG (λz _=>rfl) (xJ _);rw[e]at this;exact this⟩
 subst e;have o:=f.length_eq;refine⟨Xn,UN D _,I.laid (Ye (j b u e)) h ⟨YS,QbY _,c,LB zs,?_⟩,rfl,q D zs (Ut h) (by rw[<-i];exact f.map _) (iC.mp k) (λz g=>key z (X_ f g))⟩;rw[hg];simp only[cq];rfl
def LD{zs:Qc3}(ok:cj P w H h)(d:zs.map (·.1)=ks)(key:U_ (bV H z.1 z.2))(x:qy b ks):b7 h b (Yc (z.1,bD z.2)):=by
 subst d;exact⟨Vf (by obtain⟨y,c,rfl⟩:=cQ.mp a;exact g9 ok (key y c)),Vf (by obtain⟨y,c,rfl⟩:=cQ.mp a;exact x.hd _ (cQ.mpr ⟨y,c,rfl⟩)),λz a i e=>by obtain⟨y,c,rfl⟩:=cQ.mp a;obtain⟨f,g,rfl⟩:=cQ.mp e;exact x.cmp _ (cQ.mpr ⟨y,c,rfl⟩) _ (cQ.mpr ⟨f,g,rfl⟩),by rw[cq];exact x.nd⟩
def aes:Q8->Hp->SY:=λd H Q=>∃(a:Addr)(c:List _)(b:Bool),d=[.ref a]/\Rd H a (.dT c)/\qy b (c.map (·.1))/\c.length<64/\zo H (c.map (·.1)) Q
def aet(j:RD)(k:RY+6<bf):fV X QcP aes:=by
 intro u s v H w A Q I r h;obtain⟨a,f,b,rfl,e,x,B,q⟩:=h;rw[YH r];obtain⟨_,hd,d,rel,l⟩:=oQ Rb e;have hl:=bQ rel;have key:∀z∈d.map (λy=>(y.1,y.2.1)),bV H z.1 z.2:=λz m=>by
  obtain⟨y,n,rfl⟩:=RM m;exact rel.at y n
 have g:(d.map λy=>(y.1,y.2.1)).map (·.1)=f.map (·.1):=by rw[cq,rel.keys];rfl
 have i:Qcp (QG d (Qep y.1 y.2.1)) (z.1,bD z.2)=QG d (Qep y.1 (bD y.2.1)):=by rw[cq];rfl
 have cA:=LD Rb g key x;rw[i]at cA;refine NT.aeg hd (VC j) l cA Qa k (λD C E F c o p hg pm t=>?_);rw[<-i]at pm;exact LC I g key QdJ o p hg pm t q
def aeu(g ty:TE):TE:=λe H Q=>g e H (λx f=> ∃a,x=QS/\Ds f a/\ty e f (λy c=> ∃d k b v,c a=ZN d/\y=SI/\bV c k b/\cO d k=Rg/\Q v (upd c a (.dT (k3 d k)))))
def LF{g ty}(p:RY+5<bf)(q:PE X o g)(r:PE X e ty)(m:M1 X o "pop" c e f):PE X (UM (Yy o "pop" c) [e] f) (aeu g ty):=by
 refine λi s j H Q I h=>Ca m.base m.bc m.line Cm IV PySem.F.type_dict_pop (aR (q i s j H _ I h) (λu s1⟨x,t,n,w,a,ex,d,q1⟩=>?_));subst ex;obtain rfl:u=bD a:=w;obtain⟨z,A,_⟩:=Dt n d;refine Rv z A;rw[m.trees];refine yh rfl (Cg (rR (aR (r i s1 j t _ n q1) (λB s2⟨y,M,C,D,N,k,b,v,E,F,G,l,J⟩=>uV ?_))));subst F;obtain rfl:B=bD b:=D;exact adp p C E G l (λO s3 K L=>⟨v,_,K,L,J⟩)
end
end L2
namespace AT
open PySem PySem.Spec PyProof.Rows L2
def top(i:Nat):Stmt:=PySem.Challenge.pw_acrosstongues_s01_answers.main.body.getD i (.Pass (U' 0 0 0))
abbrev D2:Stmt:=top 35
def gD(m:Int)(ps:ZK)(b:Int):ZK:=if b=m then ps++[[]]else ps.dropLast++[(ps.getLastD [])++[b]]
def dE(m:Int)(ns:Qo):ZK:=ns.foldl (gD m) [[]]
def qA(H:Hp)(a:Addr)(ns:Qo):Prop:=H a=RZ R6
structure sN(H:Hp)(p:Addr)(ps:QZ)(xss:ZK):Prop where
 lst:H p=RZ (ps.map V.ref)
 nd:ps.Nodup
 rows:dj (λa xs=>qA H a xs) ps xss
def zp(K:au):Sp:=λe H Q _=> ∃(a:Addr)(ns:List Int)(m:Int),e=[QS,QL m]/\bF K H a R6/\Yu/\ ∀c p d,af H c->sN c p d (dE m ns)->H p=none->(∀b∈d,H b=none)->R3 p c
section
variable{P:aO}{w:aA}{K:au}{mg:QQ}{base:Heap}
def D3:aY [UR,"mark","parts","byte"] [UR,"mark"] (aK D2):=QF
def af.CA(s:af H H')(a:H p=none):af H (upd H' p o):=λb x e=>by rw[ax (cZ e a)];exact s b x e
def int_at{ns:Qo}{i:Nat}(h:(ns.map V.int)[i]?=V7):∃z,ns[i]?=Qc z/\y=Um z:=by
 grind
def take_snoc{a:Type}{l:VQ}{x}(h:l[i]?=Qz):Qdp l i=Rf l i++[x]:=by rw[BV,h];rfl
def aev(m:Int)(ns:Qo)(b:Int):dE m (ns++[b])=gD m (dE m ns) b:=by unfold dE;rw[iD];rfl
def aew(m:Int)(ns:Qo):dE m ns≠[]:=by
 have:∀(l:List Int)a,a≠[]->l.foldl (gD m) a≠[]:=by
  intro l;induction l with
  |nil=>exact λa h=>h
  |cons b l c=>
   intro a h;refine c _ ?_;unfold gD;split<;>simp
 exact this ns [[]] Qj
def vK(m:Int)(ns:Qo):Tj dE m ns (S9+1)/\ ∀xs∈dE m ns,Qu<=S9:=by
 unfold dE;have:∀(l:List Int)a n,(∀xs∈a,Qu<=n)->a≠[]->Tj l.foldl (gD m) a (Sj+QT)/\ ∀xs∈l.foldl (gD m) a,Qu<=n+QT:=by
  intro l;induction l with
  |nil=>grind
  |cons b l d=>
   intro a n h e;have c:QP (gD m a b) (Sj+1)/\(∀xs∈gD m a b,Qu<=n+1)/\gD m a b≠[]:=by
    unfold gD;split
    ·grind
    ·refine Qh Qj (λxs hx=>?_) Qj;rcases Vd hx with hx|hx
     ·exact Nat.le_succ_of_le (h xs (List.dropLast_subset _ hx))
     ·grind
   have:=d _ (n+1) c.2.1 c.2.2;refine⟨Tv,λxs hx=>?_⟩;have:=this.2 xs hx;simp;omega
 have:=this ns [[]] 0 Qj Qj;refine Qe Qm (λxs hx=>by simpa using this.2 xs hx)
def aex(h:dj F l m)(f:m≠[]):∃c a,l=c++[a]/\dj F c m.dropLast/\ ∃b,m=m.dropLast++[b]/\F a b:=by
 induction h with
 |nil=>exact Wz f
 | @cons x y l m r t g=>
  cases m with
  |nil=>
   cases t;exact Xa [] x .nil y rfl r
  |cons n m=>
   obtain⟨c,a,i,j,b,o,k⟩:=g Qj;exact⟨x::c,a,by rw[i];rfl,by exact .cons r j,b,Qm,k⟩
def LG(h:dj F l m):∀a∈l,∃b∈m,F a b:=by
 induction h with
 |nil=>intro a e;simp at e
 |cons r t f=>
  grind
def ie{l}{m}(h:dj F l m):(∀a b,a∈l->F a b->G a b)->dj G l m:=by
 induction h with
 |nil=>exact RC .nil
 |cons r t e=>exact λf=>UP (f _ _ Ru r) e (λa b g q=>f a b (bP _ g) q)
def aey(F:aP K QcO QcO D2 f L):ay P w K mg base az 1 f L [UR,"mark"] (zp K):=by
 refine F.ok D3 (λY H Q E h=>?_) (λcdv A outer s H Y Q E hr h=>?_)
 ·obtain⟨a,ns,m,rfl,_⟩:=h;rfl
 ·obtain⟨a,ns,m,rfl,M,Z,k⟩:=h;refine Rv _ (dC (fU (i:=2) D3.nd rfl QK (ic (bb (ic bh) bh))) (dC (h_ eN rfl (iT (pv 0)) (WC 3 D3.nd) (cS (gw (g8 si (pv 3) (pv 1) (eO _)) (cS (iS (j1 jR mP oo oP (pv 2) (bb (ic bh) bh)))) (cS (iS (j1 jR mP oo oP (iV m9 (pv 2) (JB JE dP) Uy) (bb (pv 3) bh))))))) (cS (dy (pv 2)))))
  refine⟨cG _,λq hq=>Qe QeL (λp G=>?_)⟩;have N:=cZ aC G;have I:H p=none:=by
   cases e:H p with
   |none=>rfl
   |some o=>
    rw[ax (λz=>N z.symm),e]at G;cases G
  have s1:af H (SG (UN q []) p [UD]):=Vu (U9 hq) I;have hq1:(SG (UN q []) p [UD]) q=RZ []:=by rw[ax N,aC]
  refine⟨_,rfl,a,rfl,V0 s1.seq M,lR (λi B n=> ∃(v:Option V)(j:List Addr),B=[Y0,QaC m,UK p,v]/\af H n/\sN n p j (dE m (ns.take i))/\(∀b∈j,H b=none)) ⟨none,[q],rfl,s1,Qh aC Qj (Zf hq1),λb hb=>Qm⟩ (λi B n _⟨_,_,_,t,_,_⟩=>t.seq M) ?_ ?_⟩
  ·rintro i y B n hi⟨v,j,rfl,t,R,C⟩;obtain⟨z,O,rfl⟩:=int_at hi;have hil:=Ub O;have Z:=vK m (ns.take i);have htk:Qx ns.take i=i:=by grind
   have hpl:=bQ R.rows;rw[Sm O,aev];refine⟨_,rfl,_,rfl,rfl,_,rfl,?_⟩;show(if decide (V.int z=V.int m)=true then _ else _);by_cases c:z=m
   ·subst c;rw[Qp Qj];refine⟨_,rfl,Yd _ R.lst,cG _,QfU⟩;have S:=cZ R.lst hl;refine⟨p,_,Uj,rfl,rfl,(by rw[ax S];exact R.lst),(YS),?_⟩;have hlH:=t.free hl;have T:l∉j:=λD=>by
     obtain⟨b,_,q1⟩:=LG R.rows l D;rw[q1]at hl;cases hl
    have hpps:p∉j:=λD=>by
     obtain⟨b,_,q1⟩:=LG R.rows p D;have r:n p=RZ (Qbj b):=q1;rw[R.lst]at r;injection r with r;injection r with r;cases j with
     |nil=>simp at D
     |cons x u=>cases b with
      |nil=>cases r
      |cons y U=>grind
    refine⟨_,j++[l],rfl,Vu (Vu t hlH) I,Rv ?_ ?_,λb hb=>?_⟩
    ·rw[aC,bO];rfl
    ·refine je.mpr ⟨R.nd,Qj,λx hx y W=>?_⟩;simp at W;subst W;exact λe=>T (e▸hx)
    ·unfold gD;rw[(SX)];refine jT (ie R.rows (λx u hx J=>?_)) ?_
     ·show upd _ p _ x=_;rw[ax (λe=>by subst e;exact hpps hx),ax (λe=>by subst e;exact T hx)];exact J
     ·show upd _ p _ l=_;rw[ax (λe=>S Y6),aC];rfl
    ·grind
   ·rw[Qs Vg];obtain⟨X,g,r,e2,u,e3,e4⟩:=aex R.rows (aew m _);subst r;have hxs:QP u i:=by
     grind
    have d:n g=RZ (Qbj u):=e4;refine⟨_,rfl,_,rfl,p,_,_,Sa g,rfl,rfl,Q6 R.lst,(by rw[bO];exact acp _ _),Yd _ d,_,rfl,g,_,_,rfl,rfl,d,(YS),?_⟩;have hq'H:=C g Qj;have nd:=je.mp R.nd;have hq'p:p≠g:=λe=>by
     subst e;rw[R.lst]at d;injection d with d;injection d with d;cases u with
     |nil=>simp at d
     |cons y U=>rw[bO,cg]at d;cases X with
      |nil=>injection d with d _;cases d
      |cons x _=>injection d with d _;cases d
    refine⟨_,X++[g],rfl,Vu t hq'H,Rv (by rw[ax hq'p];exact R.lst) R.nd,C⟩;unfold gD;rw[(Sk)];have eg:(dE m (ns.take i)).getLastD []=u:=by rw[e3];simp
    rw[eg];refine jT (ie e2 (λx U hx J=>?_)) ?_
    ·show upd _ g _ x=_;rw[ax (λe=>nd.2.2 x hx g Qj e)];exact J
    ·show upd _ g _ g=_;rw[aC,bO];rfl
  ·rintro B n⟨v,j,rfl,t,R,C⟩;rw[ak,cp]at R;refine SE ?_;exact k n p j t R I C
end
structure aE(P:aO)(w:aA)(K:au)(mg:QQ)(base:Heap)(k:Nat)(x:Str)(ps:Uh)(sp:Sp):Prop where
 ex:Qge (ay P w K mg base az k f fd ps sp/\mg x=UK f/\Zq mV K/\Binds K fd ps [])
def fC{p c}(C:aE Qr X.w X.K X.mg Vp j x ps b)(d:dt k X.A)(hj:j<=k)(hg:Gl X x)(g:PA X (e::a) t)
  (h:SK=Qb:=by decide)(i:a_ (e::a) Qg=UY::a_ a Qg:=by rfl)(l:(eC c (a_ a X.env)).any (·.1)=false:=by rfl):
  PE X (UM Te (e::a) c) (JV b [] E0 t):=by
 obtain⟨f,q,F,m,n,o⟩:=C.ex;exact ace F (d.mono hj) hg m n o .nil zb g h i l
def cb(mg:QQ)(x:Str)(i:Int):Prop:= ∃t,mg x=Rz .int i t
def dF(g:cb X.mg x i)(hg:Gl X x)(hd:SK=Qb:=by decide):PE X Qb4 (tC S0):=by
 obtain⟨t,e⟩:=g;exact qk hg e (V' t) hd
abbrev D4:Stmt:=top 36
def D5:aY [UR,V3] Sh (aK D4):=QF
structure Top(mg:QQ):Prop where
 len:mg Y8=none
 all:mg "all"=none
 tuple:mg XR=none
 list:mg Rq=none
 set:mg X5=none
 sorted:mg YW=none
 enumerate:mg Uw=none
 zq:cb mg "LINE_END" 10
 blank:cb mg "BLANK" 32
 comma:cb mg "COMMA" 44
 dash:cb mg "DASH" 45
 zero:cb mg "ZERO" 48
 colon:cb mg "COLON" 58
 aez:cb mg "FIRST_LETTER" 97
 aeA:cb mg "LAST_LETTER" 122
 aeB:cb mg "MOST_LETTERS" 12
def aeC(K:au):Q8->Hp->SY:=YN (∃p a,b=[Sa p]/\(bF K H p a\/cw K H p a)/\Q (Um Sj) H)
def aaZ{K}(e:X.K=K):fV X QdX (aeC K):=by
 subst e;exact y0
def vL(xs:Qo):Bool:=!xs.isEmpty
def ig(ns:Qo):ZK:=Sd (dE 32 ns) vL
def zr(K:au):Sp:=λe H Q _=>Qbc (e=UG/\bF K H a R6/\Yu/\ ∀c p d,af H c->sN c p d (ig ns)->H p=none->(∀b∈d,H b=none)->R3 p c)
section
variable{P:aO}{w:aA}{K:au}{mg:QQ}{base:Heap}
def qB{l:QR c}{m:QR d}(h:dj F l m){i:Nat}(e:l[i]?=Zb):∃b,m[i]?=Qc b/\F a b:=L2.Dy h e
def zt{ps:QZ}{i:Nat}(h:(ps.map V.ref)[i]?=V7):∃z,ps[i]?=Qc z/\y=Sa z:=by
 grind
def aeD(F:aP K QcK QcK D4 f u)(T:Top mg)(M:aE P w K mg base 1 QcO [UR,"mark"] (zp K)):ay P w K mg base az 2 f u Sh (zr K):=by
 refine F.ok D5 (λN H Q E h=>Z8) (λX A outer s H N Q E O h=>?_)
 ·obtain⟨a,ns,rfl,R,S,k⟩:=h;refine Tn (cS (dy (y6 (own:=[(V3,1)]) rfl D5.nd (iT (fC M O (aQ _) rfl (bb (pv 0) (bb (dF T.blank rfl) bh)))) (fc QB) (VB 1 D5.nd) (Qdk (Kq (g8 oN (gA ZA QB Wu gX (bb (pv 1) bh)) dP (eO _)))) (Qdk (pv 1))))) ⟨_,rfl,a,ns,32,rfl,R,S,λo r j s1 l n1 n2=>Rn r (Rh (Q6 l.lst)) (λD p=>?_)⟩;have v:=s1.free p;refine Di (λi q=> ∃g,q=upd o D (SN .lst g V.ref)/\g.Sublist (Rf j i)/\dj (λa d=>qA o a d) g (Sd (Rf (dE 32 ns) i) vL)) (Rn [] (List.nil_sublist _) .nil) (λi q _⟨g,e,_,_⟩=>by subst e;exact bF.of (by rw[ax (cZ l.lst p)];exact l.lst)) ?_ (by rintro q⟨g,rfl,m,n⟩;rw[ak]at m n;rw[cp]at m;rw[(bQ l.rows),cp]at n;refine k _ D g (Vu s1 v) ⟨aC,l.nd.sublist m,ie n (λx ys hx L=>?_)⟩ v (λb J=>n2 b (m.subset J));show upd _ D _ x=_;rw[ax (cZ L p)];exact L)
  ·rintro i y q hi⟨g,rfl,m,n⟩;obtain⟨z,t,rfl⟩:=zt hi;obtain⟨d,hx,B⟩:=qB l.rows t;have C:=B;have Y:=Sm t;have G:=WS;refine⟨rfl,_,rfl,z,_,rfl,ZZ (by rw[ax (cZ C p)];exact C),_,_,rfl,rfl,_,rfl,?_⟩;rw[ak];show(if decide (0<(d.length:Int))=true then _ else _);by_cases c:d=[]
   ·subst c;exact Rn g Qm (by rw[G,n_];have:List.filter vL [[]]=[]:=rfl;rw[this,dR];exact n)
   ·have Z:=List.length_pos_iff.mpr c;rw[Qp Tv];have hal:QP g i:=bp m.length_le Qm;have hcl:=(vK 32 ns).1;have hil:=Ub t;have I:=bQ l.rows;refine⟨_,rfl,_,aC,(YS),g++[z],by rw[Jl,bO];rfl,Qm,?_⟩
    ·rw[G,n_];have J:QJ vL d:=by
      cases d with
      |nil=>exact Wz c
      |cons _ _=>rfl
     have:List.filter vL [d]=[d]:=by grind
     rw[this];exact jT n B
abbrev D6:Stmt:=top 37
abbrev D7:Stmt:=top 38
abbrev D8:Stmt:=top 39
abbrev D9:Stmt:=top 40
def jn(b:Int):Bool:=QV (97<=b)&&QV (b<=122)
def ij(ns:Qo):Bool:=QV (S9<=12)&&ns.all jn
end
def LH(K:au):Sp:=Qdh (c=UG/\bF K H a R6/\Yu/\ ∀b,af H b->Q (.bl (ij ns)) b)
section
variable{P:aO}{w:aA}{K:au}{mg:QQ}{base:Heap}
def D_:aY [V3,"byte"] [V3] (aK D6):=QF
def boot_all:gY "all"=YA "all":=by decide+kernel
def aeE(F:aP K "is_word" "is_word" D6 f m)(T:Top mg):ay P w K mg base az 1 f m [V3] (LH K):=by
 refine F.ok D_ (λq H Q E h=>Z8) (λt A outer s H q Q E u h=>?_)
 ·obtain⟨a,ns,rfl,j,v,k⟩:=h;refine Tn (dC (gw (g8 oN (gA ZA QB Wu gX (bb (pv 0) bh)) (dF T.aeB rfl) (eO _)) (cS (dy CL)) fb) (cS (dy (gA (S_ Kl) QB T.all boot_all (bb (y6 (own:=[("byte",1)]) rfl D_.nd (iT (pv 0)) (fc QB) (VB 1 D_.nd) (Qdk Kp) (Qdk (JQ sj sj (dF T.aez rfl) (pv 1) (dF T.aeA rfl)))) bh))))) ⟨_,rfl,a,_,rfl,Qq j,_,_,rfl,rfl,_,rfl,?_⟩;rw[ak];show(if decide _=true then _ else _);by_cases c:S9<=12
  ·rw[Qs Tv];refine⟨_,rfl,a,rfl,Rh j,λD n=>Di (xs:=R6) (λi d=>d=upd H D (SN .lst (Qdo i jn) V.bl)) rfl (λi d _ e=>by subst e;exact(af.CA (λ_ _ e=>e) n).seq j) ?_ ?_⟩
   ·rintro i y d hi rfl;obtain⟨z,o,rfl⟩:=int_at hi;refine RL ?_;have p:∀b,b=jn z-> ∃l,(upd H D (SN .lst (Qdo i jn) V.bl)) D=Qc _/\QT<bq/\SG (upd H D (SN .lst (Qdo i jn) V.bl)) D (l++[V.bl b])=upd H D (SN .lst (Qdo (i+1) jn) V.bl):=λb r=>by
     refine⟨_,aC,by rw[ak,ak,n',bK];omega,?_⟩;rw[Jl,Sm o,bO,bO,r];rfl
    refine⟨_,rfl,_,_,rfl,rfl,_,rfl,?_⟩;by_cases g:97<=z
    ·rw[Qp QgQ];exact Uu rfl (p _ (by unfold jn;rw[decide_eq_true g,uj]))
    ·rw[Qs QgQ];exact p _ (by unfold jn;rw[decide_eq_false g];rfl)
   ·rintro d rfl;rw[ak,cp];refine RF D (YT jn) (Q6 aC) ?_;have e:ij ns=(YT jn).all id:=by
     unfold ij;rw[Ze c,uj,uy];rfl
    rw[<-e];exact k _ (U9 n)
  ·rw[Qp Tv];have e:ij ns=Qb:=by unfold ij;rw[TK c];rfl
   rw[e]at k;exact k H QaJ
def jo(ns:Qo):Bool:=Ro S9 1&&(QV (49<=ns.headD 0)&&QV (ns.headD 0<=57))
def LI(K:au):Sp:=λb H Q _=>Qbc (b=UG/\bF K H a R6/\Yu/\Q (.bl (jo ns)) H)
def aeF:aY [V3] [V3] (aK D7):=QF
def aeG(F:aP K QfQ QfQ D7 f d)(T:Top mg):ay P w K mg base az 1 f d [V3] (LI K):=by
 refine F.ok aeF (λi H Q E h=>Z8) (λl A outer s H i Q E m h=>?_)
 ·obtain⟨a,ns,rfl,g,n,k⟩:=h;refine Tn (cS (dy (Jv (JN si (gA ZA QB Wu gX (bb (pv 0) bh)) dP (eO _)) (Ju (JQ sj sj (ia qo (dF T.zero rfl) dP) (iV m9 (pv 0) dP Uy) (ia qo (dF T.zero rfl) dP)))))) ⟨_,rfl,a,_,rfl,Qq g,rfl,_,rfl,?_⟩;by_cases c:S9=1
  ·obtain⟨z,rfl⟩:∃z,ns=[z]:=by
    match ns,c with
    |[z],_=>exact V' z
   rw[Qp Qj];refine⟨_,_,rfl,rfl,_,rfl,a,_,0,Um z,rfl,rfl,g,S_ kZ,_,_,rfl,rfl,_,rfl,?_⟩;by_cases b:(48+1)<=z
   ·rw[Qp QbD];refine⟨_,_,rfl,rfl,_,_,rfl,rfl,?_⟩;have e:jo [z]=QV (z<=48+9):=by
     show(true&&(QV (49<=z)&&QV _))=_;rw[Ze (show 49<=z from b)];rfl
    show Q (V.bl _) H;rw[<-e];exact k
   ·rw[Qs QbD];have e:jo [z]=Qb:=by
     show(true&&(QV (49<=z)&&QV _))=_;rw[TK (show¬49<=z from b)];rfl
    rw[e]at k;exact k
  ·rw[(ZG)];have e:jo ns=Qb:=by unfold jo;rw[TK c];rfl
   rw[e]at k;exact k
end
end AT
namespace AT
open PySem PySem.Spec PyProof.Rows L2 NT
abbrev cJ:=Qo×Int
def cT:Qo->Nk
 |[]=> .nil
 |b::r=> UP (.i b) cT r
def bC(x:cJ):Nk:= Zm (cT x.1) (.i x.2)
def sO:∀l,Qdu (cT l)/\QJ kP (cT l)/\dp (cT l)=1
 |[]=>QaV
 |b::r=>by
  obtain⟨c,a,d⟩:=sO r;exact⟨by show(true&&(kP _&&NT.ok _))=true;rw[c,a];rfl,a,by show max (0+1) _=1;rw[d];rfl⟩
def vM(x:cJ):TY (bC x):=by
 obtain⟨a,e,b⟩:=sO x.1;have c:Qdu (bC x):=by
  show Qv (NT.ok _&&(true&&(true&&(true&&true))));rw[a];rfl
 have d:dp (bC x)=2:=by
  show max _ _=2;rw[b];rfl
 unfold good;rw[c,d];rfl
def oW:∀ {l m:List Int},cT l=cT m->l=m
 |[],[],_=>rfl
 |[],_::_,e=>by cases e
 |_::_,[],e=>by cases e
 |a::l,b::m,e=>by
  injection e with e1 e2;injection e1 with e1;rw[e1,oW e2]
def lX(e:bC x=bC y):x=y:=by
 injection e with e1 e2;injection e2 with e2 _;injection e2 with e2;exact uH (oW e1) e2
def Ea:∀l,SN (eU H (cT l)).2 l Zz
 |[]=>rfl
 |b::r=>Uu rfl (Ea r)
def Ec:∀l vs,(eU H (cT l)).2 vs->vs=R1 Zz
 |[],vs,e=>e
 |b::r,vs,e=>by
  obtain⟨x,c,rfl,a,d⟩:=e;rw[a,Ec r c d];rfl
def d7(H:Hp)(x:cJ)(t:Addr):Prop:= ∃b,H t=UU [SI,QL x.2]/\H b=UU (x.1.map Zz)
def d7.key(h:d7 H x t):bV H (bC x) t:=by
 obtain⟨b,c,a⟩:=h;refine⟨vM x,t,SI,[QL x.2],rfl,c,?_,QL x.2,[],rfl,rfl,rfl⟩;cases hx:x.1 with
 |nil=>
  rw[hx]at a;exact Ss b a
 |cons z r=>
  rw[hx]at a;exact⟨b,_,_,rfl,a,rfl,Ea r⟩
def d7.of(h:bV H (bC x) t):d7 H x t:=by
 obtain⟨o,v,p,c,i,a,j⟩:=h.2;injection c with c;subst c;obtain⟨k,l,rfl,d,e⟩:=j;subst d e;cases hx:x.1 with
 |nil=>
  rw[hx]at a;obtain⟨b,rfl,f⟩:=a;exact Qh b i (by rw[hx];exact f)
 |cons z r=>
  rw[hx]at a;obtain⟨b,y,m,rfl,f,g,n⟩:=a;refine Rv b i;rw[hx,f,g,Ec r m n];rfl
def d7.keep(s:af H H')(h:d7 H x t):d7 H' x t:=by
 obtain⟨b,a,c⟩:=h;exact⟨b,s _ _ a,s _ _ c⟩
def dJ(ns:Qo):Ri cJ:=match ig ns with
 |[w]=>if QJ ij w then Se w 1 else none
 |[w,d]=>if QJ ij w/\QJ jo d then Se w (d.headD 0-48)else none
 |_=>none
def vN(K:au):Sp:=Qdh (c=UG/\bF K H a R6/\Yu/\(dJ ns=none-> ∀b,af H b->Q .a9 b)/\(∀x,dJ ns=Qz-> ∀b t,af H b->d7 b x t->H t=none->R3 t b))
section
variable{P:aO}{w:aA}{K:au}{mg:QQ}{base:Heap}
def Ed:aY [UR,"parts","word"] Sh (aK D8):=QF
def boot_tuple:gY XR=Qbq XR:=by decide+kernel
def aeH(ns:Qo):Qx ig ns<=S9+1/\ ∀xs∈ig ns,Qu<=S9:=by
 have h:=vK 32 ns;refine⟨bp (eX _ _) h.1,λxs hx=>h.2 xs (YO hx)⟩
def aeI(F:aP K QbF QbF D8 f M)(T:Top mg)(C1:aE P w K mg base 2 QcK Sh (zr K))(C2:aE P w K mg base 1 "is_word" [V3] (LH K))(C3:aE P w K mg base 1 QfQ [V3] (LI K)):
  ay P w K mg base az 3 f M Sh (vN K):=by
 refine F.ok Ed QgO (λcdv A outer s H vs Q E x h=>?_)
 ·obtain⟨a,ns,rfl,_⟩:=h;rfl
 ·obtain⟨a,ns,rfl,hS,hlen,r,N⟩:=h;refine Rv _ (dC (fU (i:=1) Ed.nd rfl QK (fC C1 x (aQ _) rfl (bb (pv 0) bh))) (dC (gw (PW.pt (yN (g8 si (gA ZA QB Wu gX (bb (pv 1) bh)) dP (eO _)) (yN (g8 oN (gA ZA QB Wu gX (bb (pv 1) bh)) dP (eO _)) (CO (yO (CN (fC C2 x QD rfl (bb (iV m9 (pv 1) dP Uy) bh)))))))) (cS (dy sd)) fb) (dC (fU (i:=2) Ed.nd rfl QK (lT Ke QB T.tuple boot_tuple (bb (iV m9 (pv 1) dP Uy) bh))) (dC (gw (g8 si (gA ZA QB Wu gX (bb (pv 1) bh)) dP (eO _)) (cS (dy (vh (bb (pv 2) (bb dP bh))))) fb) (dC (gw (yO (CN (fC C3 x QD rfl (bb (iV m9 (pv 1) dP Uy) bh)))) (cS (dy sd)) fb) (cS (dy (vh (bb (pv 2) (bb (ia JD (iV m9 (iV m9 (pv 1) dP Uy) dP Uy) (dF T.zero rfl)) bh))))))))))
  refine⟨_,rfl,a,ns,rfl,hS,hlen,λy p ps s1 R n1 n2=>?_⟩;have B:=aeH ns;have rd:dJ ns=match ig ns with
   |[w]=>if QJ ij w then Se w 1 else none
   |[w,d]=>if QJ ij w/\QJ jo d then Se w (d.headD 0-48)else none
   |_=>none:=rfl
  obtain⟨hl,nd,O⟩:=R;generalize ig ns=U at O B rd;cases O with
  |nil=>
   refine⟨_,rfl,p,_,rfl,ZZ hl,rfl,_,rfl,?_⟩;exact r rd _ s1
  | @cons q c g m hq t=>
   have S:=hq;have hwl:=B.2 c Ru;have u:=hl;have W:lU (Sa q::Wy g) 0=QaA q:=S_ kZ;refine⟨_,rfl,p,_,rfl,ZZ u,rfl,_,rfl,?_⟩;show(if decide (V.int ((V.ref q::g.map V.ref).length)=V.int 0)=true then _ else _);rw[Qs Tv];refine⟨_,rfl,p,_,rfl,ZZ u,_,_,rfl,rfl,_,rfl,?_⟩;show(if decide (2<((V.ref q::g.map V.ref).length:Int))=true then _ else _);by_cases c2:QP m 1
   ·have hps:=bQ t;rw[Qs Tv];refine⟨_,rfl,p,_,_,Sa q,rfl,rfl,Q6 u,W,q,c,rfl,Q6 S,(Qa),λX s2=>SE ?_⟩;have C:=Rt;by_cases v:QJ ij c
    ·rw[v];have D:=s2 _ _ u;have hq2:=s2 _ _ S;refine⟨_,rfl,p,_,_,Sa q,rfl,rfl,Q6 D,W,q,_,rfl,Qq ⟨Q6 hq2,λb G=>?_⟩⟩;have hbH:=C.free G;have hpb:=cZ D G;have s3:af X (upd X b (SN .tup c Zz)):=U9 G;have n:=QH C s3;have I:=s3 _ _ D;refine⟨_,rfl,p,_,rfl,ZZ I,rfl,_,rfl,?_⟩;show(if decide (V.int ((V.ref q::g.map V.ref).length)=V.int 1)=true then _ else _);cases t with
     |nil=>
      rw[Qp Qj];refine Rn _ (QaK) (λt ht=>?_);have J:=cZ aC ht;refine N (c,1) (by rw[rd];exact if_pos v) _ t (af.trans n (U9 ht)) (Rv b aC) (n.free ht);rw[ax J,aC]
     | @cons k l ps2 L hd2 t2=>
      have hU2:L=[]:=by
       simp_all
      subst hU2;cases t2;have hd2':=hd2;have hdl:=B.2 l Qj;have Y:=s3 _ _ (s2 _ _ hd2');rw[(Y1)];have Z:lU [Sa q,Sa k] 1=QaA k:=S_ kZ;refine⟨_,rfl,p,_,_,Sa k,rfl,rfl,Q6 I,Z,k,l,rfl,Q6 Y,(Qa),_,rfl,?_⟩;by_cases o:QJ jo l
      ·rw[o];obtain⟨z,rfl⟩:∃z,l=[z]:=by
        unfold jo at o;rw[bX,decide_eq_true_eq]at o;match l,o.1 with
        |[z],_=>exact V' z
       refine⟨_,rfl,_,rfl,p,_,_,Sa k,rfl,rfl,Q6 I,Z,k,_,_,Um z,rfl,rfl,Q6 Y,S_ kZ,_,_,rfl,rfl,(QaK),λt ht=>?_⟩;have J:b≠t:=cZ aC ht;refine N (c,z-48) Qm _ t (af.trans n (U9 ht)) (Rv b aC) (n.free ht);rw[ax J,aC]
      ·have cd':jo l=Qb:=by simpa using o
       rw[cd'];exact r Qm _ n
    ·have cw':ij c=Qb:=by simpa using v
     rw[cw'];refine r ?_ _ C;rw[rd];cases m with
     |nil=>exact Qs v
     |cons d L=>grind
   ·have hps:Qn g=Qn m:=bQ t;rw[Qp Tv];refine r ?_ _ s1;rw[rd];cases m with
    |nil=>simp at c2
    |cons d L=>grind
abbrev Ee:Stmt:=top 41
abbrev Ef:Stmt:=top 42
abbrev Eg:Stmt:=top 43
abbrev Eh:Stmt:=top 44
abbrev Ei:Stmt:=top 45
def fD(x:cJ):Qo:=x.1++[32,48+x.2]
end
def Ej(K:au):Sp:=λb H Q _=> ∃(t:Addr)(x:cJ),b=[VN]/\d7 H x t/\QfC x.1.length/\ ∀a p,af H a->qA a p (fD x)->H p=none->R3 p a
section
variable{P:aO}{w:aA}{K:au}{mg:QQ}{base:Heap}
def aeJ:aY Xt Xt (aK D9):=QF
def boot_list:gY Rq=Qbq Rq:=by decide+kernel
def aeK(F:aP K QdU QdU D9 f d)(T:Top mg):ay P w K mg base az 1 f d Xt (Ej K):=by
 refine F.ok aeJ (λm H Q E h=>Z8) (λq A outer s H m Q E c h=>?_)
 ·obtain⟨t,x,rfl,⟨b,g,n⟩,u,k⟩:=h;refine Tn (cS (dy (ia vn (lT Kd QB T.list boot_list (bb (iV vk (pv 0) dP Uy) bh)) (ic (bb (dF T.blank rfl) (bb (ia qo (dF T.zero rfl) (iV vk (pv 0) dP Uy)) bh)))))) ⟨_,rfl,t,_,_,Sa b,rfl,rfl,cw.of g,S_ kZ,b,_,rfl,Qy (cw.of n),QfU⟩;have s1:af H (UN l (x.1.map Zz)):=U9 hl;refine⟨_,rfl,t,_,_,Um x.2,rfl,rfl,cw.of (s1 _ _ g),S_ kZ,_,_,rfl,rfl,(QaK),λr c=>?_⟩;have s2:af _ (SG _ r [QL 32,QL (48+x.2)]):=U9 c;refine⟨l,r,_,_,rfl,rfl,s2 _ _ aC,aC,(QdD),λp i=>?_⟩;refine k _ p (QH Rt (Qbz _ i)) ?_ ((Rt).free i);show upd _ p _ p=_;rw[aC];unfold fD;rw[bO];rfl
def iX(H:Hp)(p:Addr)(ys:UW):Prop:= ∃a,H p=RZ (Wy a)/\dj (λt y=>d7 H y t) a ys
def iX.keep(s:af H H')(h:iX H p ys):iX H' p ys:=by
 obtain⟨a,b,c⟩:=h;exact⟨a,s _ _ b,ie c (λ_ _ _ q=>QY q s)⟩
def lY(ns:Qo):Ri UW:=if ig ns=[[45]]then Qc []else(dE 44 ns).mapM dJ
def LJ(K:au):Sp:=λd H Q _=>Qbc (d=UG/\bF K H a R6/\Yu/\(lY ns=none-> ∀b,af H b->Q .a9 b)/\(∀c,lY ns=R9-> ∀b p,af H b->iX b p c->H p=none->R3 p b))
def qC(ns:Qo):Ri UW:=(dE 44 ns).mapM dJ
def Ek(K:au):Sp:=λd H Q _=>Qbc (d=UG/\bF K H a R6/\Yu/\(qC ns=none-> ∀b,af H b->Q .a9 b)/\(∀c,qC ns=R9-> ∀b p,af H b->iX b p c->H p=none->R3 p b))
def zu:aY [UR,Td,V3,"x"] Sh (aK Ee):=QF
def aeL:aY Sh Sh (aK Ef):=QF
def LK{c d:Type}(f:c->Ri d):∀l x,(l++[x]).mapM f=(l.mapM f).bind (λys=>Q9 f x (λy=>ys++[y]))
 |[],x=>by
  simp [];cases f x<;>rfl
 |a::l,x=>by
  rw[List.cons_append,lB,lB,LK f l x];cases f a with
  |none=>rfl
  |some b=>cases l.mapM f with
   |none=>rfl
   |some ys=>cases f x<;>rfl
def mapM_none{b c:Type}(f:b->Ri c):∀(l:List b)(i:Nat)x,l[i]?=Qz->f x=none->l.mapM f=none
 |[],i,x,h,_=>by simp at h
 |a::l,0,x,h,e=>by
  simp at h;subst h;rw[lB,e];rfl
 |a::l,i+1,x,h,e=>by
  rw[lB,mapM_none f l i x Z9 e];cases f a<;>rfl
def iY(ns:Qo):jP:= .list (YT kF)
def Em:Qdi (m_ K H R6 (YT kF))
 |[]=> .nil
 |n::ns=> UP ZM Em ns
def LL(h:qA H a ns):Dp K H QS (iY ns):= .lst (Q6 h) (Em ns)
def LM:∀ {ps:List Addr}{b:List _},dj (λa xs=>qA H a xs) ps b->m_ K H (ps.map V.ref) (QG b iY)
 |_,_,.nil=> .nil
 |_,_,.cons r t=> UP (LL r) LM t
def En:∀xs ys:List Int,fR (Ti kF) (XZ kF)=Ro xs ys
 |[],[]=>by rfl
 |[],y::ys=>by rw[jg,cg,fR];simp
 |x::xs,[]=>by rw[jg,cg,fR];simp
 |x::xs,y::ys=>by
  rw[cg,cg,fR,En xs ys,gp];by_cases h:x=y
  ·by_cases a:xs=ys
   ·simp[h]
   ·simp[a]
  ·simp[h]
def aeM(xs ys:Qo):gp (iY xs) (iY ys)=Ro xs ys:=by
 unfold iY;rw[gp,En]
def LN:∀xs ys:List _,fR (Ti iY) (XZ iY)=Ro xs ys
 |[],[]=>by rfl
 |[],y::ys=>by rw[jg,cg,fR];simp
 |x::xs,[]=>by rw[jg,cg,fR];simp
 |x::xs,y::ys=>by
  rw[cg,cg,fR,LN xs ys,aeM];by_cases h:x=y
  ·by_cases a:xs=ys
   ·simp[]
   ·simp[]
  ·simp[]
def zv:∀xs:List Int,QJ hZ (Ti kF)/\h5 (Ti kF)=0
 |[]=>⟨by rw[jg,hZ],by rw[jg,h5]⟩
 |x::xs=>by
  obtain⟨a,b⟩:=zv xs;exact⟨by rw[cg,hZ,a,mQ];rfl,by rw[cg,h5,b,mR];rfl⟩
def LO:∀xs:List _,QJ hZ (Ti iY)/\h5 (Ti iY)<=1
 |[]=>⟨by rw[jg,hZ],by exact cG _⟩
 |x::xs=>by
  obtain⟨a,b⟩:=LO xs;obtain⟨g1,g2⟩:=zv x;refine Q_ (by rw[cg,hZ,a];show(mQ (.list _)&&true)=true;rw[mQ,g1];rfl)
  ·rw[cg,h5];have:(iY x).depth=1:=by
    show(PyData.list _).depth=1;rw[mR,g2]
   omega
def LP(xs:R_):QJ ox (.list (Ti iY)):=by
 obtain⟨a,b⟩:=LO xs;unfold ox;rw[mQ,a,mR];simp;omega
def aeN(a:dt k A):RS+64<bf:=a.units
def aeO(F:aP K QdR QdR Ee f W)(T:Top mg)(C0:aE P w K mg base 1 QcO [UR,"mark"] (zp K))(C2:aE P w K mg base 3 QbF Sh (vN K)):
  ay P w K mg base az 4 f W Sh (Ek K):=by
 refine F.ok zu (λvs H Q E h=>Z8) (λcdv A outer s H vs Q E X h=>?_)
 ·obtain⟨a,ns,rfl,hS,hlen,k0,k1⟩:=h;refine Tn (dC (fU (i:=1) zu.nd rfl QK (ic bh)) (dC (h_ eN rfl (iT (fC C0 X QD QB (bb (pv 0) (bb (dF T.comma QB) bh)))) (WC 2 zu.nd) (dC (fU (i:=3) zu.nd rfl QK (fC C2 X QD QB (bb (pv 2) bh))) (dC (gw (ql (vf (pv 3))) (cS (dy sd)) fb) (cS (iS (j1 jR mP oo oP (pv 1) (bb (pv 3) bh))))))) (cS (dy (pv 1))))) ⟨cG _,λq Y=>?_⟩;have Z:af H (UN q []):=U9 Y;have hqH:=Y;refine⟨_,rfl,a,ns,44,rfl,Z.seq hS,hlen,λH5 L n s5 R5 m1 m2=>Rn L (Rh (Q6 R5.lst)) ?_⟩;have hcl:=vK 44 ns;refine lR (λi G d=> ∃(M N:Option V)(c:List Addr)(g:List cJ),G=[Y0,UK q,M,N]/\af H d/\sN d L n (dE 44 ns)/\d q=RZ (Wy c)/\dj (λt y=>d7 d y t) c g/\(Rf (dE 44 ns) i).mapM dJ=Qc g) ⟨none,none,[],[],rfl,QH Z s5,R5,s5 _ _ aC,.nil,rfl⟩ (λi G d _⟨_,_,_,_,_,_,R',_⟩=>Q6 R'.lst) ?_ (by rintro G d⟨M,N,c,g,rfl,I,j,O,J,p⟩;have hpl:=bQ j.rows;rw[ak,hpl,cp]at p;exact⟨_,rfl,k1 g p _ q I ⟨c,O,J⟩ hqH⟩)
  ·rintro i y G d hi⟨M,N,c,g,rfl,I,j,O,J,p⟩;obtain⟨z,hz,rfl⟩:=zt hi;obtain⟨u,hx,hzx⟩:=qB j.rows hz;have hzx':=hzx;have hxl:=hcl.2 u (bL hx);have htk:=WS;refine⟨_,rfl,z,u,rfl,Q6 hzx',(Qa),λhn v k=>Rl _ rfl _ (k0 (mapM_none _ _ i u hx hn) _ (QH I k)),λx hx7 v t k hsns ht=>?_⟩
   ·refine Rl _ rfl _ ?_;have B:=k _ _ O;have htl:=bQ J;have hyl:QP g i:=by
     have:∀(l:List (List Int))r,l.mapM dJ=Qc r->Qn r=QT:=by
      intro l;induction l with
      |nil=>intro r h;cases h;rfl
      |cons a l ih=>
       intro r h;rw[lB]at h;cases ha:dJ a with
       |none=>rw[ha]at h;cases h
       |some b=>
        rw[ha]at h;cases hl:l.mapM dJ with
        |none=>rw[hl]at h;cases h
        |some r'=>
         rw[hl]at h;cases h;simp[ih r' hl]
     have:=this _ _ p;rw[this,n'];omega
    have hil:=Ub hz;have hpl:=bQ j.rows;refine⟨_,rfl,Yd _ B,_,rfl,q,_,_,rfl,rfl,B,(YS),?_⟩
    have R:RN (b≠q->v b=Qi->(SG v q (Wy c++[Sa t])) b=Qi):=λb o S e=>by rw[ax S];exact e
    have snsK:∀C D,d7 v D C->d7 (SG v q (Wy c++[Sa t])) D C:=λC D⟨b,m,U⟩=>⟨b,R _ _ (λe=>by subst e;rw[B]at m;cases m) m,R _ _ (λe=>by subst e;rw[B]at U;cases U) U⟩
    refine⟨_,_,c++[t],g++[x],rfl,Vu (QH I k) hqH,Qh ?_ j.nd (by refine ie j.rows λb bs S hbb=>R _ _ (λe=>?_) (k _ _ hbb);subst e;have:=m2 b S;rw[aC]at this;cases this),by rw[aC,bO];rfl,jT (ie J (λC D _ q'=>snsK C D (q'.keep k))) (snsK t x hsns),by rw[htk,LK,p,hx7];rfl⟩
    ·rw[ax (λe=>?_)]
     ·exact k _ _ j.lst
     ·rw[e,aC]at m1;cases m1
def aeP(F:aP K QeV QeV Ef f k)(T:Top mg)(r:aE P w K mg base 2 QcK Sh (zr K))(t:aE P w K mg base 4 QdR Sh (Ek K)):
  ay P w K mg base az 5 f k Sh (LJ K):=by
 refine F.ok aeL (λu H Q E h=>Z8) (λN A outer s H u Q E g h=>?_)
 ·obtain⟨a,ns,rfl,l,m,v,n⟩:=h;refine Tn (dC (gw (g8 (y1 (aeN g)) (fC r g QD QB (bb (pv 0) bh)) (ic (bb (ic (bb (dF T.dash QB) bh)) bh)) (eO _)) (cS (dy (ic bh))) fb) (cS (dy (fC t g QD QB (bb (pv 0) bh))))) ⟨_,rfl,a,ns,rfl,l,m,λd p O s1 R n1 n2=>Qe (QD) (λl1 x=>Qe QeL (λl2 y=>?_))⟩;have s3:af _ (SG _ l2 [Q1 l1]):=U9 y;have i:=QH (U9 x) s3;have b:=Qcv i;refine⟨.list _,SN .list [[45]] iY,.lst (Q6 (i _ _ R.lst)) (LM (ie R.rows (λ_ _ _ q=>i _ _ q))),.lst (Q6 aC) (Zf (LL (s3 _ _ aC))),LP _,LP _,_,rfl,?_⟩;have B:gp (.list (Q9 ig ns iY)) (SN .list [[45]] iY)=Ro (ig ns) [[45]]:=by rw[gp,LN]
  show(if gp _ _=true then _ else _);rw[B];by_cases c:ig ns=[[45]]
  ·rw[Qp Vg];exact⟨cG _,λq o=>n [] (by unfold lY;rw[if_pos c]) _ q (QH b (U9 o)) (Qh [] aC .nil) (b.free o)⟩
  ·rw[Qs Vg];have re:lY ns=(dE 44 ns).mapM dJ:=by unfold lY;rw[(Sk)]
   exact⟨_,rfl,a,ns,rfl,b.seq l,m,λC D j=>v (by rw[re];exact C) _ (QH b j),λG I D J j L M=>n G (by rw[re];exact I) _ J (QH b j) L (b.free M)⟩
def nv(H:Hp)(t:Addr)(e:cJ×UW):Prop:= ∃a p,H t=UU [QS,Vm]/\d7 H e.1 a/\iX H p e.2
def nv.keep(s:af H H')(h:nv H t e):nv H' t e:=by
 obtain⟨a,p,b,c,d⟩:=h;exact⟨a,p,s _ _ b,QY c s,QY d s⟩
def Eo(x:Ri cJ)(ys:Ri UW):Ri (cJ×UW):=match x,ys with
 |some x,some ys=>Se x ys
 |_,_=>none
def k5(ns:Qo):Ri (cJ×UW):=if 58∈ns then Eo (dJ (ns.take V6)) (lY (ns.drop (V6+1)))else none
end
def LQ(K:au):Sp:=Qdh (c=UG/\bF K H a R6/\Yu/\(k5 ns=none-> ∀b,af H b->Q .a9 b)/\(∀e,k5 ns=Xr-> ∀b t,af H b->nv b t e->(∀x p,b t=UU [x,Vm]->H p=none)->R3 t b))
section
variable{P:aO}{w:aA}{K:au}{mg:QQ}{base:Heap}
def zw:aY ["line","at","x",XO] ["line"] (aK Eg):=QF
def zx:Qdi (QaH R6 iW)
 |[]=>rfl
 |n::ns=>by rw[cg,ux,zx ns];rfl
def qD(z:Int):Qdi (su (Um z) R6=Ur z ns)
 |[]=>rfl
 |n::ns=>by
  have a:=qD z ns;unfold su at a⊢;rw[cg,rB,a];have e:jm Qb1 (Um z)=Ro n z:=by
   show(n==z)=Ro n z;rw[xA]
  rw[e];by_cases h:n=z
  ·simp[h]
  ·grind
def aeQ(ns:Qo)(k:Nat):iU R6 none XY=Qdo k Zz:=by
 unfold iU;rw[HT.C5,HT.vi,uw,Nat.sub_zero,ak,mH];by_cases h:k<=S9
 ·rw[uE h]
 ·simp
def LR(ns:Qo)(k:Nat):iU R6 XY none=QeA k:=by
 unfold iU;rw[HT.C5,HT.vi,ak];by_cases h:k<=S9
 ·rw[uE h,ur Qj,mI]
 ·rw[Nat.min_eq_right Qa,Iu QdJ,Iu Qa];simp
def aeR(ns:Qo)(m:Nat)(a:m<V6){c}(b:ns[m]=58):False:=by
 have h:=List.not_of_lt_findIdx a;rw[b]at h;cases h
def aeS(F:aP K QfR QfR Eg f C)(T:Top mg)(S:aE P w K mg base 3 QbF Sh (vN K))(C3:aE P w K mg base 5 QeV Sh (LJ K)):
  ay P w K mg base az 6 f C ["line"] (LQ K):=by
 refine F.ok zw (λU H Q E h=>?_) (λcdv A outer s H U Q E D h=>?_)
 ·obtain⟨a,ns,rfl,_⟩:=h;rfl
 ·obtain⟨a,ns,rfl,d,hlen,l,W⟩:=h;refine Rv _ (dC (gw (g8 Kc (dF T.colon QB) (pv 0) QB) (cS (dy sd)) fb) (dC (fU (i:=1) zw.nd rfl QK (j1 jR IS PySem.F.type_list_index acH (pv 0) (bb (dF T.colon QB) bh))) (dC (fU (i:=2) zw.nd rfl QK (fC S D QD QB (bb (vj vl (pv 0) C6 (qt (pv 1))) bh))) (dC (fU (i:=3) zw.nd rfl QK (fC C3 D QD QB (bb (vj vl (pv 0) (qt (ia qo (pv 1) dP)) C6) bh))) (dC (gw (PW.pt (yN (ql (vf (pv 2))) (CO (ql (vf (pv 3)))))) (cS (dy sd)) fb) (cS (dy (vh (bb (pv 2) (bb (pv 3) bh))))))))))
  refine⟨_,rfl,a,_,rfl,Qq d,rfl,zx ns,_,rfl,?_⟩;rw[qD];show(if(if true=true then ! decide (58∈ns)else decide (58∈ns))=true then _ else _);by_cases c:58∈ns
  ·rw[Qs QfA];have n:k5 ns=Eo (dJ (ns.take V6)) (lY (ns.drop (V6+1))):=Tz;refine⟨_,rfl,Qg6 _ d,a,_,_,V6,Um 58,rfl,rfl,d,rfl,zx ns,?_,rfl,λm z' X j=>?_,?_⟩
   ·grind
   ·rw[cY]at j;cases e:ns[m]? with
    |none=>rw[e]at j;cases j
    |some z=>
     rw[e]at j;cases j;have Y:z≠58:=λq=>by
      subst q;obtain⟨h2,Z⟩:=Zh e;exact aeR ns m X Z
     show(z==58)=Qb;rw[xA];exact TK Y
   ·
    refine⟨_,rfl,_,rfl,_,rfl,a,_,rfl,d,λl1 hl1=>?_⟩;rw[aeQ];have s1:af H (UN l1 (Qdo V6 Zz)):=U9 hl1;have l1len:QfC (Qx ns.take V6):=by grind
    have G:QfC (Qx ns.drop (V6+1)):=by grind
    refine Xa l1 _ (Q6 aC) l1len (λhn H2 s2=>?_) (λx hx H2 t s2 hsx ht=>?_)
    ·
     have k:=Rt;refine⟨_,rfl,_,rfl,_,_,rfl,rfl,_,rfl,a,_,rfl,k.seq d,λl2 r=>?_⟩;have u:iU R6 (Qc ((V6)+1)) none=QeA (V6+1):=LR ns (V6+1);rw[u];have s3:=Qbz (QeA (V6+1)) r;have g:=QH k s3;have I:k5 ns=none:=by rw[n,hn];rfl
     refine Xa l2 _ (Q6 aC) G (λJ v b=>?_) (λL M v y b N O=>?_)
     ·refine Rl _ rfl _ ?_;exact l I _ (QH g b)
     ·refine Rl _ rfl _ ?_;exact l I _ (QH g b)
    ·have k:=Rt;refine⟨_,rfl,_,rfl,_,_,rfl,rfl,_,rfl,a,_,rfl,k.seq d,λl2 r=>?_⟩;have u:iU R6 (Qc ((V6)+1)) none=QeA (V6+1):=LR ns (V6+1);rw[u];have s3:=Qbz (QeA (V6+1)) r;have g:=QH k s3;refine Xa l2 _ (Q6 aC) G (λJ v b=>?_) (λL M v y b N O=>?_)
     ·refine⟨_,rfl,_,rfl,_,rfl,_,rfl,?_⟩;exact l (by rw[n,hx,J];rfl) _ (QH g b)
     ·refine⟨_,rfl,_,rfl,_,rfl,_,rfl,_,rfl,_,rfl,(QaK),λp hp=>?_⟩;have B:=Qex (.tup [VN,Q1 y]) hp;refine W (x,L) (by rw[n,hx,M];rfl) _ p (ZW g b B) ⟨t,y,aC,QY (QY (hsx.keep s3) b) B,QY N B⟩ (λx' p' R=>by rw[aC]at R;cases R;exact g.free O)
  ·rw[Qp QfA];exact l Sk _ QaJ
end
end AT
section
set_option linter.unusedVariables false
namespace PySem
open Sem(wp)
open AutoSeq1(wpAny_loadPart')
namespace F
def aeT(a b:aJ):checkTypeCall Uw (Qe [a] [(XS,b)])=Sy ():=by kernel_rfl
def aeU(a b:aJ):checkBuiltinCall "enumerate.__new__" (Qe [SV Uw,a] [(XS,b)])=Sy ():=by kernel_rfl
def aeV(o a b:aJ):argsOk "object.__init__" (Qe [o,a] [(XS,b)]):=by
 unfold argsOk;rw[signature?_of (n:=['_','_','t','i','n','i','_','_']) VE owner_object];kernel_rfl
end F
def aeW(hl:uP Yp Qd6=Sy (YA "object.__init__"))
  (e:Bind.madeBy Yp=Sy R9)(f:Qv (R9 !=Qc "object.__new__")):
  Meets (iI.«object.__init__» ⟨self::b,[k]⟩) (λ_ R s=>s.TypeIs self T/\R (.ok (.ret Sf)) s):=by
 refine Meets.of_wp (λprog w A R s hs=>?_);obtain⟨g,d⟩:=hs;cases b with
 |nil=>
  repeat(any_goals(wp_step))
  exact SE d
 |cons a b=>
  repeat(any_goals(wp_step))
  exact SE d
def aeX(l:Addr)(items:SO aJ)(n:Nat)(b:QaW)(sl:SO _)(t:Tok):
  Meets (iI.«enumerate.__new__» (Qe [SV Uw,Uj] [(XS,.int 1 t)])) (λ_ R s=>RV l=Qc {cls:= SW,dict:=b,data:= .seq Vt n,slots:=sl}/\R (.ok (.ret (Q1 (Qer {cls:= QcA,data:= Vw Qcz})))) {s with heap:=(S5 {cls:= QcA,data:= Vw Qcz}).push {cls:= SV Uw,data:= Vw (#[.none,.bool false,.ref s.heap.objs.size,gZ 1,.none,.none])}}):=
 .of_wp (λprog w A R s h=>by
  obtain⟨e,g,d,f,os⟩:=s;obtain⟨hl,h⟩:=h;have i:=sub_enumerate;have a:Heap.IsList (Shared.heap ⟨e,g,d,f,os⟩) l Vt:=RF _ hl n rfl;wp_walk using Qdf hl
  refine wpAny_stack_any (λst=>ah ?_);split
  ·rename_i c _ _ _ _ _;cases(c==iJ Uw)
   ·wp_walk using Qdf hl,rK a
    exact SE h
   ·wp_walk using Qdf hl,rK a
    exact SE h
  ·wp_walk using Qdf hl,rK a
   exact SE h)
section
variable{prog:aO}{w:aA}{A:di}{E:SR}{s:bH}
def aeY(a:TypeCalled T i j)
  (G:checkTypeCall T (Qe b d)=Sy ())(q:checkBuiltinCall i ⟨Yp::b,d⟩=Sy ())
  (t:qa table i=Qc n)(u:qa table j=Qi)(g:Meets (n ⟨Yp::b,d⟩) S)
  (h:S UZ (wants Q₁ E) s)
  (v:∀obj f,Q₁ obj f->f.TypeIs obj T/\argsOk j ⟨obj::b,d⟩/\ ∃k,Meets (o ⟨obj::b,d⟩) k/\k UZ (wants (λr p=>r=Sf/\Q obj p) E) f):
  aj QA A (call Yp b d) Q E s:=by
 obtain⟨c,tl,H⟩:=a.mro;have I:=a.made;have J:=a.sub;refine rN (x9 ?_);refine ah ⟨Ci _ VD,oj Ck ?_⟩;have K:=a.notType;have L:=a.canCreate;repeat(any_goals(wp_step))
 refine jO (xZ a.plain t (uN q (g prog w UZ _ s h))) (λr f l=>?_);cases r with
 |error e=>exact l
 |ok x=>
  cases x with
  |ret obj=>
   obtain⟨y,a5,k,z,B⟩:=v _ _ l;have M:=a.init.lookup;have N:=a.init.bind obj;repeat(any_goals(wp_step))
   refine jO (xZ a.init.plain u (a.init.check _ _ _ _ _ _ _ _ y a5 (z prog w UZ _ f B))) (λC p m=>?_);cases C with
   |error e=>exact m
   |ok D=>
    cases D with
    |ret r=>
     obtain⟨rfl,O⟩:=m;repeat(any_goals(first|assumption|wp_step))
    |_=>exact m.elim
  |_=>exact l.elim
def aeZ(i:Qco s l Vt)
  (h:∀h',IsEnum h' (Qt+1) Qt 1 Sf->h'.IsListIter Qt l 0->Xk=Qt+2->(RN (Th=Qi->T_=Qi))->R3 (Qt+1) Xi):
  aj QA A (call (SV Uw) [Uj] [(XS,.int 1 t)]) Q E s:=by
 obtain⟨⟨c,j,k,sl⟩,hl,a,n,hd⟩:=i;replace a:=a
 replace hd:=hd
 subst a hd;refine aeY (Q₁:=λobj d=>d.TypeIs obj _/\Q obj d) F.called_enumerate (F.aeT _ _) (F.aeU _ _) F.entry_enumerate_new F.entry_object_init (aeX l Vt n j sl t) (Q_ hl) (λobj d e=>⟨e.1,F.aeV obj _ _,_,aeW F.called_enumerate.init.lookup F.called_enumerate.made QD,e.1,rfl,e.2⟩)
 have f:Qer {cls:= QcA,data:= Vw Qcz}=Qt+1:=g0 ..;rw[f];have g:=by
  have:=cH (S5 {cls:= QcA,data:= Vw Qcz}) (o:={cls:= SV Uw,data:= Vw (#[.none,.bool false,.ref s.heap.objs.size,gZ 1,.none,.none])}) rfl
  rw[f]at this;exact this
 refine⟨Sz _ g,h _ g (Zp _ (bM _ (cH _ rfl))) (by rw[g0,f]) (λb o x=>bM _ (bM _ x))⟩
end
end PySem
end
namespace L2
open PySem PySem.Spec PyProof.Rows
def vO(K:au)(a:Addr):It:=
 ⟨λi H=> ∃(b:List V)(x:V),bF K H a b/\b[i]?=Qz,λi H v c=> ∃T x,v=Q1 T/\H T=none/\c=upd H T (.tup [QL (i+1),x])/\ ∀b,bF K H a b->b[i]?=Qz,λi H=> ∃b,bF K H a b/\WW=i⟩
def LS(a:VH=none)(it l:Addr)(b:l≠it)(items:SO aJ):
  Draws prog w A it [it,l] (VG+1) (λj v=> ∃i,j=i+1/\items[i]?=Rg) (λj h=> ∃i,j=i+1/\h.IsListIter it l i/\h.IsList l Vt)where
 live:=λ_ _⟨i,_,st⟩=>(yi (prog:=prog) (w:=w) a it l b Vt).live i _ st
 frame:=λ_ _ _⟨i,c,st⟩d=>Qh i c ((yi (prog:=prog) (w:=w) a it l b Vt).frame i _ _ st d)
 item:=λj s Q E p⟨i,c,st⟩e=>(yi a it l b Vt).item i s Q E Qa st (λx f g k m n=>e x f g (Qh i c k) ⟨i+1,Qa,m⟩ n)
 done:=λs Q E⟨i,c,st⟩o=>(yi a it l b Vt).done s Q E ((show i=items.size by omega)▸st) o
def ae0{K}(a e it:Addr):
  Turn P w K (Xe Y Z tpos) (vO K a) [e,it] e (λi h=>(∃m,IsEnum h e it (i+1:Nat) m)/\h.IsListIter it a i/\e≠it)where
 mem:=by simp
 obj:=λi h st b d=>by
  obtain⟨⟨m,c⟩,⟨o,S,n,hd⟩,_⟩:=st
  rcases (Z_) with z|z
  ·grind
  ·grind
 keep:=λi h C st k=>by
  obtain⟨⟨m,c⟩,hi,j⟩:=st;exact Qh ⟨m,k e Qj _ c⟩ (hi.at (λo q=>k it Qj o q)) j
 item:=by
  intro X D F G n i T s U H E I r st hg;subst D F G;obtain⟨⟨m,c⟩,hit,j⟩:=st;obtain⟨xs,x,t,hx⟩:=hg;obtain⟨y,J,p,hz⟩:=I.list t;obtain⟨u,hu,ru⟩:=J.get hx;have hel:=bx c;have hil:it<Qt:=by obtain⟨_,q,_⟩:=hit;exact bx q
  have L:a≠it:=by
   rintro rfl;obtain⟨o1,M,N,_⟩:=hit;obtain⟨V,g,l,_⟩:=p.isList;rw[M]at g;cases g;rw[N]at l;exact Rk l QD
  have hea:e≠a:=by
   rintro rfl;obtain⟨V,g,l,_⟩:=p.isList;rw[c]at g;cases g;exact Rk (show iJ _=iJ _ from l) QD
  have hil2:i<Qn y:=by
   grind
  refine wpAny_pyNext_enum_itemD (LS (A:=X.A.in1) (VC n) it a L _) c (Rn i hit QaX) (by simpa using hil2) j (by simp[j,hea]) (λv C B⟨f,ei,hv⟩S⟨i2,ei2,hit',_⟩hT hsz hk=>?_);obtain rfl:f=i:=by omega
  obtain rfl:i2=f+1:=by omega
  obtain rfl:v=u:=by
   grind
  refine SE (wpAny_letOwnedTupleGo_enum S (λO he' R=>?_));have W:=Rx R.2 _ (lC hel) hT;have e1:(f+1:Nat)=f+1:=by omega
  rw[e1]at W
  have I1:Inv X T U (upd H _ (.tup [QL _,x])) {s with heap:=O,toks:=B+1}:=
   I.Du (λb ob d q=>Rx R.2 b (λz=>d Qab) (hk b ob (λz=>d Qab) (λz=>d Qab) q)) r (aQ _) ⟨QaK,[.int _ B,v],Zm Yv ru,_,W,rfl,_,rfl⟩
  refine⟨WQ,_,I1,rfl,⟨_,x,rfl,Ut (aQ _),rfl,λys hy=>by rw[I.yP hy t];exact hx⟩,Qh (Qe v Qm) (hit'.at (λo q=>Rx R.2 it (fP j) q)) j,λb d=>?_⟩
  ·have hb':b<Qt:=by
    grind
   rw[ax (b9 hb')];exact(r b d).1
 done:=by
  intro X D F G n i T s U H E I r st hg;subst D F G;obtain⟨⟨m,c⟩,hit,j⟩:=st;obtain⟨xs,t,hx⟩:=hg;obtain⟨y,J,p,hz⟩:=I.list t;obtain⟨f0,f1,f2,f3,f4,f5⟩:=r it Qj;have hl:=J.length;have L:a≠it:=by
   rintro rfl;obtain⟨o1,M,N,_⟩:=hit;obtain⟨V,g,l,_⟩:=p.isList;rw[M]at g;cases g;rw[N]at l;exact Rk l QD
  exact wpAny_pyNext_enum_endD (LS (A:=X.A.in1) (VC n) it a L _) c ⟨i,Tv,hit,QaX⟩ (λC eb=>RL (I.turned (λb o d q=>eb b o d q) f0 f1 f3 f4 f5))
 self:=Qdg (let⟨⟨_,c⟩,_⟩:=st;x4 c h)
def ae1
  (h:aj M A (spliced (eC b (a_ [e] env))) (λvs d=>aj M A (evalAll ((fx b (fw c env)).map (·.2))) (λkvs f=>aj M A (call (.type T) vs (((fx b (fw c env)).filterMap (·.1)).zip kvs)) Q E f) E d) E s)
  (g:eC b (a_ [e] env)=[QgH (QaE e)]:=by rfl)
  (i:(fx b (fw c env)).all (·.1.isSome)=true:=by rfl)
  (j:(fx b (fw c env)).any (·.1.isNone)=false:=by rfl):
  aj M A (callWith b Yp [] (eC b (a_ [e] env)) (fx b (fw c env))) Q E s:=by
 have k:aj M A (evalArgs Yp true (eC b (a_ [e] env)) (fx b (fw c env))) (λa d=>aj M A (call Yp ([]++a.pos) a.kw) Q E d) E s:=by
  rw[g]at h⊢;exact evalArgs_kwB i h
 unfold callWith;refine ab (fj (ej k (λa d l=>ab (yb ?_)) QcF));have m:(eC b (a_ [e] env)).any (·.1)=false:=by rw[g];rfl
 simp [m,j];exact ab (ah (ab (ej l (λr f n=>ab (fj (wpAny_point (ah n)))) QcF)))
def ae2(K:au)(c:TA):TI:=λd H R=>c d H (λe b=> ∃a f,e=UG/\bF K b a f/\R (vO K a) b)
def ae3(hg:Gl X Uw)(z:X.mg Uw=none)(A:PA X [e] m)(hs:a_ [e] Qg=U2:=by rfl):
  PI X (Xe x y w) (Qg5 (Qg4 Uw) [e] [⟨Qc XS,Qax 1 j n,kp⟩] f) (ae2 X.K m):=by
 refine λg s k H R I h=>pY (lO I hg z boot_enumerate (ae1 (aR (A f g s k H _ I h) (λQ s1⟨S,o,B,C,q1⟩=>aR ((JZ dP JY) f g s1 k o (λzs c=>zs=[QL 1]/\c=o) B Vh) (λT s2⟨zs,c,d,l,D,E⟩=>?_))) QgY));subst D E;obtain⟨a,U,ex,F,q⟩:=q1;subst ex;cases l with
 |cons l G=>
 cases G;obtain⟨t,J⟩:=l;subst J;cases C with
 |cons r K=>
  cases K;cases r;obtain⟨V,W,L,Y⟩:=d.list F;refine aeZ L.isList (λM u hit Z N=>x4 u ?_);refine⟨QdI+1,[QdI+1,QdI],_,_,c,rfl,d.kept (t':=s2.toks) N,ae0 a _ _,Qh (Qe Sf u) hit (Nat.succ_ne_self _),λb P=>?_,q⟩
  have v:QdI<=b:=by
   grind
  exact d.oK v (X9 d v)
def ae4{K}{g:TG}{tb:TS}{D:Ends}(b:Nat->ZT)(h0:b 0 σ H)(hl:∀i σ H,i<=Qu->b i σ H->bF K H a xs)
  (hs:∀i x σ H T,xs[i]?=Qz->b i σ H->H T=none->g (Q1 T) σ (upd H T (.tup [QL (i+1),x])) (λc d=>tb Qgt c d))(hd:∀σ H,b Qu σ H->D.nx σ H):
  Qem ((∃m,W 0 m σ H)/\ ∀i m σ H,W i m σ H->((vO K a).stop i H/\D.nx σ H)\/((vO K a).go i H/\ ∃N,(∀e H',N e H'-> ∃f,f<m/\W (i+1) f e H')/\ ∀x H',(vO K a).jl i H x H'->g x σ H' (λc d=>tb QdC c d))):=by
 refine Qgk (m=Qu-i/\i<=Qu/\b i σ H) ⟨Qu,Qj,cG _,h0⟩;rintro i m σ H⟨rfl,hi,p⟩;have q:=hl i σ H hi p;rcases Nat.lt_or_ge i _ with h|l
 ·refine Qy ⟨⟨xs,xs[i],q,QaQ⟩,b (i+1),λe H' j=>RF (Qu-(i+1)) Qa h j,?_⟩;rintro _ _⟨T,x,rfl,k,rfl,hx⟩;exact hs i x σ H T (hx xs q) p k
 ·obtain rfl:i=Qu:=by omega
  exact Qq ⟨Sz xs q,hd σ H p⟩
def ae5{K}{g:TG}{tb:TS}{D:Ends}(b:Nat->ZT)(h0:b 0 σ H)(hl:∀i σ H,i<=Qu->b i σ H->bF K H a xs)
  (hs:∀i x σ H T,xs[i]?=Qz->b i σ H->H T=none->g (Q1 T) σ (upd H T (.tup [S0,x])) (λc d=>tb Qgt c d))(hd:∀σ H,b Qu σ H->D.nx σ H):
  Qem ((∃m,W 0 m σ H)/\ ∀i m σ H,W i m σ H->((vx K a).stop i H/\D.nx σ H)\/((vx K a).go i H/\ ∃N,(∀e H',N e H'-> ∃f,f<m/\W (i+1) f e H')/\ ∀x H',(vx K a).jl i H x H'->g x σ H' (λc d=>tb QdC c d))):=by
 refine Qgk (m=Qu-i/\i<=Qu/\b i σ H) ⟨Qu,Qj,cG _,h0⟩;rintro i m σ H⟨rfl,hi,p⟩;have q:=hl i σ H hi p;rcases Nat.lt_or_ge i _ with h|l
 ·refine Qy ⟨⟨xs,xs[i],q,QaQ⟩,b (i+1),λe H' j=>RF (Qu-(i+1)) Qa h j,?_⟩;rintro _ _⟨T,x,rfl,k,rfl,hx⟩;exact hs i x σ H T (hx xs q) p k
 ·obtain rfl:i=Qu:=by omega
  exact Qq ⟨Qh xs q (aQ _),hd σ H p⟩
end L2
namespace AT
open PySem PySem.Spec PyProof.Rows L2 NT
def rem(H:Hp)(q:Addr):Hp:=λb=>if b=q then none else H b
def lZ(h:b≠q):rem H q b=H b:=Vs
def ae6(H:Hp)(q:Addr)(o:HO):rem (upd H q o) q=rem H q:=by
 funext b
 by_cases h:b=q
 ·simp[rem,h]
 ·rw[lZ h,lZ h,ax h]
def vP(H:Hp)(q:Addr):af (rem H q) H:=Q4 (by
 by_cases h:b=q
 ·simp[rem,h]at e
 ·rwa [lZ h]at e)
def zy(s:af H H')(q:Addr):af (rem H q) (rem H' q):=Q4 (by
 by_cases h:b=q
 ·simp[AT.rem,h]at e
 ·rw[lZ h]at e⊢;exact s _ _ e)
def d7.rem(d:H q=RZ l)(h:d7 H x t):d7 (rem H q) x t:=by
 obtain⟨b,a,c⟩:=h;exact⟨b,by rw[lZ (λe=>by grind)];exact a,by rw[lZ (λe=>by grind)];exact c⟩
def iX.rem(a:H q=RZ l)(b:p≠q)(h:iX H p ys):iX (rem H q) p ys:=by
 obtain⟨c,d,e⟩:=h;exact⟨c,by rw[lZ b];exact d,ie e (λ_ _ _ z=>d7.rem a z)⟩
def nv.rem(a:H q=RZ l)(h:nv H t e)(c:∀x p,H t=UU [x,Vm]->p≠q):nv (rem H q) t e:=by
 obtain⟨d,p,b,f,g⟩:=h;refine⟨d,p,?_,f.rem a,g.rem a (c _ _ b)⟩;rw[lZ (λe=>Qm)];exact b
abbrev Entry:=Int×Ri (cJ×UW)
def zz(H:Hp)(t:Addr)(e:Entry):Prop:= ∃v,H t=UU [QL e.1,v]/\((e.2=none/\v= .a9)\/ ∃b l,e.2=Qc l/\v=SI/\nv H b l)
def zz.keep(s:af H H')(h:zz H t e):zz H' t e:=by
 obtain⟨v,a,c⟩:=h;refine⟨v,s _ _ a,c.imp id ?_⟩;rintro⟨b,l,d,f,g⟩;exact⟨b,l,d,f,QY g s⟩
def oX(H0 H:Hp)(t:Addr)(e:Entry):Prop:=zz H t e/\ ∀n b x p,H t=UU [n,SI]->H b=UU [x,Vm]->H0 p=none
def oX.keep(s:af H H')(h:oX H0 H t e):oX H0 H' t e:=by
 obtain⟨a,c⟩:=h;refine⟨QY a s,λn b x p d f=>?_⟩;obtain⟨v,q1,g⟩:=a;have i:=s _ _ q1;have j:n=QL e.1/\Sa b=v:=by
  grind
 obtain⟨rfl,rfl⟩:=j;rcases g with⟨_,q⟩|⟨k,l,_,q,m,o,q5,_⟩
 ·cases q
 ·injection q with q;subst q;have q6:=s _ _ q5;rw[f]at q6;refine c _ b x p q1 ?_;rw[q5];exact q6.symm
def ae7(H0 H:Hp)(p:Addr)(b:QR Entry):Prop:= ∃a,H p=RZ (Wy a)/\dj (λt e=>oX H0 (rem H p) t e) a b
def oY(k:Int)(l:Qo):QR Entry:=if ig l=[]then []else [(k,k5 l)]
def hB:Int->ZK->QR Entry
 |_,[]=>[]
 |k,l::r=>oY k l++hB (k+1) r
def LU:∀k b l,hB k (b++[l])=hB k b++oY (k+WW) l
 |k,[],l=>by simp[hB]
 |k,a::b,l=>by
  rw[List.cons_append,hB,hB,LU (k+1) b l,eK];congr 3
  simp;omega
def LV:∀k b,Tj hB k b WW
 |k,[]=>aQ _
 |k,a::b=>by
  have:=LV (k+1) b;rw[hB,b0,dh];unfold oY;split
  ·simp;omega
  ·simp;omega
def Ep(ns:Qo):QR Entry:=hB 1 (dE 10 ns)
def LW(K:au):Sp:=Qdh (c=UG/\bF K H a R6/\Yu/\ ∀b p,af H b->ae7 H b p (Ep ns)->H p=none->R3 p b)
section
variable{P:aO}{w:aA}{K:au}{mg:QQ}{base:Heap}
def zA:aY [RJ,QbP,"number","line"] U3 (aK Eh):=QF
def ae8(F:aP K QeY QeY Eh f fd)(T:Top mg)(C0:aE P w K mg base 1 QcO [UR,"mark"] (zp K))(C1:aE P w K mg base 2 QcK Sh (zr K))(C2:aE P w K mg base 6 QfR ["line"] (LQ K)):
  ay P w K mg base az 7 f fd U3 (LW K):=by
 refine F.ok zA QgO (λcdv A outer s H vs Q E hr h=>?_)
 ·obtain⟨a,ns,rfl,_⟩:=h;rfl
 ·obtain⟨a,ns,rfl,hS,hlen,k1⟩:=h;refine Rv _ (dC (fU (i:=1) zA.nd rfl QK (ic bh)) (dC (h_ eN rfl (ae3 QB T.enumerate (bb (fC C0 hr QD QB (bb (pv 0) (bb (dF T.zq QB) bh))) bh)) (oJ rfl (dQ (WC 2 zA.nd) (dQ (WC 3 zA.nd) jY))) (cS (gw (g8 oN (gA ZA QB Wu gX (bb (fC C1 hr QD QB (bb (pv 3) bh)) bh)) dP (eO _)) (cS (iS (j1 jR mP oo oP (pv 1) (bb (vh (bb (pv 2) (bb (fC C2 hr QD QB (bb (pv 3) bh)) bh))) bh)))) fb))) (cS (dy (pv 1)))))
  refine⟨cG _,λq hq=>?_⟩;have s1:af H (UN q []):=U9 hq;refine⟨_,rfl,a,ns,10,rfl,s1.seq hS,hlen,λH1 p L s2 R n1 n2=>Tt p (Q6 R.lst) ?_⟩;have s12:=Rt;have hcl:=vK 10 ns;have hpq:p≠q:=λe=>by subst e;rw[aC]at n1;cases n1
  have hpsq:∀b∈L,b≠q:=λb M e=>by subst e;have:=n2 b M;rw[aC]at this;cases this
  refine ae4 (λi X r=> ∃(N O:Option V)(j:List Addr),X=[Y0,UK q,N,O]/\af H r/\sN r p L (dE 10 ns)/\r q=RZ (Wy j)/\dj (λt e=>oX H (rem r q) t e) j (hB 1 (Rf (dE 10 ns) i))) ⟨none,none,[],rfl,s12,R,s2 _ _ aC,.nil⟩ (λi X r _⟨_,_,_,_,_,R',_⟩=>Q6 R'.lst) ?_ ?_
  ·rintro i y X r T' hi⟨N,O,j,rfl,S,C,Y,I⟩hT;obtain⟨z,hz,rfl⟩:=zt hi;obtain⟨k,hx,hzx⟩:=qB C.rows hz;have hzx':=hzx;have hxl:=hcl.2 k (bL hx);have htk:=WS;have hil:=Ub hx;have htl:Qx (dE 10 ns).take i=i:=by grind
   have hgo:hB 1 (Qdp (dE 10 ns) i)=hB 1 (Rf (dE 10 ns) i)++oY (i+1) k:=by
    rw[htk,LU,htl,Int.add_comm]
   have sT:af r (upd r T' (.tup [QL (i+1),Q1 z])):=U9 hT;refine⟨T',_,rfl,cw.of aC,rfl,_,_,rfl,_,_,rfl,rfl,?_⟩;refine⟨_,rfl,z,k,rfl,Q6 (sT _ _ hzx'),(Qa),λH7 pu psu s7 RU u1 u2=>⟨pu,_,rfl,ZZ RU.lst,_,_,rfl,rfl,_,rfl,?_⟩⟩;have u:=sT.trans s7;have hul:=bQ RU.rows;show(if decide (0<((psu.map V.ref).length:Int))=true then _ else _);by_cases c:ig k=[]
   ·rw[(ZG)];refine⟨_,_,j,rfl,QH S u,⟨u _ _ C.lst,C.nd,ie C.rows (λ_ _ _ U=>u _ _ U)⟩,u _ _ Y,?_⟩;rw[hgo,show oY (i+1) k=[]from Tz,dR];exact ie I (λ_ _ _ U=>QY U (zy u q))
   ·have hul0:0<psu.length:=by
     grind
    rw[Qp (by simpa using hul0)];have G:=u _ _ Y;have hlI:oY (i+1) k=[(QW i+1,k5 k)]:=Sk;have htsl:QP j 16001:=by
     have e1:=bQ I;have e2:=LV 1 (Rf (dE 10 ns) i);omega
    have fin:∀g v d,af H7 g->g d=none->((k5 k=none/\v= .a9)\/ ∃b l,k5 k=Qc l/\v=SI/\nv (rem g q) b l/\ ∀x p,g b=UU [x,Vm]->H p=none)-> ∃(N O:Option V)(ts':List Addr),[QaA a,QaA q,RE V.int (i+1),QaA z]=[QaA a,QaA q,N,O]/\af H (SG (upd g d (.tup [QL (i+1),v])) q (Wy j++[Sa d]))/\sN (SG (upd g d (.tup [QL (i+1),v])) q (Wy j++[Sa d])) p L (dE 10 ns)/\(SG (upd g d (.tup [QL (i+1),v])) q (Wy j++[Sa d])) q=RZ (ts'.map V.ref)/\dj (λt e=>oX H (rem (SG (upd g d (.tup [QL (i+1),v])) q (Wy j++[Sa d])) q) t e) ts' (hB 1 (Qdp (dE 10 ns) i)):=by
     intro g v d m B hv;have s68:=QH S (QH u m);have J:d≠q:=Qgu
     have W:af g (upd g d (.tup [QL (i+1),v])):=U9 B;have kq:RN (b≠q->r b=Qi->(SG (upd g d (.tup [QL (i+1),v])) q (Wy j++[Sa d])) b=Qi):=λb o M e=>by
      rw[ax M];exact W _ _ (m _ _ (u _ _ e))
     refine⟨_,_,j++[d],rfl,Vu (s68.trans W) hq,⟨kq _ _ hpq C.lst,C.nd,ie C.rows (λb bs M hbb=>kq _ _ (hpsq b M) hbb)⟩,(by rw[aC,bO];rfl),?_⟩;rw[hgo,hlI,ae6];refine jT (ie I (λ_ _ _ U=>QY U (zy (ZW u m W) q))) ⟨Rv v ?_,λn b x p e1 e2=>?_⟩
     ·rw[lZ J,aC]
     ·rcases hv with⟨Z,D⟩|⟨b,l,Z,D,h3,_⟩
      ·exact Qq (Qe Z D)
      ·exact Qy ⟨b,l,Z,D,h3.keep (zy W q)⟩
     ·rw[lZ J,aC]at e1;cases e1;rcases hv with⟨_,D⟩|⟨b',l,Z,D,h3,h4⟩
      ·cases D
      ·injection D with D;subst D;obtain⟨tx,p',q1,_,_⟩:=h3;have q2:=zy W q _ _ q1;rw[e2]at q2;cases q2;exact h4 _ _ (vP _ _ _ _ q1)
    refine Rn _ (Yd _ G) ?_;refine⟨_,rfl,_,rfl,z,k,rfl,Q6 (u _ _ hzx'),(Qa),λhn g m=>?_,λl hl8 g t m hL hpn=>?_⟩
    ·refine Qe (QaK) (λd B=>?_);have J:q≠d:=Qgu
     refine⟨q,_,_,rfl,rfl,(by rw[ax J];exact m _ _ G),(YS),?_⟩;exact fin g .a9 d m B (Qds hn)
    ·refine Qe (QaK) (λd B=>?_);have J:q≠d:=Qgu
     refine⟨q,_,_,rfl,rfl,(by rw[ax J];exact m _ _ G),(YS),?_⟩;exact fin g VN d m B (Qy ⟨t,l,hl8,rfl,hL.rem (m _ _ G) (λx p' e e'=>Qm),λx p' e=>(QH S u).free (hpn x p' e)⟩)
  ·rintro X r⟨N,O,j,rfl,S,C,Y,I⟩;have hpl:Wt=Wa dE 10 ns:=bQ C.rows;rw[ak,hpl,cp]at I;refine SE ?_;exact k1 _ q S (Qh j Y I) hq
def oZ(acc:Qo)(y:cJ):Qo:=(if acc=[]then []else acc++[44])++32::fD y
def fE(ys:UW):Qo:=ys.foldl oZ []
def vQ(x:cJ)(ys:UW):Qo:=fD x++58::(if ys=[]then [32,45,10]else fE ys++[10])
def zB(ys:UW)(y:cJ):fE (ys++[y])=oZ (fE ys) y:=by unfold fE;rw[iD];rfl
def ae9(h:ys≠[]):fE ys≠[]:=by
 obtain⟨l,y,rfl⟩:∃l y,ys=l++[y]:=Qh ys.dropLast (ys.getLast h) (um h).symm;rw[zB];unfold oZ;simp
def LX:∀n ys,QbO=n->(∀y∈ys,y.1.length<=100)->Qx fE ys<=104*n:=by
 intro n;induction n with
 |zero=>
  intro ys h _;have:=pP h;subst this;exact cG _
 |succ n c=>
  intro ys h a;have b:ys≠[]:=QgC
  obtain⟨l,y,rfl⟩:∃l y,ys=l++[y]:=Qh ys.dropLast (ys.getLast b) (um b).symm;have f:=c l QeQ (λz d=>a z (by simp[d]));have g:=a y Qj;rw[zB];unfold oZ fD;split
  ·simp;omega
  ·simp;omega
end
def LY(K:au):Sp:=λc H Q _=> ∃(t p:Addr)(x:cJ)(a:List cJ),c=[VN,Vm]/\d7 H x t/\iX H p a/\x.1.length<=100/\(∀y∈a,y.1.length<=100)/\QP a 10000/\ ∀b l,af H b->qA b l (vQ x a)->H l=none->R3 l b
section
variable{P:aO}{w:aA}{K:au}{mg:QQ}{base:Heap}
def zC:aY ["x",XO,"line",Qb6,"y"] ["x",XO] (aK Ei):=QF
def afa(F:aP K Qfj Qfj Ei f fd)(T:Top mg)(C0:aE P w K mg base 1 QdU Xt (Ej K)):
  ay P w K mg base az 2 f fd ["x",XO] (LY K):=by
 refine F.ok zC QgO (λcdv A outer s H vs Q E g h=>?_)
 ·obtain⟨t,p,x,b,rfl,_⟩:=h;rfl
 ·obtain⟨t,p,x,b,rfl,hx,hys,hxl,M,hlen,k1⟩:=h;refine Rv _ (dC (fU (i:=2) zC.nd rfl QK (ia vn (fC C0 g QD QB (bb (pv 0) bh)) (ic (bb (dF T.colon QB) bh)))) (dC (gw (g8 si (gA ZA QB Wu gX (bb (pv 1) bh)) dP (eO _)) (cS (dy (ia vn (pv 2) (ic (bb (dF T.blank QB) (bb (dF T.dash QB) (bb (dF T.zq QB) bh))))))) fb) (dC (h_ eN rfl (KH QB T.enumerate (bb (pv 1) bh)) (oJ rfl (dQ (WC 3 zC.nd) (dQ (WC 4 zC.nd) jY))) (dC (gw (g8 oN (pv 3) dP (eO _)) (cS (iS (j1 jR mP oo oP (pv 2) (bb (dF T.comma QB) bh)))) fb) (dC (iS (j1 jR mP oo oP (pv 2) (bb (dF T.blank QB) bh))) (cS (iS (j1 jR uX Cj Kh (pv 2) (bb (fC C0 g QD QB (bb (pv 4) bh)) bh))))))) (cS (dy (ia vn (pv 2) (ic (bb (dF T.zq QB) bh))))))))
  obtain⟨B,I,hp2⟩:=hys;refine⟨_,rfl,t,x,rfl,hx,(Qa),λN l1 s1 hl1 nl1=>Qe QeL (λl2 hl2=>?_)⟩;have hI1:=hl1;have s2:af N (SG N l2 [QL 58]):=U9 hl2;have htl:Qx fD x=x.1.length+2:=by unfold fD;simp
  refine⟨l1,l2,_,_,rfl,rfl,s2 _ _ hI1,aC,(by simp;rw[bK];omega),λq hq=>?_⟩;have s3:=Qbz (Qey fD x++[QL 58]) hq;have C:=QH Rt s3;have hqH:=(Rt).free hq;have hpq:=cZ I hqH;have htsl:=bQ hp2;refine⟨_,rfl,p,_,rfl,ZZ (C _ _ I),rfl,_,rfl,?_⟩;show(if decide (V.int ((B.map V.ref).length)=V.int 0)=true then _ else _);by_cases c:b=[]
  ·subst c;have hts:=pP htsl;subst hts;rw[Qp Qj];refine Rn _ (by show 3<=bq;decide) (λO R=>?_);have m:=Qbz [QL 32,QL 45,QL 10] R;refine⟨q,O,_,_,rfl,rfl,m _ _ aC,aC,(by simp;rw[bK];omega),λr g=>?_⟩;have S:=Qbz ((Qey fD x++[QL 58])++[QL 32,QL 45,QL 10]) g;refine k1 _ r (ZW C m S) ?_ ((QH C m).free g);show upd _ r _ r=_;rw[aC];unfold vQ;rw[(SX)];simp
  ·have hts:0<Qn B:=by grind
   rw[(ZG)];refine⟨_,rfl,p,_,rfl,Q6 (C _ _ I),?_⟩;refine ae5 (λi J u=> ∃(U W:Option V),J=[UK t,UK p,UK q,U,W]/\af H u/\u q=RZ (Qbj (fD x++58::fE (QbZ i)))) (RF none none C (by rw[aC];simp[fE])) (λi J u _⟨_,_,_,s',_⟩=>Q6 (s' _ _ I)) ?_ ?_
   ·rintro i y J u L hi⟨U,W,rfl,j,v⟩hT;obtain⟨z,X,rfl⟩:=zt hi;obtain⟨d,Y,hzy⟩:=qB hp2 X;have hyel:=M d (bL Y);have hil:=Ub Y;have hbl:Qx fE (QbZ i)<=104*10000:=by
     have:=LX (Qx b.take i) (QbZ i) rfl (λz X=>M z (jd X));rw[n']at this;omega
    have hT':L≠q:=λe=>Qm
    have hTH:H L=none:=j.free hT;have k:af u (upd u L (.tup [QL (i:Nat),Q1 z])):=U9 hT;refine⟨L,_,rfl,cw.of aC,rfl,_,_,rfl,_,_,rfl,rfl,?_⟩;refine⟨_,rfl,_,_,rfl,rfl,_,rfl,?_⟩;show(if decide ((0:Int)<(i:Int))=true then _ else _);have tk:fE (QbZ (i+1))=oZ (fE (QbZ i)) d:=by rw[Sm Y,zB]
    have l:∀Z:Hp,af H Z-> ∀o,af H (upd Z q o):=λZ s8 o=>Vu s8 hqH;by_cases ci:0<i
    ·rw[Qp (by simpa using ci)];have hne:fE (QbZ i)≠[]:=ae9 (λe=>by
      simp_all)
     refine⟨_,rfl,Yd _ (k _ _ v),q,_,_,rfl,rfl,k _ _ v,(QdD),?_⟩;refine⟨_,rfl,Yd _ aC,q,_,_,rfl,rfl,aC,(by rw[b0,ak,bK];simp;omega),?_⟩;refine⟨_,rfl,Yd _ aC,_,rfl,z,d,rfl,hzy.keep (l _ (l _ (QH j k) _) _),(Qa),λH9 D G hl9 nl9=>?_⟩;have hl9':H9 D=RZ (Qey fD d):=hl9;have htl2:Qx fD d=d.1.length+2:=by unfold fD;simp
     refine⟨q,D,_,_,rfl,rfl,G _ _ aC,hl9',(by rw[b0,b0,ak,bK];simp;omega),?_⟩;refine Uu (l _ (QH (l _ (l _ (QH j k) _) _) G) _) ?_;rw[aC,tk];unfold oZ;rw[Qs hne];simp
    ·have hi0:i=0:=by omega
     subst hi0;rw[(Y1)];refine⟨_,rfl,Yd _ (k _ _ v),q,_,_,rfl,rfl,k _ _ v,(by rw[ak,bK];simp[fE];omega),?_⟩;refine⟨_,rfl,Yd _ aC,_,rfl,z,d,rfl,hzy.keep (l _ (QH j k) _),(Qa),λH9 D G hl9 nl9=>?_⟩;have hl9':H9 D=RZ (Qey fD d):=hl9;have htl2:Qx fD d=d.1.length+2:=by unfold fD;simp
     refine⟨q,D,_,_,rfl,rfl,G _ _ aC,hl9',(by rw[b0,ak,bK];simp[fE];omega),?_⟩;refine Uu (l _ (QH (l _ (QH j k) _) G) _) ?_;rw[aC,tk];unfold oZ;simp[fE]
   ·rintro J u⟨U,W,rfl,j,v⟩;rw[ak,htsl,cp]at v;have hbl:Qx fE b<=104*10000:=by
     have:=LX WW b rfl M;omega
    refine Rn _ QeL (λO R=>?_);have m:=Qbz [QL 10] R;refine⟨q,O,_,_,rfl,rfl,m _ _ v,aC,(QdD),λr g=>?_⟩;have S:=Qbz (Qbj (fD x++58::fE b)++[QL 10]) g;refine k1 _ r (ZW j m S) ?_ ((QH j m).free g);show upd _ r _ r=_;rw[aC];unfold vQ;rw[(Sk)];simp
end
end AT
namespace L2
open PySem PySem.Spec PyProof.Rows NT
def jq(ns:Qo):Qo:=ns.foldl og []
def afb(ns:Qo):firstMet (λi=>ns.getD i 0) S9=jq ns:=by
 unfold firstMet jq;congr 1
 apply List.ext_getElem
 ·simp
 ·grind
def LZ(l:Qo)(x:Int):l.any (· ==x)=decide (x∈l):=by
 grind
def afc{x:Int}(h:x∈acc):og acc x=acc:=by unfold og;rw[LZ,Ze h];rfl
def afd{x:Int}(h:x∉acc):og acc x=acc++[x]:=by unfold og;rw[LZ,TK h];rfl
def zE:∀(l acc:List Int),(S7 (acc++l)->l.foldl og acc=acc++l)/\Tj l.foldl og acc (acc.length+QT)/\(acc.Nodup-> ¬(acc++l).Nodup->Wa l.foldl og acc<acc.length+QT)
 |[],acc=>⟨RC Qj,Qj,λc d=>Rk Vg d⟩
 |x::l,acc=>by
  rw[xH];by_cases hx:x∈acc
  ·rw[afc hx];obtain⟨_,d,_⟩:=zE l acc;exact⟨λnd=>Wz ((je.mp nd).2.2 x hx x Qj),Tv,Xj Tv⟩
  ·rw[afd hx];obtain⟨c,d,f⟩:=zE l (acc++[x]);rw[eK,List.singleton_append]at c f;refine⟨c,by simp at d⊢;omega,λnd g=>?_⟩;have:=f (je.mpr ⟨nd,Qj,λa h b i e=>Qm⟩) g;simp at this⊢;omega
def afe(ns:Qo):QV (Qx jq ns<S9)=!decide ns.Nodup:=by
 obtain⟨a,c,b⟩:=zE ns [];by_cases h:ns.Nodup
 ·have:=a Z9;unfold jq;rw[this];simp[h]
 ·have:=b Qj Z9;unfold jq;simp at this;simp[h,this]
def vR(a:Addr)(n:Nat):HO:= .ext (λh=> ∃(o:Obj)(S:Int->Bool),SJ=Qi/\o.IntSetOf S n/\n<4000)
section
variable{X:Cx}
def aff(K:au):Q8->Hp->SY:=YN (Qbc (b=UG/\bF K H a R6/\S9<=1000/\ ∀p,H p=none->R3 p (upd H p (vR p (Qx jq ns)))))
def afg(j:RD):fV X Vi (aff X.K):=by
 intro A s B H C D Q I r h;obtain⟨a,ns,rfl,hs,E,q⟩:=h;obtain⟨c,d,hl,_⟩:=I.list hs;rw[YH r];have k:=by have:=d.length;simpa using this
 refine PySem.call_set_list (VC j) Qeh (by simpa using intsAre_of d) (by unfold scanBound;simp;omega) (λl m f n=>?_);rw[show Zg c=S9 by simp[k],afb]at f;obtain⟨o,g,p⟩:=f.objOf;have F:Qx jq ns<=S9:=by have:=(zE ns []).2.1;simpa[jq]using this
 have t:=Ut (aQ _);have new:d6 Qr X.w (upd H Qt (vR Qt (Qx jq ns))) l Qt (vR Qt (Qx jq ns)):=by
  refine Qh ⟨o,_,g,p.intSetOf,Qa⟩ (Qe o g) (λG J y e=>?_);obtain⟨i,v,w,x,z⟩:=y;exact⟨i,v,e i w,x,z⟩
 exact Rl WQ _ (I.laid (Ye (n b u (bx e) e)) (aQ _) new) (q _ t)
def afh:fV X QdX (λvs H Q=> ∃a n,vs=UG/\H a=Rz vR a n/\Q ZM H):=by
 intro j s k H vs l Q I r h;obtain⟨a,n,rfl,b,q⟩:=h;rw[YH r];obtain⟨⟨o,S,c,d,m⟩,_,_⟩:=(I.a5 a _ b);obtain⟨e,f,p,t,hd,_,_,g,i⟩:=d Qr X.w;subst g;exact call_len_set c e hd i Qa ⟨QL _,H,I.tok _,Yv,q⟩
def afi(d tb:TE):TE:=Uq (d a H (λx b=> ∃c,x=QL c/\if c=0 then tb a b Q else Q (.int c) b))
def afj{g}(n:PE X a i)(o:PE X (Qg8 .Or (b::f) g) tb):PE X (Qg8 .Or (a::b::f) g) (afi i tb):=by
 refine λj s k H Q I h=>BoolOp_or (aR (n j s k H _ I h) (λv s1⟨x,l,m,p,q1⟩=>?_));obtain⟨c,rfl,q1⟩:=q1;obtain⟨t,rfl⟩:=p;refine PySem.P.truthy_int ?_;by_cases d:c=0
 ·subst d;exact o j s1 k l Q m q1
 ·rw[Qs d]at q1;have e:Qv (c !=0):=by simp[d]
  rw[e];exact⟨QL c,l,m,V' t,q1⟩
end
end L2
namespace AT
open PySem PySem.Spec PyProof.Rows L2 NT
def qE(K:au)(mg:QQ)(x:Str)(ns:Qo):Prop:= ∃a,mg x=Y0/\ ∀H,cw K H a R6
structure sP(K:au)(mg:QQ):Prop where
 zF:cb mg "WRONG_FORM" (-2)
 L0:cb mg "NO_SUCH_SENSE" (-3)
 tooMany:cb mg "TOO_MANY" (-4)
 L3:cb mg "NO_SENSE_TEXT" (-5)
 L4:cb mg "WRONG_PAIR" (-6)
 afk:cb mg "FIRST_BYTE" 32
 afl:cb mg "LAST_BYTE" 126
 afm:cb mg "MOST_OF_SENSE" 20
 afn:cb mg "MOST_OF_DICTIONARY" 3000
 aph:cb mg "MOST_SENSES" 40
 afo:qE K mg "TONGUES" [1,2,3]
def afp(K:au)(ns:Qo):TE:=λ_ H Q=> ∀a,(∀b,cw K b a R6)->Q QS H
def afq{K}(g:qE K X.mg x ns)(hg:Gl X x)(hd:SK=Qb:=by decide):PE X (UB b) (afp K ns):=by
 obtain⟨a,e,h⟩:=g;exact λc s d H Q I q=>qk (v:=QS) hg e rfl hd c s d H Q I (q a h)
def boot_set:gY X5=Qbq X5:=by decide+kernel
abbrev Er:Stmt:=top 59
abbrev Es:Stmt:=top 60
abbrev Ew:Stmt:=top 61
abbrev Ex:Stmt:=top 62
def o3(s:Int):Bool:=Ur s [1,2,3]
def df(ns:Qo):Int:=if ns.Nodup then(if ns.all o3=true then 0 else-2)else-2
def L5(K:au):Sp:=Qdh (c=UG/\bF K H a R6/\S9<=1000/\ ∀b,af H b->Q (QL (df ns)) b)
def iZ(b:Int):Bool:=Ro b 10||(QV (32<=b)&&QV (b<=126))
def d8(ns:Qo)(m:Int):Int:=if m<S9 then-2 else if QJ ns.all iZ then 0 else-2
def Ey(K:au):Sp:=λb H Q _=> ∃(a:Addr)(ns:List Int)(m:Int),b=[QS,QL m]/\bF K H a R6/\Yu/\Q (QL (d8 ns m)) H
def L6(K:au):Sp:=λb H Q _=>Qbc (b=UG/\bF K H a R6/\Yu/\Q (QL (d8 ns 20)) H)
def jr(ns:Qo):Int:=if dJ ns=none then-5 else 0
def L7(K:au):Sp:=Qdh (c=UG/\bF K H a R6/\Yu/\ ∀b,af H b->Q (QL (jr ns)) b)
section
variable{P:aO}{w:aA}{K:au}{mg:QQ}{base:Heap}
def L8:aY [Sr,"s"] Xu (aK Er):=QF
def L9:aY [RJ,"most","byte"] [RJ,"most"] (aK Es):=QF
def afr:aY U3 U3 (aK Ew):=QF
def afs:aY U3 U3 (aK Ex):=QF
def all_false{ns:Qo}(hz:z∈ns)(h:p z=Qb):ns.all p=Qb:=by
 grind
def L_(l:Qo)(z:Int):(l++[z]).all p=(l.all p&&p z):=by simp
def aft(F:aP K Qe2 Qe2 Er f m)(T:Top mg)(R:sP K mg):ay P w K mg base az 1 f m Xu (L5 K):=by
 refine F.ok L8 (λq H Q E h=>Z8) (λC A outer s H q Q E D h=>?_)
 ·obtain⟨a,ns,rfl,d,r,k⟩:=h;refine Tn (dC (gw (g8 qp (gA afh QB Wu gX (bb (lT (S_ afg) QB T.set boot_set (bb (pv 0) bh)) bh)) (gA ZA QB Wu gX (bb (pv 0) bh)) (eO _)) (cS (dy (dF R.zF QB))) fb) (dC (h_ eN rfl (iT (pv 0)) (WC 1 L8.nd) (cS (gw (g8 Kc (pv 1) (afq R.afo QB) QB) (cS (dy (dF R.zF QB))) fb))) (cS (dy dP)))) ⟨_,rfl,a,ns,rfl,d,r,λp t=>?_⟩;have s1:af H (upd H p (vR p (Qx jq ns))):=U9 t;refine⟨p,_,rfl,aC,_,rfl,a,_,rfl,Qq (s1.seq d),_,_,rfl,rfl,_,rfl,?_⟩;rw[ak];have e:QV ((Qx jq ns)<QW S9)=!decide ns.Nodup:=by
   rw[<-afe];simp
  show(if decide (((jq ns).length)<(ns.length:Int))=true then _ else _);rw[e];by_cases c:ns.Nodup
  ·rw[Qs QfA];refine⟨_,rfl,a,rfl,V0 s1.seq d,lR (λi g j=> ∃v,g=[Y0,v]/\af H j/\QaH (ns.take i) o3) (Rn none s1 rfl) (λi g j _⟨_,_,b,_⟩=>b.seq d) ?_ ?_⟩
   ·rintro i y g j hi⟨v,rfl,b,l⟩;obtain⟨z,n,rfl⟩:=int_at hi;refine SE (λu x=>⟨u,_,rfl,Qy (x _),rfl,zx [1,2,3],_,rfl,?_⟩);rw[(qD z [1,2,3])];show(if(if true=true then !o3 z else o3 z)=true then _ else _);cases o:o3 z with
    |true=>
     exact Rn _ b (by rw[take_snoc n,L_,l,o];rfl)
    |false=>
     have:df ns= -2:=by
      unfold df;rw[(Tz),all_false (bL n) o];rfl
     rw[this]at k;exact k _ b
   ·rintro g j⟨v,rfl,b,l⟩;rw[ak,cp]at l;have:df ns=0:=by unfold df;rw[(Tz),Qp l]
    rw[this]at k;exact k _ b
  ·rw[Qp QfA];have:df ns= -2:=Sk;rw[this]at k;exact k _ s1
def afu(F:aP K QdQ QdQ Es f q)(T:Top mg)(R:sP K mg):ay P w K mg base az 1 f q [RJ,"most"] (Ey K):=by
 refine F.ok L9 (λx H Q E h=>by obtain⟨a,ns,m,rfl,_⟩:=h;rfl) (λB A outer s H x Q E C h=>?_)
 ·obtain⟨a,ns,m,rfl,o,D,k⟩:=h;refine Tn (dC (gw (g8 oN (gA ZA QB Wu gX (bb (pv 0) bh)) (pv 1) (eO _)) (cS (dy (dF R.zF QB))) fb) (dC (h_ eN rfl (iT (pv 0)) (WC 2 L9.nd) (cS (gw (PW.pt (Jt (g8 JM (pv 2) (dF T.zq QB) (eO _)) (Js (yO (abT sj sj (dF R.afk QB) (pv 2) (dF R.afl QB)))))) (cS (dy (dF R.zF QB))) fb))) (cS (dy dP)))) ⟨_,rfl,a,_,rfl,Qq o,_,rfl,_,_,rfl,rfl,_,rfl,?_⟩;rw[ak];show(if decide (m<ns.length)=true then _ else _);by_cases c:m<S9
  ·rw[Qp Vg];have:d8 ns m= -2:=Tz;rw[this]at k;exact k
  ·rw[Qs Vg];refine⟨_,rfl,a,rfl,Rh o,lR (λi g j=> ∃v,g=[Y0,QaC m,v]/\j=H/\QaH (ns.take i) iZ) (Rn none rfl rfl) (λi g j _⟨_,_,e,_⟩=>by rw[e];exact o) ?_ ?_⟩
   ·rintro i y g j hi⟨v,rfl,rfl,l⟩;obtain⟨z,r,rfl⟩:=int_at hi;have t:iZ z=Qb->d8 ns m= -2:=λp=>by
     unfold d8;rw[(Sk),all_false (bL r) p];rfl
    have u:QJ iZ z->QaH (ns.take (i+1)) iZ:=λp=>by rw[take_snoc r,L_,l,p];rfl
    refine⟨_,rfl,rfl,_,rfl,?_⟩;show(if(!decide (V.int z=V.int 10))=true then _ else _);by_cases b:z=10
    ·rw[Qs (by simp[b])];exact Rn _ rfl (u (by unfold iZ;rw[decide_eq_true b];rfl))
    ·rw[Qp (by simp[b])];refine⟨_,rfl,_,_,rfl,rfl,_,rfl,?_⟩;by_cases d:32<=z
     ·rw[Qp Z_];refine Xa _ _ rfl _ rfl ?_;show(if(!decide (z<=126))=true then _ else _);by_cases n:z<=126
      ·rw[Qs (by simp[n])];exact Rn _ rfl (u (by unfold iZ;rw[decide_eq_false b,decide_eq_true d,decide_eq_true n];rfl))
      ·rw[Qp (by simp[n])];rw[t (by unfold iZ;rw[decide_eq_false b,decide_eq_true d,decide_eq_false n];rfl)]at k;exact k
     ·rw[Qs Z_];refine SE ?_;rw[t (by unfold iZ;rw[decide_eq_false b,decide_eq_false d];rfl)]at k;exact k
   ·rintro g j⟨v,rfl,rfl,l⟩;rw[ak,cp]at l;have:d8 ns m=0:=by unfold d8;rw[(Sk),Qp l]
    rw[this]at k;exact k
def afv(F:aP K QeR QeR Ew f b)(R:sP K mg)(c:aE P w K mg base 1 QdQ [RJ,"most"] (Ey K)):ay P w K mg base az 2 f b U3 (L6 K):=F.ok afr (λd H Q E h=>Z8) (λj A outer s H d Q E e h=>by obtain⟨a,ns,rfl,g,i,k⟩:=h;exact⟨_,cS (dy (fC c e (by decide) (by rfl) (bb (pv 0) (bb (dF R.afm (by rfl)) bh)))),_,rfl,a,ns,20,rfl,g,i,k⟩)
def afw(F:aP K QeU QeU Ex f c)(R:sP K mg)(d:aE P w K mg base 3 QbF Sh (vN K)):ay P w K mg base az 4 f c U3 (L7 K):=by
 refine F.ok afs (λe H Q E h=>Z8) (λn A outer s H e Q E g h=>by obtain⟨a,ns,rfl,i,j,k⟩:=h;refine Tn (cS (dy (Jw (ql (vf (fC d g QD QB (bb (pv 0) bh)))) (dF R.L3 QB) dP))) ⟨_,rfl,a,ns,rfl,i,j,λl m b=>by refine⟨_,rfl,?_⟩;have:jr ns= -5:=if_pos l;rw[this]at k;exact k _ b,λx hx m t b _ _=>by refine⟨_,rfl,?_⟩;have:jr ns=0:=if_neg (by rw[hx];simp);rw[this]at k;exact k _ b⟩)
structure Bk where
 bA:Int->UW
 eqs:Int->cJ->Int->UW
abbrev T3:Qo:=[1,2,3]
inductive Tag where
 |ob|lk
 |tg(s:Int)
 |sn(s:Int)(x:cJ)
 |eq(s:Int)(x:cJ)(t:Int)
deriving DecidableEq
def Used(B:Bk):Q5 Tag
 | .ob=>True
 | .lk=>True
 | .tg s=>s∈T3
 | .sn s x=>s∈T3/\x∈B.bA s
 | .eq s x t=>s∈T3/\x∈B.bA s/\t∈T3
def three(g:Qa9 Int):UI Key:=[(Qq 1,Q1 (g 1)),(Qq 2,Q1 (g 2)),(Qq 3,Q1 (g 3))]
def sQ(a:Addr):Qb3:=h9 WN QS []
def L'(a:Addr):ZU (sQ a) (WN:Str)=Y0:=by
 unfold sQ;rw[yY,(SX)]
def Ma(a:Addr){m:Str}(h:¬m=WN):ZU (sQ a) m=none:=by
 unfold sQ;rw[yY,(Vs)];rfl
def eF(f:Qaq)(B:Bk)(s:Int):Xp:=Q9 B.bA s (λx=>(bC x,Sa (f (.sn s x))))
def gE(ys:UW):Xp:=XZ (λy=>(bC y,V.bl true))
structure dG(C:Addr)(H:Hp)(f:Qaq)(B:Bk):Prop where
 ob:∃dx,H (f .ob)=Zs C dx (sQ (f .lk))
 lk:H (f .lk)=QaF (three (λs=>f (.tg s)))
 tg:QaG (H (f (.tg s))=ZN (eF f B s))
 sn:QaG (∀x∈B.bA s,H (f (.sn s x))=QaF (three (λt=>f (.eq s x t))))
 eq:QaG (∀x∈B.bA s,∀t∈T3,H (f (.eq s x t))=ZN (gE (B.eqs s x t)))
 inj:∀a b,Used B a->Used B b->f a=f b->a=b
def dG.keep(b:dG C H f B)(s:af H H'):dG C H' f B:=by
 obtain⟨⟨a,c⟩,d,e,g,h,i⟩:=b;exact⟨Qe a (s _ _ c),s _ _ d,λt ht=>s _ _ (e t ht),λt ht x hx=>s _ _ (g t ht x hx),λt ht x hx u j=>s _ _ (h t ht x hx u j),i⟩
def zG(g:Qa9 Int)(hs:s∈T3):cO (three g) (Qq s)=UK (g s):=by
 simp at hs;rcases hs with rfl|rfl|rfl
 ·rfl
 ·rfl
 ·rfl
def vS(f:Qaq)(B:Bk)(s:Int):∀(l:List cJ)x,cO (R1 (λx=>(bC x,Sa (f (.sn s x))))) (bC x)=if x∈l then some (.ref (f (.sn s x)))else none
 |[],x=>by simp[cO]
 |a::l,x=>by
  rw[cg];by_cases h:a=x
  ·subst h;rw[S_ nc,Qp Qj]
  ·rw[nf (λe=>h (lX e)),vS f B s l x];have:x∈a::l↔x∈l:=⟨λb=>Qdj (RA b) (λe=>h Y6),bP _⟩;simp [this]
def Ez:∀l y,cO (gE l) (bC y)=if y∈l then some (.bl true)else none
 |[],y=>by simp[gE,cO]
 |a::l,y=>by
  unfold gE;rw[cg];by_cases h:a=y
  ·subst h;rw[S_ nc,Qp Qj]
  ·rw[nf (λe=>h (lX e))];have:=Ez l y;unfold gE at this;rw[this];have:y∈a::l↔y∈l:=⟨λb=>Qdj (RA b) (λe=>h Y6),bP _⟩;simp [this]
def zH:∀a b,Rm du (cT a) (cT b)
 |[],[]=>rfl
 |[],_::_=>rfl
 |_::_,[]=>rfl
 |x::a,y::b=>by
  show Qv (if Nk.i x=Nk.i y then du _ _ else du _ _);split
  ·exact zH a b
  ·rfl
def zI(x y:cJ):Rm du (bC x) (bC y):=by
 show Qv (if cT x.1=cT y.1 then du _ _ else du _ _);split
 ·show Qv (if Nk.i x.2=Nk.i y.2 then true else true);simp
 ·exact zH _ _
def afx(x:cJ):nr (bC x)=Qc Qb:=by
 unfold bC;cases x.1 with
 |nil=>rfl
 |cons _ _=>rfl
def k6(x y:cJ):Prop:=XJ (bC x) (bC y)
def afy{l:UW}(nd:l.Nodup):qy Qb (R1 bC):=⟨λk a=>by obtain⟨x,_,rfl⟩:=cQ.mp a;exact afx x,λk a c b=>by obtain⟨x,_,rfl⟩:=cQ.mp a;obtain⟨y,_,rfl⟩:=cQ.mp b;exact zI x y,We (nd.imp (Wh (lX e)))⟩
def Mb:∀ {zs:List (Nk×Addr)}(l:List cJ),(∀z∈zs,bV H z.1 z.2)->(∀z∈zs,∃x∈l,z.1=bC x)->∃ys,zs.map (·.1)=ys.map bC/\dj (λt y=>d7 H y t) (zs.map (·.2)) ys
 |[],l,_,_=>Ss [] .nil
 |z::zs,l,c,b=>by
  obtain⟨ys,e,p⟩:=Mb l (Vf (c z (bP _ a))) (Vf (b z (bP _ a)));obtain⟨x,_,ex⟩:=b z Ru;refine Rv (x::ys) Qm;exact Rc (d7.of Qm) p
def afz{ys l:UW}(h:SN (XZ bC).Perm l bC)(nd:l.Nodup):ys.Perm l:=by
 have inj:∀x y,bC x=bC y->x=y:=Xj lX;refine(lr ((iC.mp (h.nodup_iff.mpr (We (nd.imp (Wh (lX e)))))).imp (Wh Qd5)) nd).mpr (λx=>?_);have:=h.mem_iff (a:=bC x);constructor
 ·grind
 ·grind
def afA(nd:l.Nodup)(h:∀p ys H',H p=none->af H H'->iX H' p ys->ys.Perm l->ys.Pairwise k6->R3 p H'):zo H (R1 bC) Q:=by
 intro p zs b pm d key;have a:U_ (∃x∈l,z.1=bC x):=Vf (by
  have:=Qev (XH z a);obtain⟨x,hx,e⟩:=RM this;exact Qh x hx Y6)
 obtain⟨ys,e,f⟩:=Mb l key a;have s1:af H (UN p (Yc QcX)):=U9 b;exact h p ys _ b s1 ⟨QbY _,by rw[aC,cq];rfl,ie f (λ_ _ _ q=>QeE q)⟩ (afz (by rw[<-e];exact pm) nd) (by have c:(zs.map _).Pairwise λk g=>b8 k g=true:=iC.mpr d;rw[e]at c;exact(iC.mp c).imp λh=>h)
end
structure j4(K:au)(mg:QQ)(C:Addr):Prop where
 cl:ib K C
 nL:j0 K C WN
 afB:mg "Book"=UK C
abbrev l0:Stmt:=top 3
abbrev zJ:Stmt:=Z5 l0 0
abbrev EA:Stmt:=Z5 l0 1
abbrev EB:Stmt:=Z5 l0 2
abbrev EC:Stmt:=Z5 l0 3
abbrev ED:Stmt:=Z5 l0 4
def EE:Bk:=⟨RC [],λ_ _ _=>[]⟩
section
variable{P:aO}{w:aA}{K:au}{mg:QQ}{base:Heap}
def afC{f g h i j k}(l:PE X a f)(g1:PE X c i)(m:PE X k2 g)(g2:PE X d j)(n:PE X b h)(o:PE X e k):
  vv X p [Zb,Qc k2,Qc b] [c,d,e] [(f,i),(g,j),(h,k)]:=Dq l g1 (Dq m g2 (Dq n o ac8))
def afD{X:Cx}{p:Pos}{a k2 b c d e:Expr}{f g i j k l:TE}(m:PE X a f)(g1:PE X c j)(n:PE X k2 g)(g2:PE X d k)(o:PE X b i)(q:PE X e l):
  PE X (.Dict [Zb,Qc k2,Qc b] [c,d,e] p) (y9 [(f,j),(g,k),(i,l)]):=by
 exact ac9 (afC (p:=p) m g1 n g2 o q) rfl rfl Qj Qj
def afE:aY [RR] [RR] (aK zJ):=QF
end
end AT
namespace DL
open PySem PySem.Spec L2 NT AT
open PyProof.Rows hiding St
def fe(H:Hp):Hp:=λb=>match H b with
 |some (.tup a)=>UU a
 |_=>none
def vT(h:H b=TQ):fe H b=TQ:=by unfold fe;rw[h]
def j5(h:fe H b=Qi):∃xs,o= .tup xs/\H b=TQ:=by
 unfold fe at h;split at h
 ·grind
 ·cases h
def cut(H0 H:Hp):Hp:=λb=>match H0 b with
 |none=>H b
 |some (.tup a)=>UU a
 |some _=>none
variable{H0 H H' H1 Hb:Hp}{O:QZ}{b:Addr}{o:HO}
def eG(h:H0 b=none):cut H0 H b=H b:=by unfold cut;rw[h]
def l4(h:H0 b=TQ):cut H0 H b=TQ:=by unfold cut;rw[h]
def j6(h:cut H0 H b=Qi):(H0 b=none/\H b=Qi)\/ ∃xs,o= .tup xs/\H0 b=TQ:=by
 unfold cut at h;split at h
 ·grind
 ·grind
 ·cases h
def Mc(s:af H H'):af (cut H0 H) (cut H0 H'):=λb o h=>by
 rcases j6 h with⟨a,c⟩|⟨d,rfl,a⟩
 ·rw[eG a];exact s _ _ c
 ·exact l4 a
def EF(s:af H0 H):af (cut H0 H) H:=λb o h=>by
 rcases j6 h with⟨a,c⟩|⟨d,rfl,a⟩
 ·exact c
 ·exact s _ _ a
def Md(s:af H0 H1)(t:af H1 H):af (cut H1 H) (cut H0 H):=λb o h=>by
 rcases j6 h with⟨a,c⟩|⟨d,rfl,a⟩
 ·rw[eG (s.free a)];exact c
 ·cases e:H0 b with
  |none=>rw[eG e];exact t _ _ a
  |some o=>rw[s _ _ e]at a;cases a;exact l4 e
def k7(s:af H0 H)(h:H b=TQ):cut H0 H b=TQ:=by
 cases e:H0 b with
 |none=>rw[eG e];exact h
 |some o=>rw[s _ _ e]at h;cases h;exact l4 e
def bs(H0:Hp)(O:QZ)(H:Hp):Hp:=λb=>if b∈O then none else cut H0 H b
def qF(h:bs H0 O H b=Qi):b∉O/\cut H0 H b=Qi:=by
 unfold bs at h;split at h
 ·cases h
 ·rename_i e;exact Rw e
def gF(h:b∉O)(e:cut H0 H b=Qi):bs H0 O H b=Qi:=by unfold bs;rw[(Vs)];exact e
def fY(s:af H H'):af (bs H0 O H) (bs H0 O H'):=λb o h=>by
 obtain⟨a,c⟩:=qF h;exact gF a (Mc s _ _ c)
def EG:af (bs H0 O H) (cut H0 H):=λb o h=>(qF h).2
def l5(s:af H0 H):af (bs H0 O H) H:=EG.trans (EF s)
def vU:S4 HO
 | .tup _=>false
 |_=>true
structure a6 where
 p:Hp->Q5 V
 m:∀ {H H':Hp}{v:V},af H H'->p H v->p H' v
def Lf(A:a6):Prop:= ∀H v,A.p H v->A.p (fe H) v
abbrev bJ(H:Hp):Q8->Q5 R7:=dj (λv A=>A.p H v)
def bJ.m(s:af H H')(h:bJ H vs As):bJ H' vs As:=Paired.yI h (λ_ A q=>A.m s q)
def aI(n:Int):a6:=⟨λ_ v=>v=ZM,λ_ h=>h⟩
def aB(b:Bool):a6:=⟨λ_ v=>v= .bl b,λ_ h=>h⟩
def aN:a6:=⟨λ_ v=>v= .a9,λ_ h=>h⟩
def aT(As:R7):a6:=Ya (∃t a,v=VN/\H t=UU a/\bJ H a As) (λs⟨t,a,e,h,q⟩=>⟨t,a,e,s _ _ h,q.m s⟩)
def aL(As:R7):a6:=Ya (∃t a,v=VN/\H t=RZ a/\bJ H a As) (λs⟨t,a,e,h,q⟩=>⟨t,a,e,s _ _ h,q.m s⟩)
def aD(kvs:Xp):a6:=Ya (∃d,v=WY/\Rd H d (.dT kvs)) (λs⟨d,e,h⟩=>Qh d e (h.elim (λh=>Qq (s _ _ h)) (λ⟨o,h⟩=>WA o (s _ _ h))))
def aW(w:Qo):a6:=SN aT w aI
def aS(x:cJ):a6:=aT [aW x.1,aI x.2]
abbrev a4(ns:Qo):a6:=aL QcY
abbrev k8(xs:UW):a6:=aL (Ti aS)
def eH{a:Type}(f:a->a6):Ri a->a6
 |none=>aN
 |some x=>f x
def ag:Lf (aI n):=Yl
def Me(h:bJ H vs As)(l:X2):bJ (fe H) vs As:=by
 induction h with
 |nil=>exact .nil
 |cons r t a=>exact UP (l _ Ru _ _ r) a (λA b=>l A (bP _ b))
def EH(l:X2):Lf (aT As):=Qhi ⟨t,a,e,vT h,Me q l⟩
def Mf:Lf (aW w):=EH (λA a=>by obtain⟨n,_,rfl⟩:=cQ.mp a;exact ag)
def afF:Lf (aS x):=EH (λA a=>by
 simp at a;rcases a with rfl|rfl
 ·exact Mf
 ·exact ag)
def o4{xs:Qo}:∀A∈xs.map aI,Lf A:=λA a=>by obtain⟨n,_,rfl⟩:=cQ.mp a;exact ag
def pI{ns:Qo}:∀ {vs:List V},bJ H vs QcY->vs=R6:=by
 induction ns with
 |nil=>intro vs h;cases h;rfl
 |cons n ns a=>intro vs h;cases h with|cons r t=>rw[r,a t];rfl
def qG:Qdi (bJ H R6 QcY)
 |[]=> .nil
 |_::ns=> UP rfl qG ns
def hE:(aS x).p H v↔ ∃t,v=VN/\d7 H x t:=by
 constructor
 ·rintro⟨t,e,rfl,h,q⟩;cases q with
  |cons r q=>cases q with
   |cons c q=>
    cases q;obtain⟨b,f,rfl,a,d⟩:=r;subst c;rw[pI d]at a;exact⟨t,rfl,b,h,a⟩
 ·rintro⟨t,rfl,b,h,a⟩;exact Tt t h (Zm (Tt b a (qG _)) rfl)
def pS:∀ {vs:List V},bJ H vs (Ti aS)-> ∃a,vs=Wy a/\dj (λt y=>d7 H y t) a xs:=by
 induction xs with
 |nil=>intro vs h;cases h;exact Ss [] .nil
 |cons x xs b=>
  intro vs h;cases h with
  |cons r t=>
   obtain⟨a,rfl,q⟩:=b t;obtain⟨t,rfl,h⟩:=hE.mp r;exact Ss (t::a) (Rc h q)
def Mg:∀ {a:List Addr}{xs:List cJ},dj (λt y=>d7 H y t) a xs->bJ H (Wy a) (Ti aS)
 |_,_,.nil=> .nil
 |_,_,.cons r t=> UP (hE.mpr (SE r)) Mg t
def EI:(k8 xs).p H v↔ ∃p,v=Vm/\iX H p xs:=by
 constructor
 ·rintro⟨t,c,rfl,h,q⟩;obtain⟨a,rfl,b⟩:=pS q;exact⟨t,rfl,a,h,b⟩
 ·rintro⟨p,rfl,a,h,q⟩;exact Tt p h (Mg q)
inductive Sl where
 |u
 |v(g:Bool)(A:a6)
 |w(q:Addr)(As:R7)
 |d(q:Addr)(kvs:Xp)
def Sl.ow:Sl->QaW
 | .w q _=>U1
 | .d q _=>U1
 |_=>none
def gh(g:Bool)(H0:Hp)(O:QZ)(H:Hp):Hp:=match g with
 |true=>bs H0 O H
 |false=>H0
def j7{g}(s:af H H'):af (gh g H0 O H) (gh g H0 O H'):=by
 cases g with
 |true=>exact fY s
 |false=>exact RK
def dM{g}(s:af H0 H):af (gh g H0 O H) H:=by
 cases g with
 |true=>exact l5 s
 |false=>exact s
def qH(H0:Hp)(O:QZ)(H:Hp):Sl->Q5 ZS
 | .u,_=>True
 | .v g A,x=>∃v,x=Rg/\A.p (gh g H0 O H) v
 | .w q b,x=>x=UK q/\q∈O/\ ∃a,H q=RZ a/\bJ (bs H0 O H) a b
 | .d q c,x=>x=UK q/\q∈O/\H q=ZN c
structure Cf(H0 Hb:Hp)(O:QZ)(G:QO)(σ:St)(H:Hp):Prop where
 same:af H0 H
 snap:af Hb (bs H0 O H)
 fr:∀q∈O,H0 q=none/\ ∃o,H q=Qi/\QJ vU o
 len:G.length=Qeg
 sl:∀(i:Nat)(s:Sl),Ts=Qc s-> ∃x,σ[i]?=Qz/\qH H0 O H s x
 nd:∀(i j:Nat)(q:Addr),(Ts).bind V_=U1->(G[j]?).bind V_=U1->i=j
 k9:O.Nodup
variable{G G':QO}{σ:St}
def qH.keep(h:qH H0 O H s x)(e:af H H'):qH H0 O H' s x:=by
 cases s with
 |u=>trivial
 |v g A=>obtain⟨v,a,b⟩:=h;exact Qh v a (A.m (j7 e) b)
 |w q j=>obtain⟨a,b,f,c,i⟩:=h;exact⟨a,b,f,e _ _ c,i.m (fY e)⟩
 |d q k=>obtain⟨a,b,c⟩:=h;exact Qh a b (e _ _ c)
def Cf.keep(c:Cf H0 Hb O G σ H)(e:af H H'):Cf H0 Hb O G σ H':=
 ⟨Qaz c e,c.snap.trans (fY e),λq a=>let⟨h1,o,h2,h3⟩:=c.fr q a;⟨h1,o,e _ _ h2,h3⟩,c.len,λi s h=>let⟨x,h1,h2⟩:=c.sl i s h;⟨x,h1,h2.keep e⟩,c.nd,c.k9⟩
def Cf.zL(c:Cf H0 Hb O G σ H)(h:H b=TQ):b∉O:=λd=>by
 obtain⟨_,o,a,e⟩:=c.fr b d;rw[h]at a;cases a;cases e
def Cf.o5(c:Cf H0 Hb O G σ H)(h:H b=none):b∉O:=λd=>by
 obtain⟨_,o,a,e⟩:=c.fr b d;rw[h]at a;cases a
def Cf.back(c:Cf H0 Hb O G σ H)(s:af H H'):af (cut H H') (bs H0 O H'):=λb o h=>by
 rcases j6 h with⟨a,d⟩|⟨f,rfl,a⟩
 ·exact gF (c.o5 a) (by rw[eG (c.same.free a)];exact d)
 ·refine gF (c.zL a) ?_;cases e:H0 b with
  |none=>rw[eG e];exact s _ _ a
  |some o=>rw[c.same _ _ e]at a;cases a;exact l4 e
def Cf.lift(c:Cf H0 Hb O G σ H)(l:Lf A){g}(h:A.p (gh g H0 O H) v):A.p (bs H0 O H) v:=by
 cases g with
 |true=>exact h
 |false=>
  refine A.m (Q4 ?_) (l _ _ h);obtain⟨d,rfl,a⟩:=j5 e;exact gF (c.zL (c.same _ _ a)) (l4 a)
def Cf.vV(c:Cf H0 Hb O G σ H)(l:X2){g}(h:bJ (gh g H0 O H) vs As):bJ (bs H0 O H) vs As:=by
 induction h with
 |nil=>exact .nil
 |cons r t a=>exact UP (c.lift (l _ Ru) r) a (λA b=>l A (bP _ b))
def Cf.new(c:Cf H0 Hb O G σ H)(a:H p=none):af H (upd H p o)/\bs H0 O (upd H p o) p=Qi:=
 ⟨TL a,gF (c.o5 a) (by rw[eG (c.same.free a)];exact aC)⟩
def Cf.js(c:Cf H0 Hb O G σ H)(h:qH H0 O H s x)(f:∀q,s.ow=U1-> ∀j:Nat,(G[j]?).bind V_≠U1):Cf H0 Hb O (S8 s) (σ.set i x) H:=by
 refine⟨R8,c.snap,c.fr,by simp[c.len],λj t a=>?_,λj k q a g=>?_,c.k9⟩
 ·rw[rx]at a;split at a
  ·rename_i e;subst e;split at a
   ·cases a;rename_i hl;exact Qh x (by rw[rx,if_pos rfl,if_pos (by rw[<-c.len];exact hl)]) h
   ·cases a
  ·rename_i e;obtain⟨y,d,b⟩:=c.sl j t a;exact Qh y Qm b
 ·have at_:∀j,((G.set i s)[j]?).bind V_=U1->(j=i/\s.ow=U1)\/(j≠i/\(G[j]?).bind V_=U1):=λj a=>by
   grind
  rcases at_ j a with⟨rfl,d⟩|⟨l,d⟩<;>rcases at_ k g with⟨rfl,b⟩|⟨m,b⟩
  ·rfl
  ·exact Rk b (f q d k)
  ·exact Rk d (f q b j)
  ·exact c.nd j k q d b
def Cf.set(c:Cf H0 Hb O G σ H){g}(h:A.p (gh g H0 O H) v):Cf H0 Hb O (S8 (.v g A)) (σ.set i Rg) H:=
 c.js (Ss v h) (λq a=>nomatch a)
inductive ff:QO->Q5 QO
 |nil:ff [] []
 |eq{s s':Sl}{l l':QO}(h:s=s')(t:ff l l'):ff (s::l) (s'::l')
 |u{s:Sl}{l l':QO}(t:ff l l'):ff (s::l) (.u::l')
def ff.at(h:ff G G'):G'.length=G.length/\ ∀(i:Nat)s,G'[i]?=Qc s->s= .u/\(∃t,Ts=Qc t)\/Ts=Qc s:=by
 induction h with
 |nil=>simp
 |eq h t a=>
  grind
 |u t a=>
  grind
def Cf.le(c:Cf H0 Hb O G σ H)(h:ff G G'):Cf H0 Hb O G' σ H:=by
 obtain⟨hl,a⟩:=h.at;refine⟨R8,c.snap,c.fr,by rw[hl,c.len],λi s hi=>?_,λi j q hi b=>?_,c.k9⟩
 ·rcases a i s hi with⟨rfl,t,ht⟩|h
  ·obtain⟨x,d,_⟩:=c.sl i t ht;exact Qh x d RQ
  ·exact c.sl i s h
 ·have f:∀i:Nat,(G'[i]?).bind V_=U1->(Ts).bind V_=U1:=λi hi=>by
   cases e:G'[i]? with
   |none=>rw[e]at hi;cases hi
   |some s=>
    rw[e]at hi;rcases a i s e with⟨rfl,_⟩|h
    ·cases hi
    ·rw[h];exact hi
  exact c.nd i j q (f i hi) (f j b)
def Cf.sn(c:Cf H0 a O G σ H)(s:af Hb a):Cf H0 Hb O G σ H:=⟨R8,QH s c.snap,c.fr,c.len,c.sl,c.nd,c.k9⟩
def Cf.sR(c:Cf H0 Hb O G σ H):Cf H0 (bs H0 O H) O G σ H:=⟨R8,RK,c.fr,c.len,c.sl,c.nd,c.k9⟩
def Cf.ow(c:Cf H0 Hb O G σ H){j:Nat}(h:(G[j]?).bind V_=U1):q∈O:=by
 cases e:G[j]? with
 |none=>rw[e]at h;cases h
 |some s=>
  rw[e]at h;obtain⟨x,_,a⟩:=c.sl j s e;cases s with
  |u=>cases h
  |v g A=>cases h
  |w p b=>cases h;exact a.2.1
  |d p f=>cases h;exact a.2.1
def Cf.Mh(c:Cf H0 Hb O G σ H)(l:Lf A)(h:A.p H v):A.p (bs H0 O H) v:=by
 refine A.m (Q4 ?_) (l _ _ h);obtain⟨d,rfl,a⟩:=j5 e;exact gF (c.zL a) (k7 R8 a)
def Cf.Mi(c:Cf H0 Hb O G σ H)(h:bJ H vs As)(l:X2):bJ (bs H0 O H) vs As:=by
 induction h with
 |nil=>exact .nil
 |cons r t a=>exact UP (c.Mh (l _ Ru) r) a (λA b=>l A (bP _ b))
def vW(f:H D=none)(h0:af H0 H)(s:af H H'):af (bs H0 O H) (bs H0 (D::O) H'):=Q4 (by
 obtain⟨g,c⟩:=qF e;have d:=EF h0 _ _ c;refine gF (λa=>?_) (Mc s _ _ c);rcases RA a with rfl|a
 ·rw[f]at d;cases d
 ·exact g a)
def sU:af (bs H0 (D::O) H) (bs H0 O H):=Q4 (by
 obtain⟨a,c⟩:=qF e;exact gF (λd=>a (bP _ d)) c)
def Cf.own(c:Cf H0 Hb O G σ H)(h:H D=none)(s:af H H')(e:H' D=Qi)(n:QJ vU o):Cf H0 Hb (D::O) G σ H':=by
 have j:=vW (O:=O) h R8 s;refine⟨Qaz c s,c.snap.trans j,λq k=>?_,c.len,λi t hi=>?_,c.nd,gm.mpr ⟨c.o5 h,c.k9⟩⟩
 ·rcases RA k with rfl|k
  ·exact⟨c.same.free h,o,e,n⟩
  ·obtain⟨l,u,f,a⟩:=c.fr q k;exact⟨l,u,s _ _ f,a⟩
 ·obtain⟨x,l,f⟩:=c.sl i t hi;refine Rv x l;cases t with
  |u=>trivial
  |v g A=>
   obtain⟨v,a,b⟩:=f;refine Rv v a;cases g with
   |true=>exact A.m j b
   |false=>exact b
  |w q y=>obtain⟨a,b,p,m,r⟩:=f;exact⟨a,bP _ b,p,s _ _ m,r.m j⟩
  |d q z=>obtain⟨a,b,m⟩:=f;exact⟨a,bP _ b,s _ _ m⟩
def o6(a:D∈O):bs H0 O (upd H D o)=bs H0 O H:=by
 funext b
 unfold bs;split
 ·rfl
 ·rename_i c;unfold cut;rw[ax (λe=>c (by rw[e];exact a))]
def afG{g}(a:D∈O):gh g H0 O (upd H D o)=gh g H0 O H:=by
 cases g with
 |true=>exact o6 a
 |false=>rfl
def Cf.put(c:Cf H0 Hb O G σ H)(hs:Ts=Qc s)(n:s.ow=Qc D)(S:y.ow=Qc D)(K:QJ vU o)(h:qH H0 O (upd H D o) y (UK D)):Cf H0 Hb O (S8 y) σ (upd H D o):=by
 have F:(Ts).bind V_=Qc D:=by rw[hs];exact n
 have B:=c.ow F;obtain⟨L,T,I⟩:=c.sl i s hs;have hx:=by
  cases s with
  |u=>cases n
  |v g A=>cases n
  |w q M=>cases n;exact I.1
  |d q N=>cases n;exact I.1
 subst hx;refine⟨Ye (by rw[ax (λz=>by rw[z,(c.fr D B).1]at e;cases e)];exact c.same _ _ e),by rw[o6 B];exact c.snap,λq m=>?_,by simp[c.len],λj t a=>?_,λj k q a P=>?_,c.k9⟩
 ·obtain⟨C,u,p,l⟩:=c.fr q m;by_cases m:q=D
  ·subst m;exact⟨C,o,aC,K⟩
  ·exact⟨C,u,by rw[ax m];exact p,l⟩
 ·rw[rx]at a;split at a
  ·grind
  ·rename_i e;obtain⟨x,C,p⟩:=c.sl j t a;have J:∀q,t.ow=U1->q≠D:=λq m z=>e (c.nd i j D F (by rw[a];exact z▸m));refine Rv x C;cases t with
   |u=>trivial
   |v g A=>obtain⟨v,l,r⟩:=p;exact Qh v l (by rw[afG B];exact r)
   |w q M=>obtain⟨l,r,Q,E,R⟩:=p;exact⟨l,r,Q,by rw[ax (J q rfl)];exact E,by rw[o6 B];exact R⟩
   |d q N=>obtain⟨l,r,E⟩:=p;exact Qh l r (by rw[ax (J q rfl)];exact E)
 ·have f:∀j:Nat,((G.set i y)[j]?).bind V_=U1->(G[j]?).bind V_=U1:=λj a=>by
   grind
  exact c.nd j k q (f j a) (f k P)
def Cf.EJ(c:Cf H0 Hb O G σ H)(hs:Ts=Rz .w q As)(h:bJ (bs H0 O H) vs Bs):Cf H0 Hb O (S8 (.w q Bs)) σ (UN q vs):=by
 have a:=c.ow QgY;exact c.put hs rfl rfl rfl ⟨rfl,a,vs,aC,by rw[o6 a];exact h⟩
def Cf.putD(c:Cf H0 Hb O G σ H)(hs:Ts=Rz .d q kvs):Cf H0 Hb O (S8 (.d q kvs')) σ (upd H q (.dT kvs')):=by
 exact c.put hs rfl rfl rfl (Qba (c.ow QgY) aC)
def Cf.free(c:Cf H0 Hb (q::O) G σ H)(hs:Ts=Qc s)(l:s.ow=U1)(h:A.p (bs H0 O H) UD):Cf H0 Hb O (S8 (Qa0 A)) σ H:=by
 obtain⟨D,E,y⟩:=c.sl i s hs;have hx:=by
  cases s with
  |u=>cases l
  |v g A=>cases l
  |w q F=>cases l;exact y.1
  |d q I=>cases l;exact y.1
 subst hx;refine⟨R8,c.snap.trans sU,λr m=>c.fr r (bP _ m),by simp[c.len],λj t a=>?_,λj k r a J=>?_,(gm.mp c.k9).2⟩
 ·rw[rx]at a;split at a
  ·rename_i e;subst e;split at a
   ·cases a;exact Rl _ E _ h
   ·cases a
  ·rename_i e;obtain⟨x,K,o⟩:=c.sl j t a;have mem:∀r,t.ow=Qc r->r∈q::O->r∈O:=λr m M=>Qdj (RA M) ((λr m z=>e (c.nd i j q (by rw[hs];exact l) (by rw[a];exact z▸m))) r m);refine Rv x K;cases t with
   |u=>trivial
   |v g A=>
    obtain⟨v,n,b⟩:=o;refine Rv v n;cases g with
    |true=>exact A.m sU b
    |false=>exact b
   |w r F=>obtain⟨n,b,N,p,P⟩:=o;exact⟨n,mem r rfl b,N,p,P.m sU⟩
   |d r I=>obtain⟨n,b,p⟩:=o;exact Qh n (mem r rfl b) p
 ·have f:∀j,((G.set i (.v true A))[j]?).bind V_=Qc r->(G[j]?).bind V_=Qc r:=λj a=>by
   rw[rx]at a;split at a
   ·split at a
    ·cases a
    ·cases a
   ·exact a
  exact c.nd j k r (f j a) (f k J)
def Cf.Mj(c:Cf H0 Hb (q::O) G σ H)(h:H q=Qi):bs H0 O H q=Qi:=
 gF (gm.mp c.k9).1 (by rw[eG (c.fr q (lq ..)).1];exact h)
def Cf.afH(c:Cf H0 Hb (q::O) G σ H)(hs:Ts=Rz .w q As):Cf H0 Hb O (S8 (Zt As)) σ H:=by
 obtain⟨x,_,_,_,a,b,d⟩:=c.sl i _ hs;exact c.free hs rfl (RF q a (c.Mj b) (d.m sU))
def Cf.afI(c:Cf H0 Hb (q::O) G σ H)(hs:Ts=Rz .d q kvs):Cf H0 Hb O (S8 (TX aD kvs)) σ H:=by
 obtain⟨x,_,_,_,a⟩:=c.sl i _ hs;exact c.free hs rfl (Ss q (Qq (c.Mj a)))
end DL
namespace DL
open PySem PySem.Spec L2 NT AT
open PyProof.Rows hiding St
def wE(X:Cx)(e:Expr):TE:=Uq (∀b s,Inv X b a H s->aj (aV Qr X.w) X.A Qah (EP X b a Q) Q3 s)
def wT(X:Cx)(e:Expr):TT:=Uq (∀b s,Inv X b a H s->aj (aV Qr X.w) X.A (mO e Qg Qah) (TP X b a Q) Q3 s)
def wU(X:Cx)(e:Expr):TT:=Uq (∀c b s,Inv X b a H s->aj (aV Qr X.w) X.A (mO e Qg c) (TP X b a Q) Q3 s)
def wA(X:Cx)(c:Tc):TA:=Uq (∀d b s,Inv X b a H s->aj (aV Qr X.w) X.A (spliced (eC d (a_ c Qg))) (AP X b a Q) Q3 s)
def wB(X:Cx)(b:US):TS:=λD c H=> ∀a s,Inv X a c H s->aj (aV Qr X.w) X.A (execs b Qg) (SP X a D) Q3 s
section
variable{X:Cx}{e:Expr}{es:Tc}{st:Stmt}{ss:US}{tg iter:Expr}
def a7:PE X e (wE X e):=Qcd (h a s I)
def ny:PT X e (wT X e):=Qcd (h a s I)
def EK:PW X e (wU X e):=λa b s c H Q I h=>h a b s I
def i0:PA X es (wA X es):=λa b s c H Q I h=>h a b s I
def fZ:gv X ss (wB X ss):=Qcd (h a s I)
end
def Ev(X:Cx)(H0:Hp)(O:QZ)(G:QO)(e:Expr)(g:Bool)(A:a6):Prop:=
 ∀c b H Q,Cf H0 c O G b H->(∀v a,af H a->A.p (gh g H0 O a) v->Q v a)->wE X e b H Q
def Et(X:Cx)(H0:Hp)(O:QZ)(G:QO)(e:Expr)(b:Bool):Prop:=
 ∀d a H Q,Cf H0 d O G a H->(∀c,af H c->Q b c)->wT X e a H Q
def Eu(X:Cx)(H0:Hp)(O:QZ)(G:QO)(e:Expr)(b:Bool):Prop:=
 ∀d a H Q,Cf H0 d O G a H->(∀c,af H c->Q b c)->wU X e a H Q
def l6(X:Cx)(H0:Hp)(O:QZ)(G:QO)(d:Tc)(As:R7):Prop:=
 ∀e b H Q,Cf H0 e O G b H->(∀c a,af H a->bJ a c As->Q c a)->wA X d b H Q
def sV(X:Cx)(H0:Hp)(O:QZ)(G:QO)(d:Tc)(As:R7):Prop:=
 ∀e b H Q,Cf H0 e O G b H->(∀c a,af H a->bJ (bs H0 O a) c As->Q c a)->wA X d b H Q
def Bl(X:Cx)(H0 b:Hp)(O:QZ)(G:QO)(c:US)(D:Ends):Prop:= ∀a H,Cf H0 b O G a H->wB X c D a H
section
variable{X:Cx}{H0 Hb:Hp}{O:QZ}{G:QO}{e a b c:Expr}{es:Tc}{g ga gb:Bool}{A B C:a6}{pos p p' p2:Pos}{D:Ends}{ss:US}
def cC(h:PE X e t)(k:∀a σ H Q,Cf H0 a O G σ H->(∀v H',af H H'->A.p (gh g H0 O H') v->Q v H')->t σ H Q):Ev X H0 O G e g A:=
 λa σ H Q c q b s I=>h b s σ H Q I (k a σ H Q c q)
def qI(h:PT X e t)(q:∀a σ H Q,Cf H0 a O G σ H->(∀H',af H H'->Q k H')->t σ H Q):Et X H0 O G e k:=
 λa σ H Q c r b s I=>h b s σ H Q I (q a σ H Q c r)
def zM(h:PW X e t)(q:∀a σ H Q,Cf H0 a O G σ H->(∀H',af H H'->Q k H')->t σ H Q):Eu X H0 O G e k:=
 λa σ H Q c r b d s I=>h b d s σ H Q I (q a σ H Q c r)
def Ev.imp(h:Ev X H0 O G e g A)(k:∀H v,A.p H v->B.p H v):Ev X H0 O G e g B:=Qau (h Hb a H Q c (λv b s r=>q v b s (k _ _ r)))
def Ev.up(h:Ev X H0 O G e g A)(l:Lf A):VY e A:=Qau (h Hb a H Q c (λv b s r=>q v b s ((QY c s).lift l r)))
def Ev.eq(h:Ev X H0 O G e g A)(k:A=B):Ev X H0 O G e g B:=k▸h
def aa(i:Nat){x}(a:Ts=Rz .v g A:=by rfl)(b:UC=Qz:=by rfl)(hv:kY Sg x:=by first|exact QK|exact eM QK|exact eM WL)(hd:SK=Qb:=by decide)
  (d:(x==Zv)=Qb:=by decide):Ev X H0 O G (UB pos) g A:=cC (oG b hv hd d) (λHb h H Q c q=>by
 obtain⟨y,e,v,rfl,f⟩:=c.sl i _ a;exact Qh v e (q v H RK f))
def ai:QfD (XB S0 j pos):=cC dP (λ_ _ H _ _ q=>q _ H RK rfl)
def qJ:XM (XB (.bool i) j pos) i:=cC CL (λ_ _ H _ _ q=>q _ H RK rfl)
def zN:VY (XB Sf j pos) aN:=cC sd (λ_ _ H _ _ q=>q _ H RK rfl)
def ba(h:cb X.mg x i)(hg:Gl X x:=by rfl)(hd:SK=Qb:=by decide):QfD (UB pos):=cC (dF h hg hd) (λ_ _ H _ _ q=>q _ H RK rfl)
def o7(e:dz X (iH op) r)(f:Ev X H0 O G a ga A)(h:Ev X H0 O G b gb B)(i:∀d σ H v w Q,Cf H0 d O G σ H->A.p (gh ga H0 O H) v->B.p (gh gb H0 O H) w->(∀u H',af H H'->C.p (gh g H0 O H') u->Q u H')->r v w H Q):
  Ev X H0 O G (.BinOp a op b pos) g C:=cC (ia e a7 a7) (λd σ H Q c q=>f d σ H _ c (λv j s1 k=>h d σ j _ Q0 (λw l s2 m=>i d σ l v w Q VO (A.m (j7 s2) k) m (λu n s3 o=>q u n (QH Rt s3) o))))
def vX(f:dz X (eY op) r)(g:Ev X H0 O G a ga A)(h:Ev X H0 O G b gb B)(i:hY op b=Qb)(j:∀d σ H v w Q,Cf H0 d O G σ H->A.p (gh ga H0 O H) v->B.p (gh gb H0 O H) w->Q (.bl k) H->r v w H Q):
  XM Qdb k:=cC (JN f a7 a7 i) (λd σ H Q c q=>g d σ H _ c (λv l s1 m=>h d σ l _ Q0 (λw e s2 n=>j d σ e v w Q VO (A.m (j7 s2) m) n (q _ e Rt rfl))))
def o8(f:dz X (eY op) r)(g:Ev X H0 O G a ga A)(h:Ev X H0 O G b gb B)(i:hY op b=Qb)(j:∀d σ H v w Q,Cf H0 d O G σ H->A.p (gh ga H0 O H) v->B.p (gh gb H0 O H) w->Q (.bl k) H->r v w H Q):
  Et X H0 O G Qdb k:=qI (g8 f a7 a7 i) (λd σ H Q c q=>g d σ H _ c (λv l s1 m=>h d σ l _ Q0 (λw e s2 n=>j d σ e v w _ VO (A.m (j7 s2) m) n (Ss k (q e Rt)))))
variable{i j:Int}
def jt(c:VU)(d:X3):Sn (.BinOp a .Add b pos) (i+j):=o7 qo c d (Qbd i j e f (q _ H RK rfl))
def Ml(c:VU)(d:X3):Sn (.BinOp a .Sub b pos) (i-j):=o7 JD c d (Qbd i j e f (q _ H RK rfl))
def vY(c:VU)(d:X3)(e:vg i j):Sn (.BinOp a .Mult b pos) (i*j):=o7 abN c d (Qhg ⟨i,j,f,g,e,q _ H RK rfl⟩)
def Mm(c:VU)(d:X3)(e:JC i j):Sn (.BinOp a .FloorDiv b pos) (i/j):=o7 abO c d (Qhg ⟨i,j,f,g,e,q _ H RK rfl⟩)
def afJ(c:VU)(d:X3)(e:0<j):Sn (.BinOp a .Mod b pos) (i%j):=o7 abP c d (Qhg ⟨i,j,f,g,e,q _ H RK rfl⟩)
def Mn(c:VU)(d:X3):Sn (.BinOp a .BitAnd b pos) (qc i j):=o7 abQ c d (Qbd i j e f (q _ H RK rfl))
def Mo(c:VU)(d:X3):Sn (.BinOp a .BitOr b pos) (uT i j):=o7 abR c d (Qbd i j e f (q _ H RK rfl))
def afK(b:VU):Sn (.UnaryOp .USub a pos) (-i):=Xz cC (JB JE a7) (b Hb d H _ c (λv e s1 f=>Qh i f (q _ e s1 rfl)))
def afL(c:VU)(d:X3):XM (Xx .Lt) (QV (i<j)):=vX qp c d (eO _) (Qbd i j e f q)
def afM(c:VU)(d:X3):XM (Xx .Gt) (QV (j<i)):=vX oN c d (eO _) (Qbd i j e f q)
def Mp(c:VU)(d:X3):Et X H0 O G (Xx .Lt) (QV (i<j)):=o8 qp c d (eO _) (Qbd i j e f q)
def l7(c:VU)(d:X3):Et X H0 O G (Xx .Gt) (QV (j<i)):=o8 oN c d (eO _) (Qbd i j e f q)
def Mq:QV (Um i=Um j)=Ro i j:=by simp
def afN(a:v=S0)(b:w=QL j)(q:Q (.bl (Ro i j)) H):JG v w H Q:=by subst a b;exact RL (by rw[Mq];exact q)
def afO(a:v=S0)(b:w=QL j)(q:Q (.bl (!decide (i=j))) H):JH v w H Q:=by subst a b;exact RL (by rw[Mq];exact q)
def bz(c:VU)(d:X3):Et X H0 O G (Xx .Eq) (Ro i j):=o8 si c d (eO _) (λ_ _ _ _ _ _ _ e f q=>afN e f q)
def vZ(c:VU)(d:X3):Et X H0 O G (Xx .NotEq) (!decide (i=j)):=o8 JM c d (eO _) (λ_ _ _ _ _ _ _ e f q=>afO e f q)
variable{k k1 k2:Bool}
def f6(h:XM e k)(b:∀a,mO e Qg a=(do let v<-a;standAt e.pos;qb [v] (truthy v)):=by intro _;rfl):Et X H0 O G e k:=Xz qI (CN a7 b) (h Hb d H _ c (λv f s1 g=>Qh k g (q f s1)))
def v7(h:Et X H0 O G e k):Et X H0 O G (.UnaryOp .Not e pos) (!k):=qI (yO ny) (Qau (h Hb a H _ c (λb s1=>q b s1)))
def v8(h:Et X H0 O G a k):Eu X H0 O G (Z0 [a]) k:=zM (Js ny) (Qbi (h Hb b H Q c q))
def Mr(h:Et X H0 O G a k):Eu X H0 O G (Zl .Or [a]) k:=zM (CO ny) (Qbi (h Hb b H Q c q))
def nz(h:Et X H0 O G a k1)(f:Qv k1->Eu X H0 O G (Z0 (b::es)) k2):Eu X H0 O G (Z0 (a::b::es)) (k1&&k2):=Xz zM (Jt ny EK) (h Hb d H _ c (λe s1=>by
  cases k1 with
  |true=>exact oT (f rfl Hb d e Q Q0 (λg s2=>q g Rt))
  |false=>exact oS (q e s1)))
def Ms(h:Et X H0 O G a k1)(f:k1=Qb->Eu X H0 O G (Zl .Or (b::es)) k2):Eu X H0 O G (Zl .Or (a::b::es)) (k1||k2):=Xz zM (yN ny EK) (h Hb d H _ c (λe s1=>by
  cases k1 with
  |false=>exact oS (f rfl Hb d e Q Q0 (λg s2=>q g Rt))
  |true=>exact oT (q e s1)))
def l8(h:Eu X H0 O G e k):Et X H0 O G e k:=qI EK.pt (Qau (h Hb a H Q c q))
def j8(h:Ev X H0 O G a g A):Ev X H0 O G (Zl op [a]) g A:=cC (Ju a7) (Qbi (h Hb b H Q c q))
def Mt(h:XM a k1)(f:Qv k1->XM (Z0 (b::es)) k2):XM (Z0 (a::b::es)) (k1&&k2):=Xz cC (Jv a7 a7) (h Hb d H _ c (λv e s1 g=>Qh k1 g (by
  cases k1 with
  |true=>exact oT (f rfl Hb d e Q Q0 (λw i s2 j=>q w i Rt j))
  |false=>exact oS (q _ e s1 rfl))))
def dg(i j:Int):Int:=if i=0 then j else i
def ju(h:VU)(f:i=0->Sn (Zl .Or (b::es)) j):Sn (Zl .Or (a::b::es)) (dg i j):=Xz cC (afj a7 a7) (h Hb d H _ c (λv e s1 g=>Qh i g (by
  unfold dg at q;by_cases hi:i=0
  ·rw[Qp hi]at q⊢;exact f hi Hb d e Q Q0 (λw k s2 l=>q w k Rt l)
  ·rw[Qs hi]at q⊢;exact q _ e s1 rfl)))
def o9(h:Et X H0 O G c k)(j:Qv k->Ev X H0 O G a g A)(l:k=Qb->Ev X H0 O G b g A):Ev X H0 O G (.IfExp c a b pos) g A:=Xz cC (Jw ny a7 a7) (h Hb d H _ c (λi s1=>by
  cases k with
  |true=>exact oT (j rfl Hb d i Q Q0 (λw e s2 f=>q w e Rt f))
  |false=>exact oS (l rfl Hb d i Q Q0 (λw e s2 f=>q w e Rt f))))
def sW{j}{g}{b}{f}{x:Ri b}(h:Ev X H0 O G a ga (eH f x))(i:∀y H v,(f y).p H v->v≠ .a9):Et X H0 O G (Qhp .Is (XB Sf j g)) x.isNone:=qI (ql (vf a7)) (λHb k H Q c q=>h Hb k H _ c (λv d s1 e=>SE (by
  cases x with
  |none=>rw[e];exact q d s1
  |some y=>rw[TK (i y _ _ e)];exact q d s1)))
def zO{j}{g}{b}{f}{x:Ri b}(h:Ev X H0 O G a ga (eH f x))(i:∀y H v,(f y).p H v->v≠ .a9):Et X H0 O G (Qhp .IsNot (XB Sf j g)) x.isSome:=qI (ql (abl a7)) (λHb k H Q c q=>h Hb k H _ c (λv d s1 e=>SE (by
  cases x with
  |none=>rw[e];exact q d s1
  |some y=>rw[TK (i y _ _ e)];exact q d s1)))
def o_(h:(aL As).p H v):v≠ .a9:=by obtain⟨t,_,rfl,_⟩:=h;simp
def ao:l6 X H0 O G [] []:=Qf2 (bh pos b s a H Q I (q [] H RK .nil))
def xa(h:Ev X H0 O G e g A)(t:l6 X H0 O G es As)(hs:a_ (e::es) Qg=UY::a_ es Qg:=by rfl):l6 X H0 O G (e::es) (A::As):=
 Qf2 (bb a7 i0 hs pos b s a H Q I (h Hb a H _ c (λv d s1 f=>t Hb a d _ Q0 (λk i s2 j=>q _ i Rt (Rc (A.m s2 (A.m (dM Qd3) f)) j)))))
def bj:sV X H0 O G [] []:=Qf2 (bh pos b s a H Q I (q [] H RK .nil))
def xd(h:VY e A)(t:sV X H0 O G es As)(hs:a_ (e::es) Qg=UY::a_ es Qg:=by rfl):sV X H0 O G (e::es) (A::As):=
 Qf2 (bb a7 i0 hs pos b s a H Q I (h Hb a H _ c (λv d s1 f=>t Hb a d _ Q0 (λj g s2 i=>q _ g Rt (Rc (A.m (fY s2) f) i)))))
def cE(h:sV X H0 O G es As)(hl:WG<=bq:=by exact YU):Vb (.List es pos) aL As:=Xz cC (ic i0) (h Hb d H _ c (λa g s1 b=>⟨by rw[bQ b];exact hl,λp e=>by
  obtain⟨s2,f⟩:=(Q0).new e;exact q _ _ Rt (RF p a f (b.m (fY s2)))⟩))
def l9(h:sV X H0 O G es As)(hl:WG<=bq:=by exact YU):Vb (Xe es d pos) aT As:=cC (vh i0) (Qew (h Hb e H _ c (λa i s1 b=>⟨by rw[bQ b];exact hl,λp f=>by
  obtain⟨s2,g⟩:=(Q0).new f;exact q _ _ Rt (RF p a g (b.m (fY s2)))⟩)))
def eI(c:Cf H0 Hb O G σ H)(h:gh g H0 O H t=Qi):H t=Qi:=dM R8 _ _ h
def nA(k:Ev X H0 O G a ga (aL As))(n:Ev X H0 O G b gb (aL Bs))(s:Qv ga\/X2)(x:Qv gb\/ ∀A∈Bs,Lf A)(hl:WG+Bs.length<=bq):Vb (.BinOp a .Add b pos) aL (As++Bs):=
 o7 vn k n (λHb F H v w Q c h i q=>by
  obtain⟨t,d,rfl,y,j⟩:=h;obtain⟨u,e,rfl,z,p2⟩:=i;refine⟨t,u,d,e,rfl,rfl,eI c y,eI c z,by rw[bQ j,bQ p2];exact hl,λp B=>?_⟩;obtain⟨s2,C⟩:=c.new B;have f:∀ {g:Bool}{d:List V}{As:List a6},bJ (gh g H0 O H) d As->(Qv g\/X2)->bJ _ d As:=λ{g d As}p l=>by
   rcases l with rfl|l
   ·exact p
   ·exact c.vV l p
  have D:∀ {d e:List V}{As Bs:List a6},bJ _ d As->bJ (bs H0 O H) e Bs->bJ _ (d++e) (As++Bs):=λ{d e As Bs}h i=>by
   induction h with
   |nil=>exact i
   |cons r t E=>exact Rc r E
  exact q _ _ s2 (Tt p C ((D (f j s) (f p2 x)).m (fY s2))))
end
def el{ι:Type}(b:ι->R7)(pre:Q5 ι)(c:ι->a6):Sp:=λd H Q _=> ∃i,pre i/\bJ H d (b i)/\ ∀v a,af H a->(c i).p (cut H a) v->Q v a
structure gG(P:aO)(w:aA)(K:au)(mg:QQ)(base:Heap)(C:Addr)(k:Nat)(m:Str)(ps:Uh)(sp:Sp):Prop where
 ex:Qge (ay P w K mg base az k f fd ps sp/\Meth K C m f/\Binds K fd ps [])
section
variable{X:Cx}{H0 Hb:Hp}{O:QZ}{G:QO}{e a b o:Expr}{es:Tc}{g ga gb:Bool}{A B:a6}{As:R7}{pos p p' p2 apos:Pos}{D:Ends}{ss body:US}{x m:Str}{ps:Uh}{j k:Nat}
def x_call{b}{a:ι->a6}(C:aE Qr X.w X.K X.mg Vp j x ps (el b pre a))(d:dt k X.A)(i:ι)(f:pre i)(g:l6 X H0 O G (e::es) (b i))(hR:a i=A:=by rfl)(hj:j<=k:=by decide)(hg:Gl X x:=by rfl)
  (h:SK=Qb:=by decide)(l:a_ (e::es) Qg=UY::a_ es Qg:=by rfl)(n:Zu:=by rfl):
  VY (UM Te (e::es) pos) A:=hR▸cC (fC C d hj hg i0 h l n) (λHb o H Q c q=>g Hb o H _ c (λt u s1 w=>⟨i,f,Qm,λv r s2 s=>q v r Rt ((a i).m ((Q0).back s2) s)⟩))
def sX{id}(b:fV X (VS id) r)(d:X.mg x=none)(hv:gY x=YA id)(f:l6 X H0 O G (e::es) As)(g:∀a σ H vs Q,Cf H0 a O G σ H->bJ H vs As->(∀v H',af H H'->A.p (bs H0 O H') v->Q v H')->r vs H Q)(hg:Gl X x:=by rfl)
  (h:x≠QaN:=by decide)(i:SK=Qb:=by decide)(j:a_ (e::es) Qg=UY::a_ es Qg:=by rfl)(k:Zu:=by rfl):
  VY (UM Te (e::es) pos) A:=cC (gA b hg d hv i0 h i j k) (λa σ H Q c q=>f a σ H _ c (λvs l s1 m=>g a σ l vs Q Q0 m (λv n s2 o=>q v n Rt o)))
def Mu(b:fV X Yp r)(d:X.mg x=none)(hv:gY x=Qbq T)(f:l6 X H0 O G (e::es) As)(g:∀a σ H vs Q,Cf H0 a O G σ H->bJ H vs As->(∀v H',af H H'->A.p (bs H0 O H') v->Q v H')->r vs H Q)(hg:Gl X x:=by rfl)
  (h:x≠QaN:=by decide)(i:SK=Qb:=by decide)(j:a_ (e::es) Qg=UY::a_ es Qg:=by rfl)(k:Zu:=by rfl):
  VY (UM Te (e::es) pos) A:=cC (lT b hg d hv i0 h i j k) (λa σ H Q c q=>f a σ H _ c (λvs l s1 m=>g a σ l vs Q Q0 m (λv n s2 o=>q v n Rt o)))
def fF(h:bJ H vs [A]):∃v,vs=[v]/\A.p H v:=by
 cases h with
 |cons r t=>cases t;exact SE r
def dZ(b:X.mg Y8=none)(d:Ev X H0 O G e g (aL As))(hg:Gl X Y8:=by rfl)(a:a_ [e] Qg=U2:=by rfl):Sn (Z6 Y8 [e]) WG:=
 sX y0 b gX (xa d ao a) (Qga (by
  obtain⟨v,rfl,t,f,rfl,ht,i⟩:=fF h;exact RF t f (ZZ ht) (q _ H RK (by rw[bQ i];rfl)))) hg QD QD a
def afP(d:X.mg Rq=none)(f:Ev X H0 O G e g (aT As))(l:X2)(hg:Gl X Rq:=by rfl)(b:a_ [e] Qg=U2:=by rfl):Vb (Z6 Rq [e]) aL As:=
 Mu Kd d AT.boot_list (xa f ao b) (λHb m H n Q c h q=>by
  obtain⟨v,rfl,t,a,rfl,ht,i⟩:=fF h;refine RF t a (Qy (cw.of ht)) (λp j=>?_);obtain⟨s2,k⟩:=c.new j;exact q _ _ s2 (RF p a k (bJ.m (fY s2) (c.Mi i l)))) hg QD QD b
def afQ(d:X.mg XR=none)(f:Ev X H0 O G e g (aL As))(l:X2)(hg:Gl X XR:=by rfl)(b:a_ [e] Qg=U2:=by rfl):Vb (Z6 XR [e]) aT As:=
 Mu Ke d AT.boot_tuple (xa f ao b) (λHb m H n Q c h q=>by
  obtain⟨v,rfl,t,a,rfl,ht,i⟩:=fF h;refine Wb t a (Qq ⟨Qc5,λp j=>?_⟩);obtain⟨s2,k⟩:=c.new j;exact q _ _ s2 (RF p a k (bJ.m (fY s2) (c.Mi i l)))) hg QD QD b
def i1(h:bJ H vs As)(e:As[k]?=Qc A):∃v,vs[k]?=Rg/\A.p H v:=by
 induction h generalizing k with
 |nil=>simp at e
 |cons r t a=>
  grind
def aM(f:Ev X H0 O G a ga (aL As))(g:Qc9 n)(k:Nat)(h:As[k]?=Qc A)(i:n=k:=by rfl)(hs:sq b:=by intro _ _;rfl):Ev X H0 O G (Vx a b) ga A:=cC (iV m9 a7 a7 hs) (Qew (f Hb e H _ c (λv j s1 l=>g Hb e j _ Q0 (λw o s2 d=>by
  obtain⟨t,p,rfl,ht,r⟩:=(aL As).m (j7 s2) l;obtain⟨y,s,u⟩:=i1 r h;subst d i;exact⟨t,p,_,y,rfl,rfl,Q6 (eI VO ht),kZ s,q y o Rt u⟩))))
def fG(f:Ev X H0 O G a ga (aT As))(g:Qc9 n)(k:Nat)(h:As[k]?=Qc A)(i:n=k:=by rfl)(hs:sq b:=by intro _ _;rfl):Ev X H0 O G (Vx a b) ga A:=cC (iV vk a7 a7 hs) (Qew (f Hb e H _ c (λv j s1 l=>g Hb e j _ Q0 (λw o s2 d=>by
  obtain⟨t,p,rfl,ht,r⟩:=(aT As).m (j7 s2) l;obtain⟨y,s,u⟩:=i1 r h;subst d i;exact⟨t,p,_,y,rfl,rfl,cw.of (eI VO ht),kZ s,q y o Rt u⟩))))
def wTs(X:Cx)(d:Tc):TT:=Uq (∀b s,Inv X b a H s->aj (aV Qr X.w) X.A (forIn d true (λc r=>if r=true then do let ok<-mO c X.env (eval c X.env);pure (pO ok)else pure (pO r))) (TP X b a Q) Q3 s)
def sY(X:Cx)(H0:Hp)(O:QZ)(G:QO)(d:Tc)(b:Bool):Prop:=
 ∀Hb a H Q,Cf H0 Hb O G a H->(∀c,af H c->Q b c)->wTs X d a H Q
def jW:sY X H0 O G [] true:=Qf5 (Kp b s a H Q I (q H RK))
def v9{k}(h:Et X H0 O G e k):sY X H0 O G [e] k:=Qf5 (Kq ny b s a H Q I (h Hb a H Q c q))
def bT(X:Cx)(a:eT)(b:Tc):TT:=λc H Q=> ∀s d C cl e,wTs (X.a' s d a (dw a cl C Qg) e) b c H Q
def bE(X:Cx)(a:eT)(b:Expr):TE:=λc H Q=> ∀s d C cl e,wE (X.a' s d a (dw a cl C Qg) e) b c H Q
def zP(σ:St)(i:Nat):wipe σ [i]=σ.set i none:=rfl
def ik{L:Type}{xs:QR L}{fA eA}{pf}{B}(hc:RD)(hN:X.N.Nodup)(hi:Ev X H0 O G M g (aL Qag))(hgi:gi=g\/(Qv gi/\ ∀x,Lf (fA x)))(hl:Qu<=bq)(ok:j2 X.N Sg d [(nm,i)])
  (hg:∀s H C cl b,PG (X.a' s H d (dw d cl C Qg) b) tg (fo i))
  (ht:YI (Qgn (sY (X.a' s H d (dw d cl C Qg) b) H0 (D::O) (S8 (.v gi (fA x))) B (pf x))))
  (he:YI (Qdq pf->Qgn (Qci (X.a' s H d (dw d cl C Qg) b) (D::O) (S8 (.v gi (fA x))) w (eA x))))
  (hs:∀x,eB M Qg x=Ul:=by intro _;rfl):Vb (X' w [U' tg M B] d pos) aL (Q9 xs.filter pf eA):=by
 refine cC (y6 (tt:=bT X d B) (te:=bE X d w) hc hN (iT a7) ok hg (λs H C cl b N P E e Q I h=>h s H C cl b N P I) (λs H C cl b N P E e Q I h=>h s H C cl b N P I) hs) (λHb E H Q c q=>hi Hb E H _ c (λv H1 s1 h1=>?_))
 obtain⟨t,F,rfl,hv,Y⟩:=h1;have j:=Q0;refine Rn t (Qbu F (eI j hv)) (λD n=>?_);have hlen:F.length=Qu:=by rw[bQ Y,ak]
 refine Di (vs:=[i]) (λk e=>af H1 e/\ ∃f,e D=RZ f/\bJ (bs H0 (D::O) e) f (Uo (xs.take k) pf eA)) ⟨TL n,[],aC,.nil⟩ (λk e _⟨s2,_⟩=>Q6 (s2 _ _ (eI j hv))) (λk y e Z R=>?_) (λe R=>by obtain⟨s2,f,r,o⟩:=R;rw[hlen,cp]at o;refine q _ e (s1.trans s2) ⟨D,f,rfl,gF (j.o5 n) (by rw[eG (j.same.free n)];exact r),o.m sU⟩)
 ·obtain⟨s2,f,r,o⟩:=R;have hkl:=Ub Z;obtain⟨x,hx⟩:∃x,V4=Qz:=Qdd (cN _);obtain⟨y',hy',hA⟩:=YF i1 Y k (fA x);rw[Z]at hy';cases hy';have c2:=j.own n s2 r rfl;have J:(fA x).p (gh g H0 (D::O) e) y:=by
   cases g with
   |true=>exact(fA x).m (vW n j.same s2) hA
   |false=>exact hA
  have J:(fA x).p (gh gi H0 (D::O) e) y:=by
   rcases hgi with rfl|⟨rfl,l⟩
   ·exact J
   ·exact c2.lift (l x) J
  have S:=(Qbg c2.js i .u none (λq hq=>nomatch hq)).set (i:=i) J;rw[gV]at S;have hxm:=bL hx;have htk:Sd (xs.take (k+1)) pf=Sd (xs.take k) pf++if pf x=true then [x]else []:=by
   rw[(WS),n_,jK];rfl
  refine⟨by rw[zP,zP,gV,gV],λT U C cl b=>ht x hxm D T U C cl b _ _ _ _ S (λH3 s3=>?_)⟩;cases V:pf x with
  |false=>
   refine oS ⟨s2.trans s3,f,s3 _ _ r,?_⟩;rw[htk,V,(Xm),dR];exact o.m (fY s3)
  |true=>
   refine oT (λT U C cl b=>he x hxm V D T U C cl b _ _ _ _ (QY S s3) (λz H4 W hz4=>⟨f,W _ _ (s3 _ _ r),?_,Vu (XE s2.trans s3 W) n,f++[z],aC,by rw[o6 (lq ..),htk,V,if_pos rfl,bO];exact jT (o.m (fY (s3.trans W))) hz4⟩))
   ·have l1:QP f k:=by
     rw[bQ o,ak];exact bp (eX _ _) Qm
    omega
end
section
variable{X:Cx}{H0 Hb:Hp}{O:QZ}{G:QO}{e a b o c:Expr}{es:Tc}{g ga gb:Bool}{A B:a6}{As:R7}{pos pos' p p' p2 apos cpos:Pos}{D:Ends}{ss body body2:US}{x m:Str}{k:Bool}
def dA{st}(h:PS X st t)(q:∀σ H,Cf H0 Hb O G σ H->t QeM σ H):Bl X H0 Hb O G (st::ss) D:=
 λσ H c a s I=>dC h fZ a s σ H D I (q σ H c)
def bW(h:∀σ H,Cf H0 Hb O G σ H->D.nx σ H):Bl X H0 Hb O G [] D:=λσ H c a s I=>fb a s σ H D I (h σ H c)
def c7{a}(h:Bl X H0 Hb O G a D'):Bl X H0 Hb O G [] {D with nx:=wB X a D'}:=bW (λb H c=>h b H c)
def bG(i:Nat)(h:Ev X H0 O G e g A)(a:X.N.Nodup)(b:Bl X H0 Hb O (S8 (.v g A)) ss D)(hi:UC=Qz:=by rfl)(hx:Loc Sg x:=by first|exact QK|exact WL)
  (hs:eZ e Qea VL Qg=UH:=by rfl)(d:YP X\/X8 X x=Vj:=by first|exact Qw|exact WH):Bl X H0 Hb O G (Z4 [QcE] e::ss) D:=
 dA (fU a hi hx a7 hs d) (λf H c=>h Hb f H _ c (λv k s1 j=>b _ _ ((Q0).set j)))
def aU(h:VY e A)(a:∀v H',af H0 H'->A.p (cut H0 H') v->D.rt v H'):Bl X H0 Hb O G (.Return Xr pos::ss) D:=
 dA (dy a7) (λb H c=>h Hb b H _ c (λv d s1 f=>a v d (Qaz c s1) (A.m EG f)))
def cW(h:Et X H0 O G c k)(a:Qv k->Bl X H0 Hb O G body QeM)(b:k=Qb->Bl X H0 Hb O G body2 QeM):Bl X H0 Hb O G (.If c body body2 pos::ss) D:=
 dA (gw ny fZ fZ) (λd H c=>h Hb d H _ c (λe s1=>by
  cases k with
  |true=>exact oT (a rfl _ _ Q0)
  |false=>exact oS (b rfl _ _ Q0)))
def ec(i:Nat)(h:sV X H0 O G es As)(g:X.N.Nodup)(k:∀q,Bl X H0 Hb (q::O) (S8 (.w q As)) ss D)(hl:WG<=bq:=by exact YU)(hi:UC=Qz:=by rfl)(hx:Loc Sg x:=by first|exact QK|exact WL)
  (hs:eZ (.List es p) Qea VL Qg=UH:=by rfl)(l:YP X\/X8 X x=Vj:=by first|exact Qw|exact WH):Bl X H0 Hb O G (Z4 [QcE] (.List es p)::ss) D:=
 dA (fU g hi hx (ic i0) hs l) (λm H c=>h Hb m H _ c (λd e s1 f=>⟨by rw[bQ f];exact hl,λq a=>by
  have b:=Q0;have s2:af e (SG e q d):=TL a;exact k q _ _ ((b.own a s2 aC rfl).js ⟨rfl,Ru,d,aC,f.m (vW a b.same s2)⟩ (λr n j o=>by cases n;exact b.o5 a (b.ow o)))⟩))
def sZ(i:Nat)(b:X.N.Nodup)(e:∀q,Bl X H0 Hb (q::O) (S8 (.d q [])) ss D)(hi:UC=Qz:=by rfl)(hx:Loc Sg x:=by first|exact QK|exact WL)
  (hs:eZ (.Dict [] [] p) Qea VL Qg=UH:=by rfl)(f:YP X\/X8 X x=Vj:=by first|exact Qw|exact WH):Bl X H0 Hb O G (Z4 [QcE] (.Dict [] [] p)::ss) D:=
 dA (fU b hi hx vu hs f) (λk H c q a=>by
  exact e q _ _ ((c.own a (TL a) aC rfl).js (Qba Ru aC) (λr g j h=>by cases g;exact c.o5 a (c.ow h))))
def Cf.qK{i:Nat}(c:Cf H0 Hb O G σ H)(h:Ts=Rz .w q As):σ[i]?=XC q/\ ∃vs,H q=Y7/\bJ (bs H0 O H) vs As:=by
 obtain⟨x,a,rfl,_,b⟩:=c.sl i _ h;exact Qe a b
def Cf.Mv{i:Nat}(c:Cf H0 Hb O G σ H)(h:Ts=Rz .d q kvs):σ[i]?=XC q/\H q=Qa5:=by
 obtain⟨x,a,rfl,_,b⟩:=c.sl i _ h;exact Qe a b
def fH(i:Nat)(h:VY e A)(f:Bl X H0 Hb O (S8 (.w q (As++[A]))) ss D)(hl:WG<bq)(a:Ts=Rz .w q As:=by rfl)(g:UC=Qz:=by rfl)(hv:kY Sg x:=by first|exact QK|exact eM QK|exact eM WL)(hd:SK=Qb:=by decide)
  (j:(x==Zv)=Qb:=by decide)(k:kE Te "append" Qg QcZ=QcZ:=by rfl)
  (l:Qv ((eC cpos (a_ [e] Qg)).all QcJ&&(fx cpos (fw [] Qg)).all QcC&&QV (Qn [e]+Qn ([]:Qa3)+Qcw<30)):=by rfl)
  (m:Qv (QbL):=by rfl)(hs:a_ [e] Qg=U2:=by rfl)(n:eZ (YJ Te "append" [e]) none VL Qg=UH:=by rfl):
  Bl X H0 Hb O G (.Expr (YJ Te "append" [e]) pos::ss) D:=
 dA (iS (j1 jR mP oo oP (oG g hv hd j) (bb a7 bh hs) k l m hs rfl) n) (λo H c=>by
  obtain⟨r,s,b,d⟩:=c.qK a;exact⟨_,r,Yd _ b,h Hb o H _ c (λv t s1 hv=>⟨q,s,v,rfl,rfl,s1 _ _ b,by rw[bQ d];exact hl,f _ _ ((Q0).EJ a (jT (d.m (fY s1)) hv))⟩)⟩)
def EL{vs a}(b:bJ H vs As)(c:bJ H a Bs):bJ H (vs++a) (As++Bs):=by
 induction b with
 |nil=>exact c
 |cons r t d=>exact Rc r d
def hG(i:Nat)(h:Ev X H0 O G e g (aL Bs))(a:Qv g\/ ∀A∈Bs,Lf A)(l:Bl X H0 Hb O (S8 (.w q (As++Bs))) ss D)(hl:WG+Bs.length<=bq)(f:Ts=Rz .w q As:=by rfl)(m:UC=Qz:=by rfl)(hv:kY Sg x:=by first|exact QK|exact eM QK|exact eM WL)(hd:SK=Qb:=by decide)
  (n:(x==Zv)=Qb:=by decide)(o:kE Te Qc8 Qg QcZ=QcZ:=by rfl)
  (r:Qv ((eC cpos (a_ [e] Qg)).all QcJ&&(fx cpos (fw [] Qg)).all QcC&&QV (Qn [e]+Qn ([]:Qa3)+Qcw<30)):=by rfl)
  (s:Qv (QbL):=by rfl)(hs:a_ [e] Qg=U2:=by rfl)(u:eZ (YJ Te Qc8 [e]) none VL Qg=UH:=by rfl):
  Bl X H0 Hb O G (.Expr (YJ Te Qc8 [e]) pos::ss) D:=
 dA (iS (j1 jR uX Cj Kh (oG m hv hd n) (bb a7 bh hs) o r s hs rfl) u) (λy H c=>by
  obtain⟨z,B,j,k⟩:=c.qK f;refine⟨_,z,Yd _ j,h Hb y H _ c (λv F s1 hv=>?_)⟩;obtain⟨t,C,rfl,E,b⟩:=hv;have d:=Q0;refine⟨q,t,B,C,rfl,rfl,s1 _ _ j,eI d E,by rw[bQ k,bQ b];exact hl,l _ _ (d.EJ f (EL (k.m (fY s1)) ?_))⟩;rcases a with rfl|a
  ·exact b
  ·exact d.vV a b)
def s_(i:Nat){a}(N:RY+64<bf)(m:VY f A)(n:∀H v,A.p H v-> ∃t,v=VN/\bV H a t)(h:VY e B)(o:∀H v,B.p H v->v=w)(r:Bl X H0 Hb O (S8 (.d q (putK kvs a w))) ss D)(hl:Ta<bq)
  (j:Ts=Rz .d q kvs:=by rfl)(s:UC=Qz:=by rfl)(hv:kY Sg x:=by first|exact QK|exact eM QK|exact eM WL)(hd:SK=Qb:=by decide)(u:(x==Zv)=Qb:=by decide)
  (hs:eZ e (Qc (Zd Te f pos')) VL Qg=UH:=by rfl):Bl X H0 Hb O G (Z4 [Zd Te f pos'] e::ss) D:=
 dA (Dm Qa (oG s hv hd u) a7 a7 hs) (λk H c=>h Hb k H _ c (λv z s1 C=>by
  have g:=Q0;obtain⟨E,F⟩:=g.Mv j;refine Tn E (m Hb k z _ g (λy I s2 J=>?_));have l:=QY g s2;obtain⟨t,rfl,K⟩:=n _ _ J;refine Tt q (oR.t (s2 _ _ F) (QY K (λb P e=>dM l.same _ _ e)) hl) ?_;have M:=o _ _ C;subst M;exact r _ _ (l.putD j)))
def d9(i:Nat)(h:Bl X H0 Hb O (S8 (Zt As)) ss D)(a:Ts=Rz .w q As:=by rfl):Bl X H0 Hb (q::O) G ss D:=λb H c=>h b H (c.afH a)
def v_(i:Nat)(h:Bl X H0 Hb O (S8 (TX aD kvs)) ss D)(a:Ts=Rz .d q kvs:=by rfl):Bl X H0 Hb (q::O) G ss D:=λb H c=>h b H (c.afI a)
def eP{o:Type}{xs:QR o}{fA}(i:Nat)(L:Nat->QO)(z:RD)(hi:Ev X H0 O G h g (aL Qag))(B:gi=g\/(Qv gi/\ ∀x,Lf (fA x)))(ht:PG X tg (fo i))(h0:ff G (L 0))
  (C:∀j k x,V4=Qz->Bl X H0 j O ((L k).set i (.v gi (fA x))) body Qgp)(E:Bl X H0 Hb O (L Qu) ss D)
  (hs:∀x,eB h Qg x=Ul:=by intro _;rfl)(F:fQ (aV Qr X.w) X.A Qg Q3:=by exact eN):Bl X H0 Hb O G (.For tg h body [] pos::ss) D:=
 dA (h_ F z (iT a7) ht fZ hs) (λI H c=>hi Hb I H _ c (λv J s1 M=>by
  obtain⟨t,e,rfl,hv,q⟩:=M;have n:=Q0;have N:Qn e=Qu:=by rw[bQ q,ak]
  refine Rn t (Qbu e (eI n hv)) (lR (xs:=e) (λk f d=>Cf H0 _ O (L k) f d) (n.sR.le h0) (λk f d _ b=>Q6 ?_) (λk y f d r b=>?_) (λf d b=>by rw[N]at b;exact E _ _ (b.sn n.snap)))
  ·cases g with
   |true=>exact l5 b.same _ _ (b.snap _ _ hv)
   |false=>exact b.same _ _ hv
  ·have P:=Ub r;obtain⟨x,hx⟩:∃x,V4=Qz:=Qdd (cN _);obtain⟨Q,s,u⟩:=YF i1 q k (fA x);rw[r]at s;cases s;have w:(fA x).p (gh g H0 O d) y:=by
    cases g with
    |true=>exact(fA x).m b.snap u
    |false=>exact u
   refine C _ k x hx _ _ (b.set ?_);rcases B with rfl|⟨rfl,l⟩
   ·exact w
   ·exact b.lift (l x) w))
def qL(G:QO)(g:Bool):QU->R7->QO
 |i::a,A::As=>qL (S8 (.v g A)) g a As
 |_,_=>G
def ti:QU->se
 |[]=>yQ
 |i::a=>sg (fo i) (ti a)
def wa:∀ {is:List Nat}{As:List a6}{vs:List V}{G:List Sl}{σ:St},Qaf=WG->Cf H0 Hb O G σ H->bJ (gh g H0 O H) vs As->(∀a,Cf H0 Hb O (qL G g is As) a H->Q a H)->ti is vs σ H Q
 |[],[],_,G,σ,_,c,.nil,q=>RL (q σ c)
 |i::is,A::As,_,G,σ,hl,c,.cons r t,q=>Wb _ _ (wa (by simpa using hl) (c.set r) t q)
def wb{n:Type}{xs:QR n}{fA:n->R7}(is:QU)(L:Nat->QO){e}{B}(o:RD)(hi:Ev X H0 O G i g (aL (VW (aT (fA x)))))(ht:oI X e (ti is))(q:∀x,Qaf=Qx fA x)(h0:ff G (L 0))
  (C:∀j k x,V4=Qz->Bl X H0 j O (qL (L k) g is (fA x)) body Qgp)(E:Bl X H0 Hb O (L Qu) ss D)
  (hl:Wa jh e Qg=Qaf:=by rfl)(aq:(jh e X.env).findIdx? (·.1)=none:=by rfl)(hs:∀x,eB i Qg x=Ul:=by intro _;rfl)(F:fQ (aV Qr X.w) X.A Qg Q3:=by exact eN):Bl X H0 Hb O G (.For (Xe e B p) i body [] pos::ss) D:=
 dA (h_ F o (iT a7) (oJ o ht hl aq) fZ hs) (λI H c=>hi Hb I H _ c (λv J s1 M=>by
  obtain⟨t,f,rfl,hv,r⟩:=M;have l:=Q0;have N:Qn f=Qu:=by rw[bQ r,ak]
  refine Rn t (Qbu f (eI l hv)) (lR (xs:=f) (λk h d=>Cf H0 _ O (L k) h d) (l.sR.le h0) (λk h d _ b=>Q6 ?_) (λk y h d s b=>?_) (λh d b=>by rw[N]at b;exact E _ _ (b.sn l.snap)))
  ·cases g with
   |true=>exact l5 b.same _ _ (b.snap _ _ hv)
   |false=>exact b.same _ _ hv
  ·have T:=Ub s;obtain⟨x,hx⟩:∃x,V4=Qz:=Qdd (cN _);obtain⟨U,u,w⟩:=YF i1 r k (aT (fA x));rw[s]at u;cases u;have P:(aT (fA x)).p (gh g H0 O d) y:=by
    cases g with
    |true=>exact(aT _).m b.snap w
    |false=>exact w
   obtain⟨ty,Q,rfl,R,z⟩:=P;refine⟨ty,Q,rfl,cw.of (eI b R),by rw[bQ z,q x],wa (q x) b z (λV S=>C _ k x hx _ _ S)⟩))
def zQ{ι:Type}(L:ι->QO)(b:S4 ι)(a:ι->Nat)(f:ι)(h0:ff G (L f))(ht:∀i,Et X H0 O (L i) c (b i))
  (g:∀i,QJ b i->Bl X H0 Hb O (L i) body {D with nx:=λσ H=>∃j,a j<a i/\Cf H0 Hb O (L j) σ H,ct:=λσ H=>∃j,a j<a i/\Cf H0 Hb O (L j) σ H,bk:=wB X ss D})(h:∀i,b i=Qb->Bl X H0 Hb O (L i) ss D)(k:fQ (aV Qr X.w) X.A Qg Q3:=by exact eN):
  Bl X H0 Hb O G (.While c body [] pos::ss) D:=
 dA (abB k ny fZ) (Vv ⟨λm σ H=> ∃i,m=a i/\Cf H0 Hb O (L i) σ H,Wb _ f (c.le h0),λm σ H⟨i,l,d⟩=>ht i Hb σ H _ d (λp s1=>by
  subst l;cases e:b i with
  |true=>exact oT ⟨_,λq r⟨j,n,o⟩=>Rl (a j) n j o,g i e _ _ (QeE d)⟩
  |false=>exact oS (h i e _ _ (QeE d)))⟩)
end
section
variable{P:aO}{w:aA}{K:au}{mg:QQ}{base:Heap}
inductive j9:R7->Q5 QO
 |e:j9 [] []
 |u{l:QO}(t:j9 [] l):j9 [] (.u::l)
 |o{A:a6}{As:R7}{l:QO}(t:j9 As l):j9 (A::As) (.v Qb A::l)
 |n{A:a6}{As:R7}{l:QO}(h:Lf A)(t:j9 As l):j9 (A::As) (Qa0 A::l)
def afR(h:Lf A)(q:A.p H v):A.p (bs H [] H) v:=A.m (Q4 (by
 obtain⟨c,rfl,a⟩:=j5 e;exact gF Qj (l4 a))) (h _ _ q)
def afS:∀ {As:List a6}{l:List Sl}{vs:List V},j9 As l->bJ H vs As-> ∀m,QT=V1+m->(∀(i:Nat)s,l[i]?=Qc s-> ∃x,(vs.map some++List.replicate m none)[i]?=Qz/\qH H [] H s x)/\ ∀(i:Nat),(l[i]?).bind V_=none:=by
 intro As l vs h;induction h generalizing vs with
 |e=>
  simp
 |u t b=>
  intro p m a;cases p;obtain⟨m,rfl⟩:∃f,m=f+1:=⟨m-1,QgL⟩;obtain⟨d,c⟩:=b .nil m QaM;refine⟨λi s e=>?_,Qc0⟩
  ·cases i with
   |zero=>simp at e;subst e;exact Qh none QaQ RQ
   |succ i=>grind
  ·cases i with
   |zero=>rfl
   |succ i=>simpa using c i
 |o t b=>
  intro p m a;cases p with
  |cons r p=>
   obtain⟨d,c⟩:=b p m QgL;refine⟨λi s e=>?_,Qc0⟩
   ·cases i with
    |zero=>simp at e;subst e;exact Rl _ rfl _ r
    |succ i=>grind
   ·cases i with
    |zero=>rfl
    |succ i=>simpa using c i
 |n hl t b=>
  intro p m a;cases p with
  |cons r p=>
   obtain⟨d,c⟩:=b p m QgL;refine⟨λi s e=>?_,Qc0⟩
   ·cases i with
    |zero=>simp at e;subst e;exact Rl _ rfl _ (afR hl r)
    |succ i=>grind
   ·cases i with
    |zero=>rfl
    |succ i=>simpa using c i
def zR(h:bJ H vs As)(st:j9 As l)(hl:QT=Qn N)(f:V1<=Qn N):Cf H Tb [] l (L2.start N vs) H:=by
 obtain⟨a,c⟩:=afS st h (Qn N-V1) Qa;refine⟨RK,(Q4 QbI),λq d=>(by simp at d),by unfold L2.start;simp;omega,a,λi j q hi g=>?_,jf⟩
 ·rw[c i]at hi;cases hi
def aa0{x g}{st}(F:aP K x g st f n)(S:aY N ps (aK st))(m:ι->QO)(o:∀i,j9 (j i) (m i))(hl:∀i,Qx j i=Vk/\Qx m i=Qn N/\Vk<=Qn N)
  (t:∀d A outer s H E i,dt k (A.deeper (gW g (aK st) Qt f d))->pre i->Bl (lS az P w K mg base N g (aK st) f d A Sx s H E).lQ H Tb [] (m i) (g_ st) {nx:=λ_ H'=>af H H'/\(l i).p (cut H H') .a9,rt:=λv H'=>af H H'/\(l i).p (cut H H') v}):
  ay P w K mg base az (k+1) f n ps (el j pre l):=
 F.ok S (λy H Q E⟨i,_,h,_⟩=>QgM) (λd A outer s H y Q E z⟨i,B,h,q⟩=>Tn fZ (λC D I=>aR (t d A Sx s H E i z B _ _ (zR h (o i) (hl i).2.1 Qgv) C D I) (λG s2 e=>by
   cases G with
   |next=>obtain⟨b,H',c,a⟩:=e;exact⟨b,H',c,q _ H' a.1 a.2⟩
   |brk=>obtain⟨b,H',c,a⟩:=e;exact a.elim
   |cont=>obtain⟨b,H',c,a⟩:=e;exact a.elim
   |ret u=>obtain⟨v,b,H',c,r,a⟩:=e;exact⟨v,b,H',c,r,q v H' a.1 a.2⟩)))
end
open Vbdhaj(Sense sensesOf equals paired less lessText)
abbrev zs(l:QU):Qo:=Vbdhaj.«ints» l
def toS(x:aw):cJ:=(zs ZQ,x.num)
def k_:∀ {l m:List Nat},zs l=zs m->l=m
 |[],[],_=>rfl
 |[],_::_,h=>by cases h
 |_::_,[],h=>by cases h
 |a::l,c::m,h=>by
  injection h with h1 h2;rw[iB.mp h1,k_ h2]
def aX(x:aw):a6:=aS (toS x)
abbrev bw(xs:QC):a6:=aL (Ti aX)
def j_(h:toS x=toS y):x=y:=by
 obtain⟨w,n⟩:=x;obtain⟨v,m⟩:=y;have a:n=QW m:=Qat Prod.snd h;rw[k_ (show zs w=zs v from congrArg Prod.fst h),iB.mp a]
def cK:Lf (aX x):=afF
def nB{xs:QC}:∀A∈xs.map aX,Lf A:=λA a=>by obtain⟨n,_,rfl⟩:=cQ.mp a;exact cK
abbrev dY:QU:=[1,2,3]
def t3(h:QE):QW s∈T3:=by
 simp at h⊢;omega
structure gH(B:Bk)(b:rZ):Prop where
 bA:∀s∈dY,SN (B.bA s).Perm (ae b s) toS
 eqs:∀s∈dY,∀t∈dY,∀x∈ae b s,SN (B.eqs s (toS x) t).Perm (av b s t x) toS
def lb(C:Addr)(b:rZ)(g:Tag):a6:=Ya (∃(f:Tag->Addr)(B:Bk),v=Q1 (f g)/\dG C H f B/\gH B b) (λs⟨f,B,e,h,r⟩=>⟨f,B,e,QY h s,r⟩)
abbrev a8(C:Addr)(b:rZ):a6:=lb C b .ob
def qM(xs:QC):a6:=⟨λH v=>∃(d:Addr)(a:List _)(l:List cJ),v= .ref d/\Rd H d (.dT a)/\a.map (·.1)=l.map bC/\l.Perm (xs.map toS),λs⟨d,a,l,e,h,r⟩=>⟨d,a,l,e,h.elim (λh=>Qq (s _ _ h)) (λ⟨o,h⟩=>WA o (s _ _ h)),r⟩⟩
structure aH(b:rZ):Prop where
 three:VT=3
 cA:∀s∈dY,UL (ae b s) (Qcq x y)
 bc:∀s∈dY,SS (ae b s)
 good:∀s∈dY,∀x∈ae b s,QJ kO ZQ/\1<=x.num/\x.num<=9
 lg:∀p∈b.pairs,p.a<p.b/\To p.a/\To p.b/\p.x∈ae b p.a/\p.y∈ae b p.b
 nd:b.pairs.Nodup
def pa:∀a c,b8 (cT (zs a)) (cT (zs c))=iN a c
 |[],[]=>rfl
 |[],_::_=>rfl
 |_::_,[]=>rfl
 |x::a,y::c=>by
  show(if Nk.i x=Nk.i y then b8 (cT (zs a)) (cT (zs c))else b8 _ _)=(QV (x<y)||(x==y&&iN a c));by_cases h:x=y
  ·subst h;rw[(SX),pa a c];simp
  ·rw[Qby (h (by injection e with e;omega))];show QV (x<QW y)=_;simp[h]
def nE(x y:aw):k6 (toS x) (toS y)↔YC x y:=by
 obtain⟨w,n⟩:=x;obtain⟨v,m⟩:=y;unfold k6;have e:b8 (bC (toS (Qe w n))) (bC (toS (Qe v m)))=less (Qe w n) (Qe v m):=by
  show(if cT (zs w)=cT (zs v)then b8 _ _ else b8 (cT (zs w)) (cT (zs v)))=(iN w v||(w==v&&QV (n<m)));by_cases h:w=v
  ·subst h;rw[(SX)];have hl:iN w w=Qb:=by
    rw[<-pa];exact sI _
   rw[hl];show(if Nk.i n=Nk.i m then b8 .nil .nil else b8 _ _)=_;by_cases h:n=m
   ·subst h;simp[b8]
   ·rw[Qby (h (by injection e with e;omega))];show QV (n<QW m)=_;simp
  ·rw[Qby (h (k_ (oW e))),pa];simp[h]
 rw[e]
def EM(x:cJ):¬k6 x x:=λh=>by rw[k6,sI]at h;cases h
def Mw(a:k6 x y)(b:k6 y z):k6 x z:=vD _ _ _ a b
def afT(a:k6 x y)(b:k6 y x):x=y:=Qck (Mw a b) EM x
def ee{l:QC}(h:UL l (Qcq x y)):l.Nodup:=h.imp (λh e=>by subst e;exact EM _ ((nE _ _).mpr h))
def aH.EN(o:aH b)(hs:QE):S7 (ae b s):=ee (o.cA s hs)
def aH.l_(o:aH b)(ht:Q2):UL (av b s t x) (Qcq x y):=Xc (o.cA t ht)
def aH.hH(o:aH b)(ht:Q2):SS (av b s t x):=bp (eX _ _) (o.bc t ht)
def afU{l:QC}(h:l.Nodup):S7 (R1 toS):=We (h.imp (Wh (j_ e)))
def afV{l:QC}(h:UL l (Qcq x y))(p:SN ys.Perm l toS)(s:ys.Pairwise k6):ys=R1 toS:=by
 exact p.eq_of_pairwise (λa c _ _ b d=>afT b d) s (We (h.imp (λh=>(nE _ _).mpr h)))
section
variable{X:Cx}{H0 Hb:Hp}{O:QZ}{G:QO}{e a b o i:Expr}{es:Tc}{g ga gb gi:Bool}{A B:a6}{As:R7}{pos p p' p2 apos:Pos}{x m:Str}{ps:Uh}{j k:Nat}{C:Addr}{bo:rZ}{s t:Nat}{sn:aw}{xs:QC}
def cB{b}{a:ι->a6}{pl}(cl:ib X.K C)(M:gG Qr X.w X.K X.mg Vp C j m ps (el b pre a))(l:dt k X.A)(i:ι)(n:pre i)(p:Ev X H0 O G o g (a8 C Bo))(r:l6 X H0 O G (e::es) As)(hi:b i=a8 C Bo::As:=by rfl)(hR:a i=A:=by rfl)(hj:j<=k:=by decide)(s:¬m=WN:=by decide+kernel)
  (aq:a_ (e::es) Qg=UY::a_ es Qg:=by rfl)(t:Zu:=by rfl)
  (ht:Ws (Qcj o m (e::es) pos)=(do
   let ov<-XX
   standAt apos.atName
   let(f,first)<-qb [ov] (uQ ov m pl)
   callWith pos f first (eC pos (a_ (e::es) Qg)) (fx pos (fw [] Qg))):=by rfl):
  VY (Qcj o m (e::es) pos) A:=by
 subst hR;obtain⟨f,J,F,u,w⟩:=M.ex;refine Xz cC (JX a7 cl u F (l.mono hj) w .nil zb i0 aq t ht) (p Hb d H _ c (λv x s1 y=>?_));obtain⟨f,B,rfl,bk,rb⟩:=y;have h:=bk.keep (dM Qd3);obtain⟨z,hx⟩:=h.ob;refine⟨f .ob,z,_,rfl,hx,Ma _ s,r Hb d x _ Q0 (λK L s2 D=>⟨i,n,?_,λv E s3 I=>q v E (QH Rt s3) ((a i).m ((VO).back s3) I)⟩)⟩;rw[dR,hi];exact Rc (RF f B (QY h s2) rb) D
def wc(cl:ib X.K C)(nl:j0 X.K C WN)(a:Ev X H0 O G o g (a8 C bo))(b:kE o WN Qg XX=XX:=by rfl):Ev X H0 O G (Yy o WN pos) g (lb C bo .lk):=Xz cC (JS a7 b) (a Hb d H _ c (λv e s1 h=>by
 obtain⟨f,B,rfl,bk,r⟩:=h;obtain⟨i,hx⟩:=(bk.keep (dM Qd3)).ob;exact⟨_,C,i,_,_,rfl,hx,cl,nl,L' _,q _ e s1 (RF f B bk r)⟩))
def wd(n:RY+64<bf)(d:Ev X H0 O G o g (lb C bo .lk))(hi:Sn i s)(hs:QE)(e:nh i:=by intro _ _;rfl):Ev X H0 O G (Vx o i) g (lb C bo (.tg s)):=cC (qv Qa a7 a7 e) (Qbi (d Hb b H _ c (λv h s1 j=>hi Hb b h _ Q0 (λw l s2 a=>by
 obtain⟨f,B,rfl,bk,r⟩:=(lb C bo .lk).m (j7 s2) j;subst a;have hg:=gC.k (k:=mX s) (bk.keep (dM Qd4)).lk;rw[zG _ (t3 hs)]at hg;exact Uu hg (q _ l Rt (RF f B bk r))))))
def Mx(x:RY+64<bf)(h:Ev X H0 O G o g (lb C bo (.tg s)))(hi:Vb i aX sn)(hs:QE)(hx:sn∈ae bo s)(j:nh i:=by intro _ _;rfl):Ev X H0 O G (Vx o i) g (lb C bo (.sn s (toS sn))):=cC (qv Qa a7 a7 j) (Qau (h Hb a H _ c (λv k s1 l=>hi Hb a k _ Q0 (λw n s2 p=>by
 obtain⟨f,B,rfl,bk,r⟩:=(lb C bo _).m (j7 s2) l;obtain⟨t,rfl,u⟩:=hE.mp p;have d:=VO;have hg:=gC.t ((bk.keep (dM d.same)).tg s (t3 hs)) (u.key.keep (λb xs e=>dM d.same _ _ e));unfold eF at hg;rw[vS f B,Qp (Qdm (r.bA s hs) (XH sn hx))]at hg;exact Uu hg (q _ n Rt (RF f B bk r))))))
def My(p:RY+64<bf)(e:Ev X H0 O G o g (lb C bo (.sn s (toS sn))))(hi:Sn i t)(hs:QE)(hx:sn∈ae bo s)(ht:Q2)(h:nh i:=by intro _ _;rfl):Ev X H0 O G (Vx o i) g (qM (av bo s t sn)):=cC (qv Qa a7 a7 h) (Qbi (e Hb b H _ c (λv j s1 l=>hi Hb b j _ Q0 (λw n s2 a=>by
 obtain⟨f,B,rfl,bk,r⟩:=(lb C bo _).m (j7 s2) l;subst a;have d:=Qdm (r.bA s hs) (XH sn hx);have hg:=gC.k (k:=mX t) ((bk.keep (dM Qd4)).sn s (t3 hs) _ d);rw[zG _ (t3 ht)]at hg;refine Uu hg (q _ n Rt ⟨_,_,B.eqs s _ t,rfl,Qq (bk.eq s (t3 hs) _ d t (t3 ht)),?_,r.eqs s hs t ht sn hx⟩);unfold gE;rw[cq];rfl))))
def EO(hs:QE)(h:(lb C bo (.tg s)).p H v):(qM (ae bo s)).p H v:=by
 obtain⟨f,B,rfl,bk,r⟩:=h;refine⟨_,_,B.bA s,rfl,Qq (bk.tg s (t3 hs)),?_,r.bA s hs⟩;unfold eF;rw[cq];rfl
def zS{k:Nk}:(cO kvs k).isSome=decide (k∈kvs.map (·.1)):=by
 rw[<-sy,gU,kv,decide_eq_true_eq,cQ];exact⟨λ⟨p,a,b⟩=>Qh p a (Yz b),λ⟨p,a,b⟩=>Qh p a (Ze b)⟩
def afW{H:Hp}{d:Addr}{w:Addr}{l:UW}(b:kvs.map (·.1)=l.map bC)(c:l.Perm (Ti toS)):(cO kvs (bC (toS sn))).isSome=Ur sn xs:=by
 rw[zS,b];have:bC (toS sn)∈R1 bC↔sn∈xs:=by
  constructor
  ·intro h;obtain⟨y,a,e⟩:=RM h;rw[lX e]at a;obtain⟨z,f,e⟩:=RM (X_ c a);rw[<-j_ e];exact f
  ·grind
 simp[this]
def Mz(z:RY+64<bf)(hi:Vb i aX sn)(h:Ev X H0 O G o g (qM xs))(j:hY .In o=Qb:=by rfl):XM (Qhf i [.In] [o]) (Ur sn xs):=cC (abm (ac4 Qa a7 a7) j) (Qau (hi Hb a H _ c (λw k s1 n=>h Hb a k _ Q0 (λv p s2 r=>by
 have f:=VO;obtain⟨t,rfl,s⟩:=hE.mp n;obtain⟨d,u,l,rfl,hd,x,y⟩:=(qM xs).m (dM f.same) r;refine Tt d (Qy ⟨u,_,t,hd,rfl,((QY s (j7 s2)).key.keep (λb xs e=>dM f.same _ _ e)),rfl⟩) ?_;rw[afW (H:=H) (d:=d) (w:=t) x y];exact q _ p Rt rfl))))
def afX{H:Hp}{p}(h:iX H' p (Ti toS)):(bw xs).p H' Vm:=by
 have:=EI.mpr (Ss p h);unfold k8 at this;rw[cq]at this;exact this
def ER:gY YW=YA YW:=by decide+kernel
def ES(J:RY+64<bf)(r:RD)(s:X.mg YW=none)(u:Ev X H0 O G o g (qM xs))(hs:xs.Pairwise (Qcq x y))(hl:Qu<64)(hg:Gl X YW:=by rfl)(j:a_ [o] Qg=[Yb o]:=by rfl):Vb (Z6 YW [o]) bw xs:=
 sX (aet r Qa) s DL.ER (xa u ao j) (λHb K H L Q c h q=>by
  obtain⟨v,rfl,d,k,l,rfl,hd,f,i⟩:=fF h;have n:=i.nodup_iff.mpr (afU (ee hs));have M:=by
   have:=YG f;rw[ak,ak,i.length_eq,ak]at this;exact this
  refine⟨d,k,Qb,rfl,hd,by rw[f];exact afy n,Qa,?_⟩;rw[f];refine afA n (λp N w z a A pm B=>?_);have e:=afV hs (pm.trans i) B;subst e;refine q _ w a ((bw xs).m (c.back a) ?_);obtain⟨C,D,E⟩:=A;exact afX (H:=H) ⟨C,by rw[eG z];exact D,ie E (λt y _⟨b,F,I⟩=>⟨b,k7 a F,k7 a I⟩)⟩) hg QD QD j
abbrev Bo:=rZ
end
def zT(C:Addr):Sp:=Su (Bo×Nat×aw) (λ(b,s,x)=>[a8 C b,aI s,aX x]) (λ(_,s,_)=>QE) (λ(b,s,x)=>aB (Ur x (ae b s)))
def MA(C:Addr):Sp:=Su (Bo×Nat) (λ(b,s)=>[a8 C b,aI s]) (λ(b,s)=>QE/\aH b) (λ(b,s)=>bw (ae b s))
def ET(C:Addr):Sp:=Su (Bo×Nat×Nat×aw) (ZV [a8 C b,aI s,aI t,aX x]) (ZV (QE/\Q2/\x∈ae b s/\aH b)) (ZV (bw (av b s t x)))
def EU(C:Addr):Sp:=Su (Bo×Nat×Nat×aw×aw) (λ(b,s,t,x,y)=>[a8 C b,aI s,aI t,aX x,aX y]) (λ(b,s,t,_,_)=>QE/\Q2/\aH b) (λ(b,s,t,x,y)=>aB (b6 b s t x y))
section
variable{P:aO}{w:aA}{K:au}{mg:QQ}{base:Heap}{f C:Addr}{fd:b_}
def afY:aY W_ W_ (aK EA):=QF
def afZ(F:aP K Qd0 "Book.has_sense" EA f fd)(T:j4 K mg C):ay P w K mg base az 1 f fd W_ (zT C):=R4 afY (.n ag (.n cK .e)) (λg A outer s H E⟨b,t,x⟩a c=>aU (Mz Sw (aa 2) (Vc (wd Sw (wc T.cl T.nL (aa 0)) (aa 1) c) (EO c))) (λv i d h=>Rw d))
def af0:aY [RR,"s"] [RR,"s"] (aK EB):=QF
def af1(F:aP K "senses" "Book.senses" EB f fd)(T:j4 K mg C)(d:Top mg):ay P w K mg base az 1 f fd [RR,"s"] (MA C):=R4 af0 (.n ag .e) (λi A outer s H E⟨b,t⟩a⟨ht,c⟩=>aU (ES Sw rfl d.sorted (Vc (wd Sw (wc T.cl T.nL (aa 0)) (aa 1) ht) (EO ht)) (c.cA t ht) (by have:=c.bc t ht;omega)) (λv j g h=>Rw g))
def af2:aY [RR,"s","t","x"] [RR,"s","t","x"] (aK EC):=QF
def af3(F:aP K XO "Book.equivalents" EC f fd)(T:j4 K mg C)(g:Top mg):ay P w K mg base az 1 f fd [RR,"s","t","x"] (ET C):=R4 af2 (.n ag (.n ag (.n cK .e))) (λj A outer s H E⟨b,t,u,x⟩a⟨ht,c,hx,d⟩=>aU (ES Sw rfl g.sorted (My Sw (Mx Sw (wd Sw (wc T.cl T.nL (aa 0)) (aa 1) ht) (aa 3) ht hx) (aa 2) ht hx c) (d.l_ c) (by have:=d.hH (s:=t) (x:=x) c;omega)) (λv k i h=>Rw i))
def j'{b:Bo}(o:aH b)(h:Sq b s t x y):x∈ae b s/\y∈ae b t:=by
 unfold b6 at h;rw[gj]at h;obtain⟨_,_,_,a,c⟩:=o.lg _ h;unfold bR at a c;split at a
 ·grind
 ·grind
def d3{b:Bo}(o:aH b):y∈av b s t x↔Sq b s t x y:=by
 unfold av;rw[eh];exact⟨Qc4,λh=>Rw (j' o h).2⟩
def af4:aY [RR,"s","t","x","y"] [RR,"s","t","x","y"] (aK ED):=QF
def af5(F:aP K "paired" "Book.paired" ED f fd)(T:j4 K mg C)(M:gG P w K mg base C 1 Qd0 W_ (zT C)):ay P w K mg base az 2 f fd [RR,"s","t","x","y"] (EU C):=by
 refine R4 af4 (.n ag (.n ag (.n cK (.n cK .e)))) (λi A outer s H E⟨b,t,u,x,y⟩a⟨ht,d,c⟩=>?_);have e:b6 b t u x y=(Ur x (ae b t)&&Ur y (av b t u x)):=by
  rw[gU,bX,decide_eq_true_eq,decide_eq_true_eq,d3 c];exact⟨λh=>Rw (j' c h).1,Qc4⟩
 refine aU (A:=aB _) ?_ (λv j g h=>Rw g);rw[e];refine Mt (cB T.cl M a (b,t,x) ht (aa 0) (xa (aa 1) (xa (aa 3) ao))) (λhx=>j8 ?_)
 have hx:=Yz hx;exact Mz Sw (aa 4) (My Sw (Mx Sw (wd Sw (wc T.cl T.nL (aa 0)) (aa 1) ht) (aa 3) ht hx) (aa 2) ht hx d)
end
end DL
namespace DL
open PySem PySem.Spec L2 NT AT
open PyProof.Rows hiding St
open Vbdhaj(Sense sensesOf equals paired less lessText members)
section
variable{X:Cx}{H0 Hb:Hp}{O:QZ}{G:QO}{e a b c:Expr}{g ga gb:Bool}{A:a6}{pos p:Pos}{k k':Bool}{α:Type}{xs:Qa8}
def Et.eq(h:Et X H0 O G e k)(q:k=k'):Et X H0 O G e k':=q▸h
def af6:gY "sum"=YA "sum":=by decide+kernel
def af7:gY "any"=YA "any":=by decide+kernel
def af8:VW (aI (f x))=Q9 xs.map f aI:=by rw[cq];rfl
def pB{bs:QR Bool}:∀ {vs:List V},bJ H vs (bs.map aB)->vs=bs.map V.bl:=by
 induction bs with
 |nil=>intro vs h;cases h;rfl
 |cons n ns a=>intro vs h;cases h with|cons r t=>rw[r,a t];rfl
def EV(d:RD)(i:X.mg "sum"=none)(h:Ev X H0 O G e g (aL (VW (aI (f x)))))(hg:Gl X "sum":=by rfl)(a:a_ [e] Qg=U2:=by rfl):Sn (Z6 "sum" [e]) (Ti f).sum:=
 sX (acF d) i af6 (xa h ao a) (Qga (by
  obtain⟨v,rfl,t,l,rfl,ht,b⟩:=fF h;rw[af8]at b;rw[pI b]at ht;exact Tt t Qc5 (q _ H RK rfl))) hg QD QD a
def EW(d:RD)(i:X.mg "all"=none)(h:Ev X H0 O G e g (aL (VW (aB (f x)))))(hg:Gl X "all":=by rfl)(a:a_ [e] Qg=U2:=by rfl):XM (Z6 "all" [e]) (xs.all f):=
 sX (Kl d) i AT.boot_all (xa h ao a) (Qga (by
  obtain⟨v,rfl,t,l,rfl,ht,b⟩:=fF h;have e:VW (aB (f x))=Q9 xs.map f aB:=by rw[cq];rfl
  rw[e]at b;rw[pB b]at ht;exact Tt t Qc5 (q _ H RK (by rw[uy];rfl)))) hg QD QD a
def af9(d:RD)(i:X.mg "any"=none)(h:Ev X H0 O G e g (aL (VW (aB (f x)))))(hg:Gl X "any":=by rfl)(a:a_ [e] Qg=U2:=by rfl):XM (Z6 "any" [e]) (xs.any f):=
 sX (acK d) i af7 (xa h ao a) (Qga (by
  obtain⟨v,rfl,t,l,rfl,ht,b⟩:=fF h;have e:VW (aB (f x))=Q9 xs.map f aB:=by rw[cq];rfl
  rw[e]at b;rw[pB b]at ht;exact Tt t Qc5 (q _ H RK (by rw[List.any_map];rfl)))) hg QD QD a
structure ef(P:aO)(w:aA)(K:au)(mg:QQ)(base:Heap)(C:Addr):Prop where
 tm:Top mg
 sum:mg "sum"=none
 any:mg "any"=none
 range:mg TN=none
 rev:mg Ux=none
 tb:j4 K mg C
 has:gG P w K mg base C 1 Qd0 W_ (zT C)
 bA:gG P w K mg base C 1 "senses" [RR,"s"] (MA C)
 eqs:gG P w K mg base C 1 XO [RR,"s","t","x"] (ET C)
 we:gG P w K mg base C 2 "paired" [RR,"s","t","x","y"] (EU C)
end
def i3(C:Addr)(r:Bo->Nat->Nat->a6):Sp:=Su (Bo×Nat×Nat) (U8 [a8 C b,aI s,aI t]) (U8 (QE/\Q2/\aH b)) (U8 (r b s t))
def zU(h:u+64<bf):u+5<bf:=by omega
def tj(h:u+64<bf):u+9<bf:=by omega
def gI(h:n<=40):n<=bq:=by rw[bK];omega
abbrev EX:Stmt:=top 6
abbrev EY:Stmt:=top 7
abbrev EZ:Stmt:=top 8
section
variable{P:aO}{w:aA}{K:au}{mg:QQ}{base:Heap}{f C:Addr}{fd:b_}
def E1:aY [Qk,"s","t","x"] QX (aK EX):=QF
def aga(F:aP K QcB QcB EX f fd)(L:ef P w K mg base C):ay P w K mg base az 2 f fd QX (XF i3 C (bw (bg b s t))):=by
 refine R4 E1 (.n ag (.n ag (.u .e))) (λg A outer j H E⟨b,s,t⟩c⟨hs,ht,a⟩=>aU (ik (nm:="x") rfl E1.nd (cB Rp L.bA c (b,s) (Qe hs a) (aa 0) (xa (aa 1) ao)) Qw (gI (a.bc s hs)) (fc QB) (VB 3 E1.nd) (Qf6 (v9 (Et.eq (l7 (dZ Tq (cB Rp Xv c (b,s,t,x) ⟨hs,ht,hx,a⟩ (aa 0) (xa (aa 1) (xa (aa 2) (xa (aa 3) ao))))) ai) ?_))) (Qhn (aa 3))) (λv k d h=>Rw d));cases av b s t x<;>simp<;>omega
def E2:aY [Qk,"s","t","x"] QX (aK EY):=QF
def agb(F:aP K "gaps" "gaps" EY f fd)(L:ef P w K mg base C):ay P w K mg base az 2 f fd QX (XF i3 C (bw (yB b s t))):=by
 refine R4 E2 (.n ag (.n ag (.u .e))) (λg A outer j H E⟨b,s,t⟩c⟨hs,ht,a⟩=>aU (ik (nm:="x") rfl E2.nd (cB Rp L.bA c (b,s) (Qe hs a) (aa 0) (xa (aa 1) ao)) Qw (gI (a.bc s hs)) (fc QB) (VB 3 E2.nd) (Qf6 (v9 (Et.eq (bz (dZ Tq (cB Rp Xv c (b,s,t,x) ⟨hs,ht,hx,a⟩ (aa 0) (xa (aa 1) (xa (aa 2) (xa (aa 3) ao))))) ai) ?_))) (Qhn (aa 3))) (λv k d h=>Rw d));cases av b s t x<;>simp<;>omega
def E3:aY [Qk,"s","t","x"] QX (aK EZ):=QF
def agc(F:aP K Qe3 Qe3 EZ f fd)(L:ef P w K mg base C):ay P w K mg base az 2 f fd QX (XF i3 C (aI (QG (ae b s) (λx=>Qcl (av b s t x))).sum)):=R4 E3 (.n ag (.n ag (.u .e))) (λj A outer k H E⟨b,s,t⟩c⟨hs,ht,a⟩=>aU (EV rfl L.sum (Ev.eq (ik (nm:="x") (eA:=λx=>aI _) rfl E3.nd (cB Rp L.bA c (b,s) (Qe hs a) (aa 0) (xa (aa 1) ao)) Qw (gI (a.bc s hs)) (fc QB) (VB 3 E3.nd) (Qf6 jW) (Qhn (Ev.eq (dZ Tq (cB Rp Xv c (b,s,t,x) ⟨hs,ht,hx,a⟩ (aa 0) (xa (aa 1) (xa (aa 2) (xa (aa 3) ao))))) WE))) QgB)) (λv l d h=>Rw d))
abbrev E4:Stmt:=top 9
def shared(xs ys:QC):Nat:=Qx xs.filter (λu=>ys.contains u)
def E5:Sp:=el (λ(a,b)=>[bw a,bw b]) (λ(a,b)=>S7 a/\SS a/\SS b) (λ(a,b)=>aI (shared a b))
def agd:aY ["one",Vo] ["one",Vo] (aK E4):=QF
def lh(h:bC (toS x)=bC (toS y)):x=y:=j_ (lX h)
def E6(h:(bw xs).p H v):∃(t:Addr)(zs:List (Nk×Addr)),v= .ref t/\H t=some (.lst (zs.map λz=>V.ref z.2))/\(∀z∈zs,bV H z.1 z.2)/\zs.map (·.1)=xs.map λx=>bC (toS x):=by
 obtain⟨t,c,rfl,ht,a⟩:=h;suffices∃zs:List (Nk×Addr),c=(zs.map λz=>V.ref z.2)/\(∀z∈zs,bV H z.1 z.2)/\zs.map (·.1)=xs.map λx=>bC (toS x)by
  grind
 clear ht;induction xs generalizing c with
 |nil=>cases a;exact Rn [] Qj rfl
 |cons x xs d=>
  cases a with
  |cons r a=>
   obtain⟨zs,rfl,e,f⟩:=d _ a;obtain⟨p,rfl,hx⟩:=hE.mp r;refine Rn ((bC (toS x),p)::zs) (λz b=>?_) Qm;rcases RA b with rfl|b
   ·exact hx.key
   ·exact e z b
def age{xs:QC}(h:ks=VW (bC (toS x))):bC (toS x)∈ks↔x∈xs:=by
 subst h;rw[cQ];exact⟨λ⟨y,a,e⟩=>lh e▸a,λhx=>Sz x hx⟩
def MB{ks:UE}{xs:QC}(nd:ks.Nodup)(a:xs.Nodup)(c:∀k∈ks,∃x∈xs,k=bC (toS x))(d:YI (bC (toS x)∈ks)):QcV=Qu:=by
 have p:=(lr nd (We (a.imp (Wh (lh e))))).mpr (λk=>by
  grind)
 rw[p.length_eq,ak]
def agf(F:aP K QdK QdK E4 f fd)(T:Top mg):ay P w K mg base az 1 f fd ["one",Vo] E5:=by
 refine R4 agd (.o .e) (λcdv A outer sh H E⟨d,g⟩Z⟨nd,hx,hy⟩=>?_);have C:=Z.units;refine aU (cC (gA LA QB Wu gX (bb (ia (Lz (zU C)) (lT (vJ rfl (tj C)) QB T.set QcL (bb (pv 0) bh)) (lT (vJ rfl (tj C)) QB T.set QcL (bb (pv 1) bh))) bh)) (λD σ G Q c q=>?_)) (Qgd s');obtain⟨_,e1,v1,rfl,p⟩:=c.sl 0 _ rfl;obtain⟨_,e2,v2,rfl,I⟩:=c.sl 1 _ rfl;obtain⟨t1,M,rfl,l1,k1,m1⟩:=E6 p;obtain⟨t2,N,rfl,l2,k2,m2⟩:=E6 I;have n1:=by have:=YG m1;simpa using this
 have n2:=by have:=YG m2;simpa using this
 have kp:∀ {O D:Hp}(s:af O D){zs:List (Nk×Addr)},(U_ (bV O z.1 z.2))->U_ (bV D z.1 z.2):=λs _ h z R=>QY (h z R) (λb d e=>s _ _ e);refine⟨_,e1,t1,M,rfl,Q6 (c.same _ _ l1),kp R8 k1,Qa,λa l m r S=>?_⟩;have s1:=Qaz c (Qhb (fX w a l) RK m);refine⟨_,e2,t2,N,rfl,Q6 (s1 _ _ l2),kp s1 k2,Qa,λi J t U V=>?_⟩;have W:=cZ aC t;have X:∀ {y:List (Nk×Addr)}{z:List (Nk×Addr)}{n:Nat},(y.map _).Nodup->(∀k,k∈y.map (·.1)↔k∈z.map (·.1))->z.length<=n->y.length<=n:=λ{y z n}nd h R=>by
  have:=Qf3 (λk j=>(h k).mp j);rw[ak,ak]at this;omega
 refine⟨a,i,l,J,rfl,rfl,W,⟨by rw[ax W];exact r.at_,kp (TL t) r.key,r.nd⟩,U,X r.nd S Qa,X U.nd V Qa,λL B hp3 Y r3=>RF L B Y ?_⟩;refine q _ _ (Vu (Vu (TL m) ((TL m).free t)) ((Vu (TL m) ((TL m).free t)).free hp3)) ?_;have hlen:=by
  have:=MB (xs:=Sd d (λu=>Xb g u)) Y.nd (nd.sublist n6) (λk j=>?_) (Sv ?_)
  ·rw[ak]at this;exact this
  ·have j:=(r3 k).mp j;have p:=(S k).mp j.1;have I:=(V k).mp j.2;rw[m1,cQ]at p;obtain⟨x,hx,rfl⟩:=p;exact Sz x (eh.mpr ⟨hx,by rw[gj];exact(age m2).mp I⟩)
  ·grind
 rw[hlen];rfl
abbrev E7:Stmt:=top 10
abbrev E8:Stmt:=top 11
def qN(h:n<=40):n<bq:=by rw[bK];omega
def ft{a:Type}{l:VQ}{x}(h:l[k]?=Qz):Qx l.take k=k/\k<QT:=by
 grind
def nG(b:Bo)(s t:Nat)(x z:aw):Ri (aw×Nat):=let n:=Qx (av b s t x).filter (λy=>b6 b s t z y);if n=0 then none else Se z n
def E9(p:aw×Nat):a6:=aT [aI p.2,aX p.1]
end
def MC(C:Addr):Sp:=Su (Bo×Nat×Nat×aw) (ZV [a8 C b,aI s,aI t,aX x]) (ZV (QE/\Q2/\x∈ae b s/\aH b)) (ZV (SA (Vbdhaj.back b s t x) E9))
section
variable{P:aO}{w:aA}{K:au}{mg:QQ}{base:Heap}{f C:Addr}{fd:b_}
def agg{b:Bo}(a:aH b):shared xs (av b s t z)=Qx xs.filter (λy=>b6 b s t z y):=by
 unfold shared;congr 1
 apply jJ;intro y _;rw[gU,gj,d3 a]
def wg:aY [Qk,"s","t","x","own",Td,"z",Yo] [Qk,"s","t","x"] (aK E7):=QF
def agh(F:aP K Qe4 Qe4 E7 f fd)(L:ef P w K mg base C)(r:aE P w K mg base 1 QdK ["one",Vo] E5):ay P w K mg base az 2 f fd [Qk,"s","t","x"] (MC C):=by
 refine Us wg (ZV [.v Qb (a8 C b),Rr,RT,Xw,.u,.u,.u,.u]) (.n ag (.n ag (.n cK (.u (.u (.u (.u .e))))))) (λI A outer J H E⟨b,s,t,x⟩g⟨hs,ht,hx,a⟩=>bG 4 (cB Rp Xv g (b,s,t,x) ⟨hs,ht,hx,a⟩ (aa 0) (xa (aa 1) (xa (aa 2) (xa (aa 3) ao)))) wg.nd (ec 5 bj wg.nd (λq=>eP 6 (λk=>[.v Qb (a8 C b),Rr,RT,Xw,TX bw (av b s t x),.w q (QG (Zi (ae b s) (nG b s t x)) E9),.u,.u]) rfl (cB Rp L.bA g (b,s) (Qe hs a) (aa 0) (xa (aa 1) ao)) Qw (bS wg.nd rfl QK) RP (λM k z j=>?_) (by refine d9 5 (aU (aa 5) λv Q G h=>⟨G,?_⟩);rw[cp]at h;exact h))))
 ·have m:Qcu (ae b s) (nG b s t x)=Zi (ae b s) (nG b s t x)++TH (nG b s t x z):=by
   rw[Sm j,n9];cases h:nG b s t x z<;>simp[h]
  refine bG 7 (x_call r g (av b s t x,av b s t z) ⟨ee (a.l_ ht),a.hH ht,a.hH ht⟩ (xa (aa 4) (xa (cB Rp Xv g (b,s,t,z) ⟨hs,ht,bL j,a⟩ (aa 0) (xa (aa 1) (xa (aa 2) (xa (aa 6) ao)))) ao)) rfl) wg.nd ?_;have p:shared (av b s t x) (av b s t z)=Qx (av b s t x).filter (λy=>b6 b s t z y):=agg a;refine cW (l7 (aa 7) ai) Qeb Qeb
  ·have d:=Yz d;have l:nG b s t x z=Se z (shared (av b s t x) (av b s t z)):=by
    unfold nG;rw[<-p];exact Qa4
   refine fH 5 (l9 (xd (aa 7) (xd (aa 6) bj))) (c7 (bW (λD H c=>c.le (by rw[m,l,bO];repeat(first|exact .nil|refine .u ?_|refine .eq rfl ?_))))) (by have:=lu (nG b s t x) ((ae b s).take k);have N:=ft j;have O:=a.bc s hs;rw[ak];exact qN (by omega))
  ·have d:=Qbe d;have l:nG b s t x z=none:=by
    exact ZH
   refine c7 (bW (λD H c=>c.le ?_));rw[m,l,Option.toList_none,dR];repeat(first|exact .nil|refine .u ?_|refine .eq rfl ?_)
def MD:Sp:=Su (Nat×Nat) (λ(a,b)=>[aI a,aI b]) (RC True) (λ(a,b)=>aI (lD a b))
def zW:aY ["one",Vo,"rest"] ["one",Vo] (aK E8):=QF
def agi(F:aP K QeW QeW E8 f fd):ay P w K mg base az 1 f fd ["one",Vo] MD:=by
 refine QfZ zW _ (.n ag (.n ag (.u .e))) (λk A outer l H E⟨a,b⟩m _=>zQ (ι:={p:Nat×Nat//lD p.1 p.2=lD a b}) (λp=>[Ra p.1.1,Ra p.1.2,.u]) _ (λp=>p.1.2) (V' (a,b)) RP (λp=>l7 (aa 1) ai) (λp d=>?_) (λp d=>?_))
 ·have d:=Yz d;refine bG 2 (afJ (aa 0) (aa 1) d) zW.nd (bG 0 (aa 1) zW.nd (bG 1 (aa 2) zW.nd (bW (λo H c=>⟨Qe (p.1.2,p.1.1%p.1.2) (QH (Rx Nat.gcd_comm _ _ ((Nat.gcd_rec _ _).symm.trans (Nat.gcd_comm _ _))) p.2),xS _ Qa,c.le RP⟩))))
 ·have d:=Qbe d;refine aU (aa 0) (λv q i h=>Q_ i);have e:=by
   have j:p.1.2=0:=by omega
   have g:=p.2;rw[j,Nat.gcd_zero_right]at g;exact g
  rw[e]at h;exact h
def c8(x:aw):Nk:=bC (toS x)
def wh(k:Nk):a6:=Ya (∃t,v=VN/\bV H k t) (λs⟨t,e,h⟩=>Qh t e (QY h (λb a e=>s _ _ e)))
def agj:Lf (wh k):=λH v⟨t,e,h⟩=>Qh t e (QY h (λb a e=>vT e))
def Cz(h:(aX x).p H v):∃t,v=VN/\bV H (c8 x) t:=by
 obtain⟨t,rfl,a⟩:=hE.mp h;exact Ss t a.key
end
section
variable{X:Cx}{H0 Hb:Hp}{O:QZ}{G:QO}{e a b c o i:Expr}{g ga gb:Bool}{A:a6}{pos p:Pos}{k:Nk}{kvs:Xp}{n:Int}{x:Str}
def zX(y:RY+64<bf)(h:Ev X H0 O G o g (aD kvs))(hi:VY i A)(j:∀H v,A.p H v-> ∃t,v=VN/\bV H k t)(hv:cO kvs k=QaC n)(l:nh i:=by intro _ _;rfl):Sn (Vx o i) n:=cC (qv Qa a7 a7 l) (Qau (h Hb a H _ c (λv p s1 r=>hi Hb a p _ Q0 (λw s s2 u=>by
 have f:=VO;obtain⟨d,rfl,hd⟩:=(aD kvs).m (dM f.same) ((aD kvs).m (j7 s2) r);obtain⟨t,rfl,x⟩:=j _ _ u;refine RF d ZM (Qy ⟨kvs,k,t,hd,rfl,QY x (λb z e=>dM f.same _ _ e),hv.symm⟩) (q _ s Rt rfl)))))
def agk(j:Nat)(B:RY+64<bf)(hi:VY i A)(f:∀H v,A.p H v-> ∃t,v=VN/\bV H k t)(h:G[j]?=Rz .d q kvs:=by rfl)(l:X.N[j]?=Qz:=by rfl)(hv:kY Sg x:=by first|exact QK|exact eM QK|exact eM WL)(hd:SK=Qb:=by decide)
  (m:(x==Zv)=Qb:=by decide):Et X H0 O G (Qhf i [.NotIn] [Te]) (!(cO kvs k).isSome):=qI (ql (ac5 Qa a7 (oG l hv hd m)) QB) (λHb n H Q c r=>hi Hb n H _ c (λw o s1 s=>by
 have a:=Q0;obtain⟨u,y⟩:=a.Mv h;obtain⟨t,rfl,z⟩:=f _ _ s;exact⟨_,u,q,_,rfl,Qy ⟨kvs,k,t,Qq y,rfl,QY z (λb C e=>dM ZR _ _ e),rfl⟩,_,rfl,r o s1⟩))
end
def er(ks:UE):Xp:=ks.zipIdx.map (λp=>(p.1,Um (2^p.2:Nat)))
def lV{k:Nk}(h:k∉kvs.map (·.1)):putK kvs k v=kvs++[(k,v)]:=by
 refine Qs ?_;simpa using h
def ME(ks:UE):(er ks).map (·.1)=ks:=by
 unfold er;rw[cq];exact List.zipIdx_map_fst ..
def MF(ks:UE)(k:Nk):er (ks++[k])=er ks++[(k,Um (2^QcV:Nat))]:=by
 unfold er;rw[List.zipIdx_append,bO];simp
def MG(nd:ks.Nodup)(h:ks[i]?=XY):cO (er ks) k=QaC (2^i:Nat):=by
 have go:∀(ks:List Nk)n i,ks.Nodup->ks[i]?=XY->cO (Q9 ks.zipIdx n (λp=>(p.1,Um (2^p.2)))) k=QaC (2^(n+i)):=by
  intro ks;induction ks with
  |nil=>intro n i _ h;simp at h
  |cons a ks b=>
   intro n i nd h;rw[List.zipIdx_cons,cg];cases i with
   |zero=>simp at h;subst h;rw[S_ nc];rfl
   |succ i=>
    rw[nf (λe=>(gm.mp nd).1 Qm),b (n+1) i (gm.mp nd).2 Z9,show n+1+i=n+(i+1)by omega]
 simpa[er]using go ks 0 i nd h
abbrev zY:Stmt:=top 14
def MH:Sp:=el (λa=>[bw a]) (λa=>S7 a/\SS a) (λa=>aD (SN er a c8))
section
variable{P:aO}{w:aA}{K:au}{mg:QQ}{base:Heap}{f C:Addr}{fd:b_}
def agl{xs:QC}(h:xs.Nodup):S7 (Ti c8):=We (h.imp (Wh (lh e)))
def ma:aY ["things","bits","bit","thing"] QbJ (aK zY):=QF
def MI(i:Int):vg i 2:= Qy (Qe QD QD)
def agm(F:aP K QbQ QbQ zY f fd):ay P w K mg base az 1 f fd QbJ MH:=by
 refine R4 ma (.u (.u (.u .e))) (λs A outer t H E a j⟨nd,hl⟩=>sZ 1 ma.nd (λq=>bG 2 ai ma.nd (eP 3 (λk=>[.v Qb _,.d q (SN er Y2 c8),Ra (2^k:Nat),.u]) rfl (aa 0) Qaj (bS ma.nd rfl QK) RP (λz k x hx=>?_) (by refine v_ 1 (aU (aa 1) λv C r h=>⟨r,?_⟩);rw[cp]at h;exact h))))
 ·have ht:=ft hx;have l:c8 x∉((er ((a.take k).map c8)).map (·.1)):=by
   rw[ME];intro m;obtain⟨y,b,e⟩:=RM m;rw[lh e]at b;have g:=(nd.sublist (rr (k+1) a));rw[(WS)]at g;exact(je.mp g).2.2 x b x Qj rfl
  refine s_ 1 j.units (aa 3) QbW (aa 2) Yl (bG 2 (vY (aa 2) ai (MI _)) ma.nd (bW (λB H c=>c.le ?_))) ?_;rotate_left
  ·unfold er;rw[ak,List.length_zipIdx,ak,ht.1];exact qN Qa
  have n:putK (SN er Y2 c8) (c8 x) (Um (2^k:Nat))=SN er (YM a) c8:=by
   rw[lV l,(WS),bO,List.map_singleton,MF,ak,ht.1]
  have p:(2^k:Nat)*2=QW (2^(k+1):Nat):=by omega
  refine .eq rfl (.eq (by rw[n]) (.eq (by rw[<-p]) Ry))
end
end DL
namespace DL
open PySem PySem.Spec L2 NT AT
open PyProof.Rows hiding St
def E_{J:It}{g:TG}{tb:TS}{D:Ends}(a:Nat->ZT)(h0:a 0 σ H)(h:∀i σ H,i<n->a i σ H->J.go i H)(aq:∀σ H,a n σ H->J.stop n H)
  (hs:∀i σ H x H',i<n->a i σ H->J.jl i H x H'->g x σ H' (λb c=>tb {D with nx:=a (i+1),ct:=a (i+1),bk:=D.nx} b c))(hd:∀σ H,a n σ H->D.nx σ H):
  Qem ((∃m,W 0 m σ H)/\ ∀i m σ H,W i m σ H->(J.stop i H/\D.nx σ H)\/(J.go i H/\ ∃N,(∀d H',N d H'-> ∃f,f<m/\W (i+1) f d H')/\ ∀x H',J.jl i H x H'->g x σ H' (λb c=>tb QdC b c))):=by
 refine Qgk (m=n-i/\i<=n/\a i σ H) ⟨n,Qj,cG _,h0⟩;rintro i m σ H⟨rfl,hi,p⟩;by_cases e:i<n
 ·exact Qy ⟨h i σ H e p,a (i+1),λd H' j=>RF (n-(i+1)) Qa e j,λx H' y=>hs i σ H x H' e p y⟩
 ·grind
def aF(kvs:Xp):a6:=Ya (∃d o,v=WY/\H d=Uc (.dT kvs)) (λs⟨d,o,e,h⟩=>⟨d,o,e,s _ _ h⟩)
def MJ(h:(aF kvs).p H v):(aD kvs).p H v:=by
 obtain⟨d,o,e,h⟩:=h;exact Qh d e (Qy (Rw o))
section
variable{X:Cx}{H0 Hb:Hp}{O:QZ}{G:QO}{g:Bool}{A:a6}{pos p p':Pos}{D:Ends}{ss body:US}
def zZ(n:Nat)(L T:Nat->QO){tg g}(q:RD)(hi:PI X tg g l)(ht:PG X tg m)
  (r:∀σ H R,Cf H0 Hb O G σ H->(∀J b,af H b->(∀k a H',k<n->Cf H0 (bs H0 O b) O (L k) a H'->J.go k H'/\ ∀x e,J.jl k H' x e-> ∀Q,(∀h i,Cf H0 (bs H0 O b) O (T k) h i->Q h i)->m x a e Q)->(∀a H',Cf H0 (bs H0 O b) O (L n) a H'->J.stop n H')->R J b)->l σ H R)
  (h0:ff G (L 0))(s:∀j k,k<n->Bl X H0 j O (T k) body Qgp)(t:Bl X H0 Hb O (L n) ss D)
  (hs:∀x,eB g Qg x=Ul:=by intro _;rfl)(u:fQ (aV Qr X.w) X.A Qg Q3:=by exact eN):Bl X H0 Hb O G (.For tg g body [] pos::ss) D:=
 dA (h_ u q hi ht fZ hs) (Vv (r σ H _ c (λJ b s1 o aq=>by
  have p:=Q0;exact E_ _ (p.sR.le h0) (λk a H' f d=>(o k a H' f d).1) aq (λk a H' x e f d y=>(o k a H' f d).2 x e y _ (λh i v=>s _ k f _ _ v)) (λa H' d=>t _ _ (d.sn p.snap)))))
def tp(c:Cf H0 Hb O G σ H)(h:A.p (gh g H0 O H) v)(q:∀a b,Cf H0 Hb O (S8 (.v g A)) a b->Q a b):fo i v σ H Q:=q _ _ (c.set h)
def E'(i:Nat)(L:Nat->QO)(p:RD)(hi:Ev X H0 O G l g (aF kvs))(ht:PG X tg (fo i))(h0:ff G (L 0))
  (E:∀f k h w,kvs[k]?=Se h w->Bl X H0 f O ((L k).set i (TX wh h)) body {D with nx:=Cf H0 f O (L (k+1)),ct:=Cf H0 f O (L (k+1)),bk:=wB X ss D})(s:Bl X H0 Hb O (L Ta) ss D)
  (hs:∀x,eB l Qg x=Ul:=by intro _;rfl)(u:fQ (aV Qr X.w) X.A Qg Q3:=by exact eN):Bl X H0 Hb O G (.For tg l body [] pos::ss) D:=
 zZ _ L (λk=>(L k).set i (TX wh (kvs.getD k (.nil,.a9)).1)) p (adl a7) ht (λz H R c q=>hi Hb z H _ c (λv m s1 A=>by
  obtain⟨d,o,rfl,hd⟩:=A;have e_:∀ {k:Nat}{j:St}{b:Hp},Cf H0 (bs H0 O m) O (L k) j b->b d=Uc (.dT kvs):=λ{k j b}a=>by
   cases g with
   |true=>exact l5 ZR _ _ (a.snap _ _ hd)
   |false=>exact a.same _ _ hd
  refine Wb d o (Qy ⟨kvs,eI Q0 hd,q _ m s1 (λk j b n a=>Qe (Qe (e_ a) n) (λx F y Q r=>?_)) (λj b a=>⟨e_ a,aQ _⟩)⟩);obtain⟨rfl,h,w,t,I,rfl,C⟩:=y;have e:(kvs.getD k (.nil,.a9)).1=h:=by grind
  rw[e]at r;exact tp a (a.Mh agj (Ss t C)) r)) h0 (λf k n=>by
  grind) s hs u
def agn{n:Nat}(i:Nat)(L:Nat->QO)(h:RD)(j:X.mg TN=none)(l:Sn e n)(m:Y9<2^62)(ht:PG X tg (fo i))(h0:ff G (L 0))
  (o:∀a k,k<n->Bl X H0 a O ((L k).set i (Ra k)) body {D with nx:=Cf H0 a O (L (k+1)),ct:=Cf H0 a O (L (k+1)),bk:=wB X ss D})(s:Bl X H0 Hb O (L n) ss D)(hg:Gl X TN:=by rfl)(d:a_ [e] Qg=U2:=by rfl)
  (hs:∀x,eB (XG TN [e] p') Qg x=Ul:=by intro _;rfl)(t:fQ (aV Qr X.w) X.A Qg Q3:=by exact eN):Bl X H0 Hb O G (.For tg (XG TN [e] p') body [] pos::ss) D:=
 zZ n L _ h (JA hg j i0 d) ht (λu H R c q=>xa l ao d Hb u H _ c (λF w s1 z=>by
  obtain⟨v,rfl,b⟩:=fF z;subst b;refine⟨n,rfl,Qa,m,q _ w s1 (λk B C E f=>⟨by show k<(n:Int).toNat;simpa using E,λx I y Q r=>?_⟩) (λB C f=>by show(n:Int).toNat<=n;simp)⟩;obtain⟨rfl,rfl⟩:=y;exact tp f (by show V.int _= .int k;rw[Int.zero_add]) r)) h0 o s hs t
def MK{u:Type}{xs:QR u}{fA}(i:Nat)(L:Nat->QO)(K:RD)(M:X.mg Ux=none)(N:Ev X H0 O G e g (aL Qag))(P:gi=g\/(Qv gi/\ ∀x,Lf (fA x)))(ht:PG X tg (fo i))(h0:ff G (L 0))
  (hb:∀h k x,xs.reverse[k]?=Qz->Bl X H0 h O ((L k).set i (.v gi (fA x))) body {D with nx:=Cf H0 h O (L (k+1)),ct:=Cf H0 h O (L (k+1)),bk:=wB X ss D})(n:Bl X H0 Hb O (L Qu) ss D)(hg:Gl X Ux:=by rfl)(w:a_ [e] Qg=U2:=by rfl)
  (hs:∀x,eB (XG Ux [e] p') Qg x=Ul:=by intro _;rfl)(S:fQ (aV Qr X.w) X.A Qg Q3:=by exact eN):Bl X H0 Hb O G (.For tg (XG Ux [e] p') body [] pos::ss) D:=
 zZ _ L (λk=>match xs.reverse[k]? with|some x=>(L k).set i (.v gi (fA x))|none=>[]) K (adf hg M (bb a7 bh w) w) ht (λT H R c q=>N Hb T H _ c (λv z s1 U=>by
  obtain⟨t,d,rfl,hv,B⟩:=U;have W:WZ=Qu:=by rw[bQ B,ak]
  have e_:∀ {k:Nat}{j:St}{f:Hp},Cf H0 (bs H0 O z) O (L k) j f->f t=RZ d:=λ{k j f}b=>by
   cases g with
   |true=>exact l5 b.same _ _ (b.snap _ _ hv)
   |false=>exact b.same _ _ hv
  refine RF t d (Q6 (eI Q0 hv)) ?_;rw[W];refine q _ z s1 (λk j f C b=>?_) (λj f b=>aQ _);obtain⟨y,o⟩:∃y,d[xs.length- 1- k]?=V7:=⟨d[xs.length- 1- k]'(by omega),cN _⟩;refine Qe ⟨C,d,y,Q6 (e_ b),o⟩ (λx Y s Q r=>?_);obtain⟨rfl,s⟩:=s;have E:=s d (Q6 (e_ b));rw[o]at E;cases E;obtain⟨a,n⟩:∃a,xs[xs.length- 1- k]?=Zb:=⟨xs[xs.length- 1- k]'(by omega),cN _⟩;rw[(BO Qa),n]at r;obtain⟨y',F,I⟩:=YF i1 B (Qu-1-k) (fA a);rw[o]at F;cases F;have J:(fA a).p (gh g H0 O Y) y:=by
   cases g with
   |true=>exact(fA a).m b.snap I
   |false=>exact I
  refine tp b ?_ r;rcases P with rfl|⟨rfl,l⟩
  ·exact J
  ·exact b.lift (l a) J)) h0 (λh k C=>by
  grind) n hs S
end
end DL
namespace DL
open PySem
def il(is:QU):Nat:=(is.map (λi=>2^i)).sum
def ML:∀n a b,a<=n->a&&&b=0->a+b=a|||b:=by
 intro n;induction n with
 |zero=>grind
 |succ n i=>
  intro a b m h;by_cases j:a=0
  ·subst j;simp
  have l:=i (a/2) (b/2) Qa (by rw[<-Nat.and_div_two,h]);rw[<-Nat.or_div_two]at l;have g:YK (a|||b) 0=(YK a 0||YK b 0):=B6 ..;have f:YK (a&&&b) 0=(YK a 0&&YK b 0):=xP ..;rw[h]at f;have c:=uB a;have d:=uB b;have e:=uB (a|||b);rcases c with c|c<;>rcases d with d|d<;>rcases e with e|e<;>simp[e]at g f<;>omega
def tq:∀ {is:List Nat},is.Nodup-> ∀j,YK (il is) j=Ur j is
 |[],_,j=>by simp[il]
 |i::is,nd,j=>by
  have b:=tq (gm.mp nd).2
  have e:il (i::is)=2^i+il is:=by simp[il]
  have c:2^i+il is=2^i|||il is:=by
   refine ML _ _ _ (aQ _) (uC QbN);by_cases f:k=i
   ·grind
   ·grind
  rw[e,c,B6,b j];by_cases d:j=i
  ·subst d;simp
  ·grind
def MM(a b:Nat):qc a b=(a&&&b):=by
 rfl
def MN(a b:Nat):uT a b=(a|||b):=by
 unfold uT qc;have d:∀n:Nat,QV (0<=uS n)=Qb:=λn=>TK (by unfold uS;omega);have c:∀n,uS (uS n)=n:=λn=>by unfold uS;omega
 rw[d,d];rw[c,c,c];rfl
def ago(n1:is.Nodup)(n2:a.Nodup):(il is&&&il a≠0)↔ ∃i∈is,i∈a:=by
 constructor
 ·intro h;obtain⟨i,hi⟩:=Nat.exists_testBit_of_ne_zero h;rw[xP,tq n1,tq n2,bX,decide_eq_true_eq,decide_eq_true_eq]at hi;exact Qe i hi
 ·rintro⟨i,b,c⟩h;have:Qbn (il is&&&il a) i:=by rw[xP,tq n1,tq n2];simp[b,c]
  rw[h,B4]at this;cases this
end DL
namespace DL
open PySem PySem.Spec L2 NT AT
open PyProof.Rows hiding St
open Vbdhaj(Sense sensesOf equals paired less lessText members)
def i4(ys zs:QC):Nat:=il (Yc (ys.idxOf z))
def ew(b:Bo)(s c:Nat)(xs:QC):Xp:=VW (c8 x,Um (i4 (ae b c) (av b s c x)))
abbrev Fb:Stmt:=top 15
section
variable{P:aO}{w:aA}{K:au}{mg:QQ}{base:Heap}{f C:Addr}{fd:b_}
def z_{ys:QC}(h:z∈ys):ys[ys.idxOf z]?=Qc z:=by
 grind
def agp{ys:QC}(nd:ys.Nodup)(h:z∈ys):cO (er (XZ c8)) (c8 z)=QaC (2^ys.idxOf z:Nat):=
 MG (agl nd) Qm
def sum_nat{b:Type}(f:b->Nat):∀l:List b,Qdt (λx=>QW (f x))=(Qdt f)
 |[]=>rfl
 |a::l=>by rw[cg,BW,sum_nat f l,cg,BW,Int.natCast_add]
def agq(b:Bo)(s c:Nat)(xs:QC):(ew b s c xs).map (·.1)=xs.map c8:=by unfold ew;rw[cq];rfl
def MO(h:x∈xs):cO (ew b s c xs) (c8 x)=QaC (i4 (ae b c) (av b s c x)):=by
 unfold ew;induction xs with
 |nil=>simp at h
 |cons y xs a=>
  rw[cg];by_cases e:y=x
  ·subst e;rw[S_ nc]
  ·rw[nf (λz=>e (lh z))];exact a (Qdj (RA h) (λz=>e z.symm))
def agr{xs:QC}(nd:xs.Nodup)(hx:V4=Qz):x∉xs.take k:=λb=>by
 have a:=(nd.sublist (rr (k+1) xs));rw[(WS)]at a;exact(je.mp a).2.2 x b x Qj rfl
def tu:aY [Qk,"s","c","bits",Td,"x","z"] (Y_ "c") (aK Fb):=QF
def ags(F:aP K QeP QeP Fb f fd)(L:ef P w K mg base C)(t:aE P w K mg base 1 QbQ QbJ MH):ay P w K mg base az 2 f fd (Y_ "c") (i3 C (λb s c=>aD (ew b s c (ae b s)))):=by
 refine Us tu (λ(b,s,c)=>[.v Qb (a8 C b),Rr,Ra c,.u,.u,.u,.u]) (.n ag (.n ag (.u (.u (.u (.u .e)))))) (λO A outer Q H E⟨b,s,c⟩j⟨hs,l,a⟩=>?_);have m:=a.EN l;refine bG 3 (Qas t j (ae b c) ⟨m,a.bc c l⟩ (cB Rp L.bA j (b,c) (Qe l a) (aa 0) (xa (aa 2) ao)) ao) tu.nd ?_;refine sZ 4 tu.nd Wk;refine eP 5 (λk=>[.v Qb (a8 C b),Rr,Ra c,TX aD (SN er (ae b c) c8),.d q (ew b s c (T8 (ae b s))),.u,.u]) rfl (cB Rp L.bA j (b,s) (Qe hs a) (aa 0) (xa (aa 1) ao)) Qw (bS tu.nd rfl QK) RP (λR k x hx=>?_) ?_
 ·have ht:=ft hx;have G:=bL hx;refine s_ 4 j.units (aa 5) QbW (B:=aI (i4 (ae b c) (av b s c x))) ?_ Yl (bW (λS H I=>I.le ?_)) ?_
  ·refine Ev.eq (EV (xs:=av b s c x) (f:=λz=>(2^(ae b c).idxOf z:Nat)) rfl L.sum (Ev.eq (ik (nm:="z") rfl tu.nd (cB Rp Xv j (b,s,c,x) ⟨hs,l,G,a⟩ (aa 0) (xa (aa 1) (xa (aa 2) (xa (aa 5) ao)))) Qw (gI (a.hH l)) (fc QB) (VB 6 tu.nd) (λz p D _ _ _ _ _=>jW) (λz p _ D _ _ _ _ _=>zX j.units (aa 3) (aa 6) QbW (agp m (YO p)))) ?_)) ?_
   ·rw[(Zc)]
   ·rw[sum_nat];unfold i4 il;rw[cq];rfl
  ·have J:putK (ew b s c (T8 (ae b s))) (c8 x) (Um (i4 (ae b c) (av b s c x)))=ew b s c (YM (ae b s)):=by
    rw[lV ?_,(WS)]
    ·unfold ew;rw[bO];rfl
    ·rw[agq];intro M;obtain⟨y,r,e⟩:=RM M;rw[lh e]at r;exact agr (a.EN hs) hx r
   refine .eq rfl (.eq rfl (.eq rfl (.eq rfl (.eq (by rw[J]) (.u Ry)))))
  ·unfold ew;rw[ak,ht.1];have:=a.bc s hs;exact qN Qa
 ·refine v_ 4 (aU (aa 4) (λv T N h=>Q_ N));rw[cp]at h;exact h
end
def agt(h:gv X j t):gv X j (ada t):=by
 intro k s l H D I g;obtain⟨d,u,hd,c,g⟩:=g;obtain⟨m,n⟩:=I.lock hd c;refine aR (h k s l _ _ n (g m)) QgZ;cases f with
 |next=>obtain⟨a,i,b,e,q⟩:=q;exact⟨a,_,b.unlock e (I.y_ hd c),q⟩
 |brk=>obtain⟨a,i,b,e,q⟩:=q;exact⟨a,_,b.unlock e (I.y_ hd c),q⟩
 |cont=>obtain⟨a,i,b,e,q⟩:=q;exact⟨a,_,b.unlock e (I.y_ hd c),q⟩
 |ret v=>obtain⟨x,a,i,b,r,e,q⟩:=q;exact⟨x,a,_,b.unlock e (I.y_ hd c),r,q⟩
section
variable{X:Cx}{ss:US}{D D':Ends}{σ:St}{H H0:Hp}
def MP(h:wB X ss ⟨Tx,D'.rt,Tx,Tx⟩ σ H)(q:∀v H',D'.rt v H'->D.rt v H'):wB X ss D σ H:=λc s I=>aR (h c s I) (λf s1 r=>by
 cases f with
 |next=>obtain⟨a,H',b,r⟩:=r;exact r.elim
 |brk=>obtain⟨a,H',b,r⟩:=r;exact r.elim
 |cont=>obtain⟨a,H',b,r⟩:=r;exact r.elim
 |ret v=>obtain⟨x,a,H',b,d,r⟩:=r;exact⟨x,a,H',b,d,q _ _ r⟩)
def Aa(h:Rd H d (.dT k)){Pr:Hp->TJ V}(q:∀a,(∀b,b≠d->a b=H b)->(∃c,a d=XA c (.dT k))->wB X ss ⟨Tx,λv H'=>af a H'/\Pr a v H',Tx,Tx⟩ σ a)
  (j:∀a v H' f,(∀b,b≠d->a b=H b)->(∃c,a d=XA c (.dT k))->af a H'->Pr a v H'->(∀b,b≠d->f b=H' b)->f d=H d->D.rt v f):wB X ss D σ H:=by
 rcases h with h|⟨o,h⟩
 ·refine λl s I=>agt fZ l s σ H D I ⟨d,_,h,RQ,Qee⟩;have hl:∀b,b≠d->upd H d (.gr c (.dT k)) b=H b:=λb g=>ax g;exact MP (D':=⟨Tx,λv H'=>af _ H'/\Pr _ v H',Tx,Tx⟩) (q _ hl (Qe c aC)) (λv H'⟨e,i⟩=>⟨e _ _ aC,j _ v H' _ hl (Qe c aC) e i (λb g=>ax g) (by rw[aC,h])⟩)
 ·exact MP (D':=⟨Tx,λv H'=>af H H'/\Pr H v H',Tx,Tx⟩) (q H Uy (Rw o)) (λv H'⟨e,i⟩=>j H v H' H' Uy (Rw o) e i Uy (by rw[h,e _ _ h]))
abbrev Fc:Stmt:=top 16
abbrev Fd:Stmt:=top 17
def gJ(b:Bo)(s t c:Nat)(x y:aw):Bool:=!b6 b s t x y&&((av b s c x).any (λu=>b6 b t c y u))
def ip(b:Bo)(s t c:Nat):XW:=RW (ae b s) (λx=>Uo (ae b t) (gJ b s t c x) X0)
def md(s t:Nat)(p:aw×aw):a6:=aT [aI s,aI t,aX p.1,aX p.2]
def MQ(C:Addr):Sp:=Su (Bo×Nat×Nat×Nat) (λ(b,s,c,t)=>[a8 C b,aI s,aI c,aI t]) (λ(b,s,c,t)=>QE/\To c/\Q2/\aH b) (λ(b,s,c,t)=>SA (ip b s t c) (md s t))
end
section
variable{P:aO}{w:aA}{K:au}{mg:QQ}{base:Heap}{f C:Addr}{fd:b_}
def Ab(h:(wh (c8 x)).p H v):(aX x).p H v:=by
 obtain⟨t,rfl,h⟩:=h;exact hE.mpr (Ss t (d7.of h))
def MR{ys zs:QC}(nd:zs.Nodup)(h:U_ (z∈ys)):S7 (Yc (ys.idxOf z)):=by
 refine We (uA (λ{a c}d f g e=>g ?_) nd);have b:=z_ (h a d);rw[e,z_ (h c f)]at b;exact(gn b).symm
def agu{b:Bo}(a:aH b)(f:To c):(!decide (qc (i4 (ae b c) (av b s c x)) (i4 (ae b c) (av b t c y))=0))=(av b s c x).any (λu=>b6 b t c y u):=by
 have sub:∀s x,∀z∈av b s c x,z∈ae b c:=λs x z h=>YO h;rw[MM,gU,pM,decide_eq_false_iff_not,kv];have j:¬(((i4 (ae b c) (av b s c x)&&&i4 (ae b c) (av b t c y)):Int)=0)↔(i4 (ae b c) (av b s c x)&&&i4 (ae b c) (av b t c y))≠0:=by omega
 rw[j];unfold i4;rw[(ago (MR (ee (a.l_ f)) (sub s x)) (MR (ee (a.l_ f)) (sub t y)))];constructor
 ·rintro⟨i,k,l⟩;obtain⟨u,d,rfl⟩:=RM k;obtain⟨v,hv,e⟩:=RM l;have g:=z_ (sub t y v hv);rw[e,z_ (sub s x u d)]at g;exact Qh u d ((d3 a).mp ((gn g)▸hv))
 ·rintro⟨u,d,n⟩;exact⟨_,XH u d,Qbt u ((d3 a).mpr n)⟩
def tw:aY [Qk,"s","c","t",ZC,Zy,Td,"x","y"] [Qk,"s","c","t"] (aK Fc):=QF
def MS(h:Rd (bs H0 [] H) d (.dT k)):H0 d=none/\Rd H d (.dT k):=by
 have f:∀ {o:HO},QJ vU o->bs H0 [] H d=Qi->H0 d=none/\H d=Qi:=λ{o}a e=>by
  rcases j6 (qF e).2 with h|⟨b,rfl,_⟩
  ·exact h
  ·cases a
 rcases h with h|⟨o,h⟩
 ·exact Qe (f rfl h).1 (Qq (f rfl h).2)
 ·exact Qe (f rfl h).1 (Qy (Qe o (f rfl h).2))
def agv(F:aP K Qfk Qfk Fc f fd)(L:ef P w K mg base C)(C1:aE P w K mg base 2 QeP (Y_ "c") (i3 C (λb s c=>aD (ew b s c (ae b s))))):ay P w K mg base az 3 f fd [Qk,"s","c","t"] (MQ C):=by
 refine Us tw (λ(b,s,c,t)=>[.v Qb (a8 C b),Rr,Ra c,RT,.u,.u,.u,.u,.u]) (.n ag (.n ag (.n ag (.u (.u (.u (.u (.u .e)))))))) (λcdv A outer sh H E⟨b,s,c,t⟩U⟨hs,hc,ht,Q⟩=>?_);refine bG 4 (Xd C1 U (b,s,c) hs hc Q (xa (aa 1) (xa (aa 2) ao))) tw.nd ?_;refine bG 5 (Xd C1 U (b,t,c) ht hc Q (xa (aa 3) (xa (aa 2) ao))) tw.nd ?_;intro N H2 G;obtain⟨_,e0,v0,rfl,h0⟩:=G.sl 0 _ rfl;obtain⟨_,R,v1,rfl,h1⟩:=G.sl 1 _ rfl;obtain⟨_,e2,v2,rfl,h2⟩:=G.sl 2 _ rfl;obtain⟨_,e3,v3,rfl,h3⟩:=G.sl 3 _ rfl;obtain⟨_,e4,v4,rfl,S,rfl,r⟩:=G.sl 4 _ rfl;obtain⟨_,e5,v5,rfl,T,rfl,a⟩:=G.sl 5 _ rfl;obtain⟨n1,r⟩:=MS r;obtain⟨n2,a⟩:=MS a;have hlen:=G.len;have same:=G.same;have back:∀ {Ha g B I:Hp}{d:Addr}{v:V},(∃od k,g d=XA od (.dT k))->(∀b,b≠d->g b=Ha b)->af g B->(SA (ip b s t c) (md s t)).p (cut g B) v->(∀b,b≠d->I b=B b)->af Ha I->(SA (ip b s t c) (md s t)).p (cut Ha I) v:=λ{Ha g B I d v}D hl sl W J M=>by
  obtain⟨od,k,D⟩:=D;refine a6.m _ Qfp W;rcases j6 e with⟨g1,g2⟩|⟨xs,rfl,g1⟩
  ·have hx:x≠d:=λz=>by rw[z,D]at g1;cases g1
   rw[eG (by rw[<-hl x hx];exact g1),J x hx];exact g2
  ·have hx:x≠d:=λz=>by rw[z,D]at g1;cases g1
   exact k7 M (by rw[J x hx];exact sl _ _ g1)
 refine Aa r (Pr:=λg v B=>(SA (ip b s t c) (md s t)).p (cut g B) v) (λg hl⟨od1,f1⟩=>?_) (λg v B I hl D sl W J hd=>?_);rotate_left
 ·have M:af H2 I:=λx o e=>by
   by_cases hx:x=S
   ·rw[hx,hd,<-hx];exact e
   ·rw[J x hx];exact sl _ _ (by rw[hl x hx];exact e)
  exact⟨same.trans M,a6.m _ (Md same M) (back (Qh D.choose _ D.choose_spec) hl sl W J M)⟩
 have r2':Rd g T (.dT (ew b t c (ae b t))):=by
  by_cases hd:T=S
  ·subst hd;refine Qy (Q_ od1);rw[f1];rcases r with r|⟨o1,r⟩<;>rcases a with a|⟨o2,a⟩<;>rw[r]at a<;>injection a with a<;>first|(injection a with a;rw[a])|(injection a with _ a;injection a with a;rw[a])|cases a
  ·rcases a with a|⟨o2,a⟩
   ·exact Qq (by rw[hl _ hd];exact a)
   ·exact WA o2 (by rw[hl _ hd];exact a)
 refine Aa r2' (Pr:=λg v B=>(SA (ip b s t c) (md s t)).p (cut g B) v) (λO X⟨od2,f2⟩=>?_) (λO v B I X D sl W J hd=>?_);rotate_left
 ·have M:af g I:=λx o e=>by
   by_cases hx:x=T
   ·rw[hx,hd,<-hx];exact e
   ·rw[J x hx];exact sl _ _ (by rw[X x hx];exact e)
  exact Qe M (back (Qh D.choose _ D.choose_spec) X sl W J M)
 have g1:∃o,O S=Uc (.dT (ew b s c (ae b s))):=by
  by_cases hd:S=T
  ·subst hd;refine Q_ od2;rw[f2];rcases r with r|⟨o1,r⟩<;>rcases a with a|⟨o2,a⟩<;>rw[r]at a<;>injection a with a<;>first|(injection a with a;rw[a])|(injection a with _ a;injection a with a;rw[a])|cases a
  ·grind
 obtain⟨o1,g1⟩:=g1;have s0:af H O:=λx o e=>by
  have hx1:x≠S:=λz=>by rw[z,n1]at e;cases e
  have hx2:x≠T:=λz=>by rw[z,n2]at e;cases e
  rw[X x hx2,hl x hx1];exact same _ _ e
 have cm:Cf O Tb [] [.v Qb (a8 C b),Rr,Ra c,RT,.v Qb (aF (ew b s c (ae b s))),.v Qb (aF (ew b t c (ae b t))),.u,.u,.u] N O:=by
  refine⟨RK,(Q4 QbI),λq hq=>(by simp at hq),by rw[<-hlen];rfl,λi sl hi=>?_,λi j q hi Y=>?_,jf⟩
  ·match i,hi with
   |0,hi=>cases hi;exact Rl _ e0 _ ((a8 C b).m s0 h0)
   |1,hi=>cases hi;exact Rl _ R _ h1
   |2,hi=>cases hi;exact Rl _ e2 _ h2
   |3,hi=>cases hi;exact Rl _ e3 _ h3
   |4,hi=>cases hi;exact⟨_,e4,_,rfl,S,o1,rfl,g1⟩
   |5,hi=>cases hi;exact⟨_,e5,_,rfl,T,od2,rfl,f2⟩
   |n+6,hi=>
    have:n+6<9:=Ub hi;obtain⟨y,Z⟩:∃y,N[n+6]?=V7:=⟨N[n+6]'(by rw[<-hlen];exact this),cN _⟩;refine Rv y Z;match n,hi with
    |0,hi=>cases hi;trivial
    |1,hi=>cases hi;trivial
    |2,hi=>cases hi;trivial
    |n+3,_=>omega
  ·match i,hi with
   |0,hi=>cases hi
   |1,hi=>cases hi
   |2,hi=>cases hi
   |3,hi=>cases hi
   |4,hi=>cases hi
   |5,hi=>cases hi
   |6,hi=>cases hi
   |7,hi=>cases hi
   |8,hi=>cases hi
   |n+9,hi=>cases hi
 refine(?_:Bl _ O Tb [] _ _ _) N O cm;clear cm g1 f2 s0 X r2' f1 hl e0 R e2 e3 e4 e5 h0 h1 h2 h3 r a;refine ec 6 bj tw.nd Wk;have bc:=Q.bc s hs;have few2:=Q.bc t ht;have lenR:∀x(l:List aw),QP (Uo l (gJ b s t c x) X0) QT:=λx l=>Qm
 have lenL:∀l:List aw,YB l (λx=>Uo (ae b t) (gJ b s t c x) X0)<=40*QT:=by
  intro l;induction l with
  |nil=>simp
  |cons x l ih=>
   grind
 refine E' 7 (λk=>[.v Qb (a8 C b),Rr,Ra c,RT,.v Qb (aF (ew b s c (ae b s))),.v Qb (aF (ew b t c (ae b t))),.w q (Q9 (T8 (ae b s)).flatMap (λx=>Uo (ae b t) (gJ b s t c x) X0) (md s t)),.u,.u]) rfl (aa 4) (bS tw.nd rfl QK) RP (λHs k kx w0 hk=>?_) ?_
 ·obtain⟨x,hx,hkx⟩:∃x,(ae b s)[k]?=Qz/\kx=c8 x:=by
   unfold ew at hk;rw[cY]at hk;cases e:(ae b s)[k]? with
   |none=>rw[e]at hk;cases hk
   |some x=>grind
  subst hkx;have hxm:=bL hx;have htx:=ft hx;refine E' 8 (λj=>[.v Qb (a8 C b),Rr,Ra c,RT,.v Qb (aF (ew b s c (ae b s))),.v Qb (aF (ew b t c (ae b t))),.w q (QG (RW (T8 (ae b s)) (λx=>Uo (ae b t) (gJ b s t c x) X0)++Uo (Rf (ae b t) j) (gJ b s t c x) X0) (md s t)),TX wh (c8 x),.u]) rfl (aa 5) (bS tw.nd rfl QK) ?_ (λHs j ky w1 Y=>?_) ?_
  ·rw[rA,List.filter_nil,jg,dR];repeat(first|exact .nil|refine .u ?_|refine .eq rfl ?_)
  ·obtain⟨y,Z,hky⟩:∃y,(ae b t)[j]?=V7/\ky=c8 y:=by
    unfold ew at Y;rw[cY]at Y;cases e:(ae b t)[j]? with
    |none=>rw[e]at Y;cases Y
    |some x=>grind
   subst hky;have hym:=bL Z;have hty:=ft Z;have tk:Sd (Qdp (ae b t) j) (gJ b s t c x)=Sd (Rf (ae b t) j) (gJ b s t c x)++if gJ b s t c x y=true then [y]else []:=by
    rw[Sm Z,n_,jK];rfl
   have eL:gJ b s t c x y=((!decide (qc (i4 (ae b c) (av b s c x)) (i4 (ae b c) (av b t c y))=0))&&!b6 b s t x y):=by
    rw[agu Q hc,BJ];rfl
   refine cW (k:=gJ b s t c x y) ?_ (λhp=>?_) (λhp=>?_)
   ·rw[eL];refine l8 (nz (vZ (Mn (zX U.units (Vc (aa 4) MJ) (aa 7) Yl (MO hxm)) (zX U.units (Vc (aa 5) MJ) (aa 8) Yl (MO hym))) ai) (λ_=>v8 (v7 (f6 (cB Rp L.we U (b,s,t,x,y) (Qh hs ht Q) (aa 0) (xa (aa 1) (xa (aa 3) (xa (Vc (aa 7) Ab) (xa (Vc (aa 8) Ab) ao)))))))))
   ·refine fH 6 (l9 (xd (aa 1) (xd (aa 3) (xd (Vc (aa 7) Ab) (xd (Vc (aa 8) Ab) bj))))) (c7 (bW (λN H c'=>c'.le ?_))) ?_
    ·refine .eq rfl (.eq rfl (.eq rfl (.eq rfl (.eq rfl (.eq rfl (.eq ?_ (.eq rfl Ry)))))));rw[tk,hp,(SX)];simp[md]
    ·rw[ak,b0];have h1:=lenL (T8 (ae b s));have h2:=lenR x (Rf (ae b t) j);rw[bK];omega
   ·refine c7 (bW (λN H c'=>c'.le ?_));rw[tk,hp,(Xm),dR];repeat(first|exact .nil|refine .u ?_|refine .eq rfl ?_)
  ·refine bW (λN H c'=>c'.le ?_);have R:Qn (ew b t c (ae b t))=U6 b t:=by unfold ew;rw[ak]
   rw[R,cp,(WS),ly];rw[show(RW [x] (λx=>Uo (ae b t) (gJ b s t c x) X0))=Uo (ae b t) (gJ b s t c x) X0 by simp];repeat(first|exact .nil|refine .u ?_|refine .eq rfl ?_)
 ·refine d9 6 (aU (aa 6) (λv B s' h=>Q_ s'));have R:Qn (ew b s c (ae b s))=Xs:=by unfold ew;rw[ak]
  rw[R,cp]at h;exact h
end
def qP(K:au)(mg:QQ)(x:Str)(rows:Qak):Prop:= ∃(a:Addr)(b:List Addr),mg x=Y0/\(∀H,cw K H a (Wy b))/\dj (λp r=> ∀H,cw K H p (Qbv r Qb1)) b rows
section
variable{X:Cx}{H0 Hb:Hp}{O:QZ}{G:QO}{g:Bool}{A:a6}{pos p p':Pos}{D:Ends}{ss body:US}{x:Str}
def pN:∀ns:List Nat,bJ H (Qcm Qb1) (Qcm (aI n))
 |[]=> .nil
 |_::ns=> UP rfl pN ns
def agw(is:QU)(L:Nat->QO){u}(l:RD)(tg:qP X.K X.mg x rows)(ht:oI X b (ti is))(w:∀r∈rows,Qaf=Qn r)(h0:ff G (L 0))
  (P:∀d k r,rows[k]?=Qc r->Bl X H0 d O (qL (L k) true is (Qbv r (aI n))) body {D with nx:=Cf H0 d O (L (k+1)),ct:=Cf H0 d O (L (k+1)),bk:=wB X ss D})(A:Bl X H0 Hb O (L Qd1) ss D)
  (hg:Gl X x:=by rfl)(hd:SK=Qb:=by decide)(hl:Wa jh b Qg=Qaf:=by rfl)(aq:(jh b X.env).findIdx? (·.1)=none:=by rfl)(hs:∀y,eB (UB p') Qg y=Sy y:=by intro _;rfl)(B:fQ (aV Qr X.w) X.A Qg Q3:=by exact eN):
  Bl X H0 Hb O G (.For (Xe b u p) (UB p') body [] pos::ss) D:=by
 obtain⟨a,f,C,e,m⟩:=tg;have E:=bQ m;refine zZ _ L (λk=>qL (L k) true is (Qbv (rows.getD k []) (aI n))) l (yT (qk (v:=QS) hg C rfl hd)) (oJ l ht hl aq) (λS H R c q=>Rn a (V0 e H) (q _ H RK (λk g h F o=>?_) (λg h o=>⟨_,e h,by simp[E]⟩))) h0 (λd k F=>Qm) A hs B
 ·obtain⟨y,i⟩:∃y,f[k]?=V7:=⟨f[k]'(by omega),cN _⟩;refine Qe ⟨_,_,e h,by rw[cY,i];rfl⟩ (λz T j Q r=>?_);obtain⟨rfl,j⟩:=j;have s:=j _ (e _);rw[cY,i]at s;cases s;obtain⟨I,J,K⟩:=qB m i;have M:rows.getD k []=I:=by grind
  rw[M]at r;have t:=w _ (bL J);exact⟨y,_,rfl,K _,by rw[ak,t],wa (by rw[ak,t]) o (pN _) (λg N=>r g _ N)⟩
def nI:Qak:=[[1,3,2],[1,2,3],[2,1,3]]
def Ac(b:Bo)(r:QU):R7:=match r with
 |[s,c,t]=>QG (ip b s t c) (md s t)
 |_=>[]
end
def Ad(p:Nat×Nat×aw×aw):a6:=aT [aI p.1,aI W9,aX p.2.2.1,aX p.2.2.2]
def MT(C:Addr):Sp:=Su Bo (λb=>[a8 C b]) (λb=>aH b) (λb=>aL (Q9 kK b Ad))
section
variable{P:aO}{w:aA}{K:au}{mg:QQ}{base:Heap}{f C:Addr}{fd:b_}
def Fe(b:Bo)(s t c:Nat):(RW (ae b s) (λx=>TV (ae b t) (λy=>if b6 b s t x y=false/\((av b s c x).any λu=>b6 b t c y u)=true then some (s,t,x,y)else none)))=QG (ip b s t c) (λp=>(s,t,p.1,p.2)):=by
 unfold ip;rw[List.map_flatMap];congr 1
 funext x;induction ae b t with
 |nil=>rfl
 |cons y l a=>
  have e:Qv (gJ b s t c x y)↔(b6 b s t x y=Qb/\Qv ((av b s c x).any (λu=>b6 b t c y u))):=by
   unfold gJ;rw[bX,pM]
  by_cases h:Qv (gJ b s t c x y)
  ·grind
  ·grind
def agx(b:Bo):Q9 kK b Ad=nI.flatMap (Ac b):=by
 have f:∀s t c,QG (QG (ip b s t c) (λp=>(s,t,p.1,p.2))) Ad=QG (ip b s t c) (md s t):=λs t c=>by rw[cq];rfl
 have e:kK b=QG (ip b 1 2 3) (λp=>(1,2,p.1,p.2))++(QG (ip b 1 3 2) (λp=>(1,3,p.1,p.2))++(QG (ip b 2 3 1) (λp=>(2,3,p.1,p.2))++[])):=by
  rw[<-Fe,<-Fe,<-Fe];rfl
 rw[e,bO,bO,bO,f,f,f];rfl
def MU{b:Bo}(a:aH b)(hs:QE)(ht:Q2):QP (ip b s t c) 1600:=by
 have bc:=a.bc s hs;have d:=a.bc t ht;have:∀l:List aw,YB l (λx=>Uo (ae b t) (gJ b s t c x) X0)<=40*QT:=by
  intro l;induction l with
  |nil=>simp
  |cons x l e=>
   grind
 have:=this (ae b s);unfold ip;omega
def wj:aY [Qk,Td,"s","c","t"] [Qk] (aK Fd):=QF
def agy(F:aP K Qfs Qfs Fd f fd)(T:qP K mg "OVER_THIRDS" nI)(j:aE P w K mg base 3 Qfk [Qk,"s","c","t"] (MQ C)):ay P w K mg base az 4 f fd [Qk] (MT C):=by
 refine R4 wj (.u (.u (.u (.u .e)))) (λD A outer G H E b a d=>ec 1 bj wj.nd (λq=>agw [2,3,4] (λk=>[.v Qb _,.w q (RW (nI.take k) _),.u,.u,.u]) rfl T (dQ (bS wj.nd rfl QK) (dQ (bS wj.nd rfl QK) (dQ (bS wj.nd rfl QK) jY))) QD RP (λI k r g=>?_) (by refine d9 1 (aU (aa 1) λv M B h=>⟨B,?_⟩);rw[cp,<-agx]at h;exact h)))
 ·obtain⟨s,c,t,rfl,hs,m,ht⟩:∃s c t,r=[s,c,t]/\QE/\To c/\Q2:=by
   have:=bL g;simp[nI]at this;rcases this with rfl|rfl|rfl<;>exact⟨_,_,_,rfl,QD,QD,QD⟩
  refine hG 1 (Yf j a (b,s,c,t) ⟨hs,m,ht,d⟩ (xa (aa 2) (xa (aa 3) (xa (aa 4) ao)))) Qw (bW (λJ H n=>n.le ?_)) ?_
  ·refine .eq rfl (.eq ?_ (.u (.u Ry)));rw[Sm g,ly];simp[Ac]
  ·have L:=MU d (c:=c) hs ht;have p:∀l:List _,(∀r∈l,r∈nI)->YB l (Ac b)<=1600*QT:=by
    intro l;induction l with
    |nil=>simp
    |cons r l x=>
     intro h;have y:=x (λr a=>h r (bP _ a));have z:Tj Ac b r 1600:=by
      have:=h r Ru;simp[nI]at this;rcases this with rfl|rfl|rfl<;>(show Tj uz _ _ _)<;>rw[ak]<;>exact MU d QD QD
     rw[lA,b0,dh];omega
   have y:=p (nI.take k) (λr a=>jd a);have z:Qx nI.take k<=3:=by rw[n'];exact Nat.min_le_right _ _
   rw[ak,bK];omega
end
end DL
namespace L2
open PySem PySem.Spec PyProof.Rows NT
def MV(K:au):R2:=λx y H Q=>∃(p t:Addr)(k:Nk)(zs:List (Nk×Addr)),x= .ref t/\bV H k t/\y= .ref p/\bF K H p (zs.map λz=>V.ref z.2)/\(∀z∈zs,bV H z.1 z.2)/\Q (.bl (decide (k∈zs.map (·.1)))) H
def MW(B:RY+64<bf):dz X (eY .In) (MV X.K):=by
 intro C s D H x y v u Q I f g h;obtain⟨p,t,k,zs,rfl,i,rfl,hl,j,q⟩:=h;cases f;cases g;obtain⟨F,l,pl,_⟩:=I.list hl;have e:=D1 l;subst e;obtain⟨g1,m⟩:=g9 Rb i;obtain⟨o1,_,G⟩:=d_ g1;have c:U_ (QJ NT.good z.1/\(Yh _ z.1).1 _):=λz n=>g9 Rb (j z n);refine SeqAt.in_listAt (λy=> @decide ((Yh Ql k).1 y) (uk _)) QaS (λy a=>?_) (Rl (.bl _) H I ?_)
 ·have a:y∈Yc (bD z.2):=by simpa using a
  obtain⟨z,b,rfl⟩:=RM a;obtain⟨g2,d⟩:=c z b;obtain⟨o,_,J⟩:=d_ g2;refine λprog w E K A=>va o o1 Qm d m ?_;have:Ro z.1 k= @decide ((Yh Ql k).1 (bD z.2)) (uk _):=by
   by_cases h:z.1=k
   ·grind
   ·rw[TK h];exact(@decide_eq_false _ (uk _) (λr=>h ((r6 z.1 k).1 _ d r))).symm
  rw[this];exact A
 ·have e:(zs.map λz=>bD z.2).toArray.any (λy=>@decide ((NT.rel s.heap k).1 y) (uk _))=decide (k∈zs.map (·.1)):=by
   rw[List.any_toArray,gU,kv,decide_eq_true_eq,cQ];constructor
   ·rintro⟨y,a,r⟩;obtain⟨z,b,rfl⟩:=RM a;exact Qh z b ((r6 z.1 k).1 _ (c z b).2 (@of_decide_eq_true _ (uk _) r))
   ·grind
  rw[e];exact q
end L2
namespace DL
open PySem PySem.Spec L2 NT AT
open PyProof.Rows hiding St
open Vbdhaj(Sense sensesOf equals paired less lessText members)
def me(A:a6)(k:Nk):Prop:= ∀H v,A.p H v-> ∃t,v=VN/\bV H k t
def MX:me (aX x) (c8 x):=QbW
def Ff(l:Qo):TY (cT l):=by
 obtain⟨a,b,c⟩:=sO l;unfold good;rw[a,b,c];rfl
def Fg:me (aW w) (cT w):=λH v h=>by
 obtain⟨t,c,rfl,ht,b⟩:=h;rw[pI b]at ht;refine Rn t (Ff w) ?_;cases w with
 |nil=>exact Ss t ht
 |cons a r=>exact⟨t,_,_,rfl,ht,rfl,Ea r⟩
section
variable{X:Cx}{H0 Hb:Hp}{O:QZ}{G:QO}{e a b c:Expr}{g ga gb:Bool}{A:a6}{pos p:Pos}{k:Nk}{α:Type}{xs ys:Qa8}{fA:α->a6}{kf:α->Nk}
def Fh(b:∀x,me (fA x) (kf x)):∀ {xs:List α}{vs:List V},bJ H vs (xs.map fA)->∃zs:List (Nk×Addr),vs=(zs.map λz=>V.ref z.2)/\(∀z∈zs,bV H z.1 z.2)/\zs.map (·.1)=xs.map kf
 |[],_,.nil=>Rn [] Qj rfl
 |x::xs,_,.cons r t=>by
  obtain⟨zs,rfl,c,e⟩:=Fh b t;obtain⟨q,rfl,d⟩:=b x _ _ r;refine Rn ((kf x,q)::zs) (Vf ?_) Qm;rcases RA a with rfl|a
  ·exact d
  ·exact c z a
def MY{a}(d:me A k)(f:∀x,me (fA x) (kf x))(c:Cf H0 a O G σ H)(h:A.p (gh true H0 O H) v)(i:(aL Qag).p (gh gb H0 O H) w)(q:Q (.bl (Ur k (Ti kf))) H):MV X.K v w H Q:=by
 obtain⟨t,rfl,j⟩:=d _ _ h;obtain⟨p,o,rfl,l,hv⟩:=(aL _).m (dM R8) i;obtain⟨zs,rfl,n,e⟩:=Fh f hv;exact⟨p,t,k,zs,rfl,QY j (λb xs e=>dM R8 _ _ e),rfl,Q6 l,n,by rw[e];exact q⟩
def agz(d:RY+64<bf)(e:VY a A)(f:me A k)(g:Ev X H0 O G b gb (aL Qag))(h:∀x,me (fA x) (kf x))(i:hY .In b=Qb:=by rfl):XM (Xx .In) (Ur k (Ti kf)):=
 vX (MW d) e g i (λ_ _ _ _ _ _ c j l q=>MY f h c j l q)
def agA(d:RY+64<bf)(e:VY a A)(f:me A k)(g:Ev X H0 O G b gb (aL Qag))(h:∀x,me (fA x) (kf x))(i:hY .In b=Qb:=by rfl):Et X H0 O G (Xx .In) (Ur k (Ti kf)):=
 o8 (MW d) e g i (λ_ _ _ _ _ _ c j l q=>MY f h c j l q)
end
def Ae{ys:QC}:c8 x∈XZ c8↔x∈ys:=by
 rw[cQ];exact⟨λ⟨y,a,e⟩=>lh e▸a,λh=>Sz x h⟩
def dX(x:cJ):jP:= .tuple [.tuple (x.1.map kF),QL x.2]
section
variable{K:au}{H:Hp}
def Fi(h:(aW w).p H v):Dp K H v (SN .tuple w kF):=by
 obtain⟨t,b,rfl,ht,a⟩:=h;rw[pI a]at ht;exact .tup (cw.of ht) (Em w)
def agB(h:(aS x).p H v):Dp K H v (dX x):=by
 obtain⟨t,c,rfl,ht,a⟩:=h;cases a with
 |cons r a=>cases a with
  |cons b a=>
   cases a;subst b;exact .tup (cw.of ht) (Zm (Fi r) (QL _))
def Fj:∀ {xs:List aw}{vs:List V},bJ H vs (Ti aX)->m_ K H vs (VW (dX (toS x)))
 |[],_,.nil=> .nil
 |x::xs,_,.cons r t=> UP (agB r) Fj t
def MZ(a b:Qo):gp (SN .tuple a kF) (SN .tuple b kF)=Ro a b:=by rw[gp,En]
def agC(x y:cJ):gp (dX x) (dX y)=Ro x y:=by
 unfold dX;rw[gp,fR,fR,fR,MZ,gp];obtain⟨a,n⟩:=x;obtain⟨c,m⟩:=y;by_cases b:a=c<;>by_cases d:n=m<;>simp[d]
def M0:∀xs ys:List aw,fR (VW (dX (toS x))) (XZ (λx=>dX (toS x)))=Ro xs ys
 |[],[]=>by rfl
 |[],y::ys=>by rw[jg,cg,fR];simp
 |x::xs,[]=>by rw[jg,cg,fR];simp
 |x::xs,y::ys=>by
  rw[cg,cg,fR,M0 xs ys,agC];by_cases h:x=y
  ·grind
  ·have:toS x≠toS y:=λe=>h (j_ e);simp[h,this]
def M3(w:Qo):QJ ox (SN .tuple w kF):=by
 obtain⟨g1,g2⟩:=zv w;unfold ox;rw[mQ,g1,mR,g2];rfl
def M4:∀xs:List aw,QJ hZ (VW (dX (toS x)))/\h5 (VW (dX (toS x)))<=2
 |[]=>⟨by rw[jg,hZ],by exact cG _⟩
 |x::xs=>by
  obtain⟨a,d⟩:=M4 xs;obtain⟨g1,g2⟩:=zv _;have b:Qv (dX (toS x)).canLay0:=by
   unfold dX;rw[mQ,hZ,hZ,hZ,mQ,mQ,g1];rfl
  have c:(dX (toS x)).depth=2:=by
   unfold dX;rw[mR,h5,h5,h5,mR,mR,g2];rfl
  exact⟨by rw[cg,hZ,a,b];rfl,by rw[cg,h5,c];omega⟩
def M5(xs:QC):QJ ox (.list (VW (dX (toS x)))):=by
 obtain⟨a,b⟩:=M4 xs;unfold ox;rw[mQ,a,mR];simp;omega
end
section
variable{X:Cx}{H0 Hb:Hp}{O:QZ}{G:QO}{e a b c:Expr}{g ga gb:Bool}{A:a6}{pos p:Pos}{xs ys:QC}{u v:Qo}
def M6{a}(c:Cf H0 a O G σ H)(b:(bw xs).p (gh ga H0 O H) x)(d:(bw ys).p (gh gb H0 O H) y)(q:Q (.bl (Ro xs ys)) H):Km X.K x y H Q:=by
 obtain⟨t,h,rfl,ht,e⟩:=(bw xs).m (dM R8) b;obtain⟨i,j,rfl,f,g⟩:=(bw ys).m (dM R8) d;refine⟨.list _,.list _,.lst Qc5 (Fj e),.lst (Q6 f) (Fj g),M5 _,M5 _,?_⟩;rw[gp,M0];exact q
def agD(d:RY+64<bf)(e:Ev X H0 O G a ga (bw xs))(f:Ev X H0 O G b gb (bw ys)):XM (Xx .Eq) (Ro xs ys):=vX (y1 d) e f (eO _) (Qhk (M6 c g h q))
def agE(d:RY+64<bf)(e:Ev X H0 O G a ga (bw xs))(f:Ev X H0 O G b gb (bw ys)):Et X H0 O G (Xx .Eq) (Ro xs ys):=o8 (y1 d) e f (eO _) (Qhk (M6 c g h q))
def agF(d:RY+64<bf)(e:Vb a aW u)(f:Vb b aW v):Et X H0 O G (Xx .Eq) (Ro u v):=o8 (y1 d) e f (eO _) (Qhk ⟨_,_,Fi ((aW u).m (dM R8) g),Fi ((aW v).m (dM R8) h),M3 _,M3 _,by rw[MZ];exact q⟩)
abbrev Fm:Stmt:=top 18
abbrev Fn:Stmt:=top 19
abbrev Fo:Stmt:=top 20
abbrev Fp:Stmt:=top 21
def ea(l:QC)(y:aw):QC:=if y∈l then l else l++[y]
def hI(l:QC):Xp:=R1 (λy=>(c8 y,V.bl true))
def Af(l:QC):(hI l).map (·.1)=l.map c8:=by unfold hI;rw[cq];rfl
def M7(l:QC)(y:aw):putK (hI l) (c8 y) (.bl true)=hI (ea l y):=by
 unfold ea;split
 ·rename_i h;unfold putK;rw[Qp (by rw[sy,zS,Af];exact decide_eq_true (Ae.mpr h))];unfold hI;rw[cq];apply iG;intro z _;show(if c8 z=c8 y then(c8 z,V.bl true)else(c8 z,V.bl true))=_;split<;>rfl
 ·rename_i h;rw[lV (by rw[Af];exact λz=>h (Ae.mp z))];unfold hI;rw[bO];rfl
def jv(l:QC):QC:=l.foldl ea []
def Fq(l:QC)(y:aw):jv (l++[y])=ea (jv l) y:=by unfold jv;rw[iD];rfl
end
def qQ(l:QC):S7 (jv l)/\ ∀y,y∈jv l↔y∈l:=by
 have:∀n l,QT=n->S7 (jv l)/\ ∀y,y∈jv l↔y∈l:=by
  intro n;induction n with
  |zero=>intro l h;have:=pP h;subst this;exact Qe jf (λy=>jG)
  |succ n c=>
   intro l h;have b:l≠[]:=QgC
   obtain⟨a,z,rfl⟩:∃a z,l=a++[z]:=Qh l.dropLast (l.getLast b) (um b).symm;obtain⟨d,f⟩:=c a QeQ;rw[Fq];unfold ea;split
   ·grind
   ·grind
 exact this _ l rfl
def Ag{l m:QC}(nd:l.Nodup)(h:∀y∈l,y∈m):Qcr l m:=Qf3 h
def ka(b:Bo)(s t:Nat)(xs:QC):QC:=Sd (ae b t) (λy=>xs.any (λx=>b6 b s t x y))
def M8(C:Addr):Sp:=Su (Bo×Nat×Nat×QC) (Qch [a8 C b,aI s,aI t,bw a]) (Qch (QE/\Q2/\aH b/\ ∀x∈a,x∈ae b s)) (Qch (bw (ka b s t a)))
section
variable{P:aO}{w:aA}{K:au}{mg:QQ}{base:Heap}{f C:Addr}{fd:b_}
def agG(nd:l.Nodup)(a:xs.Nodup)(h:∀y,y∈l↔y∈xs)(q:(aD (hI l)).p H v):(qM xs).p H v:=by
 obtain⟨d,rfl,hd⟩:=q;refine⟨d,_,R1 toS,rfl,hd,?_,Q9 (lr nd a).mpr h _⟩;rw[Af,cq];rfl
def Ah:aY [Qk,"s","t",Sr,Td,"x","y"] [Qk,"s","t",Sr] (aK Fm):=QF
def agH(F:aP K "reached" "reached" Fm f fd)(L:ef P w K mg base C):ay P w K mg base az 2 f fd [Qk,"s","t",Sr] (M8 C):=by
 refine R4 Ah (.n ag (.n ag (.o (.u (.u (.u .e)))))) (λQ A outer R H E⟨b,s,t,a⟩p⟨hs,ht,c,I⟩=>?_);have sub:∀l,(∀y∈l,∃x∈a,y∈av b s t x)->Qx hI _<=40:=λl hl=>by
  unfold hI;rw[ak];refine bp (Ag (qQ l).1 (λy r=>?_)) (c.bc t ht);obtain⟨x,_,hx⟩:=hl y (((qQ l).2 y).mp r);exact YO hx
 refine sZ 4 Ah.nd (λq=>eP 5 (λk=>[.v Qb _,Wv,Wv,.v Qb _,.d q (hI (jv (RW Y2 (av b s t)))),.u,.u]) rfl (aa 3) Qaj (bS Ah.nd rfl QK) RP (λJ k x hx=>?_) ?_)
 ·refine eP 6 (λj=>[.v Qb _,Wv,Wv,.v Qb _,.d q (hI (jv (RW Y2 _++Rf (av b s t x) j))),Wv,.u]) rfl (cB Rp Xv p (b,s,t,x) ⟨hs,ht,I x (bL hx),c⟩ (aa 0) (xa (aa 1) (xa (aa 2) (xa (aa 5) ao)))) Qw (bS Ah.nd rfl QK) (by rw[rA,dR];repeat(first|exact .nil|refine .u ?_|refine .eq rfl ?_)) (λJ j y r=>?_) (by refine bW λN H B=>B.le ?_;rw[cp,take_snoc hx,ly,show [x].flatMap (av b s t)=av b s t x by simp];repeat(first|exact .nil|refine .u ?_|refine .eq rfl ?_))
  ·refine s_ 4 p.units (aa 6) QbW qJ Yl (bW (λN H B=>B.le (by rw[M7,take_snoc r,<-eK,Fq];repeat(first|exact .nil|refine .u ?_|refine .eq rfl ?_)))) ?_
   ·refine qN (sub _ (λz D=>?_));rcases Vd D with D|D
    ·grind
    ·grind
 ·have G:UL (ka b s t a) (Qcq x y):=Xc (c.cA t ht);refine v_ 4 (aU (ES p.units rfl L.tm.sorted ((aa 4).imp (λ_ _ h=>agG (qQ _).1 (ee G) (λy=>?_) h)) G (by have m:=eX (λy=>a.any λx=>b6 b s t x y) (ae b t);have g:=c.bc t ht;unfold ka;omega)) (λv S O h=>Rw O))
  ·rw[(qQ _).2,cp,iF];unfold ka;rw[eh,kv];constructor
   ·rintro⟨x,m,g⟩;exact⟨YO g,x,m,(d3 c).mp g⟩
   ·rintro⟨_,x,m,g⟩;exact Qh x m ((d3 c).mpr g)
def Ai(b:Bo)(s t:Nat)(xs:QC):QC:=ka b t s (ka b s t xs)
def M9(C:Addr):Sp:=Su (Bo×Nat×Nat×aw) (ZV [a8 C b,aI s,aI t,aX x]) (ZV (QE/\Q2/\x∈bg b s t/\aH b)) (ZV (aT [bw (dO b s t x).1,bw (dO b s t x).2]))
end
end DL
namespace DL
open AT(bC vM zI)
open Vbdhaj(Sense sensesOf equals paired less lessText members putIn setOf grow classOf classes)
def wk(x:aw):less x x=Qb:=by
 cases h:less x x with
 |false=>rfl
 |true=>exact QbB ((nE x x).mpr h) EM
def Aj(a:YC x y)(b:YC y z):YC x z:=(nE _ _).mp (Mw ((nE _ _).mpr a) ((nE _ _).mpr b))
def M_(h:x≠y):YC x y\/YC y x:=by
 have g:=λx:AT.cJ=>(NT.d_ (vM x)).1;rcases NT.vE _ _ (g _) (g _) (zI _ _) (λe=>h (j_ (AT.lX e)))with q|q
 ·exact Qq ((nE _ _).mp q)
 ·exact Qy ((nE _ _).mp q)
abbrev b7(l:QC):Prop:=UL l (Qcq x y)
def iq(b:b7 l)(d:b7 m)(h:∀x,x∈l↔x∈m):l=m:=by
 refine((lr (ee b) (ee d)).mpr h).eq_of_pairwise (λa c _ _ q1 e=>?_) b d;have:=Aj q1 e;rw[wk]at this;cases this
def Fs(hl:b7 l)(a:b7 m)(b:∀z∈l,z∈m)(d:QP m QT):m=l:=by
 refine iq a hl (λz=>⟨λe=>BK Qee,b z⟩);have:Qcr (z::l) m:=List.Nodup.length_le_of_subset (gm.mpr ⟨c,ee hl⟩) (λy f=>by
  grind)
 simp at this;omega
def wm:Qgo (y∈putIn x l↔y=x\/y∈l)
 |[]=>by simp[putIn]
 |z::l=>by
  unfold putIn;split
  ·rename_i h;subst h;simp
  ·split
   ·simp
   ·rw[kn,wm,kn];constructor
    ·grind
    ·grind
def Ak:Qgo (b7 l->b7 (putIn x l))
 |[],_=>by simp[putIn]
 |z::l,h=>by
  have b:=kr.mp h;unfold putIn;split
  ·exact h
  ·rename_i c;split
   ·rename_i hl;refine kr.mpr ⟨λy a=>?_,h⟩;rcases RA a with rfl|a
    ·exact hl
    ·exact Aj hl (b.1 y a)
   ·rename_i hl;refine kr.mpr ⟨λy a=>?_,Ak b.2⟩;rcases wm.mp a with rfl|a
    ·exact Qdj (M_ c) hl
    ·exact b.1 y a
def pb:∀l,b7 (eE l)/\ ∀y,y∈eE l↔y∈l
 |[]=>Qe .nil (λy=>jG)
 |x::l=>by
  obtain⟨a,b⟩:=pb l;refine⟨Ak a,λy=>?_⟩;show y∈putIn x (eE l)↔_;rw[wm,b,kn]
def mf{b:Bo}(h:s≠t)(x y:aw):b6 b s t x y=b6 b t s y x:=by
 unfold b6 bR;rcases Nat.lt_or_gt_of_ne h with h|h
 ·grind
 ·grind
def Al{b:Bo}(c:aH b):y∈ka b s t xs↔ ∃x∈xs,b6 b s t x y=true:=by
 unfold ka;rw[eh,kv];exact⟨Qc4,λ⟨x,d,a⟩=>⟨(j' c a).2,x,d,a⟩⟩
def M'{b:Bo}(a:aH b)(ht:Q2):b7 (ka b s t xs):=Xc (a.cA t ht)
def mh{b:Bo}(a:aH b):x∈bg b s t↔ ∃y,Sq b s t x y:=by
 unfold bg;rw[eh];constructor
 ·rintro⟨_,h⟩;cases e:av b s t x with
  |nil=>rw[e]at h;cases h
  |cons y l=>exact Qe y ((d3 a).mp QdM)
 ·rintro⟨y,h⟩;refine Q_ (j' a h).1;have:=(d3 a).mpr h;cases e:av b s t x with
  |nil=>rw[e]at this;cases this
  |cons y l=>rfl
def qR{b:Bo}(a:aH b)(h:Sq b s t x y):s≠t:=λe=>by
 subst e;unfold b6 bR at h;rw[gj,Qs (pR _)]at h;exact XN (a.lg _ h).1
def jw{b:Bo}(h:x∈bg b s t):x∈ae b s:=YO h
inductive Cn(b:Bo)(s t:Nat)(x:aw):Q5 aw
 |base:Cn b s t x x
 |step{z y z':aw}:Cn b s t x z->Sq b s t z y->Sq b s t z' y->Cn b s t x z'
section
variable{b:Bo}(hb:aH b){s t:Nat}(hs:QE)(ht:Q2){x:aw}
def Cn.trans(h:Cn b s t x z)(a:Cn b s t z w):Cn b s t x w:=by
 induction a with
 |base=>exact h
 |step _ p q c=>exact .step c p q
def Cn.symm(h:Cn b s t x z):Cn b s t z x:=by
 induction h with
 |base=>exact .base
 |step h p q a=>exact QH (Cn.step .base q p) a
def Cn.closed{l:QC}(hx:x∈l)(h:∀z∈l,∀y a,Sq b s t z y->Sq b s t a y->a∈l):∀z,Cn b s t x z->z∈l:=λz c=>by
 induction c with
 |base=>exact hx
 |step _ p q d=>exact h _ d _ _ p q
structure qS(b:Bo)(s t:Nat)(x:aw)(c:QC×QC):Prop where
 s1:b7 c.1
 s2:b7 c.2
 m1:∀z,z∈c.1↔Cn b s t x z
 m2:∀y,y∈c.2↔ ∃z,Cn b s t x z/\Sq b s t z y
def qS.one(h:qS b s t x c)(h':qS b s t x d):c=d:=
 uH (iq h.s1 h'.s1 (λz=>by rw[h.m1,h'.m1])) (iq h.s2 h'.s2 (λz=>by rw[h.m2,h'.m2]))
include hb hs ht in
def agI(aq:s≠t)(hx:x∈ae b s):∀n p,b7 p.1->b7 p.2->x∈p.1->(∀z∈p.1,Cn b s t x z/\z∈ae b s)->(∀y∈p.2,y∈ae b t/\ ∃z,Cn b s t x z/\Sq b s t z y)->82<=n+(p.1.length+p.2.length)->qS b s t x (grow b s t n p):=by
 intro n;induction n with
 |zero=>
  intro p s1 s2 _ m1 m2 u;exfalso
  have d:=bp (Qca (ee s1) (Vf (m1 z a).2)) (hb.bc s hs);have f:=bp (Qca (ee s2) (Vf (m2 z a).1)) (hb.bc t ht);omega
 |succ n v=>
  intro p s1 s2 k m1 m2 u;obtain⟨A,B⟩:=pb _;obtain⟨C,D⟩:=pb _;have g:∀y,y∈eE (p.2++p.1.flatMap (av b s t))↔y∈p.2\/ ∃z∈p.1,b6 b s t z y=true:=λy=>by
   rw[B,gg,iF];exact or_congr jG (exists_congr (λz=>and_congr jG (d3 hb)))
  have i:∀z,z∈eE (p.1++RW (eE _) _)↔z∈p.1\/ ∃y∈eE (p.2++p.1.flatMap (av b s t)),b6 b s t z y=true:=λz=>by
   rw[D,gg,iF];refine or_congr jG (exists_congr (λy=>and_congr jG ?_));rw[d3 hb,mf (λe=>aq Y6)]
  have o:∀y∈eE _,y∈ae b t/\ ∃z,Cn b s t x z/\Sq b s t z y:=λy j=>by
   rcases(g y).mp j with h|⟨z,a,c⟩
   ·exact m2 y h
   ·exact⟨(j' hb c).2,z,(m1 z a).1,c⟩
  show qS b s t x (if eE _=p.1/\eE _=p.2 then p else grow b s t n _);split
  ·rename_i q;obtain⟨ex,E⟩:=q;have r:∀z,Cn b s t x z->z∈p.1:=Cn.closed k (λz a y K d f=>by
    grind)
   refine⟨s1,s2,λz=>⟨λh=>(m1 z h).1,r z⟩,λy=>⟨λh=>(m2 y h).2,λ⟨z,d,f⟩=>?_⟩⟩;rw[<-E,g];exact Qy ⟨z,r z d,f⟩
  ·rename_i q;have l1:=Qca (ee s1) (Vf ((i z).mpr (Qq a)));have l2:=Qca (ee s2) (Vf ((g z).mpr (Qq a)));have same:∀ {l m:List aw},b7 l->b7 m->(∀z∈l,z∈m)->QP m QT->m=l:=λ{l m}hl F G H=>Fs hl F G H
   refine v _ C A ((i x).mpr (Qq k)) (Vf ?_) o ?_
   ·rcases(i z).mp a with h|⟨y,j,c⟩
    ·exact m1 z h
    ·obtain⟨_,w,I,J⟩:=o y j;exact Qe (.step I J c) (j' hb c).1
   ·by_cases L:Qx eE (p.1++RW (eE (p.2++p.1.flatMap (av b s t))) (av b t s))<=p.1.length
    ·grind
    ·dsimp only;omega
include hb hs ht in
def qT(aq:s≠t)(hx:x∈ae b s):qS b s t x (dO b s t x):=
 agI hb hs ht aq hx _ _ QaQ .nil Qj (Vf (by simp at a;subst a;exact⟨.base,hx⟩)) (λy c=>by simp at c) (by simp[Vbdhaj.SENSES])
end
end DL
namespace DL
open PySem PySem.Spec L2 NT AT
open PyProof.Rows hiding St
open Vbdhaj(Sense sensesOf equals paired less lessText members classOf)
structure Am(b:Bo)(s t:Nat)(x:aw)(p:QC×QC×QC):Prop where
 k:b7 p.1
 f:b7 W9
 hx:x∈W9
 sub:∀z∈p.1,z∈W9
 cn:∀z∈p.2.1,Cn b s t x z/\z∈bg b s t
 eq:p.1≠[]->W9=Ai b s t p.1/\p.2.2=ka b s t p.1
def b7.bc{b:Bo}(a:aH b)(hs:QE)(h:b7 l)(hl:∀z∈l,z∈ae b s):SS l:=bp (Qca (ee h) hl) (a.bc s hs)
section
variable{b:Bo}(hb:aH b){s t:Nat}(hs:QE)(ht:Q2){x:aw}
include hb in
def An(aq:s≠t):z∈Ai b s t xs↔ ∃x∈xs,∃y,b6 b s t x y=true/\b6 b s t z y=true:=by
 unfold Ai;rw[Al hb];constructor
 ·rintro⟨y,c,h⟩;obtain⟨x,hx,a⟩:=(Al hb).mp c;exact⟨x,hx,y,a,by rw[mf aq];exact h⟩
 ·rintro⟨x,hx,y,d,a⟩;exact⟨y,TZ (Al hb).mpr x hx d,by rw[<-mf aq];exact a⟩
include hb hs in
def agJ(aq:s≠t)(h:Am b s t x p):Am b s t x (W9,Ai b s t W9,ka b s t W9)where
 k:=h.f
 f:=M' hb hs
 hx:=by
  obtain⟨y,a⟩:=(mh hb).mp (h.cn x h.hx).2;exact(An hb aq).mpr ⟨x,h.hx,y,a,a⟩
 sub:=λz c=>by
  obtain⟨y,a⟩:=(mh hb).mp (h.cn z c).2;exact(An hb aq).mpr ⟨z,c,y,a,a⟩
 cn:=λz c=>by
  obtain⟨w,e,y,g,d⟩:=(An hb aq).mp c;exact⟨.step (h.cn w e).1 g d,(mh hb).mpr (Qe y d)⟩
 eq:=λ_=>Vh
include hb hs ht in
def agK(aq:s≠t)(h:Am b s t x p)(hl:p.2.1.length<=p.1.length):(W9,p.2.2)=dO b s t x:=by
 have f:=Fs h.k h.f h.sub hl
 obtain⟨g,d⟩:=h.eq (λe=>by have:=h.hx;rw[f,e]at this;cases this);rw[<-f]at g d;refine qS.one ?_ (qT hb hs ht aq (jw (h.cn x h.hx).2));have i:=Cn.closed h.hx (λz a y l c k=>by
  rw[g];exact(An hb aq).mpr ⟨z,a,y,c,k⟩)
 refine⟨h.f,by rw[d];exact M' hb ht,λz=>⟨λa=>(h.cn z a).1,i z⟩,λy=>?_⟩;rw[d,Al hb];exact⟨λ⟨z,a,c⟩=>Qh z (h.cn z a).1 c,λ⟨z,a,c⟩=>Qh z (i z a) c⟩
end
section
variable{P:aO}{w:aA}{K:au}{mg:QQ}{base:Heap}{f C:Addr}{fd:b_}
def Na{a b:Type}{l:VQ}{m:QR b}{f:a->a6}{g:b->a6}:QV ((Qn (R1 f))<Qcl (QG m g))=QV (QT<Qn m):=by
 simp
def qU:aY [Qk,"s","t","x","known",ZC,Zy] [Qk,"s","t","x"] (aK Fn):=QF
def agL(F:aP K Qfl Qfl Fn f fd)(L:ef P w K mg base C)(i:aE P w K mg base 2 "reached" [Qk,"s","t",Sr] (M8 C)):ay P w K mg base az 3 f fd [Qk,"s","t","x"] (M9 C):=by
 refine R4 qU (.n ag (.n ag (.n cK (.u (.u (.u .e)))))) (λq A outer r H E⟨b,s,t,x⟩j⟨hs,ht,hx,a⟩=>?_);obtain⟨y,l⟩:=(mh a).mp hx;have aq:=qR a l;refine bG 4 (cE bj) qU.nd (bG 5 (cE (xd (aa 3) bj)) qU.nd (bG 6 (cE bj) qU.nd (zQ (ι:={p:List aw×List aw×List aw//Am b s t x p}) (λp=>[.v Qb _,Wv,Wv,Wv,TX bw p.1.1,TX bw p.1.2.1,TX bw p.1.2.2]) _ (λp=>41-p.1.1.length) ⟨([],[x],[]),.nil,QaQ,Qj,Qj,λz d=>by simp at d;subst d;exact⟨.base,hx⟩,λh=>Wz h⟩ RP (λp=>Et.eq (l7 (dZ Tq (aa 5)) (dZ Tq (aa 4))) Na) (λp g=>by have g:=Yz g;have k:=λz d=>jw (p.2.cn z d).2;refine bG 4 (aa 5) qU.nd (bG 6 (Yf i j (b,s,t,p.1.2.1) ⟨hs,ht,a,k⟩ (xa (aa 1) (xa (aa 2) (xa (aa 4) ao)))) qU.nd (bG 5 (Yf i j (b,t,s,ka b s t p.1.2.1) ⟨ht,hs,a,λz d=>YO d⟩ (xa (aa 2) (xa (aa 1) (xa (aa 6) ao)))) qU.nd (bW (λB H c=>⟨Rh (agJ a hs aq p.2),by have:=p.2.f.bc a hs k;show 41- p.1.2.1.length<41- p.1.1.length;omega,c.le RP⟩))))) (λp g=>by have g:=Qbe g;refine aU (l9 (xd (aa 5) (xd (aa 6) bj))) (λv D m h=>Q_ m);show(aT [bw (dO b s t x).1,bw (dO b s t x).2]).p _ _;rw[<-(agK a hs ht aq p.2 Qa)];exact h))))
def Nb(C:Addr):Sp:=Su (Bo×Nat×Nat×QC×QC) (λ(b,s,t,a,c)=>[a8 C b,aI s,aI t,bw a,bw c]) (λ(b,s,t,a,c)=>QE/\Q2/\aH b/\SS a/\ ∀x∈a,x∈ae b s) (λ(b,s,t,a,c)=>aB (a.all (λx=>Ro (av b s t x) c)))
def Ft:aY [Qk,"s","t",ZC,Zy,"x"] [Qk,"s","t",ZC,Zy] (aK Fp):=QF
def agM(F:aP K Qft Qft Fp f fd)(L:ef P w K mg base C):ay P w K mg base az 2 f fd [Qk,"s","t",ZC,Zy] (Nb C):=by
 refine R4 Ft (.n ag (.n ag (.o (.o (.u .e))))) (λm A outer p H E⟨b,s,t,a,c⟩d⟨hs,ht,j,hl,hx⟩=>aU (EW rfl L.tm.all (Ev.eq (ik (nm:="x") rfl Ft.nd (aa 3) Qaj (gI hl) (fc QB) (VB 5 Ft.nd) (Qf6 jW) (λx k _ D _ _ _ _ _=>agD d.units (cB Rp Xv d (b,s,t,x) ⟨hs,ht,hx x k,j⟩ (aa 0) (xa (aa 1) (xa (aa 2) (xa (aa 5) ao)))) (aa 4))) ?_)) (λv q l h=>Rw l))
 rw[(Zc)]
end
end DL
namespace DL
open PySem PySem.Spec L2 NT AT
open PyProof.Rows hiding St
open Vbdhaj(Sense sensesOf equals paired less lessText members classOf classes)
def fg(b:Bo)(s t:Nat)(x:aw):Ri (QC×QC):=if(dO b s t x).1.head?=Qz then Qc (dO b s t x)else none
def Nc{b c:Type}{f g:b->Ri c}:∀ {l:List b},(∀x∈l,f x=g x)->TV l f=TV l g
 |[],_=>rfl
 |a::l,h=>by rw[lx,lx,h a Ru,Nc (Sv (h x (bP _ hx)))]
def agN{a:Type}{l}{x:a}(h:l[k]?=Qz):l=Ui++x::l.drop (k+1):=by
 obtain⟨b,c⟩:=Zh h;have:=n8 k l;rw[BN b,c]at this;exact this.symm
section
variable{b:Bo}(hb:aH b){s t:Nat}(hs:QE)(ht:Q2)(aq:s≠t)
include hb hs ht aq
theorem agO(hx:x∈ae b s):(dO b s t x).2=[]↔x∉bg b s t:=by
 have c:=qT hb hs ht aq hx;constructor
 ·intro h a;obtain⟨y,g⟩:=(mh hb).mp a;have:=TZ (c.m2 y).mpr x .base g;rw[h]at this;cases this
 ·intro a;have one:∀z,Cn b s t x z->z=x:=λz d=>by
   induction d with
   |base=>rfl
   |step _ p _ i=>subst i;exact Rk ((mh hb).mpr (Rh p)) a
  cases e:(dO b s t x).2 with
  |nil=>rfl
  |cons y l=>
   obtain⟨z,d,f⟩:=(c.m2 y).mp QdM;rw[one z d]at f;exact Rk ((mh hb).mpr (Rh f)) a
theorem Nd:iO b s t=TV (bg b s t) (fg b s t):=by
 unfold iO bg;rw[List.filterMap_filter];refine Nc (Sv ?_);have a:=agO hb hs ht aq hx;have c:(x∈bg b s t)↔Qv (!(av b s t x).isEmpty):=by unfold bg;rw[eh];exact⟨Qc4,λh=>Rw hx⟩
 show(if(dO b s t x).2=[]\/(dO b s t x).1.head?≠some x then none else some _)=_;by_cases h:Qv (!(av b s t x).isEmpty)
 ·unfold fg;by_cases f:(dO b s t x).1.head?=Qz
  ·grind
  ·grind
 ·grind
theorem Nf(hx:x∈ae b s)(hz:z∈(dO b s t x).1)(e:z∈ae b s):dO b s t z=dO b s t x:=by
 have c:=qT hb hs ht aq hx;have d:=qT hb hs ht aq e;have a:=(c.m1 z).mp hz;exact uH (iq d.s1 c.s1 (λy=>by rw[d.m1,c.m1];exact⟨λh=>a.trans h,λh=>a.symm.trans h⟩)) (iq d.s2 c.s2 (λy=>by rw[d.m2,c.m2];exact⟨λ⟨w,h,p⟩=>⟨w,a.trans h,p⟩,λ⟨w,h,p⟩=>⟨w,a.symm.trans h,p⟩⟩))
theorem Ao(hx:x∈bg b s t)(hz:z∈(dO b s t x).1):z∈bg b s t:=by
 have:=((qT hb hs ht aq (jw hx)).m1 z).mp hz;cases this with
 |base=>exact hx
 |step _ _ q=>exact(mh hb).mpr (Rh q)
theorem agP:b7 (bg b s t):=Xc (hb.cA s hs)
theorem agQ(j:(bg b s t)[k]?=Qz):x∈RW (Zi (bg b s t) (fg b s t)) QfV↔ ¬(dO b s t x).1.head?=some x:=by
 have o:=bL j;have m:=jw o;have c:=qT hb hs ht aq m;have n:=agP hb hs ht aq;have u:=λy a=>by
  have f:b7 (YM (bg b s t)):=Qf1 n (rr _ _);rw[Sm j]at f;exact(BP.mp f).2.2 y a x Qj
 have v:∀y∈bg b s t,YC y x->y∈T8 (bg b s t):=λy a hl=>by
  have f:=agN j;rw[f]at a;rcases Vd a with a|a
  ·exact a
  ·exfalso
   rw[f]at n;rcases RA a with rfl|a
   ·rw[wk]at hl;cases hl
   ·have:=Aj hl ((kr.mp (BP.mp n).2.1).1 y a);rw[wk]at this;cases this
 rw[iF];constructor
 ·rintro⟨d,hd,A⟩g;obtain⟨y,a,e⟩:=gk.mp hd;unfold fg at e;split at e
  ·rename_i B;cases e;rw[(Nf hb hs ht aq (jw (jd a)) A m),B]at g;have:=u y a;cases g;rw[wk]at this;cases this
  ·cases e
 ·intro g;cases e:(dO b s t x).1 with
  |nil=>have:=(c.m1 x).mpr .base;rw[e]at this;cases this
  |cons h l=>
   have p:h∈(dO b s t x).1:=by rw[e];simp
   have D:h≠x:=λz=>g (by rw[e,z];rfl);have E:YC h x:=by
    have q:=(c.m1 x).mpr .base;have F:=c.s1;rw[e]at q F;rcases RA q with z|z
    ·exact Rk z.symm D
    ·simp_all
   have r:=Ao hb hs ht aq o p;have i:=Nf hb hs ht aq m p (jw r);refine⟨dO b s t h,gk.mpr ⟨h,v h r E,?_⟩,by rw[i];exact(c.m1 x).mpr .base⟩;unfold fg;rw[i,e];exact SX
end
def i5(c:QC×QC):a6:=aT [bw c.1,bw c.2]
def Ng(C:Addr)(r:Bo->Nat->Nat->a6):Sp:=Su (Bo×Nat×Nat) (U8 [a8 C b,aI s,aI t]) (U8 (QE/\Q2/\s≠t/\aH b)) (U8 (r b s t))
section
variable{P:aO}{w:aA}{K:au}{mg:QQ}{base:Heap}{f C:Addr}{fd:b_}
def Nh{a b c:Type}{l:VQ}{x}(h:l[k]?=Qz)(f:a->Ri b)(g:b->QR c):RW (Qcu l f) g=RW (TV Ui f) g++(match f x with|some y=>g y|none=>[]):=by
 rw[Sm h,n9,ly];congr 1
 cases e:f x with
 |none=>simp[e]
 |some y=>simp[e]
def tD:aY [Qk,"s","t","placed",Td,"x","around","z"] QX (aK Fo):=QF
def agR(F:aP K Qfu Qfu Fo f fd)(L:ef P w K mg base C)(R:aE P w K mg base 2 QcB QX (XF i3 C (bw (bg b s t))))(S:aE P w K mg base 3 Qfl [Qk,"s","t","x"] (M9 C)):
  ay P w K mg base az 4 f fd QX (XF Ng C (SA (iO b s t) i5)):=by
 refine Us tD (U8 [.v Qb (a8 C b),Rr,RT,.u,.u,.u,.u,.u]) (.n ag (.n ag (.u (.u (.u (.u (.u .e))))))) (λcdv A outer sh H E⟨b,s,t⟩D⟨hs,ht,aq,a⟩=>?_);refine sZ 3 tD.nd (λM=>ec 4 bj tD.nd (λN=>?_));let pl:=λk=>RW (Zi (bg b s t) (fg b s t)) QfV
 have T:∀k,∀z∈pl k,z∈ae b s:=λk z q=>by
  obtain⟨c,m,U⟩:=iF.mp q;obtain⟨y,g,e⟩:=gk.mp m;unfold fg at e;split at e
  ·cases e;exact jw (Ao a hs ht aq (jd g) U)
  ·cases e
 have bc:∀l,(∀z∈l,z∈ae b s)->Qx hI (jv l)<=40:=λl hl=>by
  unfold hI;rw[ak];exact bp (Ag (qQ l).1 (λy g=>hl y (((qQ l).2 y).mp g))) (a.bc s hs)
 refine eP 5 (λk=>[.v Qb (a8 C b),Rr,RT,.d M (hI (jv (pl k))),.w N (QG (Zi (bg b s t) (fg b s t)) i5),.u,.u,.u]) rfl (Xd R D (b,s,t) hs ht a (xa (aa 1) (xa (aa 2) ao))) Qw (bS tD.nd rfl QK) RP (λV k x p=>?_) ?_
 ·have G:=bL p;have O:=agQ a hs ht aq p;have htk:=ft p;have hml:SS (bg b s t):=bp (eX _ _) (a.bc s hs);have mem:(cO (hI (jv (pl k))) (c8 x)).isSome=Ur x (pl k):=by
   rw[zS,Af];simp only[Ae,(qQ _).2]
  refine cW (agk 3 D.units (aa 5) QbW) (λm=>?_) (λm=>?_)
  ·rw[mem]at m;have W:=by simpa using m
   have X:=BK (λz=>W (O.mpr z));have r:fg b s t x=Qc (dO b s t x):=by unfold fg;rw[Qp X]
   have hsub:∀z∈(dO b s t x).1,z∈ae b s:=λz q=>jw (Ao a hs ht aq G q);refine bG 6 (Yf S D (b,s,t,x) ⟨hs,ht,G,a⟩ (xa (aa 1) (xa (aa 2) (xa (aa 5) ao)))) tD.nd ?_;refine eP 7 (λj=>[.v Qb (a8 C b),Rr,RT,.d M (hI (jv (pl k++Rf (dO b s t x).1 j))),.w N (QG (Zi (bg b s t) (fg b s t)) i5),Xw,TX i5 (dO b s t x),.u]) rfl (fG (aa 6) ai 0 rfl) Qw (bS tD.nd rfl QK) ?_ (λV j z q=>?_) ?_
   ·rw[rA,dR];repeat(first|exact .nil|refine .u ?_|refine .eq rfl ?_)
   ·refine s_ 3 D.units (aa 7) QbW qJ Yl (bW (λQ H B=>B.le ?_)) ?_
    ·rw[M7,Sm q,<-eK,Fq];repeat(first|exact .nil|refine .u ?_|refine .eq rfl ?_)
    ·refine qN (bc _ (λy g=>?_));rcases Vd g with g|g
     ·exact T k y g
     ·grind
   ·refine fH 4 (aa 6) (c7 (bW (λQ H B=>B.le ?_))) ?_
    ·have I:pl (k+1)=pl k++(dO b s t x).1:=by
      show(RW (Qcu (bg b s t) (fg b s t)) QfV)=_;rw[Nh p,r]
     have J:Qcu (bg b s t) (fg b s t)=Zi (bg b s t) (fg b s t)++[dO b s t x]:=by
      rw[Sm p,n9];simp[r]
     rw[cp,I,J,bO];repeat(first|exact .nil|refine .u ?_|refine .eq rfl ?_)
    ·have:=lu (fg b s t) (T8 (bg b s t));rw[ak];exact qN Qa
  ·rw[mem]at m;have Y:=by simpa using m
   have r:fg b s t x=none:=by unfold fg;rw[Qs (O.mp Y)]
   refine c7 (bW (λQ H B=>B.le ?_));have I:pl (k+1)=pl k:=by
    show(RW (Qcu (bg b s t) (fg b s t)) QfV)=_;rw[Nh p,r,dR]
   have J:Qcu (bg b s t) (fg b s t)=Zi (bg b s t) (fg b s t):=by
    rw[Sm p,n9];simp[r]
   rw[I,J];repeat(first|exact .nil|refine .u ?_|refine .eq rfl ?_)
 ·refine d9 4 (aU (aa 4) (λv H' Z h=>Q_ Z));rw[cp,<-Nd a hs ht aq]at h;exact h
end
end DL
namespace DL
open PySem PySem.Spec L2 NT AT
open PyProof.Rows hiding St
section
variable{X:Cx}{H0 Hb:Hp}{O:QZ}{G:QO}{g:Bool}{A:a6}{pos p p':Pos}{D:Ends}{ss body:US}
def Fu(n:Nat)(R:Q5 Nat)(L T:Nat->QO){tg g}(q:RD)(hi:PI X tg g l)(ht:PG X tg m)
  (r:∀σ H R,Cf H0 Hb O G σ H->(∀J d,af H d->(∀k a H',k<n->Cf H0 (bs H0 O d) O (L k) a H'->J.go k H'/\ ∀x e,J.jl k H' x e-> ∀Q,(∀h i,Cf H0 (bs H0 O d) O (T k) h i->Q h i)->m x a e Q)->(∀a H',Cf H0 (bs H0 O d) O (L n) a H'->J.stop n H')->R J d)->l σ H R)
  (s:R 0)(h0:ff G (L 0))(t:∀j k,k<n->R k->Bl X H0 j O (T k) body {D with nx:=λσ H=>R (k+1)/\Cf H0 j O (L (k+1)) σ H,ct:=λσ H=>R (k+1)/\Cf H0 j O (L (k+1)) σ H,bk:=wB X ss D})(u:R n->Bl X H0 Hb O (L n) ss D)
  (hs:∀x,eB g Qg x=Ul:=by intro _;rfl)(v:fQ (aV Qr X.w) X.A Qg Q3:=by exact eN):Bl X H0 Hb O G (.For tg g body [] pos::ss) D:=
 dA (h_ v q hi ht fZ hs) (Vv (r σ H _ c (λJ d s1 o aq=>by
  have p:=Q0;exact E_ (λk a H'=>R k/\Cf H0 _ O (L k) a H') ⟨s,p.sR.le h0⟩ (λk a H' f b=>(o k a H' f b.2).1) (λa H' b=>aq a H' b.2) (λk a H' x e f b y=>(o k a H' f b.2).2 x e y _ (λh i w=>t _ k f b.1 _ _ w)) (λa H' b=>u b.1 _ _ (b.2.sn p.snap)))))
def Ni{n:Type}{xs:QR n}{fA}(i:Nat)(R:Q5 Nat)(L:Nat->QO)(F:RD)(hi:Ev X H0 O G h g (aL Qag))(I:gi=g\/(Qv gi/\ ∀x,Lf (fA x)))(ht:PG X tg (fo i))(J:R 0)(h0:ff G (L 0))
  (T:∀e k x,V4=Qz->R k->Bl X H0 e O ((L k).set i (.v gi (fA x))) body {D with nx:=λσ H=>R (k+1)/\Cf H0 e O (L (k+1)) σ H,ct:=λσ H=>R (k+1)/\Cf H0 e O (L (k+1)) σ H,bk:=wB X ss D})(K:R Qu->Bl X H0 Hb O (L Qu) ss D)
  (hs:∀x,eB h Qg x=Ul:=by intro _;rfl)(M:fQ (aV Qr X.w) X.A Qg Q3:=by exact eN):Bl X H0 Hb O G (.For tg h body [] pos::ss) D:=
 Fu _ R L (λk=>match xs[k]? with|some x=>(L k).set i (.v gi (fA x))|none=>[]) F (iT a7) ht (λσ H U c q=>hi Hb σ H _ c (λv o s1 N=>by
  obtain⟨t,b,rfl,hv,s⟩:=N;have V:WW=Qu:=by rw[bQ s,ak]
  have e_:∀ {k:Nat}{f:St}{d:Hp},Cf H0 (bs H0 O o) O (L k) f d->d t=RZ b:=λ{k f d}a=>by
   cases g with
   |true=>exact l5 ZR _ _ (a.snap _ _ hv)
   |false=>exact a.same _ _ hv
  refine Rn t (Qbu b (eI Q0 hv)) (q _ o s1 (λk f d u a=>?_) (λf d a=>Qh b (Q6 (e_ a)) Qa));obtain⟨x,hx⟩:∃x,V4=Qz:=⟨xs[k],cN u⟩;obtain⟨y,w,B⟩:=YF i1 s k (fA x);refine Qe ⟨b,y,Q6 (e_ a),w⟩ (λz S j Q r=>?_);obtain⟨rfl,j⟩:=j;have C:=j b (Q6 (e_ a));rw[w]at C;cases C;rw[hx]at r;have E:(fA x).p (gh g H0 O S) y:=by
   cases g with
   |true=>exact(fA x).m a.snap B
   |false=>exact B
  refine tp a ?_ r;rcases I with rfl|⟨rfl,l⟩
  ·exact E
  ·exact a.lift (l x) E)) J h0 (λe k u W=>by
  grind) K hs M
def agS{n:Nat}(i:Nat)(R:Q5 Nat)(L:Nat->QO)(h:RD)(j:X.mg TN=none)(l:Sn e n)(m:Y9<2^62)(ht:PG X tg (fo i))(o:R 0)(h0:ff G (L 0))
  (s:∀a k,k<n->R k->Bl X H0 a O ((L k).set i (Ra k)) body {D with nx:=λσ H=>R (k+1)/\Cf H0 a O (L (k+1)) σ H,ct:=λσ H=>R (k+1)/\Cf H0 a O (L (k+1)) σ H,bk:=wB X ss D})(t:R n->Bl X H0 Hb O (L n) ss D)(hg:Gl X TN:=by rfl)(d:a_ [e] Qg=U2:=by rfl)
  (hs:∀x,eB (XG TN [e] p') Qg x=Ul:=by intro _;rfl)(u:fQ (aV Qr X.w) X.A Qg Q3:=by exact eN):Bl X H0 Hb O G (.For tg (XG TN [e] p') body [] pos::ss) D:=
 Fu n R L _ h (JA hg j i0 d) ht (λσ H F c q=>xa l ao d Hb σ H _ c (λI w s1 z=>by
  obtain⟨v,rfl,b⟩:=fF z;subst b;refine⟨n,rfl,Qa,m,q _ w s1 (λk B C E f=>⟨by show k<(n:Int).toNat;simpa using E,λx J y Q r=>?_⟩) (λB C f=>by show(n:Int).toNat<=n;simp)⟩;obtain⟨rfl,rfl⟩:=y;exact tp f (by show V.int _= .int k;rw[Int.zero_add]) r)) o h0 s t hs u
def agT{lo hi:Nat}(i:Nat)(R:Q5 Nat)(L:Nat->QO)(m:RD)(n:X.mg TN=none)(o:Sn e lo)(s:Sn a hi)(u:QW lo<2^62)(w:QW hi<2^62)(ht:PG X tg (fo i))(z:R 0)(h0:ff G (L 0))
  (B:∀b k,k<hi-lo->R k->Bl X H0 b O ((L k).set i (Ra (lo+k:Nat))) body {D with nx:=λσ H=>R (k+1)/\Cf H0 b O (L (k+1)) σ H,ct:=λσ H=>R (k+1)/\Cf H0 b O (L (k+1)) σ H,bk:=wB X ss D})(C:R (hi-lo)->Bl X H0 Hb O (L (hi-lo)) ss D)(hg:Gl X TN:=by rfl)
  (j:a_ [e,a] Qg=[UY,Yb a]:=by rfl)(d:a_ [a] Qg=[Yb a]:=by rfl)
  (hs:∀x,eB (XG TN [e,a] p') Qg x=Ul:=by intro _;rfl)(E:fQ (aV Qr X.w) X.A Qg Q3:=by exact eN):Bl X H0 Hb O G (.For tg (XG TN [e,a] p') body [] pos::ss) D:=
 Fu _ R L _ m (abJ hg n i0 j d) ht (λσ H K c q=>xa o (xa s ao d) (by rw[j,d]) Hb σ H _ c (λM F s1 hv=>by
  cases hv with
  |cons f t=>cases t with
   |cons h t=>
    cases t;subst f h
    refine RF lo hi ⟨Qa,u,Qa,w⟩ (q _ F s1 (λk I J P l=>⟨by show k<(hi-(lo:Int)).toNat;omega,λx S y Q r=>?_⟩) (λI J l=>by show(hi-(lo:Int)).toNat<=hi- lo;omega));obtain⟨rfl,rfl⟩:=y;exact tp (A:=aI _) l (by show V.int _=_;rw[Int.natCast_add]) r)) z h0 B C hs E
end
open Vbdhaj(Sense sensesOf equals paired less lessText members)
abbrev Fv:Stmt:=top 24
abbrev Fw:Stmt:=top 76
abbrev Fx:Stmt:=top 77
abbrev Fy:Stmt:=top 78
def itself(b:Bo)(s t:Nat)(a:QU)(x:aw):Bool:=Ro ZQ a&&(av b s t x).any (λy=>Ro y.word a)
def Nj(C:Addr):Sp:=Su (Bo×Nat×Nat×QU) (Qez [a8 C b,aI s,aI t,aW (zs u)]) (λ(b,s,t,_)=>QE/\Q2/\aH b) (Qez (aB ((ae b s).any (itself b s t u))))
def Nl(C:Addr):Sp:=Su (Bo×Nat×Nat×QC×aw) (λ(b,s,t,a,y)=>[a8 C b,aI s,aI t,bw a,aX y]) (λ(b,s,t,_,_)=>QE/\Q2/\aH b) (λ(b,s,t,a,y)=>aB (a.all (λx=>b6 b s t x y)))
def Nm(C:Addr):Sp:=Su (Bo×Nat×Nat×QC) (Qch [a8 C b,aI s,aI t,bw a]) (λ(b,s,t,_)=>QE/\Q2/\aH b) (Qch (bw (eD b s t a)))
def Fz(b:Bo)(s t:Nat)(xs:QC):a6:=aT [bw (Cy b s t xs),bw (eD b s t xs)]
def FA(C:Addr):Sp:=Su (Bo×Nat×Nat×QC) (Qch [a8 C b,aI s,aI t,bw a]) (λ(b,s,t,_)=>QE/\Q2/\aH b) (Qch (Fz b s t a))
section
variable{P:aO}{w:aA}{K:au}{mg:QQ}{base:Heap}{f C:Addr}{fd:b_}
def agU{a:Type}{l:VQ}{x}(h:l[k]?=Qz)(p:S4 a):(YM l).any p=((Ui).any p||p x):=by rw[Sm h,List.any_append];simp
def agV{a:Type}{l:VQ}{x}(h:l[k]?=Qz)(p:S4 a):(YM l).all p=((Ui).all p&&p x):=by rw[Sm h,List.all_append];simp
def agW{ys:QC}:Ur (cT (zs u)) (XZ (λy=>cT (toS y).1))=ys.any (λy=>Ro y.word u):=by
 rw[gU,decide_eq_true_eq,cQ,kv];exact⟨λ⟨y,h,e⟩=>Qh y h (Ze (k_ (oW e))),λ⟨y,h,e⟩=>Qh y h (by rw[<-of_decide_eq_true e];rfl)⟩
def Ap:aY [Qk,"s","t","word","x","y"] [Qk,"s","t","word"] (aK Fv):=QF
def agX(F:aP K QeS QeS Fv f fd)(L:ef P w K mg base C):ay P w K mg base az 2 f fd [Qk,"s","t","word"] (Nj C):=by
 refine R4 Ap (.n ag (.n ag (.n Mf (.u (.u .e))))) (λr A outer z H E⟨b,s,t,u⟩a⟨hs,ht,g⟩=>Ni 4 (λk=>(T8 (ae b s)).any _=Qb) (λk=>[.v Qb _,Wv,Wv,Wv,.u,.u]) rfl (cB Rp L.bA a (b,s) (Qe hs g) (aa 0) (xa (aa 1) ao)) Qw (bS Ap.nd rfl QK) rfl RP (λB k x hx d=>?_) (λd=>by rw[cp]at d;refine aU qJ λv q l h=>⟨l,?_⟩;show(aB ((ae b s).any (itself b s t u))).p _ _;rw[d];exact h))
 ·have m:=bL hx;refine cW (k:=itself b s t u x) ?_ (λj=>by refine aU qJ λv q l h=>⟨l,?_⟩;have:=kv.mpr ⟨x,m,j⟩;show(aB ((ae b s).any (itself b s t u))).p _ _;rw[this];exact h) (λj=>by refine c7 (bW λG H c=>⟨by rw[agU hx,d,j];rfl,c.le ?_⟩);repeat(first|exact .nil|refine .u ?_|refine .eq rfl ?_))
  ·have e:itself b s t u x=(Ro (toS x).1 (zs u)&&Ur (cT (zs u)) (QG (av b s t x) (λy=>cT (toS y).1))):=by
    rw[agW];unfold itself;congr 1
    rw[gU,decide_eq_true_eq,decide_eq_true_eq];exact⟨λh=>by rw[<-h];rfl,λh=>k_ h⟩
   rw[e];refine l8 (nz (agF Sw (fG (aa 4) ai 0 rfl) (aa 3)) (λ_=>v8 (agA Sw (aa 3) Fg (Ev.eq (ik (nm:="y") rfl Ap.nd (cB Rp Xv a (b,s,t,x) ⟨hs,ht,m,g⟩ (aa 0) (xa (aa 1) (xa (aa 2) (xa (aa 4) ao)))) Qw (gI (g.hH ht)) (fc QB) (VB 5 Ap.nd) QgD (Qf9 (fG (aa 5) ai 0 rfl))) ?_) (RC Fg))))
   rw[(Zc)]
def Nn:aY [Qk,"s","t",Sr,"y","x"] [Qk,"s","t",Sr,"y"] (aK Fw):=QF
def agY(F:aP K Qfc Qfc Fw f fd)(L:ef P w K mg base C):ay P w K mg base az 3 f fd [Qk,"s","t",Sr,"y"] (Nl C):=by
 refine R4 Nn (.n ag (.n ag (.o (.n cK (.u .e))))) (λr A outer z H E⟨b,s,t,a,y⟩l⟨hs,ht,m⟩=>Ni 5 (λk=>Qv ((Y2).all (λx=>b6 b s t x y))) (λk=>[.v Qb _,Wv,Wv,.v Qb _,Wv,.u]) rfl (aa 3) Qaj (bS Nn.nd rfl QK) rfl RP (λB k x hx d=>cW (v7 (f6 (cB Rp L.we l (b,s,t,x,y) (Qh hs ht m) (aa 0) (xa (aa 1) (xa (aa 2) (xa (aa 5) (xa (aa 4) ao))))))) (λg=>by refine aU qJ λv q j h=>⟨j,?_⟩;have:(a.all λx=>b6 b s t x y)=false:=List.all_eq_false.mpr ⟨x,bL hx,by simpa using g⟩;show(aB _).p _ _;rw[this];exact h) (λg=>by refine c7 (bW λD H c=>⟨by rw[agV hx,d];simpa using g,c.le ?_⟩);repeat(first|exact .nil|refine .u ?_|refine .eq rfl ?_))) (λd=>by rw[cp]at d;refine aU qJ λv q j h=>⟨j,?_⟩;show(aB _).p _ _;rw[d];exact h))
def FC:aY [Qk,"s","t",Sr,"y"] [Qk,"s","t",Sr] (aK Fx):=QF
def agZ(F:aP K QeT QeT Fx f fd)(L:ef P w K mg base C)(g:aE P w K mg base 3 Qfc [Qk,"s","t",Sr,"y"] (Nl C)):ay P w K mg base az 4 f fd [Qk,"s","t",Sr] (Nm C):=R4 FC (.n ag (.n ag (.o (.u .e)))) (λk A outer l H E⟨b,s,t,a⟩d⟨hs,ht,c⟩=>aU (ik (nm:="y") rfl FC.nd (cB Rp L.bA d (b,t) (Qe ht c) (aa 0) (xa (aa 2) ao)) Qw (gI (c.bc t ht)) (fc QB) (VB 4 FC.nd) (λy _ D _ _ _ _ _=>v9 (f6 (Xd g d (b,s,t,a,y) hs ht c (xa (aa 1) (xa (aa 2) (xa (aa 3) (xa (aa 4) ao))))))) (Qf9 (aa 4))) (λv m j h=>Rw j))
def Np:aY [Qk,"s","t",Sr,Zy] [Qk,"s","t",Sr] (aK Fy):=QF
def ag0(F:aP K QdO QdO Fy f fd)(c:aE P w K mg base 4 QeT [Qk,"s","t",Sr] (Nm C)):ay P w K mg base az 5 f fd [Qk,"s","t",Sr] (FA C):=R4 Np (.n ag (.n ag (.o (.u .e)))) (λj A outer k H E⟨b,s,t,a⟩d⟨hs,ht,g⟩=>bG 4 (Xd c d _ hs ht g (xa (aa 1) (xa (aa 2) (xa (aa 3) ao)))) Np.nd (aU (l9 (xd (Xd c d (b,t,s,eD b s t a) ht hs g (xa (aa 2) (xa (aa 1) (xa (aa 4) ao)))) (xd (aa 4) bj))) (λv l i h=>Rw i)))
end
end DL
namespace DL
open PySem PySem.Spec L2 NT AT
open PyProof.Rows hiding St
open Vbdhaj(Sense sensesOf equals paired less lessText members rowsOut fields isField common closed)
abbrev FD:Stmt:=top 79
abbrev FE:Stmt:=top 80
abbrev FF:Stmt:=top 81
abbrev Fl:=QC×QC
def Nq:Sp:=el (λa=>[bw a]) (λa=>QP a 6) (λa=>aL (Q9 fT a bw))
def Aq:∀xs,Qx fT xs=2^Qu
 |[]=>rfl
 |x::r=>by
  show Qn (Q9 fT r _++fT r)=_;rw[b0,ak,Aq r,dh,Nat.pow_succ];omega
def Ar:∀ {xs r:List aw},r∈fT xs->r.Sublist xs
 |[],r,h=>by simp[fT]at h;subst h;exact .slnil
 |x::xs,r,h=>by
  rcases Vd h with h|h
  ·obtain⟨l,hl,rfl⟩:=RM h;exact .cons₂ _ (Ar hl)
  ·exact UP _ Ar h
def Au(h:n<=6):2^n<=64:=bp (rD QD h) QD
def le64(h:n<=64):n<=bq:=by rw[bK];omega
section
variable{P:aO}{w:aA}{K:au}{mg:QQ}{base:Heap}{f C:Addr}{fd:b_}
def tE:aY [Sr,"rows","x",UR] Xu (aK FD):=QF
def ag1(F:aP K "all_rows" "all_rows" FD f fd)(L:ef P w K mg base C):ay P w K mg base az 1 f fd Xu Nq:=by
 refine R4 tE (.u (.u (.u .e))) (λq A outer s H E a t hl=>?_);refine bG 1 (cE (xd (cE bj) bj)) tE.nd (MK 2 (λk=>[.v Qb _,Zt (Q9 fT (a.drop (Sj-k)) bw),.u,.u]) rfl L.rev (aa 0) Qaj (bS tE.nd rfl QgV) (by rw[Nat.sub_zero,List.drop_length];repeat(first|exact .nil|refine .u ?_|refine .eq rfl ?_)) (λy k x hx=>?_) (by refine aU (aa 1) λv I p h=>⟨p,?_⟩;rw[Nat.sub_self,uw]at h;exact h))
 ·have b:k<Sj:=by grind
  rw[BO b]at hx;obtain⟨d,g⟩:=Zh hx;have j:a.drop (Sj-(k+1))=x::a.drop (Sj-k):=by
   rw[show Sj-(k+1)=Sj-1-k by omega,BN d,g,show Sj-1-k+1=Sj-k by omega]
  have m:Qx fT (a.drop (Sj-k))<=64:=by rw[Aq];exact Au Qm
  have B:=Au Qa;refine bG 1 (nA (ik (nm:=UR) rfl tE.nd (aa 1) Qw (le64 m) (fc QB) (VB 3 tE.nd) (λr _ D _ _ _ _ _=>jW) (λr n _ D _ _ _ _ _=>nA (cE (xd (aa 2) bj)) (aa 3) Qw Qw (by have:=(Ar n).length_le;rw[uv]at this;exact gI (by simp;omega)))) (aa 1) Qw Qw (by rw[ak,ak,BL.mpr (by simp),bK];omega)) tE.nd (bW (λG H c=>c.le (by refine .eq rfl (.eq ?_ (.u Ry));rw[j,(Zc)];show _=X6 Sl.v (SA (Q9 fT (a.drop (Sj-k)) (λl=>x::l)++fT (a.drop (Sj-k))) bw);rw[bO,cq];rfl)))
def Av:aY [Qk,"s","t",Td,ZC,UT] QX (aK FE):=QF
def Aw(C:Addr):Sp:=Su (Bo×Nat×Nat) (U8 [a8 C b,aI s,aI t]) (U8 (QE/\Q2/\aH b/\QP (bg b s t) 6)) (U8 (SA (dW b s t) i5))
def len_pos{a:Type}{l:VQ}{f:a->a6}:QV (0<Qcl (R1 f))=!l.isEmpty:=by
 cases l<;>simp<;>omega
def ag2(F:aP K QcI QcI FE f fd)(L:ef P w K mg base C)(x:aE P w K mg base 2 QcB QX (XF i3 C (bw (bg b s t))))(y:aE P w K mg base 1 "all_rows" Xu Nq)(C3:aE P w K mg base 5 QdO [Qk,"s","t",Sr] (FA C)):
  ay P w K mg base az 6 f fd QX (Aw C):=by
 refine Us Av (U8 [.v Qb (a8 C b),Rr,RT,.u,.u,.u]) (.n ag (.n ag (.u (.u (.u .e))))) (λI A outer J H E⟨b,s,t⟩j⟨hs,ht,m,p⟩=>ec 3 bj Av.nd (λq=>eP 4 (λk=>[.v Qb (a8 C b),Rr,RT,.w q (QG (Uo (T8 (fT (bg b s t))) (kN b s t) (λg=>(g,eD b s t g))) i5),.u,.u]) rfl (Qas y j (bg b s t) p (Xd x j (b,s,t) hs ht m (xa (aa 1) (xa (aa 2) ao))) ao) Qw (bS Av.nd rfl QK) RP (λM k g hx=>?_) (by refine d9 3 (aU (aa 3) λv R G h=>⟨G,?_⟩);rw[cp]at h;exact h)))
 ·have r:Sd (YM (fT (bg b s t))) (kN b s t)=Sd (T8 (fT (bg b s t))) (kN b s t)++if kN b s t g=true then [g]else []:=by
   rw[(WS),n_,jK];rfl
  have N:=ft hx;refine bG 5 (x_call C3 j (b,s,t,g) (Qh hs ht m) (xa (aa 0) (xa (aa 1) (xa (aa 2) (xa (aa 4) ao)))) (A:=Fz b s t g)) Av.nd ?_;have z:kN b s t g=(Ro (closed b s t g) g&&(!g.isEmpty&&!(eD b s t g).isEmpty)):=by
   unfold kN;rw[gU];simp only[bX,decide_eq_true_eq,beq_iff_eq];exact⟨λ⟨a,c,d⟩=>Qh d a c,λ⟨d,a,c⟩=>Qh a c d⟩
  refine cW (k:=kN b s t g) (by rw[z];exact l8 (nz (agE j.units (fG (aa 5) ai 0 rfl) (aa 4)) (λ_=>nz (Et.eq (l7 (dZ Tq (aa 4)) ai) len_pos) (λ_=>v8 (Et.eq (l7 (dZ Tq (fG (aa 5) ai 1 rfl)) ai) len_pos))))) Qae Qae
  ·have B:closed b s t g=g:=by
    grind
   refine fH 3 (aa 5) (c7 (bW (λD H c=>c.le ?_))) ?_
   ·refine .eq rfl (.eq rfl (.eq rfl (.eq ?_ (.u Ry))));rw[r,Qp l,bO,bO];unfold Fz;rw[B];rfl
   ·rw[ak,ak];have O:=eX (kN b s t) (T8 (fT (bg b s t)));have Q:Qx fT (bg b s t)<=64:=by rw[Aq];exact Au p
    rw[bK];omega
  ·refine c7 (bW (λD H c=>c.le ?_));rw[r,l,(Xm),dR];repeat(first|exact .nil|refine .u ?_|refine .eq rfl ?_)
def FG:aY [UT,Vo,"x"] [UT,Vo] (aK FF):=QF
def tF(f g:Fl):Bool:=QV (YY<g.1.length)&&f.1.all (λx=>Ur x g.1)
def Nr:Sp:=Su (Fl×Fl) (λ(f,g)=>[i5 f,i5 g]) (λ(f,_)=>YY<=40) (λ(f,g)=>aB (tF f g))
def ag3(F:aP K Qfv Qfv FF f fd)(L:ef P w K mg base C):ay P w K mg base az 1 f fd [UT,Vo] Nr:=by
 refine R4 FG (.o (.u .e)) (λc A outer d H E⟨f1,g1⟩a hl=>?_);exact aU (Mt (Ev.eq (afL (dZ Tq (fG (aa 0) ai 0 rfl)) (dZ Tq (fG (aa 1) ai 0 rfl))) (by rw[Na])) (λ_=>j8 (EW rfl L.tm.all (Ev.eq (ik (nm:="x") (eA:=λx=>aB (Ur x g1.1)) rfl FG.nd (fG (aa 0) ai 0 rfl) Qaj (gI hl) (fc QB) (VB 2 FG.nd) (λx _ D _ _ _ _ _=>jW) (λx _ _ D _ _ _ _ _=>Ev.eq (agz Sw (aa 2) MX (fG (aa 1) ai 0 rfl) (RC MX)) (by simp [Ae]))) QgB)))) (λv j b h=>Rw b)
end
end DL
namespace DL
open PySem PySem.Spec L2 NT AT
open PyProof.Rows hiding St
section
variable{X:Cx}{H0 Hb:Hp}{O:QZ}{G:QO}{g:Bool}{A:a6}{pos p p':Pos}
def Nt(k:Nat)(pf:Yr):Sd (dd (k+1)) pf=Sd (dd k) pf++if pf k=true then [k]else []:=by
 rw[BU,n_,jK];rfl
def wo(X:Cx)(H0:Hp)(O:QZ)(G:QO)(f tg g:Expr)(h:Tc)(a:eT)(A:a6):Prop:= ∃(own:R_)(c:TI)(d:TG),PI X tg g c/\j2 X.N Sg a own/\
 (∀s H C cl i,PG (X.a' s H a (dw a cl C Qg) i) tg d)/\
 ∀Hb e H Q,Cf H0 Hb O G e H->(∀v b,af H b->A.p (bs H0 O b) v->Q v b)->y4 c d (bT X a h) (bE X a f) (own.map (·.2)) e H Q
def Nu(h:wo X H0 O G b tg c d a A)(i:RD)(j:X.N.Nodup)(hs:∀x,eB c Qg x=Ul:=by intro _;rfl):VY (X' b [U' tg c d] a pos) A:=by
 obtain⟨own,m,n,hi,ok,hg,h⟩:=h;exact cC (y6 i j hi ok hg (λs H C cl e f g k l Q I h=>h s H C cl e f g I) (λs H C cl e f g k l Q I h=>h s H C cl e f g I) hs) h
def ag4{n o}(i:Nat)(h:wo X H0 O G b tg d e a A)(p:RD)(q:X.N.Nodup)(r:Bl X H0 Hb O (S8 (Qa0 A)) m D)(hi:UC=Qz:=by rfl)(hl:X8 X x=Vj:=by rfl)
  (t:eZ (X' b [U' tg d e] a pos) (Qc (UB o)) n.line Qg=Sy true:=by rfl)(hs:∀x,eB d Qg x=Ul:=by intro _;rfl):Bl X H0 Hb O G (Qbm [UB o] (X' b [U' tg d e] a pos) n::m) D:=by
 obtain⟨own,z,B,u,ok,hg,h⟩:=h;exact dA (acS p q hi hl t u ok hg (λs H C cl f j k l w Q I h=>h s H C cl f j k I) (λs H C cl f j k l w Q I h=>h s H C cl f j k I) hs) (λl H c=>h Hb l H _ c (λv E s1 y=>r _ _ ((Q0).set y)))
def FH(n:Nat)(pf:Yr)(eA:Nat->a6)(T:Nat->QO){K}(hi:PI X tg I u)(hl:n<=bq)(ok:j2 X.N Sg b own)
  (hg:∀s H C cl a,PG (X.a' s H b (dw b cl C Qg) a) tg v)
  (S:∀l σ H R,Cf H0 l O G σ H->(∀J d,af H d->(∀k H',k<n->af d H'->J.go k H'/\∀x f,J.jl k H' x f->af H' f/\∀D acc,d D=none->f D=some (.lst acc)->∀Q,(∀o,Cf H0 l (D::O) (T k) o f->wipe o (own.map (·.2))=wipe σ (own.map (·.2))->Q o f)->v x (wipe σ (own.map (·.2))) f Q)->
   (∀H',af d H'->J.stop n H')->R J d)->u σ H R)
  (ht:∀k,k<n-> ∀D s H C cl a,sY (X.a' s H b (dw b cl C Qg) a) H0 (D::O) (T k) K (pf k))
  (U:∀k,k<n->QcQ pf-> ∀D s H C cl a,Qci (X.a' s H b (dw b cl C Qg) a) (D::O) (T k) F (eA k)):
  wo X H0 O G F tg I K b (aL (Uo (dd n) pf eA)):=by
 refine⟨own,u,v,hi,ok,hg,λl σ H Q c q=>S l σ H _ c (λJ d s1 L aq D i=>?_)⟩;have M:=Q0;refine Rv (λk m H'=>m=n-k/\k<=n/\af d H'/\ ∃acc,H' D=RZ acc/\bJ (bs H0 (D::O) H') acc (Uo (dd k) pf eA)) ⟨n,Qj,cG _,TL i,[],aC,.nil⟩;rintro k m H'⟨rfl,Z,s2,acc,p,r⟩;by_cases j:k<n
 ·refine Qy ⟨(L k H' j s2).1,λt=>af d t/\ ∃acc,t D=Qc _/\bJ _ acc _,λt h=>RF (n-(k+1)) Qa j h,λx f y=>?_⟩;obtain⟨s3,V⟩:=(L k H' j s2).2 x f y;have N:=s2.trans s3;refine V D acc i (s3 _ _ p) _ (λo P W=>Qe W (λw A C cl a=>ht k j D w A C cl a _ _ _ _ P (λH3 g=>?_)));cases B:pf k with
  |false=>
   refine oS ⟨QH N g,acc,g _ _ (s3 _ _ p),?_⟩;rw[Nt,B,(Xm),dR];exact r.m (fY (s3.trans g))
  |true=>
   refine oT (λw A C cl a=>U k j B D w A C cl a _ _ _ _ (QY P g) (λz H4 E Y=>⟨acc,E _ _ (g _ _ (s3 _ _ p)),?_,Vu (ZW N g E) i,acc++[z],aC,by rw[o6 (lq ..),Nt,B,if_pos rfl,bO];exact jT (r.m (fY ((s3.trans g).trans E))) Y⟩))
   ·have l1:acc.length<=k:=by
     rw[bQ r,ak];exact bp (eX _ _) Qm
    omega
 ·have e:k=n:=by omega
  subst e;exact Qq ⟨aq H' s2,q _ H' Rt (RF D acc (gF (M.o5 i) (by rw[eG (M.same.free i)];exact p)) (r.m sU))⟩
def Nv(n:Nat)(pf:Yr)(eA:Nat->a6)(T:Nat->QO){g tg e}(m:RD)(o:X.N.Nodup)(hi:PI X tg e i)(hl:n<=bq)(ok:j2 X.N Sg a own)
  (hg:∀s H C cl c,PG (X.a' s H a (dw a cl C Qg) c) tg j)
  (p:∀l σ H R,Cf H0 l O G σ H->(∀J d,af H d->(∀k H',k<n->af d H'->J.go k H'/\∀x b,J.jl k H' x b->af H' b/\∀D acc,d D=none->b D=some (.lst acc)->∀Q,(∀f,Cf H0 l (D::O) (T k) f b->wipe f (own.map (·.2))=wipe σ (own.map (·.2))->Q f b)->j x (wipe σ (own.map (·.2))) b Q)->
   (∀H',af d H'->J.stop n H')->R J d)->i σ H R)
  (ht:∀k,k<n-> ∀D s H C cl c,sY (X.a' s H a (dw a cl C Qg) c) H0 (D::O) (T k) h (pf k))
  (q:∀k,k<n->QcQ pf-> ∀D s H C cl c,Qci (X.a' s H a (dw a cl C Qg) c) (D::O) (T k) g (eA k))
  (hs:∀x,eB e Qg x=Ul:=by intro _;rfl):Vb (X' g [U' tg e h] a pos) aL (Uo (dd n) pf eA):=
 Nu (FH n pf eA T hi hl ok hg p ht q) m o hs
def Nw(h:i≠j)(u v:ZS):wipe (((wipe σ [i,j]).set i u).set j v) [i,j]=wipe σ [i,j]:=by
 show((((((σ.set j none).set i none).set i u).set j v).set j none).set i none)=(σ.set j none).set i none;rw[gV,gV,BX u none h,gV,gV]
def ag5{F:Type}{xs:QR F}{fA}{K}{M N P}(pf:Yr)(eA:Nat->a6)(hc:RD)(hm:X.mg Uw=none)(hN:X.N.Nodup)(S:i≠j)(hi:Ev X H0 O G e g (aL Qag))(hgi:gi=g\/(Qv gi/\ ∀x,Lf (fA x)))(hl:Qu<=bq)(ok:j2 X.N Sg a [(ni,i),(nj,j)])
  (hg:∀s H C cl b,PG (X.a' s H a (dw a cl C Qg) b) (Xe J K P) (CP X.K 2 (sg (fo i) (sg (fo j) yQ))))
  (ht:∀(k:Nat)x,V4=Qz->Qgn (sY (X.a' s H a (dw a cl C Qg) b) H0 (D::O) ((S8 (Ra k)).set j (.v gi (fA x))) L (pf k)))
  (he:∀k x,V4=Qz->QcQ pf->Qgn (Qci (X.a' s H a (dw a cl C Qg) b) (D::O) ((S8 (Ra k)).set j (.v gi (fA x))) I (eA k)))
  (hge:Gl X Uw:=by rfl)(U:a_ [e] Qg=U2:=by rfl)(hs:∀x,eB (UM (Wx Uw M) [e] N) Qg x=Ul:=by intro _;rfl):
  Vb (X' I [U' (Xe J K P) (UM (Wx Uw M) [e] N) L] a pos) aL (Uo (dd Qu) pf eA):=by
 refine Nv Qu pf eA (λk=>match xs[k]? with|some x=>(G.set i (.v true (aI k))).set j (.v gi (fA x))|none=>[]) hc hN (KH hge hm (bb a7 bh U) U) hl ok hg (λHb σ H R c q=>hi Hb σ H _ c (λv H1 s1 h1=>?_)) (λk n D s H C cl b=>Qm) (λk n o D s H C cl b=>Qm) hs
 ·obtain⟨t,d,rfl,hv,o⟩:=h1;have w:=Q0;have hlen:WZ=Qu:=by rw[bQ o,ak]
  have h:=eI w hv;refine RF t d (Q6 h) (q _ H1 s1 (λk f n s2=>?_) (λf s2=>Qh d (Q6 (s2 _ _ h)) Qa));obtain⟨x,hx⟩:∃x,V4=Qz:=⟨xs[k],cN n⟩;obtain⟨y,V,W⟩:=YF i1 o k (fA x);refine Qe ⟨d,y,Q6 (s2 _ _ h),V⟩ (λz H2 B=>?_);obtain⟨T,y',rfl,hT,rfl,B⟩:=B;have Y:=B d (Q6 (s2 _ _ h));rw[V]at Y;cases Y;have s3:af f (upd f T (.tup [QL k,y])):=TL hT;refine Qe s3 (λD acc Z hacc Q r=>?_);have c2:=w.own Z (s2.trans s3) hacc rfl;have hA2:(fA x).p (gh g H0 (D::O) (upd f T (.tup [QL k,y]))) y:=by
   cases g with
   |true=>exact(fA x).m (vW Z w.same (s2.trans s3)) W
   |false=>exact W
  have hA3:(fA x).p (gh gi H0 (D::O) (upd f T (.tup [QL k,y]))) y:=by
   rcases hgi with rfl|⟨rfl,l⟩
   ·exact hA2
   ·exact c2.lift (l x) hA2
  refine⟨T,_,rfl,cw.of aC,rfl,_,_,rfl,_,_,rfl,rfl,r _ ?_ (Nw S _ _)⟩;rw[hx];have c3:=((Qbg (Qbg c2.js j .u none (λq E=>nomatch E)).js i .u none (λq E=>nomatch E)).set (i:=i) (A:=aI k) (g:=true) rfl).set (i:=j) hA3;rw[gV,BX _ _ (fP S),gV]at c3;exact c3
end
open Vbdhaj(Sense sensesOf equals paired less lessText members)
abbrev FI:Stmt:=top 82
abbrev FJ:Stmt:=top 83
abbrev FK:Stmt:=top 84
abbrev dv(ns:QU):a6:=aL (Qcm (aI n))
abbrev i6(fs:WT):a6:=aL (fs.map i5)
structure tG(fs:WT):Prop where
 len:T7<=64
 l1:∀f∈fs,YY<=40
 l2:∀f∈fs,Qd8<=40
def FL(fs:WT)(f:Fl)(k:Nat):Bool:=match fs[k]? with
 |some g=>tF f g
 |none=>false
def dm(fs:WT):Qak:=fs.map (λf=>Sd (dd T7) (FL fs f))
def Ny:Sp:=el (λfs=>[i6 fs]) tG (λfs=>aL (Q9 dm fs dv))
section
variable{X:Cx}{H0 Hb:Hp}{O:QZ}{G:QO}{a b:Expr}{ga gb:Bool}{pos:Pos}{i:Int}{ns:Qo}
def qD(i:Int):Qdi (su S0 R6=Ur i ns)
 |[]=>rfl
 |n::ns=>by
  show(jm _ _||su _ _)=_;rw[qD i ns];have e:jm ZM S0=Ro i n:=by
   show(n==i)=_;by_cases h:n=i
   ·grind
   ·grind
  rw[e];by_cases h:i=n<;>simp[]
def Nz(ns:Qo):QaH R6 iW:=by rw[uy];exact hV.mpr Uy
def ag6(e:VU)(f:Ev X H0 O G b gb (a4 ns))(g:hY .In b=Qb:=by rfl):XM (Xx .In) (Ur i ns):=
 vX Kb e f g (λ_ _ _ _ _ _ c d h q=>by
  subst d;obtain⟨t,k,rfl,ht,j⟩:=h;rw[pI j]at ht;exact Qg2 t _ (ZZ (eI c ht)) (Nz ns) (by rw[if_neg (by decide),qD];exact q))
end
def NA(ns:QU):(Qcm (aI n))=Q9 ns.map (Qg7 Y9) aI:=by rw[cq];rfl
def ag7{k:Nat}{ns:QU}:(QW k∈Qcm Y9)↔k∈ns:=by
 grind
section
variable{P:aO}{w:aA}{K:au}{mg:QQ}{base:Heap}{f C:Addr}{fd:b_}
def tH:aY ["fields",Td,UT,Qb6,Vo] Wi (aK FI):=QF
def ag8(F:aP K Qfd Qfd FI f fd)(L:ef P w K mg base C)(b:aE P w K mg base 1 Qfv [UT,Vo] Nr):ay P w K mg base az 2 f fd Wi Ny:=by
 refine R4 tH (.u (.u (.u (.u .e)))) (λp A outer r H E fs d ok=>ec 1 bj tH.nd (λq=>eP 2 (λk=>[.v Qb _,.w q (QG (Q9 fs.take k _) dv),.u,.u,.u]) rfl (aa 0) Qw (bS tH.nd rfl QgV) RP (λs k f a=>?_) (by refine d9 1 (aU (aa 1) λv x n h=>⟨n,?_⟩);rw[cp]at h;exact h)))
 ·have m:=ft a;refine fH 1 (A:=dv _) ?_ (bW (λt H c=>c.le (by refine .eq rfl (.eq ?_ (.u (.u (.u .nil))));rw[take_snoc a,bO,bO];rfl))) (by rw[ak,ak,m.1];have:=ok.len;rw[bK];omega)
  ·refine ag5 (ni:=Qb6) (nj:=Vo) _ _ rfl L.tm.enumerate tH.nd QD (aa 0) Qw (le64 ok.len) (fc QB) (Qdk (oJ rfl (dQ (WC 3 tH.nd) (dQ (WC 4 tH.nd) jY)))) (λj g hg D _ _ _ _ _=>v9 (f6 (x_call b d (f,g) (ok.l1 f (bL a)) (xa (aa 2) (xa (aa 4) ao)) ?_))) (λj g hg _ D _ _ _ _ _=>aa 3);unfold FL;rw[hg]
def mi(P:Qak)(i:Nat):QU:=Sd (UO P []) (λj=>!(P.getD i []).any λk=>decide (j∈P.getD k []))
def tI(fs:WT):QbM Nat:=RW (dd T7) (λi=>Qcn (mi (dm fs) i) (i+1,j+1))
def wq(p:Nat×Nat):a6:=aT [aI p.1,aI p.2]
def NB:Sp:=el (λfs=>[i6 fs]) tG (λfs=>aL (Q9 tI fs wq))
def NC(h:i<T7):(dm fs)[i]?=Rz (dm fs).getD i []:=by
 have:i<Qx dm fs:=by unfold dm;rw[ak];exact h
 rw[jH,cN this];rfl
def ag9(h:j∈UO (dm fs) []):j<T7:=by
 rw[jH]at h;unfold dm at h;rw[cY]at h;cases e:fs[i]? with
 |none=>rw[e]at h;simp at h
 |some f=>grind
def FN(i:Nat):Tj (dm fs).getD i [] T7:=by
 rw[jH];unfold dm;rw[cY];cases e:fs[i]? with
 |none=>simp
 |some f=>grind
def Ax{a:Type}{l:VQ}{i:Nat}{x}(h:l[i]?=Qz)(f:a->a6):(l.map f)[i]?=RE f x:=by grind
def qV:aY ["fields","around",Td,Qb6,Vo,"third"] Wi (aK FJ):=QF
def aha(F:aP K Qfm Qfm FJ f fd)(L:ef P w K mg base C)(s:aE P w K mg base 2 Qfd Wi Ny):ay P w K mg base az 3 f fd Wi NB:=by
 refine Us qV (λfs=>[.v Qb (i6 fs),.u,.u,.u,.u,.u]) (.u (.u (.u (.u (.u .e))))) (λO A outer Q H E fs t ok=>?_);have y:=ok.len;refine bG 1 (Ud s t fs ok 0) qV.nd (ec 2 bj qV.nd Wk);have R:∀i,Tj mi (dm fs) i 64:=λi=>bp (eX _ _) (bp (FN i) y);have z:∀l:List Nat,YB l (λi=>Qcn (mi (dm fs) i) (i+1,j+1))<=64*QT:=by
  intro l;induction l with
  |nil=>simp
  |cons x l S=>
   grind
 refine agn 3 (λk=>[.v Qb (i6 fs),Zt (Q9 dm fs dv),.w q (Q9 (dd k).flatMap (λi=>Qcn (mi (dm fs) i) (i+1,j+1)) wq),.u,.u,.u]) rfl L.range (Ev.eq (dZ Tq (aa 0)) WE) Qa (bS qV.nd rfl QgW) RP (λB k G=>?_) ?_
 ·have I:=NC G;have b:=Ax I dv;refine eP 4 (λj=>[.v Qb (i6 fs),Zt (Q9 dm fs dv),.w q (QG (RW (dd k) (λi=>Qcn (mi (dm fs) i) (i+1,j+1))++Uo (Rf (RG (dm fs) k []) j) QeF (λj=>(k+1,j+1))) wq),Ra k,.u,.u]) rfl (aM (aa 1) (aa 3) k b) Qw (bS qV.nd rfl QgV) ?_ (λB j m d=>?_) ?_
  ·rw[rA,List.filter_nil,jg,dR];repeat(first|exact .nil|refine .u ?_|refine .eq rfl ?_)
  ·have T:=ft d;have U:=FN (fs:=fs) k;have p:Sd (Qdp (RG (dm fs) k []) j) QeF=Sd (Rf (RG (dm fs) k []) j) QeF++if(!((dm fs).getD k []).any λn=>decide (m∈(dm fs).getD n []))=true then [m]else []:=by
    rw[Sm d,n_,jK];rfl
   refine cW (k:=!((dm fs).getD k []).any λn=>decide (m∈(dm fs).getD n [])) ?_ (λa=>?_) (λa=>?_)
   ·refine v7 (f6 (af9 rfl L.any (Ev.eq (ik (nm:="third") (eA:=λn=>aB (Ur m (RG (dm fs) n []))) rfl qV.nd (aM (aa 1) (aa 3) k b) Qw (le64 Qa) (fc QB) (VB 5 qV.nd) (λn _ D _ _ _ _ _=>jW) (λn J _ D _ _ _ _ _=>Ev.eq (ag6 (aa 4) ((aM (aa 1) (aa 5) n (Ax (NC (ag9 J)) dv)).eq (by show aL _=aL _;rw[NA]))) ?_)) ?_)))
    ·simp only[ag7]
    ·rw[(Zc)]
   ·refine fH 2 (l9 (xd (jt (aa 3) ai) (xd (jt (aa 4) ai) bj))) (c7 (bW (λr H c=>c.le ?_))) ?_
    ·refine .eq rfl (.eq rfl (.eq ?_ (.eq rfl (.u Ry))));rw[p,(VR)];simp[wq]
    ·rw[ak,b0,ak];have M:=z (dd k);have V:=eX QeF (Rf (RG (dm fs) k []) j);rw[pQ]at M;rw[bK];omega
   ·refine c7 (bW (λr H c=>c.le ?_));rw[p,a,(Xm),dR];repeat(first|exact .nil|refine .u ?_|refine .eq rfl ?_)
  ·refine bW (λr H c=>c.le ?_);rw[cp,BU,ly];rw[show(RW [k] (λi=>Qcn (mi (dm fs) i) (i+1,j+1)))=Qcn (mi (dm fs) k) (k+1,j+1)by simp];repeat(first|exact .nil|refine .u ?_|refine .eq rfl ?_)
 ·exact d9 2 (aU (aa 2) (λv W N h=>Rw N))
def d4(f:Fl):XW:=f.1.flatMap (λx=>f.2.map X0)
def wt(p:aw×aw):a6:=aT [aX p.1,aX p.2]
def ND:Sp:=Su Fl (λf=>[i5 f]) (λf=>YY<=40/\Qd8<=40) (λf=>aL (Q9 d4 f wt))
def Ay{f:Fl}(a:YY<=40)(b:Qd8<=40):∀l:List aw,YB l (λx=>f.2.map X0)<=40*QT:=by
 intro l;induction l with
 |nil=>simp
 |cons x l c=>grind
def Az:aY [UT,Td,"x","y"] [UT] (aK FK):=QF
def ahb(F:aP K "pairs_of" "pairs_of" FK f fd):ay P w K mg base az 1 f fd [UT] ND:=by
 refine R4 Az (.u (.u (.u .e))) (λn A outer p H E f1 r⟨b,d⟩=>ec 1 bj Az.nd (λq=>eP 2 (λk=>[.v Qb _,.w q (Q9 (f1.1.take k).flatMap _ wt),.u,.u]) rfl (fG (aa 0) ai 0 rfl) Qaj (bS Az.nd rfl QK) RP (λg k x hx=>?_) (by refine d9 1 (aU (aa 1) λv B m h=>⟨m,?_⟩);rw[cp]at h;exact h)))
 ·have s:=ft hx;refine eP 3 (λj=>[.v Qb _,.w q (QG (RW (f1.1.take k) (λx=>f1.2.map X0)++Q9 f1.2.take j X0) wt),Wv,.u]) rfl (fG (aa 0) ai 1 rfl) Qaj (bS Az.nd rfl QK) (by rw[rA,jg,dR];repeat(first|exact .nil|refine .u ?_|refine .eq rfl ?_)) (λg j y a=>?_) (by refine bW λl H c=>c.le ?_;rw[cp,take_snoc hx,ly,show([x].flatMap _)=f1.2.map λy=>(x,y)by simp];repeat(first|exact .nil|refine .u ?_|refine .eq rfl ?_))
  ·have t:=ft a;refine fH 1 (l9 (xd (aa 2) (xd (aa 3) bj))) (bW (λl H c=>c.le ?_)) ?_
   ·refine .eq rfl (.eq ?_ (.eq rfl Ry));rw[Sm a];simp[wt]
   ·rw[ak,b0,ak];have z:=Ay b d (f1.1.take k);rw[bK];omega
end
end DL
namespace NT
open PySem PySem.W PySem.Spec PyProof.Rows
section
variable{prog:aO}{w:aA}{A:di}{E:SR}{s:bH}
def ahc:uP (SV "list_reverseiterator") "__len__"=Sy none:=by kernel_rfl
def ahd:uP (SV "list_reverseiterator") "__length_hint__"=Sy (YA "list_reverseiterator.__length_hint__"):=by kernel_rfl
def ahe(m:VH=none)(I:Addr)(n:l≠I):
  Walks prog w A I [I,l] [I] VG (λi v=>QeI=Rg) (λi h=>i<=VG/\h.IsRevIter I l (VG-1-i)/\h.IsList l Vt)where
 sub:=λb a=>by simp at a;simp[a]
 frame:=λ_ _ _ st g=>⟨st.1,Yg st.2.1.at (g I Qj o e),let⟨o,ho,r⟩:=st.2.2;⟨o,g l (by simp) o ho,r⟩⟩
 item:=λi s Q E hi st c=>by
  obtain⟨t,hit,hl⟩:=st;obtain⟨x,hx⟩:∃x,QeI=Qz:=Z2 (items[items.size- 1- i]);have d:VG-1-i=QW (VG-1-i:Nat):=by omega
  rw[d]at hit;refine wpAny_pyNext_rev_item hit hl hx (λf j k=>?_);have p:(VG-1-i:Nat)-1=VG-1-QW (i+1):=by omega
  rw[p]at j;exact c x f _ hx ⟨hi,j,let⟨o,ho,r⟩:=hl;⟨o,(k.2 l n).trans ho,r⟩⟩ (Qcs (k.extBut b o (λh=>a QcH) e))
 done:=λs Q E st c=>by
  obtain⟨_,hit,_⟩:=st;have d:VG-1-QW VG= -1:=by omega
  rw[d]at hit;exact wpAny_pyNext_rev_end m hit (λf q=>c f _ (Qcs (q b o (λh=>a QcH) e)))
 self:=λ_ _ _ _ st c=>xY st.2.1 c
def ahf(q:VH=none)(r:l≠I)(hit:s.heap.IsRevIter I l (VG-1))(hl:Qco s l Vt)(S:Addr)(h:S≠I)(t:S≠l)(j:aJ)(k:Nat)(u:RV S=Qc {cls:= SW,data:= .seq (#[]) k})
  (hR:∀h' tk d c,(RN (b≠S->b≠I->Th=Qi->T_=Qi))->V5 S=Qc {cls:= SW,dict:=none,data:= .seq d c,slots:=#[]}->ItemsOf (λi v=>QeI=Rg) d VG->R (.ok (.ret j)) Xg)(x:VG<=bq):
  aj QA UZ (IG (Q1 S) (Q1 I) j) (λy a=>match y with| .done f=>R (.ok f) a| .again c=>c.quiet=true/\lG (aV prog w) A c R a) (λe a=>R Qb0 a) s:=by
 have g:=hit.typeIs
 unfold IG;refine ab (ye g ?_);have B:U7 IH S (Q1 I)=Qb:=by simp[IH,h]
 rw[Qs (by rw[B];decide)];refine ab (xY hit (ab (fj ?_)));refine ab (mN g ahc ?_);refine ab (mN g ahd ?_);generalize m:("list_reverseiterator.__length_hint__")=C;wp_delta;subst m;refine ab (kC (b:=true) g VE (ah ?_));refine ah ⟨yc PySem.F.plain_extend_loop _,codeAny_extend_loopS (ahe (prog:=prog) (w:=w) (A:=UZ) (items:=Vt) q I r).toS x _ (by simp[h,t]) _ _ 0 _ (#[]) k rfl (cG _) ⟨cG _,by simpa using hit,hl⟩ u (ItemsOf.nil _) (λa d c n D E=>?_)⟩;rw[Moved.eq_with n];refine hR _ _ d c (λb o F H e=>n.heap b o (λp=>?_) e) D E;rcases RA p with G|p
 ·exact F G
 ·grind
def ahg(h:VH=none)(j:l≠I)(hit:s.heap.IsRevIter I l (VG-1))(hl:Qco s l Vt)(k:VG<=bq)
  (m:∀h' tk a d,(RN (b≠I->Th=Qi->T_=Qi))->V5 Qt=Qc {cls:= SW,dict:=none,data:= .seq a d,slots:=#[]}->ItemsOf (λi v=>QeI=Rg) a VG->Q UA Xg):
  aj QA A (call SW [Q1 I]) Q E s:=by
 refine callType_codes (Q₁:=λobj g=>obj=WQ/\g=Qcx) PySem.F.called_list (PySem.F.typeCall_list_1 _) PySem.F.entry_list_init (code_list_new _ Vh) (λobj g n=>?_)
 obtain⟨rfl,rfl⟩:=n;have c:R0 (S5 _) _=Qc {cls:= SW,data:= QfB .seq}:=cH _ rfl;have q:=let⟨o,ho,_⟩:=hl;bx ho;refine Rv (Sz _ c) (PySem.F.args_list_init_2 _ _);refine ab ?_;refine ab (x_ c rfl (ah ?_));refine ab (wpAny_updateSeq c rfl ?_);have f:RN (Th=Qi->R0 ((S5 {cls:= SW,data:= QfB .seq}).update _ (g6 (RC (#[])))) b=Qi):=
  Q4 (QH (I0 _ _ (lC (bx e))) (bM _ e))
 refine ab (wpAny_letGo (ahf (A:=UZ) h j (Yg hit.at (f _ _ e)) (let⟨o,ho,r⟩:=hl;⟨o,f _ _ ho,r⟩) _ (lC (let⟨o,ho,_⟩:=hit;bx ho)) (lC q) Sf _ (oq _ c rfl) (λh' tk a d u x y=>RL (m h' tk a d (λb o z e=>u b o (b9 (bx e)) z (f b o e)) x y)) k))
end
end NT
namespace L2
open PySem PySem.Spec PyProof.Rows
def ahh(K:au)(te:TE):TE:=λd H Q=>te d H (λx b=> ∃(a:Addr)(c:List V),x=QS/\bF K b a c/\ ∀l,b l=none->R3 l (SG b l c.reverse))
def ahi:gY Rq=Qbq Rq:=by decide+kernel
def ahj(r:ZO)(hl:acc.length=QaR)(h:∀i v,acc[i]?=Rg->us[us.length- 1- i]?=Rg):RX xs.reverse acc:=by
 have e:acc=us.reverse:=by
  apply iE;intro i;by_cases hi:i<QaR
  ·grind
  ·grind
 subst e;clear h hl;induction r with
 |nil=>exact .nil
 |cons r t a=>rw[xF,xF];exact Vals.append a (Zf r)
def ahk{p m D n}(E:RD)(F:Gl X Rq)(G:X.mg Rq=none)(J:Gl X Ux)(K:X.mg Ux=none)(L:PE X e te)(hs:a_ [e] Qg=U2:=by rfl)
  (y:a_ [UM (Wx Ux m) [e] n] Qg=[Yb (UM (Wx Ux m) [e] n)]:=by rfl):PE X (XG Rq [UM (Wx Ux m) [e] n] D) (ahh X.K te):=by
 refine λj s q H Q I h=>pY (lO I F G ahi (pV ?_ y rfl));refine rR (aR (Q:=λu s2=> ∃(a:Addr)(d:List V)(c:Hp)(s1:bH)(f:List aJ),u=Q1 Zw/\s2={s1 with heap:=s1.heap.push (revObj a (f.toArray.size- 1))}/\Inv X j q c s1/\bF X.K c a d/\RX d f/\PlainL s1.heap a (U4 f)/\QP d bq/\ ∀l,c l=none->R3 l (SG c l d.reverse)) (by refine Call_ (lO I J K Kz (pV ?_ hs rfl));rw[hs];refine rR (aR (L j s q H _ I h) (λu s1⟨x,c,g,N,a,d,ex,t,q1⟩=>uV ?_));subst ex;cases N;obtain⟨f,k,pl,z⟩:=g.list t;exact call_reversed_list QaS ⟨a,d,c,s1,f,rfl,rfl,g,t,k,pl,z,q1⟩) (λu s2 M=>uV ?_))
 ·obtain⟨a,d,c,s1,f,rfl,rfl,g,t,k,pl,z,q1⟩:=M;have A:Inv X j q c {s1 with heap:=s1.heap.push (revObj a (f.toArray.size- 1))}:=g.kept (λb ob e=>bM _ e);have hlen:=k.length;refine NT.ahg (QhF g E) (b9 (let⟨o,_,ho,_⟩:=pl;bx ho)) (Zp _ (cH _ rfl)) (let⟨o,ho,r⟩:=pl.isList;⟨o,bM _ ho,r⟩) Qm (λP R B S T U C=>?_);have Y:∀b∈[s1.heap.objs.size],jZ X j c b:=λb w=>by
   have e:=by simpa using w
   subst e;exact g.oK (aQ _) (X9 g (aQ _))
  have Z:RX _ (TH B):=ahj k (by rw[mF,C.1,lz]) (λi v e=>by
   have:=C.2 i v Qm;simpa using this)
  refine Rl WQ _ (A.Du (λb o w e=>T b o (by simpa using w) e) Y (aQ _) (show d6 _ X.w _ P _ (.lst _)from⟨by grind,B.toList,S,Z,?_⟩)) (q1 _ (X9 A (aQ _)));exact U
end L2
namespace DL
open PySem PySem.Spec L2 NT AT
open PyProof.Rows hiding St
open Vbdhaj(Sense sensesOf equals paired less lessText members)
def NF:Sp:=el (λa=>[aD a]) (λa=>(a.map (·.1)).Nodup/\a.length<=200000) (λa=>aD (er (a.map (·.1))))
def ahl{A:a6}(hz:∃g k,a d=XA g (.dT k))(hl:∀b,b≠d->a b=c b)(sl:af a H')(i:A.p (cut a H') v)(h:∀b,b≠d->f b=H' b)(j:af c f):A.p (cut c f) v:=by
 obtain⟨g,k,hz⟩:=hz;refine A.m Qfp i;rcases j6 e with⟨g1,g2⟩|⟨l,rfl,g1⟩
 ·have hx:x≠d:=λz=>by rw[z,hz]at g1;cases g1
  rw[eG (by rw[<-hl x hx];exact g1),h x hx];exact g2
 ·exact k7 j (by rw[h x (λz=>by rw[z,hz]at g1;cases g1)];exact sl _ _ g1)
def ahm{a:Type}[Qbl a]{l:VQ}(nd:l.Nodup){x}(h:l[k]?=Qz):x∉Ui:=λc=>by
 have b:=nd.sublist (rr (k+1) l);rw[Sm h]at b;exact(je.mp b).2.2 x c x Qj rfl
section
variable{P:aO}{w:aA}{K:au}{mg:QQ}{base:Heap}{f C:Addr}{fd:b_}
def ahn(F:aP K QbQ QbQ zY f fd):ay P w K mg base az 1 f fd QbJ NF:=by
 refine R4 ma (.u (.u (.u .e))) (λcdv A outer sh H E a Q⟨nd,hl⟩=>?_);intro l G m;obtain⟨_,I,v0,rfl,d,rfl,r⟩:=m.sl 0 _ rfl;have same:=m.same;have J:Rd G d _:=r.elim (λh=>Qq (same _ _ h)) (λ⟨o,h⟩=>WA o (same _ _ h));have L:=m.len;refine Aa J (Pr:=λg v s=>(aD (er (a.map (·.1)))).p (cut g s) v) (λg t⟨R,f1⟩=>?_) (λg v s S t M sl T N hd=>?_);rotate_left
 ·have z:af G S:=λx o e=>by
   by_cases hx:x=d
   ·rw[hx,hd,<-hx];exact e
   ·rw[N x hx];exact sl _ _ (by rw[t x hx];exact e)
  exact⟨same.trans z,a6.m _ (Md same z) (ahl (Qh M.choose _ M.choose_spec) t sl T N z)⟩
 have O:Cf g Tb [] [.v Qb (aF a),.u,.u,.u] l g:=by
  refine⟨RK,(Q4 QbI),λq U=>(by simp at U),by rw[<-L];rfl,λi sl hi=>?_,λi j q hi hj=>?_,jf⟩
  ·obtain⟨y,B⟩:∃y,l[i]?=V7:=⟨l[i]'(by rw[<-L];exact(Ij.mp hi).1),cN _⟩;match i,hi with
   |0,hi=>cases hi;exact⟨_,I,_,rfl,d,R,rfl,f1⟩
   |1,hi=>cases hi;exact Qh y B RQ
   |2,hi=>cases hi;exact Qh y B RQ
   |3,hi=>cases hi;exact Qh y B RQ
  ·match i,hi with
   |0,hi=>cases hi
   |1,hi=>cases hi
   |2,hi=>cases hi
   |3,hi=>cases hi
   |n+4,hi=>cases hi
 refine(?_:Bl _ g _ [] _ _ _) l g O;have X:∀C,Qx er C=Qn C:=λC=>by unfold er;rw[ak,List.length_zipIdx]
 refine sZ 1 ma.nd (λq=>bG 2 ai ma.nd (E' 3 (λk=>[.v false _,.d q (er ((a.map (·.1)).take k)),.v true (aI (2^k:Nat)),.u]) rfl (aa 0) (bS ma.nd rfl (uG rfl)) (by repeat(first|exact .nil|refine .u ?_|refine .eq rfl ?_)) (λHs k D w0 hk=>?_) (by refine v_ 1 (aU (aa 1) λv s s' h=>⟨s',?_⟩);have:(a.map (·.1)).take a.length=a.map (·.1):=ur (by rw[ak];omega);rw[this]at h;exact h)))
 ·have hx:(a.map (·.1))[k]?=some D:=by grind
  have ht:=ft hx;rw[ak]at ht;have Y:D∉((er ((a.map (·.1)).take k)).map (·.1)):=by
   rw[ME];exact ahm nd hx
  refine s_ 1 Q.units (aa 3) Yl (aa 2) Yl (bG 2 (vY (aa 2) ai (MI _)) ma.nd (bW (λl H c=>c.le ?_))) ?_;rotate_left
  ·rw[X,ht.1,bK];omega
  have Z:putK (er ((a.map (·.1)).take k)) D (V.int (2^k:Nat))=er ((a.map (·.1)).take (k+1)):=by
   rw[lV Y,(WS),MF,ht.1]
  have e2:(2^k:Nat)*2=QW (2^(k+1):Nat):=by omega
  exact .eq rfl (.eq (by rw[Z]) (.eq (by rw[<-e2]) Ry))
abbrev FO:Stmt:=top 85
abbrev FP:Stmt:=top 86
def f7(p:aw×aw):Nk:= Zm (c8 p.1) (c8 p.2)
def FQ(h:f7 p=f7 q):p=q:=by
 injection h with h1 h2;injection h2 with h2 _;exact uH (lh h1) (lh h2)
def NG(x:aw):Qdu (c8 x)/\QJ kP (c8 x)/\dp (c8 x)=2:=by
 obtain⟨b,c,a⟩:=sO _;refine Rv (d_ (vM _)).1 (d_ (vM _)).2.1;show max _ _=2;rw[a];rfl
end
def aho(p:aw×aw):TY (f7 p):=by
 obtain⟨a,g,b⟩:=NG p.1;obtain⟨c,h,d⟩:=NG p.2;have e:Qdu (f7 p):=by
  show Qv (NT.ok _&&(true&&(NT.ok _&&(true&&true))));rw[a,c];rfl
 have f:dp (f7 p)=3:=by
  show max _ (max _ 1)=3;rw[b,d];rfl
 unfold good;rw[e,f];rfl
def NH:me (wt p) (f7 p):=λH v h=>by
 obtain⟨t,e,rfl,ht,a⟩:=h;cases a with
 |cons r a=>cases a with
  |cons b a=>
   cases a;obtain⟨f,rfl,c⟩:=Cz r;obtain⟨g,rfl,d⟩:=Cz b;exact⟨t,rfl,aho p,t,_,_,rfl,ht,c.2,_,_,rfl,d.2,rfl⟩
def wu(l:XW)(y:aw×aw):XW:=if y∈l then l else l++[y]
def jx(l:XW):Xp:=R1 (λy=>(f7 y,V.bl true))
def AA(l:R_):(jx l).map (·.1)=l.map f7:=by unfold jx;rw[cq];rfl
def NI{ys:R_}:f7 x∈XZ f7↔x∈ys:=by
 rw[cQ];exact⟨λ⟨y,a,e⟩=>FQ e▸a,λh=>Sz x h⟩
def ahp(l:R_)(y:aw×aw):putK (jx l) (f7 y) (.bl true)=jx (wu l y):=by
 unfold wu;split
 ·rename_i h;unfold putK;rw[Qp (by rw[sy,zS,AA];exact decide_eq_true (NI.mpr h))];unfold jx;rw[cq];apply iG;intro z _;show(if f7 z=f7 y then(f7 z,V.bl true)else(f7 z,V.bl true))=_;split<;>rfl
 ·rename_i h;rw[lV (by rw[AA];exact λz=>h (NI.mp z))];unfold jx;rw[bO];rfl
def i7(l:XW):XW:=l.foldl wu []
def NJ(l:R_)(y:aw×aw):i7 (l++[y])=wu (i7 l) y:=by unfold i7;rw[iD];rfl
def AB(l:R_):S7 (i7 l)/\Qx i7 l<=QT/\ ∀y,y∈i7 l↔y∈l:=by
 have:∀n l,QT=n->S7 (i7 l)/\Qx i7 l<=QT/\ ∀y,y∈i7 l↔y∈l:=by
  intro n;induction n with
  |zero=>intro l h;have:=pP h;subst this;exact⟨jf,aQ _,λy=>jG⟩
  |succ n c=>
   intro l h;have b:l≠[]:=QgC
   obtain⟨a,z,rfl⟩:∃a z,l=a++[z]:=Qh l.dropLast (l.getLast b) (um b).symm;obtain⟨d,f,g⟩:=c a QeQ;rw[NJ];unfold wu;split
   ·grind
   ·grind
 exact this _ l rfl
def gK(fs:WT):XW:=i7 (fs.flatMap d4)
def mj(fs:WT)(f:Fl):Nat:=il (Q9 d4 f (λp=>(gK fs).idxOf p))
def cV(fs:WT):QU:=fs.map (mj fs)
def NK:Sp:=el (λfs=>[i6 fs]) tG (λfs=>dv (cV fs))
section
variable{P:aO}{w:aA}{K:au}{mg:QQ}{base:Heap}{f C:Addr}{fd:b_}
def NL(ok:tG fs):∀l:List Fl,(∀f∈l,f∈fs)->YB l d4<=1600*QT:=by
 intro l;induction l with
 |nil=>simp
 |cons f l b=>
  intro h;have a:=h f Ru;have d:=ok.l1 f a;have e:=b (YL (h g (bP _ hg)));have i:Qx d4 f<=40*YY:=(Ay (ok.l1 f a) (ok.l2 f a) f.1);rw[lA,b0,dh];omega
def nJ:aY ["fields","met",UT,"both","bits",Xq] Wi (aK FO):=QF
def ahq(F:aP K Qe5 Qe5 FO f fd)(L:ef P w K mg base C)(t:aE P w K mg base 1 "pairs_of" [UT] ND)(J:aE P w K mg base 1 QbQ QbJ NF):ay P w K mg base az 2 f fd Wi NK:=by
 refine Us nJ (λfs=>[.v Qb (i6 fs),.u,.u,.u,.u,.u]) (.u (.u (.u (.u (.u .e))))) (λV A outer W H E fs r ok=>?_);have X:=ok.len;have x:∀l,Qx jx (i7 l)<=QT:=λl=>by unfold jx;rw[ak];exact(AB l).2.1
 refine sZ 1 nJ.nd Wk;refine eP 2 (λk=>[.v Qb (i6 fs),.d q (jx (i7 (RW (fs.take k) d4))),.u,.u,.u,.u]) rfl (aa 0) Qw (bS nJ.nd rfl QgW) RP (λy k f m=>?_) ?_
 ·have a:=bL m;have B:=ft m;have l1:=NL ok (fs.take k) (YL (jd hg));have l2:=Ay (ok.l1 f a) (ok.l2 f a) f.1;have M:Qx d4 f<=40*YY:=l2;have N:=ok.l1 f a;refine eP 3 (λj=>[.v Qb (i6 fs),.d q (jx (i7 (RW (fs.take k) d4++Rf (d4 f) j))),.v Qb (i5 f),.u,.u,.u]) rfl (Ud t r f ⟨ok.l1 f a,ok.l2 f a⟩ 2) Qw (bS nJ.nd rfl (by first|exact uG rfl|exact eM rfl)) ?_ (λy j p b=>?_) ?_
  ·rw[rA,dR];repeat(first|exact .nil|refine .u ?_|refine .eq rfl ?_)
  ·refine s_ 1 r.units (aa 3) (λ_ _ h=>NH _ _ h) qJ Yl (bW (λG H s=>s.le ?_)) ?_
   ·rw[ahp,Sm b,<-eK,NJ];repeat(first|exact .nil|refine .u ?_|refine .eq rfl ?_)
   ·have O:=x (RW (fs.take k) d4++Rf (d4 f) j);have Y:=ft b;rw[b0]at O;rw[bK];omega
  ·refine bW (λG H s=>s.le ?_);rw[cp,Sm m,ly];rw[show RW [f] d4=d4 f by simp];repeat(first|exact .nil|refine .u ?_|refine .eq rfl ?_)
 ·rw[cp];have Z:=NL ok fs (YL hg);have hlt:=x (fs.flatMap d4);have I:S7 (gK fs):=(AB _).1;have Q:((jx (gK fs)).map (·.1)).Nodup:=by
   rw[AA];exact We (I.imp (Wh (FQ e)))
  refine v_ 1 (bG 4 (x_call J r (jx (gK fs)) ⟨Q,by show(jx (i7 _)).length<=_;omega⟩ (xa (aa 1) ao) (by show aD _=_;rw[AA])) nJ.nd (ec 5 bj nJ.nd (λR=>?_)));refine eP 2 (λk=>[.v Qb (i6 fs),.u,.u,.u,TX aD (er (Q9 gK fs f7)),.w R (Qbv (Q9 fs.take k (mj fs)) (aI n))]) rfl (aa 0) Qw (bS nJ.nd rfl (by first|exact uG rfl|exact eM rfl)) RP (λy k f m=>?_) ?_
  ·have a:=bL m;have B:=ft m;have M:Qx d4 f<=40*YY:=Ay (ok.l1 f a) (ok.l2 f a) f.1;have N:=ok.l1 f a;have S:∀p∈d4 f,p∈gK fs:=λp b=>((AB _).2.2 p).mpr (TZ iF.mpr f a b);have T:∀p∈d4 f,cO (er (Q9 gK fs f7)) (f7 p)=QaC (2^(gK fs).idxOf p):=λp b=>by
    refine MG (We (I.imp (Wh (FQ e)))) ?_;have hl:=List.idxOf_lt_length_of_mem (S p b);rw[cY,cN hl,List.getElem_idxOf hl];rfl
   refine fH 5 (A:=aI (mj fs f)) ?_ (bW (λG H c=>c.le ?_)) ?_
   ·refine Ev.eq (EV (xs:=d4 f) (f:=λp=>(2^(gK fs).idxOf p:Nat)) rfl L.sum (Ev.eq (ik (nm:="both") (eA:=λp=>aI (2^(gK fs).idxOf p:Nat)) rfl nJ.nd (Ud t r f ⟨ok.l1 f a,ok.l2 f a⟩ 2) Qw Z' (fc QB) (VB 3 nJ.nd) (λz hz D _ _ _ _ _=>jW) (λp b _ D _ _ _ _ _=>zX r.units (aa 4) (aa 3) (λ_ _ h=>NH _ _ h) (T p b))) ?_)) ?_
    ·rw[(Zc)]
    ·rw[sum_nat];unfold mj il;rw[cq];rfl
   ·refine .eq rfl (.u (.u (.u (.eq rfl (.eq ?_ .nil)))));rw[Sm m,bO,bO];rfl
   ·rw[ak,ak,B.1,bK];omega
  ·refine d9 5 (aU (aa 5) (λv H' U h=>Q_ U));rw[cp]at h;exact h
end
section
variable{X:Cx}{H0 Hb:Hp}{O:QZ}{G:QO}{e:Expr}{g:Bool}{As:R7}{p p2 pos pos2:Pos}
def ahr(h:bJ H vs As):bJ H vs.reverse As.reverse:=by
 induction h with
 |nil=>exact .nil
 |cons r t a=>rw[xF,xF];exact EL a (Zf r)
def ahs(i:RD)(j:X.mg Rq=none)(k:X.mg Ux=none)(h:Ev X H0 O G e g (aL As))(a:Qv g\/X2)(n:Gl X Rq:=by rfl)(r:Gl X Ux:=by rfl)(hs:a_ [e] Qg=U2:=by rfl)
  (s:a_ [UM (Wx Ux p2) [e] pos2] Qg=[Yb (UM (Wx Ux p2) [e] pos2)]:=by rfl):Vb (Z6 Rq [UM (Wx Ux p2) [e] pos2]) aL As.reverse:=
 cC (ahk i n j r k a7 hs s) (λHb u H Q c q=>h Hb u H _ c (λv y s1 w=>by
  obtain⟨t,d,rfl,ht,f⟩:=w;have b:=Q0;refine RF t d (Q6 (eI b ht)) QfU;obtain⟨s2,x⟩:=b.new hl;refine q _ _ Rt (Tt l x ((ahr ?_).m (fY s2)));rcases a with rfl|a
  ·exact f
  ·exact b.vV a f))
def lj(l:QU):Nat:=l.foldl (λa b=>a|||b) 0
def aht(l:QU)(x:Nat):lj (l++[x])=lj l|||x:=by unfold lj;rw[iD];rfl
def ey(hs:QU):QU:=(WB Ug (λi=>lj (Qde (i+1)))).reverse
def NM:Sp:=el (λhs=>[dv hs]) (λhs=>Ug<=64) (λhs=>dv (ey hs))
end
section
variable{P:aO}{w:aA}{K:au}{mg:QQ}{base:Heap}{f C:Addr}{fd:b_}
def wx:aY [Xq,Qan,"met","bits"] [Xq] (aK FP):=QF
def ahu(F:aP K QfE QfE FP f fd)(L:ef P w K mg base C):ay P w K mg base az 1 f fd [Xq] NM:=by
 refine R4 wx (.u (.u (.u .e))) (λd A outer g H E hs j hl=>?_);refine ec 1 bj wx.nd (λq=>bG 2 ai wx.nd (MK 3 (λk=>[.v Qb _,.w q (VA (WB k _)),Ra (lj (Qde k)),.u]) rfl L.rev (aa 0) (QgI (RC ag)) (bS wx.nd rfl QgW) RP (λl k x hx=>?_) (by refine d9 1 (aU ((ahs rfl L.tm.list L.rev (aa 1) (.inl rfl)).eq ?_) λv r b h=>⟨b,h⟩);unfold ey;show aL _=aL _;rw[List.map_reverse])))
 ·have m:k<Ug:=by grind
  have a:uT (lj (Qde k)) x=(lj (Qde (k+1))):=by rw[MN,(WS),aht]
  refine bG 2 ((Mo (aa 2) (aa 3)).eq (by rw[a])) wx.nd (fH 1 (aa 2) (bW (λp H c=>c.le (by refine .eq rfl (.eq ?_ (.eq rfl (.u .nil)));rw[BU,bO,bO];rfl))) (by rw[ak,ak,pQ,bK];omega))
abbrev FR:Stmt:=top 87
def pd(f:Nat->Ri QU)(stop:Yr):QU->Ri QU
 |[]=>none
 |p::r=>if QJ stop p then none else match f p with
  |some l=>Qc (p::l)
  |none=>pd f stop r
def eQ(hs a:QU):Nat->Nat->Nat->Ri QU
 |0,_,m=>if m=0 then Qc []else none
 |c+1,bB,m=>pd (λp=>eQ hs a c (p+1) (m-(m&&&hs.getD p 0))) (λp=>!decide (m|||a.getD p 0=a.getD p 0)) (jL bB (Ug-bB))
def NN{f}(a:∀p l,f p=Qc l->QP l n):∀ps l,pd f stop ps=Qc l->QP l (n+1)
 |[],l,h=>by cases h
 |p::r,l,h=>by
  unfold pd at h;split at h
  ·cases h
  ·cases e:f p with
   |none=>rw[e]at h;exact NN a r l h
   |some b=>grind
def AD(hs a:QU):∀c bB m l,eQ hs a c bB m=Qc l->QP l c
 |0,bB,m,l,h=>by
  unfold eQ at h;split at h
  ·grind
  ·cases h
 |c+1,bB,m,l,h=>NN (λp b d=>AD hs a c _ _ b d) _ l h
def AE(c:Nat):Sp:=Su (QU×QU×Nat×Nat) (Qeu [dv hs,dv a,aI bB,aI m,aI c]) (Qeu (Ug<=64/\Sj=Ug/\bB<=64)) (Qeu (eH dv (eQ hs a c bB m)))
def AF:aY [Xq,Qan,XS,QaT,Yo,Qb6,UR] [Xq,Qan,XS,QaT,Yo] (aK FR):=QF
def ahv(F:aP K QbG QbG FR f fd)(L:ef P w K mg base C)(D:mg QbG=UK f)(G:Binds K fd [Xq,Qan,XS,QaT,Yo] []):∀c,c<=4->ay P w K mg base az (c+1) f fd [Xq,Qan,XS,QaT,Yo] (AE c):=by
 intro c;induction c with
 |zero=>
  intro _;refine Us AF (Qeu [.v Qb (dv hs),.v Qb (dv a),Ra bB,W3,Ra 0,.u,.u]) (.o (.n ag (.n ag (.n ag (.u (.u .e)))))) (λI A outer J H E⟨hs,a,bB,m⟩r⟨s,t,M⟩=>?_);refine cW (bz (aa 4) ai) (RC ?_) Qad
  ·refine aU (A:=eH dv (eQ hs a 0 bB m)) ?_ (λv j g h=>Rw g);refine o9 (bz (aa 3) ai) Qad Qad
   ·have b:=Yz b;have e:eQ hs a 0 bB m=Qc []:=by unfold eQ;rw[(ZH)]
    rw[e];exact cE bj
   ·have b:=Qbe b;have e:eQ hs a 0 bB m=none:=by unfold eQ;rw[(Qa4)]
    rw[e];exact zN
  ·exact Rk b QD
 |succ c N=>
  intro V;have O:aE P w K mg base (c+1) QbG [Xq,Qan,XS,QaT,Yo] (AE c):=⟨f,fd,N Qa,D,F.kp,G⟩;refine Us AF (Qeu [.v Qb (dv hs),.v Qb (dv a),Ra bB,W3,Ra (c+1),.u,.u]) (.o (.n ag (.n ag (.n ag (.u (.u .e)))))) (λI A outer J H E⟨hs,a,bB,m⟩r⟨s,t,M⟩=>?_);refine cW (bz (aa 4) ai) Qad (λ_=>c7 ?_)
  ·grind
  let q:=λp=>eQ hs a c (p+1) (m-(m&&&hs.getD p 0))
  let x:=λp=>!decide (m|||a.getD p 0=a.getD p 0)
  refine agT 5 (λk=>eQ hs a (c+1) bB m=pd q x (jL (bB+k) (Ug-bB-k))) (λk=>[.v Qb (dv hs),.v Qb (dv a),Ra bB,W3,Ra (c+1),.u,.u]) rfl L.range (aa 2) ((dZ Tq (aa 0)).eq WE) Qa Qa (bS AF.nd rfl QK) rfl RP (λW k X d=>?_) Qeb
  ·have Y:=by omega
   have hd:hs[bB+k]?=Rz hs.getD (bB+k) 0:=by grind
   have Q:a[bB+k]?=Rz a.getD (bB+k) 0:=by grind
   have R:=Ax hd (λn=>aI n);have z:=Ax Q (λn=>aI n);have S:jL (bB+k) (Ug-bB-k)=(bB+k)::jL (bB+(k+1)) (Ug-bB-(k+1)):=by
    rw[show Ug-bB-k=(Ug-bB-(k+1))+1 by omega,xG];rfl
   rw[S]at d;unfold pd at d;refine cW (k:=x (bB+k)) ?_ Qad (λb=>c7 ?_)
   ·refine(vZ (Mo (aa 3) ((aM (aa 1) (aa 5) (bB+k) z).up ag)) ((aM (aa 1) (aa 5) (bB+k) z).up ag)).eq ?_;show(!decide _)=!decide _;rw[MN];congr 1
    exact Qdc iB
   ·rw[Qp b]at d;refine aU zN (λv j g h=>Q_ g);show(eH dv (eQ hs a (c+1) bB m)).p _ _;rw[d];exact h
   ·rw[Qs (by rw[b];decide)]at d;have T:m-qc m (hs.getD (bB+k) 0)=(m-(m&&&hs.getD (bB+k) 0):Nat):=by
     rw[MM];have:=Nat.and_le_left (n:=m) (m:=hs.getD (bB+k) 0);omega
    refine bG 6 (x_call O r (hs,a,bB+k+1,m-(m&&&hs.getD (bB+k) 0)) (Qh s t Qa) (xa (aa 0) (xa (aa 1) (xa (S_ (jt (aa 5) ai).eq) (xa ((Ml (aa 3) (Mn (aa 3) ((aM (aa 0) (aa 5) (bB+k) R).up ag))).eq (by rw[T])) (xa ((Ml (aa 4) ai).eq (by congr 1;omega)) ao))))) (A:=eH dv (q (bB+k))) rfl (hj:=aQ _)) AF.nd ?_;cases e:q (bB+k)with
    |none=>
     rw[e]at d;refine cW (zO (aa 6) (ZY o_ h)) QeX (λ_=>c7 (bW (λZ H U=>Qe d (U.le ?_))));repeat(first|exact .nil|refine .u ?_|refine .eq rfl ?_)
    |some l=>
     rw[e]at d;have hl:=AD hs a c _ _ l e;refine cW (zO (aa 6) (ZY o_ h)) (RC ?_) QeX
     refine aU (A:=dv ((bB+k)::l)) ?_ (λv j g h=>Q_ g)
     ·exact nA (cE (xd (aa 5) bj)) (aa 6) Qw Qw (by rw[ak];exact gI (by simp;omega))
     ·show(eH dv (eQ hs a (c+1) bB m)).p _ _;rw[d];exact h
  ·rw[Nat.sub_self]at d;refine aU zN (λv j g h=>Q_ g);show(eH dv (eQ hs a (c+1) bB m)).p _ _;rw[d];exact h
abbrev FT:Stmt:=top 88
def kd(fs:WT):Nat:=(ey (cV fs)).headD 0
def wy(fs:WT)(c:Nat):Ri QU:=QG (eQ (cV fs) (ey (cV fs)) c 0 (kd fs)) (λl=>l.map (· +1))
def ph(fs:WT):Ri QU:=(dd 5).findSome? (wy fs)
def NO:Sp:=el (λfs=>[i6 fs]) tG (λfs=>eH dv (ph fs))
def ahw(hs:QU):Qx ey hs=Ug:=by unfold ey;rw[List.length_reverse,ak,pQ]
def NP(fs:WT):Qx cV fs=T7:=by unfold cV;rw[ak]
def pj:aY ["fields",Xq,Qan,QaT,Yo,UR,Qb6] Wi (aK FT):=QF
def ahx(F:aP K "fewest" "fewest" FT f fd)(L:ef P w K mg base C)(T:cb mg "MOST_OF_FEWEST" 4)(s:aE P w K mg base 2 Qe5 Wi NK)(t:aE P w K mg base 1 QfE [Xq] NM)(C3:∀c,c<=4->aE P w K mg base (c+1) QbG [Xq,Qan,XS,QaT,Yo] (AE c)):
  ay P w K mg base az 6 f fd Wi NO:=by
 refine Us pj (λfs=>[.v Qb (i6 fs),.u,.u,.u,.u,.u,.u]) (.u (.u (.u (.u (.u (.u .e)))))) (λN A outer O H E fs j ok=>?_);have x:=ok.len;have r:Qx cV fs<=64:=by rw[NP];exact x
 refine bG 1 (Ud s j fs ok 0) pj.nd ?_;refine bG 2 (Ud t j (cV fs) r 1) pj.nd ?_;refine bG (A:=aI (kd fs)) (g:=true) 3 ?_ pj.nd ?_
 ·refine o9 ((l7 (dZ Tq (aa 2)) ai).eq len_pos) Qad Qad
  ·refine aM (aa 2) ai 0 ?_;unfold kd;cases e:ey (cV fs)with
   |nil=>rw[e]at b;cases b
   |cons a l=>rfl
  ·have e:kd fs=0:=by
    unfold kd;cases e:ey (cV fs)with
    |nil=>rfl
    |cons a l=>rw[e]at b;cases b
   rw[e];exact ai
 refine agS 4 (λk=> ∀c,c<k->wy fs c=none) (λk=>[.v Qb (i6 fs),TX dv (cV fs),TX dv (ey (cV fs)),Ra (kd fs),.u,.u,.u]) rfl L.range ((jt (ba T) ai).eq (B:=aI (5:Nat)) rfl) QD (bS pj.nd rfl QK) (λc h=>Qa) RP (λQ k G d=>?_) Qeb
 ·refine bG 5 (x_call (C3 k Qa) j (cV fs,ey (cV fs),0,kd fs) ⟨r,ahw _,Qa⟩ (xa (aa 1) (xa (aa 2) (xa ai (xa (aa 3) (xa (aa 4) ao))))) (A:=eH dv (eQ (cV fs) (ey (cV fs)) k 0 (kd fs))) rfl (hj:=Qa)) pj.nd ?_;cases e:eQ (cV fs) (ey (cV fs)) k 0 (kd fs)with
  |none=>
   refine cW (zO (aa 5) (ZY o_ h)) QeX (λ_=>c7 (bW (λR H I=>⟨λc b=>?_,I.le ?_⟩)))
   ·by_cases h:c=k
    ·subst h;unfold wy;rw[e];rfl
    ·exact d c Qa
   ·repeat(first|exact .nil|refine .u ?_|refine .eq rfl ?_)
  |some l=>
   have hl:=AD _ _ k _ _ l e;refine cW (zO (aa 5) (ZY o_ h)) (RC ?_) QeX
   refine aU (A:=dv (l.map (· +1))) ?_ (λv J m h=>Q_ m)
   ·refine(ik (nm:=Qb6) rfl pj.nd (aa 5) Qw (gI Qa) (fc QB) (VB 6 pj.nd) (λz S D _ _ _ _ _=>jW) (λp _ _ D _ _ _ _ _=>S_ (jt (aa 6) ai).eq)).eq ?_;rw[(Zc)];show aL _=aL _;rw[cq];rfl
   ·have q:ph fs=some (l.map (· +1)):=by
     unfold ph;have M:wy fs k=some (l.map (· +1)):=by unfold wy;rw[e];rfl
     rw[show dd 5=dd k++(k::jL (k+1) (4-k))by
      match k,G with
      |0,_=>rfl
      |1,_=>rfl
      |2,_=>rfl
      |3,_=>rfl
      |4,_=>rfl]
     rw[List.findSome?_append,uo.mpr (λc b=>d c (fO.mp b)),xE,M];rfl
    show(eH dv (ph fs)).p _ _;rw[q];exact h
 ·have q:ph fs=none:=uo.mpr (λc b=>d c (fO.mp b));refine aU zN (λv J m h=>Q_ m);show(eH dv (ph fs)).p _ _;rw[q];exact h
end
end DL
namespace DL
open AT
open Vbdhaj(Sense cutAt wordsOf isWord isSmall senseOf shown readLine readLines commas printLine isText bytes)
def glue(w:Qo):ZK->ZK
 |[]=>[w]
 |y::r=>(w++y)::r
def FU(c:Nat):∀t ps w,(zs t).foldl (gD c) (ps++[w])=ps++glue w (QG (cI c t) zs)
 |[],ps,w=>by
  show ps++[w]=ps++[w++[]];rw[dR]
 |x::t,ps,w=>by
  show(zs t).foldl _ (gD c _ x)=_;unfold cI;by_cases h:x=c
  ·have aq:gD c _ x=(ps++[w])++[[]]:=ZH;rw[aq,(V9),FU c t];show ps++[w]++glue [] _=ps++((w++[])::QG (cI c t) zs);have:glue [] (QG (cI c t) zs)=QG (cI c t) zs:=by
    cases e:cI c t with
    |nil=>
     exfalso
     cases t with
     |nil=>cases e
     |cons a r=>
      unfold cI at e;split at e
      ·cases e
      ·split at e<;>cases e
    |cons y r=>rfl
   rw[this,dR,eK];rfl
  ·have aq:gD c (ps++[w]) x=ps++[w++[QW x]]:=by
    unfold gD;rw[(Qa4),List.dropLast_concat];have b:(ps++[w]).getLastD []=w:=by simp
    rw[b]
   rw[aq,(Vs),FU c t];congr 1
   cases e:cI c t with
   |nil=>rfl
   |cons y r=>
    show(w++[QW x]++zs y)::QG r zs=(w++zs _)::QG r zs;rw[eK];rfl
def FV(c:Nat)(t:QU):dE c (zs t)=QG (cI c t) zs:=by
 have:=FU c t [] [];rw[List.nil_append,List.nil_append]at this;unfold dE;rw[this];cases e:cI c t with
 |nil=>
  exfalso
  cases t with
  |nil=>cases e
  |cons a r=>
   unfold cI at e;split at e
   ·cases e
   ·split at e<;>cases e
 |cons y r=>rfl
def FW(t:QU):ig (zs t)=Q9 wordsOf t zs:=by
 unfold ig wordsOf;rw[show 32=QW (32:Nat)from rfl,FV,ry];congr 1
 apply jJ;intro w _;cases w<;>rfl
def ahy{t w:QU}(h:w∈wordsOf t):w≠[]:=λe=>by
 subst e;have:=(Zn h).2;cases this
def gL(t:QU):Qx zs t=Qn t:=ak ..
def NQ(h:w≠[]):ij (zs w)=kO w:=by
 unfold ij kO;rw[gL];have a:Qv (QV (1<=Qn w)):=Ze (List.length_pos_iff.mpr h);rw[a,uj];congr 1
 show(VA w).all jn=_;rw[uy];congr 1
 funext c
 show jn c=_;unfold jn isSmall;congr 1
 ·grind
 ·grind
def ahz(d:QU):jo (zs d)=match d with|[c]=>decide (49<=c)&&decide (c<=57)|_=>false:=by
 match d with
 |[]=>rfl
 |[c]=>
  show(true&&(QV (49<=QW c)&&QV (QW c<=57)))=_;rw[uj];congr 1
  ·grind
  ·grind
 |a::c::r=>
  unfold jo;rw[gL,TK Qj,BH]
def FX(t:QU):dJ (zs t)=Q9 cz t toS:=by
 unfold dJ cz;rw[FW];have b:∀w∈wordsOf t,w≠[]:=λw e=>ahy e;generalize wordsOf t=W at b;match W with
 |[]=>rfl
 |[w]=>
  show(if ij _=true then some _ else none)=uF toS (if kO w=true then some _ else none);rw[NQ (b w Qj)];by_cases h:QJ kO w
  ·rw[(V9),(V9)];rfl
  ·grind
 |[w,d]=>
  show(if ij _=true/\jo _=true then some _ else none)=_;rw[NQ (b w Qj),ahz];match d with
  |[]=>rw[(Y1)];rfl
  |[c]=>
   show(if kO w=true/\(decide _&&decide _)=true then some _ else none)=uF toS (if kO w=true/\49<=c/\c<=57 then some _ else none);by_cases h:QJ kO w/\49<=c/\c<=57
   ·rw[Qp ⟨h.1,by simp[h.2.1,h.2.2]⟩,(V9)];show Qc (zs w,QW c-48)=Qc (zs w,QW (c-48:Nat));congr 2
    omega
   ·grind
  |a::c::r=>rw[(Y1)];rfl
 |a::c::d::r=>
  simp
def ahA(l:R_):(R1 zs).mapM dJ=Q9 l.mapM cz QfO:=by
 induction l with
 |nil=>rfl
 |cons a l b=>
  rw[cg,lB,lB,FX,b];cases cz a with
  |none=>rfl
  |some x=>cases l.mapM cz<;>rfl
def NR(t:QU):qC (zs t)=Q9 (cI 44 t).mapM cz QfO:=by
 unfold qC;rw[show 44=QW (44:Nat)from rfl,FV,ahA]
def ahB(h:QJ iZ c):c.toNat=c:=by
 unfold iZ at h;simp at h;omega
def NS(m:Nat)(u:Qo):fS m u=Ro (d8 u m) 0:=by
 unfold fS d8;have e:(u.all (λc=>c==10||dS c 32 126))=u.all iZ:=by
  congr 1
 rw[e];by_cases h:m<Qn u
 ·grind
 ·grind
def FY(h:QaH u iZ):zs (dH u)=u:=by
 show VA (VA u)=u;rw[cq];have:=λc a=>ahB (hV.mp h c a);exact XE iG this (xJ _)
def tJ(h:X1 m):QaH u iZ/\QP u m:=by
 unfold fS at h;rw[bX,decide_eq_true_eq]at h;refine Qe ?_ h.1;have:=NS m u;rw[show X1 m from by unfold fS;rw[bX,decide_eq_true_eq];exact h]at this;unfold d8 at this;rw[(Qa4)]at this;split at this
 ·assumption
 ·cases this
def AG(u:Qo)(m:Nat):d8 u m=if fS m u=true then 0 else-2:=by
 rw[NS];unfold d8;split
 ·rfl
 ·split<;>rfl
def NU(a:1<=n)(b:n<=9):Vbdhaj.decimal n=[48+n]:=by
 match n,a,b with
 |1,_,_=>decide+kernel
 |2,_,_=>decide+kernel
 |3,_,_=>decide+kernel
 |4,_,_=>decide+kernel
 |5,_,_=>decide+kernel
 |6,_,_=>decide+kernel
 |7,_,_=>decide+kernel
 |8,_,_=>decide+kernel
 |9,_,_=>decide+kernel
 |n+10,_,h=>omega
def cM(x:aw):Prop:=QJ kO ZQ/\1<=x.num/\x.num<=9
def cM.len(h:cM x):x.word.length<=12:=by
 have:=h.1;unfold kO at this;rw[bX,bX,decide_eq_true_eq,decide_eq_true_eq]at this;exact this.2.1
def wz(a b:QU):zs (a++b)=zs a++zs b:=bO ..
def FZ(h:cM x):fD (toS x)=zs (shown x):=by
 unfold fD shown;rw[NU h.2.1 h.2.2,wz];rfl
def AH(h:cM x):Qx shown x=x.word.length+2:=by
 unfold shown;rw[NU h.2.1 h.2.2,b0];rfl
def ahC:∀ {ys:List aw},(∀y∈ys,cM y)->ys≠[]->fE Qfr=32::zs (lI (XZ shown)):=by
 have e:∀ys y,ys≠[]->SN lI (ys++[y]) shown=lI (XZ shown)++44::32::shown y:=by
  intro ys;induction ys with
  |nil=>simp
  |cons a ys d=>
   intro y _;cases ys with
   |nil=>rfl
   |cons c ys=>
    show shown a++(44::32::SN lI ((c::ys)++[y]) shown)=(shown a++(44::32::lI _))++_;rw[d y Qj,eK];rfl
 intro ys;have:∀n ys,QbO=n->(∀y∈ys,cM y)->ys≠[]->fE Qfr=32::zs (lI (XZ shown)):=by
  intro n;induction n with
  |zero=>simp
  |succ n d=>
   intro ys h hg b;obtain⟨l,z,rfl⟩:∃l z,ys=l++[z]:=Qh ys.dropLast (ys.getLast b) (um b).symm;rw[bO,List.map_singleton,zB];unfold oZ;rw[FZ (hg z Qj)];by_cases hl:l=[]
   ·subst hl;rfl
   ·rw[d l QeQ (λy f=>hg y (by simp[f])) hl,e l z hl,wz];simp;rfl
 exact λhg b=>this _ ys rfl hg b
def ahD(hx:cM x)(a:∀y∈ys,cM y):vQ (toS x) Qfr=zs (qg x ys++[10]):=by
 unfold vQ qg;rw[FZ hx,wz,wz];by_cases h:ys=[]
 ·subst h;rw[eK];rfl
 ·rw[Qs Z9,(Vs),ahC a h,eK];rfl
end DL
namespace DL
open PySem PySem.Spec L2 NT AT
open PyProof.Rows hiding St
open Vbdhaj(Sense sensesOf equals paired less lessText members shown printLine isText bytes senseOf toldSense toldSenses)
def NV:Sp:=el (λx=>[aX x]) cM (λx=>a4 (zs (shown x)))
def NW:Sp:=el (λ(x,a)=>[aX x,bw a]) (λ(x,a)=>cM x/\(∀y∈a,cM y)/\SS a) (λ(x,a)=>a4 (zs (qg x a++[10])))
def NX:Sp:=el (λu=>[a4 u]) QfW (λu=>eH aS (dJ u))
def NY:Sp:=el (λu=>[a4 u]) QfW (λu=>eH k8 (qC u))
def NZ:Sp:=el (λu=>[a4 u]) (λu=>QP u 1000) (λu=>aI (df u))
def N0:Sp:=Su (Qo×Nat) (λ(u,m)=>[a4 u,aI m]) (λ(u,_)=>Vq) (λ(u,m)=>aI (d8 u m))
def N1:Sp:=el (λu=>[a4 u]) QfW (λu=>aI (d8 u 20))
def N3:Sp:=el (λu=>[a4 u]) QfW (λu=>aI (jr u))
section
variable{P:aO}{w:aA}{K:au}{mg:QQ}{base:Heap}{f C:Addr}{fd:b_}{k:Nat}
def qW(h:(a4 u).p H v):∃a,v=QS/\bF K H a (Qbj u):=by
 obtain⟨t,c,rfl,ht,b⟩:=h;rw[pI b]at ht;exact Ss t Qc5
def F0(s:af H H')(h:d7 H' x t):d7 (cut H H') x t:=by
 obtain⟨b,a,c⟩:=h;exact⟨b,k7 s a,k7 s c⟩
def N4(h:qA H' p ns)(a:H p=none):(a4 ns).p (cut H H') Vm:=Tt p (by rw[eG a];exact h) (qG _)
def N5(s:af H H')(h:iX H' p ys)(a:H p=none):(k8 ys).p (cut H H') Vm:=by
 obtain⟨b,c,d⟩:=h;exact EI.mpr ⟨p,rfl,b,by rw[eG a];exact c,ie d (λt y _ q=>F0 s q)⟩
def ahE(F:ay P w K mg base az k f fd Xt (Ej K)):ay P w K mg base az k f fd Xt NV:=F.imp (λg H Q E⟨x,hg,h,q⟩=>by
 obtain⟨v,rfl,b⟩:=fF h;obtain⟨t,rfl,hs⟩:=hE.mp b;refine⟨t,toS x,rfl,hs,by rw[show(toS x).1=zs _ from rfl,gL];have:=hg.len;omega,λc p d a e=>q _ c d ?_⟩;rw[FZ hg]at a;exact N4 a e)
def ahF(F:ay P w K mg base az k f fd ["x",XO] (LY K)):ay P w K mg base az k f fd ["x",XO] NW:=F.imp (λv H Q E⟨(x,a),⟨hx,b,hl⟩,h,q⟩=>by
 cases h with
 |cons r h=>
  obtain⟨d,e,g⟩:=fF h;subst e;obtain⟨t,rfl,hs⟩:=hE.mp r
  obtain⟨p,rfl,j⟩:=EI.mp (by unfold k8;rw[cq];exact g);exact⟨t,p,toS x,QG a toS,rfl,hs,j,by rw[show(toS x).1=zs _ from rfl,gL];have:=hx.len;omega,λy m=>by obtain⟨z,u,rfl⟩:=cQ.mp m;rw[show(toS z).1=zs _ from rfl,gL];have:=(b z u).len;omega,QdJ,λn l o c s=>q _ n o (by rw[ahD hx b]at c;exact N4 c s)⟩)
def ahG(F:ay P w K mg base az k f fd Sh (vN K)):ay P w K mg base az k f fd Sh NX:=F.imp (λi H Q E⟨u,hl,h,q⟩=>by
 obtain⟨v,rfl,d⟩:=fF h;obtain⟨a,rfl,e⟩:=qW d;refine Xa a u e hl (λg c b=>q _ c b (by show(eH aS _).p _ _;rw[g];rfl)) (λx hx c t b hs _=>q _ c b ?_);show(eH aS _).p _ _;rw[hx];exact hE.mpr (Ss t (F0 b hs)))
def ahH(F:ay P w K mg base az k f fd Sh (Ek K)):ay P w K mg base az k f fd Sh NY:=F.imp (λj H Q E⟨u,hl,h,q⟩=>by
 obtain⟨v,rfl,d⟩:=fF h;obtain⟨a,rfl,e⟩:=qW d;refine Xa a u e hl (λg c b=>q _ c b (by show(eH k8 _).p _ _;rw[g];rfl)) (λl i c t b hs ht=>q _ c b ?_);show(eH k8 _).p _ _;rw[i];exact N5 b hs ht)
def ahI(F:ay P w K mg base az k f fd Xu (L5 K)):ay P w K mg base az k f fd Xu NZ:=F.imp (λg H Q E⟨u,hl,h,q⟩=>by
 obtain⟨v,rfl,b⟩:=fF h;obtain⟨a,rfl,c⟩:=qW b;exact⟨a,u,rfl,c,hl,λd e=>q _ d e rfl⟩)
def ahJ(F:ay P w K mg base az k f fd [RJ,"most"] (Ey K)):ay P w K mg base az k f fd [RJ,"most"] N0:=F.imp (λg H Q E⟨(u,m),hl,h,q⟩=>by
 cases h with
 |cons r h=>
  obtain⟨c,e,b⟩:=fF h;subst e;subst b;obtain⟨a,rfl,d⟩:=qW r;exact⟨a,u,m,rfl,d,hl,q _ H RK rfl⟩)
def ahK(F:ay P w K mg base az k f fd U3 (L6 K)):ay P w K mg base az k f fd U3 N1:=F.imp (λd H Q E⟨u,hl,h,q⟩=>by
 obtain⟨v,rfl,b⟩:=fF h;obtain⟨a,rfl,c⟩:=qW b;exact⟨a,u,rfl,c,hl,q _ H RK rfl⟩)
def ahL(F:ay P w K mg base az k f fd U3 (L7 K)):ay P w K mg base az k f fd U3 N3:=F.imp (λg H Q E⟨u,hl,h,q⟩=>by
 obtain⟨v,rfl,b⟩:=fF h;obtain⟨a,rfl,c⟩:=qW b;exact⟨a,u,rfl,c,hl,λd e=>q _ d e rfl⟩)
def aE.imp'(h:aE P w K mg base k x ps d)(i:∀f c,ay P w K mg base az k f c ps d->ay P w K mg base az k f c ps e):aE P w K mg base k x ps e:=by
 obtain⟨f,c,a,b⟩:=h.ex;exact⟨f,c,i f c a,b⟩
abbrev F1:Stmt:=top 90
abbrev F2:Stmt:=top 91
abbrev F3:Stmt:=top 92
def F4:Sp:=el (λu=>[a4 u]) (λu=>QP u 2000000) (λu=>a4 (Qn u::u))
def F5:Sp:=el (λx=>[aX x]) cM (λx=>a4 (kI x))
def N6:Sp:=el (λa=>[bw a]) (λa=>(∀x∈a,cM x)/\SS a) (λa=>a4 (h7 a))
def ahM:aY Sh Sh (aK F1):=QF
def ahN(F:aP K Qei Qei F1 f fd)(T:Top mg):ay P w K mg base az 1 f fd Sh F4:=by
 refine R4 ahM .e (λb A outer c H E u d hl=>?_);exact aU (nA (cE (xd ((dZ Wu (aa 0)).eq WE) bj)) (aa 0) Qw (Qy o4) QdD) (λv g a h=>Rw a)
def ahO:aY Xt Xt (aK F2):=QF
def ahP(F:aP K QdP QdP F2 f fd)(b:aE P w K mg base 1 QdU Xt NV)(c:aE P w K mg base 1 Qei Sh F4):ay P w K mg base az 2 f fd Xt F5:=by
 refine QfZ ahO _ (.n cK .e) (λg A outer i H E x a hg=>?_);exact aU (x_call c a _ (by rw[gL,AH hg];have:=hg.len;omega) (xa (Ud b a x hg 0) ao) (by rw[gL];rfl)) (λv j d h=>Rw d)
def ml(h:cM x):Qx kI x<=15:=by
 show QP (e8 _::zs _) 15;rw[dh,gL,AH h];have:=h.len;omega
def N7{l:QC}(h:∀x∈l,cM x):YB l kI<=15*QT:=by
 induction l with
 |nil=>simp
 |cons x l a=>
  have c:=ml (h x Ru);have d:=a (λy b=>h y (bP _ b));rw[lA,b0,dh];omega
def mm(h:∀x∈l,cM x):Qx h7 l<=15*QT+1:=by
 have:=N7 h;show QP (e8 _::RW l _) _;rw[dh];omega
def F6:aY [Sr,ZD,"x"] Xu (aK F3):=QF
def ahQ(F:aP K Qe6 Qe6 F3 f fd)(T:Top mg)(d:aE P w K mg base 2 QdP Xt F5):ay P w K mg base az 3 f fd Xu N6:=by
 refine R4 F6 (.u (.u .e)) (λn A outer p H E a g⟨hg,hl⟩=>ec 1 (xd ((dZ Wu (aa 0)).eq WE) bj) F6.nd (λq=>eP 2 (λk=>[.v Qb _,.w q (Wc (QW Sj::RW Y2 _)),.u]) rfl (aa 0) Qaj (bS F6.nd rfl QK) RP (λr k x hx=>?_) (by refine d9 1 (aU (aa 1) λv C m h=>⟨m,?_⟩);rw[cp]at h;exact h)))
 ·have b:=bL hx;have s:=ft hx;refine hG 1 (Ud d g x (hg x b) 2) Qw (bW (λt H c=>c.le ?_)) ?_
  ·refine .eq rfl (.eq ?_ Ry);rw[(WS),ly];simp
  ·have z:=ml (hg x b);have B:=N7 (l:=Y2) (λy j=>hg y (jd j));rw[ak,ak,dh,bK];omega
end
end DL
namespace DL
open PySem PySem.Spec L2 NT AT
open PyProof.Rows hiding St
open Vbdhaj(Sense sensesOf equals paired less lessText members isText bytes senseOf act onSense onTongues)
def gM(b:Bo)(s:Nat)(u:Qo):Except Int aw:=if fS 20 u=Qb then Za (-2)else match cz (dH u)with
 |none=> Za (-5)
 |some x=>if Xb (ae b s) x=Qb then Za (-3)else .ok x
def cx(b:Bo)(s:Nat)(u:Qo):Int:=match gM b s u with
 | .error e=>e
 | .ok _=>0
def wC(b:Bo)(s:Nat)(u:Qo)(f:aw->Bo×Qo):h8 b s u f=match gM b s u with
  | .error e=>(b,[e])
  | .ok x=>f x:=by
 unfold h8 gM;by_cases h:fS 20 u=Qb
 ·rw[(V9),(V9)];rfl
 ·rw[(Vs),(Vs)];cases cz _ with
  |none=>rfl
  |some x=>
   dsimp only;by_cases h:Xb (ae b s) x=Qb
   ·rw[(V9),(V9)];rfl
   ·rw[(Vs),(Vs)]
def N8(h:gM b s u= .ok x):X1 20/\cz (dH u)=Qz/\x∈ae b s:=by
 unfold gM at h;split at h
 ·cases h
 ·grind
def tK(h:X1 m):dJ u=Q9 cz (dH u) toS:=by
 have a:=FX (dH u);rw[FY (tJ h).1]at a;exact a
def N9(h:X1 m):qC u=Q9 (cI 44 (dH u)).mapM cz QfO:=by
 have a:=NR (dH u);rw[FY (tJ h).1]at a;exact a
structure tL(P:aO)(w:aA)(K:au)(mg:QQ)(base:Heap)(C:Addr):Prop extends ef P w K mg base C where
 tr:sP K mg
 most:cb mg "MOST_OF_SENSES" 240
 six:cb mg "MOST_FOR_FIELDS" 6
 ahR:cb mg "TOO_MANY_FOR_FIELDS" (-7)
 rt:aE P w K mg base 1 Qe2 Xu NZ
 rb:aE P w K mg base 1 QdQ [RJ,"most"] N0
 F7:aE P w K mg base 2 QeR U3 N1
 hJ:aE P w K mg base 4 QeU U3 N3
 rd:aE P w K mg base 3 QbF Sh NX
 N_:aE P w K mg base 4 QdR Sh NY
 N':aE P w K mg base 2 QcB QX (XF i3 C (bw (bg b s t)))
abbrev F8:Stmt:=top 63
abbrev F9:Stmt:=top 64
abbrev F_:Stmt:=top 65
def Oa(C:Addr):Sp:=Su (Bo×Nat×Qo) (Qbp [a8 C b,aI s,a4 u]) (Qbp (QE/\aH b/\Vq)) (Qbp (aI (cx b s u)))
section
variable{P:aO}{w:aA}{K:au}{mg:QQ}{base:Heap}{f C:Addr}{fd:b_}
def Ob:aY [Qk,"s",RJ,Uz] Yt (aK F8):=QF
def ahS(F:aP K Qfn Qfn F8 f fd)(L:tL P w K mg base C):ay P w K mg base az 5 f fd Yt (Oa C):=by
 refine Us Ob (Qbp [.v Qb (a8 C b),Rr,.v Qb (a4 u),.u]) (.n ag (.o (.u .e))) (λq A outer r H E⟨b,s,u⟩j⟨hs,t,hl⟩=>?_);refine bG 3 (ju (Ud L.F7 j u hl 2) (λ_=>j8 (Ud L.hJ j u hl 2))) Ob.nd ?_;have a:=AG u 20;by_cases c:X1 20
 ·rw[(Tz)]at a;have a:d8 u 20=0:=a;have i:=tK c;cases hx:cz (dH u)with
  |none=>
   rw[hx]at i;have ht:dg (d8 u 20) (jr u)= -5:=by rw[a];unfold jr;rw[i];rfl
   have d:cx b s u= -5:=by unfold cx gM;rw[c,(Xm),hx]
   rw[ht];refine cW (l8 (nz (k2:=Qb) (bz (aa 3) ai) Xh)) Xh (λ_=>c7 (aU (aa 3) (Qgg g)));show(aI (cx b s u)).p _ _;rw[d];exact h
  |some x=>
   rw[hx]at i;have ht:dg (d8 u 20) (jr u)=0:=by rw[a];unfold jr;rw[i];rfl
   rw[ht];refine cW (l8 (nz (bz (aa 3) ai) (λ_=>v8 (v7 (f6 (cB Rp L.has j (b,s,x) hs (aa 0) (xa (aa 1) (xa (x_call L.rd j u hl (xa (aa 2) ao) (A:=aX x) (by rw[i];rfl)) ao)))))))) Qae (λl=>c7 ?_)
   ·have m:=by simpa using l
    refine aU (ba L.tr.L0) (Qgg g);have d:cx b s u= -3:=by unfold cx gM;rw[c,(Xm),hx];dsimp only;rw[Qp (by simpa using m)]
    show(aI (cx b s u)).p _ _;rw[d];exact h
   ·have m:=by simpa using l
    refine aU (aa 3) (Qgg g);have d:cx b s u=0:=by unfold cx gM;rw[c,(Xm),hx];dsimp only;rw[Qs (by simpa using m)]
    show(aI (cx b s u)).p _ _;rw[d];exact h
 ·rw[(Sk)]at a;have a:d8 u 20= -2:=a;have ht:dg (d8 u 20) (jr u)= -2:=by rw[a];rfl
  have d:cx b s u= -2:=by unfold cx gM;rw[Qp Vg]
  rw[ht];refine cW (l8 (nz (k2:=Qb) (bz (aa 3) ai) Xh)) Xh (λ_=>c7 (aU (aa 3) (Qgg g)));show(aI (cx b s u)).p _ _;rw[d];exact h
def qX(b:Bo)(s:Nat)(u:Qo):Except Int QC:=if fS 240 u=Qb then Za (-2)else match(cI 44 (dH u)).mapM cz with
 |none=> Za (-5)
 |some l=>if(l.all (λx=>Xb (ae b s) x))=Qb then Za (-3)else .ok l
def fJ(b:Bo)(s:Nat)(u:Qo):Int:=match qX b s u with
 | .error e=>e
 | .ok _=>0
def Oc(C:Addr):Sp:=Su (Bo×Nat×Qo) (Qbp [a8 C b,aI s,a4 u]) (Qbp (QE/\aH b/\Vq)) (Qbp (aI (fJ b s u)))
def F'(l:QC):SN k8 l toS=bw l:=by unfold k8;rw[cq];rfl
def Od{c d:Type}{g}:∀ {l:List c}{r:List d},l.mapM g=Qc r->Qn r=QT
 |[],r,h=>by cases h;rfl
 |a::l,r,h=>by
  rw[lB]at h;cases e:g a with
  |none=>rw[e]at h;cases h
  |some b=>
   rw[e]at h;cases hl:l.mapM g with
   |none=>rw[hl]at h;cases h
   |some f=>rw[hl]at h;cases h;simp[Od hl]
def Ga(c:Nat):∀t:List Nat,Tj cI c t (Qn t+1)
 |[]=>aQ _
 |x::t=>by
  have:=Ga c t;unfold cI;split
  ·simp;omega
  ·grind
def ahT{b:Bo}{s:Nat}(ht:X1 240)(h:(cI 44 (dH u)).mapM cz=Qc l):QP l 241:=by
 rw[Od h];have a:=Ga 44 (dH u);have c:=(tJ ht).2;have d:Qx dH u=Qn u:=ak ..;omega
def wD:aY [Qk,"s",RJ,Uz,Sr,"x"] Yt (aK F9):=QF
def ahU(F:aP K Qfe Qfe F9 f fd)(L:tL P w K mg base C):ay P w K mg base az 5 f fd Yt (Oc C):=by
 refine Us wD (Qbp [.v Qb (a8 C b),Rr,.v Qb (a4 u),.u,.u,.u]) (.n ag (.o (.u (.u (.u .e))))) (λz A outer B H E⟨b,s,u⟩m⟨hs,I,hl⟩=>?_);refine bG 3 (x_call L.rb m (u,240) hl (xa (aa 2) (xa (ba L.most) ao)) (A:=aI (d8 u 240))) wD.nd ?_;have a:=AG u 240;by_cases c:X1 240
 ·rw[(Tz)]at a;have a:d8 u 240=0:=a;have d:=N9 c;rw[a];refine cW (vZ (aa 3) ai) Xh (λ_=>c7 ?_);refine bG 4 (Ud L.N_ m u hl 2) wD.nd ?_;cases hx:(cI 44 (dH u)).mapM cz with
  |none=>
   rw[hx]at d;rw[d];have j:fJ b s u= -5:=by unfold fJ qX;rw[c,(Xm),hx]
   refine cW (sW (aa 4) (ZY o_ h)) (λ_=>aU (ba L.tr.L3) (λv q k h=>Q_ k)) Xh
   show(aI (fJ b s u)).p _ _;rw[j];exact h
  |some l=>
   rw[hx]at d;rw[d];have J:=ahT (b:=b) (s:=s) c hx;refine cW (sW (aa 4) (ZY o_ h)) Xh (λ_=>c7 (aU (A:=aI (fJ b s u)) ?_ (λv q k h=>Rw k)));have hv:∀ {X:Cx}{r:Hp}{O:List Addr}{G:List Sl}{e:Expr},Qf7 X r O G e (eH k8 (RE l.map toS))->Qf7 X r O G e (bw l):=λh=>h.eq (F' l);refine o9 (f6 (EW rfl L.tm.all ((ik (nm:="x") rfl wD.nd (hv (aa 4)) Qw Z' (fc QB) (VB 5 wD.nd) (λx _ D _ _ _ _ _=>jW) (λx _ _ D _ _ _ _ _=>cB Rp L.has m (b,s,x) hs (aa 0) (xa (aa 1) (xa (aa 5) ao)))).eq QgB))) (λt=>?_) (λt=>?_)
   ·have j:fJ b s u=0:=by
     unfold fJ qX;rw[c,(Xm),hx];dsimp only;rw[(ZG)]
    rw[j];exact ai
   ·have j:fJ b s u= -3:=by
     unfold fJ qX;rw[c,(Xm),hx];dsimp only;rw[Qp Qm]
    rw[j];exact ba L.tr.L0
 ·rw[(Sk)]at a;have a:d8 u 240= -2:=a;have j:fJ b s u= -2:=by unfold fJ qX;rw[Qp Vg]
  rw[a];refine cW (vZ (aa 3) ai) (λ_=>aU (aa 3) (λv q k h=>Q_ k)) Xh
  show(aI (fJ b s u)).p _ _;rw[j];exact h
def mZ(s t:Int):Bool:=dS s 1 3&&(dS t 1 3&&s !=t)
def eV(s t:Int):df [s,t]=if mZ s t=true then 0 else-2:=by
 unfold df mZ dS o3;by_cases h:s=t
 ·subst h;simp
 ·simp[];by_cases a:(s=1\/s=2\/s=3)/\(t=1\/t=2\/t=3)
  ·omega
  ·omega
def wF(s:Int):df [s]=if dS s 1 3=true then 0 else-2:=by
 unfold df dS o3;simp;by_cases a:s=1\/s=2\/s=3
 ·omega
 ·omega
def eJ(h:Ua):∃m n:Nat,s=m/\t=n/\W6/\X4/\m≠n:=by
 unfold mZ dS at h;simp at h;exact⟨VM,t.toNat,Qa,Qa,Tv,Tv,Qa⟩
def Gb(h:T2 dS s 1 3):∃m:Nat,s=m/\W6:=by
 unfold dS at h;simp at h;exact Qh VM Qa Tv
def Oe(a:W6)(b:X4)(h:m≠n):QhC m n:=by
 unfold mZ dS;simp at a b⊢;omega
def mn(a:W6)(c:X4)(h:m≠n)(b:Bo)(f:Nat->Nat->Bo×Qo):cR b m n f=f m n:=by
 unfold cR;have:=Oe a c h;rw[Qs (by rw[show(dS m 1 qf&&(dS n 1 qf&&m !=(n:Int)))=true from this];decide)];rfl
def AI(h:mZ s t=Qb)(b:Bo)(f:Nat->Nat->Bo×Qo):cR b s t f=(b,[-2]):=by
 unfold cR;rw[Qp (show(dS s 1 qf&&(dS t 1 qf&&s !=t))=false from h)];rfl
def ir(b:Bo)(s t:Int):Int:=if Ua then(if(bg b s.toNat t.toNat).length<=6 then 0 else-7)else-2
def Of(C:Addr):Sp:=Su (Bo×Int×Int) (U8 [a8 C b,aI s,aI t]) (λ(b,_,_)=>aH b) (U8 (aI (ir b s t)))
def Og:aY [Qk,"s","t",Uz] QX (aK F_):=QF
def ahV(F:aP K Qff Qff F_ f fd)(L:tL P w K mg base C):ay P w K mg base az 3 f fd QX (Of C):=by
 refine R4 Og (.n ag (.n ag (.u .e))) (λr A outer x H E⟨b,s,t⟩j i=>?_);refine bG 3 (Yx L.rt j [s,t] (xa (cE (xd (aa 1) (xd (aa 2) bj))) ao)) Og.nd ?_;rw[eV];by_cases a:Ua
 ·rw[(VR)];obtain⟨m,n,rfl,rfl,l,q,y⟩:=eJ a;refine cW (l8 (nz (bz (aa 3) ai) (λ_=>v8 (l7 (dZ Tq (Xd L.N' j (b,m,n) l q i (xa (aa 1) (xa (aa 2) ao)))) (ba L.six))))) Qee (λc=>c7 ?_)
  ·refine aU (ba L.ahR) (Qgh d);have g:ir b m n= -7:=by unfold ir;rw[(VR)];exact ZG
   show(aI (ir b m n)).p _ _;rw[g];exact h
  ·refine aU (aa 3) (Qgh d);have g:ir b m n=0:=by unfold ir;rw[(VR)];exact Qp Qm
   show(aI (ir b m n)).p _ _;rw[g];exact h
 ·rw[(W2)];refine cW (l8 (nz (k2:=Qb) (bz (aa 3) ai) Xh)) Xh (λ_=>c7 (aU (aa 3) (Qgh d)));have g:ir b s t= -2:=by unfold ir;rw[(W2)]
  show(aI (ir b s t)).p _ _;rw[g];exact h
end
end DL
namespace DL
open PySem PySem.Spec L2 NT AT
open PyProof.Rows hiding St
open Vbdhaj(Sense sensesOf equals paired less lessText members isText bytes senseOf act onSense onTongues toldSense toldSenses printLine shown)
section
variable{X:Cx}{H0 Hb:Hp}{O:QZ}{G:QO}{e:Expr}{pos p1 p2 p3 p4 p5 p6 p7 p8:Pos}{D:Ends}{ss:US}{x:Str}{r:Int}{j:Nat}{s0:Sl}
def gN(i:Nat)(h:Sn e r)(c:X.N.Nodup)(no:r≠0-> ∀v H',af H0 H'->(a4 [r]).p (cut H0 H') v->D.rt v H')(k:r=0->Bl X H0 Hb O (S8 (Ra 0)) ss D)(d:Ts=Qc s0:=by rfl)(hi:UC=Qz:=by rfl)(hx:Loc Sg x:=by first|exact QK|exact WL)
  (hs:eZ e (Qc (UB p1)) VL Qg=UH:=by rfl)(f:YP X\/X8 X x=Vj:=by first|exact Qw|exact WH)
  (hv:kY Sg x:=by first|exact QK|exact eM QK|exact eM WL)(hd:SK=Qb:=by decide)(b:(x==Zv)=Qb:=by decide)(aq:a_ [UB p4] Qg=Yb (UB p4)::a_ [] Qg:=by rfl):
  Bl X H0 Hb O G (Z4 [UB p1] e:: .If (QhA (UB p2) [.NotEq] [Qax 0 j p3] p5) [.Return (Rz .List [UB p4] p6) p7] [] p8::ss) D:=by
 have hg:(G.set i _)[i]?=Qc (Ra r):=uq (Ub d);refine bG i h c (cW (vZ (aa i hg hi hv hd b) ai) (λa=>?_) (λa=>c7 Qm)) hi hx hs f
 ·exact aU (cE (xd (aa i hg hi hv hd b) bj aq)) (λv H' g h=>no QaM v H' g h)
def hP(C:Addr)(n:Int):Sp:=Su (Bo×Int×Int) (U8 [a8 C b,aI s,aI t]) (λ(b,_,_)=>aH b) (U8 (a4 (act b [[n,s,t]]).2))
def tM(C:Addr)(n:Int):Sp:=Su (Bo×Int×Int×Qo) (Qez [a8 C b,aI s,aI t,a4 u]) (λ(b,_,_,u)=>aH b/\Vq) (Qez (a4 (act b [[n,s,t],u]).2))
def nM(a:W6)(c:X4)(h:m≠n){b:Bo}{f:Nat->Nat->Bo×Qo}(d:(f m n).2=l):(cR b m n f).2=l:=by rw[mn a c h,d]
def nN(h:¬Ua){b:Bo}{f:Nat->Nat->Bo×Qo}:(cR b s t f).2=[-2]:=by rw[AI Z9]
def nO(h:df [s,t]=0):Ua:=by
 rw[eV]at h;by_cases a:Ua
 ·exact a
 ·grind
def wG(h:df [s,t]≠0):¬mZ s t=true/\df [s,t]= -2:=by
 rw[eV]at h⊢;by_cases a:Ua
 ·grind
 ·exact Qe a W2
structure f9(P:aO)(w:aA)(K:au)(mg:QQ)(base:Heap)(C:Addr):Prop extends tL P w K mg base C where
 rs:aE P w K mg base 5 Qfn Yt (Oa C)
 ahW:aE P w K mg base 5 Qfe Yt (Oc C)
 rf:aE P w K mg base 3 Qff QX (Of C)
 cnt:aE P w K mg base 1 Qei Sh F4
 cs:aE P w K mg base 2 QdP Xt F5
 pk:aE P w K mg base 3 Qe6 Xu N6
abbrev Gd:Stmt:=top 102
abbrev Ge:Stmt:=top 103
abbrev Gf:Stmt:=top 104
abbrev Gg:Stmt:=top 109
end
def aH.gd{b:Bo}(o:aH b)(hs:QE):∀x∈ae b s,cM x:=Sv (o.good s hs x hx)
def aH.AJ{b:Bo}(o:aH b)(ht:Q2):∀y∈av b s t x,cM y:=λy a=>o.gd ht y (YO a)
section
variable{P:aO}{w:aA}{K:au}{mg:QQ}{base:Heap}{f C:Addr}{fd:b_}
variable{X:Cx}{H0 Hb:Hp}{O:QZ}{G:QO}{e e2:Expr}{g:Bool}{pos p1 p2:Pos}{j:Nat}
def wH(h:Ev X H0 O G e g (a4 u))(hl:QP u 3000000)(hs:a_ [Qax 0 j p1] Qg=Yb (Qax 0 j p1)::a_ [] Qg:=by rfl):Vb (.BinOp (.List [Qax 0 j p1] p2) .Add e pos) a4 (0::u):=
 nA (cE (xd ai bj hs)) h Qw (Qy o4) QdD
def Oh:aY (Y_ Uz) [Qk,"s"] (aK Ge):=QF
def Oi(C:Addr)(n:Int):Sp:=Su (Bo×Int) (λ(b,s)=>[a8 C b,aI s]) (λ(b,_)=>aH b) (λ(b,s)=>a4 (act b [[n,s]]).2)
def ahX(F:aP K QfF QfF Ge f fd)(L:f9 P w K mg base C):ay P w K mg base az 4 f fd [Qk,"s"] (Oi C 5):=by
 refine R4 Oh (.n ag (.u .e)) (λr A outer t H E⟨b,s⟩g a=>?_);refine gN 2 (Qel L.rt g [s] (by show 1<=1000;decide) cE (xd (aa 1) bj) ao) Oh.nd (λj v k i h=>Q_ i) Qae
 ·rw[wF]at j h;by_cases c:T2 dS s 1 3
  ·grind
  ·rw[(Sk)]at h;have e:(act b [[5,s]]).2=[-2]:=by
    show(if dS s 1 3=false then _ else _:Bo×Qo).2=_;rw[Qp Vg];rfl
   show(a4 _).p _ _;rw[e];exact h
 ·rw[wF]at l;by_cases c:T2 dS s 1 3
  ·obtain⟨m,rfl,d⟩:=Gb c;have hl:=mm (a.gd d);have q:=a.bc m d;refine aU (wH (Qas L.pk g _ ⟨a.gd d,q⟩ (cB Rp L.bA g (b,m) (Qe d a) (aa 0) (xa (aa 1) ao)) ao) Qa) (λv k i h=>Q_ i);have e:(act b [[5,m]]).2=0::h7 (ae b m):=by
    show(if dS m 1 3=false then _ else _:Bo×Qo).2=_;rw[Qs QdH];rfl
   show(a4 _).p _ _;rw[e];exact h
  ·grind
def Oj:aY [Qk,"s","t",Uz] QX (aK Gg):=QF
def ahY(F:aP K "ask_gaps" "ask_gaps" Gg f fd)(L:f9 P w K mg base C)(j:aE P w K mg base 2 "gaps" QX (XF i3 C (bw (yB b s t)))):ay P w K mg base az 4 f fd QX (hP C 15):=by
 refine R4 Oj (.n ag (.n ag (.u .e))) (λz A outer B H E⟨b,s,t⟩g a=>?_);refine gN 3 (Yx L.rt g [s,t] (xa (cE (xd (aa 1) (xd (aa 2) bj))) ao)) Oj.nd (λc v k i h=>Qe i (by obtain⟨q,e⟩:=wG c;rw[e]at h;show(a4 (cR b s t _).2).p _ _;rw[nN q];exact h)) (λl=>by obtain⟨m,n,rfl,rfl,d,c,r⟩:=eJ (nO l);have hg:∀x∈yB b m n,cM x:=Sv (a.gd d x (YO hx));have hl:=mm hg;have y:SS (yB b m n):=bp (eX _ _) (a.bc m d);refine aU (wH (Qas L.pk g _ (Qe hg y) (Xd j g (b,m,n) d c a (xa (aa 1) (xa (aa 2) ao))) ao) Qa) (λv k i h=>Q_ i);show(a4 (cR b m n _).2).p _ _;rw[nM d c r rfl];exact h)
def Ol(hx:cM x)(a:∀y∈ys,cM y):Tj qg x ys (20+20*QbO):=by
 have g:=AH hx;have i:=hx.len;have c:∀l:List aw,(∀y∈l,cM y)->Qx lI (R1 shown)<=20*QT:=by
  intro l;induction l with
  |nil=>intro _;simp[lI]
  |cons z l d=>
   intro h;have b:=h z Ru;have e:=AH b;have j:=b.len;have k:=d (λy a=>h y (bP _ a));cases l with
   |nil=>show Qx shown z<=_;simp;omega
   |cons f l=>
    show QP (shown z++(44::32::lI _)) _;rw[b0,dh,dh,dh];omega
 have e:=c ys a;show QP (shown x++(58::32::(if ys=[]then [45]else lI _))) _;rw[b0,dh,dh];split
 ·simp;omega
 ·omega
def jy(b:Bo)(s t:Nat)(xs:QC):QU:=(VW (qg x (av b s t x)++[10])).flatten
def ahZ(b:Bo)(s t:Nat)(xs:QC)(x:aw):jy b s t (xs++[x])=jy b s t xs++(qg x (av b s t x)++[10]):=by unfold jy;simp
def Gh{b:Bo}(a:aH b)(ht:Q2):∀xs,(YI (cM x))->QP (jy b s t xs) (900*Qu)
 |[],_=>by simp[jy]
 |x::xs,h=>by
  have d:=Ol (h x Ru) (Zk a.AJ s x ht);have f:=Zk a.hH s x ht;have g:=Gh (s:=s) a ht xs (λy c=>h y (bP _ c));have e:jy b s t (x::xs)=(qg x _++[10])++jy b s t xs:=rfl;rw[e,b0,b0,dh];simp;omega
def AK:aY [Qk,"s","t",Uz,"printed","x"] QX (aK Gd):=QF
def ah0(F:aP K Qe7 Qe7 Gd f fd)(L:f9 P w K mg base C)(B:aE P w K mg base 2 Qfj ["x",XO] NW):ay P w K mg base az 4 f fd QX (hP C 1):=by
 refine Us AK (U8 [.v Qb (a8 C b),Rr,RT,.u,.u,.u]) (.n ag (.n ag (.u (.u (.u .e))))) (λN A outer O H E⟨b,s,t⟩j a=>?_);refine gN 3 (Yx L.rt j [s,t] (xa (cE (xd (aa 1) (xd (aa 2) bj))) ao)) AK.nd (λd v D l h=>Q_ l) (λG=>?_)
 ·obtain⟨I,e⟩:=wG d;rw[e]at h;show(a4 (cR b s t _).2).p _ _;rw[nN I];exact h
 ·obtain⟨m,n,rfl,rfl,g,d,J⟩:=eJ (nO G);have Q:=Gh (s:=m) a d (ae b m) (a.gd g);have R:=a.bc m g;refine ec 4 bj AK.nd Wk;refine eP 5 (λk=>[.v Qb (a8 C b),W3,Yw,Ra 0,.w q (Q9 zs (jy b m n (T8 (ae b m))) aI),.u]) rfl (cB Rp L.bA j (b,m) (Qe g a) (aa 0) (xa (aa 1) ao)) Qw (bS AK.nd rfl QK) RP (λS k x hx=>?_) ?_
  ·have r:=bL hx;have T:=ft hx;have z:=a.gd g x r;refine hG 4 (Qf8 B j (x,av b m n x) ⟨z,a.AJ d,a.hH d⟩ 5 (xa (cB Rp Xv j (b,m,n,x) ⟨g,d,r,a⟩ (aa 0) (xa (aa 1) (xa (aa 2) (xa (aa 5) ao)))) ao)) Qw (bW (λU H c=>c.le ?_)) ?_
   ·refine .eq rfl (.eq rfl (.eq rfl (.eq rfl (.eq ?_ Ry))));rw[(WS),ahZ,wz (jy b m n (T8 (ae b m))),bO]
   ·have V:=Ol z (Zk a.AJ m x d);have W:=Zk a.hH m x d;have X:=Gh (s:=m) a d (T8 (ae b m)) (λy M=>a.gd g y (jd M));rw[ak,ak,gL,gL,b0,bK];simp;omega
  ·rw[cp];refine d9 4 (aU (wH (x_call L.cnt j (zs (jy b m n (ae b m))) (by rw[gL];omega) (xa (aa 4) ao) (A:=a4 (oA (jy b m n (ae b m)))) (by show a4 _=a4 _;rw[gL];rfl)) ?_) (λv D l h=>Q_ l))
   ·show QP (e8 (Qn (jy b m n (ae b m)))::zs (jy b m n (ae b m))) _;rw[dh,gL];omega
   ·show(a4 (cR b m n _).2).p _ _;rw[nM g d J rfl];exact h
def Om:aY [Qk,"s","t",RJ,Uz] [Qk,"s","t",RJ] (aK Gf):=QF
def Oo(a:r=cx b VM u)(h:dg (df [s,t]) r≠0)(f:Nat->Nat->aw->Bo×Qo):(cR b s t (λs t=>h8 b s u (f s t))).2=[dg (df [s,t]) r]:=by
 by_cases c:Ua
 ·obtain⟨m,n,rfl,rfl,d,g,i⟩:=eJ c;rw[nM d g i rfl];rw[eV,(Tz)]at h⊢;have h:r≠0:=h;show _=[r];rw[wC];have a:r=cx b m u:=a;unfold cx at a;cases e:gM b m u with
  |error z=>rw[e]at a;rw[a]
  |ok z=>grind
 ·rw[nN c,eV,(Sk)];rfl
def Gi(a:Ua->r=cx b VM u)(h:dg (df [s,t]) r=0):∃(m n:Nat)(x:aw),s=m/\t=n/\W6/\X4/\m≠n/\gM b m u= .ok x/\x∈ae b m/\dJ u=RE toS x/\ ∀f:Nat->Nat->aw->Bo×List Int,(cR b s t (λs t=>h8 b s u (f s t)))=f m n x:=by
 by_cases c:Ua
 ·obtain⟨m,n,rfl,rfl,d,g,i⟩:=eJ c;rw[eV,(Tz)]at h;have h:r=0:=h;have a:r=cx b m u:=a c;unfold cx at a;cases e:gM b m u with
  |error z=>
   exfalso
   rw[e]at a;subst a;unfold gM at e;split at e
   ·injection e with e;omega
   ·grind
  |ok x=>
   obtain⟨j,k,l⟩:=N8 e;refine⟨m,n,x,rfl,rfl,d,g,i,e,l,by rw[tK j,k];rfl,λf=>?_⟩;rw[mn d g i,wC,e]
 ·rw[eV,(Sk)]at h;cases h
def ah1(F:aP K QeZ QeZ Gf f fd)(L:f9 P w K mg base C):ay P w K mg base az 6 f fd [Qk,"s","t",RJ] (tM C 6):=by
 refine R4 Om (.n ag (.n ag (.o (.u .e)))) (λB A outer D H E⟨b,s,t,u⟩c⟨d,hl⟩=>gN 4 (r:=dg _ (cx b VM u)) (ju (Yx L.rt c [s,t] (xa (cE (xd (aa 1) (xd (aa 2) bj))) ao)) (λg=>j8 (by obtain⟨m,n,rfl,rfl,j,a,l⟩:=eJ (nO g);exact x_call L.rs c (b,m,u) ⟨j,d,hl⟩ (xa (aa 0) (xa (aa 1) (xa (aa 3) ao)))))) Om.nd (λa v k i h=>Qe i (by show(a4 (cR b s t _).2).p _ _;rw[Oo rfl a];exact h)) (λg=>by obtain⟨m,n,x,rfl,rfl,j,a,l,e,hx,q,y⟩:=Gi Vn g;have hg:=Zk d.AJ m x a;have G:=mm hg;have z:=Zk d.hH m x a;refine aU (wH (Qas L.pk c (av b m n x) (Qe hg z) (cB Rp Xv c (b,m,n,x) ⟨j,a,hx,d⟩ (aa 0) (xa (aa 1) (xa (aa 2) (xa (x_call L.rd c u hl (xa (aa 3) ao) (A:=aX x) (by rw[q];rfl)) ao)))) ao) Qa) (λv k i h=>Q_ i);show(a4 (cR b m n _).2).p _ _;rw[y];exact h))
end
end DL
namespace DL
open PySem PySem.Spec L2 NT AT
open PyProof.Rows hiding St
section
variable{X:Cx}{H0 Hb:Hp}{O:QZ}{G:QO}{g:Bool}{A:a6}{As:R7}{pos p p' p2:Pos}{e a b:Expr}{x:Str}
def ah2{ns:QU}(eA:Nat->a6){b}(y:qE X.K X.mg x (Qcm n))(hl:S9<=bq)(ok:j2 X.N Sg b [(nm,i)])
  (hg:∀s H C cl d,PG (X.a' s H b (dw b cl C Qg) d) tg (fo i))
  (B:∀n∈ns,∀D s H C cl d,Qci (X.a' s H b (dw b cl C Qg) d) (D::O) (S8 Yw) l (eA n))
  (E:Gl X x:=by rfl)(hd:SK=Qb:=by decide):wo X H0 O G l tg Te [] b (aL (YT eA)):=by
 have F:∀k,k<S9->ns[k]?=Rz ns.getD k 0:=λk f=>Qm
 have I:YT eA=Uo (dd S9) (RC true) (λk=>eA (ns.getD k 0)):=by
  rw[(Zc)];apply iE;intro k;by_cases f:k<S9
  ·grind
  ·grind
 rw[I];obtain⟨a,K,e⟩:=y;refine FH _ _ _ _ (yT (qk (v:=QS) E K rfl hd)) hl ok hg (λHb m H R c q=>Rn a (V0 e H) (q _ H RK (λk h f s1=>?_) (λh s1=>Tn (e h) Qj))) (λk f D s H C cl d=>jW) (λk f _ D s H C cl d=>B _ (bL (F k f)) D s H C cl d);have o:((ns.map λ(n:Nat)=>(n:Int)).map V.int)[k]?=RE V.int (ns.getD k 0):=by grind
 refine Qe ⟨_,_,e h,o⟩ (λz P j=>?_);obtain⟨rfl,j⟩:=j;have t:=j _ (e _);rw[o]at t;cases t;exact⟨RK,λD S L M Q r=>r _ (by have w:=((c.own L s1 M rfl).js (i:=i) (s:= .u) (x:=none) trivial (λq e=>nomatch e)).set (i:=i) (A:=aI (ns.getD k 0)) (g:=true) rfl;rw[gV]at w;exact w) (by show wipe ((m.set i none).set i _) [i]=wipe m [i];rw[zP,zP,gV,gV])⟩
def ah3{rows:R_}(eA:Nat×Nat->a6)(M:qP X.K X.mg x (rows.map (λr=>[r.1,r.2])))(E:i≠j)(hl:Qd1<=bq)(ok:j2 X.N Sg d [(ni,i),(nj,j)])
  (hg:∀s H C cl e,PG (X.a' s H d (dw d cl C Qg) e) (Xe t w B) (CP X.K 2 (sg (fo i) (sg (fo j) yQ))))
  (N:∀r∈rows,∀D s H C cl e,Qci (X.a' s H d (dw d cl C Qg) e) (D::O) ((S8 (Ra r.1)).set j (Ra r.2)) o (eA r))
  (P:Gl X x:=by rfl)(hd:SK=Qb:=by decide):wo X H0 O G o (Xe t w B) Te [] d (aL (rows.map eA)):=by
 have F:∀k,k<Qd1->rows[k]?=Rz rows.getD k (0,0):=λk f=>Qm
 have S:rows.map eA=Uo (dd Qd1) (RC true) (λk=>eA (rows.getD k (0,0))):=by
  rw[(Zc)];apply iE;intro k;by_cases f:k<Qd1
  ·grind
  ·grind
 rw[S];obtain⟨a,h,T,b,I⟩:=M;have U:=by have:=bQ I;rwa [ak]at this
 refine FH _ _ _ _ (yT (qk (v:=QS) P T rfl hd)) hl ok hg (λHb σ H R c q=>Rn a (V0 b H) (q _ H RK (λk l f s1=>?_) (λl s1=>⟨_,b l,by simp[U]⟩))) (λk f D s H C cl e=>jW) (λk f _ D s H C cl e=>N _ (bL (F k f)) D s H C cl e);obtain⟨y,m⟩:∃y,h[k]?=V7:=⟨h[k]'(by omega),cN _⟩;refine Qe ⟨_,_,b l,by rw[cY,m];rfl⟩ (λz H2 n=>?_);obtain⟨rfl,n⟩:=n;have J:=n _ (b _);rw[cY,m]at J;cases J;obtain⟨rw_,K,V⟩:=qB I m;rw[cY,F k f]at K;cases K;refine⟨RK,λD acc W Y Q r=>⟨y,_,rfl,V _,rfl,_,_,rfl,_,_,rfl,rfl,r _ ?_ (Nw E _ _)⟩⟩;have L:=((Qbg (Qbg (c.own W s1 Y rfl).js j .u none (λq b=>nomatch b)).js i .u none (λq b=>nomatch b)).set (i:=i) (A:=aI (rows.getD k (0,0)).1) (g:=true) rfl).set (i:=j) (A:=aI (rows.getD k (0,0)).2) (g:=true) rfl;rw[gV,BX _ _ (fP E),gV]at L;exact L
def wO(X:Cx)(e:Ri Expr):St->Hp->Q5 (TJ Wm):=Uq (∀b s,Inv X b a H s->aj (aV Qr X.w) X.A (evalPart e Qg) (λu d=> ∃o c,Inv X b a c d/\IsPart u o/\Q o c) Q3 s)
def tN{a}:PO X a (wO X a):=Qcc (h b s I)
def pq(X:Cx)(H0:Hp)(O:QZ)(G:QO)(e:Ri Expr)(o:Wm):Prop:= ∀Hb a H Q,Cf H0 Hb O G a H->(∀b,af H b->Q o b)->wO X e a H Q
def o0:pq X H0 O G none none:=Qf5 (C6 b s a H Q I (q H RK))
def o1(h:QfD e):pq X H0 O G Xr (Qc i):=Qf5 (qt a7 b s a H Q I (h Hb a H _ c (λv d s1 f=>Qh i f (q d s1))))
def iu(As:R7)(lo hi:Wm):R7:=Rf (As.drop (HT.gB WG 0 lo)) (HT.gB WG WG hi-HT.gB WG 0 lo)
def ah4(h:bJ H vs As):∀n,bJ H (vs.drop n) (As.drop n):=λn=>by
 induction h generalizing n with
 |nil=>rw[List.drop_nil,List.drop_nil];exact .nil
 |cons r t a=>
  cases n with
  |zero=>exact Rc r t
  |succ n=>exact a n
def ah5(h:bJ H vs As):∀n,bJ H (vs.take n) (As.take n):=λn=>by
 induction h generalizing n with
 |nil=>rw[List.take_nil,List.take_nil];exact .nil
 |cons r t a=>
  cases n with
  |zero=>exact .nil
  |succ n=>exact UP r a n
def ah6{lo hi}(n:Ev X H0 O G e g (aL As))(b:Qv g\/X2)(hl:pq X H0 O G lo l)(r:pq X H0 O G hi h):Vb (Vx e (.Slice lo hi none p2)) aL (iu As l h):=
 Xz cC (vj vl a7 tN tN) (n Hb d H _ c (λv s s1 u=>hl Hb d s _ Q0 (λw s2=>r Hb d w _ VO (λj s3=>by
  have f:=QY VO s3;obtain⟨t,a,rfl,ht,i⟩:=(aL As).m (j7 (s2.trans s3)) u;refine RF t a (Q6 (eI f ht)) (λp x=>?_);obtain⟨k,y⟩:=f.new (o:=YE (iU a l h)) x;have B:bJ (bs H0 O j) a As:=by
   rcases b with rfl|b
   ·exact i
   ·exact f.vV b i
  have C:bJ (bs H0 O j) (iU a l h) (iu As l h):=by
   unfold iU iu;rw[(bQ i)];exact ah5 (ah4 B _) _
  exact q _ _ (QH Rt (s3.trans k)) (Tt p y (C.m (fY k)))))))
end
open Vbdhaj(Sense sensesOf equals paired less lessText members isText bytes senseOf act onSense onTongues toldSense toldSenses toldField printLine shown back classes classOf complete lacking)
abbrev Gj:Stmt:=top 105
abbrev Gk:Stmt:=top 106
abbrev Gm:Stmt:=top 108
abbrev Gn:Stmt:=top 112
def Oq{a:Type}{f:a->Qo}:∀ {l:List a},(∀x∈l,Qx f x<=n)->YB l f<=n*QT
 |[],_=>by simp
 |x::l,h=>by
  have c:=h x Ru;have d:=Oq (λy b=>h y (bP _ b));rw[lA,b0,dh,Nat.mul_add];omega
def iv{a:Type}(n:Nat)(l:VQ)(f:a->Qo)(k:Nat):R7:=Wc (0::Y9::RW Ui f)
def px{x:a}(h:l[k]?=Qz):iv n l f (k+1)=iv n l f k++Q9 f x aI:=by
 unfold iv;rw[Sm h,ly];simp
def pz{k n m c}(h:∀x∈l,Qx f x<=n)(d:n*QT<=m):QP (iv c l f k) (m+2):=by
 have e:=Oq (l:=Ui) (λy b=>h y (jd b));have g:n*Qx l.take k<=n*QT:=Nat.mul_le_mul_left _ Qm;unfold iv;rw[ak,dh,dh];omega
def pA{f:a->Qo}:aL (iv n l f QT)=a4 (0::n::RW l f):=by unfold iv;rw[cp]
section
variable{P:aO}{w:aA}{K:au}{mg:QQ}{base:Heap}{f C:Addr}{fd:b_}
def tO:aY [Qk,"s","t",RJ,Uz,Td,ZD,Yo,"z"] [Qk,"s","t",RJ] (aK Gj):=QF
def ah7(F:aP K "ask_back" "ask_back" Gj f fd)(L:f9 P w K mg base C)(M:aE P w K mg base 2 Qe4 [Qk,"s","t","x"] (MC C)):ay P w K mg base az 6 f fd [Qk,"s","t",RJ] (tM C 7):=by
 refine Us tO (Qez [.v Qb (a8 C b),Rr,RT,.v Qb (a4 u),.u,.u,.u,.u,.u]) (.n ag (.n ag (.o (.u (.u (.u (.u (.u .e)))))))) (λV A outer W H E⟨b,s,t,u⟩g⟨d,hl⟩=>?_);refine gN 4 (r:=dg (df [s,t]) (cx b VM u)) (ju (Yx L.rt g [s,t] (xa (cE (xd (aa 1) (xd (aa 2) bj))) ao)) (λB=>j8 ?_)) tO.nd (λl v N D h=>Q_ D) (λB=>?_)
 ·obtain⟨m,n,rfl,rfl,a,l,O⟩:=eJ (nO B);exact Xd L.rs g (b,m,u) a d hl (xa (aa 1) (xa (aa 3) ao))
 ·show(a4 (cR b s t _).2).p _ _;rw[Oo rfl l];exact h
 ·obtain⟨m,n,x,rfl,rfl,a,l,O,e,hx,Q,R⟩:=Gi Vn B;have j:∀z∈back b m n x,z.1∈ae b m:=λz j=>by
   obtain⟨y,S,e⟩:=gk.mp j;dsimp only at e;split at e
   ·cases e
   ·cases e;exact S
  have X:SS (back b m n x):=bp (lu _ _) (d.bc m a);let G:aw×Nat->Qo:=λz=>e8 z.2::kI z.1
  have T:∀z∈back b m n x,Qx G z<=16:=λz U=>by
   have:=ml (d.gd a z.1 (j z U));rw[dh];omega
  refine bG 5 (Yf M g (b,m,n,x) ⟨a,l,hx,d⟩ (xa (aa 1) (xa (aa 2) (xa (x_call L.rd g u hl (xa (aa 3) ao) (by rw[Q];rfl)) ao)))) tO.nd ?_;refine ec 6 (xd ai (xd ((dZ Tq (aa 5)).eq WE) bj)) tO.nd Wk;refine wb [7,8] (λk=>[.v Qb (a8 C b),W3,Yw,.v Qb (a4 u),Ra 0,Zt (QG (back b m n x) E9),.w q (iv (Qn (back b m n x)) (back b m n x) G k),.u,.u]) rfl (aa 5) (dQ (bS tO.nd rfl QK) (dQ (bS tO.nd rfl QK) jY)) Vn RP (λY k z I=>?_) ?_
  ·have J:=bL I;have Z:=Qce pz (Qn (back b m n x)) k T 640;refine fH 6 (aa 7) (hG 6 (Ud L.cs g z.1 (d.gd a z.1 (j z J)) 8) Qw (bW (Vv (c.le ?_))) ?_) ?_
   ·refine .eq rfl (.eq rfl (.eq rfl (.eq rfl (.eq rfl (.eq rfl (.eq ?_ (.u Ry)))))));rw[px I,eK];rfl
   ·have h1:=ml (d.gd a z.1 (j z J));rw[b0,ak,bK];simp;omega
   ·rw[bK];omega
  ·refine d9 6 (aU (aa 6) (λv N D h=>Q_ D));show(a4 (cR b m n _).2).p _ _;rw[R];rw[pA]at h;exact h
def ah8{b:Bo}(a:aH b)(hs:QE)(ht:Q2)(aq:s≠t)(g:c∈iO b s t):(c.1.all (λx=>Ro (av b s t x) c.2))=complete b s t c/\(∀x∈c.1,x∈ae b s)/\(∀y∈c.2,y∈ae b t)/\c.1.length<=40/\c.2.length<=40:=by
 rw[Nd a hs ht aq]at g;obtain⟨x,hx,e⟩:=gk.mp g;unfold fg at e;split at e
 ·cases e;have cl:=qT a hs ht aq (jw hx);have i:∀z∈(dO b s t x).1,z∈ae b s:=λz f=>jw (Ao a hs ht aq hx f);have j:∀y∈(dO b s t x).2,y∈ae b t:=λy d=>by
   obtain⟨z,_,h⟩:=(cl.m2 y).mp d;exact(j' a h).2
  refine⟨?_,i,j,bp (Ag (ee cl.s1) i) (a.bc s hs),bp (Ag (ee cl.s2) j) (a.bc t ht)⟩;unfold complete;rw[gU,hV,hV];refine forall_congr' (λz=>forall_congr' (λf=>?_));rw[decide_eq_true_eq,hV];constructor
  ·intro h y d;rw[<-h]at d;exact(d3 a).mp d
  ·exact λh=>iq (a.l_ ht) cl.s2 (λy=>⟨λd=>(cl.m2 y).mpr ⟨z,(cl.m1 z).mp f,(d3 a).mp d⟩,λd=>(d3 a).mpr (h y d)⟩)
 ·cases e
def tP:aY [Qk,"s","t",Uz,Td,ZD,ZC,Zy] QX (aK Gk):=QF
def ah9(F:aP K Qfw Qfw Gk f fd)(L:f9 P w K mg base C)(M:aE P w K mg base 4 Qfu QX (XF Ng C (SA (iO b s t) i5)))(N:aE P w K mg base 2 Qft [Qk,"s","t",ZC,Zy] (Nb C)):
  ay P w K mg base az 5 f fd QX (hP C 8):=by
 refine Us tP (U8 [.v Qb (a8 C b),Rr,RT,.u,.u,.u,.u,.u]) (.n ag (.n ag (.u (.u (.u (.u (.u .e))))))) (λU A outer V H E⟨b,s,t⟩l a=>?_);refine gN 3 (Yx L.rt l [s,t] (xa (cE (xd (aa 1) (xd (aa 2) bj))) ao)) tP.nd (λd v O y h=>Q_ y) (λQ=>?_)
 ·obtain⟨R,e⟩:=wG d;rw[e]at h;show(a4 (cR b s t _).2).p _ _;rw[nN R];exact h
 ·obtain⟨m,n,rfl,rfl,j,d,z⟩:=eJ (nO Q);have D:∀c∈iO b m n,_:=λc g=>ah8 a j d z g;have W:SS (iO b m n):=bp (lu _ _) (a.bc m j);let G:=λc=>(if complete b m n c=true then 1 else 0)::r4 c
  have l1:∀c∈iO b m n,Qx h7 c.1<=601/\Qx h7 c.2<=601:=λc g=>by
   obtain⟨_,r,B,n1,n2⟩:=D c g;have X:=mm (Sv (a.gd j x (r x hx)));have Y:=mm (Sv (a.gd d x (B x hx)));omega
  have S:∀c∈iO b m n,Qx G c<=1203:=λc g=>by
   have:=l1 c g;show QP (_::(h7 c.1++h7 c.2)) 1203;rw[dh,b0];omega
  refine bG 4 (Yf M l (b,m,n) ⟨j,d,z,a⟩ (xa (aa 1) (xa (aa 2) ao))) tP.nd ?_;refine ec 5 (xd ai (xd ((dZ Tq (aa 4)).eq WE) bj)) tP.nd Wk;refine wb (xs:=iO b m n) [6,7] (λk=>[.v Qb (a8 C b),W3,Yw,Ra 0,Zt (QG (iO b m n) i5),.w q (iv (Qn (iO b m n)) (iO b m n) G k),.u,.u]) rfl (aa 4) (dQ (bS tP.nd rfl QK) (dQ (bS tP.nd rfl QK) jY)) Vn RP (λZ k c I=>?_) ?_
  ·have J:=bL I;obtain⟨T,r,B,n1,n2⟩:=D c J;have h12:=l1 c J;have hln:=Qce pz (Qn (iO b m n)) k S 48120;refine fH 5 (A:=aI (if complete b m n c=true then 1 else 0)) (o9 (f6 (x_call N l (b,m,n,c.1,c.2) ⟨j,d,a,n1,r⟩ (xa (aa 0) (xa (aa 1) (xa (aa 2) (xa (aa 6) (xa (aa 7) ao))))) (by show aB _=_;rw[T]))) (λg=>ai.eq (by rw[if_pos g])) (λg=>ai.eq Qm)) ?_ ?_
   ·refine hG 5 (Ud L.pk l c.1 ⟨Sv (a.gd j x (r x hx)),n1⟩ 6) Qw (hG 5 (Ud L.pk l c.2 ⟨Sv (a.gd d x (B x hx)),n2⟩ 7) Qw (bW (Vv (c.le ?_))) ?_) ?_
    ·refine .eq rfl (.eq rfl (.eq rfl (.eq rfl (.eq rfl (.eq ?_ (.u Ry))))));rw[px I,eK,eK];show _=Sl.w q (_++uz aI (_::(h7 _++h7 _)));rw[cg,bO];rfl
    ·rw[b0,b0,ak,ak,bK];simp;omega
    ·rw[b0,ak,bK];simp;omega
   ·rw[bK];omega
  ·refine d9 5 (aU (aa 5) (λv O y h=>Q_ y));show(a4 (cR b m n _).2).p _ _;rw[nM j d z rfl];rw[pA]at h;exact h
end
end DL
namespace DL
open PySem PySem.Spec L2 NT AT
open PyProof.Rows hiding St
open Vbdhaj(Sense sensesOf equals paired less lessText members isText bytes senseOf act onSense onTongues toldSense toldSenses toldField lacking)
def aia(n:Nat):iu As none (Qc n)=As.take n:=by
 unfold iu;rw[HT.C5,HT.vi,uw,Nat.sub_zero];by_cases h:n<=WG
 ·rw[uE h]
 ·simp
def aib{b:Bo}(h:p∈kK b):To p.1/\To W9/\p.2.2.1∈ae b p.1/\p.2.2.2∈ae b W9:=by
 obtain⟨q,a,h⟩:=iF.mp h;obtain⟨x,hx,h⟩:=iF.mp h;obtain⟨y,c,h⟩:=gk.mp h
 split at h
 ·grind
 ·cases h
section
variable{P:aO}{w:aA}{K:au}{mg:QQ}{base:Heap}{f C:Addr}{fd:b_}
def qY:aY [Qk,Td,ZD,"s","t","x","y"] [Qk] (aK Gm):=QF
def AL(C:Addr)(n:Int):Sp:=Su Bo (λb=>[a8 C b]) (λb=>aH b) (λb=>a4 (act b [[n]]).2)
def aic(F:aP K Qfx Qfx Gm f fd)(L:f9 P w K mg base C)(y:cb mg "MOST_LACKING_TOLD" 100)(z:aE P w K mg base 4 Qfs [Qk] (MT C)):ay P w K mg base az 5 f fd [Qk] (AL C 10):=by
 refine Us qY (λb=>[.v Qb (a8 C b),.u,.u,.u,.u,.u,.u]) (.u (.u (.u (.u (.u (.u .e)))))) (λI A outer J H E b n a=>?_);let s:Nat×Nat×aw×aw->Qo:=λp=>zs [p.1,W9]++(kI p.2.2.1++kI p.2.2.2)
 have t:∀p∈(kK b).take 100,To p.1/\To W9/\p.2.2.1∈ae b p.1/\p.2.2.2∈ae b W9:=λp r=>aib (jd r);have B:∀p∈(kK b).take 100,Qx s p<=32:=λp r=>by
  obtain⟨d,g,j,l⟩:=t p r;have l1:=ml (a.gd d _ j);have l2:=ml (a.gd g _ l);rw[b0,b0,gL];simp;omega
 have M:Qx (kK b).take 100<=100:=by grind
 refine bG 1 (Ud z n b a 0) qY.nd ?_;refine ec 2 (xd ai (xd ((dZ Tq (aa 1)).eq WE) bj)) qY.nd Wk;refine wb [3,4,5,6] (λk=>[.v Qb (a8 C b),Zt (Q9 kK b Ad),.w q (iv (Qx kK b) (Rf (kK b) 100) s k),.u,.u,.u,.u]) rfl ((ah6 (aa 1) Qw o0 (o1 (ba y))).eq (by show aL (iu _ none (some (100:Nat)))=_;rw[aia,<-mH];rfl)) (dQ (bS qY.nd rfl QK) (dQ (bS qY.nd rfl QK) (dQ (bS qY.nd rfl QK) (dQ (bS qY.nd rfl QK) jY)))) Vn RP (λN k p x=>?_) ?_
 ·have D:=bL x;obtain⟨d,g,j,l⟩:=t p D;have l1:=ml (a.gd d _ j);have l2:=ml (a.gd g _ l);have O:=Qce pz (Qx kK b) k B 3200;refine hG 2 (cE (xd (aa 3) (xd (aa 4) bj))) Qw (hG 2 (Ud L.cs n p.2.2.1 (a.gd d _ j) 5) Qw (hG 2 (Ud L.cs n p.2.2.2 (a.gd g _ l) 6) Qw (bW (λQ H c=>c.le ?_)) ?_) ?_) ?_
  ·refine .eq rfl (.eq rfl (.eq ?_ (.u (.u (.u Ry)))));rw[px x,eK,eK];show _=Sl.w q (_++uz aI (zs [p.1,W9]++(kI p.2.2.1++kI p.2.2.2)));rw[bO,bO];rfl
  ·rw[b0,b0,ak,ak,bK];simp;omega
  ·rw[b0,ak,bK];simp;omega
  ·rw[bK];simp;omega
 ·refine d9 2 (aU (aa 2) (λv R G h=>Q_ G));rw[pA]at h;exact h
def Ot{a b c:Type}(g:a->QR b)(h:a->b->c):∀l:List a,Qdt (λx=>QW (Qx g x))=(YB l (λx=>Q9 g x (h x)))
 |[]=>rfl
 |x::l=>by
  rw[cg,BW,Ot g h l,lA,b0,ak];omega
def aid{b:Bo}(a:aH b)(hs:QE)(ht:Q2)(f:s<t):(QG (ae b s) (λx=>Qcl (av b s t x))).sum=(Qx b.pairs.filter (λp=>p.a==s&&p.b==t)):=by
 rw[Ot _ _];have nd:S7 (RW (ae b s) (λx=>QG (av b s t x) (λy=>(⟨s,t,x,y⟩:kH)))):=by
  refine List.pairwise_flatMap.mpr ⟨λx _=>We ((ee (a.l_ ht)).imp (Wh (by injection e))),(a.EN hs).imp (λh p c q j e=>?_)⟩;obtain⟨y,_,rfl⟩:=RM c;obtain⟨z,_,rfl⟩:=RM j;injection e with _ _ e;exact h e
 have p:=(lr nd (a.nd.sublist n6)).mpr (λp=>(?_:_↔p∈Qcg b (λp=>p.a==s&&p.b==t)))
 ·rw[p.length_eq]
 ·rw[eh,iF];constructor
  ·rintro⟨x,hx,c⟩;obtain⟨y,k,rfl⟩:=RM c;have:=(d3 a).mp k;unfold b6 bR at this;rw[Qp f,gj]at this;exact Z2 this
  ·rintro⟨c,h⟩;simp at h;obtain⟨d,g⟩:=h;obtain⟨_,_,_,i,n⟩:=a.lg p c;obtain⟨o,r,l,m⟩:=p;subst d g;refine Qh l i (Qbt m ((d3 a).mpr ?_));unfold b6 bR;rw[Qp f,gj];exact c
def two:QbM Nat:=[(1,2),(1,3),(2,3)]
def tQ:aY [Qk,"how_many_senses","s","t"] [Qk] (aK Gn):=QF
def aie(F:aP K QfG QfG Gn f fd)(L:f9 P w K mg base C)(g:qE K mg "TONGUES" [1,2,3])(k:qP K mg "TWO_TONGUES" [[1,2],[1,3],[2,3]])(l:aE P w K mg base 2 Qe3 QX (XF i3 C (aI (QG (ae b s) (λx=>Qcl (av b s t x))).sum))):ay P w K mg base az 3 f fd [Qk] (AL C 18):=by
 refine Us tQ (λb=>[.v Qb (a8 C b),.u,.u,.u]) (.u (.u (.u .e))) (λq A outer y H E b d a=>?_);refine ag4 1 (ah2 (ns:=dY) (nm:="s") (λs=>aI Xs) g (gI QD) (fc QB) (VB 2 tQ.nd) (λs hs D _ _ _ _ _=>(dZ Tq (cB Rp L.bA d (b,s) (Qe hs a) (aa 0) (xa (aa 2) ao))).eq WE)) rfl tQ.nd ?_;have ht:∀r∈two,To r.1/\To r.2/\r.1<r.2:=by decide
 refine aU (nA (nA (cE (xd ai bj)) (aa 1) Qw Qw (gI YU)) (Nu (ah3 (rows:=two) (ni:="s") (nj:="t") _ k QD (gI QD) (fc QB) (Qdk (oJ rfl (dQ (WC 2 tQ.nd) (dQ (WC 3 tQ.nd) jY)))) (λr c D _ _ _ _ _=>x_call l d (b,r.1,r.2) (Qh (ht r c).1 (ht r c).2.1 a) (xa (aa 0) (xa (aa 2) (xa (aa 3) ao))) (by show aI _=_;rw[aid a (ht r c).1 (ht r c).2.1 (ht r c).2.2]))) rfl tQ.nd) Qw Qw (gI YU)) (λv z m h=>Q_ m)
 have e:(Qcg b (λp=>p.a==2))=Qcg b (λp=>p.a==2&&p.b==3):=jJ (λp n=>by
  obtain⟨B,G,I,_⟩:=a.lg p n;by_cases h:p.a=2
  ·grind
  ·simp[h])
 show(a4 (0::zs (_++[_,_,Qx b.pairs.filter (λp=>p.a==2)]))).p _ _;rw[e];exact h
end
end DL
namespace DL
open PySem
open Vbdhaj(Sense sensesOf equals paired less lessText members fields common closed isField rowsOut isPart rightWithin covers allPairs hasPair coverBy)
structure jz(b:Bo)(s t:Nat)(f:Fl):Prop where
 cA:b7 f.1
 sub:f.1.Sublist (bg b s t)
 snd:f.2=eD b s t f.1
def qZ{b:Bo}(c:aH b)(hs:QE){f:Fl}(h:f∈dW b s t):jz b s t f:=by
 obtain⟨d,hx,rfl⟩:=RM h;have a:=Ar (YO hx);exact Sz (Qf1 (Xc (c.cA s hs)) a) a
def jz.l1(o:jz b s t f)(h:QP (bg b s t) 6):YY<=40:=bp o.sub.length_le Qa
def jz.in1(o:jz b s t f):∀x∈f.1,x∈ae b s:=Sv (jw (o.sub.subset hx))
def jz.aif(o:jz b s t f):∀x∈f.2,x∈ae b t:=Sv (by rw[o.snd]at hx;exact(eh.mp hx).1)
def jz.s2{b:Bo}(a:aH b)(ht:Q2)(o:jz b s t f):b7 f.2:=by rw[o.snd];exact Xc (a.cA t ht)
def jz.l2{b:Bo}(a:aH b)(ht:Q2)(o:jz b s t f):Qd8<=40:=by rw[o.snd];exact bp (eX _ _) (a.bc t ht)
def Gp{b:Bo}(a:aH b)(hs:QE)(ht:Q2)(d:QP (bg b s t) 6):tG (dW b s t):=by
 refine⟨?_,λf c=>(qZ a hs c).l1 d,λf c=>(qZ a hs c).l2 a ht⟩;have e:=eX (kN b s t) (fT (bg b s t));rw[Aq]at e;have g:=Au d;unfold dW;rw[ak];omega
def wI{b:Bo}(i:aH b)(a:jz b s t f)(hg:jz b s t g):tF f g=(f !=g&&isPart f.1 g.1):=by
 unfold tF isPart;have e:(f.1.all (λx=>Ur x g.1))=f.1.all (λx=>g.1.contains x):=by
  simp
 rw[e];by_cases h:Qv (f.1.all (λx=>g.1.contains x))
 ·by_cases hl:YY<g.1.length
  ·grind
  ·have c:=Fs a.cA hg.cA (Sv (gj.mp (hV.mp h x hx))) Qa;have:=uH c.symm (by rw[a.snd,hg.snd,c]);simp[this]
 ·grind
def aih{a:Type}(d:a)(l:VQ):l.zipIdx=WB QT (λi=>(UO l d,i)):=by
 apply iE;intro i;by_cases h:i<QT
 ·grind
 ·grind
def Ou{a b:Type}(c:S4 a)(g:a->b):∀l:List a,(TV l (λx=>if c x=true then some (g x)else none))=Uo l c g
 |[]=>rfl
 |x::l=>by
  rw[lx,jK,Ou c g l];by_cases h:Qdq c
  ·rw[(V9),(V9)];rfl
  ·rw[(Vs),(Vs)]
def Ov{a b:Type}{f g:a->QR b}:∀ {l:List a},(∀x∈l,f x=g x)->RW l f=RW l g
 |[],_=>rfl
 |x::l,h=>by rw[lA,lA,h x Ru,Ov (λy c=>h y (bP _ c))]
def aii{b:Bo}(f:aH b)(hs:QE):tI (dW b s t)=covers (dW b s t):=by
 let fs:=dW b s t;let d:Fl:=([],[])
 have o:∀i,i<T7->fs[i]?=Rz fs.getD i d:=λi h=>Qm
 have c:=λi h=>qZ f hs (bL (o i h));have u:∀i,i<T7->UO (dm fs) []=Sd (dd _) (λk=>tF _ _):=λi h=>by
  unfold dm;rw[jH,cY,o i h];refine jJ (λk m=>?_);unfold FL;rw[o k (fO.mp m)]
 have q:∀i j,i<T7->(j∈UO (dm fs) []↔j<T7/\Rm tF (fs.getD i d) (fs.getD j d)):=λi j h=>by
  grind
 unfold tI covers;rw[aih d fs,List.flatMap_map];apply Ov;intro i hi;have hi:=fO.mp hi;rw[List.filterMap_map];show _=TV (dd _) (λj=>if rightWithin fs _ _=true then some _ else none);rw[Ou _ _];congr 1
 unfold mi;rw[u i hi,List.filter_filter];refine jJ (λj l=>?_);have l:=fO.mp l;rw[BJ,wI f (c i hi) (c j l)];rw[Bool.and_assoc];congr 2
 congr 1
 rw[gU,kv,kv];constructor
 ·rintro⟨k,m,h⟩;obtain⟨a,r⟩:=Zn m;have a:=fO.mp a;rw[decide_eq_true_eq,q k j a]at h;have n:=h.2;rw[wI f (c i hi) (c k a),bX]at r;rw[wI f (c k a) (c j l),bX]at n;refine⟨fs.getD k d,bL (o k a),?_⟩;have p:fs.getD k d≠fs.getD i d:=λe=>Qm
  rw[n.1,r.2,n.2];simpa using p
 ·rintro⟨g,hg,h⟩;obtain⟨k,m⟩:=List.getElem?_of_mem hg;have a:=Ub m;have e:fs.getD k d=g:=by grind
  subst e;rw[bX,bX,bX]at h;obtain⟨v,n,w,x⟩:=h;have p:=by simpa using v
  exact⟨k,eh.mpr ⟨fO.mpr a,by rw[wI f (c i hi) (c k a),w,Bool.and_true];simpa using λe=>p e.symm⟩,by rw[decide_eq_true_eq,q k j a,wI f (c k a) (c j l),n,x];exact⟨l,rfl⟩⟩
def Gq:p∈d4 f↔p.1∈f.1/\p.2∈f.2:=by
 unfold d4;constructor
 ·grind
 ·grind
def AM{f:Fl}:Rm hasPair f p↔p∈d4 f:=by
 unfold hasPair;rw[Gq,bX,gj,gj]
def aij(a:f.1.Nodup)(b:f.2.Nodup):S7 (d4 f):=by
 refine List.pairwise_flatMap.mpr ⟨λx _=>We (b.imp (Wh (Qat Prod.snd e))),a.imp (λh p c q d e=>?_)⟩;obtain⟨y,_,rfl⟩:=RM c;obtain⟨z,_,rfl⟩:=RM d;exact h (Qat Prod.fst e)
def Ow{a:Type}[BEq a][LawfulBEq a]{l:VQ}{x y}(hx:x∈l)(d:y∈l)(h:l.idxOf x=l.idxOf y):x=y:=by
 have b:l[l.idxOf x]?=Qz:=by grind
 have c:l[l.idxOf y]?=V7:=by grind
 rw[h,c]at b;exact(gn b).symm
def Gr:p∈gK fs↔ ∃f∈fs,p∈d4 f:=by
 unfold gK;rw[(AB _).2.2,iF]
def AN(d:f∈fs)(g:f.1.Nodup)(i:f.2.Nodup)(j:Nat):Qbn (mj fs f) j↔ ∃p∈d4 f,(gK fs).idxOf p=j:=by
 unfold mj;have nd:=by
  have:∀l:List _,S7 l->(∀p∈l,p∈gK fs)->S7 (R1 (λp=>(gK fs).idxOf p)):=by
   intro l;induction l with
   |nil=>simp
   |cons a l m=>
    intro nd h;rw[cg,gm];rw[gm]at nd;refine⟨λn=>?_,m nd.2 (λp b=>h p (bP _ b))⟩;obtain⟨q,c,e⟩:=RM n;have:=Ow (h q (bP _ c)) (h a Ru) e;subst this;exact nd.1 c
  exact this _ (aij g i) (λp b=>TZ Gr.mpr f d b)
 rw[tq nd,decide_eq_true_eq,cQ]
def aik(l:QU)(j:Nat):Qbn (lj l) j↔ ∃h∈l,h.testBit j=true:=by
 suffices∀a,Qbn (l.foldl (λa b=>a|||b) a) j↔Qbn a j\/ ∃h∈l,h.testBit j=true by
  unfold lj;rw[this];simp
 induction l with
 |nil=>intro a;simp
 |cons x l c=>
  grind
def Ox(a:p<Ug)(j:Nat):Qbn (RG (ey hs) p 0) j↔ ∃h∈hs.drop p,h.testBit j=true:=by
 have e:RG (ey hs) p 0=lj (Qde (Ug-p)):=by
  unfold ey;rw[jH,BO QaM,cY,ak,pQ,BQ Qa];show lj _=_;rw[show Ug-1-p+1=Ug-p by omega]
 rw[e,aik];have:∀h,h∈Qde _↔h∈hs.drop p:=λh=>by
  rw[List.take_reverse,show Ug-(Ug-p)=p by omega,List.mem_reverse]
 constructor
 ·grind
 ·grind
def ail(m h j:Nat):YK (m-(m&&&h)) j=(YK m j&&!h.testBit j):=by
 have a:(m^^^(m&&&h))&&&(m&&&h)=0:=uC (λi=>by
  grind)
 have b:(m^^^(m&&&h))|||(m&&&h)=m:=uC (λi=>by
  grind)
 have c:=ML _ _ _ (aQ _) a;rw[show m-(m&&&h)=m^^^(m&&&h)by omega,Nat.testBit_xor,xP];cases YK m j<;>cases YK h j<;>rfl
section
variable{fs:WT}(hn:∀f∈fs,f.1.Nodup/\f.2.Nodup)
def RelM(fs:WT)(m:Nat)(a:XW):Prop:=(∀p∈a,p∈gK fs)/\ ∀j,Qbn m j↔ ∃p∈a,(gK fs).idxOf p=j
def RelM.zero(r:RelM fs m a):m=0↔a=[]:=by
 constructor
 ·intro h;cases a with
  |nil=>rfl
  |cons p l=>
   have:=(r.2 _).mpr (Qek p Ru);rw[h,B4]at this;cases this
 ·rintro rfl;refine uC (λj=>?_);rw[B4,<-rp];intro h;obtain⟨p,b,_⟩:=(r.2 j).mp h;cases b
include hn in
def RelM.step(r:RelM fs m d)(b:f∈fs):RelM fs (m-(m&&&mj fs f)) (Sd d (λp=>!hasPair f p)):=by
 refine⟨λp a=>r.1 p (YO a),λj=>?_⟩;rw[ail,bX,r.2,pM,<-rp,AN b (hn f b).1 (hn f b).2];constructor
 ·rintro⟨⟨p,a,e⟩,h⟩;refine Qh p (eh.mpr (Q_ a)) e;rw[pM,<-rp,AM];exact λc=>TZ h p c e
 ·rintro⟨p,a,e⟩;obtain⟨a,c⟩:=Zn a;rw[pM,<-rp,AM]at c;refine⟨Qh p a e,λ⟨q,g,i⟩=>c ?_⟩;rw[Ow (r.1 p a) (TZ Gr.mpr f b g) (QH e i.symm)];exact g
def Oy:∀n bB a,q∈a->(∀f∈fs.drop bB,q∉d4 f)->lJ fs n bB a=none
 |0,bB,a,h,_=>by
  unfold lJ;rw[Qby (by rw[e]at h;cases h)]
 |n+1,bB,a,h,hd=>by
  unfold lJ;rw[Qby (by rw[e]at h;cases h)];refine uo.mpr (λi _=>?_);cases e:fs[bB+i]? with
  |none=>rfl
  |some f=>
   show uF _ _=none;rw[Oy n _ _ (eh.mpr ⟨h,by rw[pM,<-rp,AM];exact hd f (bL (by rw[rq];exact e))⟩) (YL (hd g ?_))]
   ·rfl
   ·have:fs.drop (bB+i+1)=(fs.drop bB).drop (i+1):=by rw[xI];congr 1
    rw[this]at hg;exact xD hg
def q0(fs:WT)(n:Nat)(a:XW)(p:Nat):Ri QU:=match fs[p]? with
 |none=>none
 |some f=>QG (lJ fs n (p+1) (Sd a (λp=>!hasPair f p))) (λr=>p::r)
def Oz(h:a≠[]):lJ fs (n+1) bB a=(jL bB (T7-bB)).findSome? (q0 fs n a):=by
 unfold lJ;rw[(Vs),List.range'_eq_map_range,List.findSome?_map];rfl
include hn in
def OA:∀n bB m a,RelM fs m a->(∀k,k<n->lJ fs k bB a=none)->lJ fs n bB a=eQ (cV fs) (ey (cV fs)) n bB m
 |0,bB,m,a,r,_=>by
  unfold lJ eQ;by_cases h:a=[]
  ·rw[(V9),Qp (r.zero.mpr h)]
  ·rw[(Vs),Qby (h (r.zero.mp e))]
 |n+1,bB,m,a,r,s=>by
  have t:a≠[]:=λe=>by
   have:=s 0 (Nat.succ_pos n);subst e;unfold lJ at this;cases this
  rw[Oz t];unfold eQ;have z:=NP fs;have A:∀k,k<n-> ∀p,bB<=p->p<T7->q0 fs k a p=none:=λk u p I J=>by
   have:=s (k+1) Qa;rw[Oz t]at this;exact uo.mp this p Qm
  suffices∀c p,bB<=p->p+c=T7\/c=0->(jL p c).findSome? (q0 fs n a)=pd (λp=>eQ (cV fs) (ey (cV fs)) n (p+1) (m-(m&&&(cV fs).getD p 0))) (λp=>!decide (m|||(ey (cV fs)).getD p 0=(ey (cV fs)).getD p 0)) (jL p c)by
   grind
  intro c;induction c with
  |zero=>intro p _ _;rfl
  |succ c K=>
   intro p B C
   have v:p<T7:=by omega
   obtain⟨f,d⟩:∃f,fs[p]?=Qc f:=⟨fs[p],cN v⟩;have hd:RG (cV fs) p 0=mj fs f:=by unfold cV;rw[jH,cY,d];rfl
   rw[xG];unfold pd;by_cases aq:m|||(ey (cV fs)).getD p 0=RG (ey (cV fs)) p 0
   ·rw[(ZG),xE];have E:q0 fs n a p=QG (eQ (cV fs) (ey (cV fs)) n (p+1) (m-(m&&&(cV fs).getD p 0))) (λl=>p::l):=by
     unfold q0;rw[d,hd];show uF _ _=_;rw[OA n (p+1) _ _ (r.step hn (bL d)) (λk u=>?_)];have:=A k u p B v;unfold q0 at this;rw[d]at this;exact Option.map_eq_none_iff.mp this
    rw[E];cases e:eQ _ _ n (p+1) _ with
    |none=>grind
    |some l=>rfl
   ·rw[Qp Qm];obtain⟨q,w,y⟩:∃q∈a,∀f∈fs.drop p,q∉d4 f:=by
     apply BK;refine λL=>aq (uC (λj=>?_));rw[B6];cases F:YK m j with
     |false=>rfl
     |true=>
      obtain⟨q,w,e⟩:=(r.2 j).mp F;have:∃f∈fs.drop p,q∈d4 f:=by
       grind
      obtain⟨g,hg,G⟩:=this;have o:=xD hg;refine((Ox Qa j).mpr ⟨mj fs g,?_,TZ (AN o (hn g o).1 (hn g o).2 j).mpr q G e⟩).symm;unfold cV;rw[<-mI];exact XH g hg
    refine uo.mpr (λb H=>?_);have H:p<=b:=by
     grind
    unfold q0;cases e:fs[b]? with
    |none=>rfl
    |some g=>
     have sub:∀x∈fs.drop b,x∈fs.drop p:=Sv (by
      have:fs.drop b=(fs.drop p).drop (b-p):=by simp_all
      rw[this]at hx;exact xD hx)
     have hg:=bL (i:=0) (by rw[rq];exact e);show uF _ _=none;rw[Oy n (b+1) _ (eh.mpr ⟨w,by rw[pM,<-rp,AM];exact y g (sub g hg)⟩) (Sv (y x (sub x ?_)))]
     ·rfl
     ·have:fs.drop (b+1)=(fs.drop b).drop 1:=by rw[xI]
      rw[this]at hx;exact xD hx
def OB{C R:Nat->Ri _}{g:QU->QU}(h:∀n,(∀k,k<n->C k=none)->C n=R n):∀k a,(∀i,i<a->C i=none)->(jL a k).findSome? (λn=>Q9 R n g)=Q9 (jL a k).findSome? C g
 |0,a,_=>rfl
 |k+1,a,b=>by
  rw[xG,xE,xE,<-h a b];cases e:C a with
  |none=>
   refine OB h k (a+1) (λi hi=>?_);by_cases c:i=a
   ·rw[c];exact e
   ·exact b i Qa
  |some l=>rfl
def aim{b:Bo}(h:YI (x∈ys))(a:y∈eD b s t ys):y∈eD b s t xs:=by
 obtain⟨c,d⟩:=Zn a;exact eh.mpr ⟨c,hV.mpr (Sv (hV.mp d x (h x hx)))⟩
def mq{b:Bo}:y∈eD b s t xs↔y∈ae b t/\YI (Sq b s t x y):=by
 unfold eD;rw[eh,hV]
def ain{b:Bo}(aq:s≠t)(hx:YI (x∈ae b s))(h:x∈xs):x∈closed b s t xs:=by
 unfold Cy;rw[mq];exact⟨hx x h,λy a=>by rw[mf (fP aq)];exact(mq.mp a).2 x h⟩
def aio:∀ {l xs:List aw},xs.Sublist l->xs∈fT l:=by
 intro l xs h;induction h with
 |slnil=>simp[fT]
 |cons a h b=>exact gg.mpr (Qy b)
 |cons_cons a h b=>exact gg.mpr (Qq (XH _ b))
def Gs{b:Bo}(d:aH b)(hs:QE)(ht:Q2)(aq:s≠t):(∃f∈dW b s t,p∈d4 f)↔p∈allPairs b s t:=by
 have n:p∈allPairs b s t↔Sq b s t p.1 p.2:=by
  unfold Vbdhaj.allPairs;rw[iF];constructor
  ·rintro⟨x,hx,h⟩;obtain⟨y,g,rfl⟩:=RM h;exact(d3 d).mp g
  ·exact λh=>⟨p.1,(mh d).mpr (Rw p.2),Qbt p.2 ((d3 d).mpr h)⟩
 rw[n];constructor
 ·rintro⟨f,i,h⟩;obtain⟨j,k⟩:=Gq.mp h;rw[(qZ d hs i).snd]at k;exact(mq.mp k).2 _ j
 ·intro h;have hx:=(j' d h).1
  let a:=closed b s t [p.1]
  have q:p.1∈a:=ain aq (λz c=>Qm) Qj;have g:p.2∈eD b s t [p.1]:=mq.mpr ⟨(j' d h).2,λz c=>Qm⟩;have l:∀zs,b7 (eD b s t zs):=λzs=>Xc (d.cA t ht);have r:∀zs,b7 (eD b t s zs):=λzs=>Xc (d.cA s hs);have m:eD b s t a=eD b s t [p.1]:=iq (l _) (l _) (λy=>by
   constructor
   ·exact λg=>aim (λz c=>Qm) g
   ·intro g;rw[mq];exact Qe (mq.mp g).1 (λz c=>by
     have:=(mq.mp c).2 y g;rw[mf (fP aq)]at this;exact this))
  have u:closed b s t a=a:=by
   show eD b t s _=eD b t s _;rw[m]
  have v:a.Sublist (bg b s t):=by
   have e:a=Qen (bg b s t) (Ur z a):=iq (r _) (Xc (Xc (d.cA s hs))) (λz=>by
    rw[eh,decide_eq_true_eq];refine⟨λc=>Qe ?_ c,λc=>c.2⟩;have:=(mq.mp c).2 p.2 g;rw[mf (fP aq)]at this;exact(mh d).mpr (Qe p.2 this))
   rw[e];exact n6
  have i:Qv (kN b s t a):=by
   unfold kN;rw[u,bX,bX];exact Qh Qm Qm (beq_self_eq_true a)
  refine⟨(a,eD b s t a),Qbt a (eh.mpr ⟨aio v,i⟩),Gq.mpr (Q_ q)⟩;rw[m];exact g
def OC{b:Bo}(c:aH b)(hs:QE)(ht:Q2)(aq:s≠t):ph (dW b s t)=QG (u7 b s t) (λl=>R1 (λi=>i+1)):=by
 have d:∀f∈dW b s t,f.1.Nodup/\f.2.Nodup:=λf a=>⟨ee (qZ c hs a).cA,ee ((qZ c hs a).s2 c ht)⟩;have r:RelM (dW b s t) (kd (dW b s t)) (allPairs b s t):=by
  refine⟨λp g=>Gr.mpr ((Gs c hs ht aq).mpr g),λj=>?_⟩;have e:Qbn (kd (dW b s t)) j↔ ∃h∈cV (dW b s t),h.testBit j=true:=by
   unfold kd;by_cases m:0<Qx cV (dW b s t)
   ·have:=Ox m j;rw[uw]at this;rw[<-this];have:(ey (cV (dW b s t))).headD 0=RG (ey (cV (dW b s t))) 0 0:=by
     cases ey _<;>rfl
    rw[this]
   ·have o:cV (dW b s t)=[]:=List.length_eq_zero_iff.mp Qa;rw[o];show(Rm Nat.testBit 0 j)↔_;simp
  rw[e];constructor
  ·rintro⟨h,k,q⟩;obtain⟨f,a,rfl⟩:=RM k;obtain⟨p,g,e⟩:=(AN a (d f a).1 (d f a).2 j).mp q;exact Qh p (TZ (Gs c hs ht aq).mp f a g) e
  ·rintro⟨p,g,e⟩;obtain⟨f,a,u⟩:=(Gs c hs ht aq).mpr g;exact⟨mj _ f,XH f a,TZ (AN a (d f a).1 (d f a).2 j).mpr p u e⟩
 unfold ph u7;exact OB (λn h=>OA d n 0 _ _ r h) 5 0 (λi hi=>Qa)
end
end DL
namespace NT
open PySem PySem.Spec L2 AutoSeq1
def aip(l:Addr)(xs:SO aJ)(n:Nat)(b:Addr)(ys:SO aJ)(m:Nat)(a:QaW)(sl:SO _)(h0:¬Qv (!xs.isEmpty&&Ce (xs.size+ys.size)))(c:xs.size<=bq)(i:xs.size+ys.size<=bq):
  Meets (iI.«list.extend» (Wd [Uj,SI])) (λ_ R s=>RV l=Qc {cls:= SW,data:= .seq xs n}/\Th=Qc ⟨UQ,a,.seq ys m,sl⟩/\R (.ok (.ret Sf)) {s with heap:=s.heap.update l (g6 λx=>x++ys)}):=
 .of_wp (λprog w A R s h=>by
  obtain⟨j,g,d,k,os⟩:=s;obtain⟨hl,e,h⟩:=h
  wp_walk using(wpAny_updateSeq hl rfl),Qdf hl,Qdf e
  exact SE h)
section
variable{X:Cx}
def aiq(K:au):V->Q8->Hp->SY:=λx c H Q=> ∃l b a zs,x=Uj/\c=[SI]/\H l=RZ a/\cw K H b zs/\Sj+Vl<=bq/\Q .a9 (UN l (a++zs))
def air:C8 X "list.extend" (aiq X.K):=by
 intro D s E H x G v J Q I k p h;obtain⟨l,b,K,t,rfl,rfl,g,w,L,q⟩:=h;cases k;obtain⟨u,rfl,y⟩:=p.one;cases y;obtain⟨z,d,n,r,hl,e⟩:=I.sv g;obtain⟨a,i,⟨o,A,f,m,hd⟩,M⟩:=I.tuple w;obtain⟨c,B,C,sl⟩:=o;subst f hd;have n2:=i.length;have j:Zg d+Zg a<=bq:=by grind
 exact call_meets uX (Sz _ e) F.entry_list_extend (F.args_list_extend_2 _ _) (aip l _ n b _ m B sl (by rw[Kg j,BI];exact BG) Qm j) (Qh e A (Rl .a9 _ (I.C9 g e Qj (r.append i) Qm) q))
end
end NT
namespace DL
open PySem PySem.Spec L2 NT AT
open PyProof.Rows hiding St
open Vbdhaj(Sense sensesOf equals paired less lessText members isText bytes senseOf act onSense onTongues toldSense toldSenses toldField fields covers common closed small setOf)
abbrev Gu:Stmt:=top 94
abbrev Gv:Stmt:=top 95
abbrev Gw:Stmt:=top 96
abbrev Gx:Stmt:=top 97
abbrev Gy:Stmt:=top 98
section
variable{X:Cx}{H0 Hb:Hp}{O:QZ}{G:QO}{e:Expr}{g:Bool}{As:R7}{pos p apos cpos:Pos}{D:Ends}{ss:US}{x:Str}
def ais(i:Nat)(h:Ev X H0 O G e g (aT Bs))(a:Qv g\/ ∀A∈Bs,Lf A)(l:Bl X H0 Hb O (S8 (.w q (As++Bs))) ss D)(hl:WG+Bs.length<=bq)(f:Ts=Rz .w q As:=by rfl)(m:UC=Qz:=by rfl)(hv:kY Sg x:=by first|exact QK|exact eM QK|exact eM WL)(hd:SK=Qb:=by decide)
  (n:(x==Zv)=Qb:=by decide)(o:kE Te Qc8 Qg QcZ=QcZ:=by rfl)
  (r:Qv ((eC cpos (a_ [e] Qg)).all QcJ&&(fx cpos (fw [] Qg)).all QcC&&QV (Qn [e]+Qn ([]:Qa3)+Qcw<30)):=by rfl)
  (s:Qv (QbL):=by rfl)(hs:a_ [e] Qg=U2:=by rfl)(u:eZ (YJ Te Qc8 [e]) none VL Qg=UH:=by rfl):
  Bl X H0 Hb O G (.Expr (YJ Te Qc8 [e]) pos::ss) D:=
 dA (iS (j1 jR uX Cj air (oG m hv hd n) (bb a7 bh hs) o r s hs rfl) u) (λy H c=>by
  obtain⟨z,B,j,k⟩:=c.qK f;refine⟨_,z,Yd _ j,h Hb y H _ c (λv F s1 hv=>?_)⟩;obtain⟨t,C,rfl,E,b⟩:=hv;have d:=Q0;refine⟨q,t,B,C,rfl,rfl,s1 _ _ j,cw.of (eI d E),by rw[bQ k,bQ b];exact hl,l _ _ (d.EJ f (EL (k.m (fY s1)) ?_))⟩;rcases a with rfl|a
  ·exact b
  ·exact d.vV a b)
end
structure tR(f:Fl):Prop where
 g1:∀x∈f.1,cM x
 g2:∀x∈f.2,cM x
 n1:YY<=40
 n2:Qd8<=40
def tR.len(o:tR f):Qx r4 f<=1202:=by
 have a:=mm o.g1;have b:=mm o.g2;have c:=o.n1;have d:=o.n2;show QP (h7 f.1++h7 f.2) _;rw[b0];omega
def GA:Sp:=Su Fl (λf=>[i5 f]) tR (λf=>a4 (r4 f))
def ait{b:Bo}(a:aH b)(hs:QE)(ht:Q2)(c:QP (bg b s t) 6){f:Fl}(d:f∈dW b s t):tR f:=by
 have o:=qZ a hs d;exact⟨Sv (a.gd hs x (o.in1 x hx)),Sv (a.gd ht x (o.aif x hx)),o.l1 c,o.l2 a ht⟩
def GB(h:ir b s t≠0)(f:Nat->Nat->Bo×Qo):(cR b s t (λs t=>if small b s t=false then iM b (-7)else f s t)).2=[ir b s t]:=by
 unfold ir at h⊢;by_cases a:Ua
 ·obtain⟨m,n,rfl,rfl,d,e,g⟩:=eJ a;rw[(VR)]at h⊢;by_cases c:QP (bg b (QW m).toNat (Y9).toNat) 6
  ·omega
  ·rw[(Sk)];refine nM d e g ?_;have:small b m n=Qb:=TK c;rw[Qp this];rfl
 ·rw[(W2)];exact nN a
def GC(h:ir b s t=0):∃m n:Nat,s=m/\t=n/\W6/\X4/\m≠n/\QP (bg b m n) 6/\ ∀f:Nat->Nat->Bo×List Int,(cR b s t (λs t=>if small b s t=false then iM b (-7)else f s t))=f m n:=by
 unfold ir at h;by_cases c:Ua
 ·obtain⟨m,n,rfl,rfl,d,e,g⟩:=eJ c;by_cases a:QP (bg b (QW m).toNat (Y9).toNat) 6
  ·refine⟨m,n,rfl,rfl,d,e,g,a,λf=>?_⟩;rw[mn d e g];have:T2 small b m n:=Ze a;rw[Qs (by rw[this];decide)]
  ·omega
 ·grind
section
variable{P:aO}{w:aA}{K:au}{mg:QQ}{base:Heap}{f C:Addr}{fd:b_}
def aiu:aY [UT] [UT] (aK Gu):=QF
def aiv(F:aP K QdV QdV Gu f fd)(L:f9 P w K mg base C):ay P w K mg base az 4 f fd [UT] GA:=by
 refine R4 aiu .e (λc A outer d H E f a ok=>?_);have g:=mm ok.g1;have i:=mm ok.g2;have j:=ok.n1;have k:=ok.n2;exact aU (Ev.eq (nA (Qas L.pk a f.1 (Qe ok.g1 ok.n1) (fG (aa 0) ai 0 rfl) ao) (Qas L.pk a f.2 (Qe ok.g2 ok.n2) (fG (aa 0) ai 1 rfl) ao) Qw Qw (by rw[ak,ak,bK];omega)) (by show aL _=aL (uz aI (h7 f.1++h7 f.2));rw[bO])) (λv l b h=>Rw b)
def wJ:aY [Qk,"s","t",Uz,Td,ZD,UT] QX (aK Gv):=QF
def aiw(F:aP K QfH QfH Gv f fd)(L:f9 P w K mg base C)(z:aE P w K mg base 6 QcI QX (Aw C))(B:aE P w K mg base 4 QdV [UT] GA):ay P w K mg base az 7 f fd QX (hP C 11):=by
 refine R4 wJ (.n ag (.n ag (.u (.u (.u (.u .e)))))) (λJ A outer M H E⟨b,s,t⟩j a=>?_);refine gN 3 (Yf L.rf j _ a (xa (aa 1) (xa (aa 2) ao))) wJ.nd (λg v D l h=>Qe l (by show(a4 (cR b s t _).2).p _ _;rw[GB g];exact h)) (λG=>by obtain⟨m,n,rfl,rfl,r,g,N,x,I⟩:=GC G;have hg:∀f∈dW b m n,tR f:=λf d=>ait a r g x d;have O:=(Gp a r g x).len;refine bG 4 (Yf z j (b,m,n) ⟨r,g,a,x⟩ (xa (aa 1) (xa (aa 2) ao))) wJ.nd (ec 5 (xd ai (xd ((dZ Tq (aa 4)).eq WE) bj)) wJ.nd (λq=>eP 6 (λk=>[.v Qb (a8 C b),W3,Yw,Ra 0,TX i6 (dW b m n),.w q (iv (Qn (dW b m n)) (dW b m n) r4 k),.u]) rfl (aa 4) Qw (bS wJ.nd rfl QK) RP (λQ k f y=>by have d:=hg f (bL y);have R:=Qce pz (Qn (dW b m n)) k (λf d=>(hg f d).len) 80000;have:=d.len;refine hG 5 (Ud B j f d 6) Qw (bW (λS H c=>c.le (by refine .eq rfl (.eq rfl (.eq rfl (.eq rfl (.eq rfl (.eq ?_ (.u .nil))))));rw[px y]))) YS) (by refine d9 5 (aU (aa 5) λv D l h=>⟨l,?_⟩);show(a4 (cR b m n _).2).p _ _;rw[I];rw[pA]at h;exact h))))
def aix(a:r=fJ b VM u)(h:dg (df [s,t]) r≠0)(f:Nat->Nat->QC->Bo×Qo):
  (cR b s t (λs t=>if fS 240 u=Qb then iM b (-2)else match(cI 44 (dH u)).mapM cz with
   |none=>iM b (-5)
   |some l=>if(l.all (λx=>Xb (ae b s) x))=Qb then iM b (-3)else f s t l)).2=[dg (df [s,t]) r]:=by
 by_cases c:Ua
 ·obtain⟨m,n,rfl,rfl,g,i,j⟩:=eJ c;rw[eV,(Tz)]at h⊢;have h:r≠0:=h;refine nM g i j ?_;have a:r=fJ b m u:=a;unfold fJ qX at a;by_cases d:fS 240 u=Qb
  ·rw[Qp d]at a⊢;rw[a];rfl
  ·rw[Qs d]at a⊢;cases e:(cI 44 _).mapM cz with
   |none=>rw[e]at a;rw[a];rfl
   |some l=>
    rw[e]at a;dsimp only at a⊢;by_cases k:(l.all (λx=>Xb (ae b m) x))=Qb
    ·rw[Qp k]at a⊢;rw[a];rfl
    ·grind
 ·rw[nN c,eV,(Sk)];rfl
def aiy(a:Ua->r=fJ b VM u)(h:dg (df [s,t]) r=0):∃(m n:Nat)(l:List aw),s=m/\t=n/\W6/\X4/\m≠n/\qC u=RE l.map toS/\ ∀f:Nat->Nat->QC->Bo×Qo,
  (cR b s t (λs t=>if fS 240 u=Qb then iM b (-2)else match(cI 44 (dH u)).mapM cz with
   |none=>iM b (-5)
   |some l=>if(l.all (λx=>Xb (ae b s) x))=Qb then iM b (-3)else f s t l))=f m n l:=by
 by_cases c:Ua
 ·obtain⟨m,n,rfl,rfl,g,i,j⟩:=eJ c;rw[eV,(Tz)]at h;have h:r=0:=h;have a:r=fJ b m u:=a c;unfold fJ qX at a;by_cases d:fS 240 u=Qb
  ·grind
  ·have k:=N9 Z_;cases e:(cI 44 _).mapM cz with
   |none=>grind
   |some l=>
    rw[e]at a k;by_cases o:(l.all (λx=>Xb (ae b m) x))=Qb
    ·grind
    ·refine⟨m,n,l,rfl,rfl,g,i,j,k,λf=>?_⟩;rw[mn g i j,Qs d];simp only[];rw[Qs o]
 ·rw[eV,(Sk)]at h;cases h
def OD{b:Bo}(l:QC):eD b s t (eE l)=eD b s t l:=by
 refine jJ (λy _=>?_);rw[gU,hV,hV];exact⟨λh x hx=>h x (((pb l).2 x).mpr hx),λh x hx=>h x (((pb l).2 x).mp hx)⟩
def OE:aY [Qk,"s","t",RJ,Uz] [Qk,"s","t",RJ] (aK Gw):=QF
def aiz(F:aP K QfI QfI Gw f fd)(L:f9 P w K mg base C)(q:aE P w K mg base 5 QdO [Qk,"s","t",Sr] (FA C))(y:aE P w K mg base 4 QdV [UT] GA):ay P w K mg base az 6 f fd [Qk,"s","t",RJ] (tM C 12):=by
 refine R4 OE (.n ag (.n ag (.o (.u .e)))) (λJ A outer M H E⟨b,s,t,u⟩d⟨a,hl⟩=>gN 4 (r:=dg _ (fJ b VM u)) (ju (Yx L.rt d [s,t] (xa (cE (xd (aa 1) (xd (aa 2) bj))) ao)) (λi=>j8 (by obtain⟨m,n,rfl,rfl,g,c,B⟩:=eJ (nO i);exact x_call L.ahW d (b,m,u) ⟨g,a,hl⟩ (xa (aa 0) (xa (aa 1) (xa (aa 3) ao)))))) OE.nd (λc v z j h=>Qe j (by show(a4 (act b [[12,s,t],u]).2).p _ _;rw[show(act b [[12,s,t],u]).2=_ from (aix rfl c λs t l=>r0 b (r4 (closed b s t (eE l),eD b s t (eE l))))];exact h)) Qc0)
 ·obtain⟨m,n,l,rfl,rfl,g,c,B,D,G⟩:=aiy Vn i;have k:tR (closed b m n l,eD b m n l):=⟨Sv (a.gd g x (mq.mp hx).1),Sv (a.gd c x (mq.mp hx).1),bp (eX _ _) (a.bc m g),bp (eX _ _) (a.bc n c)⟩;have N:=k.len;refine aU (wH (Qas y d (closed b m n l,eD b m n l) k (Xd q d (b,m,n,l) g c a (xa (aa 1) (xa (aa 2) (xa (x_call L.N_ d u hl (xa (aa 3) ao) (by rw[D];exact F' l)) ao)))) ao) Qa) (λv z j h=>Q_ j);show(a4 (act b [[12,m,n],u]).2).p _ _;rw[show act b [[12,m,n],u]=_ from (G (λs t l=>r0 b (r4 (closed b s t (eE l),eD b s t (eE l)))))];have e:closed b m n (eE l)=closed b m n l:=by unfold Cy;rw[OD]
  rw[e,OD];exact h
def aiA(h:T7<=64):Qx tI fs<=4096:=by
 unfold tI;have:∀l:List Nat,YB l (λi=>Qcn (mi (dm fs) i) (i+1,j+1))<=64*QT:=by
  intro l;induction l with
  |nil=>simp
  |cons i l a=>
   have b:Tj mi _ i 64:=bp (eX _ _) (bp (FN i) h);rw[lA,b0,ak,dh];omega
 have:=this (dd T7);rw[pQ]at this;omega
def wK:aY [Qk,"s","t",Uz,Td,ZD,"places"] QX (aK Gx):=QF
def aiB(F:aP K QfJ QfJ Gx f fd)(L:f9 P w K mg base C)(B:aE P w K mg base 6 QcI QX (Aw C))(D:aE P w K mg base 3 Qfm Wi NB):ay P w K mg base az 7 f fd QX (hP C 13):=by
 refine R4 wK (.n ag (.n ag (.u (.u (.u (.u .e)))))) (λN A outer O H E⟨b,s,t⟩g a=>?_);refine gN 3 (Yf L.rf g _ a (xa (aa 1) (xa (aa 2) ao))) wK.nd (λd v G j h=>Qe j (by show(a4 (cR b s t _).2).p _ _;rw[GB d];exact h)) (λI=>?_)
 ·obtain⟨m,n,rfl,rfl,r,d,Q,x,J⟩:=GC I;have a5:=Gp a r d x;let rs:=covers (dW b m n)
  have y:tI (dW b m n)=rs:=aii a r;have R:rs.length<=4096:=by rw[<-y];exact aiA a5.len
  let z:Nat×Nat->Qo:=λp=>zs [p.1,p.2]
  refine bG 4 (x_call D g (dW b m n) a5 (xa (Yf B g (b,m,n) ⟨r,d,a,x⟩ (xa (aa 1) (xa (aa 2) ao))) ao) (by rw[y])) wK.nd (ec 5 (xd ai (xd ((dZ Tq (aa 4)).eq WE) bj)) wK.nd (λq=>eP 6 (λk=>[.v Qb (a8 C b),W3,Yw,Ra 0,Zt (rs.map wq),.w q (iv rs.length rs z k),.u]) rfl (aa 4) Qw (bS wK.nd rfl QK) RP (λS k p M=>by have T:=pz (l:=rs) (f:=z) (c:=rs.length) (k:=k) (λp _=>aQ 2) (m:=8192) Qa;refine ais 5 (aa 6) Qw (bW (λU H c=>c.le (by refine .eq rfl (.eq rfl (.eq rfl (.eq rfl (.eq rfl (.eq ?_ (.u .nil))))));rw[px M];rfl))) (by rw[bK];simp;omega)) (by refine d9 5 (aU (aa 5) λv G j h=>⟨j,?_⟩);show(a4 (cR b m n _).2).p _ _;rw[J];rw[pA]at h;exact h)))
def GD:aY [Qk,"s","t",Uz,"places"] QX (aK Gy):=QF
def aiC{b:Bo}(a:aH b)(hs:QE)(ht:Q2)(aq:s≠t)(h:u7 b s t=Qc l):QP l 4:=by
 have e:=OC a hs ht aq;rw[h]at e;obtain⟨c,d,e⟩:=List.exists_of_findSome?_eq_some e;obtain⟨j,f,g⟩:=mK.mp e;have k:=AD _ _ _ _ _ _ f;have i:=YG g;rw[ak,ak]at i;have:=fO.mp d;omega
def aiD(F:aP K QfK QfK Gy f fd)(L:f9 P w K mg base C)(B:aE P w K mg base 6 QcI QX (Aw C))(D:aE P w K mg base 6 "fewest" Wi NO):ay P w K mg base az 7 f fd QX (hP C 14):=by
 refine R4 GD (.n ag (.n ag (.u (.u .e)))) (λI A outer J H E⟨b,s,t⟩g a=>?_);refine gN 3 (Yf L.rf g _ a (xa (aa 1) (xa (aa 2) ao))) GD.nd (λc v k d h=>Qe d (by show(a4 (cR b s t _).2).p _ _;rw[GB c];exact h)) (λG=>?_)
 ·obtain⟨m,n,rfl,rfl,j,c,q,r,z⟩:=GC G;have M:=OC a j c q;refine bG 4 (x_call D g (dW b m n) (Gp a j c r) (xa (Yf B g (b,m,n) ⟨j,c,a,r⟩ (xa (aa 1) (xa (aa 2) ao))) ao) (A:=eH dv (QG (u7 b m n) (λl=>R1 (λi=>i+1)))) Qm) GD.nd ?_;cases e:u7 b m n with
  |none=>
   refine aU (o9 (sW (aa 4) (ZY o_ h)) (λ_=>cE (xd ai (xd ai bj))) Xh) (Qgh d);show(a4 (cR b m n _).2).p _ _;rw[z,e];exact h
  |some l=>
   have hl:=aiC a j c q e;let l1:=R1 (λi=>i+1)
   have N:l1.length<=4:=by grind
   refine aU (A:=a4 (0::1::oA l1)) (o9 (sW (aa 4) (ZY o_ h)) Xh (λ_=>by refine nA (Bs:=Q9 oA l1 aI) (cE (xd ai (xd ai bj))) (x_call L.cnt g (zs l1) (by rw[gL];omega) (xa (Ev.eq (aa 4) (by show aL _=aL _;rw[NA];rfl)) ao) (by rw[gL];rfl)) Qw Qw ?_;rw[ak];show 2+(zs l1).length.succ<=_;rw[gL,bK];omega)) (λv k d h=>Qe d (by show(a4 (cR b m n _).2).p _ _;rw[z,e];exact h))
end
end DL
namespace DL
open PySem PySem.Spec L2 NT AT
open PyProof.Rows hiding St
def kD:S4 HO
 | .dK _=>false
 | .dT _=>false
 |_=>true
def kT:S4 HO
 | .mY _=>false
 |_=>true
def kL(o:HO):Bool:=kD o&&kT o
structure bu(k:S4 HO)(H H':Hp):Prop where
 at_:∀a o,QJ k o->H a=Qi->H' a=Qi
 fr:∀a,H' a=none->H a=none
section
variable{k k':S4 HO}{H H' H'' H0 Hb:Hp}{O:QZ}{G G':QO}{σ:St}
def bu.of(s:af H H'):bu k H H':=⟨λa o _ e=>s a o e,RC s.free⟩
def bu.trans(a:bu k H H')(b:bu k H' H''):bu k H H'':=⟨λx o c e=>b.at_ x o c (a.at_ x o c e),λx e=>a.fr x (b.fr x e)⟩
def bu.le(a:bu k H H')(h:∀o,QJ k' o->QJ k o):bu k' H H':=Qe (λx o b e=>a.at_ x o (h o b) e) a.fr
def bu.dl(a:bu kD H H'):bu kL H H':=a.le (λo h=>by unfold kL at h;rw[bX]at h;exact h.1)
def bu.tl(a:bu kT H H'):bu kL H H':=a.le (λo h=>by unfold kL at h;rw[bX]at h;exact h.2)
def hJ(k:S4 HO)(H:Hp):Hp:=λa=>match H a with
 |some o=>if QJ k o then Qi else none
 |none=>none
def tS(e:H a=Qi)(h:QJ k o):hJ k H a=Qi:=by unfold hJ;rw[e];exact V9
def GF(e:hJ k H a=Qi):H a=Qi/\QJ k o:=by
 unfold hJ at e;cases q:H a with
 |none=>rw[q]at e;cases e
 |some u=>
  grind
def bu.hJ(s:bu k H H'):af (DL.hJ k H) H':=λa o e=>let⟨h1,h2⟩:=GF e;s.at_ a o h2 h1
def Ks(A:a6):Prop:= ∀H v,A.p H v->A.p (hJ kL H) v
def mr(h:Lf A):Ks A:=λH v p=>A.m (Q4 (by obtain⟨c,rfl,a⟩:=j5 e;exact tS a rfl)) (h H v p)
def AO(h:bJ H vs As)(l:Qf0 Ks A):bJ (hJ kL H) vs As:=by
 induction h with
 |nil=>exact .nil
 |cons r t a=>exact UP (l _ Ru _ _ r) a (λA b=>l A (bP _ b))
def wL(l:Qf0 Ks A):Ks (aL As):=Qhi ⟨t,a,e,tS h rfl,AO q l⟩
def AQ(l:Qf0 Ks A):Ks (aT As):=Qhi ⟨t,a,e,tS h rfl,AO q l⟩
def q3(l:X2):Ks (aL As):=wL (λA a=>mr (l A a))
def off(O:QZ)(H:Hp):Hp:=λa=>if a∈O then none else H a
def jA(h:a∉O)(e:H a=Qi):off O H a=Qi:=by unfold off;rw[(Vs)];exact e
def OF(e:off O H a=Qi):a∉O/\H a=Qi:=by
 unfold off at e;split at e
 ·cases e
 ·rename_i h;exact Qe h e
def AR:af (off O H) H:=λa o e=>(OF e).2
def fK:off [] H=H:=by funext a;unfold off;rw[(Y1)]
def Cf.off(c:Cf H0 Hb O G σ H){g}:af (gh g H0 O H) (off O H):=λa o e=>by
 refine jA Qad (dM R8 _ _ e);cases g with
 |true=>exact(qF e).1 b
 |false=>
  have e:H0 a=Qi:=e;rw[(c.fr a b).1]at e;cases e
def aiE(s:bu kL H H'):af (DL.hJ kL (DL.off O H)) (DL.off O H'):=λa o e=>by
 obtain⟨b,c⟩:=GF e;obtain⟨d,f⟩:=OF b;exact jA d (s.at_ _ _ c f)
inductive fL(H0:Hp)(O:QZ)(H H':Hp):QO->Q5 QO
 |nil:fL H0 O H H' [] []
 |u{s:Sl}{l l':QO}(t:fL H0 O H H' l l'):fL H0 O H H' (s::l) (.u::l')
 |v{g:Bool}{A B:a6}{l l':QO}(h:∀v,A.p (gh g H0 O H) v->B.p (DL.off O H') v)(t:fL H0 O H H' l l'):fL H0 O H H' (.v g A::l) (.v Qb B::l')
 |n{g:Bool}{A:a6}{l l':QO}(h:Lf A)(t:fL H0 O H H' l l'):fL H0 O H H' (.v g A::l) (Qa0 A::l')
 |w{q:Addr}{As:R7}{l l':QO}(h:X2)(t:fL H0 O H H' l l'):fL H0 O H H' (.w q As::l) (.w q As::l')
def fL.at(h:fL H0 O H H' G G'):G'.length=G.length/\ ∀(i:Nat)a,G'[i]?=Zb-> ∃s,Ts=Qc s/\(a= .u\/(∃g A B,s= .v g A/\a= .v Qb B/\ ∀v,A.p (gh g H0 O H) v->B.p (DL.off O H') v)\/(∃g A,s= .v g A/\a=Qa0 A/\Lf A)\/ ∃q As,s= .w q As/\a= .w q As/\X2):=by
 induction h with
 |nil=>simp
 |u t b=>
  grind
 |v h t b=>
  grind
 |n h t b=>
  grind
 |w h t b=>
  grind
def Cf.re(c:Cf H0 Hb O G σ H)(s:bu kL H H')(C:Qcf (H q=Y7))(r:fL H0 O H H' G G'):Cf (DL.off O H') Tb O G' σ H':=by
 obtain⟨hl,m⟩:=r.at;have tup:∀b a,H b=UU a->bs _ O H' b=Qc _:=λb a e=>by
  have y:=c.zL e;exact gF y (l4 (jA y (s.at_ _ _ rfl e)))
 have lift:∀ {g:Bool}{A:a6}{v:V},Lf A->A.p (gh g H0 O H) v->A.p _ v:=λ{g A v}l p=>A.m (Q4 (by
  obtain⟨a,rfl,n⟩:=j5 e;exact tup b a (dM R8 _ _ n))) (l _ _ p)
 refine⟨AR,(λ_ _ e=>QbI),λq k=>by obtain⟨vs,e⟩:=C q k;exact⟨by unfold DL.off;rw[if_pos k],_,s.at_ _ _ rfl e,rfl⟩,by rw[hl,c.len],λi u hi=>?_,λi j q hi D=>?_,c.k9⟩
 ·obtain⟨t,ht,h⟩:=m i u hi;obtain⟨x,d,w⟩:=c.sl i t ht;rcases h with rfl|⟨g,A,B,rfl,rfl,h⟩|⟨g,A,rfl,rfl,h⟩|⟨q,E,rfl,rfl,h⟩
  ·exact Qh x d RQ
  ·obtain⟨v,e,p⟩:=w;exact⟨x,d,v,e,h v p⟩
  ·obtain⟨v,e,p⟩:=w;exact⟨x,d,v,e,lift h p⟩
  ·obtain⟨e,k,vs,z,F⟩:=w;refine⟨x,d,e,k,vs,s.at_ _ _ rfl z,?_⟩;clear z m r hi ht e d;induction F with
   |nil=>exact .nil
   |cons r t I=>exact UP (lift (g:=true) (h _ Ru) r) I (λA J=>h A (bP _ J))
 ·have f:∀i:Nat,(G'[i]?).bind V_=U1->(Ts).bind V_=U1:=λi hi=>by
   cases e:G'[i]? with
   |none=>rw[e]at hi;cases hi
   |some u=>
    rw[e]at hi;obtain⟨t,ht,h⟩:=m i u e;rcases h with rfl|⟨g,A,B,rfl,rfl,h⟩|⟨g,A,rfl,rfl,h⟩|⟨q,E,rfl,rfl,h⟩
    ·cases hi
    ·cases hi
    ·cases hi
    ·rw[ht];exact hi
  exact c.nd i j q (f i hi) (f j D)
def Cf.rk(c:Cf H0 Hb O G σ H)(s:bu kL H H'){g}(h:Ks A):∀v,A.p (gh g H0 O H) v->A.p (DL.off O H') v:=λv p=>A.m (aiE s) (h _ _ (A.m c.off p))
def OG(s:bu kL H H'):af (cut H H') H':=Q4 (by
 rcases j6 e with⟨_,h⟩|⟨a,rfl,h⟩
 ·exact h
 ·exact s.at_ _ _ rfl h)
def Cf.aiF(c:Cf H0 Hb O G σ H)(s:bu kL H H'):af (cut H H') (DL.off O H'):=Q4 (by
 refine jA Qeb (OG s _ _ e);obtain⟨_,u,a,f⟩:=c.fr b d;rcases j6 e with⟨h,_⟩|⟨g,rfl,h⟩
 ·rw[h]at a;cases a
 ·rw[h]at a;cases a;cases f)
end
def fM{ι:Type}(b:ι->R7)(pre:Q5 ι)(c:ι->Hp->TJ V):Sp:=λd H Q _=> ∃i,pre i/\bJ H d (b i)/\ ∀v a,c i H v a->Q v a
def nQ(X:Cx)(H0:Hp)(O:QZ)(G:QO)(e:Expr)(M:Hp->TJ V):Prop:=
 ∀d a H Q,Cf H0 d O G a H->(∀v b c,af H b->M b v c->Q v c)->wE X e a H Q
section
variable{X:Cx}{H0 Hb:Hp}{O:QZ}{G:QO}{e a b o:Expr}{es:Tc}{g ga gb:Bool}{A B:a6}{As:R7}{pos pos' p p' p2 apos:Pos}{D:Ends}{ss body:US}{x m:Str}{ps:Uh}{j k:Nat}{M:Hp->TJ V}
def GG(h:PE X e t)(k:∀a σ H Q,Cf H0 a O G σ H->(∀v b H',af H b->M b v H'->Q v H')->t σ H Q):nQ X H0 O G e M:=λa σ H Q c q d s I=>h d s σ H Q I (k a σ H Q c q)
def i8{a}{b:ι->Hp->TJ V}(C:aE Qr X.w X.K X.mg Vp j x ps (fM a pre b))(d:dt k X.A)(i:ι)(f:pre i)(g:l6 X H0 O G (e::es) (a i))(hj:j<=k:=by decide)(hg:Gl X x:=by rfl)
  (h:SK=Qb:=by decide)(l:a_ (e::es) Qg=UY::a_ es Qg:=by rfl)(m:Zu:=by rfl):
  nQ X H0 O G (UM Te (e::es) pos) (b i):=GG (fC C d hj hg i0 h l m) (λHb n H Q c q=>g Hb n H _ c (λt o s1 u=>⟨i,f,Qm,λv r s=>q v o r s1 s⟩))
def AS(i:Nat)(h:nQ X H0 O G e M)(a:X.N.Nodup)(b:∀σ H v H',Cf H0 Hb O G σ H->M H v H'->wB X ss D (σ.set i Rg) H')(hi:UC=Qz:=by rfl)(hx:Loc Sg x:=by first|exact QK|exact WL)
  (hs:eZ e Qea VL Qg=UH:=by rfl)(d:YP X\/X8 X x=Vj:=by first|exact Qw|exact WH):Bl X H0 Hb O G (Z4 [QcE] e::ss) D:=
 dA (fU a hi hx a7 hs d) (Vv (h Hb σ H _ c (λv g H' s1 f=>b _ _ _ _ Q0 f)))
def tT(h:nQ X H0 O G e M)(a:∀σ H v H',Cf H0 Hb O G σ H->M H v H'->wB X ss D σ H')(hs:eZ e none VL Qg=UH:=by rfl):Bl X H0 Hb O G (.Expr e pos::ss) D:=
 dA (iS a7 hs) (Vv (h Hb σ H _ c (λv d H' s1 b=>a _ _ _ _ Q0 b)))
def mu(h:nQ X H0 O G e M)(a:∀H v H',af H0 H->M H v H'->D.rt v H'):Bl X H0 Hb O G (.Return Xr pos::ss) D:=
 dA (dy a7) (λb H c=>h Hb b H _ c (λv f H' s1 d=>a _ _ _ (Qaz c s1) d))
def OH(f:VU)(g:nQ X H0 O G b M)(h:∀H v H',M H v H'-> ∃j,v=QL j):nQ X H0 O G (.BinOp a .Add b pos) (λH v H'=> ∃j,v=QL (i+j)/\M H (QL j) H'):=Xz GG (ia qo a7 a7) (f Hb d H _ c (λv k s1 l=>g Hb d k _ Q0 (λw m n s2 e=>by
  obtain⟨j,rfl⟩:=h _ _ _ e;exact Rl i j l (q _ m n Rt (Ss j e)))))
end
section
variable{P:aO}{w:aA}{K:au}{mg:QQ}{base:Heap}
def f_{x g}{st}(F:aP K x g st f n)(S:aY N ps (aK st))(m:ι->QO)(o:∀i,j9 (j i) (m i))(hl:∀i,Qx j i=Vk/\Qx m i=Qn N/\Vk<=Qn N)
  (p:∀d A outer s H E i,dt k (A.deeper (gW g (aK st) Qt f d))->pre i->Bl (lS az P w K mg base N g (aK st) f d A Sx s H E).lQ H Tb [] (m i) (g_ st) {nx:=λ_ H'=>l i H .a9 H',rt:=λv H'=>l i H v H'}):
  ay P w K mg base az (k+1) f n ps (fM j pre l):=
 F.ok S (λt H Q E⟨i,_,h,_⟩=>QgM) (λd A outer s H t Q E y⟨i,z,h,q⟩=>Tn fZ (λB C I=>aR (p d A Sx s H E i y z _ _ (zR h (o i) (hl i).2.1 Qgv) B C I) (λD s2 e=>by
   cases D with
   |next=>obtain⟨b,H',c,a⟩:=e;exact⟨b,H',c,q _ H' a⟩
   |brk=>obtain⟨b,H',c,a⟩:=e;exact a.elim
   |cont=>obtain⟨b,H',c,a⟩:=e;exact a.elim
   |ret u=>obtain⟨v,b,H',c,r,a⟩:=e;exact⟨v,b,H',c,r,q v H' a⟩)))
end
end DL
namespace DL
open Vbdhaj(Sense sensesOf equals paired less lessText members putIn setOf addSense addPair pairOf addLine added tooMany countSenses)
def OI(l:R_)(hl:QT=3)(g:QC->QC)(hs:QE)(a:W7):RG (l.modify (s-1) g) (u-1) []=if u=s then g (l.getD (u- 1) [])else l.getD (u- 1) []:=by
 grind
def nR{b:Bo}(a:VT=3)(hs:QE)(c:W7)(x:aw):ae (da b s x) u=if u=s then putIn x (ae b u)else ae b u:=OI _ a _ hs c
def gO{b:Bo}(a:VT=3)(s:Nat)(x:aw):ZL (da b s x)=3:=by
 show Wa b.senses.modify _ _=3;rw[List.length_modify,a]
def ke{b:Bo}(a:VT=3)(hs:QE)(c:W7):z∈ae (da b s x) u↔(u=s/\z=x)\/z∈ae b u:=by
 rw[nR a hs c];split
 ·rename_i h;rw[wm];simp[h]
 ·rename_i h;simp[h]
def tU{b:Bo}(a:VT=3)(hs:QE)(c:W7)(h:b7 (ae b u)):b7 (ae (da b s x) u):=by
 rw[nR a hs c];split
 ·exact Ak h
 ·exact h
def GH:Qgo (b7 l->x∈l->putIn x l=l):=λh hx=>iq (Ak h) h (λz=>by rw[wm];exact⟨λq=>q.elim (λe=>e▸hx) id,.inr⟩)
def GI:Qgo (x∉l->(putIn x l).Perm (x::l))
 |[],_=> .refl _
 |y::l,h=>by
  unfold putIn;rw[Qby (h Qm)];split
  ·exact .refl _
  ·exact Rx rC y (GI (λhx=>h (bP _ hx))) (.swap ..)
def OJ(a:p x=Qb):∀l,Sd (putIn x l) p=Sd l p
 |[]=>by simp[putIn,a]
 |y::l=>by
  unfold putIn;split
  ·rfl
  ·split
   ·grind
   ·rw[jK,OJ a l,jK]
def GJ{b d:Bo}(c:VT=3)(hd:ZL d=3)(h:∀u∈dY,ae b u=ae d u)(a:Qa6=d.pairs):b=d:=by
 obtain⟨l,p⟩:=b;obtain⟨m,q⟩:=d;subst a;match l,m,c,hd with
 |[e,f,g],[i,j,k],_,_=>
  have n:e=i:=h 1 Qj;have o:f=j:=h 2 Qj;have r:g=k:=h 3 Qj;rw[n,o,r]
def GK{b:Bo}(a:aH b)(hs:QE)(hx:x∈ae b s):da b s x=b:=
 GJ (gO Wn s x) Wn (λu c=>by
  rw[nR Wn hs c];split
  ·rename_i h;subst h;exact GH (a.cA _ hs) hx
  ·rfl) rfl
def GL(aq:s≠t)(a:u≠v):bR s t x y=bR u v z w↔(s=u/\t=v/\x=z/\y=w)\/(s=v/\t=u/\x=w/\y=z):=by
 unfold bR;split<;>split
 ·grind
 ·grind
 ·grind
 ·grind
def aiG{b:Bo}(a:aH b)(hs:QE)(hv:To v)(hx:x∉ae b s):av (da b s x) u v z=av b u v z:=by
 unfold av;rw[nR Wn hs hv];split
 ·rename_i h;subst h;refine OJ ?_ _;show b6 b u v z x=Qb;cases e:b6 b u v z x with
  |false=>rfl
  |true=>exact Rk (j' a e).2 hx
 ·rfl
def aiH{b:Bo}(a:aH b)(hx:x∉ae b s):av b s v x=[]:=by
 refine uu.mpr (λy _=>?_);cases e:b6 b s v x y with
 |false=>simp
 |true=>exact Rk (j' a e).1 hx
def aiI{b:Bo}(a:aH b)(hs:QE)(hx:cM x)(g:SS (ae (da b s x) s)):aH (da b s x):=by
 refine⟨gO Wn s x,λu c=>tU Wn hs c (a.cA u c),λu c=>?_,λu c z d=>?_,λp i=>by obtain⟨j,e,f,k,l⟩:=a.lg p i;exact⟨j,e,f,(ke a.three hs e).mpr (.inr k),(ke a.three hs f).mpr (.inr l)⟩,a.nd⟩
 ·by_cases h:u=s
  ·subst h;exact g
  ·rw[nR Wn hs c,(Vs)];exact a.bc u c
 ·rcases(ke Wn hs c).mp d with⟨_,rfl⟩|d
  ·exact hx
  ·exact a.good u c z d
def aiJ{b:Bo}(a:VT=3)(hs:QE)(c:b7 (ae b s))(x:aw):W0 (da b s x)=Xs+if x∈ae b s then 0 else 1:=by
 rw[nR a hs hs,(SX)];split
 ·rename_i h;rw[GH c h];rfl
 ·rename_i h;rw[Qdw (GI h)];rfl
def i9(ps:QR kH)(p:kH):QR kH:=if QJ ps.contains p then ps else ps++[p]
def gP(b:Bo)(p:kH):Bo:={b with pairs:=i9 Qa6 p}
def pC(b:Bo)(s t:Nat)(x y:aw):iP b s t x y=gP (da (da b s x) t y) (bR s t x y):=by
 unfold iP gP i9;by_cases h:QJ b.pairs.contains (bR s t x y)
 ·rw[Qp (show b6 b s t x y=true from h),Qp (show(da (da b s x) t y).pairs.contains _=true from h)]
 ·rw[Qs (show¬b6 b s t x y=true from h),Qs (show¬(da (da b s x) t y).pairs.contains _=true from h)]
def OK{b:Bo}(a:aH b)(hs:QE)(ht:Q2)(hx:x∈ae b s)(c:y∈ae b t):iP b s t x y=gP b (bR s t x y):=by rw[pC,GK a hs hx,GK a ht c]
def OL:q∈i9 ps p↔q=p\/q∈ps:=by
 unfold i9;split
 ·grind
 ·grind
def OM(aq:s≠t)(a:u≠v):Sq (gP b (bR s t x y)) u v z w↔((u=s/\v=t/\z=x/\w=y)\/(u=t/\v=s/\z=y/\w=x))\/Sq b u v z w:=by
 show QeC (i9 _ _) _↔_;rw[gj,OL,GL a aq,show b6 b u v z w=b.pairs.contains _ from rfl,gj]
def AU{b:Bo}(d:aH b)(hs:QE)(ht:Q2)(aq:s≠t)(hx:x∈ae b s)(g:y∈ae b t):aH (gP b (bR s t x y)):=by
 refine⟨d.three,d.cA,d.bc,d.good,λp f=>?_,?_⟩
 ·rcases OL.mp f with rfl|f
  ·unfold bR;split
   ·rename_i h;exact⟨h,hs,ht,hx,g⟩
   ·rename_i h;exact⟨by show t<s;omega,ht,hs,g,hx⟩
  ·exact d.lg p f
 ·show S7 (i9 _ _);unfold i9;split
  ·exact d.nd
  ·rename_i h;exact je.mpr ⟨d.nd,Qj,λa i c j e=>by
    grind⟩
def jV(b:Bo)(p:kH):Bo:={b with pairs:=Qcg b (λq=>q !=p)}
def GN(aq:s≠t)(a:u≠v):Sq (jV b (bR s t x y)) u v z w↔ ¬((u=s/\v=t/\z=x/\w=y)\/(u=t/\v=s/\z=y/\w=x))/\Sq b u v z w:=by
 show QeC (Qcg b _) _↔_;rw[gj,eh,<-GL a aq,show b6 b u v z w=b.pairs.contains _ from rfl,gj];simp[and_comm]
def AV{b:Bo}(a:aH b)(p:kH):aH (jV b p):=⟨Wn,a.cA,a.bc,a.good,λq c=>a.lg q (YO c),a.nd.sublist n6⟩
def hQ(b:Bo)(s:Nat)(x:aw):Bo:={senses:=b.senses.modify (s-1) (λl=>Qen l (z !=x)),pairs:=Qcg b (λp=>!((p.a==s&&p.x==x)||(p.b==s&&p.y==x)))}
def wM(a:VT=3)(hs:QE)(c:W7)(x:aw):ae (hQ b s x) u=if u=s then(ae b u).filter (λz=>z !=x)else ae b u:=OI _ a _ hs c
def ON{b:Bo}(c:aH b)(hs:QE)(x:aw):aH (hQ b s x):=by
 have sub:∀u∈dY,(ae (hQ b s x) u).Sublist _:=λu a=>by
  rw[wM Qal hs a];split
  ·exact n6
  ·exact List.Sublist.refl _
 refine⟨by show(b.senses.modify _ _).length=3;rw[List.length_modify,c.three],λu a=>Qf1 (c.cA u a) (sub u a),λu a=>bp (sub u a).length_le (c.bc u a),λu a z d=>c.good u a z ((sub u a).mem d),λp e=>?_,c.nd.sublist n6⟩;obtain⟨e,g⟩:=Zn e;obtain⟨j,h,i,k,l⟩:=c.lg p e;have g:¬(p.a=s/\p.x=x)/\ ¬(p.b=s/\p.y=x):=by
  grind
 have f:∀u∈dY,∀z,z∈ae b u->QfL->z∈ae (hQ b s x) u:=λu a z d m=>by
  rw[wM Qal hs a];split
  ·grind
  ·exact d
 exact⟨j,h,i,f _ h _ k g.1,f _ i _ l g.2⟩
def OO(c:u≠v):Qv (!(((bR u v z w).a==s&&(bR u v z w).x==x)||((bR u v z w).b==s&&(bR u v z w).y==x)))↔QfL/\ ¬(v=s/\w=x):=by
 unfold bR;split
 ·grind
 ·grind
def aiK(a:u≠v):Sq (hQ b s x) u v z w↔(QfL/\ ¬(v=s/\w=x))/\Sq b u v z w:=by
 show QeC (Qcg b _) _↔_;rw[gj,eh,OO a,show b6 b u v z w=b.pairs.contains _ from rfl,gj,and_comm]
def aiL(aq:s≠t):hQ (jV b (bR s t x y)) s x=hQ b s x:=by
 unfold hQ jV;congr 1
 rw[List.filter_filter];refine jJ (λp _=>?_);by_cases h:p=bR s t x y
 ·subst h;have:(!(((bR s t x y).a==s&&(bR s t x y).x==x)||((bR s t x y).b==s&&(bR s t x y).y==x)))=Qb:=by
   cases e:(!(((bR s t x y).a==s&&(bR s t x y).x==x)||((bR s t x y).b==s&&(bR s t x y).y==x)))with
   |false=>rfl
   |true=>exact Rk Vh ((OO aq).mp e).1
  rw[this];rfl
 ·grind
def GO{b d:Bo}(a:aH b)(hd:aH d)(hv:To v)(h:∀w,u≠v->(Sq b u v z w↔Sq d u v z w)):av b u v z=av d u v z:=by
 refine iq (Xc (a.cA v hv)) (Xc (hd.cA v hv)) (λw=>?_);rw[d3 a,d3 hd];by_cases e:u=v
 ·exact⟨λq=>Rk e (qR a q),λq=>Rk e (qR hd q)⟩
 ·exact h w e
def bN(b:Bo)(s:Nat)(xs:QC):Bo:=xs.foldl (λb x=>da b s x) b
def c9(b:Bo)(s t:Nat)(ps:XW):Bo:=ps.foldl (λb p=>iP b s t p.1 p.2) b
def dc(l:ZF):QC:=R1 (λe=>e.1)
def seconds(l:ZF):QC:=RW l QbH
def dB(l:ZF):XW:=RW l (λe=>e.2.map Y')
def mv:∀xs{b:Bo}(a:b.senses.length=3)s,ZL (bN b s xs)=3
 |[],_,a,_=>a
 |x::xs,b,a,s=>mv xs (gO a s x) s
def wN:∀xs b s,(bN b s xs).pairs=Qa6
 |[],_,_=>rfl
 |x::xs,b,s=>QH (wN xs _ s) rfl
def AW(hs:QE)(c:W7):Qg9 (z∈ae (bN b s xs) u↔(u=s/\z∈xs)\/z∈ae b u)
 |[],_,_=>by simp[bN]
 |x::xs,b,a=>by
  show z∈ae (bN _ s xs) u↔_;rw[AW hs c xs (gO a s x),ke a hs c,kn];constructor
  ·grind
  ·grind
def mw(hs:QE)(c:W7):Qg9 (b7 (ae b u)->b7 (ae (bN b s xs) u))
 |[],_,_,h=>h
 |x::xs,b,a,h=>mw hs c xs (gO a s x) (tU a hs c h)
def wQ(hs:QE)(c:W7)(h:u≠s):Qg9 (ae (bN b s xs) u=ae b u)
 |[],_,_=>rfl
 |x::xs,b,a=>QH (wQ hs c h xs (gO a s x)) (by rw[nR a hs c,if_neg h])
def GP(b:Bo)(p:kH)(u:Nat):ae (gP b p) u=ae b u:=rfl
def GQ{b:Bo}(a:VT=3)(s t:Nat)(x y:aw):ZL (iP b s t x y)=3:=by rw[pC];exact gO (gO a s x) t y
def aiM{b:Bo}(a:VT=3)(hs:QE)(ht:Q2)(c:W7):z∈ae (iP b s t x y) u↔(u=t/\z=y)\/(u=s/\z=x)\/z∈ae b u:=by
 rw[pC,GP,ke (gO a s x) ht c,ke a hs c]
def aiN{b:Bo}(a:VT=3)(hs:QE)(ht:Q2)(c:W7)(h:b7 (ae b u)):b7 (ae (iP b s t x y) u):=by
 rw[pC,GP];exact tU (gO a s x) ht c (tU a hs c h)
def aiO(b:Bo)(s t:Nat)(x y:aw):(iP b s t x y).pairs=i9 Qa6 (bR s t x y):=by rw[pC];rfl
def GR:Qha (ZL (c9 b s t ps)=3)
 |[],_,h=>h
 |p::ps,b,a=>GR ps (GQ a s t p.1 p.2)
def GS(hs:QE)(ht:Q2)(c:W7):Qha (z∈ae (c9 b s t ps) u↔(∃p∈ps,(u=t/\z=p.2)\/(u=s/\z=p.1))\/z∈ae b u)
 |[],_,_=>by simp[c9]
 |p::ps,b,a=>by
  show z∈ae (c9 _ s t ps) u↔_;rw[GS hs ht c ps (GQ a s t p.1 p.2),aiM a hs ht c];constructor
  ·grind
  ·grind
def GU(hs:QE)(ht:Q2)(c:W7):Qha (b7 (ae b u)->b7 (ae (c9 b s t ps) u))
 |[],_,_,h=>h
 |p::ps,b,a,h=>GU hs ht c ps (GQ a s t p.1 p.2) (aiN a hs ht c h)
def nS(q:QR kH)(s t:Nat)(ps:XW):QR kH:=ps.foldl (λq p=>i9 q (bR s t p.1 p.2)) q
def GV:∀ps b,(c9 b s t ps).pairs=nS Qa6 s t ps
 |[],_=>rfl
 |p::ps,b=>by
  show(c9 _ s t ps).pairs=nS _ s t ps;rw[GV ps,aiO]
def AX(s t:Nat)(b:Bo)(e:aw×QC):addLine s t b e=c9 (da b s e.1) s t (e.2.map Y'):=by
 unfold addLine c9;rw[List.foldl_map]
structure OP(b d:Bo)(s t:Nat)(l:ZF):Prop where
 three:ZL d=3
 pairs:d.pairs=nS Qa6 s t (dB l)
 cA:∀u∈dY,b7 (ae b u)->b7 (ae d u)
 mem:∀u∈dY,∀z,z∈ae d u↔(u=s/\z∈dc l)\/(u=t/\z∈WX)\/z∈ae b u
def tV:p∈dB l↔ ∃e∈l,p.1=e.1/\p.2∈e.2:=by
 unfold dB;constructor
 ·grind
 ·grind
def pD(hs:QE)(ht:Q2):∀l{b:Bo},VT=3->OP b (fB b s t l) s t l
 |[],b,c=>Rn c Yl (λu a z=>by simp[dc,seconds];rfl)
 |e::l,b,c=>by
  have i:ZL (addLine s t b e)=3:=by rw[AX];exact GR _ (gO c s e.1)
  have f:=pD hs ht l i;refine⟨f.three,by show(fB _ s t l).pairs=_;rw[f.pairs,AX,GV];show nS (nS b.pairs s t _) s t _=nS _ s t (_++dB l);unfold nS;rw[iD],λu a h=>f.cA u a (by rw[AX];exact GU hs ht a _ (gO c s e.1) (tU c hs a h)),λu a z=>?_⟩
  ·show z∈ae (fB _ s t l) u↔_;rw[f.mem u a z,AX,GS hs ht a _ (gO c s e.1),ke c hs a];show _↔(u=s/\z∈e.1::dc l)\/(u=t/\z∈e.2++WX)\/_;rw[kn,gg];constructor
   ·grind
   ·rintro(⟨g,d|d⟩|⟨g,d|d⟩|h)
    ·grind
    ·exact Qq (Qe g d)
    ·exact Qy (Qay ⟨(e.1,z),XH z d,Qds g⟩)
    ·exact Qay (Qe g d)
    ·grind
def cX(b:Bo)(s t:Nat)(l:ZF):Bo:=bN (bN b s (dc l)) t WX
def tW(hs:QE)(ht:Q2)(a:W7)(l:R_)(c:VT=3):z∈ae (cX b s t l) u↔(u=s/\z∈dc l)\/(u=t/\z∈WX)\/z∈ae b u:=by
 unfold cX;rw[AW ht a _ (mv _ c s),AW hs a _ c];exact or_left_comm
def aiP(hs:QE)(ht:Q2)(l:R_)(c:VT=3):OP b (c9 (cX b s t l) s t (dB l)) s t l:=by
 have d:ZL (cX b s t l)=3:=mv _ (mv _ c s) t;refine⟨GR _ d,by rw[GV];unfold cX;rw[wN,wN],λu a h=>GU hs ht a _ d (mw ht a _ (mv _ c s) (mw hs a _ c h)),λu a z=>?_⟩
 ·rw[GS hs ht a _ d,tW hs ht a l c];constructor
  ·rintro(⟨p,g,h⟩|h)
   ·obtain⟨e,f,i,j⟩:=tV.mp g;rcases h with⟨q1,rfl⟩|⟨q1,rfl⟩
    ·exact Qay ⟨q1,TZ iF.mpr e f j⟩
    ·exact Qq ⟨q1,Qeo (Qh e f i.symm)⟩
   ·exact h
  ·exact .inr
def aiQ(hs:QE)(ht:Q2)(l:R_){b:Bo}(c:aH b):fB b s t l=c9 (cX b s t l) s t (dB l):=by
 have x:=pD hs ht l Qal;have y:=aiP hs ht l Qal;refine GJ x.three y.three (λu a=>iq (x.cA u a (c.cA u a)) (y.cA u a (c.cA u a)) QcS) (x.pairs.trans y.pairs.symm);rw[x.mem u a,y.mem u a]
def OQ{b:Bo}(e:VT=3):b.senses=[ae b 1,ae b 2,ae b 3]:=by
 obtain⟨l,p⟩:=b;match l,e with
 |[a,c,d],_=>rfl
def OR{b:Bo}(a:VT=3):QJ tooMany b↔ ∃u∈dY,40<(ae b u).length:=by
 unfold tooMany;rw[OQ a];show Qv (QV (40<U6 b 1)||(QV (40<U6 b 2)||(QV (40<U6 b 3)||Qb)))↔_;simp
def count_eq{b:Bo}(a:VT=3):iL b=U6 b 1+U6 b 2+U6 b 3:=by
 unfold iL;rw[OQ a];show 0+U6 b 1+U6 b 2+U6 b 3=_;rw[xR]
def aiR{b d:Bo}(a:VT=3)(c:ZL d=3)(hs:QE)(ht:Q2)(aq:s≠t)(h:∀u∈dY,u≠s->u≠t->ae d u=ae b u):iL d+(Xs+U6 b t)=iL b+(W0 d+U6 d t):=by
 rw[count_eq a,count_eq c];simp at hs ht;rcases hs with rfl|rfl|rfl<;>rcases ht with rfl|rfl|rfl
 ·exact Wz aq
 ·grind
 ·grind
 ·grind
 ·exact Wz aq
 ·grind
 ·grind
 ·grind
 ·exact Wz aq
def OS(q:R_)(p:kH):Wa i9 q p=Qn q+if q.contains p=true then 0 else 1:=by
 unfold i9;split
 ·rfl
 ·simp
end DL
namespace DL
open PySem PySem.Spec L2 NT AT
open PyProof.Rows hiding St
open Vbdhaj(Sense sensesOf equals paired less lessText putIn addSense addPair pairOf)
def ck(C ob:Addr)(b:Bo):a6:=Ya (v=Wl/\(a8 C b).p H v) (λs⟨e,h⟩=>Qe e ((a8 C b).m s h))
def mx(h:(ck C ob b).p H v):(a8 C b).p H v:=h.2
def iw(C:Addr)(f:Qaq)(B:Bk)(g:Tag):a6:=Ya (v=Q1 (f g)/\dG C H f B) (λs⟨e,h⟩=>Qe e (QY h s))
def OT{b:Bo}(r:gH B b)(h:(iw C f B .ob).p H v):(a8 C b).p H v:=⟨f,B,h.1,h.2,r⟩
structure kg(H H':Hp)(l:Addr)(g:Qa9 Int):Prop where
 same:af H H'
 hl:H' l=QaF (three g)
 hg:QaG (H' (g s)=ZN [])
 nl:H l=none
 ng:QaG (H (g s)=none)
 gl:QaG (g s≠l)
 inj:QaG (∀t∈T3,g s=g t->s=t)
def kg.keep{g}(t:kg H H' l g)(s:af H' a):kg H a l g:=⟨Qaz t s,s _ _ t.hl,λu b=>s _ _ (t.hg u b),t.nl,t.ng,t.gl,t.inj⟩
def kg.back{g}(t:kg H H' l g)(s:af H0 H):kg H0 H' l g:=⟨QH s t.same,t.hl,t.hg,s.free t.nl,λu a=>s.free (t.ng u a),t.gl,t.inj⟩
@[irreducible]def cD(a b c:Nat)(p d e f q1 g h:Pos):Expr:= .Dict [Qc (Qax 1 a d),Qc (Qax 2 b e),Qc (Qax 3 c f)] [.Dict [] [] q1,.Dict [] [] g,.Dict [] [] h] p
def aiS{X:Cx}{a b c:Nat}{p d e f q1 g h:Pos}:PE X (cD a b c p d e f q1 g h) (y9 [(tC (QL 1),lW),(tC (QL 2),lW),(tC (QL 3),lW)]):=by unfold cD;exact @afD X p _ _ _ _ _ _ _ _ _ lW lW lW dP vu dP vu dP vu
def aiT(k:∀l g H',kg H H' l g->R3 l H'):y9 [(tC (QL 1),lW),(tC (QL 2),lW),(tC (QL 3),lW)] σ H Q:=by
 intro l hl a i b f c d;have h:(upd H l _) l=QaF []:=aC;have n1:=cZ h i;have n2:=cZ (by rw[ax n1];exact h) f;have j:=cZ (by rw[ax n2,ax n1];exact h) d;have m:=cZ aC f;have n:=cZ (by rw[ax m];exact aC) d;have p:=cZ aC d;have s1:af H (upd H l (.dK [])):=U9 hl;have s2:=Qcv (Qex (.dT []) i);have s3:=s2.trans (Qex (.dT []) f);refine RF (by rw[ax j,ax n2,ax n1];exact h) [(Qq 1,QS),(Qq 2,SI),(Qq 3,Q1 c)] YU ?_;refine k l (λs=>if s=1 then a else if s=2 then b else c) _ ⟨Vu (s3.trans (Qex (.dT []) d)) hl,by rw[aC];rfl,λs hs=>?_,hl,λs hs=>?_,λs hs=>Qm,λs hs t ht=>Qm⟩
 ·simp at hs;rcases hs with rfl|rfl|rfl
  ·show upd _ l _ a=_;rw[ax n1.symm,ax n,ax m,aC]
  ·show upd _ l _ b=_;rw[ax n2.symm,ax p,aC]
  ·show upd _ l _ c=_;rw[ax j.symm,aC]
 ·simp at hs;rcases hs with rfl|rfl|rfl
  ·exact s1.free i
  ·exact s2.free f
  ·exact s3.free d
def OU(k:∀l g H',kg H H' l g->R3 l H'):wE X (cD a b c p d e f q1 h i) σ H Q:=λj s I=> @aiS X a b c p d e f q1 h i j s σ H Q I (aiT k)
def OV{p d e f q1 g h}:eZ (cD a b c p d e f q1 g h) t l env=UH:=by unfold cD;rfl
abbrev wR:Stmt:=Z5 l0 6
def aiU:∃a b c d e f p g h i q1 j k,g_ zJ=Qbm [Yy (Wx RR a) WN b] (cD d e f p g h i q1 j k) c::[]:=by unfold cD;exact⟨_,_,_,_,_,_,_,_,_,_,_,_,_,rfl⟩
abbrev OW(i:Nat):Stmt:=UO (g_ wR) (.Pass (U' 0 0 0))
def aiV:∃a b c d e f p g h i q1 j k l m n o,g_ wR=OW 0::Qbm [Zd (Zd (Yy (Wx RR a) WN l) (Wx "s" m) n) (Wx "x" o) b] (cD d e f p g h i q1 j k) c::OW 2::[]:=by unfold cD;exact⟨_,_,_,_,_,_,_,_,_,_,_,_,_,_,_,_,_,rfl⟩
def aiW(y:PE X o f)
  (q:∀σ H,Cf H0 d O G σ H-> ∀l g b,kg H b l g->f σ b (λx h=> ∃a C i fs,x=QS/\h a=Zs C i fs/\ib X.K C/\j0 X.K C fn/\T7<1000/\wB X e D σ (upd h a (.ins C i (h9 fn Uj fs))))):
  Bl X H0 d O G (Qbm [Yy o fn v] (cD j k m p n r s q1 t u) w::e) D:=
 dA (ab6 y a7 OV) (Vv (OU (λl g b T=>q σ H c l g b T)))
def aiX(w:RY+5<bf)
  (q:∀σ H,Cf H0 d O G σ H-> ∀l g b,kg H b l g->wE X o σ b (λx z=>wE X i σ z (λy A=> ∃a f,x=QS/\oR A a y Uj f/\wB X e D σ f))):
  Bl X H0 d O G (Qbm [Zd o i u] (cD h j k p m n r q1 s t) v::e) D:=
 dA (Dm w a7 a7 a7 OV) (Vv (OU (λl g b T=>q σ H c l g b T)))
end DL
namespace AT
def Bk.bN(B:Bk)(s:Int)(x:cJ):Bk:=⟨λu=>Qgw,λu z t=>if u=s/\z=x then []else B.eqs u z t⟩
def Bk.gQ(B:Bk)(s:Int)(x:cJ)(t:Int)(l:UW):Bk:=Qe B.bA (λu z v=>if u=s/\z=x/\v=t then l else B.eqs u z v)
def Bk.pE(B:Bk)(s:Int)(x:cJ):Bk:=Qe (λu=>if u=s then(B.bA s).filter (λz=>decide (z≠x))else B.bA u) B.eqs
end AT
namespace DL
open PySem PySem.Spec L2 NT AT
open PyProof.Rows hiding St
open Vbdhaj(Sense sensesOf equals paired less lessText putIn addSense addPair pairOf)
def jB(f:Qaq)(s:Int)(x:cJ)(l:Addr)(g:Qa9 Int):Qaq
 | .sn u z=>if u=s/\z=x then l else f (.sn u z)
 | .eq u z v=>if u=s/\z=x then g v else f (.eq u z v)
 | .ob=>f .ob
 | .lk=>f .lk
 | .tg u=>f (.tg u)
section
variable{C:Addr}{H H1:Hp}{f:Qaq}{B:Bk}{s t:Int}{x y:cJ}{l:Addr}{g:Qa9 Int}
def OX(bk:dG C H f B):∀t,Used B t-> ∃o,H (f t)=Qi
 | .ob,_=>let⟨dx,h⟩:=bk.ob;Rh h
 | .lk,_=>Rh bk.lk
 | .tg s,h=>Rh (bk.tg s h)
 | .sn s x,h=>Rh (bk.sn s h.1 x h.2)
 | .eq s x t,h=>Rh (bk.eq s h.1 x h.2.1 t h.2.2)
def OY(h:QaG (g s=g' s)):three g=three g':=by
 unfold three;rw[h 1 Qj,h 2 Qj,h 3 Qj]
def aiY(bk:dG C H f B)(T:kg H H1 l g)(hs:s∈T3)(hx:x∉B.bA s):dG C (upd H1 (f (.tg s)) (.dT (putK (eF f B s) (bC x) Uj))) (jB f s x l g) (B.bN s x):=by
 have A:Used B (.tg s):=hs;have p:∀a o,H a=Qi->a≠f _->upd H1 (f (.tg s)) (.dT (putK (eF f B s) (bC x) Uj)) a=Qi:=λa o e D=>by rw[ax D];exact T.same _ _ e
 have r:∀t,Used B t->t≠ .tg s->f t≠f _:=λt c D e=>D (bk.inj _ _ c A e);have G:∀t,Used B t->f t≠l:=λt c e=>by
  obtain⟨o,k⟩:=OX bk t c;rw[e,T.nl]at k;cases k
 have K:∀t,Used B t-> ∀u∈T3,f t≠g u:=λt c u hv e=>by
  obtain⟨o,k⟩:=OX bk t c;rw[e,T.ng u hv]at k;cases k
 have m:∀u z,z∈B.bA u->QfL:=λu z d⟨i,j⟩=>by subst i j;exact hx d
 have bA:∀u z,z∈(B.bN s x).bA u->z∈B.bA u\/(u=s/\z=x):=λu z d=>by
  have d:z∈(Qgw):=d;split at d
  ·grind
  ·exact Qq d
 have I:∀t,Used (B.bN s x) t->(Used B t/\jB f s x l g t=f t)\/(t= .sn s x/\jB f s x l g t=l)\/ ∃v∈T3,t= .eq s x v/\jB f s x l g t=g v:=λt c=>by
  cases t with
  |ob=>exact Qds RQ
  |lk=>exact Qds RQ
  |tg u=>exact Qds c
  |sn u z=>
   rcases bA u z c.2 with h|⟨rfl,rfl⟩
   ·exact Qq ⟨Rw c.1,Qs (m u z h)⟩
   ·exact Qay (QfX QaZ)
  |eq u z v=>
   rcases bA u z c.2.1 with h|⟨rfl,rfl⟩
   ·exact Qq ⟨Qh c.1 h c.2.2,Qs (m u z h)⟩
   ·exact Qy (Qy (Wb v c.2.2 QaZ))
 obtain⟨M,k⟩:=bk.ob;refine⟨Qe M (p _ _ k (r .ob RQ Qj)),p _ _ bk.lk (r .lk RQ Qj),λu c=>?_,λu c z d=>?_,λu c z d v hv=>?_,λa b N O e=>?_⟩
 ·by_cases e:u=s
  ·subst e;show upd H1 _ _ (f _)=_;rw[aC,L2.lV _ (by unfold eF;rw[vS f B,if_neg hx])];have i:eF (jB f u x l g) (B.bN u x) u=eF f B u++[(bC x,Sa l)]:=by
    show(VA (if u=u then B.bA u++[x]else B.bA u))=_;rw[(SX),bO];congr 1
    ·refine iG (λz d=>?_);show(bC z,Sa (if u=u/\z=x then l else f _))=_;rw[Qs (m u z d)]
    ·show [(bC x,Sa (if u=u/\x=x then l else f _))]=_;rw[(QaZ)]
   rw[i]
  ·have i:eF (jB f s x l g) (B.bN s x) u=eF f B u:=by
    show(VA Qgw)=_;rw[(W5)];refine iG (λz d=>?_);show(bC z,Sa (if u=s/\z=x then l else f _))=_;rw[Qbx (e q.1)]
   rw[i];exact p _ _ (bk.tg u c) (r _ c QaL)
 ·rcases bA u z d with h|⟨rfl,rfl⟩
  ·have i:jB f s x l g (.sn u z)=f _:=Qs (m u z h);rw[i];have j:three (λt=>jB f s x l g (.eq u z t))=three _:=OY (λv _=>Qs (m u z h));rw[j];exact p _ _ (bk.sn u c z h) (r _ (Rw c) Qj)
  ·have i:jB f u z l g (.sn u z)=l:=QaZ;rw[i];have j:three (λt=>jB f u z l g (.eq u z t))=three g:=OY (λv _=>QaZ);rw[j,ax (G _ A).symm];exact T.hl
 ·rcases bA u z d with h|⟨rfl,rfl⟩
  ·have i:jB f s x l g (.eq u z v)=f _:=Qs (m u z h);have j:(B.bN s x).eqs u z v=B.eqs u z v:=Qs (m u z h);rw[i,j];exact p _ _ (bk.eq u c z h v hv) (r _ (Qh c h hv) Qj)
  ·have i:jB f u z l g (.eq u z v)=g v:=QaZ;have j:(B.bN u z).eqs u z v=[]:=QaZ;rw[i,j,ax (K _ A v hv).symm];exact T.hg v hv
 ·rcases I a N with⟨n,E⟩|⟨n,E⟩|⟨v,hv,n,E⟩<;>rcases I b O with⟨y,F⟩|⟨y,F⟩|⟨w,J,y,F⟩<;>rw[E,F]at e
  ·exact bk.inj _ _ n y e
  ·exact Rk e (G _ n)
  ·grind
  ·grind
  ·rw[n,y]
  ·exact Rk Y6 (T.gl w J)
  ·grind
  ·exact Rk e (T.gl v hv)
  ·rw[n,y,T.inj v hv w J e]
def OZ(bk:dG C H f B)(hs:s∈T3)(hx:x∈B.bA s)(ht:t∈T3)(m:UW):dG C (upd H (f (.eq s x t)) (.dT (gE m))) f (B.gQ s x t m):=by
 have l:∀d,Used B d->d≠ .eq s x t->f d≠f _:=λd c i e=>i (bk.inj _ _ c (Qh hs hx ht) e);have g:∀d o,Used B d->d≠ .eq s x t->H (f d)=Qi->upd H _ (.dT (gE m)) (f d)=Qi:=λd o c i e=>by rw[ax (l d c i)];exact e
 obtain⟨n,p⟩:=bk.ob;refine⟨Qe n (g .ob _ RQ Qj p),g .lk _ RQ Qj bk.lk,λu c=>g _ _ c Qj (bk.tg u c),λu c z h=>g _ _ (Rw c) Qj (bk.sn u c z h),λu c z h v hv=>?_,λa b q r=>bk.inj a b (by cases a<;>exact q) (by cases b<;>exact r)⟩;by_cases e:u=s/\z=x/\v=t
 ·obtain⟨rfl,rfl,rfl⟩:=e;have j:(B.gQ u z v m).eqs u z v=m:=Qp QaV;rw[j,aC]
 ·have j:(B.gQ s x t m).eqs u z v=B.eqs u z v:=W5;rw[j];exact g _ _ (Qh c h hv) QaL (bk.eq u c z h v hv)
def aiZ:k3 (eF f B s) (bC x)=eF f (B.pE s x) s:=by
 unfold k3 eF;show _=(VA (if s=s then(B.bA s).filter _ else B.bA s));rw[(SX),ry];congr 1
 refine jJ (λz _=>?_);exact Qdc ⟨Wh Qd5,Wh (lX e)⟩
def ai0:k3 (gE m) (bC y)=gE (XI m (z≠y)):=by
 unfold k3 gE;rw[ry];congr 1
 refine jJ (λz _=>?_);exact Qdc ⟨Wh Qd5,Wh (lX e)⟩
def ai1(h:y∉m):putK (gE m) (bC y) (.bl true)=gE (m++[y]):=by
 rw[L2.lV _ (by rw[Ez,if_neg h])];unfold gE;rw[bO];rfl
def ai2(bk:dG C H f B)(hs:s∈T3):dG C (upd H (f (.tg s)) (.dT (k3 (eF f B s) (bC x)))) f (B.pE s x):=by
 have l:∀d,Used B d->d≠ .tg s->f d≠f _:=λd c i e=>i (bk.inj _ _ c hs e);have h:∀d o,Used B d->d≠ .tg s->H (f d)=Qi->upd H _ (.dT (k3 (eF f B s) (bC x))) (f d)=Qi:=λd o c i e=>by rw[ax (l d c i)];exact e
 have sub:∀u z,z∈(B.pE s x).bA u->z∈B.bA u:=λu z g=>by
  have g:z∈(if u=s then(B.bA s).filter _ else B.bA u):=g;split at g
  ·grind
  ·exact g
 have j:∀d,Used (B.pE s x) d->Used B d:=λd c=>by
  cases d with
  |ob=>trivial
  |lk=>trivial
  |tg u=>exact c
  |sn u z=>exact Qe c.1 (sub u z c.2)
  |eq u z v=>exact Qh c.1 (sub u z c.2.1) c.2.2
 obtain⟨m,n⟩:=bk.ob;refine⟨Qe m (h .ob _ RQ Qj n),h .lk _ RQ Qj bk.lk,λu c=>?_,λu c z g=>h _ _ ⟨c,sub u z g⟩ Qj (bk.sn u c z (sub u z g)),λu c z g v hv=>h _ _ ⟨c,sub u z g,hv⟩ Qj (bk.eq u c z (sub u z g) v hv),λa b p q=>bk.inj a b (j a p) (j b q)⟩;by_cases e:u=s
 ·subst e;rw[aC,aiZ]
 ·have r:eF f (B.pE s x) u=eF f B u:=by
   unfold eF;show(VA (if u=s then(B.bA s).filter _ else B.bA u))=_;rw[(W5)]
  rw[r];exact h _ _ c QaL (bk.tg u c)
end
section
variable{B:Bk}{b:Bo}{s t:Nat}{x y:aw}
def AY(h:u≠s):¬u=QW s:=λe=>h (iB.mp e)
def O0{l:QC}:toS x∈R1 toS↔x∈l:=⟨λh=>by obtain⟨z,a,e⟩:=cQ.mp h;rw[<-j_ e];exact a,λh=>XH x h⟩
def gH.has(r:gH B b)(hs:QE):toS x∈B.bA s↔x∈ae b s:=by rw[(r.bA s hs).mem_iff,O0]
def gH.AZ(r:gH B b)(a:aH b)(hs:QE)(ht:Q2)(hx:x∈ae b s):toS y∈B.eqs s (toS x) t↔Sq b s t x y:=by rw[(r.eqs s hs t ht x hx).mem_iff,O0,d3 a]
def ai3(r:gH B b)(c:aH b)(hs:QE)(hx:x∉ae b s):gH (B.bN s (toS x)) (da b s x):=by
 refine⟨λu a=>?_,λu a v hv z d=>?_⟩
 ·show(if u=(s:Int)then B.bA s++[toS x]else B.bA u).Perm _;rw[nR Qal hs a];by_cases e:u=s
  ·subst e;rw[(SX),(SX)];refine BY ?_ (Q9 GI hx toS).symm;exact Qhd (rC _ (r.bA u a))
  ·rw[Qs (AY e),(W5)];exact r.bA u a
 ·show(if u=(s:Int)/\toS z=toS x then []else B.eqs u _ v).Perm _;rw[aiG c hs hv hx];by_cases e:u=s/\z=x
  ·obtain⟨rfl,rfl⟩:=e;rw[(QaZ),aiH c hx];exact .refl _
  ·rw[Qbx (e ⟨iB.mp q.1,j_ q.2⟩)];rcases(ke Qal hs a).mp d with q|q
   ·exact Rk q e
   ·exact r.eqs u a v hv z q
def O1(h:s≠t):bR s t x y=bR t s y x:=(GL h h.symm).mpr (Qy (Rn rfl rfl rfl))
def GW(a:aH b)(ht:Q2):S7 (av b s t x):=ee (a.l_ ht)
def O2(a:aH b)(hs:QE)(ht:Q2)(aq:s≠t)(hx:x∈ae b s)(c:y∈ae b t)(d:¬Sq b s t x y):(av (gP b (bR s t x y)) s t x).Perm (y::av b s t x):=by
 have hd:=AU a hs ht aq hx c;refine(lr (GW hd ht) (gm.mpr ⟨λh=>d ((d3 a).mp h),GW a ht⟩)).mpr (λw=>?_);rw[d3 hd,OM aq aq,kn,d3 a];constructor
 ·grind
 ·grind
def ai4(a:aH b)(hs:QE)(ht:Q2)(aq:s≠t)(hx:x∈ae b s)(c:y∈ae b t)(hv:To v)(e:¬(u=s/\z=x/\v=t))(f:¬(u=t/\z=y/\v=s)):av (gP b (bR s t x y)) u v z=av b u v z:=by
 refine GO (AU a hs ht aq hx c) a hv (λw d=>?_);rw[OM aq d];constructor
 ·grind
 ·exact .inr
def ai5(r:gH B b)(c:aH b)(hs:QE)(ht:Q2)(aq:s≠t)(hx:x∈ae b s)(d:y∈ae b t)(h:¬Sq b s t x y):
  gH ((B.gQ s (toS x) t (B.eqs s (toS x) t++[toS y])).gQ t (toS y) s (B.eqs t (toS y) s++[toS x])) (gP b (bR s t x y)):=by
 refine Qe r.bA (λu a v hv z e=>?_);show(if u=(t:Int)/\toS z=toS y/\v=(s:Int)then B.eqs t _ s++[toS x]else if u=(s:Int)/\toS z=toS x/\v=(t:Int)then B.eqs s _ t++[toS y]else B.eqs u _ v).Perm _;by_cases f:u=t/\z=y/\v=s
 ·obtain⟨rfl,rfl,rfl⟩:=f;rw[Qp QaV,O1 aq]
  refine BY ?_ (QG (O2 c a hv aq.symm d hx (by rw[mf aq.symm];exact h)) toS).symm;exact Qhd (rC _ (r.eqs u a v hv z e))
 ·rw[Qbx (f ⟨iB.mp q.1,j_ q.2.1,iB.mp q.2.2⟩)];by_cases g:u=s/\z=x/\v=t
  ·obtain⟨rfl,rfl,rfl⟩:=g;rw[Qp QaV];refine BY ?_ (QG (O2 c a hv aq hx d h) toS).symm;exact Qhd (rC _ (r.eqs u a v hv z e))
  ·rw[Qbx (g ⟨iB.mp q.1,j_ q.2.1,iB.mp q.2.2⟩),ai4 c hs ht aq hx d hv g f];exact r.eqs u a v hv z e
def O3(a:aH b)(aq:s≠t)(ht:Q2):av (jV b (bR s t x y)) s t x=XI (av b s t x) (z≠y):=by
 have hd:=AV a (bR s t x y);refine iq (hd.l_ ht) (Xc (a.l_ ht)) (λw=>?_);rw[d3 hd,GN aq aq,eh,d3 a,decide_eq_true_eq];constructor
 ·grind
 ·grind
def ai6(a:aH b)(aq:s≠t)(hv:To v)(d:¬(u=s/\z=x/\v=t))(e:¬(u=t/\z=y/\v=s)):av (jV b (bR s t x y)) u v z=av b u v z:=by
 refine GO (AV a _) a hv (λw c=>?_);rw[GN aq c];constructor
 ·exact Qc4
 ·grind
def GX(l:QC)(y:aw):XI (R1 toS) (z≠toS y)=Uo l (λz=>QV (z≠y)) toS:=by
 rw[ry];congr 1
 refine jJ (λz _=>?_);exact Qdc ⟨Wh Qd5,Wh (j_ e)⟩
def ai7(r:gH B b)(a:aH b)(hs:QE)(ht:Q2)(aq:s≠t):gH ((B.gQ s (toS x) t (XI (B.eqs s (toS x) t) (z≠toS y))).gQ t (toS y) s (XI (B.eqs t (toS y) s) (z≠toS x))) (jV b (bR s t x y)):=by
 refine Qe r.bA (λu c v hv z d=>?_);show(if u=(t:Int)/\toS z=toS y/\v=(s:Int)then(B.eqs t _ s).filter _ else if u=(s:Int)/\toS z=toS x/\v=(t:Int)then(B.eqs s _ t).filter _ else B.eqs u _ v).Perm _;by_cases e:u=t/\z=y/\v=s
 ·obtain⟨rfl,rfl,rfl⟩:=e;rw[Qp QaV,O1 aq,O3 a aq.symm hv,<-GX];exact Sd (r.eqs u c v hv z d) _
 ·rw[Qbx (e ⟨iB.mp q.1,j_ q.2.1,iB.mp q.2.2⟩)];by_cases f:u=s/\z=x/\v=t
  ·obtain⟨rfl,rfl,rfl⟩:=f;rw[Qp QaV,O3 a aq hv,<-GX];exact Sd (r.eqs u c v hv z d) _
  ·rw[Qbx (f ⟨iB.mp q.1,j_ q.2.1,iB.mp q.2.2⟩),ai6 a aq hv f e];exact r.eqs u c v hv z d
def ai8(r:gH B b)(c:aH b)(hs:QE)(h0:∀v∈dY,av b s v x=[]):gH (B.pE s (toS x)) (hQ b s x):=by
 refine⟨λu a=>?_,λu a v hv z d=>?_⟩
 ·show(if u=(s:Int)then(B.bA s).filter _ else B.bA u).Perm _;rw[wM Qal hs a];by_cases e:u=s
  ·subst e;rw[(SX),(SX)];have g:Qen (ae b u) (z !=x)=XI (ae b u) (z≠x):=jJ (λz _=>by
    grind)
   rw[g,<-GX];exact Sd (r.bA u a) _
  ·rw[Qs (AY e),(W5)];exact r.bA u a
 ·have i:z∈ae b u:=by
   rw[wM Qal hs a]at d;split at d
   ·grind
   ·exact d
  have j:¬(u=s/\z=x):=by
   rintro⟨rfl,rfl⟩;rw[wM Qal hs a,(SX)]at d;simpa using(Zn d).2
  have e:av (hQ b s x) u v z=av b u v z:=by
   refine GO (ON c hs x) c hv (λw f=>?_);rw[aiK f];constructor
   ·exact Qc4
   ·refine λh=>Rw (Q_ j);rintro⟨rfl,rfl⟩;rw[mf f]at h;have:=(d3 c).mpr h;rw[h0 u a]at this;cases this
  rw[e];exact r.eqs u a v hv z i
end
end DL
namespace DL
open PySem PySem.Spec L2 NT AT
open PyProof.Rows hiding St
open Vbdhaj(Sense sensesOf equals paired)
section
variable{X:Cx}{H0 Hb:Hp}{O:QZ}{G:QO}{e a b o i:Expr}{es:Tc}{g ga gb:Bool}{A B:a6}{As:R7}{pos pos' p p' p2 apos cpos:Pos}{D:Ends}{ss body:US}{x m:Str}{ps:Uh}{j k:Nat}{C ob:Addr}{bo:Bo}{f:Qaq}{Bb:Bk}{s t:Nat}{sn:aw}
def Bl.at(h:Bl X H0 Hb O G ss D)(c:Cf H0 Hb O G σ H):wB X ss D σ H:=h σ H c
def wV(c:Cf H0 Hb O G σ H)(h:Ev X H0 O G e g A)(q:∀v H',af H H'->A.p (gh g H0 O H') v->Q v H'):wE X e σ H Q:=h Hb σ H Q c q
def O4(c:Cf H0 Hb O G σ H)(h:nQ X H0 O G e M)(q:∀v a H',af H a->M a v H'->Q v H'):wE X e σ H Q:=h Hb σ H Q c q
def bu.refl{a}:bu a H H:=Qbs (λ_ _ _ e=>e) e
def A0{a}(h:H a=Qa5):bu kD H (upd H a (.dT kvs')):=⟨λb o c e=>by
 have:b≠a:=λq=>by subst q;rw[h]at e;cases e;cases c
 rw[ax this];exact e,λb e=>by
 by_cases q:b=a
 ·subst q;rw[aC]at e;cases e
 ·rwa [ax q]at e⟩
def Cf.O5(c:Cf H0 Hb O G σ H)(b:G[n]?=Rz .v g A)(h:∀v,A.p (gh g H0 O H) v->B.p (gh g H0 O H) v):Cf H0 Hb O (Qf4 n (.v g B)) σ H:=by
 obtain⟨y,f,v,rfl,d⟩:=c.sl n _ b;have a:=c.set (i:=n) (h v d);have e:σ.set n Rg=σ:=by
  apply iE;intro q;rw[rx];split
  ·grind
  ·rfl
 rw[e]at a;exact a
def wW(a:G[0]?=Rz .v Qb (ck C ob bo))(q:∀f B,f .ob=ob->dG C H0 f B->gH B bo->Bl X H0 Hb O (Qf4 0 (.v Qb (iw C f B .ob))) ss D):Bl X H0 Hb O G ss D:=λb H c=>by
 obtain⟨y,g,v,rfl,d⟩:=c.sl 0 _ a;obtain⟨rfl,f,B,e,bk,r⟩:=d;injection e with e;exact q f B Y6 bk r b H (c.O5 a (λv hv=>by
  exact Qe (by rw[hv.1,e]) bk))
def tX(cl:ib X.K C)(nl:j0 X.K C WN)(a:Ev X H0 O G o Qb (iw C f Bb .ob))(b:kE o WN Qg XX=XX:=by rfl):Ev X H0 O G (Yy o WN pos) Qb (iw C f Bb .lk):=Xz cC (JS a7 b) (a Hb d H _ c (λv e s1 g=>by
 obtain⟨rfl,bk⟩:=g;obtain⟨h,hx⟩:=(dG.keep bk Qd3).ob;exact⟨_,C,h,_,_,rfl,hx,cl,nl,L' _,q _ e s1 (RL bk)⟩))
def tY(l:RY+64<bf)(d:Ev X H0 O G o Qb (iw C f Bb .lk))(hi:Sn i s)(hs:QE)(e:nh i:=by intro _ _;rfl):Ev X H0 O G (Vx o i) Qb (iw C f Bb (.tg s)):=cC (qv Qa a7 a7 e) (Qbi (d Hb b H _ c (λv g s1 h=>hi Hb b g _ Q0 (λw j s2 a=>by
 obtain⟨rfl,bk⟩:=h;subst a;have hg:=gC.k (k:=mX s) (dG.keep bk Qd4).lk;rw[zG _ (t3 hs)]at hg;exact Uu hg (q _ j Rt (RL bk))))))
def A1(p:RY+64<bf)(g:Ev X H0 O G o Qb (iw C f Bb (.tg s)))(hi:Vb i aX sn)(hs:QE)(hx:toS sn∈Bb.bA s)(h:nh i:=by intro _ _;rfl):Ev X H0 O G (Vx o i) Qb (iw C f Bb (.sn s (toS sn))):=cC (qv Qa a7 a7 h) (Qau (g Hb a H _ c (λv j s1 k=>hi Hb a j _ Q0 (λw l s2 m=>by
 obtain⟨rfl,bk⟩:=k;obtain⟨t,rfl,n⟩:=hE.mp m;have d:=VO;have hg:=gC.t ((dG.keep bk d.same).tg s (t3 hs)) (n.key.keep (λb r e=>dM d.same _ _ e));unfold eF at hg;rw[vS f Bb,Qp hx]at hg;exact Uu hg (q _ l Rt (RL bk))))))
def A2(l:RY+64<bf)(d:Ev X H0 O G o Qb (iw C f Bb (.sn s (toS sn))))(hi:Sn i t)(hs:QE)(hx:toS sn∈Bb.bA s)(ht:Q2)(e:nh i:=by intro _ _;rfl):Ev X H0 O G (Vx o i) Qb (iw C f Bb (.eq s (toS sn) t)):=cC (qv Qa a7 a7 e) (Qbi (d Hb b H _ c (λv g s1 h=>hi Hb b g _ Q0 (λw j s2 a=>by
 obtain⟨rfl,bk⟩:=h;subst a;have hg:=gC.k (k:=mX t) ((dG.keep bk Qd4).sn s (t3 hs) _ hx);rw[zG _ (t3 ht)]at hg;exact Uu hg (q _ j Rt (RL bk))))))
def g9(c:Cf H0 Hb O G σ H)(h:(aX sn).p (gh g H0 O H) v):∃t,v=VN/\bV H (bC (toS sn)) t:=by
 obtain⟨t,rfl,a⟩:=hE.mp h;exact Ss t (a.key.keep (λb d e=>dM R8 _ _ e))
def Cf.gR(c:Cf H0 Hb [] G σ H)(a:bu kD H H')(r:fL H0 [] H H' G G'):Cf H' Tb [] G' σ H':=by
 have:=c.re a.dl (λq b=>by cases b) r;rwa [fK]at this
def O6{b}(A:RY+64<bf)(k:Ev X H0 [] G o Qb (iw C f Bb (.eq s (toS sn) t)))(l:Qeq [] i (aX y))(hs:QE)(ht:Q2)(hx:toS sn∈Bb.bA s)(m:toS y∉Bb.eqs s (toS sn) t)(hl:Qn (Bb.eqs s (toS sn) t)<1000)
  (n:∀H H',dG C H' f (Bb.gQ s (toS sn) t (Bb.eqs s (toS sn) t++[toS y]))->fL H0 [] H H' G G')(q:∀H H',af H0 H->bu kD H H'->dG C H' f (Bb.gQ s (toS sn) t (Bb.eqs s (toS sn) t++[toS y]))->Bl X H' Tb [] G' ss D)
  (p:eZ (XB (.bool true) b d) (Qc (Zd o i pos')) VL Qg=UH:=by rfl):Bl X H0 Hb [] G (Z4 [Zd o i pos'] (XB (.bool true) b d)::ss) D:=
 dA (Dm Qa a7 a7 CL p) (λe H c=>k Hb e H _ c (λv r s1 u=>l Hb e r _ Q0 (λw B s2 x=>by
  obtain⟨rfl,bk⟩:=u;have a:=VO;obtain⟨E,rfl,z⟩:=g9 a x;have g:=dG.keep bk ZR;have hd:=g.eq s (t3 hs) _ hx t (t3 ht);refine Uu (oR.t hd z (by rw[bK];unfold gE;rw[ak];omega)) ?_;rw[ai1 m];have h:=OZ g (t3 hs) hx (t3 ht) (Bb.eqs s (toS sn) t++[toS y]);have j:=A0 (kvs':=gE (Bb.eqs s (toS sn) t++[toS y])) hd;exact q _ _ ZR j h _ _ (a.gR j (n _ _ h)))))
def O7(E:RY+64<bf)(j:Ev X H0 [] G o Qb (iw C f Bb (.eq s (toS sn) t)))(k:Qeq [] e (aX y))(hs:QE)(ht:Q2)(hx:toS sn∈Bb.bA s)(l:toS y∈Bb.eqs s (toS sn) t)
  (m:∀H H',dG C H' f (Bb.gQ s (toS sn) t (XI (Bb.eqs s (toS sn) t) (z≠toS y)))->fL H0 [] H H' G G')(q:∀H H',af H0 H->bu kD H H'->dG C H' f (Bb.gQ s (toS sn) t (XI (Bb.eqs s (toS sn) t) (z≠toS y)))->Bl X H' Tb [] G' ss D)
  (n:M1 X o "pop" apos e cpos)(p:eZ (YJ o "pop" [e]) none VL Qg=UH:=by rfl):Bl X H0 Hb [] G (.Expr (YJ o "pop" [e]) pos::ss) D:=
 dA (iS (LF Qa a7 a7 n) p) (λd H c=>j Hb d H _ c (λv r s1 u=>by
  obtain⟨rfl,bk⟩:=u;have b:=Q0;refine Rn _ (WA _ (Qq ((dG.keep bk b.same).eq s (t3 hs) _ hx t (t3 ht)))) (k Hb d r _ b (λw F s2 x=>?_));have a:=QY b s2;obtain⟨A,rfl,B⟩:=g9 a x;have g:=dG.keep bk ZR;have hd:=g.eq s (t3 hs) _ hx t (t3 ht);refine⟨_,_,A,_,hd,rfl,B,by rw[Ez,if_pos l],?_⟩;rw[ai0];have h:=OZ g (t3 hs) hx (t3 ht) (XI (Bb.eqs s (toS sn) t) (z≠toS y));have i:=A0 (kvs':=gE (XI (Bb.eqs s (toS sn) t) (z≠toS y))) hd;exact q _ _ ZR i h _ _ (a.gR i (m _ _ h))))
def ai9(z:RY+64<bf)(j:Ev X H0 [] G o Qb (iw C f Bb (.tg s)))(k:Qeq [] e (aX sn))(hs:QE)(hx:toS sn∈Bb.bA s)
  (l:∀H H',dG C H' f (Bb.pE s (toS sn))->fL H0 [] H H' G G')(q:∀H H',af H0 H->bu kD H H'->dG C H' f (Bb.pE s (toS sn))->Bl X H' Tb [] G' ss D)
  (m:M1 X o "pop" apos e cpos)(n:eZ (YJ o "pop" [e]) none VL Qg=UH:=by rfl):Bl X H0 Hb [] G (.Expr (YJ o "pop" [e]) pos::ss) D:=
 dA (iS (LF Qa a7 a7 m) n) (λd H c=>j Hb d H _ c (λv p s1 r=>by
  obtain⟨rfl,bk⟩:=r;have b:=Q0;refine Rn _ (WA _ (Qq ((dG.keep bk b.same).tg s (t3 hs)))) (k Hb d p _ b (λw A s2 t=>?_));have a:=QY b s2;obtain⟨u,rfl,y⟩:=g9 a t;have g:=dG.keep bk ZR;have hd:=g.tg s (t3 hs);refine⟨_,_,u,_,hd,rfl,y,by unfold eF;rw[vS f Bb,if_pos hx],?_⟩;have h:=ai2 (x:=toS sn) g (t3 hs);have i:=A0 (kvs':=k3 (eF f Bb s) (bC (toS sn))) hd;exact q _ _ ZR i h _ _ (a.gR i (l _ _ h))))
def pF{a}{b:ι->Hp->TJ V}{pl}(cl:ib X.K C)(M:gG Qr X.w X.K X.mg Vp C j m ps (fM a pre b))(h:dt k X.A)(i:ι)(l:pre i)(n:Ev X H0 O G o g (ck C ob bo))(p:l6 X H0 O G (e::es) As)(hi:a i=ck C ob bo::As:=by rfl)(hj:j<=k:=by decide)(r:¬m=WN:=by decide+kernel)
  (aq:a_ (e::es) Qg=UY::a_ es Qg:=by rfl)(s:Zu:=by rfl)
  (ht:Ws (Qcj o m (e::es) pos)=(do
   let ov<-XX
   standAt apos.atName
   let(f,first)<-qb [ov] (uQ ov m pl)
   callWith pos f first (eC pos (a_ (e::es) Qg)) (fx pos (fw [] Qg))):=by rfl):
  nQ X H0 O G (Qcj o m (e::es) pos) (b i):=by
 obtain⟨f,L,F,t,u⟩:=M.ex;refine Xz GG (JX a7 cl t F (h.mono hj) u .nil zb i0 aq s ht) (n Hb d H _ c (λv w s1 x=>?_));obtain⟨z,f,B,A,bk,rb⟩:=((ck C ob bo).m (dM Qd3) x);subst A;obtain⟨D,hx⟩:=bk.ob;refine⟨f .ob,D,_,rfl,hx,Ma _ r,p Hb d w _ Q0 (λN E s2 I=>⟨i,l,?_,λv J K=>q v E J Rt K⟩)⟩;rw[dR,hi];exact Rc ⟨z,f,B,rfl,bk.keep s2,rb⟩ I
def A3{s:Type}{xs:QR s}{fA}(n:Nat)(R:TJ Nat)(L:Nat->QO)(F:RD)(hi:Ev X H0 O G l g (aL Qag))(Y:∀x,Ks (fA x))(ht:PG X tg (fo n))(I:∀σ H,Cf H0 Hb O G σ H->Qcf (H q=Y7))
  (h0:∀σ H,Cf H0 Hb O G σ H->fL H0 O H H G (L 0))(J:∀H,af H0 (off O H)->R 0 (off O H))
  (m:∀k x p N,V4=Qz->R k p->(∀σ H',R (k+1) (off O H')->bu kL p (off O H')->Cf (off O H') Tb O (L (k+1)) σ H'->N σ H')->Bl X p Tb O ((L k).set n (.v Qb (fA x))) body Qgx)
  (M:∀u,R Qu u->Bl X u Tb O (L Qu) ss D)
  (hs:∀x,eB l Qg x=Ul:=by intro _;rfl)(P:fQ (aV Qr X.w) X.A Qg Q3:=by exact eN):Bl X H0 Hb O G (.For tg l body [] pos::ss) D:=
 dA (h_ P F (iT a7) ht fZ hs) (Vv (hi Hb σ H _ c (λv f s1 Q=>by
  obtain⟨t,vs,rfl,hv,w⟩:=Q;have d:=Q0;have S:V1=Qu:=by rw[bQ w,ak]
  have T:=d.re bu.refl (I σ f d) (h0 σ f d);refine Rn t (Qbu vs (eI d hv)) (lR (λk h H'=>R k (off O H')/\Cf (off O H') _ O (L k) h H'/\off O H' t=Qc _/\bJ (off O H') vs _) ⟨J f (Q4 (jA (λm=>by rw[(d.fr b m).1]at e;cases e) (d.same _ _ e))),T,d.off _ _ hv,w.m d.off⟩ (λk h H' _⟨_,_,r,_⟩=>Q6 (AR _ _ r)) (λk y h H' z⟨i,j,r,p2⟩=>by have Z:=Ub z;obtain⟨x,hx⟩:∃x,V4=Qz:=Qdd (cN _);obtain⟨y',B,C⟩:=YF i1 p2 k (fA x);rw[z]at B;cases B;exact m k x _ _ hx i (λσ2 H2 V E W=>⟨V,W,E.at_ _ _ rfl r,bJ.m E.hJ (AO p2 (λA C=>Qm))⟩) _ _ (j.set C)) (λh H'⟨i,j,_⟩=>by rw[S]at i j;exact M _ i _ _ j)))))
def aja{ns:QU}(n:Nat)(R:TJ Nat)(L:Nat->QO)(w:RD)(z:qE X.K X.mg x (Qcm n))(ht:PG X tg (fo n))(A:∀σ H,Cf H0 Hb O G σ H->Qcf (H q=Y7))
  (h0:∀σ H,Cf H0 Hb O G σ H->fL H0 O H H G (L 0))(B:∀H,af H0 (off O H)->R 0 (off O H))
  (h:∀k m s N,ns[k]?=Qc m->R k s->(∀σ H',R (k+1) (off O H')->Cf (off O H') Tb O (L (k+1)) σ H'->N σ H')->Bl X s Tb O ((L k).set n W3) body Qgx)
  (C:∀t,R S9 t->Bl X t Tb O (L S9) ss D)
  (E:Gl X x:=by rfl)(hd:SK=Qb:=by decide)(hs:∀y,eB Te Qg y=Sy y:=by intro _;rfl)(F:fQ (aV Qr X.w) X.A Qg Q3:=by exact eN):Bl X H0 Hb O G (.For tg Te body [] pos::ss) D:=by
 obtain⟨a,I,f⟩:=z;refine dA (h_ F w (yT (qk (v:=QS) E I rfl hd)) ht fZ hs) (Vv (Rn a (V0 f H) ?_));refine E_ (λk d H'=>R k (off O H')/\Cf (off O H') _ O (L k) d H') ⟨B H (Q4 (jA (λh=>by rw[(c.fr b h).1]at e;cases e) (c.same _ _ e))),c.re bu.refl (A σ H c) (h0 σ H c)⟩ (λk d H' i _=>⟨_,Um (ns[k]),f H',Qm⟩) (λd H' _=>Tn (f H') Qj) (λk d H' y M i⟨j,l⟩r=>by obtain⟨rfl,r⟩:=r;have u:=r _ (f _);rw[cY,cY,cN i]at u;cases u;exact h k _ _ _ (cN i) j (λS T P Q=>⟨P,Q⟩) _ _ (l.set rfl)) (λd H'⟨j,l⟩=>C _ j _ _ l)
end
end DL
namespace DL
open PySem PySem.Spec L2 NT AT
open PyProof.Rows hiding St
section
variable{X:Cx}{H0 Hb:Hp}{O:QZ}{G:QO}{e a b o i:Expr}{es:Tc}{g ga gb:Bool}{A B:a6}{As:R7}{pos pos' p p' p2 apos cpos:Pos}{D:Ends}{ss body:US}{x m:Str}
def ajb{n:Type}{xs:QR n}{fA:n->R7}(is:QU)(R:Q5 Nat)(L:Nat->QO){e}{B}(o:RD)(hi:Ev X H0 O G i g (aL (VW (aT (fA x)))))(ht:oI X e (ti is))(q:∀x,Qaf=Qx fA x)(C:R 0)(h0:ff G (L 0))
  (E:∀j k x,V4=Qz->R k->Bl X H0 j O (qL (L k) g is (fA x)) body {D with nx:=λσ H=>R (k+1)/\Cf H0 j O (L (k+1)) σ H,ct:=λσ H=>R (k+1)/\Cf H0 j O (L (k+1)) σ H,bk:=wB X ss D})(F:R Qu->Bl X H0 Hb O (L Qu) ss D)
  (hl:Wa jh e Qg=Qaf:=by rfl)(aq:(jh e X.env).findIdx? (·.1)=none:=by rfl)(hs:∀x,eB i Qg x=Ul:=by intro _;rfl)(I:fQ (aV Qr X.w) X.A Qg Q3:=by exact eN):Bl X H0 Hb O G (.For (Xe e B p) i body [] pos::ss) D:=
 dA (h_ I o (iT a7) (oJ o ht hl aq) fZ hs) (Vv (hi Hb σ H _ c (λv J s1 M=>by
  obtain⟨t,f,rfl,hv,r⟩:=M;have l:=Q0;have N:Qn f=Qu:=by rw[bQ r,ak]
  refine Rn t (Qbu f (eI l hv)) (lR (xs:=f) (λk h d=>R k/\Cf H0 _ O (L k) h d) ⟨C,l.sR.le h0⟩ (λk h d _ b=>Q6 ?_) (λk y h d s b=>?_) (λh d b=>by rw[N]at b;exact F b.1 _ _ (b.2.sn l.snap)))
  ·cases g with
   |true=>exact l5 b.2.same _ _ (b.2.snap _ _ hv)
   |false=>exact b.2.same _ _ hv
  ·obtain⟨P,b⟩:=b;have V:=Ub s;obtain⟨x,hx⟩:∃x,V4=Qz:=Qdd (cN _);obtain⟨W,u,w⟩:=YF i1 r k (aT (fA x));rw[s]at u;cases u;have Q:(aT (fA x)).p (gh g H0 O d) y:=by
    cases g with
    |true=>exact(aT _).m b.snap w
    |false=>exact w
   obtain⟨ty,S,rfl,T,z⟩:=Q;refine⟨ty,S,rfl,cw.of (eI b T),by rw[bQ z,q x],wa (q x) b z (λY U=>E _ k x hx P _ _ U)⟩)))
def ajc{B:Type}{xs:QR B}{fA:B->R7}(is:QU)(R:TJ Nat)(L:Nat->QO){S}{m}(C:RD)(hi:Ev X H0 O G m g (aL (VW (aT (fA x)))))(T:∀x,∀A∈fA x,Ks A)(ht:oI X f (ti is))(E:∀x,Qaf=Qx fA x)(U:∀σ H,Cf H0 Hb O G σ H->Qcf (H q=Y7))
  (h0:∀σ H,Cf H0 Hb O G σ H->fL H0 O H H G (L 0))(V:∀H,af H0 (off O H)->R 0 (off O H))
  (n:∀k x r N,V4=Qz->R k r->(∀σ H',R (k+1) (off O H')->bu kL r (off O H')->Cf (off O H') Tb O (L (k+1)) σ H'->N σ H')->Bl X r Tb O (qL (L k) Qb is (fA x)) body Qgx)
  (W:∀F,R Qu F->Bl X F Tb O (L Qu) ss D)
  (hl:Wa jh f Qg=Qaf:=by rfl)(aq:(jh f X.env).findIdx? (·.1)=none:=by rfl)(hs:∀x,eB m Qg x=Ul:=by intro _;rfl)(Y:fQ (aV Qr X.w) X.A Qg Q3:=by exact eN):Bl X H0 Hb O G (.For (Xe f S p) m body [] pos::ss) D:=
 dA (h_ Y C (iT a7) (oJ C ht hl aq) fZ hs) (Vv (hi Hb σ H _ c (λv h s1 Z=>by
  obtain⟨t,vs,rfl,hv,I⟩:=Z;have d:=Q0;have hlen:V1=Qu:=by rw[bQ I,ak]
  have c0:=d.re bu.refl (U σ h d) (h0 σ h d);refine Rn t (Qbu vs (eI d hv)) (lR (λk i H'=>R k (off O H')/\Cf (off O H') _ O (L k) i H'/\off O H' t=Qc _/\bJ (off O H') vs _) ⟨V h (Q4 (jA (λn=>by rw[(d.fr b n).1]at e;cases e) (d.same _ _ e))),c0,d.off _ _ hv,I.m d.off⟩ (λk i H' _⟨_,_,s,_⟩=>Q6 (AR _ _ s)) (λk y i H' J⟨j,l,s,p2⟩=>by have hkl:=Ub J;obtain⟨x,hx⟩:∃x,V4=Qz:=Qdd (cN _);obtain⟨y',M,u⟩:=YF i1 p2 k (aT (fA x));rw[J]at M;cases M;obtain⟨ty,us,rfl,hty,P⟩:=u;exact⟨ty,us,rfl,cw.of (AR _ _ hty),by rw[bQ P,E x],wa (g:=Qb) (E x) l P (λσ2 w=>n k x _ _ hx j (λσ2 H2 r3 Q w=>⟨r3,w,Q.at_ _ _ rfl s,bJ.m Q.hJ (AO p2 (λA u=>by obtain⟨z,_,rfl⟩:=cQ.mp u;exact AQ (T z)))⟩) _ _ w)⟩) (λi H'⟨j,l,_⟩=>by rw[hlen]at j l;exact W _ j _ _ l)))))
def ajd{B}(bk:dG C H f B)(d:Qcf (H q=Y7)):dG C (off O H) f B:=by
 have no:∀a o,H a=Qi->(∀vs,o≠YE vs)->off O H a=Qi:=λa o e g=>jA (λh=>by
  grind) e
 obtain⟨b,c⟩:=bk.ob;exact⟨Qe b (no _ _ c QdE),no _ _ bk.lk QdE,λs hs=>no _ _ (bk.tg s hs) QdE,λs hs x hx=>no _ _ (bk.sn s hs x hx) QdE,λs hs x hx t ht=>no _ _ (bk.eq s hs x hx t ht) QdE,bk.inj⟩
def aje{b:Bo}(h:(a8 C b).p H Wl)(a:Qcf (H q=Y7)):(ck C ob b).p (off O H) Wl:=by
 obtain⟨f,B,e,bk,r⟩:=h;exact⟨rfl,f,B,e,ajd bk a,r⟩
end
open Vbdhaj(Sense sensesOf equals paired putIn setOf addSense addPair pairOf)
abbrev GY:Stmt:=Z5 l0 5
abbrev GZ:Stmt:=Z5 l0 7
abbrev G0:Stmt:=Z5 l0 8
abbrev G1:Stmt:=Z5 l0 9
def ajf(C p a:Addr):a6:=Ya (v=Vm/\H p=Zs C a []) (λs⟨e,h⟩=>Qe e (s _ _ h))
def O8(C:Addr):Sp:=fM (λ(p,c)=>[ajf C p c]) (RC True) (λ(p,_)H v b=>v= .a9/\(∀a o,H a=Qi->a≠p->b a=Qi)/\(a8 C dU).p b Vm)
def O9(C:Addr):Sp:=Su (Bo×Nat×QC) (λ(b,s,a)=>[a8 C b,aI s,bw a]) (λ(b,s,a)=>QE/\aH b/\QP a 1900) (λ(b,s,a)=>aB (QV (40<Qx eE (ae b s++a))))
def O_(C:Addr):Sp:=fM (ι:=Addr×Bo×Nat×aw) (λ(ob,b,s,x)=>[ck C ob b,aI s,aX x]) (λ(_,b,s,_)=>QE/\aH b) (λ(ob,b,s,x)H v a=>v=QL (if x∈ae b s then 0 else 1)/\bu kD H a/\(a8 C (da b s x)).p a Wl)
def O'(C:Addr):Sp:=fM (ι:=Addr×Bo×Nat×Nat×aw×aw) (Qho [ck C ob b,aI s,aI t,aX x,aX y]) (λ(_,b,s,t,x,y)=>QE/\Q2/\s≠t/\aH b/\x∈ae b s/\y∈ae b t) (λ(ob,b,s,t,x,y)H v a=>v=QL (if b6 b s t x y=true then 0 else 1)/\bu kD H a/\(a8 C (gP b (bR s t x y))).p a Wl)
def G2(C:Addr):Sp:=fM (ι:=Addr×Bo×Nat×Nat×aw×aw) (Qho [ck C ob b,aI s,aI t,aX x,aX y]) (λ(_,b,s,t,x,y)=>QE/\Q2/\s≠t/\aH b/\Sq b s t x y) (λ(ob,b,s,t,x,y)H v a=>v= .a9/\bu kD H a/\(a8 C (jV b (bR s t x y))).p a Wl)
def Pa(C:Addr):Sp:=fM (ι:=Addr×Bo×Nat×aw) (λ(ob,b,s,x)=>[ck C ob b,aI s,aX x]) (λ(_,b,s,x)=>QE/\aH b/\x∈ae b s) (λ(ob,b,s,x)H v a=>v= .a9/\bu kD H a/\(a8 C (hQ b s x)).p a Wl)
def wX(hs:QE):ae dU s=[]:=by
 simp at hs;rcases hs with rfl|rfl|rfl<;>rfl
def ajg:gH EE dU:=⟨λs hs=>by rw[wX hs];exact .refl _,λs hs t ht x hx=>by rw[wX hs]at hx;cases hx⟩
def ajh:aH dU:=by
 refine⟨rfl,λs hs=>by rw[wX hs];exact Iy,λs hs=>by rw[wX hs];exact cG _,λs hs x hx=>?_,λp a=>?_,Iy⟩
 ·rw[wX hs]at hx;cases hx
 ·cases a
def Pb(p l:Addr)(g:Qa9 Int):Qaq
 | .ob=>p
 | .lk=>l
 | .tg s=>g s
 | .sn _ _=>0
 | .eq _ _ _=>0
def aji{g}(T:kg H j l g)(k:H p=Zs C f []):dG C (upd j p (.ins C f (sQ l))) (Pb p l g) EE:=by
 have h:l≠p:=λe=>by have:=T.nl;rw[e,k]at this;cases this
 have i:QaG (g s≠p):=λs hs e=>by have:=T.ng s hs;rw[e,k]at this;cases this
 refine⟨Qe f aC,by show upd _ p _ l=_;rw[ax h];exact T.hl,λs hs=>by show upd _ p _ (g s)=_;rw[ax (i s hs)];exact T.hg s hs,λs hs x hx=>(by cases hx),λs hs x hx=>(by cases hx),λa b d c e=>?_⟩
 ·cases a with
  |ob=>cases b with
   |ob=>rfl
   |lk=>exact Rk Y6 h
   |tg s=>exact Rk Y6 (i s c)
   |sn s x=>exact nomatch c.2
   |eq s x t=>exact nomatch c.2.1
  |lk=>cases b with
   |ob=>exact Rk e h
   |lk=>rfl
   |tg s=>exact Rk Y6 (T.gl s c)
   |sn s x=>exact nomatch c.2
   |eq s x t=>exact nomatch c.2.1
  |tg s=>cases b with
   |ob=>exact Rk e (i s d)
   |lk=>exact Rk e (T.gl s d)
   |tg t=>rw[T.inj s d t c e]
   |sn s x=>exact nomatch c.2
   |eq s x t=>exact nomatch c.2.1
  |sn s x=>exact nomatch d.2
  |eq s x t=>exact nomatch d.2.1
section
variable{P:aO}{w:aA}{K:au}{mg:QQ}{base:Heap}{f C:Addr}{fd:b_}
def ajj(F:aP K Qd6 "Book.__init__" zJ f fd)(T:j4 K mg C):ay P w K mg base az 1 f fd [RR] (O8 C):=by
 refine U5 f_ F afE _ (.o .e) (λq A outer r H E⟨p,b⟩t _=>?_);obtain⟨u,x,z,B,D,G,J,L,M,N,q1,O,Q,i⟩:=aiU;rw[i];refine aiW (pv 0) (λR S c l g U h=>?_);obtain⟨y,j,v,rfl,rfl,d⟩:=c.sl 0 _ rfl;exact⟨_,j,p,C,b,[],rfl,h.same _ _ (c.same _ _ d),T.cl,T.nL,QD,λm s I=>fb m s _ _ _ I (Qba (λa o e n=>by rw[ax n];exact h.same _ _ (c.same _ _ e)) (RF (Pb p l g) EE (aji h (c.same _ _ d)) ajg))⟩
def ajk:aY Qec Qec (aK GY):=QF
def ajl(F:aP K Qg1 "Book.overfull_with" GY f fd)(T:j4 K mg C)(J:Top mg)(hM:cb mg "MOST_SENSES" 40):ay P w K mg base az 1 f fd Qec (O9 C):=by
 refine R4 ajk (.n ag (.o .e)) (λcdv A outer sh H E⟨b,s,a⟩U⟨hs,hb,hl⟩=>?_);have L:=U.units;refine aU ((afM (i:=(Qx eE (ae b s++a))) (cC (gA LA QB J.len gX (bb (ia (aeq (zU L)) (lT (aeo (tj L)) QB J.set QcL (bb a7 bh)) (lT (vJ rfl (tj L)) QB J.set QcL (bb (pv 2) bh))) bh)) (λM σ H1 Q c q=>wV c (Vc (wd U.units (wc T.cl T.nL (aa 0)) (aa 1) hs) (EO hs)) (λv1 N s1 h1=>?_))) (ba hM)).eq (by congr 1;simp;omega)) (Qgd s');have O:=Q0;obtain⟨d,u,l,rfl,hd,r,hp⟩:=(qM (ae b s)).m (dM O.same) h1;obtain⟨_,e2,v2,rfl,h2⟩:=O.sl 2 _ rfl;obtain⟨t2,R,rfl,l2,k2,m2⟩:=E6 h2
 have hf:=hb.bc s hs;have n1:=by have:=YG r;rw[ak,ak,hp.length_eq,ak]at this;exact this
 have n2:=by have:=YG m2;simpa using this
 have kp:∀ {V M:Hp}(s:af V M){zs:List (Nk×Addr)},(U_ (bV V z.1 z.2))->U_ (bV M z.1 z.2):=λs _ h z W=>QY (h z W) (λb a e=>s _ _ e);refine⟨d,u,rfl,hd,Qa,λg j t B r1=>?_⟩;have s2:=Qaz O (Qhb (fX w g j) RK t);refine⟨_,e2,t2,R,rfl,Q6 (s2 _ _ l2),kp s2 k2,Qa,λp D G X r2=>?_⟩;have Y:=cZ aC G;have Z:∀ {y:List (Nk×Addr)}{z:List Nk}{n:Nat},(y.map (·.1)).Nodup->(∀k,k∈y.map (·.1)↔k∈z)->z.length<=n->y.length<=n:=λ{y z n}nd h W=>by
  have:=Qf3 (λk r=>(h k).mp r);rw[ak]at this;omega
 have b1:SS j:=Z B.nd r1 QdJ;have b2:QP D 1900:=Z X.nd r2 QdJ;refine⟨g,p,j,D,rfl,rfl,Y,⟨by rw[ax Y];exact B.at_,kp (TL G) B.key,B.nd⟩,X,Qa,λS I hp3 S3 r3=>RF S I S3 ?_⟩;refine q _ _ (Qcv (Vu (Vu (TL t) ((TL t).free G)) ((Vu (TL t) ((TL t).free G)).free hp3))) ?_;have hlen:=by
  have sf:=pb (ae b s++a);have:=MB S3.nd (ee sf.1) (λk r=>?_) (Sv ?_)
  ·rw[ak]at this;exact this
  ·rcases(r3 k).mp r with h|h
   ·grind
   ·grind
  ·grind
 rw[hlen];rfl
def ajm:aY W_ W_ (aK wR):=QF
def ajn(F:aP K "add_sense" "Book.add_sense" wR f fd)(T:j4 K mg C)(M:gG P w K mg base C 1 Qd0 W_ (zT C)):ay P w K mg base az 2 f fd W_ (O_ C):=by
 refine U5 f_ F ajm _ (.o (.n ag (.n cK .e))) (λV A outer W H E⟨ob,b,s,x⟩i⟨hs,j⟩=>?_);obtain⟨X,Y,Z,z3,z4,z5,z6,z7,z8,z9,z10,z11,z12,z13,z14,z15,z16,I⟩:=aiV;rw[I];refine wW rfl (λf B J bk r=>?_);subst J;refine cW (f6 (cB T.cl M i _ hs ((aa 0).imp (λ_ _ h=>OT r h)) (xa (aa 1) (xa (aa 2) ao)))) Qed (λh=>c7 ?_)
 ·have h:=Yz h;exact aU ai (λv t a k=>⟨by rw[if_pos h];exact k,.of a,by rw[GK j hs h];exact⟨f,B,rfl,bk.keep a,r⟩⟩)
 ·have h:=Qbe h;refine aiX (zU i.units) (λσ H1 c l g H2 z=>?_);have m:=QY c z.same;refine wV m (tY i.units (tX T.cl T.nL (aa 0)) (aa 1) hs) (λv H3 s3 L=>wV (QY m s3) (aa 2) (λy N D O=>?_));obtain⟨rfl,_⟩:=L;have d:=QY (QY m s3) D;obtain⟨tt,rfl,Q⟩:=g9 d O;have hd:=(bk.keep d.same).tg s (t3 hs);have hlen:SS (eF f B s):=by
   unfold eF;rw[ak,Qdw (r.bA s hs),ak];exact j.bc s hs
  refine Uu (oR.t hd Q Z') ?_;have G:=A0 (kvs':=putK (eF f B s) (bC (toS x)) Uj) hd;exact Bl.at (aU ai (λv t a k=>⟨by rw[if_neg h];exact k,Va d.same (G.trans (.of a)),Tt (jB f s _ l g) (QY (aiY bk ((QY z (s3.trans D)).back R8) (t3 hs) (λq=>h ((r.has hs).mp q))) a) (ai3 r j hs h)⟩)) (d.gR G (.u (.u Ry)))
def ajo:aY [RR,"s","t","x","y"] [RR,"s","t","x","y"] (aK GZ):=QF
def ajp(F:aP K "add_pair" "Book.add_pair" GZ f fd)(T:j4 K mg C)(M:gG P w K mg base C 2 "paired" [RR,"s","t","x","y"] (EU C)):ay P w K mg base az 3 f fd [RR,"s","t","x","y"] (O' C):=by
 refine U5 f_ F ajo (Qho [.v Qb (ck C ob b),Rr,RT,Xw,Qc1 y]) (.o (.n ag (.n ag (.n cK (.n cK .e))))) (λV A outer W H E⟨ob,b,s,t,x,y⟩a⟨hs,ht,aq,c,hx,g⟩=>?_);refine wW rfl (λf B N bk r=>?_);subst N;refine cW (f6 (cB T.cl M a (b,s,t,x,y) (Qh hs ht c) ((aa 0).imp (λ_ _ h=>OT r h)) (xa (aa 1) (xa (aa 2) (xa (aa 3) (xa (aa 4) ao)))))) Qed (λh=>c7 ?_)
 ·refine aU ai (λv G d j=>Rv ?_ (.of d))
  ·rw[(V9)];exact j
  ·have e:gP b (bR s t x y)=b:=by
    unfold gP i9;rw[Qp (show b.pairs.contains (bR s t x y)=true from h)]
   show(a8 C (gP b (bR s t x y))).p G _;rw[e];exact RF f B (bk.keep d) r
 ·have i:¬Sq b s t x y:=by rw[h];decide
  have k:=(r.has hs).mpr hx;have l:=(r.has ht).mpr g;have len:∀ {u v:Nat}{z:aw},W7->To v->z∈ae b u->Qn (B.eqs u (toS z) v)<1000:=λ{u v z}O hv Q=>by
   rw[Qdw (r.eqs u O v hv z Q),ak];have:=Zk c.hH u z hv;omega
  have R:¬(t=QW s/\toS y=toS x/\s=QW t):=λq=>AY aq q.2.2;have m:(B.gQ s (toS x) t (B.eqs s (toS x) t++[toS y])).eqs t (toS y) s=B.eqs t (toS y) s:=Qs R;refine O6 Sw (A2 Sw (A1 Sw (tY Sw (tX T.cl T.nL (aa 0)) (aa 1) hs) (aa 3) hs k) (aa 2) hs k ht) (aa 4) hs ht k (λq=>i ((r.AZ c hs ht hx).mp q)) (len hs ht hx) (G':=[.v Qb (iw C f (B.gQ s (toS x) t (B.eqs s (toS x) t++[toS y])) .ob),Rr,RT,Xw,Qc1 y]) (λI J D=>QbA (by exact D) (.n ag (.n ag (.n cK (.n cK .nil))))) (λI J s1 S D=>?_)
  refine O6 Sw (A2 Sw (A1 Sw (tY Sw (tX (Bb:=B.gQ s (toS x) t (B.eqs s (toS x) t++[toS y])) T.cl T.nL (aa 0)) (aa 2) ht) (aa 4) ht l) (aa 1) ht l hs) (aa 3) ht hs l (by rw[m];exact λq=>i (by rw[mf aq];exact(r.AZ c ht hs g).mp q)) (by rw[m];exact len ht hs g) (λI J D=> .u (.u (.u (.u Ry)))) (λX Y s3 U L=>?_)
  rw[m]at L;refine aU ai (λv G d j=>Rv ?_ (Va s1 (QH S (Va s3 (QH U (.of d))))))
  ·show v=QL (if b6 b s t x y=true then 0 else 1);rw[Qs i];exact j
  ·exact Tt f (QY L d) (ai5 r c hs ht aq hx g i)
def ajq:aY [RR,"s","t","x","y"] [RR,"s","t","x","y"] (aK G0):=QF
def ajr(F:aP K V3 "Book.part" G0 f fd)(T:j4 K mg C):ay P w K mg base az 1 f fd [RR,"s","t","x","y"] (G2 C):=by
 refine U5 f_ F ajq _ (.o (.n ag (.n ag (.n cK (.n cK .e))))) (λM A outer N H E⟨ob,b,s,t,x,y⟩a⟨hs,ht,aq,d,g⟩=>wW rfl (λf B G bk r=>?_));subst G;obtain⟨hx,k⟩:=j' d g;have h:=(r.has hs).mpr hx;have i:=(r.has ht).mpr k;have l:(B.gQ s (toS x) t (XI (B.eqs s (toS x) t) (z≠toS y))).eqs t _ s=B.eqs t (toS y) s:=Qbx (AY aq q.2.2);refine O7 Sw (A2 Sw (A1 Sw (tY Sw (tX T.cl T.nL (aa 0)) (aa 1) hs) (aa 3) hs h) (aa 2) hs h ht) (aa 4) hs ht h ((r.AZ d hs ht hx).mpr g) (G':=[.v Qb (iw C f (B.gQ s (toS x) t (XI (B.eqs s (toS x) t) (z≠toS y))) .ob),Rr,RT,Xw,Qc1 y]) (λm p j=>QbA (by exact j) (.n ag (.n ag (.n cK (.n cK .nil))))) (λm p s1 J j=>O7 Sw (A2 Sw (A1 Sw (tY Sw (tX (Bb:=B.gQ s (toS x) t (XI (B.eqs s (toS x) t) (z≠toS y))) T.cl T.nL (aa 0)) (aa 2) ht) (aa 4) ht i) (aa 1) ht i hs) (aa 3) ht hs i (by rw[l];exact(r.AZ d ht hs k).mpr (by rw[<-mf aq];exact g)) (λm p j=> .u (.u (.u (.u Ry)))) (λO Q s3 L D=>?_) (Rn rfl rfl rfl)) (Rn rfl rfl rfl)
 rw[l]at D;exact bW (λR S c=>⟨rfl,Va s1 (QH J (Va s3 (QH L (.of R8)))),f,_,rfl,QY D R8,ai7 r d hs ht aq⟩)
end
end DL
namespace DL
open PySem PySem.Spec L2 NT AT
open PyProof.Rows hiding St
open Vbdhaj(Sense sensesOf equals paired pairOf)
def parts(d:Bo)(s t:Nat)(x:aw)(l:QC):Bo:=l.foldl (λd y=>jV d (bR s t x y)) d
def G3:∀l{d:Bo},aH d->aH (parts d s t x l)
 |[],_,h=>h
 |y::l,d,h=>G3 l (AV h _)
def Pc(u:Nat):∀l d,ae (parts d s t x l) u=ae d u
 |[],_=>rfl
 |y::l,d=>Pc u l _
def Pd(aq:s≠t):∀l d,hQ (parts d s t x l) s x=hQ d s x
 |[],_=>rfl
 |y::l,d=>QH (Pd aq l _) (aiL aq)
def G4(aq:s≠t)(a:s≠v):∀l d,Sq (parts d s t x l) s v x z↔ ¬(v=t/\z∈l)/\Sq d s v x z
 |[],d=>by simp[parts]
 |y::l,d=>by
  show Sq (parts _ s t x l) s v x z↔_;rw[G4 aq a l,GN aq a,kn];constructor
  ·grind
  ·grind
def tZ(d:Bo)(s:Nat)(x:aw)(t:Nat):Bo:=parts d s t x (av d s t x)
def mB(d:Bo)(s:Nat)(x:aw)(a:QU):Bo:=a.foldl (λd t=>tZ d s x t) d
def ajs{d:Bo}(hd:aH d):tZ d s x s=d:=by
 unfold tZ;have:av d s s x=[]:=uu.mpr (λy _ h=>qR hd h rfl);rw[this];rfl
structure Dr(d e:Bo)(s:Nat)(x:aw)(ts:QU):Prop where
 ok:aH e
 sn:∀u,ae e u=ae d u
 no:hQ e s x=hQ d s x
 out:∀v z,Sq e s v x z->Sq d s v x z/\v∉ts
def ajt{d:Bo}(hd:aH d)(s:Nat)(x:aw)(t:Nat):Dr d (tZ d s x t) s x [t]:=by
 by_cases h:s=t
 ·subst h;rw[ajs hd];exact Wb hd Vn (λv z q=>Qe q (λe=>qR hd q (ku.mp e).symm))
 ·have ok:aH (tZ d s x t):=G3 _ hd;refine⟨ok,λu=>Pc u _ _,Pd h _ _,λv z q=>?_⟩;have a:=(G4 h (qR ok q) _ _).mp q;refine Qe a.2 (λe=>a.1 ⟨ku.mp e,?_⟩);have e:=ku.mp e;subst e;exact(d3 hd).mpr a.2
def A4:∀c{d:Bo},aH d->Dr d (mB d s x c) s x c
 |[],d,hd=>Wb hd Vn (λv z q=>Z2 q)
 |t::c,d,hd=>by
  have a:=ajt hd s x t;have b:=A4 (s:=s) (x:=x) c a.ok;refine⟨b.ok,λu=>XE b.sn u (a.sn u),b.no.trans a.no,λv z q=>?_⟩;obtain⟨q1,f⟩:=b.out v z q;obtain⟨g,h⟩:=a.out v z q1;exact Qe g (λe=>(RA e).elim (λe=>h QdM) f)
def aju{d:Bo}(hd:aH d)(hv:To v):av (mB d s x dY) s v x=[]:=by
 exact uu.mpr (λy _ h=>((A4 (s:=s) (x:=x) dY hd).out v y h).2 hv)
def ajv(d:Bo)(s:Nat)(x:aw)(a:QU)(t:Nat):mB d s x (a++[t])=tZ (mB d s x a) s x t:=by unfold mB;rw[iD];rfl
def ajw(d:Bo)(s t:Nat)(x:aw)(l:QC)(y:aw):parts d s t x (l++[y])=jV (parts d s t x l) (bR s t x y):=by unfold parts;rw[iD];rfl
section
variable{P:aO}{w:aA}{K:au}{mg:QQ}{base:Heap}{f C:Addr}{fd:b_}
def G5:aY [RR,"s","x","t","y"] W_ (aK G1):=QF
def ajx(F:aP K "drop" "Book.drop" G1 f fd)(T:j4 K mg C)(V:qE K mg "TONGUES" [1,2,3])(M:gG P w K mg base C 1 XO [RR,"s","t","x"] (ET C))(M2:gG P w K mg base C 1 V3 [RR,"s","t","x","y"] (G2 C)):ay P w K mg base az 2 f fd W_ (Pa C):=by
 refine U5 f_ F G5 (λ(ob,b,s,x)=>[.v Qb (ck C ob b),Rr,Xw,.u,.u]) (.o (.n ag (.n cK (.u (.u .e))))) (λcdv A outer sh H E⟨ob,b,s,x⟩h⟨hs,z,hx⟩=>aja (ns:=dY) 3 (λ_ L=>bu kD H L) (λk=>[.v Qb (ck C ob (mB b s x (dY.take k))),Rr,Xw,.u,.u]) rfl V (bS G5.nd rfl QK) (λ_ _ _ q D=>by cases D) (λg a c=>Wf ((ck C ob b).m c.off hv) (.n ag (.n cK (.u Ry)))) (λa s1=> .of s1) (λk t L N O rk W=>?_) (λX G=>?_))
 ·have dr:=A4 (s:=s) (x:=x) (dY.take k) z;have ht:=bL O;have l:x∈ae (mB b s x (dY.take k)) s:=by rw[dr.sn];exact hx
  generalize hd:mB b s x (dY.take k)=d at dr l;refine A3 4 (λ_ Q=>bu kD H Q) (λj=>[.v Qb (ck C ob (parts d s t x (Rf (av d s t x) j))),Rr,Xw,RT,.u]) rfl (cB T.cl M h (d,s,t,x) ⟨hs,ht,l,dr.ok⟩ (Vc (aa 0) mx) (xa (aa 1) (xa (aa 3) (xa (aa 2) ao)))) (λ_=>mr cK) (bS G5.nd rfl QK) (λ_ _ _ q D=>by cases D) (λg a c=>Wf ((ck C ob d).m c.off hv) (.n ag (.n cK (.n ag Ry)))) (λa s1=>rk.trans (.of s1)) (λj y Q N2 R Y Z=>?_) (λX G=>?_)
  ·have S:=(d3 dr.ok).mp (bL R);have aq:=qR dr.ok S;have hny:=λq=>by
    have nd:=GW (s:=s) (x:=x) dr.ok ht;rw[<-n8 j (av d s t x),je]at nd;have:y∈(av d s t x).drop j:=bL (i:=0) Qm;exact nd.2.2 y q y this rfl
   have hp2:=(G4 aq aq _ _).mpr ⟨λq=>hny q.2,S⟩;refine tT (pF T.cl M2 h (ob,_,s,t,x,y) ⟨hs,ht,aq,G3 _ dr.ok,hp2⟩ (aa 0) (xa (aa 1) (xa (aa 3) (xa (aa 2) (xa (aa 4) ao))))) (λg a v p c hM=>?_);obtain⟨rfl,J,hbk⟩:=hM;refine λpins s' I=>fb pins s' g p _ I (Z g p (by exact Y.trans ((bu.of c.same).trans J)) (by exact((bu.of c.same).trans J).dl) (by refine c.gR J (.v (λv hv=>⟨hv.1,?_⟩) (.n ag (.n cK (.n ag (.u .nil)))));rw[fK,hv.1,take_snoc R,ajw];exact hbk))
  ·rw[cp];refine bW (λg a c=>W g a (by exact G.trans (.of c.same)) (by refine c.gR bu.refl (.v (λv hv=>?_) (.n ag (.n cK (.u (.u .nil)))));rw[fK,take_snoc O,ajv,hd];exact(ck C ob _).m c.same hv))
 ·have dr:=A4 (s:=s) (x:=x) dY z;have l:x∈ae (mB b s x dY) s:=by rw[dr.sn];exact hx
  refine wW rfl (λf B hf bk r=>?_);subst hf;refine ai9 h.units (tY h.units (tX T.cl T.nL (aa 0)) (aa 1) hs) (aa 2) hs ((r.has hs).mpr l) (λa p U=> .u (.u (.u (.u Ry)))) (λa p s1 k1 U=>bW (λg H5 c=>⟨rfl,G.trans (Va s1 (k1.trans (.of R8))),f,_,rfl,QY U R8,?_⟩)) (Rn rfl rfl rfl);have r:gH B (mB b s x dY):=r;have:=ai8 r dr.ok hs (λv hv=>aju z hv);rw[dr.no]at this;exact this
end
end DL
namespace DL
open Vbdhaj(lessText)
def wY(x:QU):iN x x=Qb:=by rw[<-pa];exact NT.sI _
def Pe{x y z:QU}(a:Rm iN x y)(b:Rm iN y z):Rm iN x z:=by
 rw[<-pa]at a b⊢;exact NT.vD _ _ _ a b
def ajy{x y:QU}(h:x≠y):Rm iN x y\/Rm iN y x:=by
 rw[<-pa,<-pa];exact NT.vE _ _ (NT.d_ (Ff _)).1 (NT.d_ (Ff _)).1 (AT.zH _ _) (λe=>h (k_ (AT.oW e)))
end DL
namespace DL
open Vbdhaj(Sense less Found better putFound)
def ajz(f:fk):yA f f=Qb:=by
 unfold yA;simp[wk]
def scale(hd:0<d)(g:a*d<c*b)(h:c*f<=e*d)(i:0<f):a*f<e*b:=by
 have j:=by
  have:=xM g i;rw[mJ]at this;exact this
 have k:c*b*f<=e*b*d:=by
  have:=Nat.mul_le_mul_right b h;rw[mJ c b f,mJ e b d];exact this
 exact xN (d5 j k)
def ajA(hd:0<d)(g:a*d<=c*b)(h:c*f<e*d)(i:0<b):a*f<e*b:=by
 have j:=by
  have:=Nat.mul_le_mul_right f g;rw[mJ]at this;exact this
 have k:c*b*f<e*b*d:=by
  have:=xM h i;rw[mJ c b f,mJ e b d];exact this
 exact xN (BZ j k)
def ajB(hd:0<d)(g:a*d=c*b)(h:c*f=e*d):a*f=e*b:=by
 refine Nat.eq_of_mul_eq_mul_right hd ?_;calc a*f*d=a*d*f:=mJ ..
  _=c*b*f:=by rw[g]
  _=c*f*b:=mJ ..
  _=e*d*b:=by rw[h]
  _=e*b*d:=mJ ..
def A5:Zr f g↔QbR*Tp<Ym*V2\/(Ym*V2=QbR*Tp/\YC f.y g.y):=by
 unfold yA;simp
def Pf(pf:0<Tp)(pg:0<V2)(c:0<h.score.2)(a:Zr f g)(b:Zr g h):Zr f h:=by
 rw[A5]at a b⊢;rcases a with a|⟨a,l1⟩<;>rcases b with b|⟨b,l2⟩
 ·exact Qq (scale pg b (oe a) pf)
 ·exact Qq (ajA pg (rG b.symm) a c)
 ·exact Qq (scale pg b (rG a.symm) pf)
 ·exact WA (ajB pg b.symm a.symm).symm (Aj l1 l2)
def ajC(h:f.y≠g.y):Zr f g\/Zr g f:=by
 rw[A5,A5];rcases B2 _ _ with q|q|q
 ·exact Qay q
 ·rcases M_ h with l|l
  ·exact Qq (Qy (Qe q l))
  ·grind
 ·exact Qdr q
def G6(f:fk):∀l,(kM f l).Perm (f::l)
 |[]=> .refl _
 |g::r=>by
  unfold kM;split
  ·exact Rx rC g (G6 f r) (.swap ..)
  ·exact .refl _
def Pg(pf:0<Tp):∀ {l:List fk},(∀g∈l,0<V2/\f.y≠g.y)->UL l (λg h=>Zr g h)->UL (kM f l) (λg h=>Zr g h)
 |[],_,_=>by simp[kM]
 |g::r,b,e=>by
  have c:=kr.mp e;unfold kM;split
  ·rename_i d;refine kr.mpr ⟨λh a=>?_,Pg pf (λh a=>b h (bP _ a)) c.2⟩;rcases RA (X_ (G6 f r) a)with rfl|a
   ·exact d
   ·exact c.1 h a
  ·rename_i d;have i:=(ajC (b g Ru).2).resolve_right d;refine kr.mpr ⟨λh a=>?_,e⟩;rcases RA a with rfl|a
   ·exact i
   ·exact Pf pf (b g Ru).1 (b h (bP _ a)).1 i (c.1 h a)
def t4:∀l:List fk,(l.foldr kM []).Perm l
 |[]=> .refl _
 |f::l=>Rx G6 f _ (rC f (t4 l))
def Ph:∀ {l:List fk},(∀g∈l,0<V2)->S7 (R1 (λg=>g.y))->UL (l.foldr kM []) (λg h=>Zr g h)
 |[],_,_=> .nil
 |f::l,a,b=>by
  rw[cg,gm]at b;refine Pg (a f Ru) (YL ?_) (Ph (YL (a g (bP _ hg))) b.2);have hg:=X_ (t4 l) hg;exact⟨a g (bP _ hg),λe=>b.1 (e▸cQ.mpr ⟨g,hg,rfl⟩)⟩
def ajD{l m:QR fk}(b:∀g∈l,0<V2)(e:S7 (R1 (λg=>g.y)))(pm:m.Perm l)(f:UL m (λg h=>Zr g h)):m=l.foldr kM []:=by
 refine(pm.trans (t4 l).symm).eq_of_pairwise (λa c i j q1 k=>?_) f (Ph b e);have d:=b a (Qev i);have:=Pf d (b c (X_ (t4 l) j)) d q1 k;rw[ajz]at this;cases this
def fN(c:Nat)(f:fk):Nat:=Ym*c/Tp
def G7(d:0<c)(e:Tp∣c)(hg:V2∣c)(pf:0<Tp)(pg:0<V2):fN c g<fN c f↔QbR*Tp<Ym*V2:=by
 obtain⟨u,i⟩:=e;obtain⟨v,hv⟩:=hg;have j:fN c f=Ym*u:=by
  unfold fN;rw[i,Nat.mul_left_comm,Iz _ pf]
 have k:fN c g=QbR*v:=by
  unfold fN;rw[hv,Nat.mul_left_comm,Iz _ pg]
 rw[j,k];have a:QbR*v*(Tp*V2)=QbR*Tp*c:=by
  grind
 have b:Ym*u*(Tp*V2)=Ym*V2*c:=by
  grind
 constructor
 ·intro h;have:=xM h (Nat.mul_pos pf pg);rw[a,b]at this;exact xN this
 ·intro h;have:=xM h d;rw[<-a,<-b]at this;exact xN this
def ajE(a:0<c)(b:Tp∣c)(hg:V2∣c)(pf:0<Tp)(pg:0<V2)(h:fN c f=fN c g):Ym*V2=QbR*Tp:=by
 rcases B2 _ _ with q|q|q
 ·have:=(G7 a hg b pg pf).mpr q;omega
 ·exact q
 ·have:=(G7 a b hg pf pg).mpr q;omega
def ajF(a:0<c)(b:Tp∣c)(hg:V2∣c)(pf:0<Tp)(pg:0<V2)(h:fN c g<fN c f\/(fN c f=fN c g/\YC f.y g.y)):Zr f g:=by
 rw[A5];rcases h with h|⟨h,l⟩
 ·exact Qq ((G7 a b hg pf pg).mp h)
 ·exact WA (ajE a b hg pf pg h) l
section
variable{α κ:Type}[Qbl α][Qbl κ]
def gc(f:α->κ)(xs:Qa8):TU κ Qa8:=xs.filterMap (λx=>if(xs.filter λz=>f z==f x).head?=some x then some (f x,xs.filter λz=>f z==f x)else none)
def q4(k:κ)(x:α)(gs:TU κ Qa8):TU κ Qa8:=if Qv (gs.any (λg=>g.1==k)) then gs.map (λg=>(g.1,if g.1=k then g.2++[x]else g.2))else gs++[(k,[x])]
def wZ{a b:Type}{f g:a->Ri b}:∀ {l:List a},(∀x∈l,f x=g x)->TV l f=TV l g
 |[],_=>rfl
 |x::l,h=>by rw[lx,lx,h x Ru,wZ (λy c=>h y (bP _ c))]
def Pj(f:α->κ)(xs:Qa8)(k:κ):Qv ((gc f xs).any (λg=>g.1==k))↔ ∃z∈xs,f z=k:=by
 rw[kv];constructor
 ·rintro⟨g,hg,h⟩;obtain⟨x,hx,c⟩:=gk.mp hg;split at c
  ·grind
  ·cases c
 ·rintro⟨z,b,rfl⟩;cases e:(Qbr (λy=>f y==f z))with
  |nil=>exact Rk b (by intro b;have:=uu.mp e z b;simp at this)
  |cons y r=>
   have d:y∈Qbr (λy=>f y==f z):=by grind
   obtain⟨i,a⟩:=Zn d;have a:=by simpa using a
   refine⟨(f y,Qbr (λu=>f u==f y)),gk.mpr (Rv y i),QaM⟩;rw[Qp (by rw[a,e];rfl)]
def ajG(f:α->κ)(hx:x∉xs):gc f (xs++[x])=q4 (f x) x (gc f xs):=by
 have one:∀z∈xs,(if((xs++[x]).filter _).head?=some z then some (f z,(xs++[x]).filter λu=>f u==f z)else none)=QG (if(xs.filter λu=>f u==f z).head?=some z then some (f z,xs.filter λu=>f u==f z)else none) (λg=>(g.1,if g.1=f x then g.2++[x]else g.2)):=Vf (by
  have c:(Sd (xs++[x]) (λu=>f u==f z)).head?=(Qbr (λu=>f u==f z)).head?:=by
   rw[n_];cases e:(Qbr _)with
   |nil=>exact Rk a (by intro a;have:=uu.mp e z a;simp at this)
   |cons y r=>rfl
  rw[c];split
  ·grind
  ·rfl)
 unfold q4;by_cases b:Qv ((gc f xs).any (λg=>g.1==f x))
 ·rw[Qp b];obtain⟨z,a,e⟩:=(Pj f xs (f x)).mp b;unfold gc;rw[n9,wZ one];have d: TV [x] (λz=>if((xs++[x]).filter λu=>f u==f z).head?=some z then some (f z,(xs++[x]).filter λu=>f u==f z)else none)=[]:=by
   rw[lx];have:(Sd (xs++[x]) (λu=>f u==f x)).head?≠Qz:=by
    cases h:(Qbr (λu=>f u==f x))with
    |nil=>grind
    |cons y r=>
     grind
   rw[Qs this];rfl
  rw[d,dR,<-List.map_filterMap]
 ·rw[Qs b];have i:=λz a e=>b (TZ (Pj f xs (f x)).mpr z a e);have two:∀z∈xs,(if((xs++[x]).filter λu=>f u==f z).head?=some z then some (f z,(xs++[x]).filter λu=>f u==f z)else none)=(if(xs.filter λu=>f u==f z).head?=some z then some (f z,xs.filter λu=>f u==f z)else none):=Vf (by
   grind)
  unfold gc;rw[n9,wZ two];congr 1
  have e:Sd (xs++[x]) (λu=>f u==f x)=[x]:=by
   simp_all
  rw[lx,e,Qp (show [x].head?=some x from rfl)];rfl
def ajH(f:α->κ)(xs:Qa8):Sd (QG (gc f xs) (λg=>g.2)) (λl=>QV (1<QT))=xs.filterMap (λx=>if(xs.filter λz=>f z==f x).head?=some x/\2<=(xs.filter λz=>f z==f x).length then some (xs.filter λz=>f z==f x)else none):=by
 unfold gc;rw[List.map_filterMap,List.filter_filterMap];refine wZ (λx _=>?_);by_cases h:(Qbr (λz=>f z==f x)).head?=Qz
 ·grind
 ·grind
end
open Vbdhaj(lessText sensesOf paired equals friends wordsIn)
abbrev t5(l:Qak):Prop:=UL l (λu v=>Rm iN u v)
def ajI(b:t5 l)(d:t5 m)(h:∀x,x∈l↔x∈m):l=m:=by
 have nd:∀ {l:List _},t5 l->S7 l:=λh=>h.imp (λq e=>by subst e;rw[wY]at q;cases q)
 have p:=(lr (nd b) (nd d)).mpr h;refine p.eq_of_pairwise (λa c _ _ q1 f=>?_) b d;have:=Pe q1 f;rw[wY]at this;cases this
def Pk:∀n(l:List (List Nat)),QP l n->UL l (λu v=>iN v u=Qb)->t5 l.eraseDups/\ ∀w,w∈l.eraseDups↔w∈l
 |_,[],_,_=>Qe Qj (λw=>Qj)
 |0,a::l,h,_=>by simp at h
 |n+1,a::l,hl,h=>by
  have c:=kr.mp h;rw[List.eraseDups_cons];obtain⟨e,f⟩:=Pk n _ (bp (eX _ _) (by simpa using hl)) (c.2.sublist n6);refine⟨kr.mpr ⟨λw g=>?_,e⟩,λw=>Qm⟩
  ·obtain⟨q1,i⟩:=Zn ((f w).mp g)
   rcases ajy QdG with q|q
   ·grind
   ·exact q
def G8{b:Bo}(a:aH b)(hs:QE):t5 (wordsIn b s)/\ ∀w,w∈wordsIn b s↔ ∃x∈ae b s,x.word=w:=by
 have h:UL (QG (ae b s) (λx=>ZQ)) (λu v=>iN v u=Qb):=by
  refine We ((a.cA s hs).imp (λ{x y}h=>?_));cases e:iN _ _ with
  |false=>rfl
  |true=>
   unfold less at h;rw[Bool.or_eq_true,bX]at h;rcases h with h|⟨h,_⟩
   ·have:=Pe h e;rw[wY]at this;cases this
   ·have h:=by simpa using h
    rw[h,wY]at e;cases e
 obtain⟨c,d⟩:=Pk _ _ (aQ _) h;exact Qe c (λw=>XE d w (by rw[cQ]))
def alike(b:Bo)(s t:Nat):Qak:=Sd (wordsIn b s) (λw=>Xb (wordsIn b t) w)
def t6{b:Bo}(a:aH b)(hs:QE)(ht:Q2):t5 (alike b s t)/\ ∀w,w∈alike b s t↔(∃x∈ae b s,x.word=w)/\ ∃y∈ae b t,y.word=w:=by
 refine⟨Xc (G8 a hs).1,λw=>?_⟩;unfold alike;rw[eh,(G8 a hs).2,gj,(G8 a ht).2]
def Pl(b:Bo)(s t:Nat):friends b s t=QG (alike b s t) (λw=>(w,(ae b s).any (λx=>ZQ==w&&(ae b t).any (λy=>y.word==w&&b6 b s t x y)))):=rfl
def ajJ(b:Bo)(s t:Nat)(w:QU):((ae b s).any (λx=>Ro ZQ w&&(av b s t x).any (λy=>Ro y.word w)))=(ae b s).any (λx=>ZQ==w&&(ae b t).any (λy=>y.word==w&&b6 b s t x y)):=by
 congr 1
 funext x
 rw[xA];congr 1
 unfold av;rw[List.any_filter];congr 1
 funext y
 rw[xA,BJ]
end DL
namespace DL
open Vbdhaj(Sense senseOf cutAt wordsOf readLine readLines)
def api(c:Nat)(t:QU):cI c t≠[]:=by
 cases t with
 |nil=>simp[cI]
 |cons x r=>
  unfold cI;split
  ·simp
  ·split<;>simp
def G9(c:Nat):∀t:List Nat,(QG (cI c t) (λl=>QT+1)).sum=Qn t+1
 |[]=>rfl
 |x::r=>by
  have a:=G9 c r;unfold cI;split
  ·simp[];omega
  ·grind
def Pn{t:QU}(h:cz t=Qz):1<=Qn t:=by
 cases t with
 |nil=>
  cases h
 |cons a r=>simp
def Po:∀ {l:List (List Nat)}{r:List aw},l.mapM cz=Qc r->2*Qn r<=Qdt (λl=>QT+1)
 |[],r,h=>by cases h;simp
 |a::l,r,h=>by
  rw[lB]at h;cases c:cz a with
  |none=>rw[c]at h;cases h
  |some b=>
   rw[c]at h;cases hl:l.mapM cz with
   |none=>rw[hl]at h;cases h
   |some d=>
    rw[hl]at h;cases h;have:=Po hl;have e:=Pn c;simp;omega
def Pp:∀t:List Nat,QeC t 58->Qn t=Qx t.takeWhile Qfq+1+Qx (t.dropWhile Qfq).drop 1
 |[],h=>by cases h
 |a::t,h=>by
  by_cases e:a=58
  ·subst e;simp;omega
  ·have b:QeC t 58:=by
    grind
   have:=Pp t b;rw[Il QaL,Im QaL];simp only[dh];omega
def ajK{t:QU}(h:oB t=Xr):2*e.2.length+2<=Qn t+1:=by
 unfold oB at h;dsimp only at h;split at h
 ·rename_i b;have hs:=Pp t b;cases hx:cz _ with
  |none=>rw[hx]at h;cases h
  |some x=>
   rw[hx]at h;have f:=Pn hx;split at h
   ·cases h;simp;omega
   ·cases a:(cI 44 _).mapM cz with
    |none=>rw[a]at h;cases h
    |some l=>
     rw[a]at h;cases h;have d:=Po a;rw[G9]at d;show 2*QT+2<=_;omega
 ·cases h
def G_:∀ {a:List (List Nat)}{k:Nat}{l:List _},kJ k a= .ok l->Qdt (λe=>2*e.2.length+2)<=(QG a (λt=>Qn t+1)).sum
 |[],k,l,h=>by cases h;simp
 |t::a,k,l,h=>by
  unfold kJ at h;split at h
  ·have:=G_ h;simp;omega
  ·split at h
   ·cases h
   ·rename_i e b;split at h
    ·cases h
    ·rename_i r c;cases h;have:=G_ c;have d:=ajK b;simp;omega
def Pq:∀l:List (aw×List aw),Qdt (λe=>2*e.2.length+2)=2*YB l QbH+2*QT
 |[]=>rfl
 |e::l=>by have:=Pq l;simp at this⊢;omega
def ajL{t:QU}(h:kJ k (cI 10 t)= .ok l)(ht:QP t 3000):YB l QbH<=1500/\QP l 1500:=by
 have a:=G_ h;rw[G9,Pq]at a;omega
def kh:Nat->Qak->QbM (Ri (aw×QC))
 |_,[]=>[]
 |k,t::r=>(if wordsOf t=[]then []else [(k,oB t)])++kh (k+1) r
def t7:QbM (Ri (aw×QC))->Except Nat ZF
 |[]=> .ok []
 |(k,none)::_=> Za k
 |(_,some e)::r=>match t7 r with
  | .error k=> Za k
  | .ok l=> .ok (e::l)
def A6:∀(a:List (List Nat))k,kJ k a=t7 (kh k a)
 |[],k=>rfl
 |t::r,k=>by
  unfold kJ kh;split
  ·rw[A6 r];rfl
  ·rw[A6 r];cases oB t with
   |none=>rfl
   |some e=>rfl
def Pt:∀ {l:List _},(∀e∈l,e.2≠none)->t7 l= .ok (TV l QbH)
 |[],_=>rfl
 |(k,none)::l,h=>Wz (h _ Ru)
 |(k,some e)::l,h=>by
  unfold t7;rw[Pt (λe a=>h e (bP _ a))];rfl
def Pu:∀ {l:List _}{i k:Nat},l[i]?=Se k none->(∀e∈l.take i,e.2≠none)->t7 l=Za k
 |[],i,k,h,_=>by simp at h
 |(j,none)::l,i,k,h,a=>by
  cases i with
  |zero=>simp at h;subst h;rfl
  |succ i=>simp_all
 |(j,some e)::l,i,k,h,a=>by
  cases i with
  |zero=>simp at h
  |succ i=>
   unfold t7;rw[Pu Z9 (λe b=>a e Qm)]
def w4{t:QU}(h:cz t=Qz):cM x:=by
 unfold cz at h;split at h
 ·split at h
  ·rename_i a;cases h;exact⟨a,aQ _,YU⟩
  ·cases h
 ·split at h
  ·rename_i a;cases h;exact⟨a.1,by show 1<=_- 48;omega,by show _- 48<=9;omega⟩
  ·cases h
 ·cases h
def Pw:∀ {l:List (List Nat)}{r:List aw},l.mapM cz=Qc r-> ∀x∈r,cM x
 |[],r,h=>by cases h;simp
 |a::l,r,h=>by
  rw[lB]at h;cases c:cz a with
  |none=>rw[c]at h;cases h
  |some b=>
   rw[c]at h;cases hl:l.mapM cz with
   |none=>rw[hl]at h;cases h
   |some d=>
    rw[hl]at h;cases h;intro x hx;rcases RA hx with rfl|hx
    ·exact w4 c
    ·exact Pw hl x hx
def ajM{t:QU}(h:oB t=Xr):cM e.1/\ ∀y∈e.2,cM y:=by
 unfold oB at h;dsimp only at h;split at h
 ·cases hx:cz _ with
  |none=>rw[hx]at h;cases h
  |some x=>
   rw[hx]at h;split at h
   ·cases h;exact Z2 (w4 hx)
   ·cases a:(cI 44 _).mapM cz with
    |none=>rw[a]at h;cases h
    |some l=>rw[a]at h;cases h;exact⟨w4 hx,Pw a⟩
 ·cases h
def Hc:∀ {b:List (List Nat)}{k:Nat}{l:List _},kJ k b= .ok l-> ∀e∈l,cM e.1/\ ∀y∈e.2,cM y
 |[],k,l,h=>by cases h;simp
 |t::b,k,l,h=>by
  unfold kJ at h;split at h
  ·exact Hc h
  ·split at h
   ·cases h
   ·rename_i e c;split at h
    ·cases h
    ·rename_i r d;cases h;intro f a;rcases RA a with rfl|a
     ·exact ajM c
     ·exact Hc d f a
open AT(lY k5 hB oY ig Eo dJ dE)
open Vbdhaj(bytes isText)
def w6(e:aw×QC):AT.cJ×QR AT.cJ:=(toS e.1,e.2.map toS)
def Px:R1 zs=[[45]]↔l=[[45]]:=by
 constructor
 ·intro h;cases l with
  |nil=>cases h
  |cons w r=>
   cases r with
   |nil=>
    have h:=by simpa using h
    rw[k_ (m:=[45]) h]
   |cons a r=>simp at h
 ·rintro rfl;rfl
def ajN(t:QU):lY (zs t)=QG (if wordsOf t=[[45]]then some []else(cI 44 t).mapM cz) QfO:=by
 unfold lY;rw[FW];by_cases h:wordsOf t=[[45]]
 ·rw[Qp (Px.mpr h),(V9)];rfl
 ·rw[Qby (h (Px.mp e)),(Vs)];exact NR t
def ajO{c:Nat}:QW c∈zs t↔c∈t:=by
 constructor
 ·intro h;obtain⟨d,hd,e⟩:=RM h;have:=iB.mp e;rw[<-this];exact hd
 ·exact λh=>XH c h
def Hd:∀t,58∈t->Rf (zs t) ((zs t).idxOf 58)=zs (t.takeWhile Qfq)/\(zs t).drop ((zs t).idxOf 58+1)=zs ((t.dropWhile Qfq).drop 1)
 |[],h=>by cases h
 |a::t,h=>by
  show Rf (QW a::zs t) ((QW a::zs t).idxOf 58)=_/\(QW a::zs t).drop ((QW a::zs t).idxOf 58+1)=_;by_cases e:a=58
  ·subst e;exact Vh
  ·obtain⟨f,g⟩:=Hd t (Qdj (RA h) (λq=>e q.symm));have b:(QW a::zs t).idxOf 58=(zs t).idxOf 58+1:=by
    grind
   rw[b,Il QaL,Im QaL];exact Qe (by rw[List.take_succ_cons,f];rfl) Qm
def ajP(t:QU):k5 (zs t)=Q9 oB t w6:=by
 have a:58∈zs t↔58∈t:=ajO ;unfold k5 oB;by_cases h:58∈t
 ·rw[Qp (a.mpr h),Qp (gj.mpr h),(Hd t h).1,(Hd t h).2,FX,ajN];cases cz _ with
  |none=>rfl
  |some x=>
   split
   ·rfl
   ·cases(cI 44 _).mapM cz with
    |none=>rfl
    |some l=>rfl
 ·grind
def Py:∀a(k:Nat),hB k (QG a zs)=QG (kh k a) (λe=>(QW e.1,e.2.map w6))
 |[],k=>rfl
 |t::r,k=>by
  rw[cg];unfold hB kh;have e:(k+1)=QW (k+1:Nat):=rfl;rw[e,Py r (k+1)];congr 1
  unfold oY;rw[FW];by_cases h:wordsOf t=[]
  ·grind
  ·rw[Qs Z9,(Vs),ajP];rfl
def ajQ(h:X1 m):AT.Ep u=QG (kh 1 (cI 10 (dH u))) (λe=>(QW e.1,e.2.map w6)):=by
 unfold AT.Ep;have a:=FV 10 (dH u);rw[(FY (tJ h).1)]at a;have a:dE 10 u=QG (cI 10 _) zs:=a;rw[a];exact Py _ 1
end DL
namespace DL
open PySem PySem.Spec L2 NT AT
open PyProof.Rows hiding St
open Vbdhaj(Sense sensesOf equals paired pairOf isText bytes cutAt readLines setOf addSense addPair added tooMany countSenses kept)
def ll(e:aw×QC):a6:=aT [aX e.1,bw e.2]
def A7(e:Nat×Ri (aw×QC)):a6:=aT [aI e.1,eH ll e.2]
def Pz:Sp:=el (λu=>[a4 u]) (λu=>Qc6) (λu=>SA (kh 1 (cI 10 (dH u))) A7)
def ajR(s:af H H')(h:oX H (rem H' p) t (e.1,e.2.map w6)):(A7 e).p (cut H H') VN:=by
 obtain⟨⟨v,a,c⟩,d⟩:=h;refine Tt t (k7 s (vP _ _ _ _ a)) (Zm rfl ?_);obtain⟨n,o⟩:=e;cases o with
 |none=>
  rcases c with⟨_,h⟩|⟨b,l,h,_⟩
  ·exact h
  ·cases h
 |some l=>
  rcases c with⟨h,_⟩|⟨b,m,h,rfl,f,g,q1,i,j⟩
  ·cases h
  ·cases h;refine Tt b (k7 s (vP _ _ _ _ q1)) (Zm (hE.mpr (Ss f (F0 s (QY i (vP _ _))))) ?_);have:=N5 s (QY j (vP _ _)) (d _ _ _ _ a q1);have this:(k8 (l.2.map toS)).p _ _:=this;rw[F']at this;exact this
def PB(s:af H H'):∀ {a:List _}{b:List Addr},dj (λt e=>oX H (rem H' p) t e) b (QG a (λe=>(e.1,e.2.map w6)))->bJ (cut H H') (Wy b) (QG a A7)
 |[],_,.nil=> .nil
 |e::a,_,.cons r t=> Rc (ajR s r) (PB s t)
section
variable{P:aO}{w:aA}{K:au}{mg:QQ}{base:Heap}{f C:Addr}{fd:b_}{k:Nat}
def ajS(F:ay P w K mg base az k f fd U3 (LW K)):ay P w K mg base az k f fd U3 Pz:=F.imp (λl H Q E⟨u,ht,h,q⟩=>by
 obtain⟨v,rfl,c⟩:=fF h;obtain⟨a,rfl,d⟩:=qW c;have hl:=(tJ ht).2;refine⟨a,u,rfl,d,Qa,λe p s g i=>q _ e s ?_⟩;obtain⟨m,j,b⟩:=g;rw[ajQ ht]at b;exact Tt p (by rw[eG i];exact j) (PB s b))
end
def w8{b:Type}{P:Q5 (QR b)}(h0:P [])(h:∀l a,P l->P (l++[a]))(l:QR b):P l:=by
 rw[<-List.reverse_reverse l];induction l.reverse with
 |nil=>exact h0
 |cons a r c=>grind
def PD(b:Bo)(s:Nat)(xs:QC)(x:aw):bN b s (xs++[x])=da (bN b s xs) s x:=by unfold bN;rw[iD];rfl
def He{b:Bo}(a:aH b)(hs:QE)(h:YI (x∈ys)):Tj ae (bN b s xs) s (W0 (bN b s ys)):=by
 refine Qca (ee (mw hs hs xs Wn (a.cA s hs))) (λz c=>?_);rw[AW hs hs _ Wn]at c⊢;exact c.imp (λq=>Qe q.1 (h z q.2)) id
def Hg{b:Bo}(c:aH b)(hs:QE):∀ {xs:List aw},(YI (cM x))->SS (ae (bN b s xs) s)->aH (bN b s xs):=by
 intro xs;induction xs using w8 with
 |h0=>exact Xj c
 |h xs x d=>
  intro hg hl;have e:=He c hs (ys:=xs++[x]) (Vf (gg.mpr (Qq a)));have o:=d (Vf (hg z (gg.mpr (Qq a)))) Qa;rw[PD]at hl⊢;exact aiI o hs (hg x Qj) hl
def PF(b:Bo)(s t:Nat)(ps:R_)(p:aw×aw):c9 b s t (ps++[p])=iP (c9 b s t ps) s t p.1 p.2:=by unfold c9;rw[iD];rfl
structure PH(b d:Bo):Prop where
 ok:aH d
 sn:∀u,ae d u=ae b u
def ajT{b:Bo}(d:aH b)(hs:QE)(ht:Q2)(aq:s≠t):∀ {ps:List _},(∀p∈ps,p.1∈ae b s/\p.2∈ae b t)->PH b (c9 b s t ps):=by
 intro ps;induction ps using w8 with
 |h0=>exact λ_=>Qe d Vn
 |h ps p e=>
  intro h;have i:=e (λq f=>h q (gg.mpr (Qq f)));obtain⟨g,j⟩:=h p Qj;have a:p.1∈ae (c9 b s t ps) s:=by rw[i.sn];exact g
  have c:p.2∈ae (c9 b s t ps) t:=by rw[i.sn];exact j
  rw[PF,OK i.ok hs ht a c];exact⟨AU i.ok hs ht aq a c,λu=>QH (GP _ _ u) (i.sn u)⟩
structure Tl(b:Bo)(s t:Nat)(l:ZF):Prop where
 hs:QE
 ht:Q2
 aq:s≠t
 ok:aH b
 gd:∀e∈l,cM e.1/\ ∀y∈e.2,cM y
 bc:QeB l<=1500/\QP l 1500
section
variable{b:Bo}{s t:Nat}{l:ZF}
def Tl.told(T:Tl b s t l)(u:Nat)(a:W7):ae (fB b s t l) u=ae (cX b s t l) u:=by
 have x:=pD S6 SQ l Ue;refine iq (x.cA u a (T.ok.cA u a)) (mw SQ a _ (mv _ Ue s) (mw S6 a _ Ue (T.ok.cA u a))) QcS;rw[x.mem u a,tW S6 SQ a l Ue]
def Tl.one(T:Tl b s t l):ae (cX b s t l) s=ae (bN b s (dc l)) s:=wQ SQ S6 T.aq _ (mv _ Ue s)
def Tl.two(T:Tl b s t l):ae (bN b s (dc l)) t=ae b t:=wQ S6 SQ T.aq.symm _ Ue
def Tl.ajU(T:Tl b s t l):Qx eE (ae b s++dc l)=W0 (fB b s t l):=by
 have f:=pb (ae b s++dc l);rw[T.told s S6,iq f.1 (mw SQ S6 _ (mv _ Ue s) (mw S6 S6 _ Ue (T.ok.cA s S6))) QcS]
 ·rfl
 ·rw[f.2,gg,show ae (bN _ t _) s=ae (cX b s t l) s from rfl,tW S6 SQ S6 l Ue];constructor
  ·grind
  ·rintro(h|h|h)
   ·exact Qy h.2
   ·exact Rk h.1 T.aq
   ·exact Qq h
def Tl.ajV(T:Tl b s t l):Qx eE (ae b t++WX)=U6 (fB b s t l) t:=by
 have f:=pb (ae b t++WX);rw[T.told t SQ,iq f.1 (mw SQ SQ _ (mv _ Ue s) (mw S6 SQ _ Ue (T.ok.cA t SQ))) QcS]
 ·rfl
 ·rw[f.2,gg,show ae (bN _ t _) t=ae (cX b s t l) t from rfl,tW S6 SQ SQ l Ue];constructor
  ·grind
  ·rintro(h|h|h)
   ·exact Rk h.1.symm T.aq
   ·exact Qy h.2
   ·exact Qq h
def Tl.other(T:Tl b s t l):∀u∈dY,u≠s->u≠t->ae (fB b s t l) u=ae b u:=λu a c d=>by
 rw[T.told u a];exact QH (wQ SQ a d _ (mv _ Ue s)) (wQ S6 a c _ Ue)
def Tl.many(T:Tl b s t l):tooMany (fB b s t l)=(QV (40<Qx eE (ae b s++dc l))||QV (40<Qx eE (ae b t++WX))):=by
 rw[gU,OR (pD S6 SQ l Ue).three,Bool.or_eq_true,decide_eq_true_eq,decide_eq_true_eq,T.ajU,T.ajV];constructor
 ·rintro⟨u,a,h⟩;by_cases c:u=s
  ·subst c;exact Qq h
  ·by_cases d:u=t
   ·subst d;exact Qy h
   ·rw[T.other u a c d]at h;have:=T.ok.bc u a;omega
 ·rintro(h|h)
  ·exact Qh s S6 h
  ·exact Qh t SQ h
def Tl.PJ(T:Tl b s t l):∀x∈dc l,cM x:=Sv (by obtain⟨e,a,rfl⟩:=cQ.mp hx;exact(T.gd e a).1)
def Tl.PL(T:Tl b s t l):∀x∈seconds l,cM x:=Sv (by obtain⟨e,a,hx⟩:=iF.mp hx;exact(T.gd e a).2 x hx)
structure A8(b:Bo)(s t:Nat)(l:ZF):Prop where
 f1:SS (ae (bN b s (dc l)) s)
 f2:SS (ae (bN (bN b s (dc l)) t WX) t)
def Tl.fit(T:Tl b s t l)(h:tooMany (fB b s t l)=Qb):A8 b s t l:=by
 have a:∀u∈dY,SS (ae _ u):=λu c=>by
  refine Nat.le_of_not_lt Wk;rw[TZ (OR (pD S6 SQ l Ue).three).mpr u c q]at h;cases h
 exact⟨by rw[<-T.one,<-T.told s T.hs];exact a s T.hs,by show(ae (cX b s t l) t).length<=40;rw[<-T.told t T.ht];exact a t T.ht⟩
def Tl.nT(T:Tl b s t l)(F:A8 b s t l):aH (bN b s (dc l)):=Hg T.ok S6 T.PJ F.f1
def Tl.q_(T:Tl b s t l)(F:A8 b s t l):aH (cX b s t l):=Hg (T.nT F) SQ T.PL F.f2
def Tl.lg(T:Tl b s t l):∀p∈dB l,p.1∈ae (cX b s t l) s/\p.2∈ae (cX b s t l) t:=λp c=>by
 obtain⟨e,a,d,f⟩:=tV.mp c;rw[tW S6 SQ S6 l Ue,tW S6 SQ SQ l Ue];exact⟨Qq (QfX (Qeo (Qh e a d.symm))),Qay (QfX (TZ iF.mpr e a f))⟩
def Tl.sub(T:Tl b s t l)(F:A8 b s t l)(h:∀p∈ps,p∈dB l):PH (cX b s t l) (c9 (cX b s t l) s t ps):=ajT (T.q_ F) S6 SQ T.aq (λp a=>T.lg p (h p a))
def Tl.count(T:Tl b s t l):(iL (fB b s t l)-iL b:Nat)=((W0 (bN b s (dc l)))-(Xs))+((U6 (bN (bN b s (dc l)) t WX) t)-QW (U6 (bN b s (dc l)) t)):=by
 have h:=aiR Ue (pD S6 SQ l Ue).three S6 SQ T.aq T.other;have a:ae _ t=ae (bN _ t _) t:=T.told t SQ;have c:=He T.ok S6 (xs:=[]) (ys:=dc l) Qj;have c:Tj ae b s (W0 _):=c;have e:=Qca (ee (T.ok.cA t SQ)) (λz f=>((pD S6 SQ l Ue).mem t SQ z).mpr (Qy (Qy f)));rw[(Rx T.told s S6 T.one),a]at h;rw[a]at e;rw[T.two];omega
end
end DL
namespace DL
open PySem PySem.Spec L2 NT AT
open PyProof.Rows hiding St
open Vbdhaj(Sense sensesOf equals paired pairOf isText bytes cutAt readLines setOf addSense addPair added tooMany countSenses kept act onTongues onSense senseOf)
abbrev Hh:Stmt:=top 67
abbrev Hi:Stmt:=top 68
abbrev Hl:Stmt:=top 69
structure nU(P:aO)(w:aA)(K:au)(mg:QQ)(base:Heap)(C:Addr):Prop extends f9 P w K mg base C where
 over:gG P w K mg base C 1 Qg1 Qec (O9 C)
 adds:gG P w K mg base C 2 "add_sense" W_ (O_ C)
 PM:gG P w K mg base C 3 "add_pair" [RR,"s","t","x","y"] (O' C)
 part:gG P w K mg base C 1 V3 [RR,"s","t","x","y"] (G2 C)
 drop:gG P w K mg base C 2 "drop" W_ (Pa C)
def PN(C:Addr):Sp:=fM (ι:=Addr×Bo×Nat×QC) (λ(ob,b,s,a)=>[ck C ob b,aI s,bw a]) (λ(_,b,s,a)=>QE/\aH b/\(∀x∈a,cM x)/\SS (ae (bN b s a) s)) (λ(ob,b,s,a)H v c=>v=QL ((W0 (bN b s a))-(Xs))/\bu kD H c/\(a8 C (bN b s a)).p c Wl)
section
variable{P:aO}{w:aA}{K:au}{mg:QQ}{base:Heap}{f C:Addr}{fd:b_}{k:Nat}
def A9:aY [Qk,"s",Sr,"new","x"] (Y_ Sr) (aK Hl):=QF
def ajW(F:aP K QfM QfM Hl f fd)(L:nU P w K mg base C):ay P w K mg base az 3 f fd (Y_ Sr) (PN C):=by
 refine U5 f_ F A9 _ (.o (.n ag (.o (.u (.u .e))))) (λcdv A outer sh H E⟨ob,b,s,a⟩J⟨hs,t,hg,hl⟩=>bG 3 ai A9.nd (A3 4 (λ_ y=>bu kD H y) (λk=>[.v Qb (ck C ob (bN b s Y2)),Wv,.v Qb _,Ra ((W0 (bN b s Y2))-(Xs)),.u]) rfl (aa 2) (λ_=>mr cK) (bS A9.nd rfl QK) (λ_ _ _ q M=>by cases M) (λO D c=>Wf ((ck C ob b).m c.off hv) (.n ag (Wf ((bw a).m c.off hv) ?_))) (λD s1=> .of s1) (λk x y N Q rk R=>?_) (λHn S=>by rw[cp];refine wW rfl λf B hf bk r=>?_;subst hf;refine aU (aa 3) λv H' l h=>⟨h,S.trans (.of l),f,B,rfl,bk.keep l,r⟩)))
 ·have e:(W0 (bN b s (Rf a 0)))-QW Xs=0:=by show QW Xs-_=0;omega
  rw[e];exact .n ag Ry
 ·have T:∀j,SS (ae (bN b s (Rf a j)) s):=λj=>bp (He t hs (λz U=>jd U)) hl;have ok:=Hg t hs (Sv (hg x (jd hx))) (T k);refine AS 3 (OH (aa 3) (pF Rp L.adds J (ob,_,s,x) (Qe hs ok) (aa 0) (xa (aa 1) (xa (aa 4) ao))) (λ_ _ _ h=>Rh h.1)) A9.nd (λO D v G c V=>?_);obtain⟨j,rfl,p,d,W⟩:=V;injection p with p;have e:bN b s (YM a)=da (bN b s Y2) s x:=by rw[Sm Q,PD]
  have X:(W0 (bN b s Y2))-(Xs)+j=(W0 (bN b s (YM a)))-(Xs):=by
   rw[e,aiJ ok.three hs (ok.cA s hs),p];split<;>simp<;>omega
  exact λY l I=>fb Y l _ G _ I (R _ G (by exact rk.trans ((bu.of c.same).trans d)) (by exact((bu.of c.same).trans d).dl) (by exact(c.gR (G':=[.v Qb (ck C ob (bN b s (YM a))),Rr,.v Qb (bw a),.u,.u]) d (QbA (by rw[fK,hv.1,e];exact W) (.n ag (.v (c.rk d.dl (q3 nB)) (.u Ry))))).set (i:=3) (g:=true) (A:=aI ((W0 (bN b s (YM a)))-(Xs))) (by rw[<-X];rfl)))
def nV(b:Bo)(s t:Nat)(l:ZF):Bo×Qo:=kept b (fB b s t l) [1,e8 (iL (fB b s t l)-iL b),e8 (X7 (fB b s t l)-X7 b)]
def postC(C ob:Addr)(r:Bo×Qo)(H:Hp)(v:V)(H':Hp):Prop:=(a4 r.2).p (cut H H') v/\bu kD H H'/\(a8 C r.1).p H' Wl/\aH r.1
def PQ(C:Addr):Sp:=fM (λ(ob,b,s,t,l)=>[ck C ob b,aI s,aI t,SA l ll]) (λ(_,b,s,t,l)=>Tl b s t l) (λ(ob,b,s,t,l)=>postC C ob (nV b s t l))
def lp:aY [Qk,"s","t",QbP,ZC,Zy,"x",XO,"new_senses","new_pairs","y"] [Qk,"s","t",QbP] (aK Hi):=QF
def ajX(h:n<=3000):n<=bq:=by rw[bK];omega
def nt(h:n<=3000):n<bq:=by rw[bK];omega
def ra(s:bu b H a)(h:(a4 l).p (cut a H') v):(a4 l).p (cut H H') v:=by
 obtain⟨t,g,rfl,ht,c⟩:=h;rw[pI c]at ht;rcases j6 ht with⟨d,f⟩|⟨i,e,_⟩
 ·exact Tt t (by rw[eG (s.fr t d)];exact f) (qG _)
 ·cases e
def t8{bo:Bo}(e:G[0]?=Rz .v Qb (ck C ob bo))(q:(a8 C bo).p H0 Wl->Bl X H0 b O G d D):Bl X H0 b O G d D:=λf H c=>by
 obtain⟨y,g,v,rfl,a⟩:=c.sl 0 _ e;obtain⟨rfl,a⟩:=a;exact q a f H c
def ajY(l:R_)(e:aw×QC):dc (l++[e])=dc l++[e.1]:=by unfold dc;rw[bO];rfl
def PR(l:R_)(e:aw×QC):Qhr (l++[e])=WX++e.2:=by unfold seconds;simp
def ajZ(l:R_)(e:aw×QC):dB (l++[e])=dB l++e.2.map Y':=by unfold dB;simp
def aj0(l:R_)(k:Nat):QeB Ui<=QeB l:=by
 conv=>rhs;rw[<-n8 k l]
 unfold seconds;rw[ly,b0];omega
def aj1(l:R_)(h:l[k]?=Xr):QeB Ui+e.2.length<=QeB l:=by
 have:=aj0 l (k+1);rw[Sm h,PR,b0]at this;exact this
def PU:∀ps q,Qcr q (nS q s t ps)
 |[],q=>aQ _
 |p::ps,q=>by
  have a:=PU (s:=s) (t:=t) ps (i9 q (bR s t p.1 p.2));have b:=OS q (bR s t p.1 p.2);show Qcr q (nS (i9 q _) s t ps);omega
def aj2(F:aP K Qfo Qfo Hi f fd)(L:nU P w K mg base C)(C1:aE P w K mg base 3 QfM (Y_ Sr) (PN C)):ay P w K mg base az 4 f fd [Qk,"s","t",QbP] (PQ C):=by
 refine U5 f_ F lp (λ(ob,b,s,t,l)=>[.v Qb (ck C ob b),Rr,RT,.v Qb (SA l ll),.u,.u,.u,.u,.u,.u,.u]) (.o (.n ag (.n ag (.o (.u (.u (.u (.u (.u (.u (.u .e))))))))))) (λcdv A outer sh H E⟨ob,b,s,t,l⟩M T=>?_);have T:=T;have hs:=T.hs;have ht:=T.ht;have hf:=T.bc;refine t8 rfl (λbk0=>?_);refine ec 4 bj lp.nd (λq1=>ec 5 bj lp.nd (λq2=>?_));refine wb [6,7] (λk=>[.v Qb (ck C ob b),Rr,RT,.v Qb (SA l ll),.w q1 (Q9 dc Ui aX),.w q2 (Q9 seconds Ui aX),.u,.u,.u,.u,.u]) rfl (aa 3) (dQ (bS lp.nd rfl QK) (dQ (bS lp.nd rfl QK) jY)) Vn RP (λHs k e r=>?_) ?_
 ·have hkl:=ft r;have R:Qx dc Ui=Qx l.take k:=ak ..;have h2:=aj1 l r;refine fH 4 ((aa 6).up cK) (hG 5 (aa 7) (Qy nB) (bW (λx H c=>c.le ?_)) ?_) ?_
  ·refine .eq rfl (.eq rfl (.eq rfl (.eq rfl (.eq ?_ (.eq ?_ (.u (.u (.u (.u Ry)))))))))
   ·rw[Sm r,ajY,bO];rfl
   ·rw[Sm r,PR,bO]
  ·rw[ak,ak];exact ajX Qa
  ·rw[ak];exact nt Qa
 refine d9 5 (d9 4 ?_);rw[cp];have hl1:Qx dc l<=1900:=by have:Qx dc l=QT:=ak ..;omega
 refine cW (l8 (Ms (f6 (cB Rp L.over M (b,s,dc l) (Qh hs T.ok hl1) (Vc (aa 0) mx) (xa (aa 1) (xa (aa 4) ao)))) (λ_=>Mr (f6 (cB Rp L.over M (b,t,WX) ⟨ht,T.ok,by show _<=1900;omega⟩ (Vc (aa 0) mx) (xa (aa 2) (xa (aa 5) ao))))))) Qed (λh=>c7 ?_)
 ·rw[<-T.many]at h;have e:nV b s t l=(b,[-4]):=by unfold nV kept;rw[(V9)];rfl
  refine aU (cE (xd (ba L.tr.tooMany) bj)) (λv U B hv=>?_);show postC C ob (nV b s t l) H v U;rw[e];exact⟨hv,.of B,(a8 C b).m B bk0,T.ok⟩
 ·rw[<-T.many]at h;have fit:=T.fit h;have nT:=T.nT fit;have q_:=T.q_ fit;have e:nV b s t l=(fB b s t l,[0,1,e8 (iL (fB b s t l)-iL b),e8 (X7 (fB b s t l)-X7 b)]):=by unfold nV kept;rw[Qs (by rw[h];decide)];rfl
  have hap:=(pD hs ht l Ue).pairs;have W:=aiQ hs ht l T.ok;refine dA (fU lp.nd (i:=8) rfl QK (ia qo a7 a7) QB Qw) (λx D c=>?_);refine O4 c (i8 C1 M (ob,b,s,dc l) ⟨hs,T.ok,T.PJ,fit.f1⟩ (xa (aa 0) (xa (aa 1) (xa (aa 4) ao)))) (λv1 X H3 s2 m2=>?_);obtain⟨rfl,S,bk1⟩:=m2;have J:=QY c s2;have c3:=J.gR (G':=[.v Qb (ck C ob (bN b s (dc l))),Rr,RT,.v Qb (SA l ll),.u,.v Qb (bw WX),.u,.u,.u,.u,.u]) S (QbA (by rw[fK,hv.1];exact bk1) (.n ag (.n ag (.v (J.rk S.dl (wL (λA a=>by
   obtain⟨z,_,rfl⟩:=RM a;exact AQ (λA a=>by
    simp at a;rcases a with rfl|rfl
    ·exact mr cK
    ·exact q3 nB)))) (.u (.v (J.rk S.dl (q3 nB)) (.u (.u (.u (.u Ry))))))))))
  refine O4 c3 (i8 C1 M (ob,bN b s (dc l),t,WX) ⟨ht,nT,T.PL,fit.f2⟩ (xa (aa 0) (xa (aa 2) (xa (aa 5) ao)))) (λv2 H4 H5 s4 m4=>?_);obtain⟨rfl,Y,bk2⟩:=m4;have c4:=c3.keep s4;have c5:=c4.gR (G':=[.v Qb (ck C ob (cX b s t l)),Rr,RT,.v Qb (SA l ll),.u,.u,.u,.u,.u,.u,.u]) Y (QbA (by rw[fK,hv.1];exact bk2) (.n ag (.n ag (.v (c4.rk Y.dl (wL (λA a=>by
   obtain⟨z,_,rfl⟩:=RM a;exact AQ (λA a=>by
    simp at a;rcases a with rfl|rfl
    ·exact mr cK
    ·exact q3 nB)))) (.u (.u (.u (.u (.u (.u Ry))))))))))
  have sk5:=Va J.same (QH S (Va s4 Y));have hcount:=T.count;generalize hns:(((W0 (bN b s (dc l)))-(Xs))+((U6 (bN (bN b s (dc l)) t WX) t)-QW (U6 (bN b s (dc l)) t)))=ns at hcount;refine Uu rfl ?_;show wB _ _ _ (x.set 8 (RE V.int (((W0 (bN b s (dc l)))-(Xs))+((U6 (bN (bN b s (dc l)) t WX) t)-(U6 (bN b s (dc l)) t))))) H5;rw[hns];have c6:=c5.set (i:=8) (g:=true) (A:=aI ns) (v:=QL ns) rfl;refine Bl.at ?_ c6;refine bG 9 ai lp.nd ?_;refine ajc (xs:=l) (fA:=λe=>[aX e.1,bw e.2]) [6,7] (λ_ Z=>bu kD H Z) (λk=>[.v Qb (ck C ob (c9 (cX b s t l) s t (dB Ui))),Rr,RT,.v Qb (SA l ll),.u,.u,.u,.u,Ra ns,Ra (XD (c9 (cX b s t l) s t (dB Ui))-XD b),.u]) rfl (aa 3) (λe A a=>by
    simp at a;rcases a with rfl|rfl
    ·exact mr cK
    ·exact q3 nB) (dQ (WC 6 lp.nd) (dQ (WC 7 lp.nd) jY)) Vn (λ_ _ _ q hq=>by cases hq) (λx D c=>Wf ((ck C ob _).m c.off hv) (.n ag (.n ag (Wf ((aL _).m c.off hv) (.u (.u (.u (.u (.n ag ?_))))))))) (λD s1=>sk5.trans (.of s1)) (λk e Z N r rk hN=>?_) (λHn O=>?_)
  ·have e0:XD (c9 (cX b s t l) s t (dB (Rf l 0)))-XD b=0:=by
    have:(c9 (cX b s t l) s t (dB (Rf l 0))).pairs=Qa6:=by show(cX b s t l).pairs=_;unfold cX;rw[wN,wN]
    rw[this];omega
   rw[e0];exact .n ag Ry
  ·have hem:e∈l:=bL r;have psub:∀j,∀p∈dB (l.take k)++(e.2.take j).map (λy=>(e.1,y)),p∈dB l:=λj p G=>by
    rcases Vd G with G|G
    ·obtain⟨e',he',R,h2⟩:=tV.mp G;exact tV.mpr ⟨e',jd he',R,h2⟩
    ·obtain⟨y,hy,rfl⟩:=RM G;exact tV.mpr (Wb e hem (jd hy))
   refine A3 (xs:=e.2) (fA:=aX) 10 (λ_ Hj=>bu kD Z Hj) (λj=>[.v Qb (ck C ob (c9 (cX b s t l) s t (dB Ui++Qbk j Y'))),Rr,RT,.v Qb (SA l ll),.u,.u,.v Qb (aX e.1),.u,Ra ns,Ra (XD (c9 (cX b s t l) s t (dB Ui++Qbk j Y'))-XD b),.u]) rfl (aa 7) (λ_=>mr cK) (WC 10 lp.nd) (λ_ _ _ q hq=>by cases hq) (λx D c=>?_) (λD s1=> .of s1) (λj y Hj N2 hj rj hN2=>?_) (λHn O=>?_)
   ·rw[show Qbk 0 Y'=[]from rfl,dR];exact Wf ((ck C ob _).m c.off hv) (.n ag (.n ag (Wf ((aL _).m c.off hv) (.u (.u (Wf ((aX _).m c.off hv) (.u (.n ag (.n ag Ry)))))))))
   ·have po:=T.sub fit (psub j);have hym:y∈e.2:=bL hj;have hin:=T.lg (e.1,y) (tV.mpr (Wb e hem hym));have hx1:e.1∈ae (c9 (cX b s t l) s t (dB Ui++Qbk j Y')) s:=by rw[po.sn];exact hin.1
    have hy1:y∈ae (c9 (cX b s t l) s t (dB Ui++Qbk j Y')) t:=by rw[po.sn];exact hin.2
    have es:c9 (cX b s t l) s t (dB Ui++Qbk (j+1) Y')=gP (c9 (cX b s t l) s t (dB Ui++Qbk j Y')) (bR s t e.1 y):=by
     rw[Sm hj,bO,<-eK];show c9 (cX b s t l) s t (_++[(e.1,y)])=_;rw[PF];exact OK po.ok hs ht hx1 hy1
    generalize hd:c9 (cX b s t l) s t (dB Ui++Qbk j Y')=d at po hx1 hy1 es;refine AS 9 (OH (i:=XD d-XD b) (aa 9) (pF Rp L.PM M (ob,d,s,t,e.1,y) ⟨hs,ht,T.aq,po.ok,hx1,hy1⟩ (aa 0) (xa (aa 1) (xa (aa 2) (xa (aa 6) (xa (aa 10) ao))))) (λ_ _ _ h=>Rh h.1)) lp.nd (λx D v X c hM=>?_);obtain⟨i,rfl,hi,Q,hbk⟩:=hM;injection hi with hi;have e3:XD d-XD b+i=XD (gP d (bR s t e.1 y))-XD b:=by
     have:X7 (gP d (bR s t e.1 y))=X7 d+if d.pairs.contains (bR s t e.1 y)=true then 0 else 1:=OS _ _;rw[this,hi];show _+(if d.pairs.contains (bR s t e.1 y)=true then(0:Int)else 1)=_;split<;>simp<;>omega
    intro pins B I;refine fb pins B _ X _ I (hN2 _ X ?_ ?_ ?_)
    ·rw[fK];exact rj.trans (Va R8 Q)
    ·rw[fK];exact(Va R8 Q).dl
    ·rw[fK,es];have J:=c.gR (G':=[.v Qb (ck C ob (gP d (bR s t e.1 y))),Rr,RT,.v Qb (SA l ll),.u,.u,.v Qb (aX e.1),.u,Ra ns,.u,.u]) Q (QbA (by rw[fK,hv.1];exact hbk) (.n ag (.n ag (.v (c.rk Q.dl (wL (λA a=>by
      obtain⟨z,_,rfl⟩:=RM a;exact AQ (λA a=>by
       simp at a;rcases a with rfl|rfl
       ·exact mr cK
       ·exact q3 nB)))) (.u (.u (.v (c.rk Q.dl (mr cK)) (.u (.n ag (.u Ry))))))))))
     exact J.set (i:=9) (g:=true) (A:=aI _) (v:=QL _) (by rw[<-e3];rfl)
   ·rw[cp,<-ajZ,<-Sm r];refine bW (λx D c=>hN x D ?_ ?_ ?_)
    ·rw[fK];exact rk.trans (QH O (.of R8))
    ·rw[fK];exact(QH O (.of R8)).dl
    ·rw[fK];exact c.gR bu.refl (Wf ((ck C ob _).m (by rw[fK];exact c.same) hv) (.n ag (.n ag (Wf ((aL _).m (by rw[fK];exact c.same) hv) (.u (.u (.u (.u (.n ag (.n ag Ry))))))))))
  ·rw[cp];refine t8 rfl (λbk9=>?_);refine aU (cE (xd ai (xd ai (xd (aa 8) (xd (aa 9) bj))))) (λv U B hv=>?_);show postC C ob (nV b s t l) H v U;rw[e,W];have po:=T.sub fit (ps:=dB l) (λp G=>G);refine⟨ra O ?_,QH O (.of B),(a8 C _).m B bk9,po.ok⟩;have e5:e8 (iL (c9 (cX b s t l) s t (dB l))-iL b)=ns:=by rw[<-W];exact hcount
   have e6:e8 (X7 (c9 (cX b s t l) s t (dB l))-X7 b)=XD (c9 (cX b s t l) s t (dB l))-XD b:=by
    have R:=PU (s:=s) (t:=t) (dB l) Qa6;rw[<-hap,W]at R;show QW (X7 (c9 (cX b s t l) s t (dB l))-X7 b:Nat)=_;omega
   show(a4 [0,1,e8 (iL (c9 (cX b s t l) s t (dB l))-iL b),e8 (X7 (c9 (cX b s t l) s t (dB l))-X7 b)]).p _ _;rw[e5,e6];exact hv
abbrev Hm:Stmt:=top 70
abbrev Hn:Stmt:=top 71
abbrev Ho:Stmt:=top 72
abbrev Hq:Stmt:=top 73
end
def PV(C:Addr)(n:Int):Sp:=fM (λ(ob,b,s,t,u)=>[ck C ob b,aI s,aI t,a4 u]) (λ(_,b,_,_,u)=>aH b/\Vq) (λ(ob,b,s,t,u)=>postC C ob (act b [[n,s,t],u]))
def A_(C:Addr)(n:Int):Sp:=fM (Qgb [ck C ob b,aI s,aI t,a4 u,a4 v]) (λ(_,b,_,_,u,v)=>aH b/\Vq/\QbK v) (Qgb (postC C ob (act b [[n,s,t],u,v])))
def PX(C:Addr)(n:Int):Sp:=fM (λ(ob,b,s,u)=>[ck C ob b,aI s,a4 u]) (λ(_,b,_,u)=>aH b/\Vq) (λ(ob,b,s,u)=>postC C ob (act b [[n,s],u]))
def PY(h:(ll e).p H v):v≠ .a9:=by
 obtain⟨t,a,rfl,_⟩:=h;exact λq=>by cases q
def nW{b:Bo}(s:af H H')(hv:(a4 l).p (cut H H') v)(bk:(a8 C b).p H Wl)(a:aH b):postC C ob (b,l) H v H':=⟨hv,.of s,(a8 C b).m s bk,a⟩
def w9(s:af H a)(h:postC C ob r a v H'):postC C ob r H v H':=⟨ra (bu.of (k:=kD) s) h.1,Va s h.2.1,h.2.2⟩
section
variable{b:Bo}{m n:Nat}{s t:Int}{u v:Qo}
def f0(b:Bo)(u:Qo)(s t:Nat):Bo×Qo:=if fS 3000 u=Qb then iM b (-2)else match kJ 1 (cI 10 (dH u))with
 | .error k=>r0 b [0,e8 k]
 | .ok l=>nV b s t l
def Hr:act b [[0,s,t],u]=cR b s t (f0 b u):=rfl
def f2(b:Bo)(u v:Qo)(s t:Nat):Bo×Qo:=if(fS 20 u&&fS 20 v)=Qb then iM b (-2)else match cz (dH u),cz (dH v)with
 |some x,some y=>if Sq b s t x y then iM b (-6)else kept b (iP b s t x y) []
 |_,_=>iM b (-5)
def Ht:act b [[2,s,t],u,v]=cR b s t (f2 b u v):=rfl
def f3(b:Bo)(u v:Qo)(s t:Nat):Bo×Qo:=h8 b s u (λx=>h8 b t v (λy=>if b6 b s t x y=false then(b,[-6])else(jV b (bR s t x y),[0])))
def PZ:act b [[3,s,t],u,v]=cR b s t (f3 b u v):=rfl
def aj3(h:¬Ua):act b [[0,s,t],u]=(b,[-2]):=by rw[Hr];exact AI Z9 b _
def aj4(a:W6)(c:X4)(h:m≠n)(d:¬Qc6):act b [[0,m,n],u]=(b,[-2]):=by
 rw[Hr,mn a c h];exact Qp Z_
def aj5(a:W6)(c:X4)(h:m≠n)(d:Qc6):act b [[0,m,n],u]=match kJ 1 (cI 10 (dH u))with
  | .error k=>(b,[0,0,e8 k])
  | .ok l=>nV b m n l:=by
 rw[Hr,mn a c h];refine QH (Qs (by rw[d];decide)) ?_;cases kJ 1 _ with
 |error k=>rfl
 |ok l=>rfl
def A'(w:Qo):d8 w 20=if fS 20 w=true then 0 else-2:=AG w 20
end
section
variable{P:aO}{w:aA}{K:au}{mg:QQ}{base:Heap}{f C:Addr}{fd:b_}{k:Nat}
def w_:aY [Qk,"s","t",RJ,Uz,QbP,"number","entry"] [Qk,"s","t",RJ] (aK Hh):=QF
def aj6(F:aP K "tell" "tell" Hh f fd)(L:nU P w K mg base C)(V:aE P w K mg base 7 QeY U3 Pz)(W:aE P w K mg base 4 Qfo [Qk,"s","t",QbP] (PQ C)):ay P w K mg base az 8 f fd [Qk,"s","t",RJ] (PV C 0):=by
 refine U5 f_ F w_ (λ(ob,b,s,t,u)=>[.v Qb (ck C ob b),Rr,RT,.v Qb (a4 u),.u,.u,.u,.u]) (.o (.n ag (.n ag (.o (.u (.u (.u (.u .e)))))))) (λcdv A outer sh H E⟨ob,b,s,t,u⟩D⟨G,hl⟩=>?_);refine t8 rfl (λQ=>?_);have R:d8 u 3000=if fS 3000 u=true then 0 else-2:=AG u 3000;refine gN 4 (ju (Yx L.rt D [s,t] (xa (cE (xd (aa 1) (xd (aa 2) bj))) ao)) (λg=>j8 (x_call L.rb D (u,3000) hl (xa (aa 3) (xa (ba L.tr.afn) ao)) (A:=aI (d8 u 3000))))) w_.nd (λl v p I h=>?_) (λg=>?_)
 ·show postC C ob (act b [[0,s,t],u]) H v p;by_cases a:Ua
  ·obtain⟨m,n,rfl,rfl,J,X,M⟩:=eJ a;rw[eV,(VR)]at l h;by_cases hx:Qc6
   ·rw[R,Qp hx]at l;exact Wz l
   ·rw[R,Qs hx]at h;rw[aj4 J X M hx];exact nW I h Q G
  ·rw[eV,(W2)]at h;rw[aj3 a];exact nW I h Q G
 ·have a:Ua:=by
   by_cases a:Ua
   ·exact a
   ·rw[eV,(W2)]at g;cases g
  obtain⟨m,n,rfl,rfl,J,l,M⟩:=eJ a;rw[eV,(VR)]at g;have hx:Qc6:=by
   by_cases hx:Qc6
   ·exact hx
   ·rw[R,Qs hx]at g;cases g
  have Y:=(tJ hx).2;have x:=aj5 (b:=b) J l M hx;rw[A6]at x;have Z:Tj kh 1 (cI 10 (dH u)) 3001:=by
   have S:∀N k,Tj kh k N (Qn N):=by
    intro N;induction N with
    |nil=>intro k;exact aQ _
    |cons t r ih=>
     intro k;have:=ih (k+1);unfold kh;rw[b0,dh];split<;>simp<;>omega
   have h2:=Ga 10 (dH u);have h3:Qx dH u=Qn u:=ak ..;exact bp (S _ _) Qa
  generalize T:kh 1 (cI 10 (dH u))=d at x Z;refine ec 5 bj w_.nd Wk;refine ajb [6,7] (λk=> ∀e∈d.take k,e.2≠none) (λk=>[.v Qb (ck C ob b),W3,Yw,.v Qb (a4 u),Ra 0,.w q (QG (Zi d QbH) ll),.u,.u]) rfl (x_call V D u hx (xa (aa 3) ao) (by show aL ((kh 1 (cI 10 (dH u))).map A7)=_;rw[T];rfl)) (dQ (bS w_.nd rfl QK) (dQ (bS w_.nd rfl QK) jY)) Vn Qj RP (λHs k e O z=>?_) QcS
  ·obtain⟨j,o⟩:=e;cases o with
   |none=>
    refine cW (sW (aa 7) (ZY PY h)) (RC ?_) Xh
    refine aU (cE (xd ai (xd ai (xd (aa 6) bj)))) (λv p I h=>?_);show postC C ob (act b [[0,m,n],u]) H v p;rw[x,Pu O z];exact nW I h Q G
   |some ln=>
    refine cW (sW (aa 7) (ZY PY h)) Xh (λ_=>c7 ?_);refine fH 5 (aa 7) (bW (Vv ⟨λe B=>?_,c.le ?_⟩)) ?_
    ·rw[Sm O]at B;rcases Vd B with B|B
     ·exact z e B
     ·grind
    ·refine .eq rfl (.eq rfl (.eq rfl (.eq rfl (.eq rfl (.eq ?_ (.u Ry))))));rw[Sm O,n9,bO];rfl
    ·have S:=lu (λe:Nat×Option (aw×List aw)=>e.2) (T8 d);have h2:=ft O;rw[ak,bK];omega
  ·rw[cp]at z⊢;have a5:=Pt z;rw[a5]at x;have U:kJ 1 (cI 10 (dH u))= .ok (TV d QbH):=by rw[A6,T,a5]
   have hfew:=ajL U (by rw[show(dH u).length=u.length from ak ..];exact Y);refine d9 5 (mu (i8 W D (ob,b,m,n,TV d QbH) ⟨J,l,M,G,Hc U,hfew⟩ (xa (aa 0) (xa (aa 1) (xa (aa 2) (xa (aa 5) ao))))) (λH1 v p s1 hM=>?_));show postC C ob (act b [[0,m,n],u]) H v p;rw[x];exact w9 s1 hM
def t9(s t:Int)(u v:Qo):Int:=dg (dg (df [s,t]) (dg (d8 u 20) (d8 v 20))) (dg (jr u) (jr v))
def P0:Sp:=el (λ(s,t,u,v)=>[aI s,aI t,a4 u,a4 v]) (λ(_,_,u,v)=>Vq/\QbK v) (λ(s,t,u,v)=>aI (t9 s t u v))
def P1:aY ["s","t",WO,WK,Uz] ["s","t",WO,WK] (aK Hm):=QF
def aj7(F:aP K Qe8 Qe8 Hm f fd)(L:nU P w K mg base C):ay P w K mg base az 5 f fd ["s","t",WO,WK] P0:=QfZ P1 _ (.n ag (.n ag (.o (.o (.u .e))))) (λd A outer g H E⟨s,t,u,v⟩a⟨b,hv⟩=>bG 4 (ju (Yx L.rt a [s,t] (xa (cE (xd (aa 0) (xd (aa 1) bj))) ao)) (λ_=>ju (Ud L.F7 a u b 2) (λ_=>j8 (Ud L.F7 a v hv 3)))) P1.nd (aU (ju (aa 4) (λ_=>ju (Ud L.hJ a u b 2) (λ_=>j8 (Ud L.hJ a v hv 3)))) (λw i c h=>Rw c)))
def Ba(h:X1 m):jr u=match cz (dH u)with
  |none=> -5
  |some _=>0:=by
 unfold jr;rw[tK h];cases cz _<;>rfl
def aj8{b:Bo}(h:t9 s t u v≠0):act b [[2,s,t],u,v]=(b,[t9 s t u v]):=by
 unfold t9 at h⊢;by_cases d:Ua
 ·obtain⟨m,n,rfl,rfl,e,f,g⟩:=eJ d;rw[eV,Qp d]at h⊢;rw[Ht,mn e f g];rw[A',A']at h⊢;by_cases a:X1 20
  ·by_cases c:Qhc 20 v
   ·rw[(VR),(Tz),Ba a,Ba c]at h⊢;refine QH (Qs (by rw[a,c];decide)) ?_;cases i:cz _ with
    |none=>rfl
    |some x=>
     cases j:cz _ with
     |none=>rfl
     |some y=>rw[i,j]at h;exact Wz h
   ·rw[(VR),(Sk)];exact Qp (by simp at c;rw[c];simp)
  ·rw[(W2)];exact Qp (by simp at a;rw[a];simp)
 ·rw[eV,Qs d,Ht];exact AI Z_ b _
def aj9{b:Bo}(h:t9 s t u v=0):∃(m n:Nat)(x y:aw),s=m/\t=n/\W6/\X4/\m≠n/\dJ u=RE toS x/\dJ v=RE toS y/\cM x/\cM y/\act b [[2,s,t],u,v]=if b6 b m n x y=true then(b,[-6])else kept b (iP b m n x y) []:=by
 unfold t9 at h;by_cases f:Ua
 ·obtain⟨m,n,rfl,rfl,g,i,j⟩:=eJ f;rw[eV,Qp f,A',A']at h;by_cases a:X1 20
  ·by_cases c:Qhc 20 v
   ·rw[(VR),(Tz),Ba a,Ba c]at h;cases d:cz _ with
    |none=>rw[d]at h;cases h
    |some x=>
     cases e:cz _ with
     |none=>rw[d,e]at h;cases h
     |some y=>
      refine⟨m,n,x,y,rfl,rfl,g,i,j,by rw[tK a,d];rfl,by rw[tK c,e];rfl,w4 d,w4 e,?_⟩;rw[Ht,mn g i j];refine QH (Qs (by rw[a,c];decide)) ?_;rw[d,e];rfl
   ·rw[(VR),(Sk)]at h;cases h
  ·rw[(W2)]at h;cases h
 ·rw[eV,Qs f]at h;cases h
def aka(b:Bo)(s t:Nat)(x y:aw):fB b s t [(x,[y])]=iP (da b s x) s t x y:=rfl
def Bc:aY [Qk,"s","t",WO,WK,Uz,"x","y"] [Qk,"s","t",WO,WK] (aK Hn):=QF
def akb{b:Bo}(a:aH b)(hs:QE)(x:aw):da (da b s x) s x=da b s x:=
 GJ (gO (gO Wn s x) s x) (gO Wn s x) (λu c=>by
  rw[nR (gO Wn s x) hs c];split
  ·rename_i h;subst h;exact GH (tU Wn hs hs (a.cA u hs)) ((ke Wn hs hs).mpr (Qq Vh))
  ·rfl) rfl
def akc(F:aP K "pair" "pair" Hn f fd)(L:nU P w K mg base C)(C1:aE P w K mg base 5 Qe8 ["s","t",WO,WK] P0):ay P w K mg base az 6 f fd [Qk,"s","t",WO,WK] (A_ C 2):=by
 refine U5 f_ F Bc (Qgb [.v Qb (ck C ob b),Rr,RT,.v Qb (a4 u),.v Qb (a4 v),.u,.u,.u]) (.o (.n ag (.n ag (.o (.o (.u (.u (.u .e)))))))) (λcdv A outer sh H E⟨ob,b,s,t,u,v⟩i⟨d,J,hv⟩=>?_);refine t8 rfl (λD=>?_);refine gN 5 (Qf8 C1 i (s,t,u,v) (Qe J hv) 1 (xa (aa 2) (xa (aa 3) (xa (aa 4) ao)))) Bc.nd (λa z l j h=>?_) (λh0=>?_)
 ·show postC C ob (act b [[2,s,t],u,v]) H z l;rw[aj8 a];exact nW j h D d
 ·obtain⟨m,n,x,y,rfl,rfl,g,a,G,hx,hy,gx,gy,p⟩:=aj9 h0;refine bG 6 (x_call L.rd i u J (xa (aa 3) ao) (A:=aX x) (by show eH aS (dJ u)=_;rw[hx];rfl)) Bc.nd ?_;refine bG 7 (x_call L.rd i v hv (xa (aa 4) ao) (A:=aX y) (by show eH aS (dJ v)=_;rw[hy];rfl)) Bc.nd ?_;refine cW (f6 (cB Rp L.we i (b,m,n,x,y) (Qh g a d) (Vc (aa 0) mx) (xa (aa 1) (xa (aa 2) (xa (aa 6) (xa (aa 7) ao)))))) Qed (λh=>c7 ?_)
  ·rw[(V9)]at p;refine aU (cE (xd (ba L.tr.L4) bj)) QgX;show postC C ob (act b [[2,m,n],u,v]) H z l;rw[p];exact nW j q D d
  ·have hnp:¬Sq b m n x y:=by rw[h];decide
   rw[Qs hnp]at p;have T:Tl b m n [(x,[y])]:=⟨g,a,G,d,λe he=>by
    grind,⟨YU,YU⟩⟩
   have M:fB b m n [(x,[y])]=iP b m n x y:=by
    rw[aka,pC,pC,akb d g]
   have I:=T.many;rw[M]at I;refine cW (l8 (Ms (f6 (cB Rp L.over i (b,m,[x]) ⟨g,d,by show 1<=1900;decide⟩ (Vc (aa 0) mx) (xa (aa 1) (xa (cE (xd (aa 6) bj)) ao)))) (λ_=>Mr (f6 (cB Rp L.over i (b,n,[y]) ⟨a,d,by show 1<=1900;decide⟩ (Vc (aa 0) mx) (xa (aa 2) (xa (cE (xd (aa 7) bj)) ao))))))) QbN (λk=>c7 ?_)
   ·have k:=QH I k;refine aU (cE (xd (ba L.tr.tooMany) bj)) QgX;show postC C ob (act b [[2,m,n],u,v]) H z l;have e:act b [[2,m,n],u,v]=(b,[-4]):=by rw[p];unfold kept;rw[Qp k];rfl
    rw[e];exact nW j q D d
   ·have k:=QH I k;have e:act b [[2,m,n],u,v]=(iP b m n x y,[0]):=by rw[p];unfold kept;rw[Qs (by rw[k];decide)];rfl
    have fit:=T.fit (by rw[M];exact k);have nT:=T.nT fit;have q_:=T.q_ fit;have N:x∈ae (da (da b m x) n y) m:=(ke nT.three a g).mpr (Qy ((ke d.three g g).mpr (Qq Vh)));have O:y∈ae (da (da b m x) n y) n:=(ke nT.three a a).mpr (Qq Vh);refine tT (pF Rp L.adds i (ob,b,m,x) (Qe g d) (aa 0) (xa (aa 1) (xa (aa 6) ao))) (λQ H1 z R S B=>?_);obtain⟨_,U,bk1⟩:=B;have c1:=S.gR (G':=[.v Qb (ck C ob (da b m x)),W3,Yw,.u,.u,.u,Xw,Qc1 y]) U (QbA (by rw[fK,hv.1];exact bk1) (.n ag (.n ag (.u (.u (.u (.n cK (.n cK .nil))))))));refine Bl.at ?_ c1;refine tT (pF Rp L.adds i (ob,da b m x,n,y) (Qe a nT) (aa 0) (xa (aa 2) (xa (aa 7) ao))) (λQ H3 z V c B=>?_);obtain⟨_,W,bk2⟩:=B;have c2:=c.gR (G':=[.v Qb (ck C ob (da (da b m x) n y)),W3,Yw,.u,.u,.u,Xw,Qc1 y]) W (QbA (by rw[fK,hv.1];exact bk2) (.n ag (.n ag (.u (.u (.u (.n cK (.n cK .nil))))))));have X:bu kD R V:=Va R8 W;refine Bl.at ?_ c2;refine tT (pF Rp L.PM i (ob,da (da b m x) n y,m,n,x,y) ⟨g,a,G,q_,N,O⟩ (aa 0) (xa (aa 1) (xa (aa 2) (xa (aa 6) (xa (aa 7) ao))))) (λQ H5 z H6 Y B=>?_);obtain⟨_,Z,bk3⟩:=B;have c3:=Y.gR (G':=[.u,.u,.u,.u,.u,.u,.u,.u]) Z (.u (.u (.u (.u (.u (.u (.u Ry)))))));have sk3:bu kD V H6:=Va Y.same Z;refine Bl.at ?_ c3;refine aU (cE (xd ai bj)) QgX;show postC C ob (act b [[2,QW m,Y9],u,v]) H z l;rw[e,pC];have sk1:bu kD H R:=Va S.same U;exact⟨ra (sk1.trans (QH X sk3)) q,XE sk1.trans (QH X sk3) (.of j),(a8 C _).m j bk3,AU q_ g a G N O⟩
def akd(h:gM b s u=Za z):z≠0:=by
 unfold gM at h;split at h
 ·injection h with h;omega
 ·grind
def Hu(f:aw->Bo×Qo):(cx b s u≠0/\h8 b s u f=(b,[cx b s u]))\/ ∃x,cx b s u=0/\x∈ae b s/\dJ u=RE toS x/\h8 b s u f=f x:=by
 rw[wC];unfold cx;cases e:gM b s u with
 |error z=>exact Qq ⟨akd e,rfl⟩
 |ok x=>
  obtain⟨a,c,d⟩:=N8 e;exact Qy ⟨x,rfl,d,by rw[tK a,c];rfl,rfl⟩
def xf(b:Bo)(s t:Int)(u v:Qo):Int:=dg (df [s,t]) (dg (cx b VM u) (cx b t.toNat v))
def P2:(xf b s t u v≠0/\act b [[3,s,t],u,v]=(b,[xf b s t u v]))\/ ∃(m n:Nat)(x y:aw),xf b s t u v=0/\s=m/\t=n/\W6/\X4/\m≠n/\dJ u=RE toS x/\dJ v=RE toS y/\act b [[3,s,t],u,v]=Qgq:=by
 unfold xf;by_cases a:Ua
 ·obtain⟨m,n,rfl,rfl,d,e,f⟩:=eJ a;rw[eV,(VR)];have i:act b [[3,m,n],u,v]=h8 b m u (λx=>h8 b n v (λy=>Qgq)):=by rw[PZ,mn d e f];rfl
  rw[i];show(dg (cx b m u) (cx b n v)≠0/\_=(b,[dg (cx b m u) (cx b n v)]))\/_;rcases Hu _ with⟨c,g⟩|⟨x,c,g,j,k⟩
  ·refine Qq ?_;have:dg _ (cx b n v)=cx b m u:=Sk;rw[this];exact Qe c g
  ·have l:dg _ _=cx b n v:=Tz;rw[k];rcases Hu (b:=b) (s:=n) (u:=v) (λy=>Qgq)with⟨h,o⟩|⟨y,h,o,p,q⟩
   ·grind
   ·exact Qy ⟨m,n,x,y,QH l h,rfl,rfl,d,e,f,j,p,q⟩
 ·rw[eV,(W2),PZ];exact Qq ⟨Int.ne_of_lt (QD:(-2)<0),AI QaM b _⟩
def Bd:aY [Qk,"s","t",WO,WK,Uz,"x","y"] [Qk,"s","t",WO,WK] (aK Ho):=QF
def ake(F:aP K "unpair" "unpair" Ho f fd)(L:nU P w K mg base C):ay P w K mg base az 6 f fd [Qk,"s","t",WO,WK] (A_ C 3):=by
 refine U5 f_ F Bd (Qgb [.v Qb (ck C ob b),Rr,RT,.v Qb (a4 u),.v Qb (a4 v),.u,.u,.u]) (.o (.n ag (.n ag (.o (.o (.u (.u (.u .e)))))))) (λS A outer T H E⟨ob,b,s,t,u,v⟩a⟨d,B,hv⟩=>?_);refine t8 rfl (λD=>?_);refine gN 5 (r:=xf b s t u v) (ju (Yx L.rt a [s,t] (xa (cE (xd (aa 1) (xd (aa 2) bj))) ao)) (λp=>?_)) Bd.nd (λg z j i h=>?_) (λp=>?_)
 ·obtain⟨m,n,rfl,rfl,k,g,G⟩:=eJ (nO p);exact ju (VZ L.rs a (b,m,u) (Qh k d B) (aa 0) (Xj mx) (xa (aa 1) (xa (aa 3) ao))) (λ_=>j8 (VZ L.rs a (b,n,v) (Qh g d hv) (aa 0) (Xj mx) (xa (aa 2) (xa (aa 4) ao))))
 ·rcases P2     with⟨_,e⟩|⟨m,n,x,y,e,_⟩
  ·show postC C ob (act b [[3,s,t],u,v]) H z j;rw[e];exact nW i h D d
  ·exact Rk e g
 ·rcases P2 (s:=s) (t:=t)  with⟨e,_⟩|⟨m,n,x,y,_,rfl,rfl,k,g,G,hx,M,l⟩
  ·exact Rk p e
  ·refine bG 6 (x_call L.rd a u B (xa (aa 3) ao) (A:=aX x) Qfa) Bd.nd ?_;refine bG 7 (x_call L.rd a v hv (xa (aa 4) ao) (A:=aX y) (by rw[M];rfl)) Bd.nd ?_;refine cW (v7 (f6 (cB Rp L.we a (b,m,n,x,y) (Qh k g d) (Vc (aa 0) mx) (xa (aa 1) (xa (aa 2) (xa (aa 6) (xa (aa 7) ao))))))) Qed (λh=>c7 ?_)
   ·have h:=by simpa using h
    rw[(V9)]at l;refine aU (cE (xd (ba L.tr.L4) bj)) (λz j i q=>?_);show postC C ob (act b [[3,m,n],u,v]) H z j;rw[l];exact nW i q D d
   ·have h:=by simpa using h
    rw[Qs (by rw[h];decide)]at l;refine tT (pF Rp L.part a (ob,b,m,n,x,y) ⟨k,g,G,d,h⟩ (aa 0) (xa (aa 1) (xa (aa 2) (xa (aa 6) (xa (aa 7) ao))))) (λU V z N c O=>?_);obtain⟨_,I,Q⟩:=O;have R:=c.gR I (.u (.u (.u (.u (.u (.u (.u Ry)))))));have J:=Va R8 I;refine Bl.at ?_ R;refine aU (cE (xd ai bj)) (λz j i q=>?_);show postC C ob (act b [[3,m,n],u,v]) H z j;rw[l];exact⟨ra J q,QH J (.of i),(a8 C _).m i Q,AV d _⟩
def P4:(dg (df [s]) (cx b VM u)≠0/\act b [[4,s],u]=(b,[dg (df [s]) (cx b VM u)]))\/ ∃(m:Nat)(x:aw),dg (df [s]) (cx b VM u)=0/\s=m/\W6/\x∈ae b m/\dJ u=RE toS x/\act b [[4,s],u]=(hQ b m x,[0]):=by
 by_cases a:T2 dS s 1 3
 ·obtain⟨m,rfl,e⟩:=Gb a;rw[wF,(VR)];have f:act b [[4,m],u]=h8 b m u _:=Qs (by rw[show dS m 1 qf=true from a];decide);rw[f];rcases Hu _ with⟨c,d⟩|⟨x,c,d,g,h⟩
  ·exact Qq (Qe c d)
  ·exact Qy ⟨m,x,c,rfl,e,d,g,h⟩
 ·rw[wF,(W2)];exact Qq ⟨Int.ne_of_lt (QD:(-2)<0),Qp (show dS s 1 3=false by simpa using a)⟩
def P5:aY [Qk,"s",RJ,Uz] Yt (aK Hq):=QF
def akf(F:aP K "drop" "drop" Hq f fd)(L:nU P w K mg base C):ay P w K mg base az 6 f fd Yt (PX C 4):=by
 refine U5 f_ F P5 _ (.o (.n ag (.o (.u .e)))) (λQ A outer R H E⟨ob,b,s,u⟩a⟨d,l⟩=>t8 rfl (λt=>gN 3 (r:=dg _ (cx b VM u)) (ju (Qel L.rt a [s] (by show 1<=1000;decide) cE (xd (aa 1) bj) ao) (λj=>j8 ?_)) P5.nd (λy z k g h=>?_) (λj=>?_)))
 ·rw[wF]at j;have B:T2 dS s 1 3:=by
   grind
  obtain⟨m,rfl,i⟩:=Gb B;exact VZ L.rs a (b,m,u) (Qh i d l) (aa 0) (Xj mx) (xa (aa 1) (xa (aa 2) ao))
 ·rcases P4   with⟨_,e⟩|⟨m,x,e,_⟩
  ·show postC C ob _ H z k;rw[e];exact nW g h t d
  ·exact Rk e y
 ·rcases P4 (s:=s) with⟨e,_⟩|⟨m,x,_,rfl,i,D,hx,G⟩
  ·exact Rk j e
  ·refine tT (pF Rp L.drop a (ob,b,m,x) (Qh i d D) (aa 0) (xa (aa 1) (xa (x_call L.rd a u l (xa (aa 2) ao) (A:=aX x) Qfa) ao))) (λS T z I c J=>?_);obtain⟨_,p,M⟩:=J;have q:=Va R8 p;refine Bl.at (aU (cE (xd ai bj)) (λz k g O=>?_)) (c.gR p (.u (.u (.u Ry))));show postC C ob (act b [[4,m],u]) H z k;rw[G];exact⟨ra q O,QH q (.of g),(a8 C _).m g M,ON d i x⟩
end
end DL
namespace DL
open PySem PySem.Spec L2 NT AT
open PyProof.Rows hiding St
open PyVbdhaj(shape)
abbrev Hv:Stmt:=top 133
def xg:Qak:=[[2,1],[2,0],[2,2],[2,2],[1,1],[1,0],[2,1],[2,1],[2,0],[3,1],[0,0],[2,0],[2,1],[2,0],[2,0],[2,0],[2,0],[2,0],[0,0]]
def akg(h:jU p=Se n k):p=p.toNat/\p.toNat<19/\xg[p.toNat]?=Qc [n,k]:=by
 unfold jU at h;by_cases a:p=0
 ·rw[(VR)]at h;cases h;subst a;exact Vr
 rw[(W2)]at h;by_cases b:p=1
 ·rw[Qp b]at h;cases h;subst b;exact Vr
 rw[Qs b]at h;by_cases c:p=2
 ·rw[(Tz)]at h;cases h;subst c;exact Vr
 rw[(Sk)]at h;by_cases d:p=3
 ·rw[Qp d]at h;cases h;subst d;exact Vr
 rw[Qs d]at h;by_cases e:p=4
 ·rw[Qp e]at h;cases h;subst e;exact Vr
 rw[(W5)]at h;by_cases f:p=5
 ·rw[Qp f]at h;cases h;subst f;exact Vr
 rw[Qs f]at h;by_cases g:p=6
 ·rw[Qp g]at h;cases h;subst g;exact Vr
 rw[Qs g]at h;by_cases i:p=7
 ·rw[Qp i]at h;cases h;subst i;exact Vr
 rw[Qs i]at h;by_cases j:p=8
 ·rw[Qp j]at h;cases h;subst j;exact Vr
 rw[Qs j]at h;by_cases l:p=9
 ·rw[Qp l]at h;cases h;subst l;exact Vr
 rw[Qs l]at h;by_cases m:p=10
 ·rw[Qp m]at h;cases h;subst m;exact Vr
 rw[Qs m]at h;by_cases o:p=11
 ·rw[Qp o]at h;cases h;subst o;exact Vr
 rw[Qs o]at h;by_cases q:p=12
 ·rw[Qp q]at h;cases h;subst q;exact Vr
 rw[Qs q]at h;by_cases r:p=13
 ·rw[Qp r]at h;cases h;subst r;exact Vr
 rw[Qs r]at h;by_cases s:p=14
 ·rw[Qp s]at h;cases h;subst s;exact Vr
 rw[Qs s]at h;by_cases t:p=15
 ·rw[Qp t]at h;cases h;subst t;exact Vr
 rw[Qs t]at h;by_cases u:p=16
 ·rw[Qp u]at h;cases h;subst u;exact Vr
 rw[Qs u]at h;by_cases v:p=17
 ·rw[Qp v]at h;cases h;subst v;exact Vr
 rw[Qs v]at h;by_cases w:p=18
 ·rw[Qp w]at h;cases h;subst w;exact Vr
 rw[Qs w]at h;cases h
def akh{i n k:Nat}(h:xg[i]?=Qc [n,k]):n<=3/\k<=2:=by
 have:=bL h;simp[xg]at this;omega
abbrev C3:=ZK
def aki{cs:Qap}(h:lE jU f r=Qc cs)(e:r≠[]):∃(p:Int)(a:List Int)(n k:Nat)(xs:List _)(t:List Int)(d:List C3)(g:Nat),r=p::a/\jU p=Se n k/\n<=Sj/\pT k (a.drop n)=Se xs t/\cs=((p::Rf a n)::xs)::d/\lE jU g t=Qc d:=by
 cases r with
 |nil=>exact Wz e
 |cons p a=>
  cases f with
  |zero=>cases h
  |succ f=>
   unfold lE at h;cases b:PyFlat.call jU _ with
   |none=>rw[b]at h;cases h
   |some ct=>
    obtain⟨c,t⟩:=ct;rw[b]at h;dsimp only at h;cases hs:lE jU f t with
    |none=>rw[hs]at h;cases h
    |some d=>
     rw[hs]at h;cases h;unfold PyFlat.call at b;dsimp only at b;cases i:jU p with
     |none=>rw[i]at b;cases b
     |some nk=>
      grind
def akj(h:pT (k+1) r=Se xs t):∃(z:Int)(a:List Int)(c:List _),r=z::a/\z=Wo/\Wo<=Sj/\xs=Rf a Wo::c/\pT k (a.drop Wo)=Se c t:=by
 unfold pT at h;cases b:PyFlat.row r with
 |none=>rw[b]at h;cases h
 |some d=>
  obtain⟨y,s⟩:=d;rw[b]at h;dsimp only at h;cases hs:pT k s with
  |none=>rw[hs]at h;cases h
  |some q=>
   obtain⟨c,e⟩:=q;rw[hs]at h;cases h;unfold PyFlat.row at b;cases r with
   |nil=>cases b
   |cons z a=>
    grind
def akk(h:pT 0 r=Se xs t):xs=[]/\t=r:=by
 cases h;exact Vh
def pG:C3->R7
 |[]=>[]
 |h::rs=>Wc h++rs.map a4
def aCall(c:C3):a6:=aL (pG c)
def aG(K:au)(r:QU):a6:=⟨λ_ v=> ∃a,v=QS/\ ∀H,cw K H a (Qbv r Qb1),λ_ h=>h⟩
def aZ(K:au)(l:Qo):a6:=Ya (∃a,v=QS/\bF K H a (R1 Zz)) (λs⟨a,e,h⟩=>Qh a e (af.seq s h))
section
variable{X:Cx}{H0 Hb:Hp}{O:QZ}{G:QO}{e a b:Expr}{g:Bool}{A:a6}{As:R7}{pos pos' p p2:Pos}{D:Ends}{ss:US}{x:Str}
def akl(tg:qP X.K X.mg x rows)(j:Qc9 n)(k:Nat)(f:rows[k]?=Qc r)(l:n=k)(hg:Gl X x:=by rfl)(hd:SK=Qb:=by decide)(hs:sq b:=by intro _ _;rfl):VY (Vx Te b) (aG X.K r):=by
 obtain⟨a,d,m,o,g⟩:=tg;have z:=bQ g;have A:=Ub f;obtain⟨y,h⟩:∃y,d[k]?=V7:=⟨d[k]'(by omega),cN _⟩;obtain⟨B,i,s⟩:=qB g h;rw[f]at i;cases i;refine cC (iV vk (qk (v:=QS) hg m rfl hd) a7 hs) (λHb t H Q c q=>j Hb t H _ c (λw u s2 e=>?_));subst e l;exact⟨a,_,_,Sa y,rfl,rfl,o _,kZ (by rw[cY,h];rfl),q _ u s2 (Ss y s)⟩
def Hw(f:Ev X H0 O G a g (aG X.K r))(h:Qc9 n)(k:Nat)(p:r[k]?=Qc m)(i:n=k:=by rfl)(hs:sq b:=by intro _ _;rfl):Sn (Vx a b) m:=
 cC (iV vk a7 a7 hs) (Qew (f Hb e H _ c (λv j s1 l=>h Hb e j _ Q0 (λw o s2 d=>by
  obtain⟨t,rfl,ht⟩:=l;subst d i;exact⟨t,_,_,Um m,rfl,rfl,ht _,kZ Qm,q _ o Rt rfl⟩))))
def akm(b:X.mg Y8=none)(i:Nat)(d:Ts=Rz .w q As:=by rfl)(e:UC=Qz:=by rfl)(hv:kY Sg x:=by first|exact QK|exact eM QK|exact eM WL)(hd:SK=Qb:=by decide)(f:(x==Zv)=Qb:=by decide)(hg:Gl X Y8:=by rfl)
  (a:a_ [UB p2] Qg=[Yb (UB p2)]:=by rfl):Sn (Z6 Y8 [UB p2]) WG:=
 cC (gA y0 hg b gX (bb (oG e hv hd f) bh a) QD QD a) (λHb l H Q c r=>by
  obtain⟨g,h,j,k⟩:=c.qK d;exact⟨_,g,q,h,rfl,ZZ j,r _ H RK (by rw[bQ k];rfl)⟩)
def P6(f:Ev X H0 O G a Qb (aZ X.K l))(g:Qc9 n)(k:Nat)(o:l[k]?=Qc z)(h:n=k:=by rfl)(hs:sq b:=by intro _ _;rfl):Sn (Vx a b) z:=
 cC (iV m9 a7 a7 hs) (Qew (f Hb e H _ c (λv i s1 j=>g Hb e i _ Q0 (λw m s2 d=>by
  obtain⟨t,rfl,ht⟩:=j;subst d h;exact⟨t,_,_,Um z,rfl,rfl,af.seq Qd4 ht,kZ Qm,q _ m Rt rfl⟩))))
def akn(b:X.mg Y8=none)(d:Ev X H0 O G e Qb (aZ X.K l))(hg:Gl X Y8:=by rfl)(a:a_ [e] Qg=U2:=by rfl):Sn (Z6 Y8 [e]) QT:=
 sX y0 b gX (xa d ao a) (λHb f H g Q c h q=>by
  obtain⟨v,rfl,t,rfl,ht⟩:=fF h;exact Tt t (Qq ht) (q _ H RK (by rw[ak];rfl))) hg QD QD a
def P7(l:Qo)(lo hi:Wm):∃m:List Int,iU (R1 Zz) lo hi=Qbj m/\iu (R1 aI) lo hi=Wc m:=⟨Rf (l.drop _) _,by unfold iU;rw[ak,<-mI,<-mH],by unfold iu;rw[ak,<-mI,<-mH]⟩
def ako{lo hi}(d:Ev X H0 O G e Qb (aZ X.K ns))(hl:pq X H0 O G lo l)(f:pq X H0 O G hi h):Vb (Vx e (.Slice lo hi none p2)) aL (iu QcY l h):=
 cC (vj vl a7 tN tN) (Qau (d Hb a H _ c (λv g s1 i=>hl Hb a g _ Q0 (λj s2=>f Hb a j _ VO (λw s3=>by
  have b:=QY VO s3;obtain⟨t,rfl,ht⟩:=i;refine Tt t (af.seq b.same ht) (λp k=>?_);obtain⟨m,n,r⟩:=P7 ns l h;rw[n];obtain⟨s,u⟩:=b.new k;exact q _ _ (QH Rt (s3.trans s)) (Tt p u (by rw[r];exact qG m)))))))
def akp(i:Nat){lo hi}(g:Ev X H0 O G e Qb (aZ X.K ns))(hl:pq X H0 O G lo l)(k:pq X H0 O G hi h)(n:X.N.Nodup)(o:∀q,Bl X H0 Hb (q::O) (S8 (.w q (iu QcY l h))) ss D)(s:UC=Qz:=by rfl)(hx:Loc Sg x:=by first|exact QK|exact WL)
  (hs:eZ (Vx e (.Slice lo hi none p2)) Qea p.line Qg=UH:=by rfl)(u:YP X\/X8 X x=Vj:=by first|exact Qw|exact WH):Bl X H0 Hb O G (Qbm [QcE] (Vx e (.Slice lo hi none p2)) p::ss) D:=
 dA (fU n s hx (vj vl a7 tN tN) hs u) (λb H c=>g Hb b H _ c (λv y s1 z=>hl Hb b y _ Q0 (λA s2=>k Hb b A _ VO (λf s3=>by
  have a:=QY VO s3;obtain⟨t,rfl,ht⟩:=z;refine Tt t (af.seq ZR ht) (λq d=>?_);obtain⟨m,B,C⟩:=P7 ns l h;rw[B];exact o q _ _ ((a.own d (TL d) aC rfl).js ⟨rfl,Ru,_,aC,by rw[C];exact qG m⟩ (λr F j I=>by cases F;exact a.o5 d (a.ow I)))))))
end
def P8(l:Qo)(a n:Nat)(h:a+n<=QT):iu (R1 aI) Zb (Qc (a+n:Nat))=Wc (Rf (l.drop a) n):=by
 unfold iu;rw[HT.vi,HT.vi,ak,uE Qa,uE Qa,<-mI,<-mH];congr 2
 omega
def Hx(K:au):Sp:=Su (Qo×Qap) (λ(l,_)=>[aZ K l]) (λ(l,cs)=>QbK l/\lE jU QT l=Qc cs) (λ(_,cs)=>aL (cs.map aCall))
structure akq(l:Qo)(cs:Qap)(at_:Nat)(dn:Qap):Prop where
 le:at_<=QT
 bc:dn.length<=at_
 ex:∃f rest,cs=dn++rest/\lE jU f (l.drop at_)=Qc rest
structure akr(l:Qo)(a0 at_ k:Nat)(dn xs:ZK)(t:Qo):Prop where
 le:at_<=QT
 ge:a0<=at_
 len:dn.length<=k
 ex:∃rest,xs=dn++rest/\pT (k-dn.length) (l.drop at_)=Se rest t
section
variable{P:aO}{w:aA}{K:au}{mg:QQ}{base:Heap}{f C:Addr}{fd:b_}
def nX:aY ["numbers",Td,"at","form","behind",T9] QdZ (aK Hv):=QF
def aks(F:aP K QdW QdW Hv f fd)(T:Top mg)(TF:qP K mg "FORMS" xg):ay P w K mg base az 1 f fd QdZ (Hx K):=by
 refine Us nX (λ(l,_)=>[.v Qb (aZ K l),.u,.u,.u,.u,.u]) (.u (.u (.u (.u (.u .e))))) (λcdv A outer sh H E⟨l,cs⟩hr⟨hl,hcs⟩=>?_);refine ec 1 bj nX.nd (λq=>bG 2 ai nX.nd ?_);refine zQ (ι:={p:Nat×List C3//akq l cs p.1 p.2}) (λp=>[.v Qb (aZ K l),.w q (p.1.2.map aCall),Ra p.1.1,.u,.u,.u]) (λp=>QV (p.1.1<QW QT)) (λp=>QT-p.1.1) (Qe (0,[]) ⟨cG _,aQ _,QT,cs,rfl,hcs⟩) RP (λp=>Mp (aa 2) (akn Wu (aa 0))) (λp C=>?_) (λp C=>?_)
 ·obtain⟨⟨at_,N⟩,hle,O,V,W,D,s⟩:=p;have C:at_<QT:=by grind
  have hne:l.drop at_≠[]:=λe=>by have:=congrArg Ik e;rw[uv]at this;simp at this;omega
  obtain⟨pl,b,n,k,G,t,cs',f',I,e2,e3,e4,e5,e6⟩:=aki s hne;obtain⟨s1,s2,s3⟩:=akg e2;have hat:=by
   have:(l.drop at_)[0]?=Qc pl:=by rw[I];rfl
   rw[rq]at this;exact this
  have hrl:=by have:=YG I;rw[uv,dh]at this;omega
  have hdr:∀j,l.drop (at_+1+j)=b.drop j:=λj=>by
   rw[Nat.add_assoc,<-xI,I,Nat.add_comm 1 j,List.drop_succ_cons]
  refine bG 3 (akl TF (P6 (aa 0) (aa 2) at_ hat) pl.toNat s3 s1) nX.nd ?_;refine bG 4 (jt (jt (aa 2) ai) (Hw (aa 3) ai 0 rfl)) nX.nd ?_;refine akp 5 (aa 0) (o1 (aa 2)) (o1 (aa 4)) nX.nd Qc0;have ecut:iu (R1 aI) (Qc at_) (Qc (at_+1+n))=Wc (pl::Ww):=by
   have y:=P8 l at_ (1+n) Qa;have Q:(at_+(1+n):Nat)=at_+1+Y9:=by omega
   rw[Q]at y;rw[y,I,Nat.add_comm 1 n,List.take_succ_cons]
  rw[ecut];refine bG 2 (aa 4) nX.nd ?_;have X:Qn (pl::Ww)=n+1:=by grind
  refine zQ (ι:={p:Nat×List (List Int)//akr l (at_+1+n) p.1 k p.2 G t}) (λp=>[.v Qb (aZ K l),.w q (QG N aCall),Ra p.1.1,Qa0 (aG K [n,k]),.u,.w i (pG ((pl::Ww)::p.1.2))]) (λp=>QV ((Qx pG ((pl::Ww)::p.1.2))<1+n+QW k)) (λp=>k-p.1.2.length) (Qe (at_+1+n,[]) ⟨QgR,aQ _,cG _,G,rfl,Qm⟩) (by
   refine .eq rfl (.eq rfl (.eq ?_ (.eq rfl (.u (.eq ?_ .nil)))))
   ·show X6 Sl.v (aI (at_+1+n))=X6 Sl.v (aI (at_+1+n:Nat));rw[show QW (at_+1+n:Nat)=QW at_+1+Y9 by omega]
   ·show Sl.w i (Wc (pl::Ww))=Sl.w i (Wc (pl::Ww)++[]);rw[dR]) (λp=>Mp (akm Wu 5) (jt (jt ai (Hw (aa 3) ai 0 (m:=n) rfl)) (Hw (aa 3) ai 1 (m:=k) rfl))) (λR S=>?_) (λR S=>?_)
  ·obtain⟨⟨a,d⟩,J,U,L,rest2,x,r⟩:=R;have M:Qx pG ((pl::Ww)::d)=n+1+WZ:=by
    show Qn (Wc (pl::Ww)++QG d a4)=_;rw[b0,ak,ak,X]
   have Y:WZ<k:=by have:=Yz S;dsimp only at this;rw[M]at this;omega
   have hk3:k-WZ=(k-(WZ+1))+1:=by omega
   dsimp only at r J L x U;rw[hk3]at r;obtain⟨z,g,xs3,g1,g2,g3,g4,g5⟩:=akj r;have hat2:l[a]?=Qc z:=by
    have:(l.drop a)[0]?=Qc z:=by rw[g1];rfl
    rw[rq]at this;exact this
   have hrl2:Qn g+a+1=QT:=by have:=YG g1;rw[uv,dh]at this;omega
   have Z:∀j,l.drop (a+1+j)=g.drop j:=λj=>by
    rw[Nat.add_assoc,<-xI,g1,Nat.add_comm 1 j,List.drop_succ_cons]
   refine bG 4 (jt (jt (aa 2) ai) (P6 (aa 0) (aa 2) a hat2)) nX.nd ?_;have ecut2:iu (R1 aI) (Qc (QW a+1)) (Qc (QW a+1+z))=Wc (Rf g Wo):=by
    have y:=P8 l (a+1) Wo Qa;have Q:QW (a+1+Wo:Nat)=QW a+1+z:=by omega
    have h3:QW (a+1:Nat)=QW a+1:=rfl;rw[Q,h3]at y;rw[y];have:=Z 0;rw[Nat.add_zero,uw]at this;rw[this]
   refine fH 5 ((ako (aa 0) (o1 (jt (aa 2) ai)) (o1 (aa 4))).eq (B:=a4 (Rf g Wo)) (by show aL (iu (l.map aI) (some ((a:Int)+1)) (some ((a:Int)+1+z)))=_;rw[ecut2])) (bG 2 (aa 4) nX.nd (bW (Vv ⟨Qe (a+1+Wo,d++[Rf g Wo]) ⟨QgR,QgR,Tv,xs3,by rw[x,g4];simp,by dsimp only;rw[Z,b0];exact g5⟩,Tv,c.le ?_⟩))) ?_
   ·refine .eq rfl (.eq rfl (.eq ?_ (.eq rfl (.u (.eq ?_ .nil)))))
    ·show X6 Sl.v (aI (QW a+1+z))=X6 Sl.v (aI (QW (a+1+Wo:Nat)));rw[show QW (a+1+Wo:Nat)=QW a+1+z by omega]
    ·show Sl.w i (pG ((pl::Ww)::d)++[a4 (Rf g Wo)])=Sl.w i (pG ((pl::Ww)::(d++[Rf g Wo])));show Sl.w i ((Wc (pl::Ww)++QG d a4)++[a4 (Rf g Wo)])=Sl.w i (Wc (pl::Ww)++QG (d++[Rf g Wo]) a4);rw[bO,eK];rfl
   ·have hfo:=akh s3;rw[M,bK];omega
  ·obtain⟨⟨a,d⟩,J,U,L,rest2,x,r⟩:=R;have M:Qx pG ((pl::Ww)::d)=n+1+WZ:=by
    show Qn (Wc (pl::Ww)++QG d a4)=_;rw[b0,ak,ak,X]
   have Y:WZ=k:=by have:=Qbe S;dsimp only at this L;rw[M]at this;omega
   dsimp only at r J L x U;rw[Y,Nat.sub_self]at r;obtain⟨z1,z2⟩:=akk r;subst z1;rw[dR]at x;subst x;refine d9 5 (fH 1 (A:=aCall ((pl::Ww)::G)) (aa 5) (bW (Vv (Qh (Qe (a,N++[(pl::Ww)::G]) ⟨J,by rw[b0];dsimp only at O⊢;simp;omega,f',cs',by rw[D,e5];simp,by rw[<-z2];exact e6⟩) ?_ (c.le ?_)))) ?_)
   ·show QT-a<QT-at_;omega
   ·refine .eq rfl (.eq ?_ (.eq rfl (.u (.u Ry))));rw[bO];rfl
   ·rw[ak,bK];dsimp only at O;omega
 ·obtain⟨⟨at_,N⟩,hle,O,V,W,D,s⟩:=p;have C:at_=QT:=by grind
  have hr0:W=[]:=by
   dsimp only at s;rw[C,List.drop_length]at s;cases V<;>(unfold lE at s;cases s;rfl)
  subst hr0;rw[dR]at D;subst D;exact d9 1 (aU (aa 1) (Qgd s'))
end
end DL
namespace DL
open PySem PySem.Spec L2 NT AT
open PyProof.Rows hiding St
open Vbdhaj(Sense act onTongues onSense)
abbrev Hy:Stmt:=top 134
abbrev Hz:Stmt:=top 135
abbrev HA:Stmt:=top 136
abbrev HB:Stmt:=top 137
abbrev Be:Stmt:=top 138
abbrev nY:Str:="by_score.<locals>.<lambda>"
def t_:Pos:=⟨74,29,74,80⟩
def ua(c:Addr):HO:= .ext (λh=>U7 h.CodeRec c nY)
def eW(P:Addr)(H:Hp):Prop:=H P=Z1 (#[])\/ ∃c,H P=Z1 (#[gZ t_.line,gZ t_.col,.ref c])/\H c=RE ua c
section
variable{P:Addr}{H H':Hp}{O:QZ}
def eW.keep(h:eW P H)(s:af H H'):eW P H':=h.imp (λh=>s _ _ h) (λ⟨c,a,b⟩=>⟨c,s _ _ a,s _ _ b⟩)
def eW.k(h:eW P H)(s:bu kD H H'):eW P H':=h.imp (λh=>s.at_ _ _ rfl h) (λ⟨c,a,b⟩=>⟨c,s.at_ _ _ rfl a,s.at_ _ _ rfl b⟩)
def eW.off(h:eW P H)(f:Qcf (H q=Y7)):eW P (DL.off O H):=by
 have no:∀a o,H a=Qi->(∀vs,o≠YE vs)->DL.off O H a=Qi:=λa o e g=>jA (λh=>by
  grind) e
 rcases h with h|⟨c,b,d⟩
 ·exact Qq (no _ _ h QgE)
 ·exact Qy ⟨c,no _ _ b QgE,no _ _ d QgE⟩
end
def gf(C P ob:Addr)(b:Bo):a6:=Ya ((ck C ob b).p H v/\eW P H) (λs⟨h,t⟩=>⟨(ck C ob b).m s h,QY t s⟩)
def Bf(h:(gf C P ob b).p H v):(ck C ob b).p H v:=h.1
def aaY(h:(gf C P ob b).p H v):(a8 C b).p H v:=h.1.2
def postA(C P ob:Addr)(r:Bo×Qo)(H:Hp)(v:V)(H':Hp):Prop:=(a4 r.2).p (cut H H') v/\bu kL H H'/\(a8 C r.1).p H' Wl/\eW P H'/\aH r.1
def P9(C P:Addr):Sp:=fM (λ(ob,b,s,c,t,u)=>[gf C P ob b,aI s,aI c,aI t,a4 u]) (λ(_,b,_,_,_,u)=>aH b/\Vq) (λ(ob,b,s,c,t,u)=>postA C P ob (act b [[9,s,c,t],u]))
inductive rg:Q5 C3
 |a{s t:Int}{u:Qo}(h:Vq):rg [[0,s,t],u]
 |b{s t:Int}{u v:Qo}(h:Vq)(h2:QbK v):rg [[2,s,t],u,v]
 |c{s t:Int}{u v:Qo}(h:Vq)(h2:QbK v):rg [[3,s,t],u,v]
 |d{s:Int}{u:Qo}(h:Vq):rg [[4,s],u]
inductive pH:Q5 C3
 |a{s t:Int}{u:Qo}(h:Vq):pH [[6,s,t],u]
 |b{s t:Int}{u:Qo}(h:Vq):pH [[7,s,t],u]
 |c{s t:Int}{u:Qo}(h:Vq):pH [[12,s,t],u]
 |d{s c t:Int}{u:Qo}(h:Vq):pH [[9,s,c,t],u]
inductive ki:Q5 C3
 |a{s t:Int}:ki [[1,s,t]]
 |b{s t:Int}:ki [[8,s,t]]
 |c{s t:Int}:ki [[11,s,t]]
 |d{s t:Int}:ki [[13,s,t]]
 |e{s t:Int}:ki [[14,s,t]]
 |f{s t:Int}:ki [[15,s,t]]
 |g{s t:Int}:ki [[16,s,t]]
 |h{s t:Int}:ki [[17,s,t]]
inductive jC:Q5 C3
 |a{c:C3}(h:rg c):jC c
 |b{c:C3}(h:pH c):jC c
 |c{c:C3}(h:ki c):jC c
 |d{s:Int}:jC [[5,s]]
 |e:jC [[10]]
 |f:jC [[18]]
def nZ(C P:Addr)(R:Q5 C3):Sp:=fM (λ(ob,b,c)=>[gf C P ob b,aCall c]) (λ(_,b,c)=>aH b/\R c) (λ(ob,b,c)=>postA C P ob (act b c))
def kj{f:Nat->Nat->Bo×Qo}(h:∀s t,(f s t).1=b):(cR b s t f).1=b:=by
 unfold cR;split
 ·rfl
 ·exact h _ _
def HC{f:aw->Bo×Qo}(h:∀x,(f x).1=b):(h8 b s u f).1=b:=by
 unfold h8;split
 ·rfl
 ·split
  ·rfl
  ·split
   ·rfl
   ·exact h _
def P_(h:pH c)(b:Bo):(act b c).1=b:=by
 cases h with
 |a=>exact Qbf kj (HC Vn)
 |b=>exact Qbf kj (HC Vn)
 |c=>
  refine Qbf kj ?_;split
  ·rfl
  ·split
   ·rfl
   ·split
    ·rfl
    ·rfl
 |d=>
  refine Qbf kj ?_;split
  ·rfl
  ·exact HC Vn
def akt(h:ki c)(b:Bo):(act b c).1=b:=by
 cases h with
 |a=>exact kj Uy
 |b=>exact kj Uy
 |c=>exact Qbf kj (by split<;>rfl)
 |d=>exact Qbf kj (by split<;>rfl)
 |e=>
  refine Qbf kj ?_;split
  ·rfl
  ·split<;>rfl
 |f=>exact kj Uy
 |g=>exact kj Uy
 |h=>exact kj Uy
def aku(b:Bo)(s:Int):(act b [[5,s]]).1=b:=by
 show(if dS s 1 _=false then iM b (-2)else r0 b _).1=b;split<;>rfl
def iy(s:af H H')(hv:(a4 r.2).p (cut H H') v)(a:r.1=b)(bt:(gf C P ob b).p H Wl)(d:aH b):postA C P ob r H v H':=by
 obtain⟨c,e⟩:=r;subst a;exact⟨hv,.of s,(a8 C c).m s bt.1.2,bt.2.keep s,d⟩
def Bg(t:eW P H)(h:postC C ob r H v H'):postA C P ob r H v H':=⟨h.1,h.2.1.dl,h.2.2.1,t.k h.2.1,h.2.2.2⟩
def Bh(s:af H a)(h:postA C P ob r a v H'):postA C P ob r H v H':=⟨ra (bu.of (k:=kL) s) h.1,Va s h.2.1,h.2.2⟩
structure rh(P:aO)(w:aA)(K:au)(mg:QQ)(base:Heap)(C T:Addr):Prop extends nU P w K mg base C where
 tell:aE P w K mg base 8 "tell" [Qk,"s","t",RJ] (PV C 0)
 pair:aE P w K mg base 6 "pair" [Qk,"s","t",WO,WK] (A_ C 2)
 akv:aE P w K mg base 6 "unpair" [Qk,"s","t",WO,WK] (A_ C 3)
 akw:aE P w K mg base 6 "drop" Yt (PX C 4)
 q6:aE P w K mg base 6 QeZ [Qk,"s","t",RJ] (tM C 6)
 q7:aE P w K mg base 6 "ask_back" [Qk,"s","t",RJ] (tM C 7)
 akx:aE P w K mg base 6 QfI [Qk,"s","t",RJ] (tM C 12)
 q9:aE P w K mg base 8 "ask_over" [Qk,"s","c","t",RJ] (P9 C T)
 q1:aE P w K mg base 4 Qe7 QX (hP C 1)
 q8:aE P w K mg base 5 Qfw QX (hP C 8)
 aky:aE P w K mg base 7 QfH QX (hP C 11)
 akz:aE P w K mg base 7 QfJ QX (hP C 13)
 akA:aE P w K mg base 7 QfK QX (hP C 14)
 akB:aE P w K mg base 4 "ask_gaps" QX (hP C 15)
 akC:aE P w K mg base 5 QfS QX (hP C 16)
 akD:aE P w K mg base 5 QfT QX (hP C 17)
 q5:aE P w K mg base 4 QfF [Qk,"s"] (Oi C 5)
 akE:aE P w K mg base 5 Qfx [Qk] (AL C 10)
 akF:aE P w K mg base 3 QfG [Qk] (AL C 18)
 xh:cb mg "TELL" 0
 pJ:cb mg "DICTIONARY" 1
 Bi:cb mg "PAIR" 2
 HD:cb mg "UNPAIR" 3
 akG:cb mg "DROP" 4
 Bj:cb mg "SENSES" 5
 xi:cb mg "EQUIVALENTS" 6
 Bm:cb mg "BACK" 7
 ri:cb mg "CLASSES" 8
 akH:cb mg "OVER" 9
 HE:cb mg "LACKING" 10
 ub:cb mg "FIELDS" 11
 HF:cb mg "CLOSED" 12
 xj:cb mg "WITHIN" 13
 Bn:cb mg "FEWEST" 14
 HG:cb mg "GAPS" 15
 P':cb mg "TWINS" 16
 aaa:cb mg "COUNTS" 18
section
variable{X:Cx}{H0 Hb:Hp}{O:QZ}{G:QO}{e a b:Expr}{g:Bool}{A:a6}{As:R7}{pos p:Pos}{D:Ends}{ss body:US}{C T ob:Addr}{bo:Bo}
def uc(b:G[0]?=Rz .v Qb (gf C T ob bo))(q:(gf C T ob bo).p H0 Wl->Bl X H0 Hb O G ss D):Bl X H0 Hb O G ss D:=λd H c=>by
 obtain⟨y,f,v,rfl,a⟩:=c.sl 0 _ b;have e:=a.1.1;subst e;exact q a d H c
def cf(h:Et X H0 O G c k)(a:k=Qb)(b:Bl X H0 Hb O G ss D):Bl X H0 Hb O G (.If c body [] pos::ss) D:=cW h (λz=>by rw[a]at z;cases z) (λ_=>c7 b)
def hU(h:Et X H0 O G c k)(a:Qv k)(b:Bl X H0 Hb O G body QeM):Bl X H0 Hb O G (.If c body [] pos::ss) D:=cW h (RC b) (λz=>by rw[a]at z;cases z)
end
section
variable{P:aO}{w:aA}{K:au}{mg:QQ}{base:Heap}{f C T:Addr}{fd:b_}
def akI:aY [Qk,T9] [Qk,T9] (aK Hy):=QF
def akJ(F:aP K Qfg Qfg Hy f fd)(L:rh P w K mg base C T):ay P w K mg base az 9 f fd [Qk,T9] (nZ C T rg):=by
 refine U5 f_ F akI _ (.o (.o .e)) (λq A outer r H E⟨ob,b,c⟩i⟨j,l⟩=>uc rfl QbN);cases l with
 |a h=>
  exact hU (bz ((aM (aa 1) ai 0 rfl).up ag) (ba L.xh)) rfl (mu (i8 L.tell i (ob,b,_,_,_) (Rw j) (xa (Vc (aa 0) Bf) (xa (aM (aa 1) ai 1 rfl) (xa (aM (aa 1) ai 2 rfl) (xa (aM (aa 1) ai 3 rfl) ao))))) (λm v n s1 g=>Bg k.2 (w9 s1 g)))
 |b h p=>
  exact cf (bz ((aM (aa 1) ai 0 rfl).up ag) (ba L.xh)) rfl (hU (bz ((aM (aa 1) ai 0 rfl).up ag) (ba L.Bi)) rfl (mu (i8 L.pair i (ob,b,_,_,_,_) (Qh j h p) (xa (Vc (aa 0) Bf) (xa (aM (aa 1) ai 1 rfl) (xa (aM (aa 1) ai 2 rfl) (xa (aM (aa 1) ai 3 rfl) (xa (aM (aa 1) ai 4 rfl) ao)))))) (λm v n s1 g=>Bg k.2 (w9 s1 g))))
 |c h p=>
  exact cf (bz ((aM (aa 1) ai 0 rfl).up ag) (ba L.xh)) rfl (cf (bz ((aM (aa 1) ai 0 rfl).up ag) (ba L.Bi)) rfl (hU (bz ((aM (aa 1) ai 0 rfl).up ag) (ba L.HD)) rfl (mu (i8 L.akv i (ob,b,_,_,_,_) (Qh j h p) (xa (Vc (aa 0) Bf) (xa (aM (aa 1) ai 1 rfl) (xa (aM (aa 1) ai 2 rfl) (xa (aM (aa 1) ai 3 rfl) (xa (aM (aa 1) ai 4 rfl) ao)))))) (λm v n s1 g=>Bg k.2 (w9 s1 g)))))
 |d h=>
  exact cf (bz ((aM (aa 1) ai 0 rfl).up ag) (ba L.xh)) rfl (cf (bz ((aM (aa 1) ai 0 rfl).up ag) (ba L.Bi)) rfl (cf (bz ((aM (aa 1) ai 0 rfl).up ag) (ba L.HD)) rfl (mu (i8 L.akw i (ob,b,_,_) (Rw j) (xa (Vc (aa 0) Bf) (xa (aM (aa 1) ai 1 rfl) (xa (aM (aa 1) ai 2 rfl) ao)))) (λm v n s1 g=>Bg k.2 (w9 s1 g)))))
def akK:aY [Qk,T9] [Qk,T9] (aK Hz):=QF
def akL(F:aP K Qe9 Qe9 Hz f fd)(L:rh P w K mg base C T):ay P w K mg base az 9 f fd [Qk,T9] (nZ C T pH):=by
 refine U5 f_ F akK _ (.o (.o .e)) (λq A outer r H E⟨ob,b,c⟩j⟨g,k⟩=>uc rfl Qae);have m:=P_ k b;cases k with
 |a h=>
  exact hU (bz ((aM (aa 1) ai 0 rfl).up ag) (ba L.xi)) rfl (aU (VZ L.q6 j (b,_,_,_) (Rw g) (aa 0) VJ (xa (aM (aa 1) ai 1 rfl) (xa (aM (aa 1) ai 2 rfl) (xa (aM (aa 1) ai 3 rfl) ao)))) (λv n i hv=>iy i hv m l g))
 |b h=>
  exact cf (bz ((aM (aa 1) ai 0 rfl).up ag) (ba L.xi)) rfl (hU (bz ((aM (aa 1) ai 0 rfl).up ag) (ba L.Bm)) rfl (aU (VZ L.q7 j (b,_,_,_) (Rw g) (aa 0) VJ (xa (aM (aa 1) ai 1 rfl) (xa (aM (aa 1) ai 2 rfl) (xa (aM (aa 1) ai 3 rfl) ao)))) (λv n i hv=>iy i hv m l g)))
 |c h=>
  exact cf (bz ((aM (aa 1) ai 0 rfl).up ag) (ba L.xi)) rfl (cf (bz ((aM (aa 1) ai 0 rfl).up ag) (ba L.Bm)) rfl (hU (bz ((aM (aa 1) ai 0 rfl).up ag) (ba L.HF)) rfl (aU (VZ L.akx j (b,_,_,_) (Rw g) (aa 0) VJ (xa (aM (aa 1) ai 1 rfl) (xa (aM (aa 1) ai 2 rfl) (xa (aM (aa 1) ai 3 rfl) ao)))) (λv n i hv=>iy i hv m l g))))
 |d h=>
  exact cf (bz ((aM (aa 1) ai 0 rfl).up ag) (ba L.xi)) rfl (cf (bz ((aM (aa 1) ai 0 rfl).up ag) (ba L.Bm)) rfl (cf (bz ((aM (aa 1) ai 0 rfl).up ag) (ba L.HF)) rfl (mu (i8 L.q9 j (ob,b,_,_,_,_) (Rw g) (xa (aa 0) (xa (aM (aa 1) ai 1 rfl) (xa (aM (aa 1) ai 2 rfl) (xa (aM (aa 1) ai 3 rfl) (xa (aM (aa 1) ai 4 rfl) ao)))))) (λs v n s1 p=>Bh s1 p))))
end
end DL
namespace DL
open PySem PySem.Spec L2 NT AT
open PyProof.Rows hiding St
open PySem.W(envX kla_obj kla_fn kla_callFunE kla_codeExpr)
def HH(X:Cx)(A:di)(a:Str)(sc:eT)(f:Addr)(b:aJ)(cc:Addr)(s:bH)(H:Hp):Cx where
 prog:=X.prog
 w:=X.w
 K:=X.K
 mg:=X.mg
 base:=X.base
 A:=A.deeper (envX a sc Qt f b [(TM,cc)])
 N:=[UR,TM]
 jj:=s
 oF:=H
 env:=envX a sc Qt f b [(TM,cc)]
 outer:=X.stack
 stack:=envX a sc Qt f b [(TM,cc)]::Yn
 ex:=[]
 calm:=true
 fn:=RC Qb
 pn:=[]
 xe:=Tx
structure HI(sc:eT):Prop where
 kind:sc.kind= .function
 row:Xy (UR:Str)=Qc NameKind.local
 akM:Xy (TM:Str)=Qc yn
 one:∀x,Xy x=XQ\/Xy x=YZ->x=TM
 akN:∀x∈sc.names,x.2≠ .cell
 co:sc.isCoroutine=Qb
 gen:sc.isGenerator=Qb
section
variable{X:Cx}{pins:Tr}{σ:St}{H:Hp}{s:bH}{A:di}{qual:Str}{sc:eT}{f cc:Addr}{cd:aJ}{h1:Heap}{row cu:aJ}{rv c:V}{tk:Nat}
def akO(I:QI)(S:HI sc)(m:VH=none)(n:A.frames=Qc Yn)(q:∃x,VP=Qc cc)(l:s.heap.IsCell cc (Qc cu))(r:SD c cu)(t:SD rv row)
  (u:h1.Ns Qt (λx=>[((UR:Str),row)].reverse.lookup x))(g:RN (Th=Qi->h1.get? b=Qi)):
  Inv (HH X A qual sc f cd cc s H) [] [Qc rv,R9] H {s with heap:=h1,toks:=tk}:=by
 have one:∀x b,ZU [((TM:Str),cc)] x=Qc b->x=TM/\b=cc:=λx b h=>by
  grind
 have j:∀b,b∉(HH X A qual sc f cd cc s H).ex:=λb z=>Zj (show b∈[]from z);obtain⟨w,B⟩:=q;refine⟨⟨I.ok.mod,S.kind,rfl,rfl,aQ _,λy z b a d=>by rw[(one y b a).1,(one z b d).1],λy C=>by rw[S.one y C];exact⟨cc,rfl⟩,λy b e=>(QcN),RC m,IE n,Qy Vh,λb z=>Qck z j b,I.bs,bp I.ok.lN I.sz,λb _ _=>j b,λb z=>Qck z j b,I.stack,I.CJ⟩,rfl,WR,Un.kept g,Tn u (λi y v a d E=>?_),λy b e=>by rw[(one y b e).2];obtain⟨o,k,hd⟩:=l;exact⟨_,o,g _ _ k,hd⟩,Ut (aQ _),λy b e=>by rw[(one y b e).2];exact I.iR w cc B,λp D=>Zj (show p∈[]from D),I.a5.kept g,rfl⟩
 ·match i,a,d with
  |0,a,d=>
   cases a;cases d;exact Qh row t (Qds S.row)
  |1,a,d=>
   cases a;cases d;obtain⟨o,k,hd⟩:=l;exact Qh cu r (Qy ⟨Qy S.akM,cc,rfl,o,g _ _ k,hd⟩)
  |i+2,a,_=>grind
def akP(I:QI)(S:HI sc)(j:VH=none)(k:A.frames=Qc Yn)(l:A.depth<x')(m:RV f=Qc (kla_obj QaO qual UX body sc [(TM,cc)] pm a ctv))(n:s.heap.CodeRec QS qual)
  (p:bindArgs (kla_fn QaO qual UX body sc [(TM,cc)] pm QS ctv) (Wd [row])=Sy [((UR:Str),row)])(t:∃x,VP=Qc cc)(w:s.heap.IsCell cc (Qc cu))(z:SD c cu)(B:SD rv row)
  (C:wE (HH X A qual sc f QS cc s H) body [Qc rv,R9] H Q):aj (aV Qr X.w) A (U7 call f [row]) (EP X pins σ Q) Tx s:=by
 refine rN (jO (kla_callFunE (R:=λr d=> ∃u,r= .ok (.ret u)/\CE _ _ X.w H s Q u d) l m rfl S.co S.gen rfl n (by rw[p];refine ah (wpAny_newFunctionEnv S.akN (λy g=>by rw[ku]at g;subst g;exact S.row) (λh1 E i=>⟨I.nolimit.fresh _ i,by refine kla_codeExpr (ej (C [] _ (akO I S j k t w z B E (Q4 (i.extBut b o (b9 (bx e)) (bM _ e))))) (λv d⟨x,G,J,K,q⟩=>⟨v,rfl,x,G,J.os,J.bare,J.base,J.a5,K,q⟩) (λ_ _ h=>h.elim))⟩) S.kind))) (λr d D=>by obtain⟨u,rfl,L⟩:=D;exact I.after L))
end
end DL
namespace DL
open PySem PySem.Spec L2 NT AT
open PyProof.Rows hiding St
open PySem.W(envX kla_obj kla_fn kla_eval kla_makeFunction kla_makeFunctionHit CodeHd tabObj)
def ud(a cc b:Addr)(params:uR)(body:Expr)(sc:eT)(pm ctv:aJ):HO:= .ext (λh=>SJ=Qc (kla_obj QaO nY UX body sc [(TM,cc)] pm b ctv))
def akQ(x:U7 h.CodeRec c nY):d6 P w H h c (ua c):=⟨x,by obtain⟨g,a,d,f,e,b,_⟩:=x;cases e;exact⟨a,b⟩,λi j q k=>by obtain⟨g,a,d,f,e,b,r⟩:=q;cases e;exact⟨c,a,d,f,rfl,k _ b,r⟩⟩
def aab(x:SJ=Qc (kla_obj QaO nY UX body sc [(TM,cc)] pm b ctv)):d6 P w H h a (ud a cc b UX body sc pm ctv):=
 Qh x (Rh x) (λc d q k=>k _ q)
section
variable{X:Cx}{pins:Tr}{σ:St}{H:Hp}{s:bH}{P c' cc cd:Addr}{h':Heap}{ps more:SO aJ}{params:uR}{body:Expr}{sc:eT}{pm ctv:aJ}{tk:Nat}{pos:Pos}{Q:VK}
def grow(I:QI)(h:H P=Z1 ps)(hx:yk P Ql h')(j:Qt<=c')(A:c'<Xk)(B:U7 h'.CodeRec c' nY)(k:V5 P=RE tabObj (ps++more)):
  SM (upd (upd (upd H P (.mY (ps++more))) c' (ua c')) Xk (ud Xk cc c' UX body sc pm ctv)) {s with heap:=h'.push (kla_obj QaO nY UX body sc [(TM,cc)] pm c' ctv),toks:=tk}:=by
 have l:=I.a5.lt h;have n1:∀b,b<Qt->b≠Xk:=λb a=>b9 (xQ (d5 a j) A);have n2:∀b,b<Qt->b≠c':=λb a=>b9 (d5 a j);have d:∀b,b<Qt->b≠P->upd (upd (upd H P (.mY (ps++more))) c' (ua c')) _ (ud Xk cc c' UX body sc pm ctv) b=H b:=λb a p=>by
  rw[ax (n1 b a),ax (n2 b a),ax p]
 have f:∀b u,H b=Rj->(∀t,u≠ .mY t)->b≠P:=λb u e p z=>Qm
 have g:∀b,H b=none->b≠P:=λb e z=>by rw[z,h]at e;cases e
 have kp:RN (b≠P->Th=Qi->R0 (h'.push (kla_obj QaO nY UX body sc [(TM,cc)] pm c' ctv)) b=Qi):=Qcs (bM _ (hx b o a e));refine I.step (ch:=[]) (λb z=>by simp at z) (λb o _ _ _ e n=>kp b o (g b n) e) (λb o _ _ _ e n=>Qe o.slots (kp b o (g b n) e)) (λb o _ e n=>by rw[d b (bx e) (g b n)];exact n) (λb o _ e=>?_) (λb C e=>by rw[d b (I.a5.lt e) (f b _ e (by intro _ z;cases z))];exact e) (λb o u e=>by rw[d b (I.a5.lt e) (f b _ e (by intro _ z;cases z))];exact e) (λb t e=>?_) (λm D=>(D.extBut hx (g _ ZP)).push _) (Ye ?_) WR
 ·by_cases a:b=P
  ·rw[a];exact Rh (bM _ k)
  ·exact Qe o (kp b o a e)
 ·by_cases a:b=P
  ·rw[a]at e⊢;rw[h]at e;cases e;exact Qe more (by rw[ax (n1 P l),ax (n2 P l),aC])
  ·exact⟨#[],by rw[d b (I.a5.lt e) a,e];simp⟩
 ·by_cases w:b=Xk
  ·subst w;rw[aC]at e;cases e;exact aab (cH _ rfl)
  ·rw[ax w]at e;by_cases x:b=c'
   ·subst x;rw[aC]at e;cases e;obtain⟨L,E,F,G,J,K,r⟩:=B;cases J;exact akQ ⟨b,E,F,G,rfl,bM _ K,r⟩
   ·rw[ax x]at e;by_cases i:b=P
    ·subst i;rw[aC]at e;cases e;exact bM _ k
    ·rw[ax i]at e;refine(I.a5 b u e).e_ (λc v y q=>kp c v ?_ q) (λc q=>by rw[d c (I.a5.lt q) (f c _ q (by intro _ z;cases z))];exact q) (λc C q=>by rw[d c (I.a5.lt q) (f c _ q (by intro _ z;cases z))];exact q)
     rcases y with rfl|y
     ·exact i
     ·grind
structure HJ(X:Cx)(cd P:Addr):Prop where
 code:X.env.code=Q1 cd
 hd:CodeHd Vp cd P
 blt:X.base.BuiltinsAt X.mg P
def akR(I:QI)(f:HJ X cd P)(p:eW P H)(hl:VL=t_.line)(r:pos.col=t_.col)(E:X.env.qual++QaO=nY)(u:closureFor sc Qg=Sy [((TM:Str),cc)])(F:defaultsOf UX Qg=([],[]))
  (q:∀h d pm ctv H',H h=none->H' h=Qc (ud h cc d UX body sc pm ctv)->H' d=RE ua d->bu kT H H'->eW P H'->R3 h H'):aj (aV Qr X.w) X.A (Ws (.Lambda UX body sc pos)) (EP X pins σ Q) Q3 s:=by
 refine kla_eval F ?_;rw[E];have hg:=I.ok.mod.glob.keeps I.bk;have G:de≠P:=λz=>by
  obtain⟨o,O,R,e,_⟩:=I.ok.mod.glob;have g:=(I.bs _ _ e).2;rw[z]at g;rcases p with t|⟨c,t,_⟩<;>(rw[t]at g;cases g)
 rcases p with t|⟨c,t,v⟩
 ·refine kla_makeFunction u I.ok.glob hg f.code (f.hd.keeps I.bk) (I.a5 P _ t) qe rfl G (f.blt.keeps I.bk) (λd ctv h' tk hx i j K L=>?_);have w:=I.a5.lt t;have n1:∀b,b<Qt->b≠Xk:=λb m=>b9 (xQ (d5 m i) j);have n2:∀b,b<Qt->b≠d:=λb m=>b9 (d5 m i);have x:=b9 j;refine Rl WQ _ (grow (cc:=cc) (params:=UX) (body:=body) (sc:=sc) (pm:=(X.mg _).getD Sf) (ctv:=ctv) (tk:=tk) I t hx i j K L) (q _ d _ ctv _ (Ut (bp i (oe j))) aC (by rw[ax x,aC]) ⟨λa o n e=>?_,λa e=>?_⟩ (Qy ⟨d,by rw[ax (n1 P w),ax (n2 P w),aC,hl,r];rfl,by rw[ax x,aC]⟩))
  ·have y:=I.a5.lt e
   rw[ax (n1 a y),ax (n2 a y),ax (λz=>by rw[z,t]at e;cases e;cases n)];exact e
  ·by_cases A:a=Xk
   ·rw[A,aC]at e;cases e
   ·rw[ax A]at e;by_cases B:a=d
    ·rw[B,aC]at e;cases e
    ·rw[ax B]at e;by_cases C:a=P
     ·rw[C,aC]at e;cases e
     ·rw[ax C]at e;exact e
 ·refine kla_makeFunctionHit (cv:=Q1 c) u I.ok.glob hg f.code (f.hd.keeps I.bk) (I.a5 P _ t) qe (by rw[<-hl,<-r];simp[codeAmong,gZ]) (f.blt.keeps I.bk) (λctv h' tk n D=>?_);have g:=Ut D;have k:af H (upd H _ (ud Xk cc c UX body sc ((X.mg QaN).getD Sf) ctv)):=TL g;exact Rl WQ _ (I.laid (t':=tk) (Q4 (bM _ (n b o e))) D (aab (cH _ rfl))) (q _ c _ ctv _ g aC (k _ _ v) (.of k) (Qy ⟨c,k _ _ t,k _ _ v⟩))
end
end DL
namespace L2
open PySem PySem.Spec PyProof.Rows PySem.W
def Inv.akS{σ:St}{a:Addr}(I:QI)(j:YR<=a)(f:H a=none)(k:a≠T6)(l:∀x c,VP=R9->c≠a)(r:Qb9 p.1 a)(new:d6 Qr X.w (upd H a o) Ql a o):
  SM (upd H a o) s:=by
 have ne:∀b u,H b=Rj->b≠a:=Ye (cZ e f);have:=I.step (H':=upd H a o) (d':=s.drawn) (t':=Tg) (ch:=[a]) (λb d=>?_) (λb o _ _ _ e _=>e) (λb o _ _ _ e _=>Qe o.slots e) (λb o g e n=>by rw[ax (λz=>g (by simp[z]))];exact n) (λb o _ e=>Qe o e) (λb h e=>by rw[ax (ne b _ e)];exact e) (λb o u e=>by rw[ax (ne b _ e)];exact e) (λb t e=>⟨#[],by rw[ax (ne b _ e),e];simp⟩) (λm i=>i) (Ye ?_) WR
 ·exact this
 ·grind
 ·by_cases d:b=a
  ·subst d;rw[aC]at e;cases e;exact new
  ·rw[ax d]at e;exact(I.a5 b u e).e_ Qg0 (λc q=>by rw[ax (ne c _ q)];exact q) (λc h q=>by rw[ax (ne c _ q)];exact q)
structure ue(X:Cx)(pins:Tr)(a:Addr):Prop where
 lo:YR<=a
 nL:a≠T6
 nC:∀x c,VP=R9->c≠a
 nP:Qb9 p.1 a
 nF:a∉X.fs
def Inv.aac{σ:St}{a:Addr}(I:QI)(b:Qt<=a):ue X pins a:=⟨bp I.sz b,λz=>by have:=I.lt;rw[<-z]at this;exact absurd (d5 this b) (pR _),λx c e z=>by obtain⟨v,o,f,_⟩:=I.cell x c e;have:=bx f;rw[z]at this;exact absurd (d5 this b) (pR _),λp d z=>by have:=bx (I.pin p d).1;rw[z]at this;exact absurd (d5 this b) (pR _),I.Jm b⟩
section
variable{X:Cx}{pins:Tr}{σ:St}
def aad(J:Qej Nat):∀(r:List aJ)i s,J i s->(∀j x s,r[j]?=Qz->J (i+j) s->aj M A (body x ⟨⟩) (λq a=>q= .yield ⟨⟩/\J (i+j+1) a) E s)->aj M A (forIn r PUnit.unit body) (λ_ a=>J (i+Qn r) a) E s
 |[],i,s,h,_=>by exact ah h
 |x::r,i,s,h,b=>by
  rw[BS];refine ab (ej (b 0 x s rfl h) (λq a d=>?_) Qfz);obtain⟨rfl,f⟩:=d;refine ej (aad J r (i+1) a f (λj y s g c=>?_)) (λ_ a k=>Qm) Qfz
  ·have e:i+1+j=i+(j+1):=by omega
   rw[e]at c⊢;exact b (j+1) y s g c
def akT{a:Type}(d:a)(L:VQ)(x:NT.Pm p Wt):(ZX p (λi=>UO L d)).Perm L:=by
 have b:(ZX p (λi=>UO L d)).Perm _:=x.pm.map _;have e:WB Wt (λi=>UO L d)=L:=by
  apply iE;intro i;by_cases c:i<Wt
  ·grind
  ·grind
 rw[e]at b;exact b
def akU{a:Type}{d}{L:VQ}{r}(h:∀i j,i<n->j<n->Vy i j->r (UO L d) (RG L j d))(x:NT.Pm p n)(u:NT.Up lt p n):UL (ZX p (λi=>UO L d)) r:=by
 rw[iC,xB];intro i j hi c f;have g:Qbh p=n:=by exact x.sz
 have e:=λk b=>by
  have:=NT.vF (p:=p) (i:=k) QbD;rw[<-km,cN b]at this;exact gn this
 rw[e i hi,e j c];exact h _ _ (x.lt Qa) (x.lt Qa) (u i j f Qa)
def akV(r:ZO)(is:QU):RX (is.map (λi=>xs.getD i .a9)) (is.map (λi=>us.getD i ji)):=by
 induction is with
 |nil=>exact .nil
 |cons i is a=>
  refine Rc ?_ a;show SD (xs.getD i .a9) (us.getD i _);rw[jH,jH];cases e:xs[i]? with
  |none=>
   have b:us[i]?=none:=by rw[Iq]at e⊢;rw[<-r.length];exact e
   rw[b];rfl
  |some v=>
   obtain⟨u,c,d⟩:=r.get e;rw[c];exact d
structure KJ(X:Cx)(pins:Tr)(σ:St)(H:Hp)(key:Nat->NT.Nk)(D kS:Addr)(e1:Nat)(i:Nat)(s:bH):Prop where
 ex:∃(H':Hp)(kb:List Addr)(e:Nat),SM H' s/\(RN (H b=Qi->H' b=Qi))/\RV kS=Wg c_ Rq (U4 (kb.map bD)) e/\RV D=Wg c_ Rq (#[]) e1/\H' kS=none/\H' D=none/\kb.length=i/\ ∀j b,kb[j]?=Qc b->bV H' (key j) b
def akW(M:D≠g)(B:ue X pins D)(l:ue X pins g)
  (N:∀pins' H' C,Inv X pins' σ H' C->(RN (H b=Qi->H' b=Qi))->aj (aV Qr X.w) A (call f [x]) (EP X pins' σ (λr n=>(RN (H' b=Qi->n b=Qi))/\ ∃a,r=QS/\bV n (key i) a)) Tx C)
  (J:KJ X pins σ H key D g m i s):
  aj (aV Qr X.w) A (call f [x]) (λu s2=>∃(a:List Addr)(e:Nat),s2.heap.get? g=some (c_ "list" (a.map bD).toArray e)/\a.length=i/\KJ X pins σ H key D g m (i+1) {s2 with heap:=s2.heap.update g (g6 (·.push u))}) Tx s:=by
 obtain⟨H',a,e,I,E,O,hd,P,Q,hl,keys⟩:=J.ex
 have R:=by
  have:=I.yM (pins':=(g,c_ Rq (U4 (QG a bD)) e)::(D,c_ Rq (#[]) m)::pins) (λp k=>?_)
  ·exact this
  ·rcases RA k with rfl|k
   ·exact⟨O,P,l.nL,l.nF,λv z=>by cases z⟩
   ·rcases RA k with rfl|k
    ·exact⟨hd,Q,B.nL,B.nF,λv z=>by cases z⟩
    ·exact I.pin p (jI _ k)
 refine ej (N _ _ _ R E) (λu s2 S=>?_) (λ_ _ T=>T);obtain⟨r,n,q,U,F,b,rfl,hb⟩:=S;cases(U);have t:=q.pin _ (jI _ Ru);have G:=q.pin _ (jI _ (bP _ Ru));have V:=by
  have:=q.yM (λp k=>q.pin p (jI _ (bP _ (bP _ k))));exact this
 have K:=ot s2.heap g (g6 (·.push (bD b)));obtain⟨w,W⟩:∃w,R0 (s2.heap.update g _) g=Wg c_ _ _ w:=by
  have h:=rH t.1 (·.push (bD b));have Y:(QG a bD).toArray.push (bD b)=U4 (QG (a++[b]) bD):=by simp
  rw[Y]at h;exact Rh h
 refine⟨a,e,t.1,hl,n,a++[b],w,V.turned (λc o Z y=>Rx K.2 c Z y) t.2.1 l.nL (Qy l.lo) l.nC l.nP,λc o y=>F _ _ (E _ _ y),W,Rx K.2 D M G.1,t.2.1,G.2.1,by simp[hl],λj c L=>?_⟩
 ·by_cases hj2:j<Sj
  ·rw[Io hj2]at L;exact QY (keys j c L) (λd ys ed=>F _ _ ed)
  ·grind
end
end L2
namespace L2
open PySem PySem.Spec PyProof.Rows PySem.W NT
def zK(key:Nat->Nk)(a:QZ)(n:Nat):Qb2 aJ:=WB n (λi=>(key i,bD (UO a 0)))
def zV(key:Nat->Nk)(xs:Q8):Xp:=WB Qu (λi=>(key i,xs.getD i .a9))
def akX(key:Nat->Nk)(a:QZ):(zK key a a.length).map (·.2)=a.map bD:=by
 unfold zK;apply iE;intro i;by_cases c:i<Sj
 ·grind
 ·grind
def akY(key:Nat->Nk)(a:QZ)(n:Nat):Qn (zK key a n)=n:=by unfold zK;rw[ak,pQ]
def aae(h:i<n):UO (zK key a n) zD=(key i,bD (UO a 0)):=by
 unfold zK;rw[jH,cY,BQ h];rfl
def HK(h:i<Qu):UO (zV key xs) (.nil,.a9)=(key i,xs.getD i .a9):=by
 unfold zV;rw[jH,cY,BQ h];rfl
def aaf(key:Nat->Nk)(xs:Q8):Wa zV key xs=Qu:=by unfold zV;rw[ak,pQ]
section
variable{X:Cx}{pins:Tr}{σ:St}{H:Hp}{s:bH}{l:Addr}{xs:Q8}{f:Addr}{Q:VK}
def akZ{f}(hDk:D≠d)(k:ue X pins D)(B:ue X pins d)(rv:RX xs f)(h64:Qu<64)(hu:RS+4<bf)(N:X6 qy (WB Qu key))
  (J:KJ X pins σ H key D d x Qu s)
  (q:∀(ys:Xp)H',H' D=none->(∀b o,H b=some o->H' b=some o)->ys.Perm (zV key xs)->(ys.Pairwise λy z=>b8 y.1 z.1=true)->Q (.ref D) (upd H' D (.lst (ys.map (·.2))))):
  aj (aV Qr X.w) A (do let keys<-Builtin.List.listItems (.ref d);ksk_end D false f.toArray x (.ref d) keys) (λr g=>r= .done (.ret Sf)/\EP X pins σ Q Xn g) E s:=by
 obtain⟨H',a,e,I,sm,Z,hd,nK,P,hlen,keys⟩:=J.ex;have hil:=rv.length.symm;refine ab (listItems_at Z rfl ?_);have ekb:(zK key a xs.length).map (·.2)=a.map bD:=by rw[<-hlen];exact akX key a
 have F:=akY key a Qu;have l:b7 Ql true (zK key a Qu):=by
  have K:∀z∈zK key a xs.length,∃i,i<Qu/\z=(key i,bD (UO a 0)):=λz m=>by
   obtain⟨i,hi,rfl⟩:=RM m;exact Sz i (fO.mp hi)
  refine⟨λz m=>?_,λz m=>?_,λz m z' hz'=>?_,?_⟩
  ·obtain⟨i,hi,rfl⟩:=K z m;have hb:a[i]?=Rz a.getD i 0:=by grind
   exact g9 Rb (keys i _ hb)
  ·obtain⟨i,hi,rfl⟩:=K z m;exact N.hd _ (Qbt i (fO.mpr hi))
  ·obtain⟨i,hi,rfl⟩:=K z m;obtain⟨j,t,rfl⟩:=K z' hz';exact N.cmp _ (Qbt i (fO.mpr hi)) _ (Qbt j (fO.mpr t))
  ·have:(zK key a xs.length).map (·.1)=(dd xs.length).map key:=by unfold zK;rw[cq];rfl
   rw[this];exact N.nd
 have r:∀out(ys:Xp),RX (ys.map (·.2)) out->out.length=Qu->ys.Perm (zV key xs)->(ys.Pairwise (λy z=>XJ y.1 z.1))->∀st,(arrOf st).map (·.2)=out.toArray->failedOf st=none->aj (aV Qr X.w) A (ksk_tail D Qb x WY st) (λr g=>r= .done (.ret Sf)/\EP X pins σ Q Xn g) E s:=by
  intro out ys ro hol u hw st aq R;have s1:=ot Ql d (g6 (RC (#[])));have S:=Rx s1.2 D hDk hd;have s2:=ot (s.heap.update d (g6 (RC (#[])))) D (g6 QgS);obtain⟨T,hc2⟩:∃T,R0 ((s.heap.update d (g6 (RC (#[])))).update D (g6 QgS)) D=Wg c_ Rq out.toArray T:=Rh (rH S QgS);have I1:=I.turned (t':=Tg) (λc o U W=>Rx s1.2 c U W) nK B.nL (Qy B.lo) B.nC B.nP;have I2:=Inv.turned (t':=Tg) I1 (λc o U W=>Rx s2.2 c U W) P k.nL (Qy k.lo) k.nC k.nP;have I3:=I2.akS (o:=YE (ys.map (·.2))) k.lo P k.nL k.nC k.nP ⟨by have:=ro.length;rw[bK];omega,out,T,ro,hc2⟩;unfold ksk_tail;try dsimp only
  rw[aq];refine ab (pW Z rfl (ab (wpAny_letGo (ab (uI S rfl (ab (pW S rfl ?_ (cG _) (by show out.toArray.size<=_;rw[lz,bK];omega))))))) (by rw[lz,ak,bK];omega) (cG _));rw[R];simp only[bne_self_eq_false,mG,if_false];exact ah ⟨rfl,Xn,_,I3,rfl,q ys H' P sm u hw⟩
 unfold ksk_end;try dsimp only
 simp only[mG,if_false];have hsz:Zg f=Qu:=by omega
 by_cases M:Zg f<2
 ·rw[Qp M,Qp M];refine ab (ah ?_);rw[StateT.run_pure];refine ab (ah ?_);dsimp only;refine r f (zV key xs) ?_ hil (.refl _) ?_ _ ?_ rfl
  ·have:(zV key xs).map (·.2)=xs:=by
    unfold zV;rw[cq];apply iE;intro i;rw[cY];by_cases c:i<Qu
    ·grind
    ·grind
   rw[this];exact rv
  ·have hl2:Wa zV key xs<2:=by rw[aaf];omega
   generalize zV key xs=L at hl2;match L,hl2 with
   |[],_=>exact .nil
   |[_],_=>simp
   |_::_::_,h=>simp at h;omega
  ·grind
 ·rw[Qs M,Qs M];have hge:2<=Qu:=by omega
  have O:=l.ord;rw[F]at O;rw[<-ekb];refine ab (Lu l (by rw[F];omega) ?_);have es:=Lo O hge;have hkl:((zK key a xs.length).map (·.2)).length=f.length:=by grind
  have run:=kat_run (prog:=Qr) (w:=X.w) (E:=E) (κ:=tuples' true) (Q:=λv g=>∃p,Pm p Qu/\Up (nt (zK key a xs.length)) p xs.length/\arrOf v=p.map (kas_item (((zK key a xs.length).map (·.2)).toArray.zip f.toArray))/\failedOf v=none/\g=s) (G:=λp g=>Pm p Qu/\Up (nt (zK key a Qu)) p Qu/\g=s) hkl Qa Qa (λp v g a1 a2 a3 Y=>⟨p,Y.1,Y.2.1,a2,a3,Y.2.2⟩) (by
    rw[hil];refine DV (λi j C hi t hC=>?_) _ (Lq O hge) (Sz es.1 es.2);have m1:=getD_mem (by rw[F];exact hi);have m2:=getD_mem (by rw[F];exact t);have r1:=l.rel _ m1;have r2:=l.rel _ m2;unfold kas_ask;have g1:((zK key a xs.length).map (·.2)).getD i ji=((zK key a xs.length).getD i zD).2:=by grind
    have g2:((zK key a xs.length).map (·.2)).getD j ji=((zK key a xs.length).getD j zD).2:=by grind
    rw[g1,g2];exact Lr r1.1 r2.1 (l.cmp _ m1 _ m2) r1.2 r2.2 hu (RC ⟨l.hd _ m1,l.hd _ m2⟩) hC)
  refine ab (ej run ?_ QaJ);rintro⟨⟨⟩,v⟩g⟨p,u,hup,har,R,rfl⟩;dsimp only;refine r (ZX p (λi=>UO f ji)) (ZX p (λi=>UO (zV key xs) (.nil,.a9))) ?_ ?_ (akT _ _ (by rw[aaf];exact u)) (akU (λi j hi t h=>?_) u hup) v (kat_snds hkl har) R
  ·rw[cq];have e9:ZX p ((λy:Nk×V=>y.2)∘λi=>UO (zV key xs) (.nil,.a9))=ZX p (λi=>xs.getD i .a9):=iG (λi hi=>by
    have hi2:=by
     have:=u.pm.mem_iff.mp hi;exact fO.mp this
    show(UO (zV key xs) (.nil,.a9)).2=_;rw[HK hi2])
   rw[e9];exact akV rv _
  ·rw[ak,mF,u.sz]
  ·rw[HK hi,HK t];unfold nt at h;rw[aae hi,aae t]at h;exact h
def sortedK(I:QI)(hl:bF X.K H l xs)(P:Qu<64)(hu:RY+8<bf)(R:X6 qy (WB Qu key))
  (S:∀i v x pins' H' k,xs[i]?=Rg->SD v x->Inv X pins' σ H' k->(RN (H b=Qi->H' b=Qi))->aj (aV Qr X.w) X.A.in1.in1 (U7 call f [x]) (EP X pins' σ (λr J=>(RN (H' b=Qi->J b=Qi))/\ ∃A,r=Q1 A/\bV J (key i) A)) Tx k)
  (q:∀D(ys:Xp)H',H D=none->H' D=none->(∀b o,H b=some o->H' b=some o)->ys.Perm (zV key xs)->(ys.Pairwise λy z=>b8 y.1 z.1=true)->Q (.ref D) (upd H' D (.lst (ys.map (·.2))))):
  aj (aV Qr X.w) X.A (call QcP [Uj] [(Str.ofString "key",QbE)]) (EP X pins σ Q) E s:=by
 obtain⟨c,B,T,_⟩:=I.list hl;have U:=B.length.symm;refine call_function_entry_kw kind_sorted plain_sorted entry_sorted (ksk_s1 _ _) ?_;refine ab (ah ?_);refine ab (collect_list T.isList ?_ Qa);refine ab (yd ?_ Qa);generalize K:(S5 (c_ Rq (#[]) 0)).update Qt (g6 (· ++c.toArray))=a;have W:RN (Th=Qi->R0 a b=Qi):=Q4 (by
  have n:=bx e;rw[<-K,yj _ _ _ _ (b9 n),uZ _ _ _ (b9 n)];exact e)
 have p:Qt<=Yq:=by rw[<-K,rT,uJ];exact Nat.le_succ _
 have t:R0 (a.push (c_ Rq Qb5 0)) Yq=Wg c_ Rq Qb5 0:=cH _ rfl
 refine ab (fj (wpAny_call_entry_kw slot_list_sort (Sz _ t) entry_list_sort ?body (ksk_l1 _ _)));case body=>
  rw[ksk_t1];obtain⟨g,L⟩:∃g,R0 ((a.push (c_ Rq Qb5 0)).update Yq (g6 (RC (#[])))) Yq=Wg c_ Rq (#[]) g:=Rh (rH t Qd2);refine ab (listItems_at t rfl (ab (pW t rfl (ab (uI L rfl (ab (wpAny_newTuple (ab (yd (fj ?_) (cG _))) Qm)))) (by rw[lz,bK];omega) (cG _))));generalize C:((a.push (c_ Rq Qb5 0)).update Yq (g6 (RC (#[])))).push (c_ XR Qb5 0)=d;have z5:Xl d=Yq+2:=by rw[<-C,uJ,rT,uJ]
  have Y:RN (Th=Qi->R0 (d.push (c_ Rq (#[]) 0)) b=Qi):=Q4 (by
   have n:=bx e;have Z:=d5 n p;refine bM _ ?_;rw[<-C];refine bM _ ?_;rw[yj _ _ _ _ (b9 Z)];exact bM _ (W b o e))
  have hD5:R0 d Yq=Wg c_ Rq (#[]) g:=by rw[<-C];exact bM _ L
  have J0:KJ X pins σ H key Yq (Xl d) g 0 {s with heap:=d.push (c_ Rq (#[]) 0)}:=by
   have I6:=I.kept (t':=Tg) Y;exact⟨H,[],0,I6,QaJ,cH _ rfl,bM _ hD5,Ut Qa,Ut p,rfl,λj b F=>by simp at F⟩
  have M:=I.aac p;have N:ue X pins (Xl d):=I.aac Qa;have O:Yq≠Xl d:=by omega
  have nD:=Ut p;show aj (aV Qr X.w) X.A.in1.in1 (ksk_rest Yq QbE Qb Qb5 g (Q1 (Xl d))) _ _ {s with heap:=d.push (c_ Rq (#[]) 0)}
  unfold ksk_rest;refine ab (rM ?_);first
   |rw[List.forIn_toArray]
   |(rw[<-n4];simp only[List.toList_toArray])
  refine ab (ej (aad (KJ X pins σ H key Yq (Xl d) g) c 0 _ J0 (λj x k hx h=>?_)) (λ_ k h=>?_) Qfz)
  ·have F:j<Qu:=by grind
   obtain⟨v,hv,rvx⟩:∃v,xs[j]?=Rg/\SD v x:=by
    obtain⟨v,hv⟩:∃v,xs[j]?=Rg:=⟨xs[j],cN F⟩;obtain⟨u,w,ru⟩:=B.get hv;rw[hx]at w;cases w;exact Qh v hv ru
   rw[xR]at h⊢;refine ab (p9 (ej (akW O M N (λpins' H' s2 I2 G=>S j v x pins' H' s2 hv rvx I2 G) h) (λu s2 w=>?_) (λ_ _ hF=>hF.elim)));obtain⟨A,e,hk,hkl,J'⟩:=w;try dsimp only
   refine ab (pW hk rfl (ah (RL J')) (by rw[lz,ak,bK];omega) Qm)
  ·rw[xR,U]at h;try dsimp only
   refine ej (akZ O M N B P Qm R h (λys H' nD' G hp hw=>q Yq ys H' nD nD' G hp hw)) (λfin s2 hq=>?_) Qfz;obtain⟨rfl,ep⟩:=hq;exact SE (ah (SE ep))
end
end L2
namespace DL
open PySem PySem.Spec L2 NT AT
open PyProof.Rows hiding St
open PySem.W(CodeHd kla_fn)
open Vbdhaj(Sense less Found better putFound)
abbrev rl:Stmt:=top 12
def gS(f:fk):a6:=aT [aI f.between,aI Ym,aI Tp,aX f.y]
def Bp:Lf (gS f):=EH (λA a=>by
 simp at a;rcases a with rfl|rfl|rfl|rfl
 ·exact ag
 ·exact ag
 ·exact ag
 ·exact cK)
def Bq(T:Addr)(As:R7):a6:=Ya ((aL As).p H v/\eW T H) (λs⟨h,t⟩=>⟨(aL As).m s h,QY t s⟩)
structure aag(l:QR fk):Prop where
 bc:SS l
 lo:∀f∈l,0<Tp/\Tp<=1000
 up:∀f∈l,Ym<=1000
 nd:S7 (R1 (λf=>f.y))
def rn(l:QR fk):Nat:=l.foldl (λc f=>c*Tp) 1
def HL(l:QR fk)(f:fk):rn (l++[f])=rn l*Tp:=by unfold rn;rw[iD];rfl
def ak0(h:∀f∈l,0<Tp):0<rn l:=by
 induction l using w8 with
 |h0=>exact Nat.one_pos
 |h l f a=>rw[HL];exact Nat.mul_pos (a (YL (h g (gg.mpr (Qq hg))))) (h f Qj)
def aah(h:f∈l):Tp∣rn l:=by
 induction l using w8 with
 |h0=>cases h
 |h l g a=>
  rw[HL];rcases Vd h with h|h
  ·grind
  ·rw[ku]at h;subst h;exact Nat.dvd_mul_left _ _
def fh(c:Nat)(f:fk):Nk:= Zm (.i (-(fN c f))) (bC (toS f.y))
def ak1(c:Nat)(f:fk):TY (fh c f):=by
 obtain⟨a,g,b⟩:=sO _;have d:Qdu (fh c f):=by
  show Qv (true&&(true&&((NT.ok _&&(true&&(true&&(true&&true))))&&(true&&true))));rw[a];rfl
 have e:dp (fh c f)=3:=by
  show max (0+1) (max (max _ _+1) 1)=3;rw[b];rfl
 unfold good;rw[d,e];rfl
def ak2(x y:aw):Rm du (Zf (bC (toS x))) (Zf (bC (toS y))):=by
 show Qv (if bC _=bC _ then du .nil .nil else du _ _);split
 ·rfl
 ·exact zI _ _
def ak3(c:Nat)(f g:fk):Rm du (fh c f) (fh c g):=by
 show Qv (if Nk.i _=Nk.i _ then du _ _ else true);split
 ·exact ak2 _ _
 ·rfl
def ak4{f g}(h:fh c f=fh c g):f.y=g.y:=by
 injection h with h1 h2;injection h2 with h2 _;exact lh h2
def ak5{f g}(h:XJ (fh c f) (fh c g)):fN c g<fN c f\/(fN c f=fN c g/\YC f.y g.y):=by
 have h:Qv (if Nk.i _=Nk.i _ then b8 _ _ else decide _):=h;split at h
 ·rename_i e;injection e with e;refine Qy (Q_ Qa);have h:Qv (if bC _=bC _ then b8 .nil .nil else b8 _ _):=h;split at h
  ·cases h
  ·exact(nE _ _).mp h
 ·grind
def HM(T:Addr):Sp:=fM (λl=>[Bq T (R1 gS)]) aag (λl H v a=>(SA (l.foldr kM []) gS).p (cut H a) v/\bu kT H a/\eW T a)
def HN{d i:Type}{g}:∀ {l l2:List i},l.Perm l2-> ∀ {m:List d},l2=QG m g-> ∃c:List d,c.Perm m/\l=QG c g:=by
 intro l l2 h;induction h with
 |nil=>simp
 |cons x p k=>
  intro m e;cases m with
  |nil=>cases e
  |cons a m=>
   injection e with e1 e2;obtain⟨c,f,j⟩:=k e2;exact⟨a::c,Rc a f,Qm⟩
 |swap x y l=>
  intro m e;match m,e with
  |a::b::m,e=>
   injection e with e1 e2;injection e2 with e2 e3;exact⟨b::a::m,.swap a b m,Qm⟩
 |trans p q n o=>
  intro m e;obtain⟨m1,f,j⟩:=o e;obtain⟨m2,r,s⟩:=n j;exact Qh m2 (QH r f) s
section
variable{P:aO}{w:aA}{K:au}{mg:QQ}{base:Heap}{f C T cd:Addr}{fd:b_}
def _root_.L2.aP.ak6{x a:Str}{st:Stmt}{N ps:Uh}{k:Nat}{b:Sp}(F:aP K x a st f fd)(S:aY N ps (aK st))(len:∀vs H Q E,b vs H Q E->V1=Vk)
  (c:∀(A:di)(outer:List Env)(s:bH)(H:Hp)(vs:List V)(Q:VK)(E:XK),dt k (A.deeper (gW a (aK st) Qt f fd.code))->b vs H Q E-> ∃t,gv (lS az P w K mg base N a (aK st) f fd.code A Sx s H E).lQ (g_ st) t/\t QgA (L2.start N vs) H):ay P w K mg base az (k+1) f fd ps b:=by
 obtain⟨i,j,kV,l,pm,m,n,ct,o,rfl,lk,d⟩:=F.ex;refine J6 lk d S len (λA outer s H vs Q E e g=>?_);obtain⟨t,h,q⟩:=c A Sx s H vs Q E e g;exact Qh t h.lQ q
def ak7{st}{g}(F:aP K x e st f fd)(S:aY N ps (aK st))(l:ι->QO)(m:∀i,j9 (g i) (l i))(hl:∀i,Qx g i=Vk/\Qx l i=Qn N/\Vk<=Qn N)
  (n:∀A outer s H E i,dt k (A.deeper (gW e (aK st) Qt f fd.code))->pre i->Bl (lS az P w K mg base N e (aK st) f fd.code A Sx s H E).lQ H Tb [] (l i) (g_ st) {nx:=λ_ H'=>j i H .a9 H',rt:=λv H'=>j i H v H'}):
  ay P w K mg base az (k+1) f fd ps (fM g pre j):=
 F.ak6 S (λo H Q E⟨i,_,h,_⟩=>QgM) (λA outer s H o Q E p⟨i,t,h,q⟩=>Tn fZ (λy z I=>aR (n A Sx s H E i p t _ _ (zR h (m i) (hl i).2.1 Qgv) y z I) (λB s2 d=>by
   cases B with
   |next=>obtain⟨b,H',c,a⟩:=d;exact⟨b,H',c,q _ H' a⟩
   |brk=>obtain⟨b,H',c,a⟩:=d;exact a.elim
   |cont=>obtain⟨b,H',c,a⟩:=d;exact a.elim
   |ret u=>obtain⟨v,b,H',c,r,a⟩:=d;exact⟨v,b,H',c,r,q v H' a⟩)))
structure ak8(base:Heap)(mg:QQ)(fd:b_)(cd T:Addr):Prop where
 code:fd.code=Q1 cd
 hd:CodeHd base cd T
 blt:Qet mg T
end
def ak9(d:G[0]?=Rz .v Qb (Bq T As))(q:eW T H0->Bl X H0 a O (Qf4 0 (.v Qb (aL As))) b D):Bl X H0 a O G b D:=λe H c=>by
 obtain⟨y,g,v,rfl,f⟩:=c.sl 0 _ d;exact q f.2 e H (c.O5 d (λv hv=>hv.1))
def ala(X:Cx)(T cc:Addr)(params:uR)(body:Expr)(sc:eT):TE:=λe H Q=>eW T H/\ ∀b c pm d a,H b=none->a b=Qc (ud b cc c UX body sc pm d)->a c=RE ua c->bu kT H a->eW T a->R3 b a
def alb(c:HJ X b T)(hl:a.line=t_.line)(d:a.col=t_.col)(e:X.env.qual++QaO=nY)(f:closureFor sc Qg=Sy [((TM:Str),cc)])(g:defaultsOf UX Qg=([],[])):
  PE X (.Lambda UX body sc a) (ala X T cc UX body sc):=λi s j H Q I h=>akR I c h.1 hl d e f g h.2
def alc(s:bu kT H H'):af (fe H) H':=Q4 (by
 obtain⟨c,rfl,a⟩:=j5 e;exact s.at_ _ _ rfl a)
def ald(l:Lf A)(s:bu kT H H')(h:A.p H v):A.p H' v:=A.m (alc s) (l _ _ h)
def ale(h:(aT [aI k,aX y]).p H v):∃t,v=VN/\(eU H (Zm (.i k) (bC (toS y)))).1 VN:=by
 obtain⟨t,e,rfl,ht,a⟩:=h;cases a with
 |cons b a=>cases a with
  |cons c a=>
   cases a;subst b;obtain⟨f,rfl,d⟩:=hE.mp c;exact⟨t,rfl,t,_,_,rfl,ht,rfl,_,_,rfl,d.key.2,rfl⟩
def alf{p kp a}(o:X.mg YW=none)(t:PA X [e] k)(u:PK X [Qh QdY L kp] tk)(w:RY+8<bf)(hg:Gl X YW:=by rfl)
  (A:eC a (a_ [e] Qg)=UY::eC a (a_ [] Qg):=by rfl)(B:(eC a (a_ [e] X.env)).any (·.1)=false:=by rfl)(C:(fx a (fw [Qh QdY L kp] Qg)).all (·.1.isSome)=true:=by rfl)(E:(fx a (fw [Qh QdY L kp] Qg)).any (·.1.isNone)=false:=by rfl)(F:TV (fx a (fw [Qh QdY L kp] Qg)) (·.1)=[("key":Str)]:=by rfl):
  PE X (Qg5 (Qg4 YW) [e] [Qh QdY L kp] a) (λσ H Q=>k σ H (λvs d=>tk σ d (λks b=>∃(f g:Addr)(xs:Q8)(key:Nat->Nk),vs=[QbE]/\ks=[Q1 g]/\bF X.K b f xs/\Qu<64/\X6 qy (WB Qu key)/\
   (∀i v x pins' H' c,xs[i]?=Rg->SD v x->Inv X pins' σ H' c->af b H'->aj (aV Qr X.w) X.A.in1.in1 (U7 call g [x]) (EP X pins' σ (λr l=>af H' l/\ ∃m,r=Q1 m/\bV l (key i) m)) Tx c)/\
   ∀D(ys:List _)H',b D=none->H' D=none->af b H'->ys.Perm (zV key xs)->(ys.Pairwise λy z=>b8 y.1 z.1=true)->Q (.ref D) (upd H' D (.lst (ys.map (·.2))))))):=by
 refine λn s σ H Q I h=>pY (lO I hg o DL.ER (callWith_kw (aR (t a n s σ H _ I h) (λZ s1⟨vs,d,G,J,q1⟩=>aR (u a n s1 σ d _ G q1) (λkvs s2⟨ks,b,K,M,f,g,xs,key,N,O,hl,P,R,S,q⟩=>?_))) A B C E) QD QD);subst N O;rw[YH J,YH M,F];exact sortedK K hl P w R (λi v x pins' H' c hv T U j=>S i v x pins' H' c hv T U j) (λD ys H' n1 n2 j W Y=>q D ys H' n1 n2 j W Y)
section
variable{P:aO}{w:aA}{K:au}{mg:QQ}{base:Heap}{f C T cd:Addr}{fd:b_}
def Br:aY [Td,TM,"scored"] [Td] (aK rl):=QF
def alg:Stmt->uR×Expr×eT×Pos
 | .Return (some (.Call _ _ [⟨_,.Lambda a b s p,_⟩] _)) _=>(a,b,s,p)
 |_=>(⟨[],[],none,[],[],none,[]⟩,XB Sf 0 (U' 0 0 0),{kind:= .function,names:=[],isGenerator:=false,isCoroutine:=false},U' 0 0 0)
abbrev Bt:=alg (RG (g_ rl) 2 (.Pass (U' 0 0 0)))
def alh(x:Str)(h:Qav Bt.2.2.1 x=XQ\/Qav Bt.2.2.1 x=YZ):x=TM:=by
 have e:Bt.2.2.1.names=[((UR:Str),NameKind.local),((TM),yn)]:=rfl;by_cases a:x=TM
 ·exact a
 ·grind
def ali:HI Bt.2.2.1:=Xa rfl rfl alh VD rfl rfl
def alj(F:aP K QaP QaP rl f fd)(Tm:Top mg)(tb:ak8 base mg fd cd T):ay P w K mg base az 2 f fd [Td] (HM T):=by
 refine U5 ak7 F Br (λl=>[.v Qb (Bq T (R1 gS)),.u,.u]) (.o (.u (.u .e))) (λA outer C H E l hr a5=>?_);have a5:=a5;refine ak9 rfl (λtab=>?_);refine bG 1 ai Br.nd ?_;refine eP 2 (λk=>[.v Qb (SA l gS),Ra (rn Ui),.u]) rfl (aa 0) (QgI (RC Bp)) (bS Br.nd rfl QK) RP (λHs k g r=>?_) ?_
 ·have hg:=a5.lo g (bL r);refine bG 1 (vY (aa 1) (fG (aa 2) ai 2 rfl) (Qy (Z3 Qa))) Br.nd (bW (Vv (c.le ?_)));refine .eq rfl (.eq ?_ Ry);rw[Sm r,HL];rfl
 rw[cp];generalize hcm:rn l=a;have hcpos:0<a:=by rw[<-hcm];exact ak0 (YL (a5.lo g hg).1)
 have Q:HJ (lS az P w K mg base [Td,TM,"scored"] QaP (aK rl) f fd.code A Sx C H E).lQ cd T:=Qh tb.code tb.hd tb.blt;refine dA (dy (alf Tm.sorted (bb (pv 0) bh) (JZ (alb Q rfl rfl QB QB QB) JY) (by have:=hr.un;show(A.deeper (gW "by_score" (aK rl) C.heap.objs.size f fd.code)).units+8<bf;omega))) (λσ H1 c=>?_);obtain⟨_,e0,v0,rfl,la,d,rfl,hla,R⟩:=c.sl 0 _ rfl;obtain⟨_,e1,v1,rfl,S⟩:=c.sl 1 _ rfl;have S:=S;subst S;have hla1:=c.same _ _ hla;have hvl:WZ=QT:=by rw[bQ R,ak]
 have hf:=a5.bc;refine⟨_,e0,tab.keep R8,λfa c' pm ctv U n1 hfa hc' sk tab2=>?_⟩;have W:=Va R8 sk;let q:fk:=⟨Qe [] 0,0,(0,1),Qb⟩
 have hget:∀j,j<QT->l[j]?=Rz l.getD j q:=λj s=>Qm
 have hrow:∀j v,d[j]?=Rg->j<QT/\(gS (RG l j q)).p U v:=λj v hv=>by
  have s:j<QT:=by grind
  obtain⟨v',X,G⟩:=YF i1 R j (gS (RG l j q));rw[hv]at X;cases X;exact Qe s (ald Bp W G)
 refine⟨la,fa,d,λj=>fh a (RG l j q),rfl,rfl,Q6 (sk.at_ _ _ rfl hla1),Qa,?_,λj v x pins' L s' hv rv I M=>?_,λD ys L nD nD' M hp hw=>?_⟩
 ·have Y:∀k∈(dd d.length).map (λj=>fh a (l.getD j q)),∃g,k=fh a g:=λk r=>by
   grind
  refine⟨λk r=>?_,λk r k' hk'=>?_,?_⟩
  ·obtain⟨g,rfl⟩:=Y k r;rfl
  ·obtain⟨g,rfl⟩:=Y k r;obtain⟨g',rfl⟩:=Y k' hk';exact ak3 _ _ _
  ·rw[hvl];have e:WB QT (λj=>fh a (RG l j q))=R1 (fh a):=by
    apply iE;intro j;rw[cY,cY];by_cases s:j<QT
    ·grind
    ·grind
   rw[e];exact We ((iC.mp a5.nd).imp (Wh (ak4 e)))
 ·obtain⟨s,G⟩:=hrow j v hv;have hA':=(gS (RG l j q)).m M G;have Z:=bL (hget j s);generalize hgd:RG l j q=g at G hA' Z;have hglo:=a5.lo g Z;have hgup:=a5.up g Z;have ofa:=I.a5 fa _ (M _ _ hfa);have oc':=I.a5 c' _ (M _ _ hc');obtain⟨m,hn,hloc⟩:=I.loc;obtain⟨cu,rc,lk⟩:=hloc 1 TM (QL a) rfl e1 (eM QK);have hcell:s'.heap.IsCell (C.heap.objs.size+1) (Qc cu):=by
   rcases lk with⟨z,_⟩|⟨_,c2,hc2,hcv⟩
   ·exact Rk z QdF
   ·have:=hc2;cases this;exact hcv
  refine akP I ali (S_ I.ok.hd) I.ok.frames (by have:=hr.dp;show(A.deeper (gW "by_score" (aK rl) C.heap.objs.size f fd.code)).depth<x';omega) ofa.1 oc'.1 rfl (V' TM) hcell rc rv ?_;have c0:=zR (N:=[UR,TM]) (l:=[TX gS g,Ra (a:Nat)]) (Zm hA' rfl) (.n Bp (.n ag .e)) rfl YU;refine wV c0 (A:=aT [aI (-(((g.score.1:Nat):Int)*((a:Nat):Int)/((g.score.2:Nat):Int))),aX g.y]) (l9 (xd (afK (Mm (vY (fG (aa 0) ai 1 rfl) (aa 1) (Qq (Z3 Qa))) (fG (aa 0) ai 2 rfl) (Z3 Qa))) (xd (fG (aa 0) ai 3 rfl) bj))) (λu H3 s3 h3=>Q_ s3);obtain⟨t,rfl,r⟩:=ale ((aT _).m (dM (c0.keep s3).same) h3);refine Rn t (ak1 _ _) ?_;show(eU H3 (fh a (RG l j q))).1 _;rw[hgd];have ek: -(((g.score.1:Nat):Int)*((a:Nat):Int)/((g.score.2:Nat):Int))= -((fN a g:Nat):Int):=by
   unfold fN;rw[Int.natCast_ediv,Int.natCast_mul]
  rw[ek]at r;exact r
 ·let O:UI fk:=WB WZ (λj=>(RG l j q,RG d j .a9))
  have ez:zV (λj=>fh a (RG l j q)) d=Qcp O (fh a z.1,z.2):=by
   show WB WZ _=VA (WB WZ _);rw[cq];rfl
  have efst:Qcp O z.1=l:=by
   show VA (WB WZ _)=l;rw[cq,hvl];apply iE;intro j;rw[cY];by_cases s:j<QT
   ·grind
   ·grind
  have hFX:∀z∈O,(gS z.1).p (fe H) z.2:=λz B=>by
   obtain⟨j,s,rfl⟩:=RM B;have s:j<WZ:=fO.mp s;obtain⟨v',X,G⟩:=YF i1 R j (gS (RG l j q));show(gS (RG l j q)).p (fe H) (RG d j .a9);have ev:RG d j .a9=v':=by grind
   rw[ev];exact Bp _ _ G
  obtain⟨J,hm1,rfl⟩:=HN hp ez;have hout:Qcp J z.1=l.foldr kM []:=by
   have pm:(Qcp J z.1).Perm l:=by
    grind
   refine ajD (YL (a5.lo g hg).1) a5.nd pm (We ?_);have hw2:=iC.mp hw;refine uA (λ{y z}hy B h=>?_) hw2;have my:y.1∈l:=Qev (XH y hy);have mz:z.1∈l:=Qev (XH z B);have d1:=aah my;have d2:=aah mz;rw[hcm]at d1 d2;exact ajF hcpos d1 d2 (a5.lo _ my).1 (a5.lo _ mz).1 (ak5 h)
  have nH:H D=none:=W.fr D nD;have sf:af U (upd L D (.lst ((J.map λz=>(fh a z.1,z.2)).map (·.2)))):=Q4 (by
   by_cases hb:b=D
   ·grind
   ·rw[ax hb];exact M b o e)
  refine⟨Tt D (XE eG nH SX) ?_,W.trans (bu.of sf),tab2.keep sf⟩
  ·rw[<-hout];have Q:af (fe H) (cut H (upd L D (.lst ((J.map λz=>(fh a z.1,z.2)).map (·.2))))):=Q4 (by
    obtain⟨xs,rfl,e2⟩:=j5 e;exact l4 e2)
   have:∀m2:UI fk,(∀z∈m2,z∈O)->bJ (cut H (upd L D (.lst ((J.map λz=>(fh a z.1,z.2)).map (·.2))))) ((m2.map λz=>(fh a z.1,z.2)).map (·.2)) ((m2.map λz=>z.1).map gS):=λm2=>by
    induction m2 with
    |nil=>intro _;exact .nil
    |cons z m2 ih=>intro h;exact UP ((gS z.1).m Q (hFX z (h z Ru))) ih (λz B=>h z (bP _ B))
   exact this J (λz B=>hm1.mem_iff.mp B)
end
end DL
namespace DL
open PySem PySem.Spec L2 NT AT
open PyProof.Rows hiding St
open Vbdhaj(Sense less Found better putFound sensesOf equals paired over lowest act onTongues onSense toldSense)
abbrev HP:Stmt:=top 13
abbrev HQ:Stmt:=top 107
def alk{b:Bo}(s:bu kT H H')(h:(a8 C b).p H Wl):(a8 C b).p H' Wl:=by
 obtain⟨f,B,e,bk,r⟩:=h;obtain⟨c,d⟩:=bk.ob;exact⟨f,B,e,⟨Qe c (s.at_ _ _ rfl d),s.at_ _ _ rfl bk.lk,λa hs=>s.at_ _ _ rfl (bk.tg a hs),λa hs x hx=>s.at_ _ _ rfl (bk.sn a hs x hx),λa hs x hx t ht=>s.at_ _ _ rfl (bk.eq a hs x hx t ht),bk.inj⟩,r⟩
def alm(a:af H0 d)(s:bu kT d H'):af (cut d H') (cut H0 H'):=Q4 (by
 rcases j6 e with⟨c,f⟩|⟨g,rfl,c⟩
 ·rw[eG (a.free c)];exact f
 ·cases q:H0 b with
  |none=>rw[eG q];exact s.at_ _ _ rfl c
  |some o=>
   have:=a _ _ q;rw[c]at this;cases this;exact l4 q)
def i_(b:Bo)(s c t:Nat)(x y:aw):Ri fk:=let n:=Qx (av b s c x).filter (λu=>Xb (av b t c y) u);if n=0 then none else Qc ⟨y,n,lowest (2*n) (Qn (av b s c x)+Qn (av b t c y)),b6 b s t x y⟩
def aai(b:Bo)(s c t:Nat)(x:aw):over b s c t x=(TV (ae b t) (i_ b s c t x)).foldr kM []:=rfl
def aaj(h:i_ b s c t x y=Qc f):f.y=y/\f.known=b6 b s t x y:=by
 unfold i_ at h;dsimp only at h;split at h
 ·cases h
 ·cases h;exact Vh
def aln{b c:Type}{f}{g:c->b}(hg:∀x y,f x=V7->g y=x):∀ {l:List b},S7 l->S7 (QG (TV l f) g)/\ ∀y∈(l.filterMap f).map g,y∈l
 |[],_=>Z2 Qj
 |a::l,h=>by
  grind
def aak(a:0<n)(c:n<=80)(b:0<m)(d:m<=80):lowest n m=(n/lD n m,m/lD n m)/\0<lD n m/\0<m/lD n m/\m/lD n m<=1000/\n/lD n m<=1000:=by
 have hg:0<lD n m:=Nat.gcd_pos_of_pos_left _ a;refine⟨Qa4,hg,Nat.div_pos (Nat.gcd_le_right _ b) hg,bp (Nat.div_le_self _ _) Qa,bp (Nat.div_le_self _ _) Qa⟩
def alo{b:Bo}(d:aH b)(i:To c)(ht:Q2):aag (TV (ae b t) (i_ b s c t x)):=by
 have one:∀f∈(ae b t).filterMap (i_ b s c t x),0<Tp/\Tp<=1000/\Ym<=1000:=λf a=>by
  obtain⟨y,l,e⟩:=gk.mp a;unfold i_ at e;dsimp only at e;split at e
  ·cases e
  ·rename_i o;cases e;have p:=Zk d.hH s x i;have q:=Zk d.hH t y i;have r:=eX (λu=>Xb (av b t c y) u) (av b s c x);obtain⟨e,_,q1,j,k⟩:=aak (n:=2*Qx (av b s c x).filter (λu=>Xb (av b t c y) u)) (m:=Qn (av b s c x)+Qn (av b t c y)) Qa Qa Qa Qa;rw[e];exact Qh q1 j k
 exact⟨bp (lu _ _) (d.bc t ht),λf a=>Qe (one f a).1 (one f a).2.1,λf a=>(one f a).2.2,(aln (λy f h=>(aaj h).1) (ee (d.cA t ht))).1⟩
def aal(C T:Addr):Sp:=fM (ι:=Addr×Bo×Nat×Nat×Nat×aw) (λ(ob,b,s,c,t,x)=>[gf C T ob b,aI s,aI c,aI t,aX x]) (λ(_,b,s,c,t,x)=>QE/\To c/\Q2/\x∈ae b s/\aH b) (λ(_,b,s,c,t,x)H v a=>(SA (over b s c t x) gS).p (cut H a) v/\bu kT H a/\eW T a)
section
variable{X:Cx}{H0 Hb:Hp}{O:QZ}{G:QO}{e:Expr}{g:Bool}{As:R7}{T:Addr}
def aam{n:Nat}(h:Sn e n):Sn (.BinOp (Qax 2 j a) .Mult e b) (2*n:Nat):=
 (vY ai h (Qq (Qe QD QD))).eq QB
def aan{n m:Nat}(h:Sn e n)(c:Sn a m)(h0:0<m)(d:m<=1000):Sn (.BinOp e .FloorDiv a b) (n/m:Nat):=
 (Mm h c (Z3 Qa)).eq (by rw[Int.natCast_ediv])
def alp(h:Ev X H0 O G e g (aL As))(a:eW T H0)(hs:a_ [e] Qg=UY::a_ [] Qg:=by rfl):l6 X H0 O G [e] [Bq T As]:=Qbi (xa h ao hs Hb b H Q c (λd f s1 i=>q d f s1 (by
  cases i with
  |cons r t=>exact Rc ⟨r,QY a (Qaz c s1)⟩ t)))
end
section
variable{P:aO}{w:aA}{K:au}{mg:QQ}{base:Heap}{f C T:Addr}{fd:b_}
def pK:aY [Qk,"s","c","t","x","own",Td,"y","others",Yo,"together","divisor"] [Qk,"s","c","t","x"] (aK HP):=QF
def alq(F:aP K QfN QfN HP f fd)(L:ef P w K mg base C)(J:aE P w K mg base 1 QdK ["one",Vo] E5)(M:aE P w K mg base 1 QeW ["one",Vo] MD)(C3:aE P w K mg base 2 QaP [Td] (HM T)):ay P w K mg base az 3 f fd [Qk,"s","c","t","x"] (aal C T):=by
 refine U5 f_ F pK (λ(ob,b,s,c,t,x)=>[.v Qb (gf C T ob b),Rr,Ra c,RT,Xw,.u,.u,.u,.u,.u,.u,.u]) (.o (.n ag (.n ag (.n ag (.n cK (.u (.u (.u (.u (.u (.u (.u .e)))))))))))) (λW A outer X H E⟨ob,b,s,c,t,x⟩g⟨hs,d,ht,hx,a⟩=>?_);refine uc rfl (λN=>?_);refine bG 5 (cB Rp Xv g (b,s,c,x) ⟨hs,d,hx,a⟩ ((aa 0).imp VJ) (xa (aa 1) (xa (aa 2) (xa (aa 4) ao)))) pK.nd ?_;refine ec 6 bj pK.nd Wk;refine eP 7 (λk=>[.v Qb (gf C T ob b),Rr,Ra c,RT,Xw,TX bw (av b s c x),.w q (QG (Zi (ae b t) (i_ b s c t x)) gS),.u,.u,.u,.u,.u]) rfl (cB Rp L.bA g (b,t) (Qe ht a) ((aa 0).imp VJ) (xa (aa 3) ao)) Qw (bS pK.nd rfl QK) RP (λY k y p=>?_) ?_
 ·have O:=bL p;have r:Qcu (ae b t) (i_ b s c t x)=Zi (ae b t) (i_ b s c t x)++TH (i_ b s c t x y):=by
   rw[Sm p,n9];cases h:i_ b s c t x y<;>simp[h]
  refine bG 8 (cB Rp Xv g (b,t,c,y) ⟨ht,d,O,a⟩ ((aa 0).imp VJ) (xa (aa 3) (xa (aa 2) (xa (aa 7) ao)))) pK.nd ?_;have Z:=Zk a.hH s x d;have Q:=Zk a.hH t y d;have z:=eX (λu=>Xb (av b t c y) u) (av b s c x);have j:i_ b s c t x y=if shared (av b s c x) (av b t c y)=0 then none else Qc ⟨y,shared (av b s c x) (av b t c y),lowest (2*shared (av b s c x) (av b t c y)) (Qn (av b s c x)+Qn (av b t c y)),b6 b s t x y⟩:=rfl;have R:shared (av b s c x) (av b t c y)<=Qn (av b s c x):=z;obtain⟨n,D⟩:∃n,shared (av b s c x) (av b t c y)=n:=Yv;rw[D]at j R;refine bG 9 (x_call J g (av b s c x,av b t c y) ⟨ee (a.l_ d),a.hH d,a.hH d⟩ (xa (aa 5) (xa (aa 8) ao)) (by show aI _=_;rw[D])) pK.nd ?_;refine cW (l7 (aa 9) ai) Qae Qae
  ·have l:=Yz l
   rw[(Qa4)]at j;obtain⟨S,G,g1,g2,g3⟩:=aak (n:=2*n) (m:=Qn (av b s c x)+Qn (av b t c y)) Qa Qa Qa Qa;rw[S]at j;have I:=bp (Nat.gcd_le_left (Qn (av b s c x)+Qn (av b t c y)) (show 0<2*n by omega)) (show 2*n<=1000 by omega);refine bG 10 ((jt (dZ Tq (aa 5)) (dZ Tq (aa 8))).eq (B:=aI (Qn (av b s c x)+Qn (av b t c y))) Qj) pK.nd ?_;refine bG 11 (x_call M g (2*n,Qn (av b s c x)+Qn (av b t c y)) RQ (xa (aam (aa 9)) (xa (aa 10) ao)) rfl) pK.nd ?_;refine fH 6 (l9 (xd (aa 9) (xd (aan (aam (aa 9)) (aa 11) G I) (xd (aan (aa 10) (aa 11) G I) (xd (aa 7) bj))))) (c7 (bW (λU H c=>c.le ?_))) ?_
   ·rw[r,j,bO];repeat(first|exact .nil|refine .u ?_|refine .eq rfl ?_)
   ·have:=lu (i_ b s c t x) (T8 (ae b t));have Q:=ft p;have z:=a.bc t ht;rw[ak];exact qN Qa
  ·have l:=Qbe l;rw[(ZH)]at j;refine c7 (bW (λU H c=>c.le ?_));rw[r,j,Option.toList_none,dR];repeat(first|exact .nil|refine .u ?_|refine .eq rfl ?_)
 ·rw[cp];refine d9 6 (mu (i8 C3 g (TV (ae b t) (i_ b s c t x)) (alo a d ht) (alp (aa 6) N.2)) (λH1 v H' s1⟨m1,m2,V⟩=>Qh ?_ (Va s1 m2) V));rw[aai];exact(aL _).m (alm s1 m2) m1
def jD(s c t:Int):Bool:=mZ s t&&(dS c 1 3&&(c !=s&&c !=t))
def xk(s c t:Int):df [s,c,t]=if jD s c t=true then 0 else-2:=by
 unfold df jD mZ dS o3;simp;by_cases a:(¬s=c/\ ¬s=t)/\ ¬c=t
 ·omega
 ·omega
def HR(h:T2 jD s c t):∃m k n:Nat,s=m/\c=k/\t=n/\W6/\To k/\X4/\m≠n/\(k≠m/\k≠n):=by
 unfold jD at h;rw[bX]at h;obtain⟨m,n,rfl,rfl,b,d,e⟩:=eJ h.1;have a:=h.2;unfold dS at a;simp at a;exact⟨m,c.toNat,n,rfl,Qa,rfl,b,Tv,d,e,Qa,Qa⟩
end
def xl(b:Bo)(s c t:Int)(u:Qo)(f:Nat->Nat->aw->Bo×Qo):Bo×Qo:=cR b s t (λs t=>if(dS c 1 qf&&(c !=e8 s&&c !=e8 t))=false then iM b (-2)else h8 b s u (f s t))
def alr(h:¬T2 jD s c t):(xl b s c t u f).2=[-2]:=by
 by_cases a:Ua
 ·obtain⟨m,n,rfl,rfl,d,e,g⟩:=eJ a;refine nM d e g ?_;rw[Qp (by
   unfold jD at h;rw[a,uj]at h;exact eq_false_of_ne_true h)]
  rfl
 ·exact nN a
def aao{m k n:Nat}(h:T2 jD m k n):xl b m k n u f=h8 b m u (f m n):=by
 have a:=h;unfold jD at a;rw[bX]at a;obtain⟨e,g,c,d,i,j,l⟩:=eJ a.1;have c:m=e:=by omega
 have d:n=g:=by omega
 subst c d;unfold xl;rw[mn i j l,Qs (by
  have:Qv (dS k 1 qf&&(k !=e8 m&&k !=e8 n)):=a.2;rw[this];decide)]
def als(a:r=cx b VM u)(h:dg (df [s,c,t]) r≠0)(f:Nat->Nat->aw->Bo×Qo):(xl b s c t u f).2=[dg (df [s,c,t]) r]:=by
 by_cases d:T2 jD s c t
 ·obtain⟨m,k,n,rfl,rfl,rfl,g,i,j,l,_⟩:=HR d;rw[aao d];rw[xk,Qp d]at h⊢;have h:r≠0:=h;show _=[r];rw[wC];have a:r=cx b m u:=a;unfold cx at a;cases e:gM b m u with
  |error z=>rw[e]at a;rw[a]
  |ok z=>grind
 ·rw[alr d,xk,Qs d];rfl
def alu(j:T2 jD s c t->r=cx b VM u)(h:dg (df [s,c,t]) r=0):∃(m k n:Nat)(x:aw),s=m/\c=k/\t=n/\W6/\To k/\X4/\x∈ae b m/\dJ u=RE toS x/\ ∀f,xl b s c t u f=f m n x:=by
 by_cases a:T2 jD s c t
 ·obtain⟨m,k,n,rfl,rfl,rfl,d,l,g,o,_⟩:=HR a;have p:dg (df [m,n]) r=0:=by
   rw[xk,(VR)]at h;rw[eV,Qp (Oe d g o)];exact h
  obtain⟨q,w,x,i,y,_,_,_,e,hx,v,_⟩:=Gi (λ_=>j a) p;have i:m=q:=by omega
  subst i;refine⟨m,k,n,x,rfl,rfl,rfl,d,l,g,hx,v,λf=>?_⟩;rw[aao a,wC,e]
 ·rw[xk,(W2)]at h;cases h
def xm(f:fk):Qo:=Vbdhaj.ints [f.between,Ym,Tp,if f.known=true then 1 else 0]++kI f.y
def aap{b:Bo}(h:f∈over b s c t x):f.y∈ae b t/\f.known=b6 b s t x f.y:=by
 obtain⟨y,a,e⟩:=gk.mp (X_ (t4 _) h);obtain⟨rfl,d⟩:=aaj e;exact Qe a d
def alv{b:Bo}(a:aH b)(ht:Q2):SS (over b s c t x):=by
 rw[aai,Qdw (t4 _)];exact bp (lu _ _) (a.bc t ht)
section
variable{P:aO}{w:aA}{K:au}{mg:QQ}{base:Heap}{f C T:Addr}{fd:b_}
def n0:aY [Qk,"s","c","t",RJ,Uz,"x",Td,ZD,Yo,"upper","lower","y"] [Qk,"s","c","t",RJ] (aK HQ):=QF
def alw(F:aP K "ask_over" "ask_over" HQ f fd)(L:f9 P w K mg base C)(V:aE P w K mg base 3 QfN [Qk,"s","c","t","x"] (aal C T)):ay P w K mg base az 8 f fd [Qk,"s","c","t",RJ] (P9 C T):=by
 refine U5 f_ F n0 (λ(ob,b,s,c,t,u)=>[.v Qb (gf C T ob b),Rr,Ra c,RT,.v Qb (a4 u),.u,.u,.u,.u,.u,.u,.u,.u]) (.o (.n ag (.n ag (.n ag (.o (.u (.u (.u (.u (.u (.u (.u (.u .e))))))))))))) (λcdv A outer sh H E⟨ob,b,s,c,t,u⟩y⟨a,hl⟩=>?_);refine uc rfl (λJ=>?_);refine gN 5 (r:=dg (df [s,c,t]) (cx b VM u)) (ju (Qel L.rt y [s,c,t] (by show 3<=1000;decide) cE (xd (aa 1) (xd (aa 2) (xd (aa 3) bj))) ao) (λI=>j8 ?_)) n0.nd (λl v M B h=>?_) (λI=>?_)
 ·have W:T2 jD s c t:=by
   rw[xk]at I;by_cases X:T2 jD s c t
   ·exact X
   ·grind
  obtain⟨m,k,n,rfl,rfl,rfl,D,N,l,hne,_⟩:=HR W;exact VZ L.rs y (b,m,u) (Qh D a hl) (aa 0) VJ (xa (aa 1) (xa (aa 4) ao))
 ·have e:(act b [[9,s,c,t],u]).2=[dg (df [s,c,t]) (cx b VM u)]:=als rfl l _;refine iy B ?_ (P_ (.d hl) b) J a;rw[e];exact h
 ·obtain⟨m,k,n,x,rfl,rfl,rfl,D,N,l,hx,Y,Z⟩:=alu Vn I;have eA:act b [[9,m,k,n],u]=r0 b (e8 (Qn (over b m k n x))::RW (over b m k n x) xm):=Z (λs t x=>r0 b (e8 (Qn (over b s k t x))::RW (over b s k t x) xm));have hov:=alv a (s:=m) (c:=k) (x:=x) l;have hfz:∀z∈over b m k n x,Qx xm z<=20:=λz hz=>by
   have:=ml (a.gd l z.y (aap hz).1);show QP (_++kI z.y) 20;rw[b0];simp[Vbdhaj.ints];omega
  refine bG 6 (x_call L.rd y u hl (xa (aa 4) ao) (A:=aX x) (by show eH aS (dJ u)=_;rw[Y];rfl)) n0.nd ?_;refine AS 7 (i8 V y (ob,b,m,k,n,x) ⟨D,N,l,hx,a⟩ (xa (aa 0) (xa (aa 1) (xa (aa 2) (xa (aa 3) (xa (aa 6) ao)))))) n0.nd (λσ H1 v H2 G⟨m1,m2,m3⟩=>?_);have bt1:=(a8 C b).m G.same J.1.2;have O:=alk m2 bt1;have Q:=G.re m2.tl (λq hq=>by cases hq) (Wf (by
   have e:=hv.1.1;subst e;rw[fK];exact O) (.n ag (.u (.n ag (.u (.u (.n cK (.u (.u (.u (.u (.u Ry))))))))))))
  rw[fK]at Q;have c2:=Q.set (i:=7) (g:=Qb) ((aL _).m (OG m2.tl) m1);refine Bl.at ?_ c2;refine ec 8 (xd ai (xd ((dZ Tq (aa 7)).eq WE) bj)) n0.nd Wk;refine wb [9,10,11,12] (λj=>[.v Qb (a8 C b),W3,.u,Yw,.u,.u,Xw,.v Qb (SA (over b m k n x) gS),.w q (iv (Qn (over b m k n x)) (over b m k n x) xm j),.u,.u,.u,.u]) rfl (aa 7) (dQ (bS n0.nd rfl QK) (dQ (bS n0.nd rfl QK) (dQ (bS n0.nd rfl QK) (dQ (bS n0.nd rfl QK) jY)))) Vn RP (λHs j z R=>?_) ?_
  ·have hzm:=bL R;obtain⟨S,hkn⟩:=aap hzm;have hln:=Qce pz (Qn (over b m k n x)) j hfz 800;have hts:=ml (a.gd l z.y S);refine hG 8 (cE (xd ((aa 9).up ag) (xd ((aa 10).up ag) (xd ((aa 11).up ag) bj)))) Qw ?_ ?l1;case l1=>rw[bK];simp;omega
   refine fH 8 (A:=aI (if z.known=true then 1 else 0)) (o9 (f6 (cB Rp L.we y (b,m,n,x,z.y) (Qh D l a) (aa 0) (xa (aa 1) (xa (aa 3) (xa (aa 6) (xa (aa 12) ao)))) (A:=aB z.known) (hR:=by show aB _=_;rw[hkn]))) (λU=>ai.eq (by rw[if_pos U])) (λU=>ai.eq Qm)) ?_ ?l2;case l2=>rw[bK,b0];simp;omega
   refine hG 8 (x_call L.cs y z.y (a.gd l z.y S) (xa (aa 12) ao) (A:=a4 (kI z.y))) Qw (bW (Vv (c.le ?_))) ?l3;case l3=>rw[bK,b0,b0,ak];simp;omega
   refine .eq rfl (.eq rfl (.u (.eq rfl (.u (.u (.eq rfl (.eq rfl (.eq ?_ (.u (.u (.u Ry)))))))))));rw[px R,eK,eK];unfold xm;rw[bO];cases z.known<;>rfl
  ·refine d9 8 (aU (aa 8) (λv M B h=>?_));rw[pA]at h;show postA C T ob (act b [[9,QW m,QW k,Y9],u]) H v M;rw[eA];exact⟨ra (Va G.same m2.tl) h,ZW (bu.of G.same) m2.tl (bu.of B),(a8 C b).m B O,m3.keep B,a⟩
end
end DL
namespace NT
open PySem PySem.Spec PyProof.Rows
section
variable{prog:aO}{w:aA}{A:di}{E:SR}{s:bH}
def alx(t:RS+5<bf)(B:(d==eS)=Qb)(g:(VI).is Ql k a)(h:s.heap.DictOfH VI d xs)(hz:Qu<=bq)
  (u:∀p tk,atKey xs k=Qc p->Q p.2 {s with toks:=tk})
  (v:atKey xs k=none-> ∀h' tk,h'.DictOfH VI d (xs++[(k,a,c)])->dN d Ql h'->Q c Xg):
  aj QA A (call (VS "dict.setdefault") [WY,QS,c]) Q E s:=by
 have i:=h.typeIs;obtain⟨o,C,y,b,z,hd,f,l,m⟩:=h;have n:(VI).room UZ:=r_ t;refine fv IQ i PySem.F.entry_dict_setdefault ?_ (PySem.F.args_dict_setdefault_3 _ _ _);refine ab ?_;refine ab (xX i ?_);refine ah ?_;show aj _ _ (if(d==eS)=true then _ else(dictSetDefault d _ c>>=_)) _ _ s;rw[(ZG)];refine ab ?_;unfold dictSetDefault;try with_reducible refine fj ?_
 refine ab ((VI).pyHash n g (ab (wpAny_dictFind_heap n g b hd f l m Wk (λj p r=>by refine ab (jN b hd ?_);rw[rP f j,r];exact ab (rM (ah (ah ⟨_,rfl,u p _ (atKey_of_get m r)⟩)))))))
 ·have D:=not_mem_keys_of_get q;refine ab (rM (ab (wpAny_updateDictKeys (hz:=by have e:=x8 f;omega) b hd (ah (ah (SE (v (atKey_none_of_get q) _ _ ⟨_,_,y+1,oq _ b (Obj.isFreed_of_dict (yp hd _)),z.mapDictKeys _,yp hd _,by simp[f,uO],?_,Qm⟩ ZE)))))))
  ·intro x hx;rcases Vd hx with hx|hx
   ·exact(VI).keeps (l x hx) b hd ZE
   ·simp []at hx;subst hx;exact(VI).keeps g b hd ZE
end
end NT
namespace L2
open PySem PySem.Spec PyProof.Rows
def aly{σ:St}(o:RS+5<bf)(I:QI)(e:H a=Qa5)(g:bV H k b)(hl:Ta<bq)(r:U0)
  (t:∀x h d,cO kvs k=Qz->YV d->SD x h->Q h d)
  (w:cO kvs k=none-> ∀d,SM (upd H a (.dT (putK kvs k v))) d->Q u d):aj (aV Qr X.w) A (call (VS "dict.setdefault") [QS,SI,u]) Q E s:=by
 obtain⟨z,hd,f,rel,y⟩:=Dl Rb e
 obtain⟨_,_,C⟩:=Dt I (WA kvs (Qq e));refine NT.alx o C (g9 Rb g) y (by rw[<-bQ rel];exact z) (λp i j=>?_) (λD P i F hs=>?_)
 ·have hv:=rel.val k;cases q:cO kvs k with
  |none=>
   rw[q,j]at hv;exact Rk hv QdF
  |some x=>
   rw[q,j]at hv;exact t x _ _ q (I.tok i) hv
 ·have hv:=rel.val k;have l:cO kvs k=none:=by
   cases q:cO kvs k with
   |none=>rfl
   |some x=>
    rw[q,D]at hv;exact Rk hv QdF
  refine w l _ ?_;obtain⟨q,G,J,m,g2,K,L,_,M⟩:=F
  have O:KT H (putK kvs k v) (f++[(k,b,u)]):=by
   rw[lV _ l];exact jT rel (Qba g r)
  exact vt I Qcy hs (Qe q m) ⟨by have:=y8 kvs k v;omega,hd,f++[(k,b,u)],O.keeps (λc R n=>by rw[ax (CG n e (λz=>nomatch z))];exact n),q,G,J,m,g2,K,L,M⟩
section
variable{prog:aO}{w:aA}{A:di}{E:SR}{s:bH}
def alz(hit:s.heap.IsValIter it d i n b)(h:RV d=Qc g)(j:g.data=Ve e b)(hsz:RH e=n)(k:e[i]?=Qc en)
  (l:∀h',h'.IsValIter it d (i+1) n b->dN it Ql h'->Q (Qc en.val) Xi):aj QA A (jQ WI) Q E s:=by
 obtain⟨p,c,m,a⟩:=id hit;refine ab (p9 (rJ Tw uW (fv uW Tw IK (ab (ah (ab (ab ?_)))) (IJ _))));refine ab (xW Tw (ah (ab (rL c a ?_))))
 simp only[];refine ab (ah (ab (jN h j ?_)));rw[(QeN)];refine ab (ah (ab (oi h j ?_)));rw[(Y1)];refine ah ?_;simp [k];refine ab ?_;refine ab (xW Tw (ah (ab (B8 Tw ?_))))
 show aj _ _ (setField _ 1 _>>=_) _ _ s;refine ab (p0 c a Qj ?_);have f:((s.heap.update it (yr (·.setIfInBounds 1 (gZ (i+1))))).IsValIter) it d (i+1) n b:=⟨_,oq _ c (yo (ou a _)),QH (yq ..) m,by rw[ou a];simp[gZ]⟩;exact ab (fj (ab (B8 f.typeIs (ab (B8 f.typeIs (ah (ah (SE (ah (l _ f ZE))))))))))
def alA(l:VH=none)(hit:s.heap.IsValIter it d i n g)(j:RV d=Qc h)(k:h.data=Ve c g)(hsz:RH c=n)(r:n<=i)
  (o:∀h',yk it Ql h'->Q none Xi):aj QA A (jQ WI) Q E s:=by
 obtain⟨t,e,u,f⟩:=id hit;refine ab (p9 (rJ Tw uW (fv uW Tw IK (ab (ah (ab (ab ?_)))) (IJ _))));refine ab (xW Tw (ah (ab (rL e f ?_))))
 simp only[];show aj _ _ _ _ _ s;refine ab (ah (ab (jN j k ?_)));rw[(QeN)];refine ab (ah (ab (oi j k ?_)));rw[(Y1)];refine ah ?_;have q:RH c<=i:=by omega
 simp [xx q];refine ab ?_;refine ab (xW Tw (ah (?_:aj _ _ (setField _ 0 .none>>=_) _ _ s)))
 refine ab (p0 e f Qj (ab ?_));refine ab (jM (ab (uN QB (jM ?_ QcD))) QcD);refine ab (wpAny_handled ?_);rw[l];refine ab (ah (wpAny_throw ?_));exact ab (kC (Qek _ (cH _ rfl)) isSubtype_stop (ah (o _ (((ZE).extBut.push _).push _))))
def alB(hv:s.heap.IsValuesView v d)(c:RV d=Qi)(e:Si=Ve a b)
  (f:Q UA {s with heap:=S5 {cls:= SV QgN,data:= Vw (#[.ref d,.int 0 0,.int a.size 0,.int b 0])}}):aj QA A (lH (Q1 v)) Q E s:=by
 obtain⟨j,g,k,h⟩:=id hv;refine uL hv.typeIs F.slot_dict_values_iter (fv F.slot_dict_values_iter hv.typeIs F.entry_dict_values_iter ?_ (F.args_dict_values_iter_1 _));refine ab (ah (ab ?_));refine ab (wpAny_field g h rfl (ah (ab ?_)));refine ab (jN c e (ab (oi c e ?_)));have i:Builtin.Dict_items.ownsTuple QgN=Qb:=by decide
 simp only[i,mG,if_false];refine jM (ah ⟨_,rfl,QgN,_,Sz _ (cH _ rfl),uW.lookup,?_⟩);simpa[gZ]using f
def alC{R:SR}(hd:(d==eS)=Qb)(a:RV d=Qi)(hx:o.ExactDict)(h:R UA {s with heap:=S5 {cls:= SV "dict_values",data:= Vw (#[.ref d])}}):
  aj QA A (iI.«dict.values» (Wd [WY])) (λb c=> ∃v,b= .done (.ret v)/\R v c) E s:=by
 refine ab ?_;refine ab (xX (SF a hx.1) (ah ?_));unfold Cd;rw[(ZG)];exact ab (ah (ab (jM (ah (SE h)))))
def aaq(d:Addr)(o:Obj)(kvs:UI NT.Nk):It:=
 ⟨λi H=>H d=Uc (.dT kvs)/\i<Ta,λi H x a=>a=H/\ ∃k,Qam=Se k x,λi H=>H d=Uc (.dT kvs)/\Ta<=i⟩
end
def Inv.HS{σ:St}(I:QI)(h:H d=Uc (.dT kvs)):
  (d==eS)=Qb/\RV d=Qi/\QfP/\ ∃(a:Array _)(c:Nat),Si=Ve a c/\RH a=Ta/\ ∀(i:Nat)k v,Qam=Se k v-> ∃(en:rO),a[i]?=Qc en/\SD v en.val:=by
 obtain⟨hd,z,hs,f,g,r,a,c,j,hx,m,l,_⟩:=I.a5 d _ h;rw[hd]at j;cases j;exact⟨hs,hd,hx,a,c,m,by have l1:=x8 l;have l2:=bQ g;omega,λi k v e=>by obtain⟨b,n,t,u,p⟩:=Dy g e;have q:=rP l i;rw[n]at q;exact⟨_,q,p⟩⟩
section
variable{P:aO}{w:aA}{K:au}{tg:Expr}{d:Addr}{o:Obj}{es:SO rO}{ep:Nat}
def alD(it:Addr)(B:Si=Ve es ep):Turn P w K tg (aaq d o kvs) [it] it (λi h=>h.IsValIter it d i Ta ep)where
 mem:=by simp
 obj:=λi h st b a=>by
  have e:=by simpa using a
  subst e;obtain⟨g,e,c,m⟩:=st;exact Qh g e Qgz
 keep:=λi h j st k=>st.at (λg e=>k it Qj g e)
 item:=by
  intro X n q r C i D s F H E I l st hg;obtain⟨hd,hi⟩:=hg;obtain⟨f0,f1,f2,f3,t,u⟩:=l it Qj;obtain⟨hs,x,hx,M,N,f,y,G⟩:=I.HS hd;obtain⟨rfl,rfl⟩:=sD B f;obtain⟨⟨k,v⟩,J⟩:∃p,Qam=Qc p:=⟨kvs[i],cN hi⟩;obtain⟨en,O,R⟩:=G i k v J;refine alz st x f y O (λj L S=>?_);obtain⟨g,e,c,m⟩:=id L;exact Ss en.val (qm e c m QD ⟨v,H,I.turned (t':=Tg) (Qdv (Rx S.2 b a e)) f0 f1 f3 t u,R,Qba k J,L,λb a=>(l b a).1⟩)
 done:=by
  intro X n q r C i D s F H E I l st hg;obtain⟨hd,hi⟩:=hg;obtain⟨f0,f1,f2,f3,t,u⟩:=l it Qj;obtain⟨hs,x,hx,M,N,f,y,G⟩:=I.HS hd;obtain⟨rfl,rfl⟩:=sD B f;exact alA (VC C) st x f y hi (λj U=>RL (I.turned (Qdv (U b ob a e)) f0 f1 f3 t u))
 self:=Qdg (wpAny_pyIter_valiter st h)
end
def alE(c:TE):TI:=λe H R=>c e H (λx a=> ∃d o b,x=WY/\a d=Uc (.dT b)/\R (aaq d o b) a)
section
variable{X:Cx}{tg e:Expr}{td:TE}{apos cpos:Pos}
def alF(j:PE X e td)(k:kE e "values" Qg Qah=Qah:=by rfl)(l:Qv (QbL):=by rfl):PI X tg (YJ e "values" []) (alE td):=by
 refine λc s f H R I h=>Ca k rfl l Cm F.slot_dict_values F.type_dict_values (aR (j c s f H _ I h) (λu s1⟨x,m,g,n,d,o,v,ex,hd,q⟩=>?_));subst ex;obtain rfl:u=bD d:=n;obtain⟨hs,a,hx,w,y,i,p,_⟩:=g.HS hd;refine Rv (SF a hx.1) (λb q=>by cases q;exact⟨o,a,hx.2.1⟩);have t:aj (aV Qr X.w) X.A (lH (Q1 Zw)) (yR X c f tg R) Q3 {s1 with heap:=s1.heap.push {cls:= SV "dict_values",data:= Vw (#[.ref d])}}:=by
  refine alB (Zp _ (cH _ rfl)) (bM _ a) i (za (g.kept (λb ob q=>bM _ q)) _ (alD _ i) (Wb _ (cH _ rfl) ?_) q);rw[p]<;>rfl
 exact yh rfl (PySem.evalArgs_none (fv F.slot_dict_values (SF a hx.1) F.entry_dict_values (alC hs a hx t) (F.args_dict_values_1 _)))
end
def alG(g ty h:TE):TE:=λe H Q=>g e H (λx f=> ∃a,x=QS/\Ds f a/\ty e f (λy i=>h e i (λz d=> ∃c k b,d a=ZN c/\y=SI/\bV d k b/\Qn c<bq/\(∀v,cO c k=Rg->Q v d)/\(cO c k=none->Q z (upd d a (.dT (putK c k z)))))))
def alH(t:RY+5<bf)(w:PE X o n)(A:PE X e ty)(B:PE X f p)(m:M2 X o "setdefault" j e f l):PE X (UM (Yy o "setdefault" j) [e,f] l) (alG n ty p):=by
 refine λc s g H Q I h=>Ca m.base m.bc m.line Cm IQ PySem.F.type_dict_setdefault (aR (w c s g H _ I h) (λu s1⟨x,C,q,D,a,ex,d,q1⟩=>?_));subst ex;obtain rfl:u=bD a:=D;obtain⟨E,F,_⟩:=Dt q d;refine Rv E F;rw[m.trees];refine yh rfl (Cg (rR (aR (A c s1 g C _ q q1) (λG s2⟨y,J,K,L,M⟩=>rR (aR (B c s2 g J _ K M) (λY s3⟨z,Z,N,r,kvs,k,b,O,P,R,hl,S,T⟩=>uV ?_))))));subst P;obtain rfl:G=bD b:=L;exact aly t N O R hl r (λv w' U hv i V=>⟨v,_,i,V,S v hv⟩) (λW U i=>⟨z,_,i,r,T W⟩)
end L2
namespace DL
open PySem PySem.Spec L2 NT AT
open PyProof.Rows hiding St
open Vbdhaj(Sense sensesOf equals paired members)
abbrev Bu:Stmt:=top 22
def fu:QC->Nk
 |[]=> .nil
 |x::a=> UP (bC (toS x)) fu a
def aar:∀ {xs ys:List aw},fu xs=fu ys->xs=ys
 |[],[],_=>rfl
 |[],_::_,h=>by cases h
 |_::_,[],h=>by cases h
 |x::xs,y::ys,h=>by
  injection h with h1 h2;rw[lh h1,aar h2]
def aas:∀xs,Qdu (fu xs)/\QJ kP (fu xs)/\dp (fu xs)<=3
 |[]=>Qhq
 |x::xs=>by
  obtain⟨b,a,e⟩:=aas xs;obtain⟨c,f,d⟩:=sO _;exact⟨by show((NT.ok _&&(true&&(true&&(true&&true))))&&(kP _&&NT.ok _))=true;rw[c,b,a];rfl,a,by show max (max _ (max (0+1) 1)+1) _<=3;omega⟩
def alI(xs:QC):TY (fu xs):=by
 obtain⟨a,b,c⟩:=aas xs;unfold good;rw[a,b,Ze (bp c QD)];rfl
def aat:∀ {xs:List aw}{vs:List V},bJ H vs (Ti aX)->(eU H (fu xs)).2 vs
 |[],_,h=>by cases h;rfl
 |x::xs,_,h=>by
  cases h with
  |cons r t=>
   obtain⟨b,rfl,a⟩:=hE.mp r;exact Uu a.key.2 (aat t)
def alJ(h:(aT (Ti aX)).p H v):∃t,v=VN/\bV H (fu xs) t:=by
 obtain⟨t,c,rfl,ht,a⟩:=h;refine Rn t (alI xs) ?_;cases xs with
 |nil=>cases a;exact Ss t ht
 |cons x xs=>
  cases a with
  |cons r q=>
   obtain⟨d,rfl,b⟩:=hE.mp r;exact⟨t,_,_,rfl,ht,b.key.2,aat q⟩
abbrev Gz:Type:=(QC×QC)×Addr
def u9(z:Gz):Nk×V:=(fu z.1.1,Q1 z.2)
def alK{zs:QR Gz}(h:cO QbX (fu k)=Rg):∃z∈zs,z.1.1=k/\v=Q1 z.2:=by
 induction zs with
 |nil=>cases h
 |cons z zs a=>
  by_cases e:fu z.1.1=fu k
  ·rw[cg,nc e]at h;cases h;exact⟨z,Ru,aar e,rfl⟩
  ·rw[cg,nf e]at h;obtain⟨b,c,d⟩:=a h;exact Qh b (bP _ c) d
def alL{zs:QR Gz}(h:cO QbX (fu k)=none):U_ (z.1.1≠k):=by
 induction zs with
 |nil=>intro z b;cases b
 |cons z zs c=>
  by_cases e:fu z.1.1=fu k
  ·rw[cg,nc e]at h;cases h
  ·rw[cg,nf e]at h;intro d a;rcases RA a with rfl|a
   ·grind
   ·exact c h d a
section
variable{H0 H H' Hb:Hp}{O:QZ}{G:QO}{σ:St}
def xn(G:QO):Prop:= ∀i:Nat,(Ts).bind V_=none
def aau(h:H a=Y7):af (fe H) (fe (upd H a o)):=λb x e=>by
 obtain⟨d,rfl,c⟩:=j5 e;have:b≠a:=λz=>by rw[z,h]at c;cases c
 exact vT (by rw[ax this];exact c)
def alM(h:H a=Qa5):af (fe H) (fe (upd H a o)):=λb x e=>by
 obtain⟨d,rfl,c⟩:=j5 e;have:b≠a:=λz=>by rw[z,h]at c;cases c
 exact vT (by rw[ax this];exact c)
def Bv(s:af H H'):af (fe H) (fe H'):=λb x e=>by
 obtain⟨c,rfl,a⟩:=j5 e;exact vT (s _ _ a)
def Cf.HU(c:Cf H0 Hb O G σ H)(k:xn G)(h:a∈O)(l:QJ vU o):Cf H0 Hb O G σ (upd H a o):=by
 refine⟨λb x e=>?_,by rw[o6 h];exact c.snap,λq m=>?_,c.len,λi s hi=>?_,c.nd,c.k9⟩
 ·have:b≠a:=λz=>by rw[z,(c.fr a h).1]at e;cases e
  rw[ax this];exact c.same _ _ e
 ·obtain⟨f,x,j,n⟩:=c.fr q m;by_cases e:q=a
  ·exact⟨f,o,by rw[e,aC],l⟩
  ·exact⟨f,x,by rw[ax e];exact j,n⟩
 ·obtain⟨x,f,j⟩:=c.sl i s hi;refine Rv x f;have hs:=by have:=k i;rw[hi]at this;exact this
  cases s with
  |u=>trivial
  |v g A=>
   obtain⟨v,e,p⟩:=j;refine Rv v e;cases g with
   |true=>show A.p (bs H0 O _) v;rw[o6 h];exact p
   |false=>exact p
  |w q r=>cases hs
  |d q t=>cases hs
def Cf.alN(c:Cf H0 Hb O G σ H)(f:xn G):Cf H0 Hb [] G σ H:=by
 have a:af (bs H0 O H) (bs H0 [] H):=Q4 (gF Qj (qF e).2);refine⟨R8,c.snap.trans a,λq h=>(by cases h),c.len,λi s hi=>?_,c.nd,jf⟩;obtain⟨x,j,k⟩:=c.sl i s hi;refine Rv x j;have hs:=by have:=f i;rw[hi]at this;exact this
 cases s with
 |u=>trivial
 |v g A=>
  obtain⟨v,e,p⟩:=k;refine Rv v e;cases g with
  |true=>exact A.m a p
  |false=>exact p
 |w q l=>cases hs
 |d q m=>cases hs
structure iz(H0 Hs:Hp)(G:QO)(gs:TU QC QC)(q:Addr)(O:QZ)(zs:QR Gz)(σ:St)(H:Hp):Prop where
 c:Cf H0 Hs O G σ H
 s3:σ[3]?=XC q
 qO:q∈O
 dq:H q=ZN QbX
 nd:(zs.map (·.2)).Nodup
 at_:U_ (z.2∈O/\z.2≠q/\ ∃vs,H z.2=Y7/\bJ (fe H) vs (z.1.2.map aX))
 gs:zs.map (·.1)=gs
 nk:(zs.map (·.1.1)).Nodup
def iz.hit{gs}{zs}(T:iz H0 i G gs q O zs σ H)(k:xn G){c}(hz:c∈zs)(hv:(aX x).p (fe H) v)(hl:H c.2=Y7):
  iz H0 i G (q4 c.1.1 x gs) q O (Yc ((z.1.1,if z.1.1=c.1.1 then z.1.2++[x]else z.1.2),z.2)) σ (UN c.2 (vs++[v])):=by
 obtain⟨n,r,E,j,s⟩:=T.at_ c hz;rw[hl]at j;cases j;have f:=aau (o:=YE (vs++[v])) hl;refine⟨T.c.HU k n rfl,T.s3,T.qO,by rw[ax (fP r),T.dq,cq];rfl,by rw[cq];exact T.nd,λz t=>?_,by unfold q4;rw[if_pos (kv.mpr ⟨c.1,by rw[<-T.gs];exact cQ.mpr ⟨c,hz,rfl⟩,by simp⟩),<-T.gs,cq,cq];rfl,by rw[cq];exact T.nk⟩
 ·obtain⟨d,g,rfl⟩:=RM t;obtain⟨g1,g2,u,w,A⟩:=T.at_ d g;refine Rv g1 g2;by_cases e:d.1.1=c.1.1
  ·have B:=by
    have:=T.nk;have inj:∀ {l:List Gz},(l.map (·.1.1)).Nodup->∀a∈l,∀b∈l,a.1.1=b.1.1->a=b:=λ{l}=>by
     induction l with
     |nil=>intro _ a h;cases h
     |cons y l C=>
      grind
    exact inj this d g c hz e
   rw[B];refine Rv (vs++[v]) aC;rw[(SX),bO];exact jT (s.m f) ((aX x).m f hv)
  ·have D:=λq=>by
    have inj:∀ {l:List Gz},(l.map (·.2)).Nodup->∀a∈l,∀b∈l,a.2=b.2->a=b:=λ{l}=>by
     induction l with
     |nil=>intro _ a h;cases h
     |cons y l C=>
      grind
    exact e (by rw[inj T.nd d g c hz q])
   refine Rv u (by rw[ax D];exact w);rw[(W5)];exact A.m f
def iz.add{gs}{zs}(T:iz H0 r G gs q O zs σ H)(s:xn G)(hv:(aX x).p (fe H) v)(hl:H l=none)(t:U_ (z.1.1≠k))(B:cO QbX (fu k)=none):
  iz H0 r G (q4 k x gs) q (l::O) (zs++[((k,[x]),l)]) σ (SG (upd (UN l i) q (.dT (putK QbX (fu k) Uj))) l [v]):=by
 have j:l≠q:=λe=>by rw[e,T.dq]at hl;cases hl
 have s1:af H (UN l i):=TL hl;have u:af _ (fe (SG (upd _ q (.dT (putK QbX (fu k) Uj))) l [v])):=
  ZW (Bv s1) (alM (by rw[ax (fP j)];exact T.dq)) (aau (by rw[ax j,aC]))
 have J:∀g∈gs,g.1≠k:=YL (by
  rw[<-T.gs]at hg;obtain⟨z,c,rfl⟩:=RM hg;exact t z c)
 refine⟨((T.c.own hl s1 aC rfl).HU s (o:= .dT _) (bP _ T.qO) rfl).HU s (o:=YE [v]) Ru rfl,T.s3,bP _ T.qO,by rw[ax (fP j),aC,L2.lV _ B,bO];rfl,?_,λz c=>?_,?_,?_⟩
 ·rw[bO,je];refine Qh T.nd Qj (λa n b d e=>?_);have d:=by simpa using d
  obtain⟨z,c,rfl⟩:=RM n;obtain⟨_,_,w,f,_⟩:=T.at_ z c;rw[e,d,hl]at f;cases f
 ·rcases Vd c with c|c
  ·obtain⟨F,y,w,f,I⟩:=T.at_ z c;have A:z.2≠l:=λe=>by rw[e,hl]at f;cases f
   exact⟨bP _ F,y,w,by rw[ax A,ax y,ax A];exact f,I.m u⟩
  ·have c:=by simpa using c
   subst c;exact⟨Ru,j,[v],aC,Zf ((aX x).m u hv)⟩
 ·unfold q4;rw[Qs (λh=>by
   grind),bO,T.gs];rfl
 ·rw[bO,je];refine Qh T.nk Qj (λa n b d e=>?_)
  obtain⟨z,c,rfl⟩:=RM n;exact t z c (QH e Z_)
end
def Bw(gs:TU QC QC):a6:=⟨λH v=>∃d o zs,v= .ref d/\H d=some (.gr o (.dT (uz u9 zs)))/\zs.map (·.1)=gs/\∀z∈zs,(bw z.1.2).p H (.ref z.2),λs⟨d,o,zs,e,h,g,q⟩=>⟨d,o,zs,e,s _ _ h,g,Vf ((bw z.1.2).m s (q z a))⟩⟩
def alO[Qbl a][Qbl κ]{g:κ×VQ}(h:g∈gc f xs):(∀x∈g.2,x∈xs)/\g.2.length<=Qu:=by
 obtain⟨x,hx,e⟩:=gk.mp h;split at e
 ·grind
 ·cases e
def aav[Qbl a][Qbl κ]{f:a->κ}:Tj gc f xs Qu:=lu _ _
def HV{st}(h:PS X st t)(q:t {D with nx:=wB X a D} σ H):wB X (st::a) D σ H:=λb s I=>dC h fZ b s σ H D I q
def aaw(h:D.nx σ H):wB X [] D σ H:=λa s I=>fb a s σ H D I h
def iz.keep{gs}{zs}(T:iz H0 a G gs q O zs σ H)(s:af H H'):iz H0 a G gs q O zs σ H':=⟨T.c.keep s,T.s3,T.qO,s _ _ T.dq,T.nd,λz b=>let⟨h1,h2,vs,h3,h4⟩:=T.at_ z b;⟨h1,h2,vs,s _ _ h3,h4.m (Bv s)⟩,T.gs,T.nk⟩
def iz.st{gs}{zs}(T:iz H0 a G gs q O zs σ H)(c:Cf H0 a O G b H)(h:b[3]?=XC q):iz H0 a G gs q O zs b H:=⟨c,h,T.qO,T.dq,T.nd,T.at_,T.gs,T.nk⟩
def alP(b:Bo)(s t:Nat):((gc (av b s t) (bg b s t)).map (·.2)).filter (λl=>decide (1<l.length))=iK b s t:=by
 rw[ajH];refine wZ (λx _=>?_);have e:XI (bg b s t) (av b s t z=av b s t x)=Qen (bg b s t) (av b s t z==av b s t x):=jJ (λz _=>Qm)
 show(if((bg b s t).filter λz=>decide _).head?=some x/\2<=((bg b s t).filter λz=>decide _).length then some ((bg b s t).filter λz=>decide _)else none)=_;rw[e]
def alQ:S4 HO
 | .lst _=>true
 | .tup _=>true
 |_=>false
def alR{a:R_}(h:(SA a bw).p H v):(SA a bw).p (hJ alQ H) v:=by
 obtain⟨t,c,rfl,ht,d⟩:=h;refine RF t c (tS ht rfl) ?_;clear ht;induction a generalizing c with
 |nil=>cases d;exact .nil
 |cons l a f=>
  cases d with
  |cons r q=>
   refine Rc ?_ (f _ q);obtain⟨g,i,rfl,j,k⟩:=r;exact RF g i (tS j rfl) ((Me k nB).m (Q4 (by obtain⟨s,rfl,n⟩:=j5 e;exact tS n rfl)))
def alS{a b:Type}{l:VQ}{d}{pf}{F:a->b}:Uo (dd QT) (λk=>pf (RG l k d)) (λk=>F (RG l k d))=Uo l pf F:=by
 have e:WB QT (λk=>RG l k d)=l:=by
  apply iE;intro j;by_cases c:j<QT
  ·grind
  ·grind
 conv=>rhs;rw[<-e,ry,cq]
 rfl
def alT(h:Qeq [] e A)(g:∀v H',af H0 H'->af a H'->A.p (cut H0 H') v->D.rt v H'):∀σ,Cf H0 b [] G σ a->wB X (.Return Xr f::d) D σ a:=
 λσ c=>HV (dy a7) (h b σ a _ c (λv i s1 j=>g v i (Qaz c s1) s1 (A.m EG j)))
section
variable{P:aO}{w:aA}{K:au}{mg:QQ}{base:Heap}{f C:Addr}{fd:b_}
def xo:aY [Qk,"s","t","groups","x","group"] QX (aK Bu):=QF
abbrev uf(C:Addr)(b:Bo)(s t:Nat):QO:=[.v Qb (a8 C b),Rr,RT,.u,.u,.u]
def HW(C:Addr)(b:Bo)(s t:Nat):xn (uf C b s t):=λi=>by
 match i with
 |0=>rfl
 |1=>rfl
 |2=>rfl
 |3=>rfl
 |4=>rfl
 |5=>rfl
 |n+6=>rfl
def alU(F:aP K "twins" "twins" Bu f fd)(L:tL P w K mg base C):ay P w K mg base az 3 f fd QX (XF i3 C (SA (iK b s t) bw)):=by
 refine Us xo (U8 (uf C b s t)) (.n ag (.n ag (.u (.u (.u .e))))) (λcdv A outer sh H E⟨b,s,t⟩N⟨hs,ht,hb⟩=>?_);have hun:=N.units;refine dA (fU xo.nd (i:=3) rfl QK vu QB Qw) (λY H1 c q U=>?_);have s1:af H1 (upd H1 q (.dT [])):=TL U;have c1:=Qbg (c.own U s1 aC rfl).js 3 .u (UK q) (λr N=>nomatch N);have hσ:(Y.set 3 (some (.ref q)))[3]?=Qc (QaA q):=uq (by have:6=Y.length:=c.len;omega);have hmem:SS (bg b s t):=bp (eX _ _) (hb.bc s hs);have hnd:S7 (bg b s t):=Xc (ee (hb.cA s hs));have T0:iz H Tb (uf C b s t) (gc (av b s t) (Rf (bg b s t) 0)) q [q] [] (Y.set 3 (UK q)) (upd H1 q (.dT [])):=⟨c1,hσ,S_ ku.mpr,aC,jf,(λz I=>by cases I),rfl,jf⟩;refine HV (h_ eN rfl (iT a7) (WC 4 xo.nd) fZ (by intro _;rfl)) ?_;refine(?_:Qf7 _ H [q] (uf C b s t) _ (bw (bg b s t))) _ _ _ _ c1 (λv Z s3 h3=>?_)
 ·exact Xd L.N' N (b,s,t) hs ht hb (xa (aa 1) (xa (aa 2) ao)) 
 obtain⟨la,vs,rfl,hv,hp⟩:=h3;have hlen:V1=Qn (bg b s t):=by rw[bQ hp,ak]
 have T1:iz H (bs H [q] Z) (uf C b s t) (gc (av b s t) (Rf (bg b s t) 0)) q [q] [] (Y.set 3 (UK q)) Z:=⟨(T0.c.keep s3).sR,T0.s3,T0.qO,s3 _ _ T0.dq,jf,(λz I=>by cases I),rfl,jf⟩;refine Rn la (Qbu vs (eI (c1.keep s3) hv)) (lR (λk B J=> ∃O zs,iz H (bs H [q] Z) (uf C b s t) (gc (av b s t) (T8 (bg b s t))) q O zs B J) (Tn _ T1) (λk B J _⟨O,zs,T⟩=>Q6 (l5 T.c.same _ _ (T.c.snap _ _ hv))) (λk y B J hk⟨O,zs,T⟩=>?_) (λB J⟨O,zs,T⟩=>?_))
 ·have hkl:=Ub hk;obtain⟨x,hx⟩:∃x,(bg b s t)[k]?=Qz:=⟨(bg b s t)[k]'(by omega),cN Qa⟩;have hxm:=bL hx;obtain⟨y',hy',hA⟩:=YF i1 hp k (aX x);rw[hk]at hy';cases hy';have hA2:=(aX x).m T.c.snap hA;have hxs:=jw hxm;have hxt:=λh=>by
   have e:=n8 k (bg b s t);have hd:x∈(bg b s t).drop k:=by
    grind
   rw[<-e,je]at hnd;exact hnd.2.2 x h x hd rfl
  have eg:gc (av b s t) (YM (bg b s t))=q4 (av b s t x) x (gc (av b s t) (T8 (bg b s t))):=by rw[(WS),ajG _ hxt]
  have c3:=T.c.set (i:=4) (g:=true) hA2;have cU:=Qbg T.c.js 4 .u V7 (λr N=>nomatch N);have h3':(B.set 4 (some y))[3]?=Qc (QaA q):=by rw[xC QD];exact T.s3
  have h4':(B.set 4 (some y))[4]?=Qc V7:=uq (by have:6=B.length:=T.c.len;omega);refine HV (iS (j1 jR mP oo oP (alH (by show(A.deeper (gW "twins" (aK Bu) sh.heap.objs.size f cdv)).units+5<bf;omega) (pv 3) a7 (ic bh) (Rn rfl rfl rfl)) (bb (pv 4) bh)) QB) ?_;refine⟨_,h3',q,rfl,WA _ (Qq T.dq),wV c3 (afQ L.tm.tuple (cB Rp Xv N (b,s,t,x) ⟨hs,ht,hxs,hb⟩ (aa 0) (xa (aa 1) (xa (aa 2) (xa (aa 4) ao))) (A:=bw (av b s t x))) nB) (λkv H4 s4 h4=>⟨cG _,QfU⟩)⟩;have s5:af H4 (SG H4 l []):=TL hl;have T4:=QY (T.st cU h3') s4;have T5:=T4.keep s5;obtain⟨kb,rfl,hkey⟩:=alJ ((aT _).m (dM (c3.keep s4).same) h4);have hy4:(aX x).p (fe H4) y:=(aX x).m (Bv s4) (cK _ _ ((aX x).m (l5 T.c.same) hA2));have hzl:Vl<=40:=by
   have e:=YG T.gs;rw[ak]at e;have:=aav (f:=av b s t) (xs:=T8 (bg b s t));have h2:Qx (bg b s t).take k<=40:=by grind
   omega
  refine⟨QbX,fu (av b s t x),kb,T5.dq,rfl,hkey.keep (λ_ _ e=>s5 _ _ e),YS,λv hv=>?_,λhv=>?_⟩
  ·obtain⟨z0,hz0,M,rfl⟩:=alK hv;obtain⟨g1,g2,ws,g3,g4⟩:=T5.at_ z0 hz0;have g5:ws.length<=40:=by
    rw[bQ g4,ak];have hm:z0.1∈gc (av b s t) (T8 (bg b s t)):=by rw[<-T.gs];exact XH z0 hz0
    have:=(alO hm).2;rw[n']at this;omega
   refine⟨Yd _ g3,_,h4',z0.2,ws,y,rfl,rfl,g3,Z',aaw ⟨O,Yc ((z.1.1,if z.1.1=z0.1.1 then z.1.2++[x]else z.1.2),z.2),?_⟩⟩;rw[eg,<-M];exact T5.hit (HW C b s t) hz0 ((aX x).m (Bv s5) hy4) g3
  ·refine⟨Qg6 _ (bF.of (K:=K) (xs:=[]) ?_),_,h4',l,[],y,rfl,rfl,?_,by rw[bK];exact Nat.zero_lt_succ _,aaw ⟨l::O,zs++[((av b s t x,[x]),l)],?_⟩⟩
   ·have hlq:l≠q:=λe=>by rw[e,T4.dq]at hl;cases hl
    rw[ax hlq,aC]
   ·have hlq:l≠q:=λe=>by rw[e,T4.dq]at hl;cases hl
    rw[ax hlq,aC]
   ·rw[eg];exact T4.add (HW C b s t) hy4 hl (alL hv) hv
 ·rw[hlen,cp]at T;show wB _ _ _ B J;generalize hgs:gc (av b s t) (bg b s t)=gs at T;have hT:(gs.map (·.2)).filter (λl=>decide (1<l.length))=iK b s t:=by rw[<-hgs];exact alP b s t
  have hgl:gs.length<=40:=by rw[<-hgs];exact bp (aav (f:=av b s t) (xs:=bg b s t)) hmem
  have nq:H q=none:=(T.c.fr q T.qO).1;have cF:=T.c.alN (HW C b s t);refine Aa (Qq T.dq) (Pr:=λW v X=>(SA (iK b s t) bw).p (cut H X) v) (λW hl⟨od,fz⟩=>?_) (λW v X Hf hl I sl p' hf hd=>?_);rotate_left
  ·have sH:af H Hf:=λx o e=>by
    have hx:x≠q:=λz=>by rw[z,nq]at e;cases e
    rw[hf x hx];exact sl _ _ (by rw[hl x hx];exact T.c.same _ _ e)
   refine Qe sH (a6.m _ Qfp (alR p'));obtain⟨e1,S⟩:=GF e;obtain⟨od,I⟩:=I;rcases j6 e1 with⟨g1,g2⟩|⟨xs,rfl,g1⟩
   ·have hx:x≠q:=λz=>by rw[z,sl _ _ I]at g2;cases g2;cases S
    rw[eG g1,hf x hx];exact g2
   ·exact l4 g1
  have sHl:af H W:=λx o e=>by
   have hx:x≠q:=λz=>by rw[z,nq]at e;cases e
   rw[hl x hx];exact T.c.same _ _ e
  have aG:(Bw gs).p (bs H [] W) UD:=by
   refine⟨q,od,zs,rfl,gF Qj (by rw[eG nq];exact fz),T.gs,λz I=>?_⟩;obtain⟨g1,g2,ws,g3,g4⟩:=T.at_ z I;refine RF z.2 ws (gF Qj (by rw[eG (T.c.fr z.2 g1).1,hl _ g2];exact g3)) (g4.m Qfp);obtain⟨xs,rfl,S⟩:=j5 e;have hx:x≠q:=λz=>by rw[z,T.dq]at S;cases S
   exact gF Qj (k7 sHl (by rw[hl x hx];exact S))
  have cm:Cf H Tb [] [.v Qb (a8 C b),Rr,RT,TX Bw gs,.u,.u] B W:=by
   obtain⟨_,e0,v0,rfl,h0⟩:=T.c.sl 0 _ rfl;obtain⟨_,e1,v1,rfl,h1⟩:=T.c.sl 1 _ rfl;obtain⟨_,S,v2,rfl,h2⟩:=T.c.sl 2 _ rfl;have hln:6=Qn B:=T.c.len;refine⟨sHl,(Q4 QbI),λq U=>(by cases U),hln,λi sl hi=>?_,λi j q hi hj=>?_,jf⟩
   ·match i,hi with
    |0,hi=>cases hi;exact Rl _ e0 _ h0
    |1,hi=>cases hi;exact Rl _ e1 _ h1
    |2,hi=>cases hi;exact Rl _ S _ h2
    |3,hi=>cases hi;exact Rl _ T.s3 _ aG
    |4,hi=>cases hi;exact Tn (cN Qa) RQ
    |5,hi=>cases hi;exact Tn (cN Qa) RQ
    |n+6,hi=>cases hi
   ·match i,hi with
    |0,hi=>cases hi
    |1,hi=>cases hi
    |2,hi=>cases hi
    |3,hi=>cases hi
    |4,hi=>cases hi
    |5,hi=>cases hi
    |n+6,hi=>cases hi
  refine alT (H0:=H) (G:=[.v Qb (a8 C b),Rr,RT,TX Bw gs,.u,.u]) (Nv gs.length (λk=>QV (1<Qn (gs.getD k ([],[])).2)) (λk=>bw (gs.getD k ([],[])).2) (λk=>[.v Qb (a8 C b),Rr,RT,TX Bw gs,.u,TX bw (gs.getD k ([],[])).2]) (own:=[("group",5)]) rfl xo.nd (alF (pv 3)) Z' (fc QB) (VB 5 xo.nd) (λHb σ2 Ha R c q'=>?_) (λk hk D s H C cl fp=>v9 ((l7 ((dZ Tq (aa 5)).eq WE) ai).eq (Qdc Qa))) (λk hk hp D s H C cl fp=>aa 5)) (λv X s1 s2 h=>(?_:af W X/\(SA (iK b s t) bw).p (cut H X) v)) B cm
  ·obtain⟨_,e3,v3,rfl,d,o,zs2,rfl,hd,hgz,hall⟩:=c.sl 3 _ rfl;have hd2:Ha d=Uc (.dT (zs2.map u9)):=l5 R8 _ _ hd;refine⟨_,e3,d,o,zs2.map u9,rfl,hd2,q' _ Ha RK (λk J hk s2=>Qe (Q_ (s2 _ _ hd2)) (λx X yl=>?_)) (λJ s2=>Q_ (s2 _ _ hd2))⟩
   ·grind
   ·obtain⟨rfl,kk,M⟩:=yl;refine⟨RK,λD acc hD hacc Q r=>?_⟩;have c2:=c.own hD s2 hacc rfl;rw[cY]at M;cases ez:zs2[k]? with
    |none=>rw[ez]at M;cases M
    |some z=>
     rw[ez]at M;have M:RE u9 z=Se kk x:=M;cases M;have I:=bL ez;have eg:gs.getD k ([],[])=z.1:=by
      grind
     have hA:=(bw z.1.2).m (vW hD R8 s2) (hall z I);have c3:=(Qbg c2.js 5 .u none (λq U=>nomatch U)).set (i:=5) (g:=true) (A:=bw z.1.2) (v:=Q1 z.2) hA;refine r _ ?_ (by show((σ2.set 5 none).set 5 _).set 5 none=σ2.set 5 none;rw[gV,gV]);rw[eg];exact c3
   ·grind
  ·refine Q_ s2;rw[<-hT];have e:=alS (l:=gs) (d:=([],[])) (pf:=λg:List aw×List aw=>QV (1<g.2.length)) (F:=λg:List aw×List aw=>bw g.2);rw[e]at h;rw[ry,cq];exact h
end
end DL
namespace DL
open PySem PySem.Spec L2 NT AT
open PyProof.Rows hiding St
open Vbdhaj(Sense sensesOf equals paired members act onTongues toldSenses)
abbrev HX:Stmt:=top 110
def aax{b:Bo}{g}(h:g∈iK b s t):(∀x∈g,x∈bg b s t)/\Qcr g (bg b s t):=by
 obtain⟨x,hx,e⟩:=gk.mp h;dsimp only at e;split at e
 ·grind
 ·cases e
section
variable{P:aO}{w:aA}{K:au}{mg:QQ}{base:Heap}{f C:Addr}{fd:b_}
def xp:aY [Qk,"s","t",Uz,Td,ZD,"group"] QX (aK HX):=QF
def alV(F:aP K QfS QfS HX f fd)(L:f9 P w K mg base C)(J:aE P w K mg base 3 "twins" QX (XF i3 C (SA (iK b s t) bw))):ay P w K mg base az 5 f fd QX (hP C 16):=by
 refine R4 xp (.n ag (.n ag (.u (.u (.u (.u .e)))))) (λS A outer T H E⟨b,s,t⟩l a=>?_);refine gN 3 (Yx L.rt l [s,t] (xa (cE (xd (aa 1) (xd (aa 2) bj))) ao)) xp.nd (λd v M y h=>Qe y (by obtain⟨O,Q⟩:=wG d;rw[Q]at h;show(a4 (cR b s t _).2).p _ _;rw[nN O];exact h)) (λN=>?_)
 ·obtain⟨m,n,rfl,rfl,j,d,R⟩:=eJ (nO N);have B:SS (bg b m n):=bp (eX _ _) (a.bc m j);have U:SS (iK b m n):=bp (lu _ _) B;have hg:∀g∈iK b m n,(∀x∈g,cM x)/\SS g:=YL ⟨Sv (a.gd j x (jw ((aax hg).1 x hx))),bp (aax hg).2 B⟩;have D:∀g∈iK b m n,Qx h7 g<=1000:=λg h=>by
   have:=mm (hg g h).1;have:=(hg g h).2;omega
  refine bG 4 (Xd J l (b,m,n) j d a (xa (aa 1) (xa (aa 2) ao))) xp.nd (ec 5 (xd ai (xd ((dZ Tq (aa 4)).eq WE) bj)) xp.nd (λq=>eP 6 (λk=>[.v Qb (a8 C b),W3,Yw,Ra 0,Zt (QG (iK b m n) bw),.w q (iv (Qn (iK b m n)) (iK b m n) h7 k),.u]) rfl (aa 4) Qw (bS xp.nd rfl QK) RP (λV k z G=>by have I:=bL G;have W:=Qce pz (Qn (iK b m n)) k D 40000;refine hG 5 (Ud L.pk l z (hg z I) 6) Qw (bW (λX H c=>c.le (by refine .eq rfl (.eq rfl (.eq rfl (.eq rfl (.eq rfl (.eq ?_ (.u .nil))))));rw[px G]))) (by have:=D z I;rw[ak,bK];omega)) (by refine d9 5 (aU (aa 5) λv M y h=>⟨y,?_⟩);rw[pA]at h;show(a4 (cR b m n _).2).p _ _;rw[nM j d R rfl];exact h)))
end
end DL
namespace NT
open PySem PySem.Spec PyProof.Rows TB
def ug:Slot Qaa "__next__" QgF:= .of (owner:=Qaa) (n:="__next__") VE VD VD VD (by exact .inl (by decide+kernel)) VE
def aay:Slot Qaa "__iter__" QgG:= .of (owner:=Qaa) (n:="__iter__") VE VD VD VD (by exact .inl (by decide+kernel)) VE
def aaz:qa table QgF=Qc iI.«set_iterator.__next__»:=entryFor_of_tree VE
def alW:qa table QgG=Qc iI.«dict_keyiterator.__iter__»:=ya (id':="dict_keyiterator.__iter__") VE rfl VD VE
def alX:qa table "set.__iter__"=Qc iI.«frozenset.__iter__»:=ya (id':="frozenset.__iter__") VE rfl VD VE
def aaA:Manifest.owners.lookup (String.ofList ['r','o','t','a','r','e','t','i','_','t','e','s'].reverse)=Qc Manifest.sig_set_iterator:=by kernel_rfl
def aaB(a:aJ):argsOk QgF (Wd [a]):=by
 unfold argsOk;rw[signature?_of (n:=['_','_','t','x','e','n','_','_']) VE aaA];kernel_rfl
def alY(a:aJ):argsOk QgG (Wd [a]):=by
 unfold argsOk;rw[signature?_of (n:=['_','_','r','e','t','i','_','_']) VE aaA];kernel_rfl
def i'(w:aA)(a:Addr)(c:Nat)(b:WV):WV:=if QJ bY w then pickOrder (w.params.setOrder a c) b else b
def aaC(w:aA)(a:Addr)(c:Nat)(b:WV):Qdn (i' w a c b) Xo:=by
 unfold i';split
 ·exact K9 _ _
 ·exact .refl _
def Bx(w:aA)(a:Addr)(c:Nat)(b:WV):RH (i' w a c b)=RH b:=by
 have:=Qdw (aaC w a c b);simpa using this
def slotAt(w:aA)(t:lF):Nat->Nat
 |0=>0
 |i+1=>if QJ bY w then 0 else t.place.getD i 0+1
def alZ(y:Lay t b L)(d:bY w=Qb):∀i,i<=Wt->Cp t.place (slotAt w t i)=i
 |0,_=>by
  have c:=zc (by rw[y.pl];exact y.inc) 0;rcases Nat.eq_zero_or_pos (Cp _ 0)with h|h
  ·exact h
  ·have hl:=c.le;obtain⟨x,hx⟩:∃x,t.place.toList[0]?=Qz:=V0 cN Qa;exact QbB (c.lo 0 x h hx) rF
 |i+1,hi=>by
  have inc:k4 t.place.toList:=by rw[y.pl];exact y.inc
  have f:t.place.toList.length=Wt:=by rw[y.pl,ak]
  obtain⟨x,hx⟩:∃x,QgU=Qz:=V0 cN Qa;have e:slotAt w t (i+1)=x+1:=by
   show(if bY w=true then 0 else t.place.getD i 0+1)=x+1;rw[d,DH hx];rfl
  rw[e];have c:=zc inc (x+1);have hl:=c.le;have g:=λq=>by
   have:=c.hi i x q hx;omega
  have j:¬i+1<Cp t.place (x+1):=λq=>by
   obtain⟨z,a⟩:∃z,t.place.toList[i+1]?=Qc z:=V0 cN Qa;have:=c.lo (i+1) z q a;have:=inc.get (uD i) hx a;omega
  omega
section
variable{prog:aO}{w:aA}{A:di}{E:SR}{s:bH}{a:Addr}
def aaD(k:RV a=Qi)(y:oV (bY w) l o b d t L)(hi:i<=Wt)
  (h:Q (QG ((i' w a d b)[i]?) (λe=>(e.2,slotAt w t (i+1)))) s):aj QA A (setNext a (slotAt w t i) i d) Q E s:=by
 refine ab (hX k TC VF ?_);refine ab ?_;refine ab (mM (ah ?_));cases c:bY w with
 |true=>
  have f:QJ (QA).w.params.followText _:=c;rw[f];simp [];refine ab ?_;refine ab (hX k TC VF ?_);refine ab (ab (mM (ah ?_)));rw[f];refine ab (mM (ah (ah ?_)));have m:slotAt w t i=0:=by
   cases i with
   |zero=>rfl
   |succ i=>show(if bY w=true then 0 else _)=0;rw[c];rfl
  have n:slotAt w t (i+1)=0:=by show(if bY w=true then 0 else _)=0;rw[c];rfl
  have j:i' w a d b=pickOrder (w.params.setOrder a d) b:=by unfold i';rw[c];rfl
  rw[n,j]at h;rw[m];exact h
 |false=>
  have f:Qhm QA _=Qb:=c;rw[f];have hl:Qv t.led:=by rw[y.ld,c];rfl
  have p:=y.pl;show aj _ _ (if(!t.plain&&decide _)=true then _ else _) _ _ _;rw[p];refine ab ?_;show aj _ _ (if(!t.led&&!b.isEmpty)=true then _ else _) _ _ _;rw[hl];refine ah (ah ?_);rw[alZ y.lay c i hi];have j:i' w a d b=b:=by unfold i';rw[c];rfl
  rw[j]at h;cases hx:L[i]? with
  |none=>
   have v:=Iq.mp hx;have hs:=y.lay.size;rw[(xx Qa)]at h⊢;exact h
  |some x=>
   have g:b[i]?=Qc x.2:=by rw[<-km,y.lay.en,cY,hx];rfl
   have q:QgU=Qc x.1:=by rw[y.lay.pl,cY,hx];rfl
   have r:t.place[i]?=Qc x.1:=by grind
   have u:slotAt w t (i+1)=x.1+1:=by
    show(if bY w=true then 0 else t.place.getD i 0+1)=x.1+1;rw[c,DH q];rfl
   rw[g,u]at h;rw[g,r];exact h
end
end NT
namespace NT
open PySem PySem.W PySem.Spec PyProof.Rows TB
def mC(w:aA)(h:Heap)(it a:Addr)(t:lF)(i n b:Nat):Prop:= ∃o,Qai it=Qi/\V8=SV Qaa/\Si=Vw (#[.int (slotAt w t i) 0,.int i 0,.ref a,.int n 0,.int b 0])
section
variable{prog:aO}{w:aA}{A:di}{E:SR}{s:bH}{a it:Addr}{El:ZJ}{o:Obj}{es:WV}{ep:Nat}{t:lF}{L:XU}{i n:Nat}
def mC.typeIs(x:mC w Ql it a t i n ep):U7 s.TypeIs it Qaa:=let⟨o,ho,hc,_⟩:=x;SF ho hc
def mC.at(x:mC w h it a t i n ep)(e:∀o,Qai it=Qi->V5 it=Qi):mC w h' it a t i n ep:=let⟨o,ho,r⟩:=x;SF (e _ ho) r
def al0(hit:mC w Ql it a t i n ep)(h:R3 it s):aj QA A (lH WI) Q E s:=by
 refine uL Tw aay (fv aay Tw alW ?_ (alY _));exact ah ⟨_,rfl,Qaa,_,Tw,ug.lookup,h⟩
def al1(b:RV a=Qi)(y:oV (bY w) El o es ep t L)
  (d:Q UA {s with heap:=S5 {cls:= SV Qaa,data:= Vw (#[.int (slotAt w t 0) 0,.int (0:Nat) 0,.ref a,.int es.size 0,.int ep 0])}}):aj QA A (lH QS) Q E s:=by
 have c:s.TypeIs QS X5:=SF b y.ex.1;refine uL c IX (fv IX c alX ?_ (PySem.F.args_set_iter_1 _));unfold iI.«frozenset.__iter__» Builtin.Frozenset.slot0 slotArgs;simp only[bind_assoc];refine ab (ah ?_);try dsimp only
 refine ab (ah (ab (ab (uK b TC VF (ah (ab ?_))))));refine ab (hX b TC VF ?_);refine ab (ab (mM (ah (ah ?_))));have hd:((!(Qhm QA "set-order"))&&(!t.plain&&QV (Y3>1)))=Qb:=by rw[y.pl];simp
 show aj _ _ (if((!((aV prog w).w.params.followText _))&&(!t.plain&&decide _))=true then _ else _) _ _ _;rw[hd];refine ab (ah (ab (uM b TC VF (ab (jM (ah ⟨_,rfl,Qaa,_,Sz _ (cH _ rfl),ug.lookup,?_⟩))))));have e:(slotAt w t 0)=0:=rfl;simpa[gZ,e]using d
def al2(g:RV a=Qi)(y:oV (bY w) El o es ep t L)(hit:mC w Ql it a t i Y3 ep)(hx:(i' w a ep es)[i]?=Xr)(n:a≠it)
  (j:∀h',mC w h' it a t (i+1) Y3 ep->dN it Ql h'->Q (Qc e.2) Xi):aj QA A (jQ WI) Q E s:=by
 obtain⟨h,d,k,c⟩:=id hit;have l:=by
  have b:=(Ig.mp hx).1;rw[Bx,(Qd7)]at b;exact oe b
 unfold jQ;refine ab (p9 (rJ Tw ug (fv ug Tw aaz ?_ (aaB _))));refine ab (ah (ab (rL d c ?_)));refine ab (uK g TC VF ?_);rw[(Y1)];refine ab (aaD g y l ?_);rw[hx];have b:(s.heap.update it _).get? it=some (yr (·.setIfInBounds 0 (gZ (slotAt w t (i+1)))) h):=oq _ d (yo (ou c _));have f:(yr (·.setIfInBounds 0 (gZ (slotAt w t (i+1)))) h).data= .fields #[.int (slotAt w t (i+1)) 0,.int i 0,.ref a,.int es.size 0,.int ep 0]:=by
  rw[ou c];simp[gZ]
 refine ab (p0 d c Qj (ab (p0 b f Qj (ah (SE (ah (j _ ⟨_,oq _ b (yo (ou f _)),by rw[yq,yq];exact k,by rw[ou f];simp[gZ]⟩ (QH ZE ZE))))))))
def al3(f:VH=none)(c:RV a=Qi)(y:oV (bY w) El o es ep t L)(hit:mC w Ql it a t Y3 Y3 ep)
  (g:∀h',yk it Ql h'->Q none Xi):aj QA A (jQ WI) Q E s:=by
 obtain⟨i,d,j,e⟩:=id hit
 unfold jQ;refine ab (p9 (rJ Tw ug (fv ug Tw aaz ?_ (aaB _))));refine ab (ah (ab (rL d e ?_)));refine ab (uK c TC VF ?_);rw[(Y1)];refine ab (aaD c y (by rw[y.lay.size.2];exact aQ _) ?_);rw[xx (by rw[Bx];exact aQ _)];refine ab (p0 d e Qj (ab ?_));refine ab (jM (ab (uN QB (jM ?_ QcD))) QcD);refine ab (wpAny_handled ?_);rw[f];refine ab (ah (wpAny_throw ?_));exact ab (kC (Qek _ (cH _ rfl)) isSubtype_stop (ah (g _ (((ZE).extBut.push _).push _))))
def al4(c:s.TypeIs QS X5)(h:Q Qb s):aj QA A (Builtin.List.listLengthHint QS) Q E s:=by
 refine ab (mN c PySem.F.slot_set_len.lookup ?_);generalize e:("set.__len__")=f;wp_delta;subst e;exact ab (kC (b:=true) c VE (wpAny_ite_split (λd=>Rk d QD) (λ_=>wpAny_ite_split (λ_=>ab (ye c (ah h))) (λd=>Rk VD d))))
def al5(l:VH=none)(I:Addr)(g:a≠I)(y:oV (bY w) El o es ep t L):
  Walks prog w A I [I,a] [I] Y3 (λi v=>((i' w a ep es)[i]?).map (·.2)=some v) (λi h=>mC w h I a t i Y3 ep/\SJ=Qi)where
 sub:=λb c=>by simp at c;simp[c]
 frame:=λ_ _ _ st j=>⟨Yg st.1.at (j I Qj o e),j a Qj _ st.2⟩
 item:=λi s Q E hi st d=>by
  obtain⟨e,hx⟩:∃e,(i' w a ep es)[i]?=Xr:=V0 xw (by rw[Bx];exact hi);exact al2 st.2 y st.1 hx g (λf m k=>d e.2 f _ Qfa ⟨m,Rx k.2 a g st.2⟩ (λb o c e=>k.extBut b o (λh=>c QcH) e))
 done:=λs Q E st d=>al3 l st.2 y st.1 (λf n=>d f _ (λb o c e=>n b o (λh=>c QcH) e))
 self:=λ_ _ _ _ st d=>al0 st.1 d
def al6(y:oV (bY w) El o es ep t L):KdlSrc prog w X5 a a Y3 (λi v=>((i' w a ep es)[i]?).map (·.2)=some v) (λh=>SJ=Qi)where
 type:=λ_ b=>SF b y.ex.1
 there:=λ_ b=>⟨bx b,bx b⟩
 keep:=λ_ _ b d=>d a Qw o b
 notList:=by decide
 notTuple:=by decide
 hint:=λ_ _ _ _ b c=>al4 (SF b y.ex.1) c
 iter:=λ_ s e b=>⟨{cls:= .type _,data:= .fields _},_,(λ_ _ c=>al1 b y c),al5 e _ (b9 (bx b)) y,Zp _ (cH _ rfl),bM _ b⟩
def HN{b h:Type}{f}{l m:QR h}(p:l.Perm m):∀zs,m=QbY f-> ∃a:List b,a.Perm zs/\l=QG a f:=by
 induction p with
 |nil=>
  simp
 |cons x p j=>
  intro zs e;cases zs with
  |nil=>simp at e
  |cons z zs=>
   obtain⟨i,c⟩:=xK e;obtain⟨a,d,g⟩:=j zs c;exact⟨z::a,d.cons z,by rw[cg,g,i]⟩
 |swap x y l=>
  intro zs e;match zs,e with
  |[],e=>simp at e
  |[_],e=>simp at e
  |k::n::zs,e=>
   obtain⟨i,c⟩:=xK e;obtain⟨v,w⟩:=xK c;exact⟨n::k::zs,.swap ..,Qm⟩
 |trans p q o r=>
  intro zs e;obtain⟨a,d,g⟩:=r zs e;obtain⟨s,t,u⟩:=o a g;exact Qh s (QH t d) u
def al7(r:VH=none)(u:bZ (bY w) Ql a (Yc ((hv z.1).1,z.2)))(x:b7 Ql b zs)(B:Vl<64)(C:RS+6<bf)
  (h:∀(D:Addr)h' tk(g:R_)c,Old Ql h'->Qt<=D->V5 D=Qc (c_ "list" (g.map (·.2)).toArray c)->g.Perm zs->(UL g (λz l=>XJ z.1 l.1))->R3 D Xg):
  aj QA A (call QcP UG) Q E s:=by
 obtain⟨o,es,ep,t,L,F,y⟩:=u;obtain⟨f,d,m⟩:∃f:List _,f.Perm zs/\TH (i' w a ep es)=VA f:=HN (QH (aaC w a ep es) (by rw[y.lay.en];exact y.perm.symm)) zs rfl
 have H:Y3=Qn f:=by rw[<-Bx w a ep es,<-mF,m,ak]
 have I:b7 _ b f:=⟨λz i=>x.rel z (X_ d i),λz i=>x.hd z (X_ d i),λz i l J=>x.cmp z (X_ d i) l (X_ d J),(VA d).nodup_iff.mpr x.nd⟩;refine Lv I (by rw[d.length_eq];exact B) C (λT K=>Lw (al6 y) (by simpa using r) F (by rw[H,d.length_eq,bK];omega) (λh' tk k R S p=>?_)) (λD h' tk g c n M N O P=>h D h' tk g c n M N (QH O d) P);have e:k.toList=f.map (·.2):=by
  apply iE;intro j;rw[cY,km];cases q:k[j]? with
  |none=>
   have hi:=Ih.mp q;have n:=p.1;rw[List.getElem?_eq_none Qa];rfl
  |some v=>
   have hv:VA ((i' w a ep es)[j]?)=Rg:=p.2 j v q;rw[<-km,m,cY]at hv;cases hx:f[j]? with
   |none=>rw[hx]at hv;cases hv
   |some z=>grind
 rw[e];exact K h' tk R S
end
end NT
namespace L2
open PySem PySem.Spec PyProof.Rows NT
def al8(w:aA):Q8->Hp->SY:=λc H Q=>∃(a:Addr)(zs:List _)(b:Bool),c=[.ref a]/\nu w H a zs/\qy b (zs.map (·.1))/\zs.length<64/\zo H (zs.map (·.1)) Q
def al9(e:RD)(f:RY+6<bf):fV X QcP (al8 X.w):=by
 intro m s n H o p Q I r h;obtain⟨a,zs,b,rfl,sa,x,d,q⟩:=h;rw[YH r];have i:Q9 zs.map (λz=>(z.1,bD z.2)) (λz=>((hv z.1).1,z.2))=Qda:=by rw[cq];rfl
 exact NT.al7 (VC e) (by rw[i];exact sM I.a5 sa) (LD Rb rfl sa.key x) Z_ f (λD t u v c j k hg pm l=>LC I rfl sa.key d j k hg pm l q)
end L2
namespace DL
open PySem PySem.Spec L2 NT AT
open PyProof.Rows hiding St
open Vbdhaj(Sense sensesOf equals paired members lessText)
abbrev HY:Stmt:=top 23
def ama(h:u+64<bf):u+6<bf:=by omega
def amb(h:u≠[]):nr (cT u)=QbV:=by
 cases u with
 |nil=>exact Wz h
 |cons x u=>rfl
def amc{u:QU}(h:QJ kO u):u≠[]:=λe=>by subst e;exact absurd h (by decide)
def aaE(h:bV H (cT u) p):H p=UU (Qbj u):=by
 obtain⟨_,h⟩:=h;cases u with
 |nil=>obtain⟨b,e,h⟩:=h;cases e;exact h
 |cons x u=>
  obtain⟨b,y,c,e,d,a,f⟩:=h;cases e;rw[d,a,Ec u c f];rfl
def aaF{xs:QC}(h:(aL (VW (aW (toS x).1))).p H v):∃(t:Addr)(zs:List (Nk×Addr)),v= .ref t/\H t=some (.lst (zs.map λz=>V.ref z.2))/\(∀z∈zs,bV H z.1 z.2)/\zs.map (·.1)=xs.map λx=>cT (toS x).1:=by
 obtain⟨t,d,rfl,ht,a⟩:=h;obtain⟨zs,rfl,b,c⟩:=Fh (RC Fg) a;exact⟨t,zs,rfl,ht,b,c⟩
def aaG:∀ {a:Qc3}{us:R_},a.map (·.1)=us.map (λu=>cT (zs u))->(∀z∈a,∀u,z.1=cT u->b z.2=some (.tup (u.map V.int)))->bJ b (a.map λz=>V.ref z.2) (us.map λu=>aW (zs u))
 |[],[],_,_=> .nil
 |[],_::_,e,_=>by simp at e
 |_::_,[],e,_=>by simp at e
 |z::a,u::us,e,c=>by
  obtain⟨d,f⟩:=xK e;exact Rc (Tt z.2 (c z Ru _ d) (qG _)) (aaG f (λz g=>c z (bP _ g)))
section
variable{P:aO}{w:aA}{K:au}{mg:QQ}{base:Heap}{f C:Addr}{fd:b_}
def xq:aY [Qk,"s","t","x","y"] QX (aK HY):=QF
def amd(F:aP K Qfy Qfy HY f fd)(L:ef P w K mg base C):ay P w K mg base az 2 f fd QX (XF i3 C (SA (alike b s t) (λu=>aW (zs u)))):=by
 refine Us xq (U8 [.v Qb (a8 C b),Rr,RT,.u,.u]) (.n ag (.n ag (.u (.u .e)))) (λcdv A outer sh H E⟨b,s,t⟩Z⟨hs,ht,g⟩=>?_);have T:=Z.units;refine aU ?_ (Qgd s');refine cC (gA (al9 rfl (ama T)) QB L.tm.sorted DL.ER (bb (ia (Lz (zU T)) (lT (vJ rfl (tj T)) QB L.tm.set QcL (bb a7 bh)) (lT (vJ rfl (tj T)) QB L.tm.set QcL (bb a7 bh))) bh)) (λO σ U Q c q=>?_);refine(ik (nm:="x") rfl xq.nd (cB Rp L.bA Z (b,s) (Qe hs g) (aa 0) (xa (aa 1) ao)) Qw (gI (g.bc s hs)) (fc QB) (VB 3 xq.nd) QgD (Qf9 (fG (aa 3) ai 0 rfl))) O σ U _ c (λv1 H2 s1 h1=>?_);have c2:=Q0;rw[(Zc)]at h1;obtain⟨t1,z1,rfl,l1,k1,m1⟩:=aaF ((aL _).m (dM c2.same) h1);have n1:=by have:=YG m1;simpa using this
 have f1:=g.bc s hs;have f2:=g.bc t ht;have kp:∀ {Ha O:Hp}(s:af Ha O){zs:List (Nk×Addr)},(U_ (bV Ha z.1 z.2))->U_ (bV O z.1 z.2):=λs _ h z B=>QY (h z B) (λb xs e=>s _ _ e);refine Xa t1 z1 (Q6 l1) k1 Qa (λG J hp1 R r1=>?_);have W:af H2 (upd H2 G (fX w G J)):=TL hp1;refine(ik (nm:="y") rfl xq.nd (cB Rp L.bA Z (b,t) (Qe ht g) (aa 0) (xa (aa 2) ao)) Qw (gI (g.bc t ht)) (fc QB) (VB 4 xq.nd) QgD (Qf9 (fG (aa 4) ai 0 rfl))) O σ _ _ (c2.keep W) (λv2 j s2 h2=>?_);have c3:=QY (c2.keep W) s2;rw[(Zc)]at h2;obtain⟨t2,z2,rfl,l2,k2,m2⟩:=aaF ((aL _).m (dM c3.same) h2);have n2:=by have:=YG m2;simpa using this
 refine Xa t2 z2 (Q6 l2) k2 Qa (λa l hp2 S2 r2=>?_);have X:af j (upd j a (fX w a l)):=TL hp2;have a1:=s2 _ _ R.at_;have hne:=cZ a1 hp2;have sS:nu w (upd j a (fX w a l)) G J:=⟨X _ _ a1,kp X (kp s2 R.key),R.nd⟩;have ln:∀ {y:List (Nk×Addr)}{z:List (Nk×Addr)}{n:Nat},(y.map (·.1)).Nodup->(∀k,k∈y.map (·.1)↔k∈z.map (·.1))->z.length<=n->y.length<=n:=λ{y z n}nd h B=>by
  have:=Qf3 (λk I=>(h k).mp I);rw[ak,ak]at this;omega
 refine⟨G,a,J,l,rfl,rfl,hne,sS,S2,ln R.nd r1 Qa,ln S2.nd r2 Qa,λd r hp3 S3 r3=>?_⟩;have u3:af (upd j a (fX w a l)) (upd (upd j a (fX w a l)) d (fX w d r)):=TL hp3;have S:∀k,k∈r.map (·.1)↔∃u∈alike b s t,k=cT (zs u):=λk=>by
  rw[r3];show(k∈J.map (·.1)/\k∈l.map (·.1))↔_;rw[r1,r2,m1,m2];show(k∈QG (ae b s) (λx=>cT (toS x).1)/\k∈QG (ae b t) (λx=>cT (toS x).1))↔_;rw[cQ,cQ];constructor
  ·rintro⟨⟨x,hx,rfl⟩,⟨y,hy,e⟩⟩;exact Sz ZQ (((t6 g hs ht).2 _).mpr ⟨Sz x hx,Qh y hy (k_ (oW e))⟩)
  ·rintro⟨u,M,rfl⟩;obtain⟨⟨x,hx,rfl⟩,⟨y,hy,e⟩⟩:=((t6 g hs ht).2 _).mp M;exact⟨Sz x hx,Qh y hy (by rw[<-e];rfl)⟩
 have ne3:∀u∈alike b s t,zs u≠[]:=λu M e=>by
  obtain⟨⟨x,hx,rfl⟩,_⟩:=((t6 g hs ht).2 _).mp M;refine amc (g.good s hs x hx).1 (k_ e)
 have n3:SS r:=by
  have:=S3.nd.length_le_of_subset (λk I=>((r3 k).mp I).1);rw[ak,ak]at this;exact bp this (ln R.nd r1 Qa)
 refine⟨d,r,true,rfl,S3,⟨λk I=>?_,λk I k' hk'=>?_,S3.nd⟩,Qa,λY p hp4 pm pw key=>?_⟩
 ·obtain⟨u,M,rfl⟩:=(S k).mp I;exact amb (ne3 u M)
 ·obtain⟨u,M,rfl⟩:=(S k).mp I;obtain⟨u',hm',rfl⟩:=(S k').mp hk';exact zH _ _
 have u4:af (upd (upd j a (fX w a l)) d (fX w d r)) (upd (upd (upd j a (fX w a l)) d (fX w d r)) Y (SN .lst p (λz=>QcX))):=TL hp4;have all:=ZW (ZW (Qcv W) s2 X) u3 u4;have c4:=ZW (QH (Qcv W) s2) X u3;refine q _ _ all ((aL _).m (c.back all) ?_);have hk4:=λz B=>(S _).mp (Qev (XH z B));obtain⟨N,e4⟩:∃N:List (List Nat),p.map (·.1)=N.map λu=>cT (zs u):=by
  clear pw key u4 all pm;induction p with
  |nil=>exact V' []
  |cons z p ih=>
   obtain⟨N,e⟩:=ih (λz B=>hk4 z (bP _ B));obtain⟨u,_,e2⟩:=hk4 z Ru;exact Qe (u::N) Qm
 have eu:N=alike b s t:=by
  refine ajI ?_ (t6 g hs ht).1 (λu=>?_)
  ·have h:((p.map (·.1)).Pairwise) (λk k'=>XJ k k'):=We pw;rw[e4]at h;exact(iC.mp h).imp (λh=>by rw[pa]at h;exact h)
  ·have:cT (zs u)∈p.map (·.1)↔u∈N:=by
    rw[e4,cQ];exact⟨λ⟨v,hv,e⟩=>k_ (oW e)▸hv,λh=>Sz u h⟩
   rw[<-this,pm.mem_iff,S];exact⟨λ⟨v,hv,e⟩=>k_ (oW e)▸hv,λh=>Sz u h⟩
 subst eu;refine RF Y (Qcp p QcX) ?_ ?_
 ·rw[eG (c4.free hp4),aC]
 ·clear pw u4 pm hk4;have kt:∀z∈p,∀u,z.1=cT u->cut U (upd (upd (upd j a (fX w a l)) d (fX w d r)) Y (SN .lst p (λz=>QcX))) z.2=UU (Qbj u):=λz B u e=>by
   have:=key z B;rw[e]at this;refine k7 all ?_;rw[ax (cZ (aaE this) hp4)];exact aaE this
  exact aaG e4 kt
end
end DL
namespace DL
open PySem PySem.Spec L2 NT AT
open PyProof.Rows hiding St
open Vbdhaj(Sense sensesOf equals paired members act onTongues friends)
abbrev HZ:Stmt:=top 111
def H_(b:Bo)(s t:Nat)(u:QU):Qo:=(if(ae b s).any (itself b s t u)=true then 1 else 0)::oA u
def ame(b:Bo)(s t:Nat):(RW (friends b s t) (λp=>(if p.2=true then 1 else 0)::oA p.1))=RW (alike b s t) (H_ b s t):=by
 rw[Pl,List.flatMap_map];congr 1
 funext u;rw[<-ajJ];rfl
section
variable{P:aO}{w:aA}{K:au}{mg:QQ}{base:Heap}{f C:Addr}{fd:b_}
def xr:aY [Qk,"s","t",Uz,Td,ZD,"word"] QX (aK HZ):=QF
def amf(F:aP K QfT QfT HZ f fd)(L:f9 P w K mg base C)(I:aE P w K mg base 2 Qfy QX (XF i3 C (SA (alike b s t) (λu=>aW (zs u)))))(J:aE P w K mg base 2 QeS [Qk,"s","t","word"] (Nj C)):ay P w K mg base az 5 f fd QX (hP C 17):=by
 refine Us xr (U8 [.v Qb (a8 C b),Rr,RT,.u,.u,.u,.u]) (.n ag (.n ag (.u (.u (.u (.u .e)))))) (λU A outer V H E⟨b,s,t⟩j a=>?_);refine gN 3 (Yx L.rt j [s,t] (xa (cE (xd (aa 1) (xd (aa 2) bj))) ao)) xr.nd (λd v M y h=>Q_ y) (λN=>?_)
 ·obtain⟨B,O⟩:=wG d;rw[O]at h;show(a4 (cR b s t _).2).p _ _;rw[nN B];exact h
 ·obtain⟨m,n,rfl,rfl,g,d,Q⟩:=eJ (nO N);have R:=(t6 a g d).2;have W:=by
   have nd:S7 (alike b m n):=(t6 a g d).1.imp (λq e=>by subst e;rw[wY]at q;cases q)
   have:=nd.length_le_of_subset (l₂:=QG (ae b m) (λx=>ZQ)) (λu l=>by
    grind)
   rw[ak]at this;exact bp this (a.bc m g)
  have D:∀u∈alike b m n,QP u 12:=λu l=>by
   obtain⟨⟨x,hx,rfl⟩,_⟩:=(R u).mp l;exact(a.gd g x hx).len
  have S:∀u∈alike b m n,QP (H_ b m n u) 16:=λu l=>by
   have:=D u l;show QP (_::_::(VA u)) 16;rw[dh,dh,ak];omega
  refine bG 4 (Xd I j (b,m,n) g d a (xa (aa 1) (xa (aa 2) ao))) xr.nd ?_;refine ec 5 (xd ai (xd ((dZ Tq (aa 4)).eq WE) bj)) xr.nd Wk;refine eP 6 (λk=>[.v Qb (a8 C b),W3,Yw,Ra 0,Zt (QG (alike b m n) (λu=>aW (zs u))),.w q (iv (Qn (alike b m n)) (alike b m n) (H_ b m n) k),.u]) rfl (aa 4) Qw (bS xr.nd rfl QK) RP (λX k z G=>?_) ?_
  ·have T:=bL G;have Y:=Qce pz (Qn (alike b m n)) k S 640;have Z:=D z T;refine fH 5 (A:=aI (if(ae b m).any (itself b m n z)=true then 1 else 0)) (o9 (f6 (Xd J j (b,m,n,z) g d a (xa (aa 1) (xa (aa 2) (xa (aa 6) ao))))) (λe=>ai.eq (by rw[e];rfl)) (λe=>ai.eq (by rw[e];rfl))) (hG 5 (x_call L.cnt j (zs z) (by show(zs z).length<=2000000;rw[show(zs z).length=z.length from ak ..];omega) (xa (afP L.tm.list (aa 6) o4) ao) (A:=a4 (oA z)) ?l2) Qw (bW (Vv (c.le ?_))) ?_) ?_;case l2=>
    show a4 ((Qx zs z)::zs z)=_;rw[show Qx zs z=Qn z from ak ..];rfl
   ·refine .eq rfl (.eq rfl (.eq rfl (.eq rfl (.eq rfl (.eq ?_ Ry)))));rw[px G,eK];rfl
   ·have B:Qx oA z=Qn z+1:=by show Qn (_::(VA z))=_;rw[dh,ak]
    rw[b0,ak,B,bK];simp;omega
   ·rw[bK];omega
  ·refine d9 5 (aU (aa 5) (λv M y h=>Q_ y));rw[pA]at h;show(a4 (cR b m n _).2).p _ _;rw[nM g d Q rfl];show(a4 (0::e8 (Qn (friends b m n))::(RW (friends b m n) (λp=>(if p.2=true then 1 else 0)::oA p.1)))).p _ _;rw[ame,Pl,ak];exact h
end
end DL
namespace DL
open PySem PySem.Spec L2 NT AT
open PyProof.Rows hiding St
open Vbdhaj(Sense act onTongues onSense)
section
variable{X:Cx}{H0 Hb:Hp}{O:QZ}{G:QO}{e a b:Expr}{gb:Bool}{A:a6}{As:R7}{pos p:Pos}{i:Int}{ns:Qo}
def aaH(e:VU)(f:Ev X H0 O G b gb (aT QcY))(g:hY .In b=Qb:=by rfl):Et X H0 O G (Xx .In) (Ur i ns):=
 o8 Kb e f g (λ_ _ _ _ _ _ c d h q=>by
  subst d;obtain⟨t,k,rfl,ht,j⟩:=h;rw[pI j]at ht;exact Qg2 t _ (Qy (cw.of (eI c ht))) (Nz ns) (by rw[if_neg (by decide),qD];exact q))
end
section
variable{P:aO}{w:aA}{K:au}{mg:QQ}{base:Heap}{f C T:Addr}{fd:b_}
def amg:aY [Qk,T9] [Qk,T9] (aK HA):=QF
def amh(F:aP K QeK QeK HA f fd)(L:rh P w K mg base C T):ay P w K mg base az 9 f fd [Qk,T9] (nZ C T ki):=by
 refine U5 f_ F amg (λ(ob,b,c)=>[.v Qb (gf C T ob b),.v Qb (aCall c)]) (.o (.o .e)) (λq A outer r H E⟨ob,b,c⟩k⟨i,p⟩=>uc rfl Qae);have m:=akt p b;cases p with
 |a=>
  exact hU (bz ((aM (aa 1) ai 0 rfl).up ag) (ba L.pJ)) rfl (Qbo aU (VZ L.q1 k (b,_,_) i (aa 0) VJ (xa (aM (aa 1) ai 1 rfl) (xa (aM (aa 1) ai 2 rfl) ao))) (iy j hv m l i))
 |b=>
  exact cf (bz ((aM (aa 1) ai 0 rfl).up ag) (ba L.pJ)) rfl (hU (bz ((aM (aa 1) ai 0 rfl).up ag) (ba L.ri)) rfl (Qbo aU (VZ L.q8 k (b,_,_) i (aa 0) VJ (xa (aM (aa 1) ai 1 rfl) (xa (aM (aa 1) ai 2 rfl) ao))) (iy j hv m l i)))
 |c=>
  exact cf (bz ((aM (aa 1) ai 0 rfl).up ag) (ba L.pJ)) rfl (cf (bz ((aM (aa 1) ai 0 rfl).up ag) (ba L.ri)) rfl (hU (bz ((aM (aa 1) ai 0 rfl).up ag) (ba L.ub)) rfl (Qbo aU (VZ L.aky k (b,_,_) i (aa 0) VJ (xa (aM (aa 1) ai 1 rfl) (xa (aM (aa 1) ai 2 rfl) ao))) (iy j hv m l i))))
 |d=>
  exact cf (bz ((aM (aa 1) ai 0 rfl).up ag) (ba L.pJ)) rfl (cf (bz ((aM (aa 1) ai 0 rfl).up ag) (ba L.ri)) rfl (cf (bz ((aM (aa 1) ai 0 rfl).up ag) (ba L.ub)) rfl (hU (bz ((aM (aa 1) ai 0 rfl).up ag) (ba L.xj)) rfl (Qbo aU (VZ L.akz k (b,_,_) i (aa 0) VJ (xa (aM (aa 1) ai 1 rfl) (xa (aM (aa 1) ai 2 rfl) ao))) (iy j hv m l i)))))
 |e=>
  exact cf (bz ((aM (aa 1) ai 0 rfl).up ag) (ba L.pJ)) rfl (cf (bz ((aM (aa 1) ai 0 rfl).up ag) (ba L.ri)) rfl (cf (bz ((aM (aa 1) ai 0 rfl).up ag) (ba L.ub)) rfl (cf (bz ((aM (aa 1) ai 0 rfl).up ag) (ba L.xj)) rfl (hU (bz ((aM (aa 1) ai 0 rfl).up ag) (ba L.Bn)) rfl (Qbo aU (VZ L.akA k (b,_,_) i (aa 0) VJ (xa (aM (aa 1) ai 1 rfl) (xa (aM (aa 1) ai 2 rfl) ao))) (iy j hv m l i))))))
 |f=>
  exact cf (bz ((aM (aa 1) ai 0 rfl).up ag) (ba L.pJ)) rfl (cf (bz ((aM (aa 1) ai 0 rfl).up ag) (ba L.ri)) rfl (cf (bz ((aM (aa 1) ai 0 rfl).up ag) (ba L.ub)) rfl (cf (bz ((aM (aa 1) ai 0 rfl).up ag) (ba L.xj)) rfl (cf (bz ((aM (aa 1) ai 0 rfl).up ag) (ba L.Bn)) rfl (hU (bz ((aM (aa 1) ai 0 rfl).up ag) (ba L.HG)) rfl (Qbo aU (VZ L.akB k (b,_,_) i (aa 0) VJ (xa (aM (aa 1) ai 1 rfl) (xa (aM (aa 1) ai 2 rfl) ao))) (iy j hv m l i)))))))
 |g=>
  exact cf (bz ((aM (aa 1) ai 0 rfl).up ag) (ba L.pJ)) rfl (cf (bz ((aM (aa 1) ai 0 rfl).up ag) (ba L.ri)) rfl (cf (bz ((aM (aa 1) ai 0 rfl).up ag) (ba L.ub)) rfl (cf (bz ((aM (aa 1) ai 0 rfl).up ag) (ba L.xj)) rfl (cf (bz ((aM (aa 1) ai 0 rfl).up ag) (ba L.Bn)) rfl (cf (bz ((aM (aa 1) ai 0 rfl).up ag) (ba L.HG)) rfl (hU (bz ((aM (aa 1) ai 0 rfl).up ag) (ba L.P')) rfl (Qbo aU (VZ L.akC k (b,_,_) i (aa 0) VJ (xa (aM (aa 1) ai 1 rfl) (xa (aM (aa 1) ai 2 rfl) ao))) (iy j hv m l i))))))))
 |h=>
  exact cf (bz ((aM (aa 1) ai 0 rfl).up ag) (ba L.pJ)) rfl (cf (bz ((aM (aa 1) ai 0 rfl).up ag) (ba L.ri)) rfl (cf (bz ((aM (aa 1) ai 0 rfl).up ag) (ba L.ub)) rfl (cf (bz ((aM (aa 1) ai 0 rfl).up ag) (ba L.xj)) rfl (cf (bz ((aM (aa 1) ai 0 rfl).up ag) (ba L.Bn)) rfl (cf (bz ((aM (aa 1) ai 0 rfl).up ag) (ba L.HG)) rfl (cf (bz ((aM (aa 1) ai 0 rfl).up ag) (ba L.P')) rfl (Qbo aU (VZ L.akD k (b,_,_) i (aa 0) VJ (xa (aM (aa 1) ai 1 rfl) (xa (aM (aa 1) ai 2 rfl) ao))) (iy j hv m l i))))))))
def ami:aY [Qk,T9] [Qk,T9] (aK HB):=QF
def gT:C3->Int
 |(p::_)::_=>p
 |_=>0
def amj(h:jC c):(pG c)[0]?=RE aI (gT c):=by
 cases h with
 |a h=>cases h<;>rfl
 |b h=>cases h<;>rfl
 |c h=>cases h<;>rfl
 |d=>rfl
 |e=>rfl
 |f=>rfl
def amk(F:aP K QdS QdS HB f fd)(L:rh P w K mg base C T)(u:aE P w K mg base 9 Qfg [Qk,T9] (nZ C T rg))(x:aE P w K mg base 9 Qe9 [Qk,T9] (nZ C T pH))(y:aE P w K mg base 9 QeK [Qk,T9] (nZ C T ki)):
  ay P w K mg base az 10 f fd [Qk,T9] (nZ C T jC):=by
 refine U5 f_ F ami (λ(ob,b,c)=>[.v Qb (gf C T ob b),.v Qb (aCall c)]) (.o (.o .e)) (λz A outer B H E⟨ob,b,c⟩k⟨j,l⟩=>uc rfl Wk);have hi:=amj l;refine cW (aaH (ns:=[0,2,3,4]) ((aM (aa 1) ai 0 hi).up ag) (l9 (xd (ba L.xh) (xd (ba L.Bi) (xd (ba L.HD) (xd (ba L.akG) bj)))))) (λg=>?_) (λg=>c7 ?_)
 ·have r:=by
   cases l with
   |a h=>exact h
   |b h=>cases h<;>(simp[gT]at g)
   |c h=>cases h<;>(simp[gT]at g)
   |d=>simp[gT]at g
   |e=>simp[gT]at g
   |f=>simp[gT]at g
  exact mu (i8 u k (ob,b,c) (Qe j r) (xa (aa 0) (xa (aa 1) ao))) (λt v m s1 n=>Bh s1 n)
 refine cW (aaH (ns:=[6,7,9,12]) ((aM (aa 1) ai 0 hi).up ag) (l9 (xd (ba L.xi) (xd (ba L.Bm) (xd (ba L.akH) (xd (ba L.HF) bj)))))) Qc0 (λi=>c7 ?_)
 ·have r:=by
   cases l with
   |a h=>cases h<;>(simp[gT]at i)
   |b h=>exact h
   |c h=>cases h<;>(simp[gT]at i)
   |d=>simp[gT]at i
   |e=>simp[gT]at i
   |f=>simp[gT]at i
  exact mu (i8 x k (ob,b,c) (Qe j r) (xa (aa 0) (xa (aa 1) ao))) (λt v m s1 n=>Bh s1 n)
 have g:=Qbe g;cases l with
 |a h=>cases h<;>(simp[gT]at g)
 |b h=>cases h<;>(simp[gT]at i)
 |d=>
  exact hU (bz ((aM (aa 1) ai 0 rfl).up ag) (ba L.Bj)) rfl (aU (VZ L.q5 k (b,_) j (aa 0) VJ (xa (aM (aa 1) ai 1 rfl) ao)) (λv m p hv=>iy p hv (aku b _) q j))
 |e=>
  refine cf (bz ((aM (aa 1) ai 0 rfl).up ag) (ba L.Bj)) rfl (hU (bz ((aM (aa 1) ai 0 rfl).up ag) (ba L.HE)) rfl ?_);exact aU (VZ L.akE k b j (aa 0) VJ ao) (λv m p hv=>iy p hv rfl q j)
 |f=>
  refine cf (bz ((aM (aa 1) ai 0 rfl).up ag) (ba L.Bj)) rfl ?_;refine cf (bz ((aM (aa 1) ai 0 rfl).up ag) (ba L.HE)) rfl ?_;refine hU (bz ((aM (aa 1) ai 0 rfl).up ag) (ba L.aaa)) rfl ?_;exact aU (VZ L.akF k b j (aa 0) VJ ao) (λv m p hv=>iy p hv rfl q j)
 |c h=>
  have s:gT c≠5/\gT c≠10/\gT c≠18:=by cases h<;>simp[gT]
  refine cf (bz ((aM (aa 1) ai 0 hi).up ag) (ba L.Bj)) (TK s.1) ?_;refine cf (bz ((aM (aa 1) ai 0 hi).up ag) (ba L.HE)) (TK s.2.1) ?_;refine cf (bz ((aM (aa 1) ai 0 hi).up ag) (ba L.aaa)) (TK s.2.2) ?_;exact mu (i8 y k (ob,b,c) (Rw j) (xa (aa 0) (xa (aa 1) ao))) (λt v m s1 n=>Bh s1 n)
end
end DL
namespace DL
open PySem PySem.Spec L2 NT AT
open PyProof.Rows hiding St
open Vbdhaj(act)
def iA(b:Bo)(cs:Qap):Bo:=cs.foldl (λb c=>(act b c).1) b
def aml(b:Bo)(cs:Qap)(c:C3):iA b (cs++[c])=(act (iA b cs) c).1:=by unfold iA;rw[iD];rfl
def fi(b:Bo)(cs:Qap):Qo:=pU (xU act b cs)
def Ia:∀cs b(c:C3),fi b (cs++[c])=fi b cs++(Qcl (act (iA b cs) c).2::(act (iA b cs) c).2)
 |[],b,c=>by
  show pU _=_;simp[fi,xU,pU,iA]
 |d::cs,b,c=>by
  have a:=Ia cs (act b d).1 c;show pU ((act b d).2::xU act _ (cs++[c]))=pU ((act b d).2::xU act _ cs)++_;unfold fi at a;unfold pU at a⊢;rw[lA,lA,a,eK];rfl
def amm(b:Bo)(cs:Qap)(k:Nat):Tj fi b WU (Wa fi b cs):=by
 have h:∀c a b,Tj fi b c (Wa fi b (c++a)):=by
  intro c a;induction a using w8 with
  |h0=>simp
  |h a e d=>
   intro b;rw[<-eK,Ia,b0];exact bp (d b) (xO _ _)
 have:=h WU (cs.drop k) b;rwa [n8]at this
def amn(c:C3):Ks (aCall c):=wL (λA a=>by
 cases c with
 |nil=>cases a
 |cons h rs=>
  rcases Vd a with a|a
  ·obtain⟨n,_,rfl⟩:=RM a;exact mr ag
  ·obtain⟨n,_,rfl⟩:=RM a;exact q3 o4)
def amo{H0 f d g l}(c:Cf H0 l O G σ f)(s:bu kL f d)(i:af (off O d) g):bu kL H0 (off O g):=by
 have b:∀a o,H0 a=Qi->a∉O:=λa o e h=>by rw[(c.fr a h).1]at e;cases e
 refine⟨λa o m e=>jA (b a o e) (i _ _ (jA (b a o e) (s.at_ _ _ m (c.same _ _ e)))),λa e=>?_⟩
 ·cases q:H0 a with
  |none=>rfl
  |some o=>
   have j:=c.same _ _ q;cases k:d a with
   |none=>rw[s.fr a k]at j;cases j
   |some n=>
    have:=jA (b a o q) (i _ _ (jA (b a o q) k));rw[e]at this;cases this
def aaI(K:au)(T:Addr)(l:Qo):a6:=Ya ((aZ K l).p H v/\eW T H) (λs⟨h,t⟩=>⟨(aZ K l).m s h,QY t s⟩)
def Ib(K:au)(T:Addr):Sp:=fM (ι:=Qo×Qap) (λ(l,_)=>[aaI K T l]) (λ(l,cs)=>QbK l/\lE jU QT l=Qc cs/\(∀c∈cs,jC c)/\Tj fi dU cs 10000000) (λ(_,cs)_ v a=>(a4 (fi dU cs)).p a v)
section
variable{P:aO}{w:aA}{K:au}{mg:QQ}{base:Heap}{f C T fI:Addr}{fd fdI:b_}
def xt:aY ["calls",Qk,"answered",T9,ZD] QcT (aK Be):=QF
def amq(F:aP K QcW QcW Be f fd)(L:rh P w K mg base C T)(M:Mk K C fI)(Z:ay P w K mg base az 1 fI fdI [RR] (O8 C))(bI:Binds K fdI [RR] [])(C1:aE P w K mg base 1 QdW QdZ (Hx K))(C2:aE P w K mg base 10 QdS [Qk,T9] (nZ C T jC)):
  ay P w K mg base az 11 f fd QcT (Ib K T):=by
 refine U5 f_ F xt (λ(l,_)=>[.v Qb (aaI K T l),.u,.u,.u,.u]) (.o (.u (.u (.u (.u .e))))) (λcdv A outer sh H E⟨l,cs⟩J⟨hl,hcs,han,htot⟩=>?_);refine dA (fU xt.nd (i:=1) rfl QK (acg M Z (J.mono QD) QB L.tb.afB bI .nil zb) QB Qw) (λt y c x dx nx nd hne=>?_);refine⟨(x,dx),RQ,Zf (RL aC),λv z⟨hv,kp,bk⟩=>Q_ hv⟩;have s12:=af.made nx nd kp;have B:=QY c s12;obtain⟨_,_,v0,rfl,h0⟩:=B.sl 0 _ rfl;have tab:=h0.2.keep B.same;have c3:=B.gR bu.refl (Wf ((aZ K l).m (by exact B.same) hv.1) (.u (.u (.u Ry))));have c4:=c3.set (i:=1) (g:=Qb) (A:=gf C T x dU) (Qe (RL bk) tab);refine Bl.at ?_ c4;refine ec 2 bj xt.nd Wk;refine A3 3 (λk _=>aH (iA dU WU)) (λk=>[.u,.v Qb (gf C T x (iA dU WU)),.w q (Wc (fi dU WU)),.u,.u]) rfl (Ud C1 J (l,cs) (Qe hl hcs) 0) amn (bS xt.nd rfl QK) (λt H c a d=>?_) (λt y c=> .u (Wf ((gf C T x dU).m c.off hv) (.w Qj (.u Ry)))) (Xj ajh) (λk s Hk N R hbk hN=>?_) (λHn _=>?_)
 ·rw[ku]at d;subst d;obtain⟨_,b,h,_⟩:=c.qK (i:=2) rfl;exact Rw b
 ·have hca:=han s (bL R);have hlk:∀j,Tj fi dU (Qe0 j) 10000000:=λj=>bp (amm _ _ _) htot;have S:=Sm R;have O:iA dU (Qe0 (k+1))=(act (iA dU WU) s).1:=by rw[S,aml]
  have Q:fi dU (Qe0 (k+1))=fi dU WU++(Qcl (act (iA dU WU) s).2::(act (iA dU WU) s).2):=by rw[S,Ia]
  have U:=hlk (k+1);rw[Q,b0,dh]at U;generalize hr':act (iA dU WU) s=r at O Q U;refine AS 4 (i8 C2 J (x,iA dU WU,s) (Qe hbk hca) (xa (aa 1) (xa (aa 3) ao))) xt.nd (λt y v z D G=>?_);have G:postA C T x (act (iA dU WU) s) y v z:=G;rw[hr']at G;obtain⟨m1,m2,m3,m4,m5⟩:=G;have V:∀a∈[q],∃b,y a=RZ b:=λa d=>by
   rw[ku]at d;subst d;obtain⟨_,b,h,_⟩:=D.qK (i:=2) rfl;exact Rw b
  have W:∀a∈[q],∃b,z a=RZ b:=λa d=>let⟨b,h⟩:=V a d;⟨b,m2.at_ _ _ rfl h⟩;have c1:=D.re (G':=[.u,.v Qb (gf C T x r.1),.w q (Wc (fi dU WU)),.u,.u]) m2 V (.u (Wf (by
   have e:=hv.1.1;subst e;exact⟨aje m3 W,m4.off W⟩) (.w o4 (.u Ry))))
  have c2':=c1.set (i:=4) (g:=Qb) ((a4 r.2).m (D.aiF m2) m1);refine Bl.at ?_ c2';refine fH 2 (dZ Tq (aa 4)) (hG 2 (aa 4) (Qy o4) (bW (λt X I=>hN t X ?_ ?_ ?_)) ?_) ?_
  ·rw[O];exact m5
  ·exact amo D m2 I.same
  ·have hO5:∀a∈[q],∃b,X a=RZ b:=λa d=>by
    rw[ku]at d;subst d;obtain⟨_,b,h,_⟩:=I.qK (i:=2) rfl;exact Rw b
   rw[O,Q];have Y:=I.re bu.refl hO5 (.u (Wf ((gf C T x r.1).m I.off hv) (.w (λA n=>by
    rcases Vd n with n|n
    ·rcases Vd n with n|n
     ·exact o4 A n
     ·rw[ku]at n;subst n;exact ag
    ·exact o4 A n) (.u Ry))))
   have e9:(Wc (fi dU WU)++[aI (Qx r.2.map aI)])++r.2.map aI=Wc (fi dU WU++(QW r.2.length::r.2)):=by
    simp
   rw[e9]at Y;exact Y
  ·rw[b0,ak,ak,bK];simp;omega
  ·rw[ak,bK];omega
 ·rw[cp];refine d9 2 (aU (aa 2) (λv H' s' h=>?_));show(a4 (fi dU cs)).p H' v;exact(a4 _).m (EF s') h
end
end DL
namespace DL
open Vbdhaj(act)
def amr(c:C3):PyVbdhaj.whole c=c:=by
 unfold PyVbdhaj.whole;split<;>rfl
def mD(h:QJ Ji u):Vq:=by
 unfold Ji at h;rw[bX]at h;have:=Yz h.1;omega
def ams{c:C3}(h:QJ Jg c):jC c:=by
 unfold Jg at h;split at h
 ·simp []at h;exact .a (.a (mD h.2.2))
 ·exact .c .a
 ·simp []at h;exact .a (.b (mD h.2.2.1) (mD h.2.2.2))
 ·simp []at h;exact .a (.c (mD h.2.2.1) (mD h.2.2.2))
 ·simp []at h;exact .a (.d (mD h.2))
 ·exact .d
 ·simp []at h;exact .b (.a (mD h.2.2))
 ·simp []at h;exact .b (.b (mD h.2.2))
 ·exact .c .b
 ·simp []at h;exact .b (.d (mD h.2.2.2))
 ·exact .e
 ·exact .c .c
 ·simp []at h;exact .b (.c (mD h.2.2))
 ·exact .c .d
 ·exact .c .e
 ·exact .c .f
 ·exact .c .g
 ·exact .c .h
 ·exact .f
 ·cases h
def amt(h:QJ Jf l):∃cs,lE jU QT l=Qc cs/\(∀c∈cs,jC c)/\Tj fi dU cs 10000000/\Cw l=fi dU cs:=by
 unfold Jf at h;cases e:lE _ _ l with
 |none=>rw[e]at h;cases h
 |some a=>
  rw[e]at h;have d:VA a=a:=XE iG (λc _=>amr c) (xJ _);have f:Cw l=fi dU a:=by
   unfold Cw PyVbdhaj.calls;rw[e];show pU _=_;rw[d];rfl
  have g:Qv (!a.isEmpty&&PyFlat.atMost 100 a&&PyInside.calls _ a&&Jh _&&PyFlat.short _ _):=h;rw[d,bX,bX]at g;obtain⟨⟨_,b⟩,i⟩:=g;unfold Jh at b;rw[bX]at b;refine⟨a,rfl,λc j=>ams (hV.mp b.1 c j),?_,f⟩;rw[<-f];exact Yz i
end DL
namespace L2
open PySem PySem.Spec PyProof.Rows
open PySem.W(WData Codec OpenSpec Well WellAll ReadsW ReadsAllW)
mutual
inductive Dw(K:au)(H:Hp):V->Q5 fy
 |a9:Dw K H .a9 Sf
 |bl(b:Bool):Dw K H (.bl b) (.bool b)
 |int(i:Int):Dw K H S0 S0
 |str(x:Str):Dw K H (.str x) (.str x)
 |fm(b:SO UInt8):Dw K H (.fm b) (.bytes Xo)
 |lst{a:Addr}{xs:Q8}{ds:QR fy}:bF K H a xs->ja K H xs ds->Dw K H QS (.list ds)
 |tup{a:Addr}{xs:Q8}{ds:QR fy}:cw K H a xs->ja K H xs ds->Dw K H QS (.tuple ds)
inductive ja(K:au)(H:Hp):Q8->Q5 (QR fy)
 |nil:ja K H [] []
 |cons{v:V}{vs:Q8}{d:fy}{ds:QR fy}:Dw K H v d->ja K H vs ds->ja K H (v::vs) (d::ds)
end
def aaJ{K}:Qdi (ja K H R6 (YT WData.int))
 |[]=> .nil
 |n::r=> UP ZM aaJ r
def aaK{K}:∀(ns:List Int)xs,ja K H xs (YT WData.int)->xs=R6
 |[],xs,h=>by
  cases h;rfl
 |n::r,xs,h=>by
  cases h with
  |cons a b=>
   cases a;rw[aaK r _ b]<;>rfl
section
variable{P:aO}{w:aA}{K:au}{H:Hp}{h:Heap}{R:PySem.W.WRecords}{cl:Str->QaW}
def amu(a5:cj P w H h)(c:K.In h)(q:bF K H a xs):∃(b:List aJ)(o:Obj)(n:Nat),RX xs b/\SJ=Qi/\V8=SW/\Si= .seq Qa2 n:=by
 rcases q with q|⟨o,b,n,e,d,_,hd,_,hv⟩
 ·obtain⟨_,b,n,hv,e⟩:=(q.ok a5);exact⟨b,_,n,hv,e,rfl,rfl⟩
 ·exact⟨Xo,o,n,hv,c _ _ e,d,by simp[hd]⟩
def amv(a5:cj P w H h)(d:K.In h)(q:cw K H a xs):∃(b:List aJ)(o:Obj)(n:Nat),RX xs b/\SJ=Qi/\V8=UQ/\Si= .seq Qa2 n:=by
 rcases q with q|⟨o,b,n,e,c,hd,_,hv⟩
 ·obtain⟨_,b,hv,o,e,c,n,hd⟩:=(q.ok a5);exact⟨b,o,n,hv,e,c,hd⟩
 ·exact⟨Xo,o,n,hv,d _ _ e,c,by simp[hd]⟩
mutual
theorem Dw.reads(a5:cj P w H h)(KX:K.In h):∀(d:fy)(v:V)(u:aJ),Dw K H v d->U0-> ∃as,ReadsW R cl h u d as
 | .none,_,_,x,r=>by
  cases x;cases r;exact Rh ReadsW.none
 | .bool b,_,_,x,r=>by
  cases x;cases r;exact V0 ReadsW.bool b
 | .int i,_,_,x,r=>by
  cases x;obtain⟨t,rfl⟩:=r;exact Rh (ReadsW.int i t)
 | .str s,_,_,x,r=>by
  cases x;obtain⟨t,rfl⟩:=r;exact Rh (ReadsW.str s t)
 | .bytes b,_,_,x,r=>by
  cases x;obtain⟨t,rfl⟩:=r;exact Rh (ReadsW.bytes _ t)
 | .list ds,_,_,x,r=>by
  cases x with
  |lst hs ha=>
   cases r;obtain⟨its,o,n,rv,ho,hc,hd⟩:=amu a5 KX hs;obtain⟨as,hr⟩:=Dw.readsAll a5 KX ds _ its ha rv;exact Rh (ReadsW.list ho hc hd hr)
 | .tuple ds,_,_,x,r=>by
  cases x with
  |tup hs ha=>
   cases r;obtain⟨its,o,n,rv,ho,hc,hd⟩:=amv a5 KX hs;obtain⟨as,hr⟩:=Dw.readsAll a5 KX ds _ its ha rv;exact Rh (ReadsW.tuple ho hc hd hr)
 | .float _,_,_,x,_=>by cases x
 | .dict _,_,_,x,_=>by cases x
 | .bytearray _,_,_,x,_=>by cases x
 | .set _,_,_,x,_=>by cases x
 | .frozenset _,_,_,x,_=>by cases x
 | .obj _ _,_,_,x,_=>by cases x
theorem Dw.readsAll(a5:cj P w H h)(KX:K.In h):∀(ds:List fy)(vs:List V)(us:List aJ),ja K H vs ds->UJ vs-> ∃as,ReadsAllW R cl h us ds as
 |[],_,_,x,r=>by
  cases x;cases r;exact Rh ReadsAllW.nil
 |d::ds,_,_,x,r=>by
  cases x with
  |cons h1 h2=>
   cases r with
   |cons r1 r2=>
    obtain⟨as,q1⟩:=Dw.reads a5 KX d _ _ h1 r1;obtain⟨bs,q2⟩:=Dw.readsAll a5 KX ds _ _ h2 r2;exact Rh (ReadsAllW.cons q1 q2)
end
mutual
def jb:S4 fy
 | .none=>true
 | .bool _=>true
 | .int _=>true
 | .str _=>true
 | .bytes _=>true
 | .list xs=>kl xs
 | .tuple xs=>kl xs
 |_=>false
def kl:S4 (QR fy)
 |[]=>true
 |x::r=>jb x&&kl r
end
end
def aaL{b:Type}{f}(h:∀a,QJ jb (f a)):∀l:List b,QJ kl (R1 f)
 |[]=>rfl
 |x::r=>by
  show Qv (jb (f x)&&kl _);rw[h x,aaL h r]<;>rfl
def pL:∀(c:Codec)a,QJ jb (c.enc a)
 | .unit,_=>rfl
 | .bool,_=>rfl
 | .int _ _,_=>rfl
 | .nat _ _,_=>rfl
 | .u8,_=>rfl
 | .bytes _ _,_=>rfl
 | .text _ _ _ _,_=>rfl
 | .list _ _ c,a=>aaL (λx=>pL c x) a
 | .pair c d,a=>by
  show Qv (jb _&&(jb _&&true));rw[pL c a.1,pL d a.2]<;>rfl
 | .triple c d e,a=>by
  show Qv (jb _&&(jb _&&(jb _&&true)));rw[pL c a.1,pL d a.2.1,pL e a.2.2]<;>rfl
 | .option c,none=>rfl
 | .option c,some x=>pL c x
def aaM:∀cs a,QJ kl (yy cs a)
 |[],_=>rfl
 |c::cs,a=>by
  show Qv (jb _&&kl _);rw[pL c a.1,aaM cs a.2]<;>rfl
def Ic:∀ {xs:List fy}{d:fy},d∈xs->Qc7<=yz xs
 |[],d,h=>Zj h
 |x::r,d,h=>by
  show Qc7<=x.weight+1+yz r;rcases RA h with e|m
  ·rw[e];omega
  ·have z:=Ic m;omega
def toV:aJ->V
 | .none=> .a9
 | .bool b=> .bl b
 | .int i _=> S0
 | .str x _=> .str x
 | .bytes b _=> .fm b
 | .ref a=> QS
 |_=> .a9
def jE(A:QZ):Q5 aJ
 | .none=>True
 | .bool _=>True
 | .int _ _=>True
 | .str _ _=>True
 | .bytes _ _=>True
 | .ref a=>a∈A
 |_=>False
def jE.mono(h:∀a∈A,a∈B):∀ {u:aJ},jE A u->jE B u:=λ{u}x=>by
 cases u with
 |ref a=>exact h a x
 |none=>trivial
 |bool b=>trivial
 |int i t=>trivial
 |str s t=>trivial
 |bytes b t=>trivial
 |_=>exact cP x
def amw(x:jE A u):Y4 (toV u):=by
 cases u with
 |ref a=>rfl
 |none=>rfl
 |bool b=>rfl
 |int i t=>exact V' t
 |str s t=>exact V' t
 |bytes b t=>exact V' t
 |_=>exact cP x
def uh:∀ {vs:List aJ},(∀u∈vs,jE A u)->RX (vs.map toV) vs
 |[],_=> .nil
 |u::r,h=> UP (amw (h u Ru)) uh (Sv (h x (bP _ hx)))
def mE(h:Heap)(A:QZ)(a:Addr):Prop:= ∃b:List aJ,QP b bq/\(∀u∈b,jE A u)/\(SJ=Qc {cls:= SW,data:= .seq Qa2}\/SJ=Qc {cls:= UQ,data:= .seq Qa2})
def mE.mono(k:∀a∈A,a∈B)(x:mE h A a):mE h B a:=by
 obtain⟨b,c,d,e⟩:=x;exact⟨b,c,λu f=>(d u f).mono k,e⟩
def By:∀ {vs:List aJ}{a:List fy},oz P h vs a->V1=Sj
 |_,_,.nil=>rfl
 |_,_,.cons _ b=>by
  show _+1=_+1;rw[By b]
def aaN(x:Well P h v (.list b)):∃(a:Addr)(vs:List aJ),v=QS/\SJ=Qc {cls:= SW,data:= .seq Wj}/\oz P h vs b:=by
 cases x with
 |list c d=>exact Uu c d
def aaO(x:Well P h v (.tuple b)):∃(a:Addr)(vs:List aJ),v=QS/\SJ=Qc {cls:= UQ,data:= .seq Wj}/\oz P h vs b:=by
 cases x with
 |tuple c d=>exact Uu c d
def aaP(x:oz P h us (d::c)):∃(v:aJ)(vs:List aJ),us=v::vs/\Well P h v d/\oz P h vs c:=by
 cases x with
 |cons a b=>exact Uu a b
def aaQ(h:n<=Qb7):n<=bq:=bp h QD
section
variable{P:Params}{h:Heap}
mutual
theorem amx:∀(d:fy)(v:aJ),Well P h v d->QJ jb d->Qc7<=Qb7-> ∃A:List Addr,jE A v/\ ∀a∈A,mE h A a
 | .none,_,x,_,_=>by
  cases x;exact Qh [] RQ (Qdl m)
 | .bool b,_,x,_,_=>by
  cases x;exact Qh [] RQ (Qdl m)
 | .int i,_,x,_,_=>by
  cases x;exact Qh [] RQ (Qdl m)
 | .str s,_,x,_,_=>by
  cases x;exact Qh [] RQ (Qdl m)
 | .bytes b,_,x,_,_=>by
  cases x;exact Qh [] RQ (Qdl m)
 | .list ds,_,x,p,z=>by
  obtain⟨a,vs,rfl,ho,hall⟩:=aaN x;have z2:yz ds<=Qb7:=z;obtain⟨A,h1,h2⟩:=Bz ds _ hall p (λd hd=>bp (Ic hd) z2);have k:∀b∈A,b∈a::A:=λb hb=>bP _ hb;refine⟨a::A,Ru,λb hb=>?_⟩;rcases RA hb with e|m
  ·rw[e];exact⟨vs,aaQ (by rw[By hall];exact bp (Ja ds) z2),λu hu=>(h1 u hu).mono k,Qq ho⟩
  ·exact(h2 b m).mono k
 | .tuple ds,_,x,p,z=>by
  obtain⟨a,vs,rfl,ho,hall⟩:=aaO x;have z2:yz ds<=Qb7:=z;obtain⟨A,h1,h2⟩:=Bz ds _ hall p (λd hd=>bp (Ic hd) z2);have k:∀b∈A,b∈a::A:=λb hb=>bP _ hb;refine⟨a::A,Ru,λb hb=>?_⟩;rcases RA hb with e|m
  ·rw[e];exact⟨vs,aaQ (by rw[By hall];exact bp (Ja ds) z2),λu hu=>(h1 u hu).mono k,Qy ho⟩
  ·exact(h2 b m).mono k
 | .float _,_,_,p,_=>jc Yk
 | .dict _,_,_,p,_=>jc Yk
 | .bytearray _,_,_,p,_=>jc Yk
 | .set _,_,_,p,_=>jc Yk
 | .frozenset _,_,_,p,_=>jc Yk
 | .obj _ _,_,_,p,_=>jc Yk
theorem Bz:∀(ds:List fy)(vs:List aJ),oz P h vs ds->QJ kl ds->(∀d∈ds,Qc7<=Qb7)-> ∃A:List Addr,(∀u∈vs,jE A u)/\ ∀a∈A,mE h A a
 |[],_,x,_,_=>by
  cases x;exact⟨[],λu m=>Zj m,Qdl m⟩
 |d::ds,_,x,p,z=>by
  obtain⟨v,vs,rfl,x1,x2⟩:=aaP x;have q:QJ jb d/\QJ kl ds:=Bool.and_eq_true_iff.mp p;obtain⟨A,a1,a2⟩:=amx d v x1 q.1 (z d Ru);obtain⟨B,b1,b2⟩:=Bz ds vs x2 q.2 (λe he=>z e (bP _ he));have kA:∀b∈A,b∈A++B:=λb hb=>gg.mpr (Qq hb);have kB:∀b∈B,b∈A++B:=λb hb=>gg.mpr (Qy hb);refine⟨A++B,λu hu=>?_,λb hb=>?_⟩
  ·rcases RA hu with e|m
   ·rw[e];exact a1.mono kA
   ·exact(b1 u m).mono kB
  ·rcases Vd hb with m|m
   ·exact(a2 b m).mono kA
   ·exact(b2 b m).mono kB
end
def BA(o:Obj):Ri HO:=match o.data with
 | .seq a _=>if Qv (V8==iJ Rq) then Uc (YE (ZX a toV))else Uc (.tup (ZX a toV))
 |_=>none
end
def eR(K:au)(h:Heap)(A:QZ):Hp:=λb=>if b∈A then(if(K.lookup b).isNone=true then(h.get? b).bind BA else none)else none
def aaR(vs:Wr):BA {cls:= SW,data:= .seq Wj}=XA {cls:= SW,data:= .seq Wj} (YE (vs.map toV)):=by
 show(if Qv (iJ Rq==iJ Rq) then Qc _ else Rz HO.gr {cls:= SW,data:= .seq Wj} (.tup (vs.toArray.toList.map toV)))=_;rw[Qp (beq_self_eq_true _)]
def aaS(vs:Wr):BA {cls:= UQ,data:= .seq Wj}=XA {cls:= UQ,data:= .seq Wj} (.tup (vs.map toV)):=by
 show(if Qv (iJ XR==iJ Rq) then Rz HO.gr {cls:= UQ,data:= .seq Wj} (YE (vs.toArray.toList.map toV))else Qc _)=_;rw[(Xm)]
section
variable{P:aO}{w:aA}{K:au}{h:Heap}{A:QZ}
def BB(a:b∈A)(c:Vz b=none)(e:S1=Qi):eR K h A b=BA o:=by
 unfold eR;rw[(VR),c,Qp _,e]<;>rfl
def amy(q:eR K h A b=Rj):b∈A/\Vz b=none:=by
 unfold eR at q;by_cases a:b∈A
 ·cases c:Vz b with
  |none=>exact V' a
  |some o=>
   grind
 ·rw[(W2)]at q;cases q
def xu(f:∀a∈A,mE h A a)(q:eR K h A b=Rj):Vz b=none/\ ∃vs:List aJ,V1<=bq/\(∀u∈vs,jE A u)/\((S1=Qc {cls:= SW,data:= .seq Wj}/\u= .gr {cls:= SW,data:= .seq Wj} (YE (vs.map toV)))\/(S1=Qc {cls:= UQ,data:= .seq Wj}/\u= .gr {cls:= UQ,data:= .seq Wj} (.tup (vs.map toV)))):=by
 obtain⟨c,d⟩:=amy q;obtain⟨vs,g,i,j⟩:=f b c;refine⟨d,vs,g,i,?_⟩;rcases j with e|e
 ·rw[BB c d e,aaR]at q;exact Qq (Qe e (gn q).symm)
 ·rw[BB c d e,aaS]at q;exact Qy (Qe e (gn q).symm)
def apj{vs us:Wr}(e:(Qc {cls:=c,data:= .seq vs.toArray}:Ri Obj)=Qc {cls:=a,data:= .seq us.toArray}):c=a/\vs=us:=by
 grind
def amz(i:K.In h)(j:∀a∈A,mE h A a){vs:Wr}(c:a∈A)(e:SJ=Qc {cls:= SW,data:= .seq Wj}):(∀u∈vs,jE A u)/\bF K (eR K h A) a (vs.map toV):=by
 obtain⟨d,l,f,m⟩:=j a c;have k:d=vs:=by
  grind
 subst k;refine Q_ f;cases b:Vz a with
 |none=>exact Qq (WA _ (by rw[BB c b e,aaR]))
 |some o=>
  have g:=i a o b;rw[e]at g;obtain rfl:=gn g;exact Qy ⟨_,U4 d,_,b,rfl,rfl,rfl,Qa,by simpa using uh f⟩
def amA(i:K.In h)(j:∀a∈A,mE h A a){vs:Wr}(c:a∈A)(e:SJ=Qc {cls:= UQ,data:= .seq Wj}):(∀u∈vs,jE A u)/\cw K (eR K h A) a (vs.map toV):=by
 obtain⟨d,l,f,m⟩:=j a c;have k:d=vs:=by
  grind
 subst k;refine Q_ f;cases b:Vz a with
 |none=>exact Qq (WA _ (by rw[BB c b e,aaS]))
 |some o=>
  have g:=i a o b;rw[e]at g;obtain rfl:=gn g;exact Qy ⟨_,U4 d,_,b,rfl,rfl,Qa,by simpa using uh f⟩
mutual
theorem amB{Pm:Params}(KX:K.In h)(ar:∀a∈A,mE h A a):∀(d:fy)(v:aJ),Well Pm h v d->QJ jb d->jE A v->Dw K (eR K h A) (toV v) d
 | .none,_,x,_,_=>by
  cases x;exact .a9
 | .bool b,_,x,_,_=>by
  cases x;exact .bl b
 | .int i,_,x,_,_=>by
  cases x;exact S0
 | .str s,_,x,_,_=>by
  cases x;exact .str s
 | .bytes b,_,x,_,_=>by
  cases x;have z:=Dw.fm (K:=K) (H:=eR K h A) Qa2;exact z
 | .list ds,_,x,p,hu=>by
  obtain⟨a,vs,rfl,ho,hall⟩:=aaN x;obtain⟨h2,hs⟩:=amz KX ar hu ho;exact .lst hs (BC KX ar ds _ hall p h2)
 | .tuple ds,_,x,p,hu=>by
  obtain⟨a,vs,rfl,ho,hall⟩:=aaO x;obtain⟨h2,hs⟩:=amA KX ar hu ho;exact .tup hs (BC KX ar ds _ hall p h2)
 | .float _,_,_,p,_=>jc Yk
 | .dict _,_,_,p,_=>jc Yk
 | .bytearray _,_,_,p,_=>jc Yk
 | .set _,_,_,p,_=>jc Yk
 | .frozenset _,_,_,p,_=>jc Yk
 | .obj _ _,_,_,p,_=>jc Yk
theorem BC{Pm:Params}(KX:K.In h)(ar:∀a∈A,mE h A a):∀(ds:List fy)(vs:List aJ),oz Pm h vs ds->QJ kl ds->(∀u∈vs,jE A u)->ja K (eR K h A) (vs.map toV) ds
 |[],_,x,_,_=>by
  cases x;exact .nil
 |d::ds,_,x,p,hu=>by
  obtain⟨v,vs,rfl,x1,x2⟩:=aaP x;have q:QJ jb d/\QJ kl ds:=Bool.and_eq_true_iff.mp p;exact Rc (amB KX ar d v x1 q.1 (hu _ Ru)) (BC KX ar ds vs x2 q.2 (λu m=>hu u (bP _ m)))
end
end
def amC(h:QJ WData.layableAll a):∀d∈a,Qc7<=Qb7:=λd hd=>(PySem.W.layableW_iff.mp (hV.mp h d hd)).2.2
def aaT:∀cs a,Wa yy cs a=cs.length
 |[],_=>rfl
 |c::cs,a=>by
  show Wa yy cs a.2+1=cs.length+1;rw[aaT cs a.2]
end L2
namespace L2
open PySem PySem.Spec PyProof.Rows
open PySem.W(WData Codec OpenSpec Well WellAll ReadsW ReadsAllW CodeHd tabObj tabIn)
def amD{K}(e:af H H')(h:cw K H a xs):cw K H' a xs:=by
 rcases h with(h|⟨o,h⟩)|h
 ·exact Qdr (e _ _ h)
 ·exact Qq (WA o (e _ _ h))
 ·exact Qy h
mutual
theorem Dw.keep{K:au}{H H':Hp}(e:af H H'):∀(d:fy)(v:V),Dw K H v d->Dw K H' v d
 | .none,_,x=>by cases x;exact .a9
 | .bool b,_,x=>by cases x;exact .bl b
 | .int i,_,x=>by cases x;exact S0
 | .str s,_,x=>by cases x;exact .str s
 | .bytes b,_,x=>by
  cases x with
  |fm c=>exact .fm c
 | .list ds,_,x=>by
  cases x with
  |lst hs ha=>exact .lst (e.seq hs) (Dw.BD e ds _ ha)
 | .tuple ds,_,x=>by
  cases x with
  |tup hs ha=>exact .tup (amD e hs) (Dw.BD e ds _ ha)
 | .float _,_,x=>by cases x
 | .dict _,_,x=>by cases x
 | .bytearray _,_,x=>by cases x
 | .set _,_,x=>by cases x
 | .frozenset _,_,x=>by cases x
 | .obj _ _,_,x=>by cases x
theorem Dw.BD{K:au}{H H':Hp}(e:af H H'):∀(ds:List fy)(vs:List V),ja K H vs ds->ja K H' vs ds
 |[],_,x=>by cases x;exact .nil
 |d::ds,_,x=>by
  cases x with
  |cons h1 h2=>exact Rc (Dw.keep e d _ h1) (Dw.BD e ds _ h2)
end
def amE(n:H a=none):af H (upd H a o):=Ye (by rw[ax (cZ e n)];exact e)
def amF{K}
  (J:K.In Tf)(hns:a.heap.Ns de mg)(L:a.heap.Ns builtinsNs I)(hbb:∀x:Str,x≠QaN->I x=gY x)(hlim:a.heap.NoLimit)(hg:a.gens= #[])
  (M:oz QaY Tf h i)(hpl:QJ kl i)(hwt:∀d∈i,Qc7<=Qb7)(hr:dt k callerA)
  (hcd:CodeHd Tf C T)(N:Qar a T=RE tabObj (#[]))(hbt:a.heap.BuiltinsAt mg T)(hKT:Vz T=none)
  (F:∀base,K.In base->base.Ns de mg->CodeHd base C T->Qet mg T->ay P w K mg base W k X Y ps Z)(hbind:∀s us,QaR=Vk->BindsTo s Y (Wd us) (ps.zip us))(hlen:Qn i=Vk)
  (hsp:∀H xs,H T=Z1 (#[])->ja K H xs i->Z xs H (λv H'=>Dw K H' v d0) QdL)
  (hCX:∀H e g,W [] H a QdL e g->False):
  lG (aV P w) callerA (U7 .call X (Wd h)) (λr g=> ∃u O,r= .ok (.ret u)/\ReadsW R cl g.heap u d0 O/\OldK Tf g.heap/\g.os=a.os/\pX g.gens) a:=by
 obtain⟨A,ho,t⟩:=Bz i h M hpl hwt;have noC:∀ {b:Addr}{o:Obj},Qar a b=Qi->V8≠SW->V8≠UQ->eR K Tf A b=none:=λ{b o}e c1 c2=>by
  cases q:eR K Tf A b with
  |none=>rfl
  |some u=>
   obtain⟨_,j,_,_,⟨y,_⟩|⟨y,_⟩⟩:=xu t q
   ·grind
   ·grind
 have noA:∀ {b:Addr}{o:Obj}{l:Array rO}{p:Nat},Qar a b=Qi->Si=Ve l p->eR K Tf A b=none:=λ{b o l p}e d=>by
  cases q:eR K Tf A b with
  |none=>rfl
  |some u=>
   obtain⟨_,j,_,_,⟨y,_⟩|⟨y,_⟩⟩:=xu t q
   ·grind
   ·grind
 have hTn:=noC N QdF QdF;have hO:∀b u,eR K Tf A b=Rj-> ∃o v,u= .gr o v:=λb u q=>by
  obtain⟨_,j,_,_,⟨_,e⟩|⟨_,e⟩⟩:=xu t q
  ·exact Tn _ e
  ·exact Tn _ e
 have a5:cj P w (upd (eR K Tf A) T Qa7) Tf:=λb u q=>by
  by_cases f:b=T
  ·subst f;rw[aC]at q;cases q;exact N
  ·rw[ax f]at q;obtain⟨_,j,h1,D,⟨e,rfl⟩|⟨e,rfl⟩⟩:=xu t q
   ·exact⟨e,Qm,j,_,uh D,e⟩
   ·exact⟨e,Qm,j,uh D,_,e,rfl,_,rfl⟩
 have hS:ja K (upd (eR K Tf A) T Qa7) (QG h toV) i:=Dw.BD (amE hTn) i _ (BC J t i h M hpl ho);have hK:∀b u,(upd (eR K Tf A) T Qa7) b=Rj->Vz b=none:=λb u q=>by
  by_cases f:b=T
  ·subst f;exact hKT
  ·rw[ax f]at q;exact(xu t q).1
 have Q:∀ {b:Addr}{o:Obj},Qar a b=Qi->V8≠SW->V8≠UQ->V8≠Sf->(upd (eR K Tf A) T Qa7) b=none:=λ{b o}e c1 c2 c3=>by
  rw[ax QcM];exact noC e c1 c2
 have noA2:∀ {b:Addr}{o:Obj}{l:Array rO}{p:Nat},Qar a b=Qi->Si=Ve l p->(upd (eR K Tf A) T Qa7) b=none:=λ{b o l p}e d=>by
  rw[ax QcM];exact noA e d
 have S:(upd (eR K Tf A) T Qa7) T=Z1 (#[]):=aC;have hO2:∀b u,(upd (eR K Tf A) T Qa7) b=Rj->b=T\/ ∃o v,u= .gr o v:=λb u q=>by
  by_cases f:b=T
  ·exact Qq f
  ·rw[ax f]at q;exact Qy (hO b u q)
 generalize upd (eR K Tf A) T Qa7=H at a5 hS hK Q noA2 S hO2;have E:∀ {b:Addr}{o:Obj},Qar a b=Qi->H b=none->R0 (oE Tf H) b=Qi:=λe n=>abf e n;have G:∀ {b:Addr}{m:Str->Option aJ},a.heap.Ns b m->(oE Tf H).Ns b m:=λ{b m}⟨o,l,p,e,d,r⟩=>⟨o,l,p,E e (noA2 e d),d,r⟩;have nK:RN (Vz b=Qi->H b=none):=Q4 (by
  cases q:H b with
  |none=>rfl
  |some u=>
   rw[hK b u q]at e;cases e)
 have hKb:=Q4 (E (J b o e) (nK b o e));have hcd2:CodeHd (oE Tf H) C T:=by
  obtain⟨o,j,file,tf,flags,tg,inF,text,tt,e,c,r⟩:=hcd;exact⟨o,j,file,tf,flags,tg,inF,text,tt,E e (Q e QdH QdH (by rw[c];intro z;cases z)),c,r⟩
 have hbt2:(oE Tf H).BuiltinsAt mg T:=by
  obtain⟨bm,o,b1,b2,b3,b4,e,c,r⟩:=hbt;exact⟨bm,o,b1,b2,b3,b4,E e (Q e QdH QdH (by rw[c];intro z;cases z)),c,r⟩
 refine jO ((F _ hKb (G hns) hcd2 hbt2).run callerA [] a H (Wd h) h (QG h toV) _ _ hr ⟨rfl,⟨hKb,G hns,Qh I (G L) hbb,let⟨mc,h1,D⟩:=hlim;⟨mc,G h1,D⟩⟩,Q4 (abg e),rG (abe _ _),RQ,λb L=>Zj (show b∈[]from L),a5,.of_eq hg⟩ (hbind a h (by rw[By M];exact hlen)) (uh ho) (hsp H _ S hS)) (λr g x=>?_);cases r with
 |error e=>exact(hCX H e g x).elim
 |ok fl=>
  cases fl with
  |next=>exact cP x
  |brk=>exact cP x
  |cont=>exact cP x
  |ret u=>
   obtain⟨v,H',os,bare,un,U,r',q⟩:=x;have kept:=Qct (by
    cases B:H b with
    |none=>exact un.keep b o e B (by exactλz=>absurd (show b∈[]from z) (by simp)) Qj
    |some u2=>
     rcases hO2 b u2 B with z|⟨ob,u3,z⟩
     ·exact Rk z f
     ·rw[z]at B;obtain⟨e1,_⟩:=a5 b _ B;obtain⟨y,_⟩:=U b _ (un.kW b ob _ B);rw[e]at e1;cases e1;exact y)
   obtain⟨more,hm⟩:=un.lM T _ S;have hTe:Qar g T=RE tabObj (#[]++more):=U T _ hm;obtain⟨O,hrd⟩:=Dw.reads U (Q4 (kept b o QcM (J b o e))) d0 v u q r';have hic:isCodeTable Tf T:=by
    obtain⟨o,j,file,tf,flags,tg,inF,text,tt,e,c,d,e11,_⟩:=hcd;exact⟨C,o,j,e,c,d,e11⟩
   refine Xa u O hrd ⟨Q4 ?_,Q4 Qm⟩ os bare
   ·by_cases f:b=T
    ·subst f;rw[N]at e;cases e;exact Qay ⟨hic,rfl,#[],more,rfl,hTe⟩
    ·exact Qq (kept b o f e)
def amG{K:Params->au}{m:au->Sp}
  (I:Qv r.wellSaid)(hdf:d.params.defaults=[])(J:r.args.length=Vk)(L:dt k callerA)
  (M:∀w h,g w h->(K QaY).In h)
  (N:(recsOf q).find? (λe=>e.name==x)=Qc E)(ht:∀w:aA,tabIn (K QaY) x=Se n T)(O:∀w:aA,ZU (K QaY) T=none)
  (F:∀w mg b h,g w h->(K QaY).In h->h.Ns de mg->mg d.name=UK b-> ∃i,(∀s us,QaR=Vk->BindsTo s i (Wd us) (ps.zip us))/\ ∀base,(K QaY).In base->base.Ns de mg->CodeHd base n T->Qet mg T->ay r.prog w (K QaY) mg base l k b i ps (m (K QaY)))
  (P:∀K H xs a,H T=Z1 (#[])->Rm Codec.withinAll _ a->T2 Codec.app _ r.asked a->ja K H xs (yy _ a)->m K xs H (λv H'=>Dw K H' v (r.ret.enc (Codec.app _ r.f a))) QdL)
  (Q:∀H s e c,l [] H s QdL e c->False):
  PySem.W.WalkOS q C D g r d [] (λf vs=>PySem.call f vs):=by
 intro w jj p mg mb G Y b o pm cd' doc dV kV ho hd hcd hD S hg U vals as W X hrd Z hlo;obtain⟨a,e1,e2⟩:=PySem.W.os_pre_some W;obtain⟨e3,t⟩:=Codec.encAll_of_decAll _ U a e1;subst e3;have j:=M w _ Y;obtain⟨i,hb,hF⟩:=F w mg b _ Y j G.T.g S;obtain⟨tc,tt⟩:=PySem.W.tab_of G.T j N (ht w);have hbt:p.heap.BuiltinsAt mg T:=by
  obtain⟨bm,ob,b1,b2,y,b4,b5,A⟩:=G.T.bmain;refine⟨bm,ob,b1,b2,QcS,QcM,y,b4,b5,A⟩
  ·obtain⟨o',es,ep,e,B,_⟩:=G.T.g;rw[<-z,y]at e;cases e;rw[A]at B;cases B
 refine PySem.W.enter_call (jO (amF (R:=[]) (cl:=classAt jj.heap) j G.T.g G.T.b G.T.builtins G.T.nolimit hg Z (aaM _ _) (amC X) L tc tt hbt (O w) hF hb (by rw[aaT];exact J) (λH xs hO hS=>P _ H xs a hO t e2 hS) (λH e c=>Q H p e c)) (λr' c hq=>?_))
 obtain⟨u,as',rfl,h1,h2,h3,h4⟩:=hq;exact⟨Qq ⟨u,_,as',rfl,Vn,h1,S_ (OpenSpec.post_iff I t _ _).mpr,λz=>jc z⟩,h2,h3,h4⟩
end L2
namespace DL
open PySem PySem.Spec L2 NT AT
open PyProof.Rows hiding St
open PySem.W(nsIn findIn isFn keepIn codeIn makesIn tabIn CodeHd)
structure FnAt(K:au)(x:Str)(st:Stmt):Prop where
 ex:Qge (nsIn K de x=XC f/\aP K x x st f fd)
structure jF(K:au)(C:Addr)(x q:Str)(st:Stmt):Prop where
 ex:Qge (Meth K C x f/\aP K x q st f fd)
def BE(x q:Str)(st:Stmt)(ps:Uh):Prop:= ∀kV b pm c d ct a,Sj=Vk->bindArgs (mU x q (qw st) (g_ st) (aK st) Sf kV b pm c d ct) (Wd a)=Sy (ps.zip a)
def BF(K:au)(a:Addr)(vs:Q8):Prop:= Qhe (Vz a=Qi/\V8=UQ/\Si= .seq b n/\RH b<=bq/\RX vs Xo)
section
variable{K:au}{x q:Str}{st:Stmt}{f C:Addr}{oc:aJ}{od an:QaW}{osl:SO Qdz}{kV doc pm cdv ct:aJ}
def amH(a:nsIn K de x=XC f)(l:Vz f=Qc ⟨oc,od,.func (mU x x (qw st) (g_ st) (aK st) Sf kV doc pm an cdv ct),osl⟩)(c:T2 u6 K cdv x)(k:Zq mV K):QM x st:=⟨f,_,a,KI l c k⟩
def amI(a:mT K Wq x=XC f)(l:Vz f=Qc ⟨oc,od,.func (mU x q (qw st) (g_ st) (aK st) Sf kV doc pm an cdv ct),osl⟩)(c:T2 u6 K cdv q)(k:Zq mV K)(i:Zq isFn K):jF K C x q st:=⟨f,_,Qh a i k,KI l c k⟩
end
section
variable{P:aO}{w:aA}{K:au}{mg:QQ}{base h:Heap}{x q:Str}{st:Stmt}{C:Addr}{k:Nat}{ps:Uh}{sp:Sp}
def FnAt.has(A:QM x st)(X:K.In h)(G:h.Ns de mg)(ok:∀f b,aP K x x st f b->ay P w K mg base az k f b ps sp)(c:BE x x st ps):aE P w K mg base k x ps sp:=by
 obtain⟨f,b,a,F⟩:=A.ex;exact⟨f,b,ok f b F,oy X G a,F.kp,F.binds c⟩
def FnAt.aaU(A:QM x st)(X:K.In h)(G:h.Ns de mg)(ok:∀f b,nsIn K de x=XC f->aP K x x st f b->ay P w K mg base az k f b ps sp)(c:BE x x st ps):aE P w K mg base k x ps sp:=by
 obtain⟨f,b,a,F⟩:=A.ex;exact⟨f,b,ok f b a F,oy X G a,F.kp,F.binds c⟩
def jF.has(A:jF K C x q st)(ok:∀f b,aP K x q st f b->ay P w K mg base az k f b ps sp)(c:BE x q st ps):gG P w K mg base C k x ps sp:=by
 obtain⟨f,b,a,F⟩:=A.ex;exact⟨f,b,ok f b F,a,F.binds c⟩
def amJ{g}(ht:tabIn K x=Se b T)(a:nsIn K de x=XC f)(l:Vz f=Qc ⟨d,e,.func c,g⟩):c.code=SI:=by
 unfold tabIn at ht;rw[a]at ht;dsimp only at ht;split at ht
 ·grind
 ·cases ht
def cy(K:au)(x:Str)(i:Int):Prop:= ∃t,nsIn K de x=Qc (Rz .int i t)
def Ie(K:au)(x:Str)(ns:Qo):Prop:= ∃a,nsIn K de x=Qc Y0/\BF K a R6
def xv(K:au)(x:Str)(rows:Qak):Prop:= ∃(a:Addr)(ps:List Addr),nsIn K de x=Qc Y0/\BF K a (ps.map V.ref)/\dj (λp r=>BF K p (Qbv r Qb1)) ps rows
def cy.g(A:cy K x i)(X:K.In h)(G:h.Ns de mg):cb mg x i:=let⟨t,a⟩:=A;Qe t (oy X G a)
def Ie.g(A:Ie K x ns)(X:K.In h)(G:h.Ns de mg):qE K mg x ns:=let⟨a,e,r⟩:=A;⟨a,oy X G e,λH=>Qy r⟩
def amK{ps}(r:dj (λp r=>BF K p (Qbv r Qb1)) ps rows):dj (λp(r:List Nat)=> ∀H,cw K H p (Qbv r Qb1)) ps rows:=by
 induction r with
 |nil=>exact .nil
 |cons a t b=>exact Rc (λH=>Qy a) b
def xv.g(A:xv K x rows)(X:K.In h)(G:h.Ns de mg):qP K mg x rows:=let⟨a,ps,e,r,rs⟩:=A;⟨a,ps,oy X G e,λH=>Qy r,amK rs⟩
end
structure Txt(K:au)(C:Addr):Prop where
 book:nsIn K de "Book"=XC C
 cl:ib K C
 nL:j0 K C WN
 amL:Rm Ct K C
 kc:Rm mV K Wq
 amM:nsIn K de Y8=WJ
 amN:nsIn K de "all"=WJ
 amO:nsIn K de XR=WJ
 amP:nsIn K de Rq=WJ
 amQ:nsIn K de X5=WJ
 amR:nsIn K de YW=WJ
 amS:nsIn K de Uw=WJ
 amT:nsIn K de "sum"=WJ
 amU:nsIn K de "any"=WJ
 amV:nsIn K de TN=WJ
 amW:nsIn K de Ux=WJ
 amX:cy K "LINE_END" 10
 amY:cy K "BLANK" 32
 amZ:cy K "COMMA" 44
 am0:cy K "DASH" 45
 am1:cy K "ZERO" 48
 am2:cy K "COLON" 58
 am3:cy K "FIRST_LETTER" 97
 am4:cy K "LAST_LETTER" 122
 am5:cy K "MOST_LETTERS" 12
 am6:cy K "WRONG_FORM" (-2)
 am7:cy K "NO_SUCH_SENSE" (-3)
 am8:cy K "TOO_MANY" (-4)
 am9:cy K "NO_SENSE_TEXT" (-5)
 ana:cy K "WRONG_PAIR" (-6)
 anb:cy K "TOO_MANY_FOR_FIELDS" (-7)
 anc:cy K "FIRST_BYTE" 32
 ane:cy K "LAST_BYTE" 126
 anf:cy K "MOST_OF_SENSE" 20
 ang:cy K "MOST_OF_SENSES" 240
 anh:cy K "MOST_OF_DICTIONARY" 3000
 ani:cy K "MOST_FOR_FIELDS" 6
 anj:cy K "MOST_OF_FEWEST" 4
 aaV:cy K "MOST_SENSES" 40
 ank:cy K "MOST_LACKING_TOLD" 100
 anl:cy K "TELL" 0
 anm:cy K "DICTIONARY" 1
 ano:cy K "PAIR" 2
 anp:cy K "UNPAIR" 3
 anq:cy K "DROP" 4
 anr:cy K "SENSES" 5
 ans:cy K "EQUIVALENTS" 6
 ant:cy K "BACK" 7
 anu:cy K "CLASSES" 8
 anv:cy K "OVER" 9
 anw:cy K "LACKING" 10
 anx:cy K "FIELDS" 11
 anz:cy K "CLOSED" 12
 anA:cy K "WITHIN" 13
 anB:cy K "FEWEST" 14
 anC:cy K "GAPS" 15
 anD:cy K "TWINS" 16
 anE:cy K "COUNTS" 18
 anF:Ie K "TONGUES" [1,2,3]
 anG:xv K "TWO_TONGUES" [[1,2],[1,3],[2,3]]
 anH:xv K "OVER_THIRDS" nI
 anI:xv K "FORMS" xg
 anJ:jF K C Qd0 "Book.has_sense" EA
 anK:jF K C "senses" "Book.senses" EB
 anL:jF K C XO "Book.equivalents" EC
 anM:jF K C "paired" "Book.paired" ED
 anN:QM QcB EX
 anO:QM "gaps" EY
 anP:QM Qe3 EZ
 anQ:QM QdK E4
 anR:QM Qe4 E7
 anS:QM QeW E8
 anT:QM QfN HP
 aaW:QM QbQ zY
 anU:QM QeP Fb
 anV:QM Qfk Fc
 anW:QM Qfs Fd
 anY:QM "reached" Fm
 anZ:QM Qfl Fn
 an0:QM Qfu Fo
 an1:QM Qft Fp
 an2:QM QeS Fv
 an3:QM Qfy HY
 an4:QM QcO D2
 an5:QM QcK D4
 an6:QM "is_word" D6
 an7:QM QfQ D7
 an8:QM QbF D8
 an9:QM QdU D9
 aoa:QM QdR Ee
 aob:QM QeV Ef
 aoc:QM QfR Eg
 aod:QM QeY Eh
 aoe:QM Qfj Ei
 aof:QM Qe2 Er
 aog:QM QdQ Es
 aoh:QM QeR Ew
 aoi:QM QeU Ex
 aoj:QM "twins" Bu
 aok:QM Qfn F8
 aol:QM Qfe F9
 aom:QM Qff F_
 aon:QM Qei F1
 aoo:QM QdP F2
 aop:QM Qe6 F3
 aoq:QM Qfc Fw
 aor:QM QeT Fx
 aos:QM QdO Fy
 aot:QM "all_rows" FD
 aou:QM QcI FE
 aov:QM Qfv FF
 aow:QM Qfd FI
 aox:QM Qfm FJ
 aoy:QM "pairs_of" FK
 aoz:QM Qe5 FO
 aoA:QM QfE FP
 aoB:QM "fewest" FT
 aoC:QM QfF Ge
 aoD:QM "ask_gaps" Gg
 aoE:QM Qe7 Gd
 aoF:QM QeZ Gf
 aoG:QM "ask_back" Gj
 aoH:QM Qfw Gk
 aoI:QM Qfx Gm
 aoJ:QM QfG Gn
 aoK:QM QdV Gu
 aoL:QM QfH Gv
 aoM:QM QfI Gw
 aoN:QM QfJ Gx
 aoO:QM QfK Gy
 aoP:QM "ask_over" HQ
 aoQ:QM QfS HX
 aoR:QM QfT HZ
 aoS:jF K C Qg1 "Book.overfull_with" GY
 aoT:jF K C "add_sense" "Book.add_sense" wR
 aoU:jF K C "add_pair" "Book.add_pair" GZ
 aoV:jF K C V3 "Book.part" G0
 aoW:jF K C "drop" "Book.drop" G1
 aoX:QM QfM Hl
 aoY:QM Qfo Hi
 aoZ:QM "tell" Hh
 ao0:QM Qe8 Hm
 ao1:QM "pair" Hn
 ao2:QM "unpair" Ho
 ao3:QM "drop" Hq
 ao4:QM QdW Hv
 ao5:QM Qfg Hy
 ao6:QM Qe9 Hz
 ao7:QM QeK HA
 ao8:QM QdS HB
 ao9:QM QaP rl
 apa:QM QbG FR
 apb:QM QcW Be
 apc:jF K C Qd6 "Book.__init__" zJ
section
variable{P:aO}{w:aA}{K:au}{mg:QQ}{base h:Heap}{C cd T:Addr}
def apd(X:Txt K C)(d:K.In h)(G:h.Ns de mg)(ht:tabIn K QaP=Se cd T)(J:CodeHd base cd T)(M:Qet mg T):
  rh P w K mg base C T/\aE P w K mg base 1 QdW QdZ (Hx K)/\aE P w K mg base 10 QdS [Qk,T9] (nZ C T jC):=by
 have g:Top mg:=⟨(kG d G X.amM),(kG d G X.amN),(kG d G X.amO),(kG d G X.amP),(kG d G X.amQ),(kG d G X.amR),(kG d G X.amS),(X.amX.g d G),(X.amY.g d G),(X.amZ.g d G),(X.am0.g d G),(X.am1.g d G),(X.am2.g d G),(X.am3.g d G),(X.am4.g d G),(X.am5.g d G)⟩;have TT:=X.anF.g d G;have k:sP K mg:=⟨(X.am6.g d G),(X.am7.g d G),(X.am8.g d G),(X.am9.g d G),(X.ana.g d G),(X.anc.g d G),(X.ane.g d G),(X.anf.g d G),(X.anh.g d G),(X.aaV.g d G),TT⟩;have N:=X.anG.g d G;have O:=X.anH.g d G;have Q:=X.anI.g d G;have TB:j4 K mg C:=Qh X.cl X.nL (oy d G X.book);have p:=X.anJ.has (P:=P) (w:=w) (base:=base) (So afZ TB) Tu;have R:=X.anK.has (P:=P) (w:=w) (base:=base) (ps:=[RR,"s"]) (SU af1 TB g) Yi;have u:=Qb8 X.anL.has P w mg [RR,"s","t","x"] (SU af3 TB g) Xf;have v:=Qb8 X.anM.has P w mg [RR,"s","t","x","y"] (SU af5 TB p) YQ;have L:ef P w K mg base C:=⟨g,(kG d G X.amT),(kG d G X.amU),(kG d G X.amV),(kG d G X.amW),TB,p,R,u,v⟩;have q:=X.anN.has (P:=P) (w:=w) (base:=base) (ps:=QX) d G (So aga L) Tu;have S:=X.anO.has (P:=P) (w:=w) (base:=base) (ps:=QX) d G (So agb L) Tu;have U:=X.anP.has (P:=P) (w:=w) (base:=base) (ps:=QX) d G (So agc L) Tu;have x:=X.anQ.has (P:=P) (w:=w) (base:=base) (ps:=["one",Vo]) d G (So agf g) Yi;have V:=X.anR.has (P:=P) (w:=w) (base:=base) (ps:=[Qk,"s","t","x"]) d G (SU agh L x) Xf;have W:=X.anS.has (P:=P) (w:=w) (base:=base) (ps:=["one",Vo]) d G (RO (agi F)) Yi;have Y:aE P w K mg base 2 QaP [Td] (HM T):=X.ao9.aaU d G (λf e a F=>alj F g (let⟨_,_,_,_,_,_,_,_,_,_,l,_⟩:=F.ex;⟨amJ ht a l,J,M⟩)) SH;have Z:=X.anT.has (P:=P) (w:=w) (base:=base) (ps:=[Qk,"s","c","t","x"]) d G (RO (alq F L x W Y)) YQ;have h_bits:=X.aaW.has (P:=P) (w:=w) (base:=base) (ps:=QbJ) d G (RO (agm F)) SH;have h_bitsD:=X.aaW.has (P:=P) (w:=w) (base:=base) (ps:=QbJ) d G (RO (ahn F)) SH;have h_eab:=X.anU.has (P:=P) (w:=w) (base:=base) (ps:=Y_ "c") d G (SU ags L h_bits) Tu;have h_lo:=X.anV.has (P:=P) (w:=w) (base:=base) (ps:=[Qk,"s","c","t"]) d G (SU agv L h_eab) Xf;have h_al:=X.anW.has (P:=P) (w:=w) (base:=base) (ps:=[Qk]) d G (SU agy O h_lo) SH;have h_reached:=X.anY.has (P:=P) (w:=w) (base:=base) (ps:=[Qk,"s","t",Sr]) d G (So agH L) Xf;have h_around:=X.anZ.has (P:=P) (w:=w) (base:=base) (ps:=[Qk,"s","t","x"]) d G (SU agL L h_reached) Xf;have h_classes:=X.an0.has (P:=P) (w:=w) (base:=base) (ps:=QX) d G (RO (agR F L q h_around)) Tu;have h_complete:=X.an1.has (P:=P) (w:=w) (base:=base) (ps:=[Qk,"s","t",ZC,Zy]) d G (So agM L) YQ;have h_pwi:=X.an2.has (P:=P) (w:=w) (base:=base) (ps:=[Qk,"s","t","word"]) d G (So agX L) Xf;have h_wal:=X.an3.has (P:=P) (w:=w) (base:=base) (ps:=QX) d G (So amd L) Tu;have r:=X.an4.has (P:=P) (w:=w) (base:=base) (ps:=[UR,"mark"]) d G (RO (aey F)) Yi;have s:=X.an5.has (P:=P) (w:=w) (base:=base) (ps:=Sh) d G (SU aeD g r) SH;have h_isWord:=X.an6.has (P:=P) (w:=w) (base:=base) (ps:=[V3]) d G (So aeE g) SH;have h_isNum:=X.an7.has (P:=P) (w:=w) (base:=base) (ps:=[V3]) d G (So aeG g) SH;have o:=X.an8.has (P:=P) (w:=w) (base:=base) (ps:=Sh) d G (RO (aeI F g s h_isWord h_isNum)) SH;have y:=X.an9.has (P:=P) (w:=w) (base:=base) (ps:=Xt) d G (So aeK g) SH;have z:=X.aoa.has (P:=P) (w:=w) (base:=base) (ps:=Sh) d G (RO (aeO F g r o)) SH;have h_readE:=X.aob.has (P:=P) (w:=w) (base:=base) (ps:=Sh) d G (RO (aeP F g s z)) SH;have h_readL:=X.aoc.has (P:=P) (w:=w) (base:=base) (ps:=["line"]) d G (RO (aeS F g o h_readE)) SH;have h_readD:=X.aod.has (P:=P) (w:=w) (base:=base) (ps:=U3) d G (RO (ae8 F g r s h_readL)) SH;have h_printL:=X.aoe.has (P:=P) (w:=w) (base:=base) (ps:=["x",XO]) d G (SU afa g y) Yi;have h_refT:=X.aof.has (P:=P) (w:=w) (base:=base) (ps:=Xu) d G (SU aft g k) SH;have A:=X.aog.has (P:=P) (w:=w) (base:=base) (ps:=[RJ,"most"]) d G (SU afu g k) Yi;have h_refSB:=X.aoh.has (P:=P) (w:=w) (base:=base) (ps:=U3) d G (SU afv k A) SH;have h_refST:=X.aoi.has (P:=P) (w:=w) (base:=base) (ps:=U3) d G (SU afw k o) SH;have m:tL P w K mg base C:=⟨L,k,(X.ang.g d G),(X.ani.g d G),(X.anb.g d G),aE.imp' h_refT (RO (ahI F)),aE.imp' A (RO (ahJ F)),aE.imp' h_refSB (RO (ahK F)),aE.imp' h_refST (RO (ahL F)),aE.imp' o (RO (ahG F)),aE.imp' z (RO (ahH F)),q⟩;have h_twi:=X.aoj.has (P:=P) (w:=w) (base:=base) (ps:=QX) d G (So alU m) Tu;have h_refS:=X.aok.has (P:=P) (w:=w) (base:=base) (ps:=Yt) d G (So ahS m) Tu;have h_refSs:=X.aol.has (P:=P) (w:=w) (base:=base) (ps:=Yt) d G (So ahU m) Tu;have h_refF:=X.aom.has (P:=P) (w:=w) (base:=base) (ps:=QX) d G (So ahV m) Tu;have B:=X.aon.has (P:=P) (w:=w) (base:=base) (ps:=Sh) d G (So ahN g) SH;have g_told:=aE.imp' y (RO (ahE F));have g_print:=aE.imp' h_printL (RO (ahF F));have D:=X.aoo.has (P:=P) (w:=w) (base:=base) (ps:=Xt) d G (SU ahP g_told B) SH;have h_cntSs:=X.aop.has (P:=P) (w:=w) (base:=base) (ps:=Xu) d G (SU ahQ g D) SH;have i:f9 P w K mg base C:=⟨m,h_refS,h_refSs,h_refF,B,D,h_cntSs⟩;have h_gwa:=X.aoq.has (P:=P) (w:=w) (base:=base) (ps:=[Qk,"s","t",Sr,"y"]) d G (So agY L) YQ;have h_wgwa:=X.aor.has (P:=P) (w:=w) (base:=base) (ps:=[Qk,"s","t",Sr]) d G (SU agZ L h_gwa) Xf;have E:=X.aos.has (P:=P) (w:=w) (base:=base) (ps:=[Qk,"s","t",Sr]) d G (So ag0 h_wgwa) Xf;have h_rows:=X.aot.has (P:=P) (w:=w) (base:=base) (ps:=Xu) d G (So ag1 L) SH;have t:=X.aou.has (P:=P) (w:=w) (base:=base) (ps:=QX) d G (RO (ag2 F L q h_rows E)) Tu;have h_lies:=X.aov.has (P:=P) (w:=w) (base:=base) (ps:=[UT,Vo]) d G (So ag3 L) Yi;have h_places:=X.aow.has (P:=P) (w:=w) (base:=base) (ps:=Wi) d G (SU ag8 L h_lies) SH;have h_right:=X.aox.has (P:=P) (w:=w) (base:=base) (ps:=Wi) d G (SU aha L h_places) SH;have h_pairs:=X.aoy.has (P:=P) (w:=w) (base:=base) (ps:=[UT]) d G (RO (ahb F)) SH;have h_fab:=X.aoz.has (P:=P) (w:=w) (base:=base) (ps:=Wi) d G (RO (ahq F L h_pairs h_bitsD)) SH;have h_ahead:=X.aoA.has (P:=P) (w:=w) (base:=base) (ps:=[Xq]) d G (So ahu L) SH;have h_first:∀c,c<=4->aE P w K mg base (c+1) QbG [Xq,Qan,XS,QaT,Yo] (AE c):=λc hc4=>X.apa.aaU d G (λf e a F=>ahv F L (oy d G a) (F.binds YQ) c hc4) YQ;have h_fewest:=X.aoB.has (P:=P) (w:=w) (base:=base) (ps:=Wi) d G (RO (ahx F L (X.anj.g d G) h_fab h_ahead h_first)) SH;have h_qSns:=X.aoC.has (P:=P) (w:=w) (base:=base) (ps:=[Qk,"s"]) d G (So ahX i) Yi;have h_qGaps:=X.aoD.has (P:=P) (w:=w) (base:=base) (ps:=QX) d G (SU ahY i S) Tu;have h_qDic:=X.aoE.has (P:=P) (w:=w) (base:=base) (ps:=QX) d G (SU ah0 i g_print) Tu;have h_qEqs:=X.aoF.has (P:=P) (w:=w) (base:=base) (ps:=[Qk,"s","t",RJ]) d G (So ah1 i) Xf;have h_qBack:=X.aoG.has (P:=P) (w:=w) (base:=base) (ps:=[Qk,"s","t",RJ]) d G (SU ah7 i V) Xf;have h_qCls:=X.aoH.has (P:=P) (w:=w) (base:=base) (ps:=QX) d G (RO (ah9 F i h_classes h_complete)) Tu;have h_qLack:=X.aoI.has (P:=P) (w:=w) (base:=base) (ps:=[Qk]) d G (RO (aic F i (X.ank.g d G) h_al)) SH;have h_qCnt:=X.aoJ.has (P:=P) (w:=w) (base:=base) (ps:=[Qk]) d G (RO (aie F i TT N U)) SH;have H:=X.aoK.has (P:=P) (w:=w) (base:=base) (ps:=[UT]) d G (So aiv i) SH;have h_qFds:=X.aoL.has (P:=P) (w:=w) (base:=base) (ps:=QX) d G (RO (aiw F i t H)) Tu;have h_qClo:=X.aoM.has (P:=P) (w:=w) (base:=base) (ps:=[Qk,"s","t",RJ]) d G (RO (aiz F i E H)) Xf;have h_qWi:=X.aoN.has (P:=P) (w:=w) (base:=base) (ps:=QX) d G (RO (aiB F i t h_right)) Tu;have h_qFew:=X.aoO.has (P:=P) (w:=w) (base:=base) (ps:=QX) d G (RO (aiD F i t h_fewest)) Tu;have h_qOv:=X.aoP.has (P:=P) (w:=w) (base:=base) (ps:=[Qk,"s","c","t",RJ]) d G (SU alw i Z) YQ;have h_qTwi:=X.aoQ.has (P:=P) (w:=w) (base:=base) (ps:=QX) d G (SU alV i h_twi) Tu;have h_qAli:=X.aoR.has (P:=P) (w:=w) (base:=base) (ps:=QX) d G (RO (amf F i h_wal h_pwi)) Tu;have h_over:=Qb8 X.aoS.has P w mg Qec (RO (ajl F TB g (X.aaV.g d G))) Tu;have h_addS:=Qb8 X.aoT.has P w mg W_ (SU ajn TB p) Tu;have h_addP:=Qb8 X.aoU.has P w mg [RR,"s","t","x","y"] (SU ajp TB v) YQ;have I:=Qb8 X.aoV.has P w mg [RR,"s","t","x","y"] (So ajr TB) YQ;have h_drop:=Qb8 X.aoW.has P w mg W_ (RO (ajx F TB TT u I)) Tu;have j:nU P w K mg base C:=⟨i,h_over,h_addS,h_addP,I,h_drop⟩;have h_adds:=X.aoX.has (P:=P) (w:=w) (base:=base) (ps:=Y_ Sr) d G (So ajW j) Tu;have h_tellE:=X.aoY.has (P:=P) (w:=w) (base:=base) (ps:=[Qk,"s","t",QbP]) d G (SU aj2 j h_adds) Xf;have g_rdD:=aE.imp' h_readD (RO (ajS F));have h_tell:=X.aoZ.has (P:=P) (w:=w) (base:=base) (ps:=[Qk,"s","t",RJ]) d G (RO (aj6 F j g_rdD h_tellE)) Xf;have h_rtp:=X.ao0.has (P:=P) (w:=w) (base:=base) (ps:=["s","t",WO,WK]) d G (So aj7 j) Xf;have h_pair:=X.ao1.has (P:=P) (w:=w) (base:=base) (ps:=[Qk,"s","t",WO,WK]) d G (SU akc j h_rtp) YQ;have h_unpair:=X.ao2.has (P:=P) (w:=w) (base:=base) (ps:=[Qk,"s","t",WO,WK]) d G (So ake j) YQ;have h_dropC:=X.ao3.has (P:=P) (w:=w) (base:=base) (ps:=Yt) d G (So akf j) Tu;have n:rh P w K mg base C T:=⟨j,h_tell,h_pair,h_unpair,h_dropC,h_qEqs,h_qBack,h_qClo,h_qOv,h_qDic,h_qCls,h_qFds,h_qWi,h_qFew,h_qGaps,h_qTwi,h_qAli,h_qSns,h_qLack,h_qCnt,(X.anl.g d G),(X.anm.g d G),(X.ano.g d G),(X.anp.g d G),(X.anq.g d G),(X.anr.g d G),(X.ans.g d G),(X.ant.g d G),(X.anu.g d G),(X.anv.g d G),(X.anw.g d G),(X.anx.g d G),(X.anz.g d G),(X.anA.g d G),(X.anB.g d G),(X.anC.g d G),(X.anD.g d G),(X.anE.g d G)⟩;have h_rdC:=X.ao4.has (P:=P) (w:=w) (base:=base) (ps:=QdZ) d G (SU aks g Q) SH;have h_anC:=X.ao5.has (P:=P) (w:=w) (base:=base) (ps:=[Qk,T9]) d G (So akJ n) Yi;have h_anT:=X.ao6.has (P:=P) (w:=w) (base:=base) (ps:=[Qk,T9]) d G (So akL n) Yi;have h_an2:=X.ao7.has (P:=P) (w:=w) (base:=base) (ps:=[Qk,T9]) d G (So amh n) Yi;have h_anA:=X.ao8.has (P:=P) (w:=w) (base:=base) (ps:=[Qk,T9]) d G (RO (amk F n h_anC h_anT h_an2)) Yi;exact Qh n h_rdC h_anA
def all_mk(X:Txt K C)(d:K.In h)(G:h.Ns de mg)(k:mg QcW=UK c)(ht:tabIn K QaP=Se cd T):
  ∃b,(∀s us,QaR=Qn (QcT:Uh)->BindsTo s b (Wd us) ((QcT:Uh).zip us))/\ ∀base,K.In base->base.Ns de mg->CodeHd base cd T->Qet mg T->ay P w K mg base az 11 c b QcT (Ib K T):=by
 obtain⟨f,b,a,F⟩:=X.apb.ex;obtain⟨x,y,g,i⟩:=X.apc.ex;cases (k.symm.trans (oy d G a));have l:BE QcW QcW Be QcT:=λ_ _ _ _ _ _ us hl=>match us,hl with|[_],_=>rfl
 exact⟨b,by obtain⟨z,A,kV,p,pm,q,r,ct,B,rfl,lk,_⟩:=F.ex;exact λs us t=> .of_eq (l kV p pm q r ct us t),λbase _ _ n o=>by obtain⟨j,u,v⟩:=apd X d G ht n o;exact amq F j ⟨X.amL,g.at_,g.fn,X.kc⟩ (ajj i j.tb) (i.binds (λ_ _ _ _ _ _ us hl=>match us,hl with|[_],_=>rfl)) u v⟩
end
end DL
namespace DL
open PySem PySem.Spec L2 NT AT
open PySem.W (nsIn tabIn)
theorem tabIn_mk {K : PySem.W.Frag} {x : Str} {f c T : Addr} {oc oc2 : Value} {od od2 : Option Addr} {fd : FuncData} {osl osl2 : Array (Option Value)} {vs : Array Value} (a : nsIn K mainGlobals x = some (some (.ref f))) (l : K.lookup f = some ⟨oc, od, .func fd, osl⟩) (hc : fd.code = .ref c) (lc : K.lookup c = some ⟨oc2, od2, .fields vs, osl2⟩) (hv : vs[11]? = some (.ref T)) : tabIn K x = some (c, T) := by
  unfold tabIn
  rw [a]
  dsimp only
  rw [l]
  dsimp only
  rw [hc]
  dsimp only
  rw [lc]
  dsimp only
  rw [hv]
end DL
set_option hygiene false
local macro_rules
|`(RI)=>`(by k_is)
|`(QN)=>`(DL.amH RI RI RI RI)
|`(Z7)=>`(DL.amI RI RI RI RI RI)
|`(RB)=>`(⟨_,RI⟩)
|`(QaI)=>`(⟨_,rfl⟩)
|`(QeD)=>`(.cons QaI (.cons QaI .nil))
|`(Qio)=>`(.cons QaI (.cons QaI (.cons QaI .nil)))
|`(Uv)=>`(⟨_,_,_,RI,rfl,rfl,by decide,QeD⟩)
|`(Qip)=>`(⟨_,_,_,RI,rfl,rfl,by decide,Qio⟩)
open PySem PySem.W PyProof.Rows
set_option maxRecDepth 100000 in
set_option maxHeartbeats 0 in
theorem PySem.Challenge.cw_acrosstongues_s01_answers_holds : PySem.Challenge.rw_acrosstongues_s01_answers.Holds := by
  w_on; k_headS; (case hw => exact ⟨[.list [.int 18]], by decide +kernel, by decide +kernel⟩)
  k_fillS
  refine' L2.amG (r := PySem.Challenge.rw_acrosstongues_s01_answers) (k := 11) (l := L2.az) (ps := ["calls"]) (m := fun K => DL.Ib K _) (x := "by_score") (by decide +kernel) rfl rfl ⟨rfl, by decide, by decide⟩ (fun w h Y => PySem.W.kIn_of Y) rfl ?ht ?hKT ?F ?S (fun _ _ _ _ z => z)
  case ht =>
    intro w
    refine' DL.tabIn_mk ?iG ?yl ?qp ?qt ?yv
    (case iG => k_is); (case yl => k_is); (case qp => rfl); (case qt => k_is); (case yv => rfl)
  case hKT => intro w; kernel_rfl
  case F =>
    intro w mg fa h Y KX G hmg
    refine' DL.all_mk ?X KX G hmg ?tab
    case X =>
      exact ⟨RI,⟨RI, RI, RI, RI⟩,by unfold L2.j0; k_is,RI,RI,RI,RI,RI,RI,RI,RI,RI,RI,RI,RI,RI,RB,RB,RB,RB,RB,RB,RB,RB,RB,RB,RB,RB,RB,RB,RB,RB,RB,RB,RB,RB,RB,RB,RB,RB,RB,RB,RB,RB,RB,RB,RB,RB,RB,RB,RB,RB,RB,RB,RB,RB,RB,RB,⟨_, RI, ⟨_,_,_,RI,rfl,rfl,by decide, .cons QaI (QeD)⟩⟩,⟨_, [_, _, _], RI, ⟨_,_,_,RI,rfl,rfl,by decide, .cons rfl (.cons rfl (.cons rfl .nil))⟩, .cons Uv (.cons Uv (.cons Uv .nil))⟩,⟨_, [_, _, _], RI, ⟨_,_,_,RI,rfl,rfl,by decide, .cons rfl (.cons rfl (.cons rfl .nil))⟩, .cons ⟨_,_,_,RI,rfl,rfl,by decide, .cons QaI (QeD)⟩ (.cons ⟨_,_,_,RI,rfl,rfl,by decide, .cons QaI (QeD)⟩ (.cons ⟨_,_,_,RI,rfl,rfl,by decide, .cons QaI (QeD)⟩ .nil))⟩,⟨_, [_, _, _, _, _, _, _, _, _, _, _, _, _, _, _, _, _, _, _], RI, ⟨_,_,_,RI,rfl,rfl,by decide, .cons rfl (.cons rfl (.cons rfl (.cons rfl (.cons rfl (.cons rfl (.cons rfl (.cons rfl (.cons rfl (.cons rfl (.cons rfl (.cons rfl (.cons rfl (.cons rfl (.cons rfl (.cons rfl (.cons rfl (.cons rfl (.cons rfl .nil))))))))))))))))))⟩, .cons Uv (.cons Uv (.cons Uv (.cons Uv (.cons Uv (.cons Uv (.cons Uv (.cons Uv (.cons Uv (.cons Uv (.cons Uv (.cons Uv (.cons Uv (.cons Uv (.cons Uv (.cons Uv (.cons Uv (.cons Uv (.cons Uv .nil))))))))))))))))))⟩,Z7,Z7,Z7,Z7,QN,QN,QN,QN,QN,QN,QN,QN,QN,QN,QN,QN,QN,QN,QN,QN,QN,QN,QN,QN,QN,QN,QN,QN,QN,QN,QN,QN,QN,QN,QN,QN,QN,QN,QN,QN,QN,QN,QN,QN,QN,QN,QN,QN,QN,QN,QN,QN,QN,QN,QN,QN,QN,QN,QN,QN,QN,QN,QN,QN,QN,QN,QN,QN,QN,QN,QN,Z7,Z7,Z7,Z7,Z7,QN,QN,QN,QN,QN,QN,QN,QN,QN,QN,QN,QN,QN,QN,QN,Z7⟩
    case tab =>
      refine' DL.tabIn_mk ?iG ?yl ?qp ?qt ?yv
      (case iG => k_is); (case yl => k_is); (case qp => rfl); (case qt => k_is); (case yv => rfl)
  case S =>
    intro K H xs a hT hwi hask hx
    cases hx with
    | cons h1 h2 =>
      cases h2
      cases h1 with
      | lst hs ha =>
        have e := L2.aaK a.1 _ ha
        subst e
        have q : ((Codec.inLen 0 16000 a.1 && a.1.all (Codec.inInt (_root_.Int.negSucc 999999999999999999) (_root_.Int.ofNat 1000000000000000000))) && true) = true := hwi
        rw [Bool.and_eq_true, Bool.and_eq_true] at q
        obtain ⟨cs, e1, e2, e3, e4⟩ := DL.amt (l := a.1) hask
        refine ⟨(a.1, cs), ⟨(Codec.inNat_iff.mp q.1.1).2, e1, e2, e3⟩, .cons ⟨⟨_, rfl, hs⟩, .inl hT⟩ .nil, fun v H' hp => ?_⟩
        obtain ⟨t, vs, rfl, ht, hpa⟩ := hp
        rw [DL.pI hpa] at ht
        show L2.Dw K H' (.ref t) (.list ((PyVbdhaj.answers a.1).map WData.int))
        rw [e4]
        exact .lst (L2.bF.of ht) (L2.aaJ _)
