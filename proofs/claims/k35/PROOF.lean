import PyProof.Rows.All
import Wide.All
import OpenK.AllK
import Wide.FinOn
import Lean
import PyProof.EqAt
import PyProof.EqKinds
import PyProof.TupleCall
import PyProof.ZipIter
import PyProof.LayNew
import PyProof.Rows.ZipGen
import PyProof.Rows.FactsT2
import KE.KMinKey
import PyProof.FString5
import PyProof.SliceStr2
import PyProof.EnumFor
import PyProof.EnumStmt
import PyProof.EnumMake
import PyProof.StrLoop
import PyProof.StrWalks
import PyProof.Rows.EnumRows
import KE.KDictList
import KE.KEqDict
import PyProof.StrOps2
import PyProof.FitsInt
import KE.KIntText
import PyProof.Draws
import PyProof.StrLawsTight
import PyProof.Rows.StrNews2
import PySem.Challenge.RW_gavelhall_k35_odd_texts
set_option genSizeOf false
section
open PySem.Str renaming ofString->jh,empty->jdV
open Option renaming some->nC,none->su,map_eq_some_iff->jcT,isSome_iff_exists->jes,map_some->jgJ,isSome_map->jhe,getD_none->jji
open PySem.W renaming Frag->oh,kitOne->jaE,findIn->jcy,mroIn->jcJ,nsIn->jc3,mg_none_of->jdd,emptyDict->jdg,instObj->jdt,fnOf->jdx,mg_of->jdC,keepIn->jdO,kia_one->jdW,callWith_K->jed,hideAll_get->jev,looks_findIn->je8,makesIn->jfv,plainGet->jfP,methodCall_KW->jfR,specialIn->jfV,of_hideAll->jfZ,codeIn->jf0,looks_mroIn->jf4,hasDictIn->jgh,hideAll->jgi,hideAll_none->jgj,OpenLaw->jgv,kitAny->jgL,plainGet_of->jgO,lookIn->jg1,methodObj->jhc,plainOver->jhl,makes_of->jhs,Looks->jht,isFn->jhK,cellsFrom_some->jhM,takerIn->jhZ,excIn->jh3,takesIn->jid,WalkO->jif,funFrames_hide->jin,looks_clsIn->jiq,callWith_K0->jiw,make_core->jiV,kitx_list->jiX,kitx_dict->jiY,handedIn->jjg,InitBack->jjh,clsIn->jjr,typeIn->jjw
open PySem renaming Addr->pA,Value->pL,sizeLine->qd,strLen_append->uy,wpAny_bind->xT,Shared->S6,FuncData->jaF,Program->jcz,wpAny_pure->jcC,sizeLine_eq->jcD,wpAny->jcH,mainGlobals->jcM,boot_len->jcN,World->jcS,Heap->jcX,starEach->jc0,wpAny_mono->jc1,wpAny_loadPart_at->jc6,Around->jdc,Stmt->jde,compareOp->jdj,Spec->jdn,attributeBase->jdz,wpAny_Call_Name_kw->jdG,wpAny_truthy_bool->jdX,foldedSetIterable->jdY,bootBuiltins->jd5,binaryOp->jd9,ExceptHandler->jeg,backTo->jeh,wpAny_newObj_type->jei,keywordEach->jel,wpAny_field->jeF,wpAny_holding->jeG,wpAny_execs_nil->jeP,wpAny_passesOwn->jeQ,codeAny_mono->jeR,NameKind->jeS,wpAny_Call_method->jeT,codeAny_call_builtin->jeU,assignEach->je2,typeIs_str->je5,wpAny_standAt->je6,codeAny->je9,mem_of_lookup->jfa,sysModules->jfj,tupleKind_room_in1->jfk,argBest->jfl,ExcBaseFacts->jfm,backToKw->jfo,Builtin->jfx,GenState->jfz,bindArgs->jfC,wpAny_call->jfD,wpAny_execs_cons->jfJ,getMethod->jfK,noteFrame->jfL,behindInMarks->jfU,codeAny_builtin->jfY,sliceBounds->jf3,wpAny_pyIter_list->jf7,cLine->jf9,revObj->jgc,wpAny_tryCatch->jgd,wpAny_pyIter_enum->jge,plainObj_wpAny_Assign_Attribute->jgk,swapsWith->jgm,call_meets->jgo,Keyword->jgp,plainId_quiet->jgr,callWith->jgz,excClassObj->jgA,slicePicked->jgB,letOwnedTupleGo->jgF,rawInt->jgG,wpAny_updateSeq->jgK,wpAny_isSubtype_exc->jgQ,standAt->jgR,cellsFrom->jgX,wpAny_seqItems->jg3,wpAny_letOwnedTupleGo_enum->jg5,wpAny_setField->jg9,wpAny_letGo->jhf,wpAny_comprehension_free->jho,tupleKind->jhr,ClassData->jhx,wpAny_Try_except->jhz,getItem->jhO,isInstance->jhU,codeAny_compStart_list->jhV,wpAny_specialOf->jh2,wpAny_loadPart->jic,IsPart->jie,PassesOwn->jip,valueAt->jir,callerA->jis,strValues->jiu,setFlight->jiv,Result->jiI,typeLookup->jiJ,excMatches->jiN,Within->jiT,Model->jiU,BindsTo->ji0,compEnvC->ji2,OsState->ji3,notedBy->ji4,passOn->jjd,lastMarks->jjf,raiseStmt->jjj,CmpOp->jjn,atKey->jjo,Drawn->jjt,pyNext->jju,bindL->jjx,bindC->jjy,call->jjA
open Bool renaming true->qm,false->vh,and_eq_true->jbE,false_ne_true->jbJ,true_and->jea,eq_iff_iff->jeb,false_and->jeI,not_eq_true'->jeV,eq_false_iff->jfy,or_eq_false_iff->jfF,true_or->jhQ,not_not->jhY,or_true->ji6
open List renaming length_map->rz,getElem?_eq_getElem->sH,length_append->O1,mem_cons_self->U7,size_toArray->jbF,getD_eq_getElem?_getD->jbG,mem_cons->jbK,mem_cons_of_mem->jcx,map_append->jcA,length_take->jcB,mem_of_getElem?->jcE,getElem?_map->jcF,length_drop->jcG,getElem?_eq_some_iff->jcP,drop_drop->jcR,replicate->jcU,all_eq_true->jcV,mem_append_right->jcZ,take_length->jc2,range->jc4,mem_singleton->jc5,length_cons->jc7,length_replicate->jdf,not_mem_nil->jdk,length_eq_zero_iff->jdl,mem_append->jdo,take_of_length_le->jdp,map_map->jdq,getElem_mem->jds,append_assoc->jdu,getElem?_append_right->jdv,map_cons->jdy,append_nil->jdA,lookup_cons->jdB,take_succ->jdE,Nodup->jdM,getElem?_append_left->jdQ,mem_map->jdT,mem_range->jd0,mem_of_mem_take->jd1,all_cons->jd2,length->jd7,length_nil->jec,drop_of_length_le->jej,replicate_succ->jek,length_filter_le->jen,set->jeo,mem_of_mem_drop->jeu,map_eq_nil_iff->jez,mem_filterMap->jeJ,filter_append->jeK,nodup_iff_pairwise_ne->jeL,getElem?_eq_none->jeN,length_range->jeX,take_add_one->jeY,filter_eq_self->jfb,takeWhile_cons->jfc,getElem?_replicate->jfd,drop_left->jff,lookup->jfh,drop_append_of_le_length->jfi,find?_cons->jfp,range_succ->jfq,take_append_drop->jfu,mem_append_left->jfA,drop_zero->jfE,drop_eq_getElem_cons->jfO,map_congr_left->jfS,getElem_of_mem->jfT,getElem?_drop->jf2,flatten_cons->jga,map_nil->jgb,any_cons->jgq,mem_iff_getElem->jgw,take_append_of_le_length->jgD,mem_filter->jgE,nodup_cons->jgH,filterMap_cons->jgM,length_reverse->jgP,take_left->jg7,zip_cons_cons->jha,zip_nil_right->jhb,reverse_cons->jhd,ext_getElem?->jhg,foldl_append->jhi,append_inj'->jhC,filter_cons_of_pos->jhE,filter_cons_of_neg->jhF,getElem?_set_self->jhI,length_eq_one_iff->jhW,of_mem_zip->jh0,foldl_cons->jh1,length_zip->jh4,append_inj->jh6,length_singleton->jh9,getElem?_set_ne->jib,length_pos_iff->jix,dropWhile_cons->jiA,sum_cons->jiD,contains_cons->jiO,getElem_idxOf->jiR,getElem?_take->jiS,take_sublist->ji1,nodup_append->jjb,all_map->jjc,all_nil->jje,map_id->jjp,foldl->jjz
open PySem.Heap renaming get?_push_of_some->U4,lt_size->jbH,get?_push_size->jcK,get?_update_other->jcQ,get?_update_self->jdm,size_push->jet,SameBut->jfI,get?_none_of_le->jgu,get?_push_cases->jgx,MadeExcOf->jij,get?_push_at->ji5
open Nat renaming le_refl->U6,ne_of_lt->jcO,lt_of_lt_of_le->jcW,zero_le->jcY,le_trans->jc9,lt_succ_self->jdr,le_succ->jdI,min_eq_left->jdJ,toDigits->jdZ,toDigits_of_lt_base->jee,lt_irrefl->jef,not_lt->jep,le_of_lt->jer,ne_of_gt->jeA,pow_le_pow_right->je0,digitChar->je7,add_sub_cancel_left->jfe,min_eq_right->jfg,toDigits_append_toDigits->jfr,two_pow_pos->jfs,lt_succ_of_lt->jfw,le_add_right->jfM,or_zero->jgC,succ_mul->jgS,two_pow_add_eq_or_of_lt->jgW,zero_or->jhj,lt_trans->jhR,le_add_left->jh7,mul_le_mul_right->jik,testBit_or->jil,eq_of_testBit_eq->jim,zero_add->ji9,or_assoc->jja,mod_lt->jjD
open Or renaming inl->jbI,inr->jjB
open PySem.Value renaming ref->jcI,none->jdL,bool->jdR,str->jfH,builtin->jgs,int->jhq,type->jhH,float->jjl
open PySem.F renaming excBase_ValueError->jcL,plainAttrs_str->jeD,plain_max_loop->jeH,slot_str_split->jf5,slot_dict_get->jgl,slot_str_startswith->jgU,type_str_startswith->jgV,args_str_split_2->jg6,entry_str_split->jhh,args_tuple_add_2->jhm,entry_tuple_add->jhu,args_dict_get_3->jhv,plainAttrs_list->jhw,entry_max_loop->jhy,slot_list_index->jhD,slot_tuple_add->jhN,entry_dict_get->jhS,slot_list_append->jh8
open Option.some renaming inj->jc8
open ToString renaming toString->jda
open List.cons renaming inj->jdb
open Ne renaming symm->jdh
open False renaming elim->jdi
open PySem.Builtin.Str renaming occurrences->jdw,strSliceIndices->jeC,tooLong->jiy,partsBetween->ji7,subAt->ji8
open Int renaming toNat_natCast->jdD,emod_nonneg->jd4,emod_lt_of_pos->jeq,zero_add->jeE,fdiv_eq_ediv_of_nonneg->jfB,fmod_eq_emod_of_nonneg->jg0,eq_ofNat_of_zero_le->jhA,le_refl->jii,natCast_nonneg->jiH
open PySem.Calls renaming spliced_cons->jdF,evalArgs_plain->jdP,callWith_builtin->jdS,spliced_nil->jd6,Name_function_global->jgZ
open PyProof.Rows renaming callWith_type1->jdH,slot_tuple_getitem->jex,boot_isinstance->jfX,OwnCls->jf1,AllBare->jf6,callWith_builtin1->jgn,envOfC->jgI,subscriptTail_builtinR->jhP,boot_int->jig,boot_str->jih,boot_list->jit,subscriptTail->jiB,IntsAre->jjs
open PySem.PassesOwn renaming never->jdK
open PySem.Obj renaming mapFields->jdN,data_mapFields->jfn,isFreed_of_fields->jft,mapSeq->jiM
open PySem.Builtin renaming bitNot->jdU,bitAnd->jf8,bitOr->jhk
open PySem.NameKind renaming free->jd3,cell->jgt
open PySem.Txt renaming split->jd8,join->jeZ,endswith->je1,startswith->jgf,startswith3->jh5
open Array renaming getElem?_eq_getElem->jem,getElem?_toList->jeM,getElem?_eq_some_iff->jfG,toList_append->jfQ,length_toList->jgN,append_assoc->jgY,all_toList->jjk
open ForInStep renaming yield->jew
open PySem.Builtin.Int renaming intBits->jey
open PySem.Builtin.List renaming listExtendWith->jeB,listTooLong->jfW,listSameRef->jhn,listItems->jhT
open PySem.Builtin.Slice renaming slicePlaces->jeO,sliceAdjust->jfN,sliceApplied->jg2
open Nat.succ renaming inj->jeW
open True renaming intro->je3
open PySem.Builtin.Tuple renaming tupleExact->je4
open Eq renaming trans->jgg
open PySem.Around renaming under_plainId->jgy,under->jhL
open PySem.Builtin.Builtins renaming bindParams->jgT
open PySem.Code renaming quiet_builtin->jg4,isFrame->jiZ
open Char renaming toNat->jg8
open PySem.SeqAt.RcAt renaming lists_lengths->jhp
open PySem.Heap.UpToSlots renaming of_keeps->jhB
open Sum renaming inr->jhG,inl->jio
open PyProof renaming noPylong_small->jhJ
open UInt32 renaming le_iff_toNat_le->jhX
open PySem.StrLaws renaming glued_eq_join->jia,split_free->jiP,join_split->jiQ
open PySem.EntryCells renaming newEntry->jiz
open PySem.W.KF renaming type_class->jiC
open PySem.W.KIN renaming signs_num->jiE
open PySem.SeqAt.EqAt renaming int_str->jiF,str_int->jiG,int_int->jiL
open PySem.SeqAt renaming EqAt->jiK
open PySem.Heap.Ns1 renaming of_empty->jiW
open PySem.Data renaming fields->jjm
open PySem.W.Looks renaming ld->jjq
open PySem.Within renaming cons->jjv
open PySem.Walks renaming list->jjC
set_option Elab.async false
set_option linter.all false
set_option maxRecDepth 100000
namespace L2
open PySem PySem.Spec PyProof.Rows
noncomputable abbrev Key:=Sum Int Str
noncomputable def za:Key->pL->Bool
 |.inl k,v=>Value.isInt k v
 |.inr x,v=>Value.isStrOf x v
noncomputable def jbW (w:jcS):Key->Int
 |.inl k=>hashInt k
 |.inr x=>hashStr w x
theorem WR:∀{k:Key}{v:pL},za k v=qm->(∃i t,k=jio i/\v=jhq i t)\/(∃x t,k=jhG x/\v=jfH x t)
 |.inl i,v,h=>by
  obtain⟨t,e⟩:=Value.isInt_shape (k:=i) (v:=v) h
  exact .inl ⟨i,t,rfl,e⟩
 |.inr x,v,h=>by
  obtain⟨t,e⟩:=Value.isStrOf_shape (x:=x) (v:=v) h
  exact .inr ⟨x,t,rfl,e⟩
theorem pN(i:Int)(t:Tok):za (.inl i) (.int i t)=qm:=by simp[za,Value.isInt]
theorem pO(x:Str)(t:Tok):za (.inr x) (.str x t)=qm:=by simp[za,Value.isStrOf]
theorem ak(a b:Int):decide ((jio a:Key)=jio b)=(a==b):=by
 by_cases e:a=b
 .subst e;simp
 .have h:¬(jio a:Key)=jio b:=λq=>e (Sum.inl.inj q)
  rw[decide_eq_false h]
  exact(beq_eq_false_iff_ne.mpr e).symm
theorem au(a b:Str):decide ((jhG a:Key)=jhG b)=decide (a=b):=by
 by_cases e:a=b
 .subst e;simp
 .have h:¬(jhG a:Key)=jhG b:=λq=>e (Sum.inr.inj q)
  rw[decide_eq_false h,decide_eq_false e]
theorem ao(a:Int)(b:Str):decide ((jio a:Key)=jhG b)=vh:=decide_eq_false (λq=>nomatch q)
theorem aq(a:Str)(b:Int):decide ((jhG a:Key)=jio b)=vh:=decide_eq_false (λq=>nomatch q)
noncomputable def Vt (prog:jcz) (w:jcS):PySem.KeyKind prog w Key where
 is:=za
 hash:=jbW w
 inj:=λv a b g f=>by
  rcases WR g with⟨i,t,rfl,rfl⟩|⟨x,t,rfl,rfl⟩
  .rcases WR f with⟨j,u,rfl,e⟩|⟨y,u,rfl,e⟩
   .injection e with c _;rw[c]
   .exact nomatch e
  .rcases WR f with⟨j,u,rfl,e⟩|⟨y,u,rfl,e⟩
   .exact nomatch e
   .injection e with c _;rw[c]
 byValue:=λk v h=>by
  rcases WR h with⟨i,t,rfl,rfl⟩|⟨x,t,rfl,rfl⟩<;>rfl
 pyHash:=λd h=>by
  rcases WR d with⟨i,t,rfl,rfl⟩|⟨x,t,rfl,rfl⟩
  .exact wpAny_pyHash_int h
  .exact wpAny_pyHash_str h
 eqBool:=λl d h=>by
  rcases WR l with⟨i,t,rfl,rfl⟩|⟨x,t,rfl,rfl⟩
  .rcases WR d with⟨j,u,rfl,rfl⟩|⟨y,u,rfl,rfl⟩
   .rw[ak]at h;exact wpAny_eqBool_int h
   .rw[ao]at h;exact jiF i t y u _ _ _ _ h
  .rcases WR d with⟨j,u,rfl,rfl⟩|⟨y,u,rfl,rfl⟩
   .rw[aq]at h;exact jiG x t j u _ _ _ _ h
   .rw[au]at h;exact wpAny_eqBool_str h
 «strs»:=λk x t v h=>by
  rcases WR h with⟨i,u,rfl,e⟩|⟨y,u,rfl,e⟩
  .exact nomatch e
  .injection e with c _
   subst c
   cases v<;>rfl
theorem wK(prog:jcz)(w:jcS)(i:Int)(t:Tok):(Vt prog w).is (.inl i) (.int i t)=qm:=pN i t
theorem wL(prog:jcz)(w:jcS)(x:Str)(t:Tok):(Vt prog w).is (.inr x) (.str x t)=qm:=pO x t
inductive V where
 |non|bl(b:Bool)|int(i:Int)|str(x:Str)|byt(b:Array UInt8)|flt(b:UInt64)|ref(a:pA)|ty(n:String)
 deriving DecidableEq
noncomputable def RelV:V->pL->Prop
 |.non,u=>u=jdL
 |.bl b,u=>u=jdR b
 |.int i,u=>∃t,u=jhq i t
 |.str x,u=>∃t,u=jfH x t
 |.byt b,u=>∃t,u=Value.bytes b t
 |.flt b,u=>∃t,u=jjl b t
 |.ref a,u=>u=jcI a
 |.ty n,u=>u=jhH n
noncomputable abbrev Vals:List V->List pL->Prop:=Paired RelV
theorem Vals.length{xs:List V}{us:List pL}(r:Vals xs us):xs.length=us.length:=Paired.length r
theorem Vals.get:∀{xs:List V}{us:List pL}{i:Nat}{x:V},Vals xs us->xs[i]?=nC x->∃u,us[i]?=nC u/\RelV x u
 |_,_,_,_,.nil,e=>by simp at e
 |_,_,0,_,.cons r _,e=>by simp at e;subst e;exact⟨_,rfl,r⟩
 |_,_,i+1,x,.cons _ t,e=>by
  obtain⟨u,a,b⟩:=Vals.get (i:=i) (x:=x) t (by simpa using e)
  exact⟨u,by simpa using a,b⟩
theorem Vals.append:∀{xs ys:List V}{us a:List pL},Vals xs us->Vals ys a->Vals (xs++ys) (us++a)
 |_,_,_,_,.nil,s=>s
 |_,_,_,_,.cons r t,s=>.cons r (Vals.append t s)
theorem Vals.take:∀{xs:List V}{us:List pL}(n:Nat),Vals xs us->Vals (xs.take n) (us.take n)
 |_,_,0,_=>.nil
 |_,_,_+1,.nil=>.nil
 |_,_,n+1,.cons r t=>.cons r (Vals.take n t)
theorem Vals.drop:∀{xs:List V}{us:List pL}(n:Nat),Vals xs us->Vals (xs.drop n) (us.drop n)
 |_,_,0,r=>r
 |_,_,_+1,.nil=>.nil
 |_,_,n+1,.cons _ t=>Vals.drop n t
noncomputable def Ma:Option V->Option pL->Prop
 |some v,nC u=>RelV v u
 |none,su=>True
 |_,_=>False
noncomputable def KV {a:Type}:List (a×V)->List (a×pL)->Prop:=Paired λ(p:a×V)(q:a×pL)=>p.1=q.1/\RelV p.2 q.2
noncomputable def kV:Key->V
 |.inl i=>.int i
 |.inr x=>.str x
inductive HO where
 |lst(xs:List V)
 |tup(xs:List V)
 |dK(kvs:List (Key×V))|dT(kvs:List (List Key×V))
 |set(S:Int->Bool)(n:Nat)
 |ins(C dx:pA)(fs:List (Str×V))
 |own(x:pA)
 |xd(fs:List (Str×V))
 |met(f x:pA)
 |rng(lo hi:Int)
 |frz(o:Obj)(u:HO)
 |tbl(ps:Array pL)
 |ext(φ:jcX->Prop)
noncomputable abbrev Hp:=pA->Option HO
noncomputable def upd (H:Hp) (a:pA) (o:HO):Hp:=λb=>if b=a then nC o else H b
theorem Zj{H:Hp}{a:pA}{o:HO}:upd H a o a=nC o:=by unfold upd;rw[if_pos rfl]
theorem ZX{H:Hp}{a b:pA}{o:HO}(h:b≠a):upd H a o b=H b:=by unfold upd;rw[if_neg h]
theorem Hb{H:Hp}{a:pA}{o u:HO}:upd (upd H a o) a u=upd H a u:=by
 funext b;unfold upd;split<;>rfl
theorem ja6{H:Hp}{a b:pA}{o u:HO}(h:H a=nC o)(h':H b=nC u)(d:o≠u):a≠b:=by
 intro e;subst e;rw[h]at h';exact d (jc8 h')
theorem Yd{H:Hp}{a b:pA}{o:HO}(h:H a=nC o)(h':H b=su):a≠b:=by
 intro e;subst e;rw[h]at h';cases h'
section
variable(P:jcz)(w:jcS)
noncomputable def Xx (H:Hp) (h:jcX) (a:pA):HO->Prop
 |.lst xs=>xs.length<=qd/\∃(b:List pL)(n:Nat),Vals xs b/\h.get? a=nC {cls:=.type "list",data:=.seq b.toArray n}
 |.tup xs=>xs.length<=qd/\∃b:List pL,Vals xs b/\IsTup h a b.toArray
 |.dK kvs=>kvs.length<=qd/\(a==jfj)=vh/\∃vs,KV kvs vs/\h.DictOf (Vt P w) a vs
 |.dT kvs=>kvs.length<=qd/\(a==jfj)=vh/\∃xs:List (List Key×pA×pL),
  Paired (λ(p:List Key×V)(q:List Key×pA×pL)=>p.1=q.1/\H q.2.1=nC (.tup (p.1.map kV))/\RelV p.2 q.2.2) kvs xs/\
  ∃o d i,h.get? a=nC o/\o.ExactDict/\o.data=.dict d i/\d.toList=xs.map (entryOfKey (jhr (Vt P w)))/\(xs.map (·.1)).Nodup
 |.set S n=>h.SetOf (intKind P w) a S n
 |.ins C dx fs=>H dx=nC (.own a)/\fs.length<=1000/\dx≠a/\h.get? a=nC (jdt C dx)/\
  ∃c,h.Ns1 dx c/\(∀f,Ma (fs.lookup f) (c f))/\jiT c (fs.map (·.1))
 |.own _=>∃o,h.get? a=nC o
 |.xd fs=>∃c,h.Ns1 a c/\∀f,Ma (fs.lookup f) (c f)
 |.rng lo hi=>∃t u v,h.get? a=nC {cls:=.type "range",data:=.fields #[.int lo t,.int hi u,.int 1 v]}
 |.frz o u=>h.get? a=nC o/\Xx H h a u
 |.tbl ps=>h.get? a=nC {cls:=.none,data:=.fields ps}
 |.met f x=>h.get? a=nC (jhc (.ref f) (.ref x))
 |.ext φ=>φ h/\(∃o,h.get? a=nC o)/\∀e g:jcX,φ e->(∀o,e.get? a=nC o->g.get? a=nC o)->φ g
noncomputable def Q3 (H:Hp) (h:jcX):Prop:=∀a o,H a=nC o->Xx P w H h a o
end
section
variable{P:jcz}{w:jcS}{H H':Hp}{h h':jcX}{a:pA}{o:HO}
theorem Xx.lt(x:Xx P w H h a o):a<h.objs.size:=by
 cases o with
 |lst c=>obtain⟨_,_,_,_,e⟩:=x;exact jbH e
 |tup c=>obtain⟨_,_,_,p⟩:=x;exact p.lt
 |dK b=>obtain⟨_,_,_,_,o,_,_,e,_⟩:=x;exact jbH e
 |dT b=>obtain⟨_,_,_,_,o,_,_,e,_⟩:=x;exact jbH e
 |set S n=>obtain⟨o,_,_,_,e,_⟩:=x;exact jbH e
 |ins C d fs=>obtain⟨_,_,_,e,_⟩:=x;exact jbH e
 |own y=>obtain⟨_,e⟩:=x;exact jbH e
 |xd fs=>obtain⟨_,⟨_,_,_,e,_⟩,_⟩:=x;exact jbH e
 |rng i g=>obtain⟨_,_,_,e⟩:=x;exact jbH e
 |frz j u=>obtain⟨e,_⟩:=x;exact jbH e
 |tbl l=>exact jbH (show h.get? a=nC _ from x)
 |met f y=>exact jbH (show h.get? a=nC _ from x)
 |ext m=>obtain⟨_,⟨_,e⟩,_⟩:=x;exact jbH e
theorem Paired.aF{e g:Type}{F G:e->g->Prop}:∀{c:List e}{d:List g},Paired F c d->(∀a b,F a b->G a b)->Paired G c d
 |_,_,.nil,_=>.nil
 |_,_,.cons r t,f=>.cons (f _ _ r) (Paired.aF t f)
theorem Xx.stay(x:Xx P w H h a o)(k:∀b u,(b=a\/H b=nC (.own a))->h.get? b=nC u->h'.get? b=nC u)
 (G:∀b,H b=nC (.own a)->H' b=nC (.own a))(I:∀b xs,H b=nC (.tup xs)->H' b=nC (.tup xs)):Xx P w H' h' a o:=by
 induction o with
 |lst xs=>obtain⟨z,l,n,r,e⟩:=x;exact⟨z,l,n,r,k _ _ (.inl rfl) e⟩
 |tup xs=>obtain⟨z,l,r,g,e,c⟩:=x;exact⟨z,l,r,g,k _ _ (.inl rfl) e,c⟩
 |dK m=>obtain⟨z,y,L,r,g,j,i,e,c⟩:=x;exact⟨z,y,L,r,g,j,i,k _ _ (.inl rfl) e,c⟩
 |dT m=>
  obtain⟨z,y,xs,r,g,j,i,e,c⟩:=x
  exact⟨z,y,xs,Paired.aF r λp q z=>⟨z.1,I _ _ z.2.1,z.2.2⟩,g,j,i,k _ _ (.inl rfl) e,c⟩
 |set S n=>obtain⟨g,j,i,t,e,c⟩:=x;exact⟨g,j,i,t,k _ _ (.inl rfl) e,c⟩
 |ins C M fs=>
  obtain⟨d,z,K,e,A,⟨B,j,i,F,c⟩,r⟩:=x
  exact⟨G _ d,z,K,k _ _ (.inl rfl) e,A,⟨B,j,i,k _ _ (.inr d) F,c⟩,r⟩
 |own y=>obtain⟨g,e⟩:=x;exact⟨g,k _ _ (.inl rfl) e⟩
 |xd fs=>obtain⟨A,⟨B,j,i,e,c⟩,r⟩:=x;exact⟨A,⟨B,j,i,k _ _ (.inl rfl) e,c⟩,r⟩
 |rng O N=>obtain⟨t,u,v,e⟩:=x;exact⟨t,u,v,k _ _ (.inl rfl) e⟩
 |frz g u J=>obtain⟨e,q⟩:=x;exact⟨k _ _ (.inl rfl) e,J q⟩
 |tbl D=>
  have e:h.get? a=nC {cls:=.none,data:=.fields D}:=x
  show h'.get? a=nC {cls:=.none,data:=.fields D}
  exact k a _ (.inl rfl) e
 |met f y=>
  have e:h.get? a=nC (jhc (.ref f) (.ref y)):=x
  show h'.get? a=nC (jhc (.ref f) (.ref y))
  exact k a _ (.inl rfl) e
 |ext Q=>obtain⟨p,⟨o,e⟩,E⟩:=x;exact⟨E _ _ p λo q=>k _ _ (.inl rfl) q,⟨o,k _ _ (.inl rfl) e⟩,E⟩
theorem Q3.lt(x:Q3 P w H h)(e:H a=nC o):a<h.objs.size:=(x a o e).lt
theorem Q3.fresh(x:Q3 P w H h)(e:h.objs.size<=a):H a=su:=by
 cases q:H a with
 |none=>rfl
 |some u=>exact absurd (jcW (x.lt q) e) (jef _)
theorem Q3.kept(x:Q3 P w H h)(k:∀b u,h.get? b=nC u->h'.get? b=nC u):Q3 P w H h':=λa o e=>
 (x a o e).stay (λb u _ q=>k b u q) (λ_ q=>q) λ_ _ q=>q
theorem Q3.laid(x:Q3 P w H h)(k:∀b u,h.get? b=nC u->h'.get? b=nC u)(i:h.objs.size<=a)(d:Xx P w (upd H a o) h' a o):Q3 P w (upd H a o) h':=λb u e=>by
 have g:=x.fresh i
 by_cases f:b=a
 .subst f;rw[Zj]at e;cases e;exact d
 .rw[ZX f]at e
  exact(x b u e).stay (λc v _ q=>k c v q) (λc q=>by rw[ZX (Yd q g)];exact q) λc j q=>by rw[ZX (Yd q g)];exact q
end
noncomputable def Rd (H:Hp) (a:pA) (u:HO):Prop:=H a=nC u\/∃o,H a=nC (.frz o u)
theorem Rd.ok{P:jcz}{w:jcS}{H:Hp}{h:jcX}{a:pA}{u:HO}(r:Rd H a u)(x:Q3 P w H h):Xx P w H h a u:=by
 rcases r with r|⟨o,r⟩
 .exact x a u r
 .obtain⟨_,q⟩:=x a _ r
  exact q
noncomputable def jaN:Option HO->Prop
 |some (.lst _)=>True
 |some (.dK _)=>True
 |some (.dT _)=>True
 |some (.set _ _)=>True
 |some (.ins _ _ _)=>True
 |some (.ext _)=>True
 |_=>False
section
variable{P:jcz}{w:jcS}{H:Hp}{h h':jcX}{x e:pA}{o':HO}
theorem Q3.write(ok:Q3 P w H h)(j:jaN (H x))(o:e=x\/H e=nC (.own x))(k:∀b u,b≠e->h.get? b=nC u->h'.get? b=nC u)(m:∃u,h'.get? e=nC u)
 (n:Xx P w (upd H x o') h' x o'):Q3 P w (upd H x o') h':=λb u q=>by
 have d:∀c y,H c=nC (.own y)->c≠x:=λc y r z=>by subst z;rw[r]at j;exact j
 have f:∀c l,H c=nC (.tup l)->c≠x:=λc l r z=>by subst z;rw[r]at j;exact j
 by_cases g:b=x
 .subst g;rw[Zj]at q;cases q;exact n
 .rw[ZX g]at q
  by_cases a:b=e
  .have p:H b=nC (.own x):=by
    rcases o with z|z
    .exact absurd (a.trans z) g
    .rw[a];exact z
   rw[q]at p;cases p
   obtain⟨v,t⟩:=m
   exact⟨v,by rw[a];exact t⟩
  .refine(ok b u q).stay (λc v i r=>k c v ?_ r) (λc r=>by rw[ZX (d c b r)];exact r) λc l r=>by rw[ZX (f c l r)];exact r
   rcases i with rfl|i
   .exact a
   .rintro rfl
    rcases o with z|z
    .exact d c b i z
    .rw[i]at z;cases z;exact g rfl
end
structure Un(fs ex:List pA)(H H':Hp)(h h':jcX):Prop where
 keep:∀b o,h.get? b=nC o->H b=su->b∉fs->b∉ex->h'.get? b=nC o
 slot:∀b o,h.get? b=nC o->H b=su->b∈fs->b∉ex->∃sl,h'.get? b=nC {o with slots:=sl}
 free:∀b o,h.get? b=nC o->H b=su->b∉ex->H' b=su
 there:∀b o,h.get? b=nC o->b∉ex->∃o',h'.get? b=nC o'
 tups:∀b xs,H b=nC (.tup xs)->H' b=nC (.tup xs)
 frzs:∀b o u,H b=nC (.frz o u)->H' b=nC (.frz o u)
 tbls:∀b ps,H b=nC (.tbl ps)->∃more,H' b=nC (.tbl (ps++more))
section
variable{fs fs' ex ex':List pA}{H H1 H2:Hp}{h h1 h2 h':jcX}{a x e:pA}{o:HO}
theorem Un.any(u:Un fs ex H H1 h h1){b:pA}{a:Obj}(q:h.get? b=nC a)(n:H b=su)(d:b∉ex):∃e,h1.get? b=nC {a with slots:=e}:=by
 by_cases c:b∈fs
 .exact u.slot b a q n c d
 .exact⟨a.slots,u.keep b a q n c d⟩
theorem Un.kept(k:∀b u,h.get? b=nC u->h'.get? b=nC u):Un fs ex H H h h':=
 ⟨λb a q _ _ _=>k b a q,λb a q _ _ _=>⟨a.slots,k b a q⟩,λ_ _ _ n _=>n,λb a q _=>⟨a,k b a q⟩,λ_ _ q=>q,λ_ _ _ q=>q,λ_ c q=>⟨#[],by rw[q];simp⟩⟩
theorem Un.refl:Un fs ex H H h h:=Un.kept λ_ _ q=>q
theorem Un.laid(k:∀b u,h.get? b=nC u->h'.get? b=nC u)(c:h.objs.size<=a)(hn:H a=su):Un fs ex H (upd H a o) h h' where
 keep:=λb u q _ _ _=>k b u q
 slot:=λb u q _ _ _=>⟨u.slots,k b u q⟩
 free:=λb u q n _=>by rw[ZX (jcO (jcW (jbH q) c))];exact n
 there:=λb u q _=>⟨u,k b u q⟩
 tups:=λb d q=>by rw[ZX (Yd q hn)];exact q
 frzs:=λb u d q=>by rw[ZX (Yd q hn)];exact q
 tbls:=λb e q=>⟨#[],by rw[ZX (Yd q hn),q];simp⟩
theorem Un.write(c:jaN (H x))(j:e=x\/H e=nC (.own x))(k:∀b u,b≠e->h.get? b=nC u->h'.get? b=nC u)(d:∃u,h'.get? e=nC u):Un fs ex H (upd H x o) h h':=by
 have i:∀b,H b=su->b≠x:=λb n z=>by subst z;rw[n]at c;exact c
 have g:∀b,H b=su->b≠e:=λb n z=>by
  subst z
  rcases j with r|r
  .exact i b n r
  .rw[n]at r;cases r
 have f:∀b u,H b=nC u->¬jaN (nC u)->b≠x:=λb u q l z=>by subst z;rw[q]at c;exact l c
 refine⟨λb u q n _ _=>k b u (g b n) q,λb u q n _ _=>⟨u.slots,k b u (g b n) q⟩,λb u q n _=>by rw[ZX (i b n)];exact n,λb u q _=>?_,
  λb m q=>by rw[ZX (f b _ q λz=>z)];exact q,λb u m q=>by rw[ZX (f b _ q λz=>z)];exact q,λb p q=>⟨#[],by rw[ZX (f b _ q λz=>z),q];simp⟩⟩
 by_cases a:b=e
 .subst a;exact d
 .exact⟨u,k b u a q⟩
end
noncomputable def jbO (h:jcX) (H:Hp):List pA:=(jc4 h.objs.size).filter λa=>(H a).isSome
noncomputable def yo (h:jcX) (H:Hp):jcX:=jgi h (jbO h H)
theorem pK(h:jcX)(H:Hp):(yo h H).objs.size=h.objs.size:=PySem.W.hideAll_size _ _
theorem lX{h:jcX}{H:Hp}{b:pA}{o:Obj}(e:h.get? b=nC o)(n:H b=su):(yo h H).get? b=nC o:=
 jev _ e λa=>by
  have q:(H b).isSome=qm:=(jgE.mp a).2
  rw[n]at q;simp at q
theorem gY{h:jcX}{H:Hp}{b:pA}{o:Obj}(e:(yo h H).get? b=nC o):h.get? b=nC o/\H b=su:=by
 have a:h.get? b=nC o:=jfZ (jbO h H) e
 refine⟨a,?_⟩
 cases q:H b with
 |none=>rfl
 |some x=>
  have c:b∈jbO h H:=jgE.mpr ⟨jd0.mpr (jbH a),by simp[q]⟩
  have z:(yo h H).get? b=su:=jgj (jbO h H) c
  rw[z]at e;cases e
structure Mod(K:oh)(mg:Str->Option pL)(base:jcX):Prop where
 kin:K.In base
 glob:base.Ns jcM mg
 blt:∃mb,base.Ns builtinsNs mb/\∀x:Str,x≠"__name__"->mb x=jd5 x
 nolimit:base.NoLimit
structure Cx where
 prog:jcz
 w:jcS
 K:oh
 mg:Str->Option pL
 base:jcX
 A:jdc
 N:List Str
 s₀:S6
 H₀:Hp
 env:Env
 outer:List Env
 stack:List Env
 ex:List pA
 fn:Str->Bool
 calm:Bool
 pn:List (pA×Obj)
 xe:pL->S6->Prop
noncomputable def frs (l:List Env):List pA:=l.filterMap (·.frame)
noncomputable abbrev Cx.fs (X:Cx):List pA:=frs X.outer
noncomputable def jbT (a:Scope) (x:Str):Prop:=a.names.lookup x=nC .local\/a.names.lookup x=nC .cell\/a.names.lookup x=nC .free
noncomputable def Loc (a:Scope) (x:Str):Prop:=a.names.lookup x=nC .local\/a.names.lookup x=nC .cell
noncomputable def Look (env:Env) (h:jcX) (m:Str->Option pL) (x:Str) (u:pL):Prop:=
 (env.kindOf x=nC .local/\m x=nC u)\/((env.kindOf x=nC .cell\/env.kindOf x=nC .free)/\∃c,env.cells.lookup x=nC c/\h.IsCell c (nC u))
structure Cx.Ok(X:Cx):Prop where
 mod:Mod X.K X.mg X.base
 kind:X.env.scope.kind=.function
 glob:X.env.globals=jcM
 blt:X.env.builtins=builtinsNs
 above:X.s₀.heap.objs.size<=X.env.locals
 inj:∀x y c,X.env.cells.lookup x=nC c->X.env.cells.lookup y=nC c->x=y
 has:∀x,(X.env.kindOf x=nC .cell\/X.env.kindOf x=nC .free)->∃c,X.env.cells.lookup x=nC c
 cab:∀x c,X.fn x=qm->X.env.cells.lookup x=nC c->X.s₀.heap.objs.size<=c
 hd:X.calm=qm->X.A.handled=su
 frames:X.A.frames=nC X.stack
 stk:X.stack=X.outer\/(X.stack=X.env::X.outer/\X.env.frame=nC X.env.locals)
 exf:∀b∈X.ex,b≠X.env.locals/\∀x c,X.env.cells.lookup x=nC c->c≠b
 bs:∀b o,X.base.get? b=nC o->X.s₀.heap.get? b=nC o/\X.H₀ b=su
 bsz:X.base.objs.size<=X.s₀.heap.objs.size
 noex:∀b o,X.base.get? b=nC o->b∉X.ex
 exfs:∀b∈X.ex,b∉X.fs
 Mu:X.s₀.heap.FunFrames X.base X.outer
 frf:∀b∈X.fs,X.H₀ b=su
structure Inv(X:Cx)(pins:List (pA×Obj))(σ:List (Option V))(H:Hp)(s:S6):Prop where
 ok:X.Ok
 os:s.os=X.s₀.os
 bare:jf6 s.gens
 base:Un X.fs X.ex X.H₀ H X.s₀.heap s.heap
 loc:∃m,s.heap.Ns X.env.locals m/\∀(i:Nat)(x:Str)(v:V),X.N[i]?=nC x->σ[i]?=nC (nC v)->jbT X.env.scope x->∃u,RelV v u/\Look X.env s.heap m x u
 cell:∀x c,X.env.cells.lookup x=nC c->∃v,s.heap.IsCell c v
 free:H X.env.locals=su
 freeC:∀x c,X.env.cells.lookup x=nC c->H c=su
 pin:∀p∈X.pn++pins,s.heap.get? p.1=nC p.2/\H p.1=su/\p.1≠X.env.locals/\p.1∉X.fs/\∀v,p.2.data≠.cell v
 hok:Q3 X.prog X.w H s.heap
 len:σ.length=X.N.length
section
variable{X:Cx}{pins:List (pA×Obj)}{σ:List (Option V)}{H H':Hp}{s:S6}{h':jcX}
theorem Cx.Ok.jb2(ok:X.Ok){b:pA}{o:Obj}(e:X.base.get? b=nC o):b∉X.fs:=λa=>by
 have:=(ok.Mu.mem a).1
 rw[e]at this;cases this
theorem Inv.bs(I:Inv X pins σ H s):∀b o,X.base.get? b=nC o->s.heap.get? b=nC o/\H b=su:=λb o e=>
 ⟨I.base.keep b o (I.ok.bs b o e).1 (I.ok.bs b o e).2 (I.ok.jb2 e) (I.ok.noex b o e),I.base.free b o (I.ok.bs b o e).1 (I.ok.bs b o e).2 (I.ok.noex b o e)⟩
theorem Inv.bk(I:Inv X pins σ H s):∀b o,X.base.get? b=nC o->s.heap.get? b=nC o:=λb o e=>(I.bs b o e).1
theorem Inv.mod(I:Inv X pins σ H s):Mod X.K X.mg X.base:=I.ok.mod
theorem Inv.QR(I:Inv X pins σ H s):X.K.In s.heap:=I.ok.mod.kin.keeps I.bk
theorem Inv.lt(I:Inv X pins σ H s):X.env.locals<s.heap.objs.size:=let⟨_,a,_⟩:=I.loc;a.lt
theorem Inv.sz(I:Inv X pins σ H s):X.s₀.heap.objs.size<=s.heap.objs.size:=jc9 I.ok.above (jer I.lt)
theorem Inv.jb3(I:Inv X pins σ H s){a:pA}(h:s.heap.objs.size<=a):a∉X.fs:=λb=>by
 obtain⟨_,o,c,_⟩:=I.ok.Mu.mem b
 exact absurd (jcW (jbH c) (jc9 I.sz h)) (jef _)
theorem Inv.dW(I:Inv X pins σ H s):∀x c,X.env.cells.lookup x=nC c->c≠X.env.locals:=λx c e z=>by
 obtain⟨v,o,f,d⟩:=I.cell x c e
 obtain⟨m,⟨i,h,g,b,a,_⟩,_⟩:=I.loc
 rw[z,b]at f;cases f;rw[a]at d;cases d
theorem Inv.Mu(I:Inv X pins σ H s):s.heap.FunFrames X.base X.outer:=by
 have all:∀(l:List Env),(∀b∈frs l,b∈X.fs)->X.s₀.heap.FunFrames X.base l->s.heap.FunFrames X.base l:=by
  intro l
  induction l with
  |nil=>intro _ _;trivial
  |cons g r q=>
   intro f j
   obtain⟨i,⟨L,o,d,m,n,h⟩,p⟩:=j
   have a:L∈X.fs:=f L (by unfold frs;rw[jgM,d];exact U7)
   obtain⟨t,e⟩:=I.base.slot L o n (I.ok.frf L a) a λz=>I.ok.exfs L z a
   exact⟨i,⟨L,_,d,m,e,h⟩,q (λb c=>f b (by unfold frs;rw[jgM,d];exact jcx _ c)) p⟩
 exact all X.outer (λ_ c=>c) I.ok.Mu
theorem Inv.stack(I:Inv X pins σ H s):s.heap.FunFrames X.base X.stack:=by
 rcases I.ok.stk with e|⟨e,a⟩
 .rw[e];exact I.Mu
 .rw[e]
  obtain⟨m,b,_⟩:=I.loc
  refine .cons (by rw[I.ok.kind];decide) a b ?_ I.Mu
  exact jgu (jc9 I.ok.bsz I.ok.above)
theorem Inv.LQ(I:Inv X pins σ H s):∀b∈frs X.stack,b∈X.env.locals::X.fs:=λb a=>by
 rcases I.ok.stk with e|⟨e,c⟩
 .rw[e]at a;exact jcx _ a
 .rw[e]at a
  unfold frs at a
  rw[jgM,c]at a
  exact a
theorem Inv.Pk(I:Inv X pins σ H s):∀b∈frs X.stack,H b=su:=λb a=>by
 rcases jbK.mp (I.LQ b a)with e|a
 .rw[e];exact I.free
 .obtain⟨_,o,c,_⟩:=I.ok.Mu.mem a
  exact I.base.free b o c (I.ok.frf b a) λz=>I.ok.exfs b z a
theorem Inv.step{g':Array jfz}{t':Nat}{d':jjt}{ch:List pA}(I:Inv X pins σ H s)
 (g:∀b∈ch,(b∈X.ex\/X.s₀.heap.objs.size<=b)/\b≠X.env.locals/\(∀x c,X.env.cells.lookup x=nC c->c≠b)/\∀p∈X.pn++pins,p.1≠b)
 (h:∀b o,b≠X.env.locals->b∉X.fs->b∉ch->s.heap.get? b=nC o->H b=su->h'.get? b=nC o)
 (A:∀b o,b≠X.env.locals->b∈X.fs->b∉ch->s.heap.get? b=nC o->H b=su->∃O,h'.get? b=nC {o with slots:=O})(free:∀b o,b∉ch->s.heap.get? b=nC o->H b=su->H' b=su)
 (there:∀b o,b∉ch->s.heap.get? b=nC o->∃J,h'.get? b=nC J)
 (L:∀b xs,H b=nC (.tup xs)->H' b=nC (.tup xs))(E:∀b o u,H b=nC (.frz o u)->H' b=nC (.frz o u))(K:∀b ps,H b=nC (.tbl ps)->∃F,H' b=nC (.tbl (ps++F)))
 (ns:∀m,s.heap.Ns X.env.locals m->h'.Ns X.env.locals m)(N:Q3 X.prog X.w H' h')(W:jf6 g'):
 Inv X pins σ H' {s with heap:=h',gens:=g',drawn:=d',toks:=t'}:=by
 have G:∀b o,X.s₀.heap.get? b=nC o->b≠X.env.locals:=λb o e=>jcO (jcW (jbH e) I.ok.above)
 have y:∀b o,X.s₀.heap.get? b=nC o->b∉X.ex->b∉ch:=λb o e a B=>by
  rcases(g b B).1 with z|z
  .exact a z
  .exact absurd (jcW (jbH e) z) (jef _)
 have f:∀x c,X.env.cells.lookup x=nC c->∀v,s.heap.IsCell c v->h'.IsCell c v:=λx c e v⟨o,C,M⟩=>by
  have j:c∉ch:=λz=>(g c z).2.2.1 x c e rfl
  by_cases Q:c∈X.fs
  .obtain⟨O,q⟩:=A c o (I.dW x c e) Q j C (I.freeC x c e)
   exact⟨_,q,M⟩
  .exact⟨o,h c o (I.dW x c e) Q j C (I.freeC x c e),M⟩
 refine⟨I.ok,I.os,W,⟨λb o e n B a=>?_,λb o e n B a=>?_,λb o e n a=>?_,λb o e a=>?_,λb xs e=>L b xs (I.base.tups b xs e),λb o xs e=>E b o xs (I.base.frzs b o xs e),λb ps e=>?_⟩,?_,λx c e=>?_,?_,λx c e=>?_,λp R=>?_,N,I.len⟩
 .exact h b o (G b o e) B (y b o e a) (I.base.keep b o e n B a) (I.base.free b o e n a)
 .obtain⟨O,t⟩:=I.base.slot b o e n B a
  obtain⟨P,D⟩:=A b _ (G b o e) B (y b o e a) t (I.base.free b o e n a)
  exact⟨P,D⟩
 .obtain⟨J,t⟩:=I.base.there b o e a
  exact free b J (y b o e a) t (I.base.free b o e n a)
 .obtain⟨J,t⟩:=I.base.there b o e a
  exact there b J (y b o e a) t
 .obtain⟨m1,t⟩:=I.base.tbls b ps e
  obtain⟨m2,D⟩:=K b _ t
  exact⟨m1++m2,by rw[D,jgY]⟩
 .obtain⟨m,Z,Y⟩:=I.loc
  refine⟨m,ns m Z,λi x v t D U=>?_⟩
  obtain⟨u,r,l⟩:=Y i x v t D U
  refine⟨u,r,?_⟩
  rcases l with l|⟨k,c,e,z⟩
  .exact .inl l
  .exact .inr ⟨k,c,e,f x c e _ z⟩
 .obtain⟨v,z⟩:=I.cell x c e
  exact⟨v,f x c e v z⟩
 .obtain⟨m,⟨o,_,_,C,_⟩,_⟩:=I.loc
  exact free _ o (λz=>(g _ z).2.1 rfl) C I.free
 .obtain⟨v,o,C,M⟩:=I.cell x c e
  exact free c o (λz=>(g c z).2.2.1 x c e rfl) C (I.freeC x c e)
 .obtain⟨e,n,S,T,d⟩:=I.pin p R
  have j:p.1∉ch:=λz=>(g p.1 z).2.2.2 p R rfl
  exact⟨h p.1 p.2 S T j e n,free p.1 p.2 j e n,S,T,d⟩
theorem Inv.un{t':Nat}(I:Inv X pins σ H s)(u:Un X.fs [] H H' s.heap h')(g:Q3 X.prog X.w H' h'):Inv X pins σ H' {s with heap:=h',toks:=t'}:=by
 obtain⟨m,⟨o,q,p,h,r⟩,_⟩:=id I.loc
 obtain⟨x,i⟩:=u.any h I.free (by simp)
 exact I.step (g':=s.gens) (d':=s.drawn) (ch:=[]) (λ_ z=>nomatch z) (λb o _ f _ e n=>u.keep b o e n f (by simp)) (λb o _ f _ e n=>u.slot b o e n f (by simp)) (λb o _ e n=>u.free b o e n (by simp)) (λb o _ e=>u.there b o e (by simp)) u.tups u.frzs u.tbls (λt j=>by
  obtain⟨v,d,c,a,l⟩:=j
  rw[h]at a;cases a
  exact⟨_,d,c,i,l⟩) g I.bare
theorem Inv.call{g':Array jfz}{t':Nat}{d':jjt}{ch:List pA}(I:Inv X pins σ H s)(u:Un (frs X.stack) ch H H' s.heap h')(j:Q3 X.prog X.w H' h')(t:jf6 g')
 (d:∀b∈ch,(b∈X.ex\/X.s₀.heap.objs.size<=b)/\b≠X.env.locals/\(∀x c,X.env.cells.lookup x=nC c->c≠b)/\∀p∈X.pn++pins,p.1≠b):
 Inv X pins σ H' {s with heap:=h',gens:=g',drawn:=d',toks:=t'}:=by
 obtain⟨m,⟨o,B,A,l,r⟩,_⟩:=id I.loc
 obtain⟨E,i⟩:=u.any l I.free λz=>(d _ z).2.1 rfl
 exact I.step (ch:=ch) d (λb o i q a e n=>u.keep b o e n (λz=>(jbK.mp (I.LQ b z)).elim i q) a) (λb o _ _ a e n=>u.any e n a) (λb o a e n=>u.free b o e n a) (λb o a e=>u.there b o e a) u.tups u.frzs u.tbls (λC v=>by
  obtain⟨D,h,g,f,y⟩:=v
  rw[l]at f;cases f
  exact⟨_,h,g,i,y⟩) j t
theorem Inv.turned{t':Nat}{it:pA}(I:Inv X pins σ H s)(k:∀b o,b≠it->s.heap.get? b=nC o->h'.get? b=nC o)(hn:H it=su)(f:it≠X.env.locals)
 (i:it∈X.ex\/X.s₀.heap.objs.size<=it)(j:∀x c,X.env.cells.lookup x=nC c->c≠it)(l:∀p∈X.pn++pins,p.1≠it):Inv X pins σ H {s with heap:=h',toks:=t'}:=by
 have d:∀b u,H b=nC u->b≠it:=λb u e z=>by rw[z,hn]at e;cases e
 refine I.step (g':=s.gens) (d':=s.drawn) (ch:=[it]) (λb t=>?_) (λb o _ _ a e _=>k b o (λz=>a (by simp[z])) e) (λb o _ _ a e _=>⟨o.slots,k b o (λz=>a (by simp[z])) e⟩) (λ_ _ _ _ n=>n)
  (λb o a e=>⟨o,k b o (λz=>a (by simp[z])) e⟩) (λ_ _ e=>e) (λ_ _ _ e=>e) (λb A e=>⟨#[],by rw[e];simp⟩) (λm w=>?_) (λb u e=>?_) I.bare
 .have e:b=it:=by simpa using t
  subst e
  exact⟨i,f,j,l⟩
 .obtain⟨o,h,g,y,r⟩:=w
  exact⟨o,h,g,k _ o (jdh f) y,r⟩
 .refine(I.hok b u e).stay (λc v a q=>k c v ?_ q) (λ_ q=>q) λ_ _ q=>q
  rcases a with z|z
  .rw[z];exact d b u e
  .exact d c _ z
theorem Inv.tok(I:Inv X pins σ H s)(t:Nat):Inv X pins σ H {s with toks:=t}:=I.un (h':=s.heap) (t':=t) Un.refl I.hok
theorem Inv.kept{t':Nat}(I:Inv X pins σ H s)(k:∀b u,s.heap.get? b=nC u->h'.get? b=nC u):Inv X pins σ H {s with heap:=h',toks:=t'}:=I.un (Un.kept k) (I.hok.kept k)
theorem Inv.laid{a:pA}{o:HO}{t':Nat}(I:Inv X pins σ H s)(k:∀b u,s.heap.get? b=nC u->h'.get? b=nC u)(c:s.heap.objs.size<=a)(d:Xx X.prog X.w (upd H a o) h' a o):
 Inv X pins σ (upd H a o) {s with heap:=h',toks:=t'}:=I.un (Un.laid k c (I.hok.fresh c)) (I.hok.laid k c d)
theorem Inv.write{x e:pA}{o:HO}{t':Nat}(I:Inv X pins σ H s)(f:jaN (H x))(d:e=x\/H e=nC (.own x))(k:∀b u,b≠e->s.heap.get? b=nC u->h'.get? b=nC u)(a:∃u,h'.get? e=nC u)
 (c:Xx X.prog X.w (upd H x o) h' x o):Inv X pins σ (upd H x o) {s with heap:=h',toks:=t'}:=I.un (Un.write f d k a) (I.hok.write f d k a c)
theorem Inv.rQ{a:List (pA×Obj)}(I:Inv X pins σ H s)(h:∀p∈a,s.heap.get? p.1=nC p.2/\H p.1=su/\p.1≠X.env.locals/\p.1∉X.fs/\∀v,p.2.data≠.cell v):Inv X a σ H s:=
 ⟨I.ok,I.os,I.bare,I.base,I.loc,I.cell,I.free,I.freeC,λp b=>(jdo.mp b).elim (λz=>I.pin p (jfA _ z)) (h p),I.hok,I.len⟩
theorem wM{N:List Str}(e:N.Nodup){i j:Nat}{x:Str}(a:N[i]?=nC x)(b:N[j]?=nC x):i=j:=by
 obtain⟨f,c⟩:=jcP.mp a
 obtain⟨g,d⟩:=jcP.mp b
 exact(List.getElem_inj e).mp (c.trans d.symm)
theorem zL{M:jiU}{A:jdc}{E:pL->S6->Prop}{i:Nat}{x:Str}{v:V}{u:pL}{Q:Unit->S6->Prop}(I:Inv X pins σ H s)(hN:X.N.Nodup)(S:X.N[i]?=nC x)(B:Loc X.env.scope x)(r:RelV v u)
 (h:∀s',Inv X pins (σ.set i (nC v)) H s'->(∃a,jfI a s.heap s'.heap/\(a=X.env.locals\/X.env.cells.lookup x=nC a))->Q () s')(hf:X.fn x=qm\/X.env.scope.names.lookup x=nC .local:=by first|exact .inl rfl|exact .inr rfl|assumption):jcH M A (storeName X.env x u) Q E s:=by
 obtain⟨m,hn,hl⟩:=id I.loc
 have R:(X.env.scope.kind==.class||(X.env.scope.kind==.module&&X.env.locals !=X.env.globals))=vh:=by rw[I.ok.kind];rfl
 have F:i<σ.length:=by rw[I.len];exact(jcP.mp S).1
 have dW:=I.dW
 have l:∀{a:pA}{h':jcX},(∃o,s.heap.get? a=nC o/\H a=su)->jfI a s.heap h'->Q3 X.prog X.w H h':=λ{a h'}ha f b ob e=>by
  obtain⟨_,_,C⟩:=ha
  refine(I.hok b ob e).stay (λc Z t q=>(f.2 c ?_).trans q) (λ_ q=>q) λ_ _ q=>q
  rintro rfl
  rcases t with rfl|t
  .rw[C]at e;cases e
  .rw[C]at t;cases t
 rcases B with G|G
 .refine wpAny_storeName_local G hn (λh' aa f=>?_) R
  obtain⟨oL,_,_,ab,_⟩:=id hn
  refine h _ ⟨I.ok,I.os,I.bare,⟨λb o e n J B=>?_,λb o e n J B=>?_,I.base.free,λb o e B=>?_,I.base.tups,I.base.frzs,I.base.tbls⟩,⟨_,aa,λj y v' g D e3=>?_⟩,λy c e=>?_,I.free,I.freeC,λp hp=>?_,l ⟨oL,ab,I.free⟩ f,by simpa using I.len⟩ ⟨_,f,.inl rfl⟩
  .exact(f.2 b (jcO (jcW (jbH e) I.ok.above))).trans (I.base.keep b o e n J B)
  .obtain⟨sl,g⟩:=I.base.slot b o e n J B
   exact⟨sl,(f.2 b (jcO (jcW (jbH e) I.ok.above))).trans g⟩
  .obtain⟨o',g⟩:=I.base.there b o e B
   exact⟨o',(f.2 b (jcO (jcW (jbH e) I.ok.above))).trans g⟩
  .by_cases L:j=i
   .subst L
    rw[S]at g;cases g
    rw[jhI F]at D
    cases D
    exact⟨u,r,.inl ⟨G,by simp⟩⟩
   .rw[jib (jdh L)]at D
    obtain⟨u',r',q⟩:=hl j y v' g D e3
    refine⟨u',r',?_⟩
    rcases q with⟨k,e⟩|⟨k,c,e,z⟩
    .refine .inl ⟨k,?_⟩
     have:y≠x:=λe=>L (wM hN g (e▸S))
     simp[this,e]
    .exact .inr ⟨k,c,e,z.sameBut f (dW y c e)⟩
  .obtain⟨Z,z⟩:=I.cell y c e
   exact⟨Z,z.sameBut f (dW y c e)⟩
  .obtain⟨e,n,Y,nf,d⟩:=I.pin p hp
   exact⟨(f.2 p.1 Y).trans e,n,Y,nf,d⟩
 .have K:X.fn x=qm:=by
   rcases hf with z|z
   .exact z
   .rw[z]at G;cases G
  obtain⟨c,t⟩:=I.ok.has x (.inl G)
  obtain⟨Z,z⟩:=I.cell x c t
  refine wpAny_storeName_cell I.ok.kind G t z (λh' O f=>?_)
  obtain⟨oc,T,U⟩:=id z
  refine h {s with heap:=h'} ⟨I.ok,I.os,I.bare,⟨λb o e n J B=>?_,λb o e n J B=>?_,I.base.free,λb o e B=>?_,I.base.tups,I.base.frzs,I.base.tbls⟩,⟨m,hn.sameBut f (jdh (dW x c t)),λj y v' g D e3=>?_⟩,λy W e=>?_,I.free,I.freeC,λp hp=>?_,l ⟨oc,T,I.freeC x c t⟩ f,by simpa using I.len⟩ ⟨c,f,.inr t⟩
  .exact(f.2 b (jcO (jcW (jbH e) (I.ok.cab x c K t)))).trans (I.base.keep b o e n J B)
  .obtain⟨sl,g⟩:=I.base.slot b o e n J B
   exact⟨sl,(f.2 b (jcO (jcW (jbH e) (I.ok.cab x c K t)))).trans g⟩
  .obtain⟨o',g⟩:=I.base.there b o e B
   exact⟨o',(f.2 b (jcO (jcW (jbH e) (I.ok.cab x c K t)))).trans g⟩
  .by_cases L:j=i
   .subst L
    rw[S]at g;cases g
    rw[jhI F]at D
    cases D
    exact⟨u,r,.inr ⟨.inl G,c,t,O⟩⟩
   .rw[jib (jdh L)]at D
    obtain⟨u',r',q⟩:=hl j y v' g D e3
    refine⟨u',r',?_⟩
    rcases q with q|⟨k,W,e,z'⟩
    .exact .inl q
    .refine .inr ⟨k,W,e,z'.sameBut f ?_⟩
     rintro rfl
     exact L (wM hN g (I.ok.inj _ _ _ e t▸S))
  .by_cases P:W=c
   .subst P;exact⟨_,O⟩
   .obtain⟨w2,z2⟩:=I.cell y W e
    exact⟨w2,z2.sameBut f P⟩
  .obtain⟨e,n,Y,nf,d⟩:=I.pin p hp
   refine⟨(f.2 p.1 ?_).trans e,n,Y,nf,d⟩
   intro q
   rw[q,T]at e
   have q':oc=p.2:=jc8 e
   exact d Z (by rw[<-q'];exact U)
theorem Bh{M:jiU}{A:jdc}{E:pL->S6->Prop}{i:Nat}{x:Str}{v:V}{u:pL}{Q:Unit->S6->Prop}(I:Inv X pins σ H s)(c:X.N.Nodup)(e:X.N[i]?=nC x)(f:Loc X.env.scope x)(r:RelV v u)
 (h:∀a,Inv X pins (σ.set i (nC v)) H a->Q () a)(d:X.fn x=qm\/X.env.scope.names.lookup x=nC .local:=by first|exact .inl rfl|exact .inr rfl|assumption):jcH M A (storeName X.env x u) Q E s:=
 zL I c e f r (λa b _=>h a b) d
theorem Inv.call'{s':S6}{ch:List pA}(I:Inv X pins σ H s)(g:s'.os=s.os)(u:Un (frs X.stack) ch H H' s.heap s'.heap)(d:Q3 X.prog X.w H' s'.heap)(f:jf6 s'.gens)
 (a:∀b∈ch,(b∈X.ex\/X.s₀.heap.objs.size<=b)/\b≠X.env.locals/\(∀x c,X.env.cells.lookup x=nC c->c≠b)/\∀p∈X.pn++pins,p.1≠b):Inv X pins σ H' s':=by
 obtain⟨i,g',d',t',h⟩:=s'
 have e:h=s.os:=g
 subst e
 exact I.call (g':=g') (t':=t') (d':=d') u d f a
end
noncomputable abbrev XK:=pL->Option pA->Hp->Prop
noncomputable abbrev St:=List (Option V)
noncomputable abbrev VK:=V->Hp->Prop
noncomputable abbrev TE:=St->Hp->VK->Prop
noncomputable abbrev TT:=St->Hp->(Bool->Hp->Prop)->Prop
noncomputable abbrev TA:=St->Hp->(List V->Hp->Prop)->Prop
structure Ends where
 nx:St->Hp->Prop
 rt:VK
 bk:St->Hp->Prop:=λ_ _=>False
 ct:St->Hp->Prop:=λ_ _=>False
noncomputable abbrev TS:=Ends->St->Hp->Prop
noncomputable def EP (X:Cx) (a:List (pA×Obj)) (d:St) (Q:VK) (u:pL) (c:S6):Prop:=∃v b,Inv X a d b c/\RelV v u/\Q v b
noncomputable def TP (X:Cx) (a:List (pA×Obj)) (e:St) (Q:Bool->Hp->Prop) (b:Bool) (d:S6):Prop:=∃c,Inv X a e c d/\Q b c
noncomputable def AP (X:Cx) (a:List (pA×Obj)) (e:St) (Q:List V->Hp->Prop) (us:List pL) (d:S6):Prop:=∃c b,Inv X a e b d/\Vals c us/\Q c b
noncomputable def SP (X:Cx) (b:List (pA×Obj)) (D:Ends) (f:Flow) (d:S6):Prop:=
 match f with
 |.next=>∃a c,Inv X b a c d/\D.nx a c
 |.brk=>∃a c,Inv X b a c d/\D.bk a c
 |.cont=>∃a c,Inv X b a c d/\D.ct a c
 |.ret u=>∃v a c,Inv X b a c d/\RelV v u/\D.rt v c
noncomputable def PE (X:Cx) (e:Expr) (t:TE):Prop:=
 ∀(a:List (pA×Obj))(s:S6)(b:St)(H:Hp)(Q:VK),Inv X a b H s->t b H Q->jcH (model X.prog X.w) X.A (eval e X.env) (EP X a b Q) X.xe s
noncomputable def PT (X:Cx) (e:Expr) (t:TT):Prop:=
 ∀(a:List (pA×Obj))(s:S6)(b:St)(H:Hp)(Q:Bool->Hp->Prop),Inv X a b H s->t b H Q->jcH (model X.prog X.w) X.A (isTrue e X.env (eval e X.env)) (TP X a b Q) X.xe s
noncomputable def PW (X:Cx) (e:Expr) (t:TT):Prop:=
 ∀(b:Sem pL)(a:List (pA×Obj))(s:S6)(c:St)(H:Hp)(Q:Bool->Hp->Prop),Inv X a c H s->t c H Q->jcH (model X.prog X.w) X.A (isTrue e X.env b) (TP X a c Q) X.xe s
theorem PW.pt{X:Cx}{e:Expr}{t:TT}(h:PW X e t):PT X e t:=h _
noncomputable def PA (X:Cx) (c:List Expr) (t:TA):Prop:=
 ∀(pos:Pos)(a:List (pA×Obj))(s:S6)(b:St)(H:Hp)(Q:List V->Hp->Prop),Inv X a b H s->t b H Q->jcH (model X.prog X.w) X.A (spliced (jeh pos (jc0 c X.env))) (AP X a b Q) X.xe s
noncomputable def PS (X:Cx) (st:jde) (t:TS):Prop:=
 ∀(a:List (pA×Obj))(s:S6)(b:St)(H:Hp)(D:Ends),Inv X a b H s->t D b H->jcH (model X.prog X.w) X.A (exec st X.env) (SP X a D) X.xe s
noncomputable def vQ (X:Cx) (st:List jde) (t:TS):Prop:=
 ∀(a:List (pA×Obj))(s:S6)(b:St)(H:Hp)(D:Ends),Inv X a b H s->t D b H->jcH (model X.prog X.w) X.A (execs st X.env) (SP X a D) X.xe s
theorem XD{c:Type}{t:Sem c}{Q b:c->S6->Prop}{M:jiU}{A:jdc}{E:pL->S6->Prop}{s:S6}(h:jcH M A t Q E s)(d:∀a s,Q a s->b a s):jcH M A t b E s:=jc1 h d λ_ _ x=>x
section
variable{X:Cx}
noncomputable def dG (i:Nat):TE:=λa H Q=>∃v,a[i]?=nC (nC v)/\Q v H
noncomputable def tC (v:V):TE:=λ_ H Q=>Q v H
theorem jag{i:Nat}{x:Str}{pos:Pos}(o:X.N[i]?=nC x)(w:jbT X.env.scope x)(j:(x==("__debug__":Str))=vh:=by decide)(g:(x==("__classdict__":Str))=vh:=by decide):PE X (.Name x pos) (dG i):=by
 intro f s y H Q I h
 obtain⟨v,e,h⟩:=h
 obtain⟨m,t,p⟩:=I.loc
 obtain⟨u,r,l⟩:=p i x v o e w
 have b:EP X f y Q u s:=⟨v,H,I,r,h⟩
 rcases l with⟨d,q⟩|⟨d,c,n,a⟩
 .exact wpAny_Name (wpAny_loadName_local I.ok.kind d t q b) j
 .rcases d with d|d
  .exact wpAny_Name (wpAny_loadName_cell I.ok.kind d n a b) j
  .exact wpAny_Name (wpAny_loadName_free I.ok.kind d n a b g) j
theorem aY{i j pos}:PE X (.Constant (.int i) j pos) (tC (.int i)):=λ_ _ _ H _ I h=>wpAny_Constant_int ⟨.int i,H,I.tok _,⟨_,rfl⟩,h⟩
theorem jbd{b j pos}:PE X (.Constant (.bool b) j pos) (tC (.bl b)):=λ_ _ _ H _ I h=>Constant_bool ⟨.bl b,H,I,rfl,h⟩
theorem jac{j pos}:PE X (.Constant .none j pos) (tC .non):=λ_ _ _ H _ I h=>Constant_none ⟨.non,H,I,rfl,h⟩
theorem jF{x j pos}:PE X (.Constant (.str x) j pos) (tC (.str x)):=λ_ _ _ H _ I h=>Calls.Constant_str ⟨.str x,H,I.tok _,⟨_,rfl⟩,h⟩
noncomputable def Gl (X:Cx) (x:Str):Prop:=X.env.kindOf x=nC .globalImplicit
theorem Uk{E:pL->S6->Prop}{a:List (pA×Obj)}{s:S6}{e:St}{H:Hp}{x:Str}{u:pL}{pos:Pos}{Q:pL->S6->Prop}(I:Inv X a e H s)(c:Gl X x)(d:X.mg x=nC u)(h:Q u s)
 (b:(x==("__debug__":Str))=vh:=by decide):jcH (model X.prog X.w) X.A (eval (.Name x pos) X.env) Q E s:=
 jgZ I.ok.kind c (Calls.loadGlobal_global (by rw[I.ok.glob];exact I.mod.glob.keeps I.bk) d h) b
theorem Pr{E:pL->S6->Prop}{a:List (pA×Obj)}{s:S6}{i:St}{H:Hp}{x:Str}{u:pL}{pos:Pos}{Q:pL->S6->Prop}(I:Inv X a i H s)(e:Gl X x)(f:X.mg x=su)(g:jd5 x=nC u)(h:Q u s)
 (hn:x≠"__name__":=by decide)(d:(x==("__debug__":Str))=vh:=by decide):jcH (model X.prog X.w) X.A (eval (.Name x pos) X.env) Q E s:=by
 obtain⟨j,b,c⟩:=I.mod.blt
 exact jgZ I.ok.kind e (Calls.loadGlobal_builtin (by rw[I.ok.glob];exact I.mod.glob.keeps I.bk) f (by rw[I.ok.blt];exact b.keeps I.bk) ((c x hn).trans g) h) d
theorem yI{x:Str}{v:V}{u:pL}{pos:Pos}(b:Gl X x)(c:X.mg x=nC u)(r:RelV v u)(a:(x==("__debug__":Str))=vh:=by decide):PE X (.Name x pos) (tC v):=
 λ_ _ _ H _ I h=>Uk I b c ⟨v,H,I,r,h⟩ a
theorem rP{x:Str}{v:V}{u:pL}{pos:Pos}(b:Gl X x)(c:X.mg x=su)(d:jd5 x=nC u)(r:RelV v u)(hn:x≠"__name__":=by decide)(a:(x==("__debug__":Str))=vh:=by decide):PE X (.Name x pos) (tC v):=
 λ_ _ _ H _ I h=>Pr I b c d ⟨v,H,I,r,h⟩ hn a
variable{a b:Expr}{ta tb:TE}{pos:Pos}
noncomputable def tB (t:TE):TT:=λb H Q=>t b H λx a=>∃c,x=.bl c/\Q c a
theorem jas{e:Expr}{t:TE}(h:PE X e t)(g:∀a,isTrue e X.env a=(do let v<-a;jgR e.pos;holding [v] (truthy v)):=by intro _;rfl):PT X e (tB t):=by
 intro b s m H Q I hw
 refine isTrue_plain (XD (h b s m H _ I hw) λv n l=>?_) (g _)
 obtain⟨x,c,f,j,i⟩:=l
 obtain⟨d,rfl,q⟩:=i
 cases j
 exact jdX ⟨c,f,q⟩
variable{tA tB':TT}{rest:List Expr}
noncomputable def jbv (t u:TT):TT:=λb H Q=>t b H λc a=>if c=qm then u b a Q else Q vh a
noncomputable def jco (t u:TT):TT:=λb H Q=>t b H λc a=>if c=qm then Q qm a else u b a Q
noncomputable def jbz (t:TT):TT:=λb H Q=>t b H λc a=>Q (!c) a
theorem dh(d:PT X a tA):PW X (.BoolOp .And [a] pos) tA:=by
 intro i b s f H Q I h
 refine isTrue_and (XD (d b s f H Q I h) λc g e=>?_)
 cases c with
 |true=>exact isTrue_and_nil e
 |false=>exact e
theorem jau(d:PT X a tA):PW X (.BoolOp .Or [a] pos) tA:=by
 intro i b s f H Q I h
 refine isTrue_or (XD (d b s f H Q I h) λc g e=>?_)
 cases c with
 |false=>exact isTrue_or_nil e
 |true=>exact e
theorem jat(j:PT X a tA)(l:PW X (.BoolOp .And (b::rest) pos) tB'):PW X (.BoolOp .And (a::b::rest) pos) (jbv tA tB'):=by
 intro n d s i H Q I h
 refine isTrue_and (XD (j d s i H _ I h) λc m o=>?_)
 obtain⟨e,f,g⟩:=o
 cases c with
 |true=>exact l n d m i e Q f g
 |false=>exact⟨e,f,g⟩
theorem jbm(j:PT X a tA)(l:PW X (.BoolOp .Or (b::rest) pos) tB'):PW X (.BoolOp .Or (a::b::rest) pos) (jco tA tB'):=by
 intro n d s i H Q I h
 refine isTrue_or (XD (j d s i H _ I h) λc m o=>?_)
 obtain⟨e,f,g⟩:=o
 cases c with
 |true=>exact⟨e,f,g⟩
 |false=>exact l n d m i e Q f g
theorem jar(e:PT X a tA):PT X (.UnaryOp .Not a pos) (jbz tA):=by
 intro b s f H Q I h
 exact isTrue_not (e b s f H (λc d=>Q (!c) d) I h)
noncomputable def cL (d e:TE):TE:=λb H Q=>d b H λx a=>∃c,x=.bl c/\if c=qm then e b a Q else Q (.bl vh) a
noncomputable def jbA (d e:TE):TE:=λb H Q=>d b H λx a=>∃c,x=.bl c/\if c=qm then Q (.bl qm) a else e b a Q
noncomputable def cV (b:TE):TE:=λd H Q=>b d H λx a=>∃c,x=.bl c/\Q (.bl (!c)) a
theorem jae{op}{t:TE}(h:PE X a t):PE X (.BoolOp op [a] pos) t:=λb s c H Q I hw=>BoolOp_one (h b s c H Q I hw)
theorem aV(j:PE X a ta)(l:PE X (.BoolOp .And (b::rest) pos) tb):PE X (.BoolOp .And (a::b::rest) pos) (cL ta tb):=by
 intro d s i H Q I h
 refine BoolOp_and (XD (j d s i H _ I h) λv n o=>?_)
 obtain⟨x,f,g,m,e⟩:=o
 obtain⟨c,rfl,e⟩:=e
 cases m
 refine jdX ?_
 cases c with
 |true=>exact l d n i f Q g e
 |false=>exact⟨.bl vh,f,g,rfl,e⟩
theorem jbi(j:PE X a ta)(l:PE X (.BoolOp .Or (b::rest) pos) tb):PE X (.BoolOp .Or (a::b::rest) pos) (jbA ta tb):=by
 intro d s i H Q I h
 refine BoolOp_or (XD (j d s i H _ I h) λv n o=>?_)
 obtain⟨x,f,g,m,e⟩:=o
 obtain⟨c,rfl,e⟩:=e
 cases m
 refine jdX ?_
 cases c with
 |false=>exact l d n i f Q g e
 |true=>exact⟨.bl qm,f,g,rfl,e⟩
theorem jad(g:PE X a ta):PE X (.UnaryOp .Not a pos) (cV ta):=by
 intro b s l H Q I h
 refine UnaryOp_ (XD (g b s l H _ I h) λv m j=>?_)
 obtain⟨x,e,f,i,d⟩:=j
 obtain⟨c,rfl,d⟩:=d
 cases i
 exact not_of (jdX ⟨.bl (!c),e,f,rfl,d⟩)
noncomputable def jcn (t:TT) (d e:TE):TE:=λa H Q=>t a H λc b=>if c=qm then d a b Q else e a b Q
theorem jz{c:Expr}(o:PT X c tA)(m:PE X a ta)(n:PE X b tb):PE X (.IfExp c a b pos) (jcn tA ta tb):=by
 intro e s f H Q I h
 refine wpAny_IfExp (XD (o e s f H _ I h) λd l p=>?_)
 obtain⟨g,i,j⟩:=p
 cases d with
 |true=>exact m e l f g Q i j
 |false=>exact n e l f g Q i j
end
noncomputable def Yy (K:oh) (H:Hp) (a:pA) (xs:List V):Prop:=
 Rd H a (.lst xs)\/
  ∃(o:Obj)(b:Array pL)(n:Nat),K.lookup a=nC o/\o.cls=.type "list"/\o.dict=su/\o.data=.seq b n/\b.size<=qd/\Vals xs b.toList
noncomputable def Su (K:oh) (H:Hp) (a:pA) (xs:List V):Prop:=
 Rd H a (.tup xs)\/
  ∃(o:Obj)(b:Array pL)(n:Nat),K.lookup a=nC o/\o.cls=.type "tuple"/\o.data=.seq b n/\b.size<=qd/\Vals xs b.toList
noncomputable def jbU:pL->Option V
 |.none=>nC .non
 |.bool b=>nC (.bl b)
 |.int i _=>nC (.int i)
 |.str x _=>nC (.str x)
 |.bytes b _=>nC (.byt b)
 |.float b _=>nC (.flt b)
 |.ref a=>nC (.ref a)
 |.type n=>nC (.ty n)
 |_=>su
theorem RelV.abs{x:V}{u:pL}(r:RelV x u):jbU u=nC x:=by
 cases x with
 |non=>cases r;rfl
 |bl _=>cases r;rfl
 |int _=>obtain⟨t,rfl⟩:=r;rfl
 |str _=>obtain⟨t,rfl⟩:=r;rfl
 |byt _=>obtain⟨t,rfl⟩:=r;rfl
 |flt _=>obtain⟨t,rfl⟩:=r;rfl
 |ref _=>cases r;rfl
 |ty _=>cases r;rfl
theorem RelV.inj{x y:V}{u:pL}(r:RelV x u)(q:RelV y u):x=y:=jc8 (r.abs.symm.trans q.abs)
theorem Vals.inj:∀{xs ys:List V}{us:List pL},Vals xs us->Vals ys us->xs=ys
 |_,_,_,.nil,.nil=>rfl
 |_,_,_,.cons r t,.cons r' t'=>by rw[r.inj r',Vals.inj t t']
section
variable{X:Cx}{pins:List (pA×Obj)}{σ:St}{H:Hp}{s:S6}{a:pA}{xs ys:List V}
theorem Yy.of{K:oh}(h:H a=nC (.lst xs)):Yy K H a xs:=.inl (.inl h)
theorem Su.of{K:oh}(h:H a=nC (.tup xs)):Su K H a xs:=.inl (.inl h)
theorem Inv.list(I:Inv X pins σ H s)(h:Yy X.K H a xs):∃b:List pL,Vals xs b/\PlainL s.heap a b.toArray/\xs.length<=qd:=by
 rcases h with h|⟨o,b,n,f,c,d,g,i,r⟩
 .obtain⟨z,b,n,r,e⟩:=h.ok I.hok
  exact⟨b,r,⟨_,n,e,rfl,rfl,rfl⟩,z⟩
 .refine⟨b.toList,r,⟨o,n,I.QR a o f,c,d,by simpa using g⟩,?_⟩
  have e:=r.length
  simp only[jgN]at e
  omega
theorem Inv.tuple(I:Inv X pins σ H s)(h:Su X.K H a xs):∃b:List pL,Vals xs b/\IsTup s.heap a b.toArray/\xs.length<=qd:=by
 rcases h with h|⟨o,b,n,d,c,f,g,r⟩
 .obtain⟨z,b,r,p⟩:=h.ok I.hok
  exact⟨b,r,p,z⟩
 .refine⟨b.toList,r,⟨o,I.QR a o d,c,n,by simpa using f⟩,?_⟩
  have e:=r.length
  simp only[jgN]at e
  omega
theorem Inv.Ib(I:Inv X pins σ H s)(h:Yy X.K H a xs)(h':Yy X.K H a ys):xs=ys:=by
 obtain⟨b,r,⟨o,n,e,_,_,d⟩,_⟩:=I.list h
 obtain⟨its',i,⟨l,j,f,_,_,c⟩,_⟩:=I.list h'
 rw[e]at f;cases f
 rw[d]at c
 injection c with g _
 have:b=its':=by simpa using congrArg Array.toList g
 subst this
 exact r.inj i
end
noncomputable abbrev Cx.wish (X:Cx) (E:pL->S6->Prop):Cx:={X with xe:=E}
noncomputable abbrev Cx.pZ (X:Cx):Cx:=X.wish λ_ _=>False
theorem Cx.Ok.wish{X:Cx}(ok:X.Ok)(E:pL->S6->Prop):(X.wish E).Ok:=
 ⟨ok.mod,ok.kind,ok.glob,ok.blt,ok.above,ok.inj,ok.has,ok.cab,ok.hd,ok.frames,ok.stk,ok.exf,ok.bs,ok.bsz,ok.noex,ok.exfs,ok.Mu,ok.frf⟩
theorem Cx.Ok.Ro{X:Cx}{E:pL->S6->Prop}(ok:(X.wish E).Ok):X.Ok:=
 ⟨ok.mod,ok.kind,ok.glob,ok.blt,ok.above,ok.inj,ok.has,ok.cab,ok.hd,ok.frames,ok.stk,ok.exf,ok.bs,ok.bsz,ok.noex,ok.exfs,ok.Mu,ok.frf⟩
section
variable{X:Cx}{pins:List (pA×Obj)}{σ:St}{H:Hp}{s:S6}{E:pL->S6->Prop}
theorem Inv.wish(I:Inv X pins σ H s)(E:pL->S6->Prop):Inv (X.wish E) pins σ H s:=⟨I.ok.wish E,I.os,I.bare,I.base,I.loc,I.cell,I.free,I.freeC,I.pin,I.hok,I.len⟩
theorem Inv.Ro(I:Inv (X.wish E) pins σ H s):Inv X pins σ H s:=⟨I.ok.Ro,I.os,I.bare,I.base,I.loc,I.cell,I.free,I.freeC,I.pin,I.hok,I.len⟩
theorem SP.Ro{D:Ends}{f:Flow}{s':S6}(h:SP (X.wish E) pins D f s'):SP X pins D f s':=by
 cases f with
 |next=>obtain⟨a,b,I,q⟩:=h;exact⟨a,b,I.Ro,q⟩
 |brk=>obtain⟨a,b,I,q⟩:=h;exact⟨a,b,I.Ro,q⟩
 |cont=>obtain⟨a,b,I,q⟩:=h;exact⟨a,b,I.Ro,q⟩
 |ret u=>obtain⟨v,a,b,I,r,q⟩:=h;exact⟨v,a,b,I.Ro,r,q⟩
theorem vQ.pZ{st:List jde}{t:TS}(h:vQ X.pZ st t):vQ X st t:=λa s b H D I hw=>
 jc1 (h a s b H D (I.wish _) hw) (λ_ _ q=>q.Ro) λ_ _ z=>jdi z
end
section
variable{X:Cx}{st:jde}{rest:List jde}{t u:TS}{e:Expr}{te:TE}{pos:Pos}
noncomputable def qp:TS:=λD a H=>D.nx a H
noncomputable def j9 (t u:TS):TS:=λD a H=>t {D with nx:=u D} a H
theorem eX:vQ X [] qp:=λ_ _ a H _ I h=>jeP ⟨a,H,I,h⟩
theorem jN(e:PS X st t)(g:vQ X rest u):vQ X (st::rest) (j9 t u):=by
 intro a s j H D I h
 refine jfJ (XD (e a s j H {D with nx:=u D} I h) λf i q=>?_)
 cases f with
 |next=>
  obtain⟨b,c,d,q⟩:=q
  exact g a i b c D d q
 |ret v=>exact q
 |brk=>exact q
 |cont=>exact q
theorem eY(b:PS X st t):vQ X [st] t:=by
 intro a s c H D I h
 refine jfJ (XD (b a s c H D I h) λf d q=>?_)
 cases f with
 |next=>exact jeP q
 |ret v=>exact q
 |brk=>exact q
 |cont=>exact q
theorem Inv.quiet{a:List (pA×Obj)}{b:St}{H:Hp}{s:S6}(I:Inv X a b H s):interactive X.env=vh:=by simp[interactive,I.ok.kind]
noncomputable def cP (c:TE):TS:=λD a H=>c a H λ_ b=>D.nx a b
theorem eN(f:PE X e te)(g:jgm e su pos.line X.env=pure vh:=by rfl):PS X (.Expr e pos) (cP te):=by
 intro a s b H D I h
 exact wpAny_Expr_any (XD (f a s b H _ I h) λv l⟨x,c,d,j,i⟩=>⟨b,c,d,i⟩) I.quiet g
noncomputable def jbB (a:TE):TS:=λD b H=>a b H D.rt
theorem jap(f:PE X e te):PS X (.Return (nC e) pos) (jbB te):=by
 intro a s b H D I h
 exact wpAny_Return_some (XD (f a s b H _ I h) λv j⟨x,c,d,i,g⟩=>⟨x,b,c,d,i,g⟩)
noncomputable def dF (c:TT) (t u:TS):TS:=λD a H=>c a H λb d=>if b=qm then t D a d else u D a d
theorem jbl{c:Expr}{a b:List jde}{m:TT}(p:PT X c m)(n:vQ X a t)(o:vQ X b u):PS X (.If c a b pos) (dF m t u):=by
 intro e s f H D I h
 refine wpAny_If (XD (p e s f H _ I h) λd l q=>?_)
 obtain⟨g,i,j⟩:=q
 cases d with
 |true=>exact n e l f g D i j
 |false=>exact o e l f g D i j
noncomputable def j7:TS:=λ_ _ _=>False
theorem jL:PS X st j7:=λ_ _ _ _ _ _ h=>h.elim
end
noncomputable abbrev TG:=V->St->Hp->(St->Hp->Prop)->Prop
noncomputable abbrev iK:=List V->St->Hp->(St->Hp->Prop)->Prop
noncomputable def PG (X:Cx) (a:Expr) (t:TG):Prop:=
 ∀(b:List (pA×Obj))(s:S6)(e:St)(H:Hp)(v:V)(u:pL)(Q:St->Hp->Prop),Inv X b e H s->RelV v u->t v e H Q->
  jcH (model X.prog X.w) X.A (assign a X.env u) (λ_ f=>∃c d,Inv X b c d f/\Q c d) X.xe s
noncomputable def jaO (X:Cx) (ts:List Expr) (t:iK):Prop:=
 ∀(a:List (pA×Obj))(s:S6)(f:St)(H:Hp)(e:List V)(d:List pL)(Q:St->Hp->Prop),Inv X a f H s->Vals e d->t e f H Q->
  jcH (model X.prog X.w) X.A (assignInOrder ((je2 ts X.env).map (·.2)) d) (λ_ g=>∃b c,Inv X a b c g/\Q b c) X.xe s
section
variable{X:Cx}{pos:Pos}
noncomputable def Xz (i:Nat):TG:=λv a H Q=>Q (a.set i (nC v)) H
theorem fW{i:Nat}{x:Str}(c:X.N.Nodup)(e:X.N[i]?=nC x)(f:Loc X.env.scope x)(d:X.fn x=qm\/X.env.scope.names.lookup x=nC .local:=by first|exact .inl rfl|exact .inr rfl|assumption):PG X (.Name x pos) (Xz i):=by
 intro a s j H v u Q I r h
 exact wpAny_assign_Name (Bh I c e f r (λg b=>⟨_,H,b,h⟩) d)
noncomputable def gA:iK:=λa b H Q=>a=[]/\Q b H
noncomputable def Ao (t:TG) (u:iK):iK:=λc d H Q=>∃v r,c=v::r/\t v d H λa b=>u r a b Q
theorem fX:jaO X [] gA:=by
 intro a s b H d c Q I r h
 obtain⟨e,h⟩:=h
 subst e
 cases r
 exact assignInOrder_nil ⟨b,H,I,h⟩
theorem jG{e:Expr}{b:List Expr}{t:TG}{u:iK}(i:PG X e t)(j:jaO X b u)
 (l:(je2 (e::b) X.env).map (·.2)=assign e X.env::(je2 b X.env).map (·.2):=by rfl):jaO X (e::b) (Ao t u):=by
 intro a s q H y w Q I r h
 obtain⟨v,x,g,h⟩:=h
 subst g
 cases r with
 |cons r n=>
  rw[l]
  refine assignInOrder_cons (XD (i a s q H _ _ _ I r h) λ_ o p=>?_)
  obtain⟨c,d,f,m⟩:=p
  exact j a o c d _ _ Q f n m
noncomputable def gC (K:oh) (n:Nat) (t:iK):TG:=λv c H Q=>∃a b,v=.ref a/\Su K H a b/\b.length=n/\t b c H Q
theorem jaj{d:List Expr}{k:Nat}{t:iK}{n:Nat}(p:X.calm=qm)(h:jaO X d t)
 (hn:(je2 d X.env).length=n:=by rfl)(f:(je2 d X.env).findIdx? (·.1)=su:=by rfl):PG X (.Tuple d k pos) (gC X.K n t):=by
 intro c s i H v u Q I r hw
 obtain⟨a,A,l,w,q,hw⟩:=hw
 subst l
 cases r
 obtain⟨z,g,x,B⟩:=I.tuple w
 refine assign_Tuple_tuple (I.ok.hd p) x (by simp[hn,<-q,g.length]) f λm y=>?_
 have j:Inv X c i H {s with heap:=m}:=I.kept (t':=s.toks) λb o e=>y b o (jcO (jbH e)) e
 exact h c _ i H A _ Q j (by simpa using g) hw
noncomputable def o8 (c:TE) (g:TG):TS:=λD a H=>c a H λx b=>g x a b D.nx
theorem jam{b e:Expr}{c:TE}{g:TG}(l:PE X e c)(m:PG X b g)(n:swapsWithSole [b] e pos.line X.env=pure vh:=by rfl)(hw:swappedStores [b] e X.env=pure su:=by rfl)
 (j:(je2 [b] X.env).map (·.2)=[assign b X.env]:=by rfl):PS X (.Assign [b] e pos) (o8 c g):=by
 intro a s d H D I h
 refine wpAny_Assign_stores (XD (l a s d H _ I h) λv r t=>?_) n hw
 obtain⟨x,f,i,p,o⟩:=t
 rw[j]
 exact XD (m a r d f x v _ i p o) λ_ u q=>q
theorem jaq{i:Nat}{x:Str}{e:Expr}{c:TE}{a:Pos}(j:X.N.Nodup)(n:X.N[i]?=nC x)(p:Loc X.env.scope x)(l:PE X e c)(o:jgm e (nC (.Name x a)) pos.line X.env=pure vh:=by rfl)(m:X.fn x=qm\/X.env.scope.names.lookup x=nC .local:=by first|exact .inl rfl|exact .inr rfl|assumption):
 PS X (.Assign [.Name x a] e pos) (o8 c (Xz i)):=by
 intro b s u H D I h
 refine wpAny_Assign_Name (XD (l b s u H _ I h) λv w t=>?_) o
 obtain⟨y,d,f,r,q⟩:=t
 exact Bh f j n p r (λz g=>⟨_,d,g,q⟩) m
end
section
variable{X:Cx}{pos:Pos}
noncomputable def ig (c:TT) (h:TS):TS:=λD a H=>∃W:Nat->St->Hp->Prop,(∃m,W m a H)/\∀m a H,W m a H->
 c a H λb f=>if b=qm then∃N:St->Hp->Prop,(∀d e,N d e->∃g,g<m/\W g d e)/\h {D with nx:=N,ct:=N,bk:=D.nx} a f else D.nx a f
theorem jM{c:Expr}{g:List jde}{F:TT}{E:TS}(C:jip (model X.prog X.w) X.A X.env X.xe)(K:PT X c F)(J:vQ X g E):PS X (.While c g [] pos) (ig F E):=by
 intro a s T H D I h
 obtain⟨W,⟨L,Q⟩,j⟩:=h
 refine wpAny_While (codeAny_whileLoop (λn M=>∃l u,Inv X a l u M/\W n l u) ?_ L ⟨T,H,I,Q⟩)
 rintro n O ⟨e,x,G,R⟩
 refine jeQ C (XD (K a O e x _ G (j n e x R)) λb P S=>?_)
 obtain⟨y,z,m⟩:=S
 cases b with
 |true=>
  obtain⟨N,B,m⟩:=m
  rw[if_pos rfl]
  refine jeQ C (XD (J a P e y _ z m) λf U o=>?_)
  cases f with
  |next=>
   obtain⟨d,i,p,t⟩:=o
   obtain⟨r,q,w3⟩:=B d i t
   exact⟨r,q,d,i,p,w3⟩
  |cont=>
   obtain⟨d,i,p,t⟩:=o
   obtain⟨r,q,w3⟩:=B d i t
   exact⟨r,q,d,i,p,w3⟩
  |brk=>exact o
  |ret v=>exact o
 |false=>
  rw[if_neg jbJ]
  exact jeP ⟨e,y,z,m⟩
end
structure It where
 go:Nat->Hp->Prop
 yld:Nat->Hp->V->Hp->Prop
 stop:Nat->Hp->Prop
noncomputable def G9 (X:Cx) (a:List (pA×Obj)) (H:Hp) (b:pA):Prop:=
 H b=su/\b≠X.env.locals/\b∉X.fs/\(b∈X.ex\/X.s₀.heap.objs.size<=b)/\(∀x c,X.env.cells.lookup x=nC c->c≠b)/\∀p∈X.pn++a,p.1≠b
theorem Inv.pI{X:Cx}{a:List (pA×Obj)}{g:St}{H H':Hp}{s:S6}{b:pA}(I:Inv X a g H s)(d:s.heap.objs.size<=b)(hn:H' b=su):G9 X a H' b:=by
 refine⟨hn,jeA (jcW I.lt d),I.jb3 d,.inr (jc9 I.sz d),λx c e z=>?_,λp f z=>?_⟩
 .obtain⟨v,q⟩:=I.cell x c e
  exact absurd (jcW q.lt (by rw[z];exact d)) (jef _)
 .exact absurd (jcW (jbH (I.pin p f).1) (by rw[z];exact d)) (jef _)
structure Turn(P:jcz)(w:jcS)(K:oh)(tg:Expr)(J:It)(fp:List pA)(it:pA)(tn:Nat->jcX->Prop):Prop where
 mem:it∈fp
 obj:∀i h,tn i h->∀b∈fp,∃o,h.get? b=nC o/\∀v,o.data≠.cell v
 keep:∀i h h',tn i h->(∀b∈fp,∀o,h.get? b=nC o->h'.get? b=nC o)->tn i h'
 item:∀(X:Cx),X.prog=P->X.w=w->X.K=K->X.calm=qm->∀(i:Nat)(pins:List (pA×Obj))(s:S6)(σ:St)(H:Hp)(E:pL->S6->Prop),Inv X pins σ H s->(∀b∈fp,G9 X pins H b)->tn i s.heap->J.go i H->
  jcH (model P w) X.A (jju (.ref it)) (λr s1=>∃u,r=nC u/\
   jcH (model P w) X.A (jgF tg (.ref it) u) (λ_ s2=>∃x H',Inv X pins σ H' s2/\RelV x u/\J.yld i H x H'/\tn (i+1) s2.heap/\∀b∈fp,H' b=su) E s1) E s
 done:∀(X:Cx),X.prog=P->X.w=w->X.K=K->X.calm=qm->∀(i:Nat)(pins:List (pA×Obj))(s:S6)(σ:St)(H:Hp)(E:pL->S6->Prop),Inv X pins σ H s->(∀b∈fp,G9 X pins H b)->tn i s.heap->J.stop i H->
  jcH (model P w) X.A (jju (.ref it)) (λr s1=>r=su/\Inv X pins σ H s1) E s
 self:∀(A:jdc)(i:Nat)(s:S6)(Q:pL->S6->Prop)(E:pL->S6->Prop),tn i s.heap->Q (.ref it) s->jcH (model P w) A (pyIter (.ref it)) Q E s
noncomputable abbrev TI:=St->Hp->(It->Hp->Prop)->Prop
noncomputable def PIE (X:Cx) (a:List (pA×Obj)) (j:St) (i:Expr) (R:It->Hp->Prop) (d:pL) (g:S6):Prop:=
 ∃(f:pA)(e:List pA)(h:Nat->jcX->Prop)(J:It)(c:Hp),d=.ref f/\Inv X a j c g/\Turn X.prog X.w X.K i J e f h/\h 0 g.heap/\(∀b∈e,G9 X a c b)/\R J c
noncomputable def PI (X:Cx) (e b:Expr) (f:TI):Prop:=
 ∀(a:List (pA×Obj))(s:S6)(c:St)(H:Hp)(R:It->Hp->Prop),Inv X a c H s->f c H R->
  jcH (model X.prog X.w) X.A (eval b X.env) (λv d=>jcH (model X.prog X.w) X.A (pyIter v) (PIE X a c e R) X.xe d) X.xe s
theorem lN{M:jiU}{A:jdc}{E:pL->S6->Prop}{s:S6}{b:Expr}{it:pA}{u:pL}{o:Obj}{n:String}{vs:Array pL}{Q:Unit->S6->Prop}(e:s.heap.get? it=nC o)(c:o.cls=.type n)(d:o.data=.fields vs)
 (hn:["enumerate","zip","dict_itemiterator","dict_reverseitemiterator","odict_iterator","itertools.zip_longest","itertools.pairwise"].contains n=vh)(a:Q () s):jcH M A (jgF b (.ref it) u) Q E s:=by
 unfold jgF
 cases b<;>first
  |exact jcC a
  |(cases u<;>first
     |exact jcC a
     |(refine xT (wpAny_load e ?_)
       rw[c,d]
       show jcH M A (if(["enumerate","zip","dict_itemiterator","dict_reverseitemiterator","odict_iterator","itertools.zip_longest","itertools.pairwise"].contains n&&vs[0]?==nC (jgG _))=qm then _ else _) Q E s
       rw[if_neg (by intro h;rw[hn,jeI]at h;cases h)]
       exact jcC a))
noncomputable def bu (K:oh) (a:pA):It:=
 ⟨λi H=>∃b x,Yy K H a b/\b[i]?=nC x,λi H x c=>c=H/\∀b,Yy K H a b->b[i]?=nC x,λi H=>∃b,Yy K H a b/\b.length<=i⟩
noncomputable def dR (lo:Int) (n:Nat):It:=⟨λi _=>i<n,λi H x a=>a=H/\x=.int (lo+i),λi _=>n<=i⟩
theorem nu{P:jcz}{w:jcS}{K:oh}{tg:Expr}(a it:pA):Turn P w K tg (bu K a) [it] it (λi h=>h.IsListIter it a i)where
 mem:=by simp
 obj:=λi h f b j=>by
  have e:b=it:=by simpa using j
  subst e
  obtain⟨o,e,c,d⟩:=f
  exact⟨o,e,λv z=>by rw[d]at z;cases z⟩
 keep:=λi h m f k=>f.at λo e=>k it (by simp) o e
 item:=by
  intro X D hw C M i g s N H E I n f F
  subst D hw C
  obtain⟨xs,x,q,G⟩:=F
  obtain⟨J,L,p,U⟩:=I.list q
  obtain⟨u,S,Y⟩:=L.get G
  obtain⟨r,t,R,y,A,B⟩:=n it (by simp)
  refine wpAny_pyNext_list_item f p.isList (x:=u) (by simpa using S) λm l Z=>?_
  have O:Inv X g N H {s with heap:=m}:=I.turned (t':=s.toks) (λb o j e=>(Z.2 b j).trans e) r t y A B
  obtain⟨o,e,c,d⟩:=id l
  exact⟨u,rfl,lN (s:={s with heap:=m}) e c d (by decide) ⟨x,H,O,Y,⟨rfl,λys T=>by rw[I.Ib T q];exact G⟩,l,λb j=>(n b j).1⟩⟩
 done:=by
  intro X D hw C M i g s N H E I n f F
  subst D hw C
  obtain⟨xs,q,G⟩:=F
  obtain⟨J,L,p,U⟩:=I.list q
  obtain⟨r,t,R,y,A,B⟩:=n it (by simp)
  have hl:=L.length
  exact wpAny_pyNext_list_end (I.ok.hd M) f p.isList (by simp;omega) λm Q=>⟨rfl,I.turned (t':=s.toks) (λb o j e=>Q b o j e) r t y A B⟩
 self:=λ_ _ _ _ _ f h=>wpAny_pyIter_listiter f h
theorem tR{P:jcz}{w:jcS}{K:oh}{M:Expr}(it:pA)(lo:Int)(n:Nat):Turn P w K M (dR lo n) [it] it (λi h=>IsRangeIter h it (lo+(i:Nat)*1) ((n:Int)-(i:Nat)) 1)where
 mem:=by simp
 obj:=λi h a b d=>by
  have e:b=it:=by simpa using d
  subst e
  exact⟨_,a,λv z=>by
   have N:jjm _=Data.cell v:=z
   cases N⟩
 keep:=λi h g a k=>k it (by simp) _ a
 item:=by
  intro X x hw u y i c s C H E I j a A
  subst x hw u
  obtain⟨l,m,G,p,q,r⟩:=j it (by simp)
  have W:=Walks.range (prog:=X.prog) (w:=X.w) (I.ok.hd y) it lo 1 n
  refine W.item i s _ _ A a λv g B J f L=>?_
  obtain⟨t,rfl⟩:=J
  have D:Inv X c C H {s with heap:=g,toks:=B}:=I.turned (λb o d e=>L b o (by simpa using d) e) l m p q r
  refine⟨_,rfl,lN (s:={s with heap:=g,toks:=B}) (n:="range_iterator") f rfl rfl (by decide) ⟨.int (lo+i),H,D,⟨t,?_⟩,⟨rfl,rfl⟩,f,λb d=>(j b d).1⟩⟩
  rw[Int.mul_one]
 done:=by
  intro X x hw u y i c s C H E I j a A
  subst x hw u
  obtain⟨l,m,G,p,q,r⟩:=j it (by simp)
  exact wpAny_pyNext_range_end (I.ok.hd y) a (by have:n<=i:=A;omega) λg F=>⟨rfl,I.turned (t':=s.toks) (λb o d e=>F b o d e) l m p q r⟩
 self:=λ_ _ _ _ _ a h=>wpAny_pyIter_rangeiter a h
section
variable{X:Cx}{tg:Expr}
noncomputable def dZ (K:oh) (c:TE):TI:=λe H R=>c e H λx b=>∃a,x=.ref a/\(∃d,Yy K b a d)/\R (bu K a) b
theorem fZ{l:Expr}{g:TE}(m:PE X l g):PI X tg l (dZ X.K g):=by
 intro c s y H R I h
 refine XD (m c s y H _ I h) λv f w=>?_
 obtain⟨x,i,d,u,t⟩:=w
 obtain⟨a,e,⟨B,n⟩,q⟩:=t
 subst e
 cases u
 obtain⟨r,A,p,z⟩:=d.list n
 refine jf7 p.isList ?_
 refine⟨f.heap.objs.size,[f.heap.objs.size],_,_,i,rfl,d.kept (t':=f.toks) λb o e=>U4 _ e,nu a _,⟨_,jcK _ rfl,rfl,rfl⟩,λb j=>?_,q⟩
 have e:b=f.heap.objs.size:=by simpa using j
 subst e
 exact d.pI (U6 _) (d.hok.fresh (U6 _))
theorem jT{c:List (pA×Obj)}{g:St}{H:Hp}{s:S6}{R:It->Hp->Prop}{E:pL->S6->Prop}{lo a:Int}{t u v:Tok}{f:Nat}(I:Inv X c g H s)(j:-(2^62)<=lo)(l:lo<2^62)(m:-(2^62)<=a)(n:a<2^62)
 (q:R (dR lo (a-lo).toNat) H):jcH (model X.prog X.w) X.A (pyIter (.ref s.heap.objs.size)) (PIE X c g tg R) E {s with heap:=s.heap.push {cls:=.type "range",data:=.fields #[.int lo t,.int a u,.int 1 v]},toks:=f}:=by
 refine wpAny_pyIter_range (IsRange.new ..) (small_one j l m n) ?_
 have d:Inv X c g H {s with heap:=s.heap.push {cls:=.type "range",data:=.fields #[.int lo t,.int a u,.int 1 v]},toks:=f}:=I.kept λb o e=>U4 _ e
 refine⟨(s.heap.push {cls:=.type "range",data:=.fields #[.int lo t,.int a u,.int 1 v]}).objs.size,[(s.heap.push {cls:=.type "range",data:=.fields #[.int lo t,.int a u,.int 1 v]}).objs.size],_,_,H,rfl,
  d.kept (t':=f) λb o e=>U4 _ e,tR _ lo (a-lo).toNat,?_,λb p=>?_,q⟩
 .have h:lo+((0:Nat):Int)*1=lo:=by simp
  have i:(((a-lo).toNat:Nat):Int)-((0:Nat):Int)=Builtin.Range.rangeSize lo a 1:=by rw[rangeSize_one];split<;>omega
  show IsRangeIter _ _ (lo+((0:Nat):Int)*1) ((((a-lo).toNat:Nat):Int)-((0:Nat):Int)) 1
  rw[h,i]
  exact jcK _ rfl
 .have e:b=(s.heap.push {cls:=.type "range",data:=.fields #[.int lo t,.int a u,.int 1 v]}).objs.size:=by simpa using p
  subst e
  exact d.pI (U6 _) (d.hok.fresh (U6 _))
noncomputable def cg (b:TA):TI:=λd H R=>b d H λc a=>∃j:Int,c=[.int j]/\-(2^62)<=j/\j<2^62/\R (dR 0 j.toNat) a
theorem oR{a:Expr}{d:TA}{p pos:Pos}(i:Gl X "range")(l:X.mg "range"=su)(g:PA X [a] d)(m:jc0 [a] X.env=[(vh,eval a X.env)]:=by rfl):PI X tg (.Call (.Name "range" p) [a] [] pos) (cg d):=by
 intro b s w H R I h
 refine Call_ (Pr I i l boot_range (jdH (XD (g pos b s w H _ I h) λz y v=>?_) m rfl))
 obtain⟨A,x,f,o,c⟩:=v
 obtain⟨j,e,c,n,q⟩:=c
 subst e
 cases o with
 |cons r u=>
  cases u
  obtain⟨t,rfl⟩:=r
  exact call_range_1 (jT f (by omega) (by omega) c n (by simpa using q))
noncomputable def jbx (l:TI) (g:TG) (j:TS):TS:=λD a H=>l a H λJ f=>∃W:Nat->Nat->St->Hp->Prop,(∃m,W 0 m a f)/\∀i m a H,W i m a H->
 (J.stop i H/\D.nx a H)\/(J.go i H/\∃N:St->Hp->Prop,(∀c b,N c b->∃e,e<m/\W (i+1) e c b)/\∀x b,J.yld i H x b->g x a b λd h=>j {D with nx:=N,ct:=N,bk:=D.nx} d h)
noncomputable def Gh (a:List pA) (h:jcX):List (pA×Obj):=a.filterMap λb=>(h.get? b).map λo=>(b,o)
theorem Ra{a:List pA}{h:jcX}{b:pA}{o:Obj}(c:b∈a)(e:h.get? b=nC o):(b,o)∈Gh a h:=jeJ.mpr ⟨b,c,by rw[e];rfl⟩
theorem p7{a:List pA}{h:jcX}{p:pA×Obj}(f:p∈Gh a h):p.1∈a/\h.get? p.1=nC p.2:=by
 obtain⟨b,d,e⟩:=jeJ.mp f
 cases q:h.get? b with
 |none=>rw[q]at e;cases e
 |some o=>
  rw[q]at e
  have c:(b,o)=p:=jc8 e
  subst c
  exact⟨d,q⟩
theorem Inv.pinned{a:List (pA×Obj)}{h:St}{H:Hp}{s:S6}{c:List pA}(I:Inv X a h H s)(m:∀b∈c,G9 X a H b)(n:∀b∈c,∃o,s.heap.get? b=nC o/\∀v,o.data≠.cell v):Inv X (a++Gh c s.heap) h H s:=
 I.rQ λp q=>(jdo.mp q).elim (λz=>I.pin p (jcZ _ z)) λz=>by
  obtain⟨g,e⟩:=p7 z
  obtain⟨i,j,l,_⟩:=m p.1 g
  obtain⟨o,f,d⟩:=n p.1 g
  rw[e]at f;cases f
  exact⟨e,i,j,l,d⟩
theorem Inv.Kd{a pl:List (pA×Obj)}{b:St}{H:Hp}{s:S6}(I:Inv X (a++pl) b H s):Inv X a b H s:=I.rQ λp c=>I.pin p (jcZ _ (jfA _ c))
theorem jao{t:Expr}{C:List jde}{wi:TI}{g:TG}{tb:TS}{pos:Pos}(M:jip (model X.prog X.w) X.A X.env X.xe)(hc:X.calm=qm)(hi:PI X tg t wi)(hg:PG X tg g)(q:vQ X C tb)
 (hs:∀x,jdY t X.env x=pure x:=by intro _;rfl):PS X (.For tg t C [] pos) (jbx wi g tb):=by
 intro a s σ H D I h
 refine wpAny_For (XD (hi a s σ H _ I h) λv s1 h1=>XD h1 λac s2 h2=>?_) hs
 obtain⟨it,K,tn,J,H2,e,I2,T,aa,f2,W,⟨m0,w0⟩,R⟩:=h2
 subst e
 have y:∀{H':Hp},(∀b∈K,H' b=su)->∀b∈K,G9 X a H' b:=λhn b q=>⟨hn b q,(f2 b q).2⟩
 refine codeAny_forLoop_any (λn s'=>∃i z H',Inv X a z H' s'/\tn i s'.heap/\(∀b∈K,H' b=su)/\W i n z H') ?_ m0 ⟨0,σ,H2,I2,aa,λb q=>(f2 b q).1,w0⟩
 rintro n s3 ⟨i,B,S,I3,P,L,w3⟩
 rcases R i n B S w3 with⟨Q,qn⟩|⟨go,N,hN,step⟩
 .refine jeQ M (XD (T.done X rfl rfl rfl hc i a s3 B S X.xe I3 (y L) P Q) λr s4 G=>?_)
  obtain⟨Z,I4⟩:=G
  subst Z
  exact jeP ⟨B,S,I4,qn⟩
 .refine jeQ M (XD (T.item X rfl rfl rfl hc i a s3 B S X.xe I3 (y L) P go) λr s4 G=>?_)
  obtain⟨u,Z,h4⟩:=G
  subst Z
  refine jeQ M (XD h4 λ_ s5 G=>?_)
  obtain⟨x,H5,I5,r5,y5,F,Y⟩:=G
  have U:=I5.pinned (y Y) (T.obj _ _ F)
  refine jeQ M (XD (hg _ s5 B H5 x u _ U r5 (step x H5 y5)) λ_ s6 G=>?_)
  obtain⟨ab,H6,I6,q6⟩:=G
  refine jeQ M (XD (q _ s6 ab H6 _ I6 q6) λf s7 E=>?_)
  have p:∀{c:St}{j:Hp},Inv X (a++Gh K s5.heap) c j s7->N c j->∃m,m<n/\∃i z H',Inv X a z H' s7/\tn i s7.heap/\(∀b∈K,H' b=su)/\W i m z H':=λ{c j}l O=>by
   obtain⟨m',hm,w7⟩:=hN c j O
   refine⟨m',hm,i+1,c,j,l.Kd,T.keep _ _ _ F λb q o e=>(l.pin (b,o) (jcZ _ (jcZ _ (Ra q e)))).1,λb q=>?_,w7⟩
   obtain⟨o,e,d⟩:=T.obj _ _ F b q
   exact(l.pin (b,o) (jcZ _ (jcZ _ (Ra q e)))).2.1
  cases f with
  |next=>obtain⟨c,j,l,O⟩:=E;exact p l O
  |cont=>obtain⟨c,j,l,O⟩:=E;exact p l O
  |brk=>obtain⟨c,j,l,E⟩:=E;exact⟨c,j,l.Kd,E⟩
  |ret v=>obtain⟨x7,c,j,l,r7,E⟩:=E;exact⟨x7,c,j,l.Kd,r7,E⟩
end
theorem J6{K:oh}{a:pA}{xs:List V}{g:TG}{n:TS}{D:Ends}{b:St}{H:Hp}(c:Nat->St->Hp->Prop)(h0:c 0 b H)(t:∀i b H,i<=xs.length->c i b H->Yy K H a xs)
 (u:∀i x b H,xs[i]?=nC x->c i b H->g x b H λf j=>n {D with nx:=c (i+1),ct:=c (i+1),bk:=D.nx} f j)(o:∀b H,c xs.length b H->D.nx b H):
 ∃W:Nat->Nat->St->Hp->Prop,(∃m,W 0 m b H)/\∀i m b H,W i m b H->
  ((bu K a).stop i H/\D.nx b H)\/((bu K a).go i H/\∃N:St->Hp->Prop,(∀d H',N d H'->∃l,l<m/\W (i+1) l d H')/\∀x H',(bu K a).yld i H x H'->g x b H' λf j=>n {D with nx:=N,ct:=N,bk:=D.nx} f j):=by
 refine⟨λi m b H=>m=xs.length-i/\i<=xs.length/\c i b H,⟨xs.length,by simp,jcY _,h0⟩,?_⟩
 rintro i m b H ⟨rfl,r,p⟩
 have q:=t i b H r p
 by_cases h:i<xs.length
 .refine .inr ⟨⟨xs,xs[i],q,by simp[h]⟩,c (i+1),λd H' v=>⟨xs.length-(i+1),by omega,rfl,h,v⟩,λx H' y=>?_⟩
  obtain⟨e,y⟩:=y
  subst e
  exact u i x b _ (y xs q) p
 .have e:i=xs.length:=by omega
  subst e
  exact .inl ⟨⟨xs,q,U6 _⟩,o b H p⟩
theorem Kp{lo:Int}{n:Nat}{g:TG}{l:TS}{D:Ends}{a:St}{H:Hp}(b:Nat->St->Hp->Prop)(h0:b 0 a H)
 (q:∀i a H,i<n->b i a H->g (.int (lo+i)) a H λf h=>l {D with nx:=b (i+1),ct:=b (i+1),bk:=D.nx} f h)(o:∀a H,b n a H->D.nx a H):
 ∃W:Nat->Nat->St->Hp->Prop,(∃m,W 0 m a H)/\∀i m a H,W i m a H->
  ((dR lo n).stop i H/\D.nx a H)\/((dR lo n).go i H/\∃N:St->Hp->Prop,(∀d H',N d H'->∃j,j<m/\W (i+1) j d H')/\∀x H',(dR lo n).yld i H x H'->g x a H' λf h=>l {D with nx:=N,ct:=N,bk:=D.nx} f h):=by
 refine⟨λi m a H=>m=n-i/\i<=n/\b i a H,⟨n,by simp,jcY _,h0⟩,?_⟩
 rintro i m a H ⟨rfl,t,p⟩
 by_cases c:i<n
 .refine .inr ⟨c,b (i+1),λd H' r=>⟨n-(i+1),by omega,rfl,c,r⟩,λx H' y=>?_⟩
  obtain⟨e,y⟩:=y
  subst e y
  exact q i a _ c p
 .have e:i=n:=by omega
  subst e
  exact .inl ⟨U6 _,o a H p⟩
noncomputable abbrev R2:=V->V->Hp->VK->Prop
noncomputable def SJ (X:Cx) (f:pL->pL->Sem pL) (r:R2):Prop:=
 ∀(a:List (pA×Obj))(s:S6)(b:St)(H:Hp)(x y:V)(v u:pL)(Q:VK),Inv X a b H s->RelV x v->RelV y u->r x y H Q->
  jcH (model X.prog X.w) X.A (f v u) (EP X a b Q) X.xe s
noncomputable def jbM (X:Cx) (f:pL->Sem pL) (r:V->Hp->VK->Prop):Prop:=
 ∀(a:List (pA×Obj))(s:S6)(b:St)(H:Hp)(x:V)(v:pL)(Q:VK),Inv X a b H s->RelV x v->r x H Q->
  jcH (model X.prog X.w) X.A (f v) (EP X a b Q) X.xe s
noncomputable def Tw (X:Cx) (f:pL) (r:List V->Hp->VK->Prop):Prop:=
 ∀(a:List (pA×Obj))(s:S6)(d:St)(H:Hp)(c:List V)(b:List pL)(Q:VK),Inv X a d H s->Vals c b->r c H Q->
  jcH (model X.prog X.w) X.A (call f b) (EP X a d Q) X.xe s
noncomputable def cW (r:R2) (d e:TE):TE:=λa H Q=>d a H λx b=>e a b λy c=>r x y c Q
noncomputable def jcq (r:V->Hp->VK->Prop) (b:TE):TE:=λc H Q=>b c H λx a=>r x a Q
noncomputable def rI (C:Int->Int->Prop) (g:Int->Int->V):R2:=λx y H Q=>∃i j,x=.int i/\y=.int j/\C i j/\Q (g i j) H
noncomputable def iR (g:Int->Int->V):R2:=λx y H Q=>∃i j,x=.int i/\y=.int j/\Q (g i j) H
noncomputable def rU (g:Int->V):V->Hp->VK->Prop:=λx H Q=>∃i,x=.int i/\Q (g i) H
section
variable{X:Cx}{a b c:Expr}{ta tb tc:TE}{pos:Pos}
theorem bF(p:PE X a ta)(q:PE X b tb){c:List (pA×Obj)}{s:S6}{e:St}{H:Hp}{R:V->V->Hp->Prop}(I:Inv X c e H s)
 (h:ta e H λx l=>tb e l λy d=>R x y d){Q:pL->S6->Prop}{f:pL->pL->Sem pL}
 (r:∀v u j x y d,Inv X c e d j->RelV x v->RelV y u->R x y d->jcH (model X.prog X.w) X.A (f v u) Q X.xe j):
 jcH (model X.prog X.w) X.A (eval a X.env) (λv g=>jcH (model X.prog X.w) X.A (eval b X.env) (λu i=>jcH (model X.prog X.w) X.A (f v u) Q X.xe i) X.xe g) X.xe s:=by
 refine XD (p c s e H _ I h) λv D m=>?_
 obtain⟨x,l,n,B,t⟩:=m
 refine XD (q c D e l _ n t) λu j m=>?_
 obtain⟨y,d,o,C,z⟩:=m
 exact r v u j x y d o B C z
theorem jbh{d:Operator}{r:R2}(j:SJ X (jd9 d) r)(g:PE X a ta)(i:PE X b tb):PE X (.BinOp a d b pos) (cW r ta tb):=by
 intro c s o H Q I h
 exact wpAny_BinOp (bF g i I h λv u n x y e f l m q=>j c n o e x y v u Q f l m q)
theorem jbj{c:UnaryOp}{r:V->Hp->VK->Prop}(i:jbM X (unaryOp c) r)(g:PE X a ta):PE X (.UnaryOp c a pos) (jcq r ta):=by
 intro b s d H Q I h
 exact UnaryOp_ (XD (g b s d H _ I h) λv m⟨x,e,f,l,j⟩=>i b m d e x v Q f l j)
theorem jaI{f:pL->pL->Sem pL}{C:Int->Int->Prop}{g:Int->Int->Int}
 (a:∀(i j:Int)(t u:Tok)(s:S6)(Q:pL->S6->Prop)(E:pL->S6->Prop),C i j->Q (.int (g i j) s.toks) {s with toks:=s.toks+1}->jcH (model X.prog X.w) X.A (f (.int i t) (.int j u)) Q E s):
 SJ X f (rI C λi j=>.int (g i j)):=by
 intro b s m H x y v u Q I d e h
 obtain⟨i,j,rfl,rfl,c,q⟩:=h
 obtain⟨t,rfl⟩:=d
 obtain⟨l,rfl⟩:=e
 exact a i j t l s _ _ c ⟨.int (g i j),H,I.tok _,⟨_,rfl⟩,q⟩
theorem gZ{f:pL->pL->Sem pL}{g:Int->Int->Int}
 (a:∀(i j:Int)(t u:Tok)(s:S6)(Q:pL->S6->Prop)(E:pL->S6->Prop),Q (.int (g i j) s.toks) {s with toks:=s.toks+1}->jcH (model X.prog X.w) X.A (f (.int i t) (.int j u)) Q E s):
 SJ X f (iR λi j=>.int (g i j)):=by
 intro b s l H x y v u Q I c d h
 obtain⟨i,j,rfl,rfl,q⟩:=h
 obtain⟨t,rfl⟩:=c
 obtain⟨e,rfl⟩:=d
 exact a i j t e s _ _ ⟨.int (g i j),H,I.tok _,⟨_,rfl⟩,q⟩
theorem aK{f:pL->pL->Sem pL}{g:Int->Int->Bool}
 (a:∀(i j:Int)(t u:Tok)(s:S6)(Q:pL->S6->Prop)(E:pL->S6->Prop),Q (.bool (g i j)) s->jcH (model X.prog X.w) X.A (f (.int i t) (.int j u)) Q E s):
 SJ X f (iR λi j=>.bl (g i j)):=by
 intro b s l H x y v u Q I c d h
 obtain⟨i,j,rfl,rfl,q⟩:=h
 obtain⟨t,rfl⟩:=c
 obtain⟨e,rfl⟩:=d
 exact a i j t e s _ _ ⟨.bl (g i j),H,I,rfl,q⟩
noncomputable def jaJ (i j:Int):Prop:=0<j/\j<1073741824
noncomputable def jaK (i j:Int):Prop:=0<=j/\j<=1000000/\i.natAbs<2^64
theorem tU(k:Nat):(0:Int)<=2^k:=by
 rw[two_pow_cast]
 exact jiH _
theorem Yh:SJ X (jd9 .Add) (iR λi j=>.int (i+j)):=gZ λ_ _ _ _ _ _ _ q=>add_int q
theorem DY:SJ X (jd9 .Sub) (iR λi j=>.int (i-j)):=gZ λ_ _ _ _ _ _ _ q=>sub_int q
theorem Va:SJ X (jd9 .FloorDiv) (rI jaJ λi j=>.int (i/j)):=jaI λi j _ _ _ _ _ a q=>by
 have b:(0:Int)<j:=a.1
 have c:j<1073741824:=a.2
 exact floordiv_int (by omega) (by rw[jfB i (by omega)];exact q) (.inl (jhJ (by omega)))
theorem YZ:SJ X (jd9 .Mod) (rI (λ_ j=>0<j) λi j=>.int (i %j)):=jaI λi j _ _ _ _ _ a q=>by
 have b:(0:Int)<j:=a
 exact mod_int' (by omega) (by rw[jg0 i (by omega)];exact q)
theorem Gf:SJ X (jd9 .Pow) (rI jaK λi j=>.int (i^j.toNat)):=jaI λ_ _ _ _ _ _ _ a q=>pow_int_small a.1 a.2.1 a.2.2 q
theorem aQ:SJ X (jd9 .LShift) (rI jaK λi j=>.int (i*2^j.toNat)):=jaI λ_ _ _ _ _ _ _ a q=>lshift_int_small a.1 a.2.1 a.2.2 q
theorem aR:SJ X (jd9 .RShift) (rI (λ_ j=>0<=j) λi j=>.int (i/2^j.toNat)):=jaI λi j _ _ _ _ _ a q=>
 rshift_int a (by rw[jfB i (tU _)];exact q)
theorem aL:SJ X (jd9 .BitAnd) (iR λi j=>.int (jf8 i j)):=gZ λ_ _ _ _ _ _ _ q=>and_int q
theorem jba:SJ X (jd9 .BitOr) (iR λi j=>.int (jhk i j)):=gZ λ_ _ _ _ _ _ _ q=>or_int q
theorem jcw{f:pL->Sem pL}{g:Int->Int}
 (a:∀(i:Int)(t:Tok)(s:S6)(Q:pL->S6->Prop)(E:pL->S6->Prop),Q (.int (g i) s.toks) {s with toks:=s.toks+1}->jcH (model X.prog X.w) X.A (f (.int i t)) Q E s):
 jbM X f (rU λi=>.int (g i)):=by
 intro b s d H x v Q I c h
 obtain⟨i,rfl,q⟩:=h
 obtain⟨t,rfl⟩:=c
 exact a i t s _ _ ⟨.int (g i),H,I.tok _,⟨_,rfl⟩,q⟩
theorem xn:jbM X (unaryOp .USub) (rU λi=>.int (-i)):=jcw λ_ _ _ _ _ q=>neg_int q
end
noncomputable def jbt:V->V->Bool
 |.non,.non=>qm|.non,.int _=>qm|.int _,.non=>qm|.non,.bl _=>qm|.bl _,.non=>qm|.non,.str _=>qm|.str _,.non=>qm
 |.int _,.int _=>qm|.bl _,.bl _=>qm|.str _,.str _=>qm|.byt _,.byt _=>qm
 |.int _,.str _=>qm|.str _,.int _=>qm|.bl _,.str _=>qm|.str _,.bl _=>qm
 |_,_=>vh
noncomputable def jct:R2:=λx y H Q=>jbt x y=qm/\Q (.bl (decide (x=y))) H
noncomputable def jcu:R2:=λx y H Q=>jbt x y=qm/\Q (.bl (!decide (x=y))) H
theorem sX{i j:Int}:decide (V.int i=V.int j)=(i==j):=by
 rw[jeb]
 simp
theorem mV{i j:Bool}:decide (V.bl i=V.bl j)=(i==j):=by
 rw[jeb]
 simp
theorem sY{i j:Str}:decide (V.str i=V.str j)=(i==j):=by
 rw[jeb]
 simp
theorem sW{i j:Array UInt8}:decide (V.byt i=V.byt j)=(i.toList==j.toList):=by
 rw[jeb]
 cases i
 cases j
 simp
section
variable{X:Cx}{a b c:Expr}{ta tb tc:TE}{pos:Pos}
theorem Xg{a:List (pA×Obj)}{c:St}{H:Hp}{s:S6}{Q:VK}{k b:Bool}(I:Inv X a c H s)(q:Q (.bl k) H)(e:k=b):EP X a c Q (.bool b) s:=by
 subst e
 exact⟨.bl k,H,I,rfl,q⟩
theorem Xv:SJ X (jdj .Eq) jct:=by
 intro e s f H x y v u Q I d a h
 obtain⟨c,q⟩:=h
 cases x with
 |non=>
  cases d
  cases y with
  |non=>cases a;exact PySem.EqNone.eq_none_none (Xg I q (by simp))
  |bl j=>cases a;exact PySem.EqNone.eq_none_bool (Xg I q (by simp))
  |int j=>obtain⟨b,rfl⟩:=a;exact PySem.EqNone.eq_none_int (Xg I q (by simp))
  |str j=>obtain⟨b,rfl⟩:=a;exact PySem.EqNone.eq_none_str (Xg I q (by simp))
  |_=>exact absurd (show vh=qm from c) jbJ
 |bl i=>
  cases d
  cases y with
  |non=>cases a;exact PySem.EqNone.eq_bool_none (Xg I q (by simp))
  |bl j=>cases a;exact eq_bool (Xg I q mV)
  |str j=>obtain⟨b,rfl⟩:=a;exact PySem.EqMixed.eq_bool_str (Xg I q (by simp))
  |_=>exact absurd (show vh=qm from c) jbJ
 |int i=>
  obtain⟨t,rfl⟩:=d
  cases y with
  |non=>cases a;exact PySem.EqNone.eq_int_none (Xg I q (by simp))
  |int j=>obtain⟨b,rfl⟩:=a;exact eq_int (Xg I q sX)
  |str j=>obtain⟨b,rfl⟩:=a;exact PySem.EqMixed.eq_int_str (Xg I q (by simp))
  |_=>exact absurd (show vh=qm from c) jbJ
 |str i=>
  obtain⟨t,rfl⟩:=d
  cases y with
  |non=>cases a;exact PySem.EqNone.eq_str_none (Xg I q (by simp))
  |bl j=>cases a;exact PySem.EqMixed.eq_str_bool (Xg I q (by simp))
  |int j=>obtain⟨b,rfl⟩:=a;exact PySem.EqMixed.eq_str_int (Xg I q (by simp))
  |str j=>obtain⟨b,rfl⟩:=a;exact eq_str (Xg I q sY)
  |_=>exact absurd (show vh=qm from c) jbJ
 |byt i=>
  obtain⟨t,rfl⟩:=d
  cases y with
  |byt j=>obtain⟨b,rfl⟩:=a;exact PySem.W.eq_bytes (Xg I q sW)
  |_=>exact absurd (show vh=qm from c) jbJ
 |_=>cases y<;>exact absurd (show vh=qm from c) jbJ
theorem Im:SJ X (jdj .NotEq) jcu:=by
 intro e s f H x y v u Q I d a h
 obtain⟨c,q⟩:=h
 cases x with
 |non=>
  cases d
  cases y with
  |non=>cases a;exact PySem.EqNone.ne_none_none (Xg I q (by simp))
  |bl j=>cases a;exact PySem.EqNone.ne_none_bool (Xg I q (by simp))
  |int j=>obtain⟨b,rfl⟩:=a;exact PySem.EqNone.ne_none_int (Xg I q (by simp))
  |str j=>obtain⟨b,rfl⟩:=a;exact PySem.EqNone.ne_none_str (Xg I q (by simp))
  |_=>exact absurd (show vh=qm from c) jbJ
 |bl i=>
  cases d
  cases y with
  |non=>cases a;exact PySem.EqNone.ne_bool_none (Xg I q (by simp))
  |bl j=>cases a;exact ne_bool (Xg I q (congrArg not mV))
  |str j=>obtain⟨b,rfl⟩:=a;exact PySem.EqMixed.ne_bool_str (Xg I q (by simp))
  |_=>exact absurd (show vh=qm from c) jbJ
 |int i=>
  obtain⟨t,rfl⟩:=d
  cases y with
  |non=>cases a;exact PySem.EqNone.ne_int_none (Xg I q (by simp))
  |int j=>obtain⟨b,rfl⟩:=a;exact ne_int (Xg I q (congrArg not sX))
  |str j=>obtain⟨b,rfl⟩:=a;exact PySem.EqMixed.ne_int_str (Xg I q (by simp))
  |_=>exact absurd (show vh=qm from c) jbJ
 |str i=>
  obtain⟨t,rfl⟩:=d
  cases y with
  |non=>cases a;exact PySem.EqNone.ne_str_none (Xg I q (by simp))
  |bl j=>cases a;exact PySem.EqMixed.ne_str_bool (Xg I q (by simp))
  |int j=>obtain⟨b,rfl⟩:=a;exact PySem.EqMixed.ne_str_int (Xg I q (by simp))
  |str j=>obtain⟨b,rfl⟩:=a;exact ne_str (Xg I q (congrArg not sY))
  |_=>exact absurd (show vh=qm from c) jbJ
 |byt i=>
  obtain⟨t,rfl⟩:=d
  cases y with
  |byt j=>obtain⟨b,rfl⟩:=a;exact PySem.W.ne_bytes (Xg I q (congrArg not sW))
  |_=>exact absurd (show vh=qm from c) jbJ
 |_=>cases y<;>exact absurd (show vh=qm from c) jbJ
theorem La:SJ X (jdj .Lt) (iR λi j=>.bl (decide (i<j))):=aK λ_ _ _ _ _ _ _ q=>lt_int q
theorem zj:SJ X (jdj .LtE) (iR λi j=>.bl (decide (i<=j))):=aK λ_ _ _ _ _ _ _ q=>le_int q
theorem R6:SJ X (jdj .Gt) (iR λi j=>.bl (decide (j<i))):=aK λ_ _ _ _ _ _ _ q=>gt_int q
theorem Kw:SJ X (jdj .In) (λx y H Q=>∃i j,x=.str i/\y=.str j/\Q (.bl (!(jdw j i 0 j.length 1).isEmpty)) H):=by
 intro a s e H x y v u Q I b c h
 obtain⟨i,j,rfl,rfl,q⟩:=h
 obtain⟨t,rfl⟩:=b
 obtain⟨d,rfl⟩:=c
 exact in_str (Xg I q rfl)
theorem aN:SJ X (jdj .Is) (λx y H Q=>y=.non/\Q (.bl (decide (x=.non))) H):=by
 intro a s d H x y v u Q I b c h
 obtain⟨rfl,q⟩:=h
 cases c
 refine is_none_gen (Xg I q ?_)
 cases x<;>first
  |(cases b;rfl)
  |(obtain⟨t,rfl⟩:=b;rfl)
theorem Yb(b:Expr){a:jjn}(h:a≠.In:=by decide)(e:a≠.NotIn:=by decide):jfU a b=vh:=by
 have c:(a==CmpOp.In)=vh:=by cases a<;>first|rfl|exact absurd rfl h
 have d:(a==CmpOp.NotIn)=vh:=by cases a<;>first|rfl|exact absurd rfl e
 cases b<;>simp[jfU,c,d]
theorem fH{d:jjn}{r:R2}(l:SJ X (jdj d) r)(g:PE X a ta)(i:PE X b tb)(j:jfU d b=vh):PE X (.Compare a [d] [b] pos) (cW r ta tb):=by
 intro c s p H Q I h
 exact wpAny_Compare1 (bF g i I h λv u o x y e f m n q=>l c o p e x y v u Q f m n q) j
noncomputable def qw (t:TE):TT:=λb H Q=>t b H λx a=>∃k,x=.bl k/\Q k a
theorem eZ{f:jjn}{r:R2}(w:SJ X (jdj f) r)(p:PE X a ta)(q:PE X b tb)(t:jfU f b=vh):PT X (.Compare a [f] [b] pos) (qw (cW r ta tb)):=by
 intro d s g H Q I h
 refine wpAny_isTrue_Compare1 (XD (p d s g H _ I h) λv G⟨x,i,m,D,A⟩=>XD (q d G g i _ m A) λu J⟨y,j,n,E,B⟩=>
  XD (w d J g j x y v u _ n D E B) λc L K=>?_) t
 obtain⟨z,l,o,F,k,e,C⟩:=K
 subst e
 cases F
 exact jdX ⟨l,o,C⟩
noncomputable def yX (r f:R2) (g h i:TE):TE:=λa H Q=>g a H λx c=>h a c λy d=>r x y d λz b=>∃k,z=.bl k/\
 (if k=qm then i a b λj e=>f y j e Q else Q (.bl vh) b)
theorem ju{l g:jjn}{r p:R2}(K:SJ X (jdj l) r)(j:SJ X (jdj g) p)(E:PE X a ta)(F:PE X b tb)(G:PE X c tc)
 (J:jjf [l,g] [b,c]=vh:=by with_unfolding_all rfl):PE X (.Compare a [l,g] [b,c] pos) (yX r p ta tb tc):=by
 intro f s i H Q I h
 refine Compare_chain (XD (E f s i H _ I h) λv S⟨x,t,B,O,L⟩=>chain_link (XD (F f S i t _ B L) λu T⟨y,w,C,q,M⟩=>
  XD (K f T i w x y v u _ C O q M) λd U zz=>?_)) J
 obtain⟨z,m,n,P,k,e,o⟩:=zz
 subst e
 cases P
 refine jdX ?_
 cases k with
 |false=>exact ite_ff ⟨.bl vh,m,n,rfl,o⟩
 |true=>exact ite_tt (chain_last (XD (G f U i m _ n o) λY W⟨Z,A,D,R,N⟩=>j f W i A y Z u Y Q D q R N))
theorem jO{l g:jjn}{r q:R2}(P:SJ X (jdj l) r)(j:SJ X (jdj g) q)(L:PE X a ta)(M:PE X b tb)(N:PE X c tc)
 (O:jjf [l,g] [b,c]=vh:=by with_unfolding_all rfl):PT X (.Compare a [l,g] [b,c] pos) (qw (yX r q ta tb tc)):=by
 intro f s i H Q I h
 refine isTrue_chain (XD (L f s i H _ I h) λv s1⟨x,w,D,Y,S⟩=>test_link (XD (M f s1 i w _ D S) λu s2⟨y,A,E,t,T⟩=>
  XD (P f s2 i A x y v u _ E Y t T) λd s3 m=>?_)) O
 obtain⟨z,n,o,Z,k,e,p⟩:=m
 subst e
 cases Z
 refine jdX ?_
 cases k with
 |false=>
  obtain⟨k',J,R⟩:=p
  cases J
  exact ite_ff ⟨n,o,R⟩
 |true=>
  refine ite_tt (test_last (XD (N f s3 i n _ o p) λw' s4⟨z',B,F,r4,U⟩=>XD (j f s4 i B y z' u w' _ F t r4 U) λd' s5 m=>?_))
  obtain⟨z2,C,G,r5,k2,K,W⟩:=m
  subst K
  cases r5
  exact jdX ⟨C,G,W⟩
theorem Dt:(qd:Nat)<2^63:=by rw[jcD];decide
theorem Zy:SJ X (jd9 .Add) (λx y H Q=>∃i j,x=.str i/\y=.str j/\i.length+j.length<=qd/\Q (.str (i++j)) H):=by
 intro a s g H x y v u Q I c d h
 obtain⟨i,j,rfl,rfl,b,q⟩:=h
 obtain⟨t,rfl⟩:=c
 obtain⟨e,rfl⟩:=d
 exact add_str (λe f=>⟨.str (i++j),H,I.tok _,⟨_,rfl⟩,q⟩) b
theorem vals1{x:V}{us:List pL}(r:Vals [x] us):∃u,us=[u]/\RelV x u:=by
 cases r with
 |cons a b=>cases b;exact⟨_,rfl,a⟩
theorem vals2{x y:V}{us:List pL}(r:Vals [x,y] us):∃u w',us=[u,w']/\RelV x u/\RelV y w':=by
 cases r with
 |cons a b=>
  cases b with
  |cons c d=>cases d;exact⟨_,_,rfl,a,c⟩
theorem T4:Tw X (.type "str") (λxs H Q=>∃i,xs=[.int i]/\i.natAbs.log2<1920/\Q (.str (jda i)) H):=by
 intro a s d H xs c Q I r h
 obtain⟨i,rfl,b,q⟩:=h
 obtain⟨u,rfl,t,rfl⟩:=vals1 r
 exact PySem.P.str_of_int b ⟨.str _,H,I.tok _,⟨_,rfl⟩,q⟩
theorem GR:Tw X (.builtin "divmod") (λxs H Q=>∃i j,xs=[.int i,.int j]/\jaJ i j/\∀p,H p=su->Q (.ref p) (upd H p (.tup [.int (i/j),.int (i %j)]))):=by
 intro a s n H xs l Q I r h
 obtain⟨i,j,rfl,⟨d,f⟩,q⟩:=h
 obtain⟨u,m,rfl,⟨t,rfl⟩,⟨g,rfl⟩⟩:=vals2 r
 refine divmod_int (by omega) ?_ (.inl (jhJ (by omega)))
 rw[jfB i (by omega),jg0 i (by omega)]
 have c:H s.heap.objs.size=su:=I.hok.fresh (U6 _)
 refine⟨.ref s.heap.objs.size,_,?_,rfl,q _ c⟩
 refine I.laid (λb o e=>U4 _ e) (U6 _) ⟨by simp only[jc7,jec];rw[jcD];decide,[.int (i/j) s.toks,.int (i %j) (s.toks+1)],.cons ⟨_,rfl⟩ (.cons ⟨_,rfl⟩ .nil),?_⟩
 exact⟨_,jcK s.heap rfl,rfl,0,rfl⟩
end
structure vV(h:jcX)(x dx C:pA)(mA:Str->Option pL):Prop where
 obj:h.get? x=nC (jdt C dx)
 ns:h.Ns1 dx mA
 ne:dx≠x
theorem pU{h:jcX}{c:pA}{f:Str->Option pL}(n:h.Ns1 c f):∃g,h.get? c=nC g/\∀name,jg1 name g=nC (f name):=by
 obtain⟨o,d,u,p,j,l,_,m⟩:=n
 refine⟨o,p,λname=>?_⟩
 have e:=m name
 unfold nsFind findBy at e
 rw[<-Array.find?_toList]at e
 unfold jg1
 rw[j]
 dsimp only
 split
 .rename_i y q
  rw[q]at e
  exact congrArg nC e
 .rename_i q
  rw[q]at e
  have a:d.toList.any (·.refKey)=vh:=by
   rw[List.any_eq_false]
   intro y r
   obtain⟨z,t,b⟩:=l y (Array.mem_toList_iff.mp r)
   simp[DictEntry.refKey,b]
  have i:¬d.toList.any (·.refKey)=qm:=by rw[a];exact jbJ
  rw[if_neg i]
  exact congrArg nC e
theorem vV.look{h:jcX}{x b C:pA}{c:Str->Option pL}(I:vV h x b C c):∃a,PySem.W.InstAt h x (jdt C b) C (nC a)/\∀name,jg1 name a=nC (c name):=
 let⟨a,e,d⟩:=pU I.ns
 ⟨a,⟨I.obj,rfl,rfl,e⟩,d⟩
section
variable{prog:jcz}{w:jcS}{A:jdc}{E:pL->S6->Prop}{s:S6}{K:oh}{x dx C f:pA}{mA:Str->Option pL}{name:Str}{v:pL}
theorem gD{a:Bool}{Q:pL->S6->Prop}(X:K.In s.heap)(I:vV s.heap x dx C mA)(d:jfP K C name=qm)(e:jgh K C=qm)
 (c:jcy K (.ref C) name=nC su)(g:mA name=nC v)(b:jjg v=qm)(h:Q v {s with toks:=s.toks+1}):
 jcH (model prog w) A (getAttr (.ref x) name a) Q E s:=by
 obtain⟨i,J,f⟩:=I.look
 exact PySem.W.get_value X J (jgO d).1 (PySem.W.findObj_own e c rfl (by rw[f,g])) b h
theorem lM{pl:Sem Bool}{Q:pL×List pL->S6->Prop}(X:K.In s.heap)(I:vV s.heap x dx C mA)(a:jfP K C name=qm)
 (b:jcy K (.ref C) name=nC (nC (.ref f)))(d:jhK K (.ref f)=qm)(e:mA name=su)(h:Q (.ref f,[.ref x]) s):
 jcH (model prog w) A (jfK (.ref x) name pl) Q E s:=by
 obtain⟨g,J,c⟩:=I.look
 exact PySem.W.method_fn X J (jgO a).1 (jgO a).2 b (beq_iff_eq.mp d) (by show(jg1 name g).map (·.isSome)=nC vh;rw[c,e];rfl) h
theorem dj{ns:List Str}{Q:Unit->S6->Prop}(X:K.In s.heap)(I:vV s.heap x dx C mA)
 (p:jcy K (.ref C) "__setattr__"=nC (nC (.builtin "object.__setattr__")))(o:jhl K C=qm)(q:jhZ K C name=nC su)(n:jgh K C=qm)
 (hw:jiT mA ns)(hsz:ns.length<=qd)
 (h:∀h',vV h' x dx C (λy=>if y=name then nC v else mA y)->jfI dx s.heap h'->Q () {s with heap:=h',toks:=s.toks+2}):
 jcH (model prog w) A (setAttr (.ref x) name v) Q E s:=by
 obtain⟨D,J,z⟩:=I.look
 refine PySem.W.set_plain X J p (PySem.W.osa_open (s:={s with toks:=s.toks+1}) (r:=su) X J o q λb=>?_)
 obtain⟨u,m,f⟩:=PySem.W.any_some n
 have t:s.heap.get? x=nC ⟨.ref C,nC dx,.plain,#[]⟩:=I.obj
 refine xT (jcC (xT (xT (jic t (xT (PySem.W.Looks.here (s:={s with toks:=s.toks+1}) (jiq X m) ?_))))))
 rw[f]
 refine jcC (a:=nC dx) (xT (jcC (xT ?_)))
 refine wpAny_nsSet1 (s:={s with toks:=s.toks+1}) I.ns λh' c d=>?_
 obtain⟨B,l,j,i,g,e⟩:=c.count (jjv name v hw)
 refine xT (wpAny_lookBehind i (by rw[g];exact pastItsLine_dict (jc9 e (by rw[jc7];omega))) ?_)
 exact jcC (h _ ⟨(d.2 _ (jdh I.ne)).trans I.obj,c,I.ne⟩ d)
theorem wH{R:jiI->S6->Prop}{vs:List pL}{a:List (Str×pL)}(X:K.In s.heap)(e:jfv K C=qm)
 (c:jcy K (.ref C) "__init__"=nC (nC (.ref f)))(b:jjw K (.ref f)=nC (.type "function"))
 (h:je9 (model prog w) (A.under (.builtin "type.__call__" ⟨.ref C::vs,a⟩)) (.call (.ref f) ⟨.ref (s.heap.objs.size+1)::vs,a⟩) (jjh (s.heap.objs.size+1) R)
  {s with heap:=(s.heap.push jdg).push (jdt C s.heap.objs.size)}):
 je9 (model prog w) A (.call (.ref C) ⟨vs,a⟩) R s:=by
 obtain⟨i,g,d,t,j⟩:=s
 exact jiV (jhs X e) (je8 X c) (λself=>PySem.W.bind_fn X self b) (.inl rfl) h
theorem pW{R:jiI->S6->Prop}(X:K.In s.heap)(c:jfv K C=qm)
 (b:jcy K (.ref C) "__init__"=nC (nC (.builtin "object.__init__")))
 (a:∀self,jht (model prog w) s.heap (bindSpecial (.builtin "object.__init__") self) (.builtin "object.__init__",[self]))
 (h:je9 (model prog w) (A.under (.builtin "type.__call__" ⟨[.ref C],[]⟩)) (.call (.builtin "object.__init__") ⟨[.ref (s.heap.objs.size+1)],[]⟩) (jjh (s.heap.objs.size+1) R)
  {s with heap:=(s.heap.push jdg).push (jdt C s.heap.objs.size)}):
 je9 (model prog w) A (.call (.ref C) ⟨[],[]⟩) R s:=by
 obtain⟨e,g,d,t,f⟩:=s
 exact jiV (jhs X c) (je8 X b) a (.inr ⟨rfl,rfl⟩) h
end
noncomputable def Sv (f:Str) (v:V):List (Str×V)->List (Str×V)
 |[]=>[(f,v)]
 |(g,x)::r=>if g=f then(g,v)::r else(g,x)::Sv f v r
theorem RM(f g:Str)(v:V):∀fs:List (Str×V),(Sv f v fs).lookup g=if g=f then nC v else fs.lookup g
 |[]=>by
  show jfh g [(f,v)]=_
  by_cases h:g=f
  .have a:(g==f)=qm:=beq_iff_eq.mpr h
   simp only[jfh,a,if_pos h]
  .have a:(g==f)=vh:=beq_eq_false_iff_ne.mpr h
   simp only[jfh,a,if_neg h]
 |(k,x)::r=>by
  have c:=RM f g v r
  rw[show Sv f v ((k,x)::r)=(if k=f then(k,v)::r else(k,x)::Sv f v r)from rfl]
  by_cases b:k=f
  .rw[if_pos b]
   by_cases h:g=k
   .have a:(g==k)=qm:=beq_iff_eq.mpr h
    simp only[jfh,a,if_pos (h.trans b)]
   .have a:(g==k)=vh:=beq_eq_false_iff_ne.mpr h
    simp only[jfh,a,if_neg (λe:g=f=>h (e.trans b.symm))]
  .rw[if_neg b]
   by_cases h:g=k
   .have a:(g==k)=qm:=beq_iff_eq.mpr h
    simp only[jfh,a,if_neg (λe:g=f=>b (h.symm.trans e))]
   .have a:(g==k)=vh:=beq_eq_false_iff_ne.mpr h
    simp only[jfh,a]
    exact c
theorem Hz(f:Str)(v:V):∀fs:List (Str×V),f∈(Sv f v fs).map (·.1)/\∀g,g∈fs.map (·.1)->g∈(Sv f v fs).map (·.1)
 |[]=>⟨by simp[Sv],λg h=>by simp at h⟩
 |(k,x)::r=>by
  obtain⟨b,c⟩:=Hz f v r
  rw[show Sv f v ((k,x)::r)=(if k=f then(k,v)::r else(k,x)::Sv f v r)from rfl]
  by_cases a:k=f
  .rw[if_pos a]
   subst a
   exact⟨by simp,λg h=>by simpa using h⟩
  .rw[if_neg a]
   refine⟨?_,λg h=>?_⟩
   .rw[jdy]
    exact jcx _ b
   .rw[jdy]at h|-
    rcases jbK.mp h with e|e
    .exact jbK.mpr (.inl e)
    .exact jcx _ (c g e)
theorem RL(f:Str)(v:V):∀fs:List (Str×V),(Sv f v fs).length<=fs.length+1
 |[]=>by simp[Sv]
 |(k,x)::r=>by
  have b:=RL f v r
  rw[show Sv f v ((k,x)::r)=(if k=f then(k,v)::r else(k,x)::Sv f v r)from rfl]
  by_cases a:k=f
  .rw[if_pos a,jc7,jc7];omega
  .rw[if_neg a,jc7,jc7];omega
theorem Ma.some_of{v:V}{o:Option pL}(r:Ma (nC v) o):∃u,o=nC u/\RelV v u:=by
 cases o with
 |none=>exact(show False from r).elim
 |some u=>exact⟨u,rfl,r⟩
theorem Ma.none_of{o:Option pL}(r:Ma su o):o=su:=by
 cases o with
 |none=>rfl
 |some u=>exact(show False from r).elim
theorem pJ{v:V}{u:pL}(r:RelV v u):jjg u=qm:=by
 cases v with
 |non=>cases(show u=jdL from r);rfl
 |bl b=>cases(show u=jdR b from r);rfl
 |int i=>obtain⟨t,e⟩:=(show∃t,u=jhq i t from r);cases e;rfl
 |str x=>obtain⟨t,e⟩:=(show∃t,u=jfH x t from r);cases e;rfl
 |byt b=>obtain⟨t,e⟩:=(show∃t,u=Value.bytes b t from r);cases e;rfl
 |flt b=>obtain⟨t,e⟩:=(show∃t,u=jjl b t from r);cases e;rfl
 |ref a=>cases(show u=jcI a from r);rfl
 |ty n=>cases(show u=jhH n from r);rfl
section
variable{P:jcz}{w:jcS}{H H':Hp}{h h':jcX}{a C dx:pA}{fs fs':List (Str×V)}
theorem Ea(c:Q3 P w H h)(e:H a=nC (.ins C dx fs)):∃b,vV h a dx C b/\(∀f,Ma (fs.lookup f) (b f))/\jiT b (fs.map (·.1))/\fs.length<=1000/\H dx=nC (.own a):=by
 obtain⟨d,z,g,i,b,n,r,q⟩:=(show Xx P w H h a (.ins C dx fs)from c a _ e)
 exact⟨b,⟨i,n,g⟩,r,q,z,d⟩
end
structure qC(K:oh)(C:pA):Prop where
 pg:jfP K C jdV=qm
 hd:jgh K C=qm
 po:jhl K C=qm
 sa:jcy K (.ref C) "__setattr__"=nC (nC (.builtin "object.__setattr__"))
theorem qC.get{K:oh}{C:pA}(c:qC K C)(f:Str):jfP K C f=qm:=c.pg
noncomputable def Ou (K:oh) (C:pA) (f:Str):Prop:=jcy K (.ref C) f=nC su
theorem Ou.taker{K:oh}{C:pA}{f:Str}(n:Ou K C f):jhZ K C f=nC su:=by
 unfold jhZ
 rw[show jcy K (.ref C) f=nC su from n]
 rfl
structure Meth(K:oh)(C:pA)(m:Str)(f:pA):Prop where
 at_:jcy K (.ref C) m=nC (nC (.ref f))
 fn:jhK K (.ref f)=qm
 kp:jdO K (.ref f)=qm
section
variable{X:Cx}{pins:List (pA×Obj)}{σ:St}{H:Hp}{s:S6}{a C dx:pA}{fs:List (Str×V)}{f:Str}{v:V}{A:jdc}{E:pL->S6->Prop}
theorem uw{b:Bool}{Q:pL->S6->Prop}(I:Inv X pins σ H s)(e:H a=nC (.ins C dx fs))(c:qC X.K C)(n:Ou X.K C f)(l:fs.lookup f=nC v)
 (h:∀u g,Inv X pins σ H g->RelV v u->Q u g):jcH (model X.prog X.w) A (getAttr (.ref a) f b) Q E s:=by
 obtain⟨j,O,r,_,_,_⟩:=Ea I.hok e
 obtain⟨u,i,d⟩:=Ma.some_of (v:=v) (o:=j f) (by rw[<-l];exact r f)
 exact gD I.QR O (c.get f) c.hd n i (pJ d) (h u _ (I.tok _) d)
theorem Jl{m:Str}{g:pA}{pl:Sem Bool}{Q:pL×List pL->S6->Prop}(I:Inv X pins σ H s)(e:H a=nC (.ins C dx fs))(c:qC X.K C)(k:Meth X.K C m g)(l:fs.lookup m=su)
 (h:Q (.ref g,[.ref a]) s):jcH (model X.prog X.w) A (jfK (.ref a) m pl) Q E s:=by
 obtain⟨d,O,r,_,_,_⟩:=Ea I.hok e
 have b:d m=su:=Ma.none_of (by rw[<-l];exact r m)
 exact lM I.QR O (c.get m) k.at_ k.fn b h
theorem tL{y:V}{u:pL}{Q:Unit->S6->Prop}(I:Inv X pins σ H s)(e:H a=nC (.ins C dx fs))(c:qC X.K C)(n:Ou X.K C f)(L:fs.length<1000)(G:RelV y u)
 (h:∀l,Inv X pins σ (upd H a (.ins C dx (Sv f y fs))) l->Q () l):jcH (model X.prog X.w) A (setAttr (.ref a) f u) Q E s:=by
 obtain⟨j,O,r,m,_,i⟩:=Ea I.hok e
 have F:(fs.map (·.1)).length<=qd:=by rw[rz,jcD];omega
 refine dj I.QR O c.sa c.po n.taker c.hd m F λt d J=>h _ ?_
 have B:∃o,t.get? dx=nC o:=let⟨o,_,_,p,_⟩:=d.ns;⟨o,p⟩
 refine I.write (x:=a) (e:=dx) (by rw[e];exact je3) (.inr i) (λb q v z=>(J.2 b v).trans z) B ?_
 refine⟨by rw[ZX O.ne];exact i,?_,O.ne,d.obj,_,d.ns,λg=>?_,λg D=>?_⟩
 .have:=RL f y fs;omega
 .show Ma ((Sv f y fs).lookup g) (if g=f then nC u else j g)
  rw[RM]
  by_cases q:g=f
  .rw[if_pos q,if_pos q];exact G
  .rw[if_neg q,if_neg q];exact r g
 .by_cases q:g=f
  .rw[q];exact(Hz f y fs).1
  .refine(Hz f y fs).2 g (m g λz=>D ?_)
   show(if g=f then nC u else j g)=su
   rw[if_neg q];exact z
theorem Inv.made(I:Inv X pins σ H s):Inv X pins σ (upd (upd H s.heap.objs.size (.own (s.heap.objs.size+1))) (s.heap.objs.size+1) (.ins C s.heap.objs.size []))
 {s with heap:=(s.heap.push jdg).push (jdt C s.heap.objs.size)}:=by
 have c:(s.heap.push jdg).get? s.heap.objs.size=nC jdg:=jcK s.heap rfl
 have g:((s.heap.push jdg).push (jdt C s.heap.objs.size)).get? (s.heap.objs.size+1)=nC (jdt C s.heap.objs.size):=by
  have:=jcK (s.heap.push jdg) (o:=jdt C s.heap.objs.size) rfl
  rwa[jet]at this
 have h:(s.heap.push jdg).Ns s.heap.objs.size (λ_=>su):=⟨jdg,#[],_,c,rfl,(λe i=>absurd i (by simp)),λ_=>rfl⟩
 have f:=I.laid (a:=s.heap.objs.size) (o:=.own (s.heap.objs.size+1)) (h':=s.heap.push jdg) (t':=s.toks) (λb u q=>U4 _ q) (U6 _) ⟨_,c⟩
 refine f.laid (a:=s.heap.objs.size+1) (o:=.ins C s.heap.objs.size []) (t':=s.toks) (λb u q=>U4 _ q) (Nat.le_of_eq (jet _ _)) ?_
 have d:s.heap.objs.size≠s.heap.objs.size+1:=jcO (jdr _)
 refine⟨by rw[ZX d,Zj],jcY _,d,g,λ_=>su,(jiW h).at λo q=>U4 _ q,λ_=>je3,λy j=>absurd rfl j⟩
theorem iZ{prog:jcz}{w:jcS}{env:Env}{e:Expr}{f:Str}{pos:Pos}{s:S6}{Q:pL->S6->Prop}(b:jdz e f env (eval e env)=eval e env)
 (h:jcH (model prog w) A (eval e env) (λo a=>jcH (model prog w) A (getAttr o f qm) Q E a) E s):jcH (model prog w) A (eval (.Attribute e f pos) env) Q E s:=
 Attribute_any_ h (by rw[arm_eval_Attribute,b])
end
noncomputable def jbw (K:oh) (d:TE) (f:Str):TE:=λe H Q=>d e H λx b=>∃a C c fs v,x=.ref a/\b a=nC (.ins C c fs)/\qC K C/\Ou K C f/\fs.lookup f=nC v/\Q v b
noncomputable def jbs (K:oh) (g h:TE) (f:Str):TS:=λD b H=>h b H λy e=>g b e λx c=>∃a C d fs,x=.ref a/\c a=nC (.ins C d fs)/\qC K C/\Ou K C f/\fs.length<1000/\
 D.nx b (upd c a (.ins C d (Sv f y fs)))
section
variable{X:Cx}{o e value:Expr}{f:Str}{pos pos' tpos:Pos}{ta tv:TE}
theorem aX(p:PE X e ta)(o:jdz e f X.env (eval e X.env)=eval e X.env):PE X (.Attribute e f pos) (jbw X.K ta f):=by
 intro b s y H Q I h
 refine iZ o (XD (p b s y H _ I h) λu A w=>?_)
 obtain⟨x,d,g,t,a,C,z,fs,v,m,j,c,n,l,q⟩:=w
 subst m
 obtain rfl:u=jcI a:=t
 exact uw g j c n l λD B i r=>⟨v,d,i,r,q⟩
theorem jan(r:PE X o ta)(v:PE X value tv)(t:jgm value (nC (.Attribute o f pos')) pos.line X.env=pure vh):PS X (.Assign [.Attribute o f pos'] value pos) (jbs X.K ta tv f):=by
 intro b s d H D I h
 refine jgk (XD (v b s d H _ I h) λu E⟨y,e,g,B,q⟩=>XD (r b E d e _ g q) λw L F=>?_) t
 obtain⟨x,G,i,A,a,C,J,fs,p,m,c,n,l,z⟩:=F
 subst p
 obtain rfl:w=jcI a:=A
 exact tL i m c n l B λM j=>⟨d,_,j,z⟩
end
section
variable{X:Cx}{pins:List (pA×Obj)}{σ:St}{H:Hp}{s:S6}{A:jdc}{E:pL->S6->Prop}{Q:pL->S6->Prop}{c:pL}{b:Bool}
inductive TY(K:oh)(H:Hp):V->pL->Prop where
 |non:TY K H .non (.type "NoneType")
 |bl (x:Bool):TY K H (.bl x) (.type "bool")
 |int (i:Int):TY K H (.int i) (.type "int")
 |str (x:Str):TY K H (.str x) (.type "str")
 |flt (x:UInt64):TY K H (.flt x) (.type "float")
 |lst {a:pA}{xs:List V} (e:H a=nC (.lst xs)):TY K H (.ref a) (.type "list")
 |frz {a:pA}{o:Obj}{xs:List V} (e:H a=nC (.frz o (.lst xs))):TY K H (.ref a) (.type "list")
 |tup {a:pA}{xs:List V} (e:H a=nC (.tup xs)):TY K H (.ref a) (.type "tuple")
 |dK {a:pA}{kvs:List (Key×V)} (e:H a=nC (.dK kvs)):TY K H (.ref a) (.type "dict")
 |dT {a:pA}{kvs:List (List Key×V)} (e:H a=nC (.dT kvs)):TY K H (.ref a) (.type "dict")
 |ins {a C dx:pA}{fs:List (Str×V)} (e:H a=nC (.ins C dx fs)) (cl:qC K C) (ha:jcy K (.ref C) "__class__"=nC (nC (.builtin "object.__class__")))
  (hn:jfV K (.builtin "object.__class__") "__get__"=nC (nC (.builtin "getset_descriptor.__get__"))) (htk:jid K (.builtin "object.__class__")=nC qm)
  (hm:jcJ K C (.type "object")=nC qm):TY K H (.ref a) (.ref C)
theorem Ar{x:V}{u t:pL}(I:Inv X pins σ H s)(d:RelV x u)(ty:TY X.K H x t)(e:jaE X.K t c=nC b)(h:∀r,Q (.bool b) {s with toks:=r}):
 jcH (model X.prog X.w) A (call (.builtin "isinstance") [u,c]) Q E s:=by
 cases ty with
 |non=>cases(show u=jdL from d);exact jdW PySem.W.kitx_none I.QR je3 e (λz=>nomatch z) h
 |bl y=>cases(show u=jdR y from d);exact jdW PySem.W.kitx_bool I.QR je3 e (λz=>nomatch z) h
 |int i=>obtain⟨t,q⟩:=(show∃t,u=jhq i t from d);cases q;exact jdW PySem.W.kitx_int I.QR je3 e (λz=>nomatch z) h
 |str y=>obtain⟨t,q⟩:=(show∃t,u=jfH y t from d);cases q;exact jdW PySem.W.kitx_str I.QR je3 e (λz=>nomatch z) h
 |flt y=>obtain⟨t,q⟩:=(show∃t,u=jjl y t from d);cases q;exact jdW PySem.W.kitx_float I.QR je3 e (λz=>nomatch z) h
 |@lst a g ea=>
  cases(show u=jcI a from d)
  obtain⟨_,_,n,_,f⟩:=(show Xx X.prog X.w H s.heap a (.lst g)from I.hok a _ ea)
  exact jdW jiX I.QR ⟨_,f,rfl⟩ e (λz=>nomatch z) h
 |@frz a ob g ea=>
  cases(show u=jcI a from d)
  obtain⟨_,_,_,n,_,f⟩:=(show Xx X.prog X.w H s.heap a (.frz ob (.lst g))from I.hok a _ ea)
  exact jdW jiX I.QR ⟨_,f,rfl⟩ e (λz=>nomatch z) h
 |@tup a g ea=>
  cases(show u=jcI a from d)
  obtain⟨_,_,_,p⟩:=(show Xx X.prog X.w H s.heap a (.tup g)from I.hok a _ ea)
  obtain⟨o,f,j,_⟩:=p
  exact jdW PySem.W.kitx_tuple I.QR ⟨o,f,j⟩ e (λz=>nomatch z) h
 |@dK a kvs ea=>
  cases(show u=jcI a from d)
  obtain⟨_,_,D,_,p⟩:=(show Xx X.prog X.w H s.heap a (.dK kvs)from I.hok a _ ea)
  obtain⟨o,m,l,f,j,_⟩:=p
  exact jdW jiY I.QR ⟨o,f,j.1⟩ e (λz=>nomatch z) h
 |@dT a kvs ea=>
  cases(show u=jcI a from d)
  obtain⟨_,_,g,_,o,m,l,f,j,_⟩:=(show Xx X.prog X.w H s.heap a (.dT kvs)from I.hok a _ ea)
  exact jdW jiY I.QR ⟨o,f,j.1⟩ e (λz=>nomatch z) h
 |@ins a C dx fs ea cl ha hn htk hm=>
  cases(show u=jcI a from d)
  obtain⟨v,O,_⟩:=Ea I.hok ea
  obtain⟨B,J,_⟩:=O.look
  exact jdW (PySem.W.kitx_own (cl.get _) cl.hd ha hn htk hm) I.QR J e (λz=>nomatch z) h
end
structure Wi(k:Nat)(A:jdc):Prop where
 hd:A.handled=su
 dp:A.depth+3*k+5<recursionLimit
 un:A.units+16*k+200<jf9
 gd:A.guards=nC []
theorem Wi.mono{j k:Nat}{A:jdc}(r:Wi k A)(h:j<=k):Wi j A:=⟨r.hd,by have:=r.dp;omega,by have:=r.un;omega,r.gd⟩
theorem Wi.deeper{k:Nat}{A:jdc}(r:Wi (k+1) A)(env:Env):Wi k (A.deeper env):=
 ⟨r.hd,by have:=r.dp;show A.depth+1+3*k+5<_;omega,by have:=r.un;show A.units+3+16*k+200<_;omega,r.gd⟩
theorem uI{A:jdc}{C:pA}{us:List pL}{a:List (Str×pL)}:(A.under (.builtin "type.__call__" ⟨.ref C::us,a⟩)).depth=A.depth+1:=by
 first|rfl|simp[jhL,Code.weight,Code.isCreation,Code.isGuard,Code.isCaller,Code.frames,jiZ,guardIds]
theorem uJ{A:jdc}{C:pA}{us:List pL}{a:List (Str×pL)}:(A.under (.builtin "type.__call__" ⟨.ref C::us,a⟩)).units=A.units+1:=by
 first|rfl|simp[jhL,Code.cUnits,Code.frames,jiZ]
theorem Wi.make{k:Nat}{A:jdc}(r:Wi (k+1) A)(C:pA)(us:List pL)(a:List (Str×pL)):Wi k (A.under (.builtin "type.__call__" ⟨.ref C::us,a⟩)):=
 ⟨r.hd,by have:=r.dp;rw[uI];omega,by have:=r.un;rw[uJ];omega,by simp[jhL,r.gd,Code.guards,Code.isGuard,guardIds,pushGuards]⟩
theorem Wi.depth{k:Nat}{A:jdc}(r:Wi k A):A.depth<recursionLimit:=by have:=r.dp;omega
theorem Wi.units{k:Nat}{A:jdc}(r:Wi k A):A.units+64<jf9:=by have:=r.un;omega
theorem Wi.Rn{k:Nat}{A:jdc}(r:Wi k A):A.units<jf9:=by have:=r.un;omega
noncomputable def JK:TA:=λ_ H Q=>Q [] H
noncomputable def Uu (d:TE) (e:TA):TA:=λa H Q=>d a H λx b=>e a b λf c=>Q (x::f) c
section
variable{X:Cx}{e:Expr}{es:List Expr}{te:TE}{t:TA}{pos:Pos}
theorem Lb:PA X [] JK:=λ_ _ _ _ H Q I h=>jd6 ⟨[],H,I,.nil,h⟩
theorem fC(i:PE X e te)(j:PA X es t)(l:jc0 (e::es) X.env=(vh,eval e X.env)::jc0 es X.env:=by rfl):PA X (e::es) (Uu te t):=by
 intro pos a s b H Q I h
 rw[l]
 show jcH _ _ (spliced ((vh,eval e X.env)::jeh pos (jc0 es X.env))) _ _ s
 refine jdF (XD (i a s b H _ I h) λu q v=>?_)
 obtain⟨x,c,f,o,m⟩:=v
 exact XD (j pos a q b c _ f m) λy w⟨r,d,g,p,n⟩=>⟨x::r,d,g,.cons o p,n⟩
noncomputable def jbD (t:TA):TE:=λc H Q=>t c H λb a=>b.length<=qd/\∀p,a p=su->Q (.ref p) (upd a p (.tup b))
noncomputable def jby (t:TA):TE:=λc H Q=>t c H λb a=>b.length<=qd/\∀p,a p=su->Q (.ref p) (upd a p (.lst b))
theorem jaf{x1}(h:PA X es t):PE X (.Tuple es x1 pos) (jbD t):=by
 intro a s m H Q I i
 refine wpAny_Tuple_spliced (XD (h pos a s m H _ I i) λj c⟨l,d,f,r,z,q⟩=>⟨by rw[<-r.length];exact z,?_⟩)
 have g:d c.heap.objs.size=su:=f.hok.fresh (U6 _)
 refine⟨.ref c.heap.objs.size,upd d c.heap.objs.size (.tup l),f.laid (t':=c.toks) (λb u e=>U4 _ e) (U6 _) ?_,rfl,q _ g⟩
 exact⟨z,j,r,⟨_,jcK _ rfl,rfl,_,rfl⟩⟩
theorem jaa(h:PA X es t):PE X (.List es pos) (jby t):=by
 intro a s m H Q I i
 refine wpAny_List_spliced (XD (h pos a s m H _ I i) λj c⟨l,d,f,r,z,q⟩=>⟨by rw[<-r.length];exact z,?_⟩)
 have g:d c.heap.objs.size=su:=f.hok.fresh (U6 _)
 refine⟨.ref c.heap.objs.size,upd d c.heap.objs.size (.lst l),f.laid (t':=c.toks) (λb u e=>U4 _ e) (U6 _) ?_,rfl,q _ g⟩
 exact⟨z,j,0,r,jcK _ rfl⟩
end
noncomputable abbrev Sp:=List V->Hp->VK->XK->Prop
noncomputable abbrev tY:=List Env->Hp->S6->XK->pL->S6->Prop
structure xx(P:jcz)(w:jcS)(K:oh)(mg:Str->Option pL)(base:jcX)(A:jdc)(outer:List Env)(s:S6)(H:Hp):Prop where
 frames:A.frames=nC outer
 mod:Mod K mg base
 bs:∀b o,base.get? b=nC o->s.heap.get? b=nC o/\H b=su
 bsz:base.objs.size<=s.heap.objs.size
 Mu:s.heap.FunFrames base outer
 frf:∀b∈frs outer,H b=su
 hok:Q3 P w H s.heap
 bare:jf6 s.gens
noncomputable def CE (a:List Env) (P:jcz) (w:jcS) (H:Hp) (s:S6) (Q:VK) (u:pL) (b:S6):Prop:=
 ∃v c,b.os=s.os/\jf6 b.gens/\Un (frs a) [] H c s.heap b.heap/\Q3 P w c b.heap/\RelV v u/\Q v c
noncomputable def CR (CX:tY) (a:List Env) (P:jcz) (w:jcS) (H:Hp) (s:S6) (Q:VK) (E:XK) (r:jiI) (b:S6):Prop:=
 match r with
 |.ok (.ret u)=>CE a P w H s Q u b
 |.ok _=>False
 |.error e=>CX a H s E e b
structure We(P:jcz)(w:jcS)(K:oh)(mg:Str->Option pL)(base:jcX)(CX:tY)(k:Nat)(f:pA)(fd:jaF)(ps:List Str)(sp:Sp):Prop where
 len:∀vs H Q E,sp vs H Q E->vs.length=ps.length
 run:∀(A:jdc)(outer:List Env)(s:S6)(H:Hp)(args:Args)(us:List pL)(vs:List V)(Q:VK)(E:XK),Wi k A->xx P w K mg base A outer s H->ji0 s fd args (ps.zip us)->Vals vs us->sp vs H Q E->
  je9 (model P w) A (.call (.ref f) args) (CR CX outer P w H s Q E) s
theorem We.mono{P:jcz}{w:jcS}{K:oh}{mg:Str->Option pL}{base:jcX}{CX:tY}{j k:Nat}{f:pA}{c:jaF}{ps:List Str}{sp:Sp}(F:We P w K mg base CX j f c ps sp)(h:j<=k):
 We P w K mg base CX k f c ps sp:=⟨F.len,λA a s H b e g Q E d=>F.run A a s H b e g Q E (d.mono h)⟩
theorem We.imp{P:jcz}{w:jcS}{K:oh}{mg:Str->Option pL}{base:jcX}{CX:tY}{k:Nat}{f:pA}{c:jaF}{ps:List Str}{sp sp':Sp}(F:We P w K mg base CX k f c ps sp)
 (h:∀vs H Q E,sp' vs H Q E->sp vs H Q E):We P w K mg base CX k f c ps sp':=
 ⟨λvs H Q E q=>F.len vs H Q E (h _ _ _ _ q),λA a s H b l vs Q E g e d j i=>F.run A a s H b l vs Q E g e d j (h _ _ _ _ i)⟩
theorem xx.make{P:jcz}{w:jcS}{K:oh}{mg:Str->Option pL}{base:jcX}{A:jdc}{a:List Env}{s:S6}{H:Hp}(e:xx P w K mg base A a s H)(C:pA)(us:List pL)(b:List (Str×pL)):
 xx P w K mg base (A.under (.builtin "type.__call__" ⟨.ref C::us,b⟩)) a s H:=⟨by first|exact e.frames|(simpa[jhL,Code.envs,jiZ,pushEnvs]using e.frames),e.mod,e.bs,e.bsz,e.Mu,e.frf,e.hok,e.bare⟩
section
variable{X:Cx}{pins:List (pA×Obj)}{σ:St}{H:Hp}{s s':S6}
theorem Inv.env0(I:Inv X pins σ H s):xx X.prog X.w X.K X.mg X.base X.A X.stack s H:=
 ⟨I.ok.frames,I.ok.mod,I.bs,jc9 I.ok.bsz I.sz,I.stack,I.Pk,I.hok,I.bare⟩
theorem Inv.after{Q:VK}{u:pL}(I:Inv X pins σ H s)(h:CE X.stack X.prog X.w H s Q u s'):EP X pins σ Q u s':=by
 obtain⟨v,f,j,a,un,c,r,q⟩:=h
 obtain⟨i,g,d,t,e⟩:=s'
 obtain rfl:e=s.os:=j
 exact⟨v,f,I.call (h':=i) (g':=g) (d':=d) (t':=t) (ch:=[]) un c a (λb z=>absurd z (by simp)),r,q⟩
end
noncomputable def vI (sp:Sp) (dvs:List V) (E:XK) (t:TA):TE:=λc H Q=>t c H λb a=>sp (b++dvs) a Q E
noncomputable def ql (C:pA) (sp:Sp) (dvs:List V) (E:XK) (t:TA):TE:=λe H Q=>t e H λd b=>∀x a,b x=su->b a=su->a≠x->
 sp (.ref x::(d++dvs)) (upd (upd b a (.own x)) x (.ins C a [])) (λv c=>v=.non/\Q (.ref x) c) E
noncomputable def Binds (K:oh) (c:jaF) (ps:List Str) (b:List pL):Prop:=
 ∀(s:S6)(a:List pL),K.In s.heap->(a++b).length=ps.length->ji0 s c ⟨a,[]⟩ (ps.zip (a++b))
theorem Binds.all{K:oh}{a:jaF}{ps:List Str}(h:∀us:List pL,us.length=ps.length->jfC a ⟨us,[]⟩=pure (ps.zip us)):Binds K a ps []:=λs us _ b=>by
 rw[jdA]at b|-
 exact .of_eq (h us b)
noncomputable def Te (CX:tY) (X:Cx) (E:XK):Prop:=∀(a:List (pA×Obj))(c:St)(H:Hp)(s:S6)(e:pL)(b:S6),Inv X a c H s->CX X.stack H s E e b->X.xe e b
section
variable{X:Cx}{CX:tY}{k:Nat}{f C:pA}{fd:jaF}{ps:List Str}{sp:Sp}{dvs:List V}{ds:List pL}{E:XK}{x m:Str}{p pos apos:Pos}{e o:Expr}{es:List Expr}{ta:TE}{t:TA}
theorem tE{a:List (pA×Obj)}{c:St}{H:Hp}{s:S6}{Q:VK}{us:List pL}{vs:List V}(F:We X.prog X.w X.K X.mg X.base CX k f fd ps sp)(m:Wi k X.A)(i:Binds X.K fd ps ds)(j:Vals dvs ds)(n:Te CX X E)
 (I:Inv X a c H s)(r:Vals vs us)(h:sp (vs++dvs) H Q E):jcH (model X.prog X.w) X.A (call (.ref f) us) (EP X a c Q) X.xe s:=by
 have d:Vals (vs++dvs) (us++ds):=r.append j
 have l:(us++ds).length=ps.length:=by rw[<-d.length];exact F.len _ _ _ _ h
 refine jfD (jeR (F.run X.A X.stack s H ⟨us,[]⟩ (us++ds) (vs++dvs) Q E m I.env0 (i s us I.QR l) d h) λr o b=>?_)
 cases r with
 |error e=>exact n a c H s e o I b
 |ok g=>
  cases g with
  |ret u=>exact I.after b
  |next=>exact jdi b
  |brk=>exact jdi b
  |cont=>exact jdi b
theorem fG(F:We X.prog X.w X.K X.mg X.base CX k f fd ps sp)(u:Wi k X.A)(m:Gl X x)(o:X.mg x=nC (.ref f))(n:jdO X.K (.ref f)=qm)(i:Binds X.K fd ps ds)(j:Vals dvs ds)(v:Te CX X E)
 (g:PA X (e::es) t)(b:(x==("__debug__":Str))=vh:=by decide)(l:jc0 (e::es) X.env=(vh,eval e X.env)::jc0 es X.env:=by rfl)(c:(jeh pos (jc0 es X.env)).any (·.1)=vh:=by rfl):
 PE X (.Call (.Name x p) (e::es) [] pos) (vI sp dvs E t):=by
 intro a s y H Q I h
 refine jdG (Uk I m o ?_ b)
 refine jed (h₀:=X.base) I.ok.mod.kin n (XD (g pos a s y H _ I h) λC B⟨D,z,d,r,q⟩=>⟨d.QR,?_⟩) l c
 exact tE F u i j v d r q
structure Mk(K:oh)(C f:pA):Prop where
 makes:jfv K C=qm
 init:jcy K (.ref C) "__init__"=nC (nC (.ref f))
 fn:jhK K (.ref f)=qm
 kp:jdO K (.ref C)=qm
theorem jU{b:List (pA×Obj)}{g:St}{H:Hp}{s:S6}{Q:VK}{us:List pL}{vs:List V}(M:Mk X.K C f)(F:We X.prog X.w X.K X.mg X.base CX k f fd ps sp)(z:Wi (k+1) X.A)(q:Binds X.K fd ps ds)(t:Vals dvs ds)
 (B:Te CX X E)(I:Inv X b g H s)(r:Vals vs us)
 (h:∀x d,H x=su->H d=su->d≠x->sp (.ref x::(vs++dvs)) (upd (upd H d (.own x)) x (.ins C d [])) (λv m=>v=.non/\Q (.ref x) m) E):
 jcH (model X.prog X.w) X.A (call (.ref C) us) (EP X b g Q) X.xe s:=by
 have i:=h (s.heap.objs.size+1) s.heap.objs.size (I.hok.fresh (jdI _)) (I.hok.fresh (U6 _)) (jcO (jdr _))
 have c:=Inv.made (C:=C) I
 have j:Vals (V.ref (s.heap.objs.size+1)::(vs++dvs)) (jcI (s.heap.objs.size+1)::(us++ds)):=.cons rfl (r.append t)
 have y:(jcI (s.heap.objs.size+1)::us++ds).length=ps.length:=by
  have e:=j.length
  rw[F.len _ _ _ _ i]at e
  exact e.symm
 refine jfD (wH (f:=f) I.QR M.makes M.init (beq_iff_eq.mp M.fn) (jeR (F.run _ X.stack _ _ ⟨jcI (s.heap.objs.size+1)::us,[]⟩ (jcI (s.heap.objs.size+1)::(us++ds)) _ _ E (z.make C us [])
  (c.env0.make C us []) (q _ (jcI (s.heap.objs.size+1)::us) c.QR y) j i) λr J a=>?_))
 cases r with
 |error e=>exact B b g _ _ e J c a
 |ok p=>
  cases p with
  |ret u=>
   obtain⟨v,l,n,G,o,D⟩:=c.after a
   subst o
   exact⟨G,⟨V.ref (s.heap.objs.size+1),l,n,rfl,D⟩⟩
  |next=>exact jdi a
  |brk=>exact jdi a
  |cont=>exact jdi a
theorem fU(M:Mk X.K C f)(F:We X.prog X.w X.K X.mg X.base CX k f fd ps sp)(o:Wi (k+1) X.A)(m:Gl X x)(n:X.mg x=nC (.ref C))(i:Binds X.K fd ps ds)(j:Vals dvs ds)(u:Te CX X E)
 (g:PA X (e::es) t)(b:(x==("__debug__":Str))=vh:=by decide)(l:jc0 (e::es) X.env=(vh,eval e X.env)::jc0 es X.env:=by rfl)(c:(jeh pos (jc0 es X.env)).any (·.1)=vh:=by rfl):
 PE X (.Call (.Name x p) (e::es) [] pos) (ql C sp dvs E t):=by
 intro a s v H Q I h
 refine jdG (Uk I m n ?_ b)
 refine jed (h₀:=X.base) I.ok.mod.kin M.kp (XD (g pos a s v H _ I h) λB z⟨D,y,d,r,q⟩=>⟨d.QR,?_⟩) l c
 exact jU M F o i j u d r q
end
section
variable{X:Cx}{CX:tY}{k:Nat}{f C:pA}{fd:jaF}{ps ks:List Str}{sp:Sp}{E:XK}{x m:Str}{p pos apos kpos:Pos}{e o:Expr}{es:List Expr}{kws:List jgp}{te ta:TE}{t tk:TA}{nm:Option Str}
variable{g:List pL->List pL->List pL}{gV:List V->List V->List V}
end
structure Z9(N P:List Str)(sc:Scope):Prop where
 kind:sc.kind=.function:=by rfl
 co:sc.isCoroutine=vh:=by rfl
 gen:sc.isGenerator=vh:=by rfl
 nd:N.Nodup:=by decide+kernel
 pre:N.take P.length=P:=by rfl
 par:∀x∈P,sc.names.lookup x=nC .local\/sc.names.lookup x=nC .cell:=by decide+kernel
 nofree:∀y∈sc.names,y.2≠.free:=by decide+kernel
theorem Ag{a:Str->Option jeS}{x:Str}:∀{binds:List (Str×pL)}{m:Str->Option pL},(∀v,(x,v)∉binds)->jjx a binds m x=m x
 |[],_,_=>rfl
 |(n,v)::r,m,h=>by
  unfold jjx
  rw[Ag λw hw=>h w (jcx _ hw)]
  split
  .have:x≠n:=by rintro rfl;exact h v U7
   simp[this]
  .rfl
theorem Ae{a:Str->Option jeS}{x:Str}:∀{binds:List (Str×pL)}{m:Str->Option pL},(∀v,(x,v)∉binds)->jjy a binds m x=m x
 |[],_,_=>rfl
 |(n,v)::r,m,h=>by
  unfold jjy
  rw[Ae λw hw=>h w (jcx _ hw)]
  split
  .rfl
  .have:x≠n:=by rintro rfl;exact h v U7
   simp[this]
theorem Af{a:Str->Option jeS}{x:Str}{v:pL}:∀{P:List Str}{vs:List pL}{i:Nat}{m:Str->Option pL},P.Nodup->P[i]?=nC x->vs[i]?=nC v->a x=nC .local->
 jjx a (P.zip vs) m x=nC v
 |[],_,_,_,_,h,_,_=>by simp at h
 |_::_,[],_,_,_,_,h,_=>by simp at h
 |p::P,w::vs,0,m,nd,h1,h2,hk=>by
  simp at h1 h2;subst h1;subst h2
  show jjx a ((p,w)::P.zip vs) m p=_
  unfold jjx
  rw[Ag λv b=>(jgH.mp nd).1 (jh0 b).1,if_pos hk]
  simp
 |p::P,w::vs,i+1,m,nd,h1,h2,hk=>by
  show jjx a ((p,w)::P.zip vs) m x=_
  unfold jjx
  exact Af (i:=i) (jgH.mp nd).2 (by simpa using h1) (by simpa using h2) hk
theorem Ad{a:Str->Option jeS}{x:Str}{v:pL}:∀{P:List Str}{vs:List pL}{i:Nat}{m:Str->Option pL},P.Nodup->P[i]?=nC x->vs[i]?=nC v->a x≠nC .local->
 jjy a (P.zip vs) m x=nC v
 |[],_,_,_,_,h,_,_=>by simp at h
 |_::_,[],_,_,_,_,h,_=>by simp at h
 |p::P,w::vs,0,m,nd,h1,h2,hk=>by
  simp at h1 h2;subst h1;subst h2
  show jjy a ((p,w)::P.zip vs) m p=_
  unfold jjy
  rw[Ae λv b=>(jgH.mp nd).1 (jh0 b).1,if_neg hk]
  simp
 |p::P,w::vs,i+1,m,nd,h1,h2,hk=>by
  show jjy a ((p,w)::P.zip vs) m x=_
  unfold jjy
  exact Ad (i:=i) (jgH.mp nd).2 (by simpa using h1) (by simpa using h2) hk
noncomputable def start (N:List Str) (vs:List V):St:=vs.map nC++jcU (N.length-vs.length) su
noncomputable def Ht (CX:tY) (P:jcz) (w:jcS) (K:oh) (mg:Str->Option pL) (base:jcX) (N:List Str) (b:Str) (a:Scope) (f:pA) (d:pL) (A:jdc) (outer:List Env) (s:S6) (H:Hp) (E:XK):Cx where
 prog:=P
 w:=w
 K:=K
 mg:=mg
 base:=base
 A:=A.deeper (jgI b a s.heap.objs.size f d)
 N:=N
 s₀:=s
 H₀:=H
 env:=jgI b a s.heap.objs.size f d
 outer:=outer
 stack:=jgI b a s.heap.objs.size f d::outer
 ex:=[]
 calm:=qm
 fn:=λ_=>qm
 pn:=[]
 xe:=λe h=>jcH (model P w) (A.deeper (jgI b a s.heap.objs.size f d)) (leaving (jgI b a s.heap.objs.size f d) e) (λ_ c=>CX outer H s E e c) (λg c=>CX outer H s E g c) h
theorem Ex{a:Scope}{n:Nat}{x:Str}(h:a.names.lookup x=nC .cell):∃c,(jgX n a.names []).lookup x=nC c:=by
 have q:=jhM a.names n [] (.inl h)
 exact jes.mp q
theorem pM{CX:tY}{P:jcz}{w:jcS}{K:oh}{mg:Str->Option pL}{base:jcX}{N ps:List Str}{j:Str}{d:Scope}{f:pA}{C:pL}{A:jdc}{g:List Env}{s s1:S6}{H:Hp}{E:XK}{us:List pL}{vs:List V}
 (S:Z9 N ps d)(L:A.handled=su)(m:xx P w K mg base A g s H)(R:vs.length=ps.length)(r:Vals vs us)
 (x:InCallC s s.heap.objs.size (jjx (jgI j d s.heap.objs.size f C).kindOf (ps.zip us) λ_=>su) (jgX (s.heap.objs.size+1) d.names []) (jjy (jgI j d s.heap.objs.size f C).kindOf (ps.zip us) λ_=>su) s1):
 Inv (Ht CX P w K mg base N j d f C A g s H E) [] (start N vs) H s1:=by
 have M:ps.length<=N.length:=by have:=congrArg jd7 S.pre;rw[jcB]at this;omega
 obtain⟨D,T,rfl,G⟩:=x.done
 have aH:∀b:pA,b∉(Ht CX P w K mg base N j d f C A g s H E).ex:=λb z=>absurd (show b∈([]:List pA)from z) (by simp)
 refine⟨⟨m.mod,S.kind,rfl,rfl,U6 _,λy z c D l=>?_,λy o=>?_,λy c _ h=>?_,λ_=>L,Around.frames_deeper m.frames,.inr ⟨rfl,rfl⟩,λb z=>absurd z (aH b),m.bs,m.bsz,λb _ _=>aH b,λb z=>absurd z (aH b),m.Mu,m.frf⟩,
  rfl,m.bare,Un.kept G,⟨_,x.toInCall.ns,λi y v D l Q=>?_⟩,λy c h=>⟨_,x.cell y c h⟩,m.hok.fresh (U6 _),λy c h=>?_,λp t=>absurd (show p∈([]:List (pA×Obj))from t) (by simp),m.hok.kept G,?_⟩
 .exact name_of_addr x.apart (jfa D) (jfa l)
 .have o:d.names.lookup y=nC .cell\/d.names.lookup y=nC .free:=o
  rcases o with o|o
  .exact Ex o
  .exact absurd rfl (S.nofree _ (jfa o))
 .exact jer (x.above y c (jfa h))
 .have F:i<vs.length:=by
   unfold start at l
   by_cases F:i<vs.length
   .exact F
   .rw[jdv (by simpa using F)]at l
    rw[jfd]at l
    split at l<;>cases l
  have J:vs[i]?=nC v:=by
   unfold start at l
   rw[jdQ (by simpa using F),jcF]at l
   cases e:vs[i]? with
   |none=>rw[e]at l;cases l
   |some a=>rw[e]at l;cases l;rfl
  obtain⟨u,I,O⟩:=r.get J
  have t:ps[i]?=nC y:=by
   rw[<-S.pre,List.getElem?_take_of_lt (by omega)];exact D
  have B:ps.Nodup:=by rw[<-S.pre];exact S.nd.sublist (ji1 _ _)
  refine⟨u,O,?_⟩
  rcases S.par y (jcE t)with k|k
  .exact .inl ⟨k,Af B t I k⟩
  .obtain⟨c,e⟩:=Ex (n:=s.heap.objs.size+1) k
   refine .inr ⟨.inl k,c,e,?_⟩
   have q:=x.cell y c e
   rw[Ad B t I (by show d.names.lookup y≠_;rw[k];decide)]at q
   exact q
 .exact m.hok.fresh (jer (x.above y c (jfa h)))
 .unfold start
  show _=N.length
  rw[O1,rz,jdf]
  omega
theorem dX{CX:tY}{P:jcz}{w:jcS}{K:oh}{mg:Str->Option pL}{base:jcX}{k:Nat}{f:pA}{name d:Str}{h:Arguments}{i:List jde}{a:Scope}{Z kV z pm g Y oc:pL}{U od:Option pA}
 {O:Array (Option pL)}{N ps:List Str}{sp:Sp}(lk:K.lookup f=nC ⟨oc,od,.func (jdx name d h i a Z kV z pm U g Y),O⟩)(G:jf0 K g d=qm)(S:Z9 N ps a)
 (F:∀vs H Q E,sp vs H Q E->vs.length=ps.length)
 (l:∀(A:jdc)(c:List Env)(s:S6)(H:Hp)(vs:List V)(Q:VK)(E:XK),Wi k (A.deeper (jgI d a s.heap.objs.size f g))->sp vs H Q E->
  ∃t,vQ (Ht CX P w K mg base N d a f g A c s H E) i t/\t {nx:=λ_ H'=>Q .non H',rt:=Q} (start N vs) H):
 We P w K mg base CX (k+1) f (jdx name d h i a Z kV z pm U g Y) ps sp:=by
 refine⟨F,λA c s H X us vs Q E L B hb r D=>?_⟩
 have hl:=F _ _ _ _ D
 have T:K.In s.heap:=B.mod.kin.keeps λb o e=>(B.bs b o e).1
 have M:s.heap.NoLimit:=B.mod.nolimit.keeps λb o e=>(B.bs b o e).1
 have m:∀y∈ps.zip us,a.names.lookup y.1=nC .local\/(a.names.lookup y.1=nC .cell/\((jgX (s.heap.objs.size+1) a.names []).lookup y.1).isSome=qm):=λ⟨n,v⟩hy=>by
  rcases S.par n (jh0 hy).1 with q|q
  .exact .inl q
  .exact .inr ⟨q,jhM _ _ _ (.inl q)⟩
 refine codeAny_call_function L.depth (T _ _ lk) rfl S.co S.gen rfl (PySem.W.codeRec_of T G) (hb _ _ _ _ ?_)
 refine wpAny_newFunctionEnv_cells S.kind m λaa he s1 x=>?_
 subst he
 refine⟨M.keeps x.toInCall.keep,codeAny_func ?_⟩
 obtain⟨t,ht,hq⟩:=l A c s H vs Q E (L.deeper _) D
 have I:Inv (Ht CX P w K mg base N d a f g A c s H E) [] (start N vs) H s1:=pM S L.hd B hl r x
 refine jc1 (ht [] s1 (start N vs) H _ I hq) (λfl s' p=>?_) λe s' p=>p
 have C:∀{j:St}{H':Hp}{v:V}{u:pL},Inv (Ht CX P w K mg base N d a f g A c s H E) [] j H' s'->RelV v u->Q v H'->CE c P w H s Q u s':=
  λ{j H' v u}J R q=>⟨v,H',J.os,J.bare,J.base,J.hok,R,q⟩
 cases fl with
 |ret u=>
  obtain⟨v,j,H',J,R,q⟩:=p
  exact C J R q
 |next=>
  obtain⟨j,H',J,q⟩:=p
  exact C (v:=V.non) (u:=jdL) J rfl q
 |brk=>
  obtain⟨_,_,_,q⟩:=p
  exact jdi q
 |cont=>
  obtain⟨_,_,_,q⟩:=p
  exact jdi q
section
variable{X:Cx}{x:Str}{p pos:Pos}{e:Expr}{es:List Expr}{t:TA}{id T:String}{r:List V->Hp->VK->Prop}
noncomputable def qj (r:List V->Hp->VK->Prop) (t:TA):TE:=λc H Q=>t c H λb a=>r b a Q
theorem jr(j:Tw X (.builtin id) r)(m:Gl X x)(n:X.mg x=su)(o:jd5 x=nC (.builtin id))(i:PA X (e::es) t)(hn:x≠"__name__":=by decide)(b:(x==("__debug__":Str))=vh:=by decide)
 (l:jc0 (e::es) X.env=(vh,eval e X.env)::jc0 es X.env:=by rfl)(c:(jeh pos (jc0 es X.env)).any (·.1)=vh:=by rfl):PE X (.Call (.Name x p) (e::es) [] pos) (qj r t):=by
 intro a s d H Q I h
 refine jdG (Pr I m n o ?_ hn b)
 exact jgn (XD (i pos a s d H _ I h) λw v⟨y,f,g,u,q⟩=>j a v d f y w Q g u q) l c
theorem oK(j:Tw X (.type T) r)(m:Gl X x)(n:X.mg x=su)(o:jd5 x=nC (.type T))(i:PA X (e::es) t)(hn:x≠"__name__":=by decide)(b:(x==("__debug__":Str))=vh:=by decide)
 (l:jc0 (e::es) X.env=(vh,eval e X.env)::jc0 es X.env:=by rfl)(c:(jeh pos (jc0 es X.env)).any (·.1)=vh:=by rfl):PE X (.Call (.Name x p) (e::es) [] pos) (qj r t):=by
 intro a s d H Q I h
 refine jdG (Pr I m n o ?_ hn b)
 exact jdH (XD (i pos a s d H _ I h) λw v⟨y,f,g,u,q⟩=>j a v d f y w Q g u q) l c
end
end L2
namespace HT
open PySem PyProof.Rows
section
open PySem.SeqAt
open PySem.AutoSeq1 (wpAny_loadPart')
open PySem.MeetsSeq PySem.MeetsSeq2 PySem.MeetsSeq3
end
section
variable{prog:jcz}{w:jcS}{A:jdc}{E:pL->S6->Prop}{s:S6}
theorem gh{t b:pA}{vs a:List pL}{Q:pL->S6->Prop}(z:IsTup s.heap t vs.toArray)(y:IsTup s.heap b a.toArray)(q:vs≠[])
 (v:a=[]->Q (.ref t) s)(x:a≠[]->Q (.ref s.heap.objs.size) {s with heap:=s.heap.push {cls:=.type "tuple",data:=.seq (vs++a).toArray}})
 (hsz:vs.length+a.length<=qd):jcH (model prog w) A (jd9 .Add (.ref t) (.ref b)) Q E s:=by
 obtain⟨⟨cls,m,data,u⟩,i,o,n,p⟩:=id z
 obtain⟨⟨l,d,j,h⟩,c,f,r,g⟩:=id y
 simp only at o p f g
 subst o p f g
 have e:vs.toArray++a.toArray=(vs++a).toArray:=by simp
 by_cases hw:a=[]
 .exact concat_meets ⟨_,i,rfl⟩ ⟨_,c,rfl⟩ noFill_tuple_add seq_tuple_add jhN jhu (jhm _ _)
   (tuple_addW1 t b vs.toArray a.toArray n r m d u h (by simpa using q) (by simp[hw])) ⟨i,c,v hw⟩
 .refine concat_meets ⟨_,i,rfl⟩ ⟨_,c,rfl⟩ noFill_tuple_add seq_tuple_add jhN jhu (jhm _ _)
   (tuple_addW2 t b vs.toArray a.toArray n r m d u h (by simpa using q) (by simpa using hw) (by rw[jbF,jbF];exact hsz)) ⟨i,c,?_⟩
  rw[e]
  exact x hw
noncomputable def VR (n d:Nat):Option Int->Nat
 |none=>d
 |some v=>if v<0 then(v+(n:Int)).toNat else min v.toNat n
theorem jV(n d:Nat):VR n d su=d:=rfl
theorem Um(n d k:Nat):VR n d (nC (k:Int))=min k n:=by
 show(if(k:Int)<0 then((k:Int)+(n:Int)).toNat else min (k:Int).toNat n)=min k n
 rw[if_neg (by omega),jdD]
theorem tG(n d:Nat)(b:d<=n)(o:Option Int):VR n d o<=n:=by
 cases o with
 |none=>exact b
 |some v=>
  show(if v<0 then(v+(n:Int)).toNat else min v.toNat n)<=n
  by_cases a:v<0
  .rw[if_pos a];omega
  .rw[if_neg a];exact Nat.min_le_right _ _
theorem sS(v:Int)(n d:Nat):(if v<0 then max (v+(n:Int)) 0 else min v (n:Int))=((VR n d (nC v):Nat):Int):=by
 show(if v<0 then max (v+(n:Int)) 0 else min v (n:Int))=(((if v<0 then(v+(n:Int)).toNat else min v.toNat n):Nat):Int)
 by_cases a:v<0
 .simp only[if_pos a];omega
 .simp only[if_neg a];omega
theorem v6(lo a:Option Int)(n:Nat):jfN lo a 1 (n:Int)=(((VR n 0 lo:Nat):Int),((VR n n a:Nat):Int)):=by
 have b:¬((1:Int)<0):=by omega
 unfold jfN
 simp only[b,if_false]
 refine Prod.ext ?_ ?_
 .cases lo with
  |none=>rfl
  |some v=>exact sS v n 0
 .cases a with
  |none=>rfl
  |some v=>exact sS v n n
theorem uW(i j:Nat):jeO (i:Int) (j:Int) 1=j-i:=by
 unfold jeO
 have a:(1:Int)>0:=by omega
 simp only[a,if_true,Int.ediv_one]
 split<;>omega
theorem CZ{v:pL}{o:Option Int}{Q:Option Int->S6->Prop}(p:jie v o)(h:Q o s):jcH (model prog w) A (Builtin.Slice.slicePartIndex v) Q E s:=by
 cases p with
 |none=>exact slicePart_none h
 |int i t=>exact slicePart_int h
theorem Gu{f:pA}{d e:pL}{lo b:Option Int}{n:Nat}{Q:Int×Int×Nat->S6->Prop}(i:s.heap.IsSliceOf f d e .none)(pl:jie d lo)(j:jie e b)
 (h:Q (((VR n 0 lo:Nat):Int),1,VR n n b-VR n 0 lo) s):jcH (model prog w) A (jg2 (.ref f) (pure (n:Int))) Q E s:=by
 obtain⟨l,c,g,a⟩:=id i
 unfold jg2 Builtin.Slice.sliceFields
 refine xT (xT (jeF c a (x:=d) rfl (xT (jeF c a (x:=e) rfl (xT (jeF c a (x:=.none) rfl (jcC ?_)))))))
 refine xT (slicePart_none ?_)
 show jcH _ _ (if((1:Int)==0)=qm then _ else _) _ _ s
 rw[if_neg (by decide)]
 refine xT (CZ pl (xT (CZ j (xT (jcC ?_)))))
 show jcH _ _ (match jfN lo b 1 (n:Int)with|(lo,b)=>pure (lo,(1:Int),jeO lo b 1)) _ _ s
 rw[v6 lo b n]
 show jcH _ _ (pure (((VR n 0 lo:Nat):Int),(1:Int),jeO ((VR n 0 lo:Nat):Int) ((VR n n b:Nat):Int) 1)) _ _ s
 rw[uW]
 exact jcC h
theorem jJ(xs:Array pL)(i k:Nat):((jc4 k).filterMap λ(m:Nat)=>xs[((i:Int)+(m:Int)*1).toNat]?).toArray=((xs.toList.drop i).take k).toArray:=by
 have e:(λ(m:Nat)=>xs[((i:Int)+(m:Int)*1).toNat]?)=λm=>xs[i+m]?:=by
  funext m
  have:((i:Int)+(m:Int)*1).toNat=i+m:=by omega
  rw[this]
 rw[e]
 have:=pick_run xs i k
 rw[List.filterMap_map]at this
 have a:((λx=>xs[x]?)∘λx=>i+x)=λm=>xs[i+m]?:=rfl
 rw[a]at this
 rw[this]
theorem J8{t i:pA}{items:Array pL}{l n:pL}{lo b:Option Int}{Q:pL->S6->Prop}(c:IsTup s.heap t items)(j:s.heap.IsSliceOf i l n .none)(pl:jie l lo)(r:jie n b)
 (hw:¬(VR items.size 0 lo=0/\VR items.size items.size b=items.size))
 (h:Q (.ref s.heap.objs.size) {s with heap:=s.heap.push {cls:=.type "tuple",data:=.seq ((items.toList.drop (VR items.size 0 lo)).take (VR items.size items.size b-VR items.size 0 lo)).toArray}})
 (hsz:items.size<=qd):jcH (model prog w) A (jhO (.ref t) (.ref i)) Q E s:=by
 have a:sizeOk (.seq ((items.toList.drop (VR items.size 0 lo)).take (VR items.size items.size b-VR items.size 0 lo)).toArray):=by
  show((items.toList.drop (VR items.size 0 lo)).take (VR items.size items.size b-VR items.size 0 lo)).toArray.size<=qd
  rw[jbF,jcB,jcG,jgN]
  omega
 have u:VR items.size items.size b<=items.size:=tG _ _ (U6 _) b
 obtain⟨p,g,e,o⟩:=id j
 have d:s.TypeIs (.ref i) "slice":=⟨p,g,e⟩
 unfold jhO
 try with_reducible refine jeG ?_
 first|refine xT (jcC ?_)|skip
 refine xT (wpAny_sequenceKey c.typeIs (by decide) ?_)
 refine xT (wpAny_callSpecial?_slot (name:=jh "__getitem__") c.typeIs jex
  (wpAny_call_entry jex c.typeIs entry_tuple_getitem ?_ (args_tuple_getitem _ _)))
 show jcH _ _ (Builtin.Tuple.tupleItemsOf (.ref t)>>=_) _ _ s
 refine xT (tupleItemsOf_ c ?_)
 refine xT (wpAny_typeOf d ?_)
 rw[if_pos (by decide)]
 refine xT (Gu j pl r ?_)
 have f:¬((((VR items.size 0 lo:Nat):Int)==0&&(1:Int)==1&&(VR items.size items.size b-VR items.size 0 lo)==items.size)=qm):=by
  intro q
  rw[jbE,jbE]at q
  have v:((VR items.size 0 lo:Nat):Int)=0:=eq_of_beq q.1.1
  have x:VR items.size items.size b-VR items.size 0 lo=items.size:=eq_of_beq q.2
  exact hw ⟨by omega,by omega⟩
 show jcH _ _ (if(((VR items.size 0 lo:Nat):Int)==0&&(1:Int)==1&&(VR items.size items.size b-VR items.size 0 lo)==items.size)=qm then _ else _) _ _ s
 rw[if_neg f,jJ]
 first
  |exact xT (m:=je4 _) (jei (jcC ⟨_,rfl,jcC h⟩) a)
  |exact xT (m:=je4 _) (jei (xT (jcC (jcC ⟨_,rfl,jcC h⟩))) a)
  |exact xT (xT (m:=je4 _) (jei (jcC (jcC ⟨_,rfl,jcC h⟩)) a))
  |exact xT (xT (m:=je4 _) (jei (jcC ⟨_,rfl,jcC h⟩) a))
end
end HT
namespace L2
open PySem PySem.Spec PyProof.Rows
noncomputable abbrev TO:=St->Hp->(Option Int->Hp->Prop)->Prop
noncomputable def PO (X:Cx) (e:Option Expr) (t:TO):Prop:=
 ∀(a:List (pA×Obj))(s:S6)(b:St)(H:Hp)(Q:Option Int->Hp->Prop),Inv X a b H s->t b H Q->
  jcH (model X.prog X.w) X.A (evalPart e X.env) (λu d=>∃o c,Inv X a b c d/\jie u o/\Q o c) X.xe s
noncomputable def qt:TO:=λ_ H Q=>Q su H
noncomputable def cX (t:TE):TO:=λb H Q=>t b H λx a=>∃i,x=.int i/\Q (nC i) a
section
variable{X:Cx}{e:Expr}{te:TE}{lo hi:Option Expr}{tl th:TO}{pos p2:Pos}
theorem eE:PO X su qt:=by
 intro a s b H Q I h
 rw[evalPart_none]
 exact jcC ⟨su,H,I,.none,h⟩
theorem eF(h:PE X e te):PO X (nC e) (cX te):=by
 intro a s j H Q I hw
 rw[evalPart_some]
 refine XD (h a s j H _ I hw) λu l g=>?_
 obtain⟨x,b,c,f,d⟩:=g
 obtain⟨i,rfl,q⟩:=d
 obtain⟨t,rfl⟩:=f
 exact⟨nC i,b,c,.int i t,q⟩
noncomputable def jaP (X:Cx) (r:V->Option Int->Option Int->Hp->VK->Prop):Prop:=
 ∀(a:List (pA×Obj))(s:S6)(g:St)(H:Hp)(x:V)(v e f:pL)(c b:Option Int)(d:pA)(Q:VK),Inv X a g H s->RelV x v->s.heap.IsSliceOf d e f .none->jie e c->jie f b->r x c b H Q->
  ∃T id,jiJ (.type T) "__getitem__"=pure (nC (.builtin id))/\s.TypeIs v T/\jcH (model X.prog X.w) X.A (jhO v (.ref d)) (EP X a g Q) X.xe s
noncomputable def jcp (r:V->Option Int->Option Int->Hp->VK->Prop) (e:TE) (g f:TO):TE:=λa H Q=>e a H λx b=>g a b λl c=>f a c λu d=>r x l u d Q
theorem jD{r:V->Option Int->Option Int->Hp->VK->Prop}(E:jaP X r)(B:PE X e te)(D:PO X lo tl)(G:PO X hi th):PE X (.Subscript e (.Slice lo hi su p2) pos) (jcp r te tl th):=by
 intro a s d H Q I h
 refine Subscript_ (XD (B a s d H _ I h) λv P i=>?_)
 obtain⟨x,m,o,O,L⟩:=i
 refine wpAny_Slice (XD (D a P d m _ o L) λf R⟨l,n,p,J,M⟩=>XD (G a R d n _ p M) λg c i=>?_)
 obtain⟨u,j,t,K,N⟩:=i
 rw[evalPart_none]
 refine jcC ?_
 have y:Inv X a d j {c with heap:=c.heap.push {cls:=.type "slice",data:=.fields #[f,g,.none]}}:=t.kept (t':=c.toks) λb S q=>U4 _ q
 obtain⟨T,id,z,F,C⟩:=E a {c with heap:=c.heap.push {cls:=.type "slice",data:=.fields #[f,g,.none]}} d j x v f g l u c.heap.objs.size Q y O (Heap.IsSliceOf.new ..) J K N
 show jcH (model X.prog X.w) X.A (jiB e (.Slice lo hi su p2) v (.ref c.heap.objs.size)) (EP X a d Q) X.xe {c with heap:=c.heap.push {cls:=.type "slice",data:=.fields #[f,g,.none]}}
 exact tail_any (ops:=[.ref c.heap.objs.size,v]) F z C (by with_unfolding_all rfl)
noncomputable def xV (xs:List V) (lo a:Option Int):List V:=(xs.drop (HT.VR xs.length 0 lo)).take (HT.VR xs.length xs.length a-HT.VR xs.length 0 lo)
theorem GX(xs:List V)(lo a:Option Int):(xV xs lo a).length<=xs.length:=by
 unfold xV
 rw[jcB,jcG]
 omega
noncomputable def jcc (K:oh):V->Option Int->Option Int->Hp->VK->Prop:=λx d c H Q=>∃a b,x=.ref a/\Su K H a b/\
 ¬(HT.VR b.length 0 d=0/\HT.VR b.length b.length c=b.length)/\∀p,H p=su->Q (.ref p) (upd H p (.tup (xV b d c)))
theorem jaz:jaP X (jcc X.K):=by
 intro l s B H x v z A e f y Q I u m p t h
 obtain⟨a,d,rfl,n,hw,q⟩:=h
 cases u
 obtain⟨g,r,i,j⟩:=I.tuple n
 have c:g.toArray.size=d.length:=by rw[jbF];exact r.length.symm
 refine⟨"tuple",_,jex.lookup,i.typeIs,?_⟩
 refine HT.J8 i m p t (by rw[c];exact hw) ?_ (by rw[c];exact j)
 rw[c]
 refine⟨.ref s.heap.objs.size,_,I.laid (t':=s.toks) (o:=.tup (xV d e f)) (λb w q=>U4 _ q) (U6 _) ?_,rfl,q _ (I.hok.fresh (U6 _))⟩
 exact⟨jc9 (GX d e f) j,_,(r.drop (HT.VR d.length 0 e)).take (HT.VR d.length d.length f-HT.VR d.length 0 e),IsTup.new _ _⟩
noncomputable def jbn (K:oh):R2:=λx y H Q=>∃a b d c,x=.ref a/\y=.ref b/\Su K H a d/\Su K H b c/\d≠[]/\d.length+c.length<=qd/\
 (c=[]->Q (.ref a) H)/\(c≠[]->∀p,H p=su->Q (.ref p) (upd H p (.tup (d++c))))
theorem Vals.yq{xs:List V}{us:List pL}(r:Vals xs us):us=[]↔xs=[]:=by
 cases r with
 |nil=>simp
 |cons _ _=>simp
theorem fc:SJ X (jd9 .Add) (jbn X.K):=by
 intro g s F H x y v u Q I A B h
 obtain⟨a,b,C,D,rfl,rfl,i,j,l,e,r,t⟩:=h
 cases A
 cases B
 obtain⟨m,d,n,_⟩:=I.tuple i
 obtain⟨f,c,p,_⟩:=I.tuple j
 refine HT.gh n p (λz=>l (d.yq.mp z)) (λz=>⟨.ref a,H,I,rfl,r (c.yq.mp z)⟩) (λz=>?_) (by rw[<-d.length,<-c.length];exact e)
 refine⟨.ref s.heap.objs.size,_,I.laid (t':=s.toks) (o:=.tup (C++D)) (λb E q=>U4 _ q) (U6 _) ?_,rfl,t (λw=>z (c.yq.mpr w)) _ (I.hok.fresh (U6 _))⟩
 exact⟨by rw[O1];exact e,_,d.append c,IsTup.new _ _⟩
end
noncomputable def cj (n:Nat) (i:Int):Option Nat:=if 0<=i then(if i<n then nC i.toNat else su)else if-(n:Int)<=i then nC (i+n).toNat else su
noncomputable def Ac {α:Type} (xs:List α) (i:Int):Option α:=(cj xs.length i).bind λj=>xs[j]?
theorem gJ{n:Nat}{i:Int}{j:Nat}(h:cj n i=nC j):seqIndex? i n=nC j/\j<n/\-(n:Int)<=i/\i<n:=by
 unfold cj at h
 by_cases b:0<=i
 .rw[if_pos b]at h
  by_cases a:i<n
  .rw[if_pos a]at h
   have e:i.toNat=j:=jc8 h
   exact⟨by rw[seqIndex_of b a,e],by omega,by omega,a⟩
  .rw[if_neg a]at h;cases h
 .rw[if_neg b]at h
  by_cases a:-(n:Int)<=i
  .rw[if_pos a]at h
   have e:(i+n).toNat=j:=jc8 h
   exact⟨by rw[seqIndex_neg (by omega) a,e],by omega,a,by omega⟩
  .rw[if_neg a]at h;cases h
theorem zX{a:Type}{xs:List a}{i:Int}{v:a}(h:Ac xs i=nC v):∃j,seqIndex? i xs.length=nC j/\xs[j]?=nC v/\j<xs.length/\-(xs.length:Int)<=i/\i<xs.length:=by
 unfold Ac at h
 cases e:cj xs.length i with
 |none=>rw[e]at h;cases h
 |some j=>
  rw[e]at h
  obtain⟨b,c,d,f⟩:=gJ e
  exact⟨j,b,h,c,d,f⟩
theorem FQ{a:Type}{xs:List a}{j:Nat}{v:a}(h:xs[j]?=nC v):Ac xs (j:Int)=nC v:=by
 have b:j<xs.length:=(jcP.mp h).1
 have e:cj xs.length (j:Int)=nC j:=by
  unfold cj
  rw[if_pos (by omega),if_pos (by omega)];simp
 unfold Ac;rw[e];exact h
noncomputable def sE (b:Expr):Prop:=∀o i,subscripted b vh o i=operate [o,i] (jhO o i)
noncomputable def bw (X:Cx) (r:R2):Prop:=
 ∀(c a:Expr)(b:List (pA×Obj))(s:S6)(d:St)(H:Hp)(x y:V)(v u:pL)(Q:VK),Inv X b d H s->RelV x v->RelV y u->r x y H Q->
  subscripted a vh v u=operate [v,u] (jhO v u)->jcH (model X.prog X.w) X.A (jiB c a v u) (EP X b d Q) X.xe s
noncomputable def jbR (X:Cx) (id:String) (r:V->List V->Hp->VK->Prop):Prop:=
 ∀(a:List (pA×Obj))(s:S6)(d:St)(H:Hp)(x:V)(c:List V)(v:pL)(b:List pL)(Q:VK),Inv X a d H s->RelV x v->Vals c b->r x c H Q->
  jcH (model X.prog X.w) X.A (call (.builtin id) (v::b)) (EP X a d Q) X.xe s
section
variable{X:Cx}{a b:Expr}{ta tb:TE}{pos:Pos}
theorem jbg{r:R2}(i:bw X r)(f:PE X a ta)(g:PE X b tb)(j:sE b):PE X (.Subscript a b pos) (cW r ta tb):=by
 intro c s o H Q I h
 exact Subscript_ (bF f g I h λv u n x y d e l m q=>i a b c n o d x y v u Q e l m q (j _ _))
noncomputable def jbq (K:oh):R2:=λx y H Q=>∃p a i v,x=.ref p/\y=.int i/\Yy K H p a/\Ac a i=nC v/\Q v H
noncomputable def jbr (K:oh):R2:=λx y H Q=>∃p a i v,x=.ref p/\y=.int i/\Su K H p a/\Ac a i=nC v/\Q v H
noncomputable def jb7:R2:=λx y H Q=>∃z i c,x=.str z/\y=.int i/\z.length<=qd/\Ac z.cps.toList i=nC c/\Q (.str ⟨#[c]⟩) H
theorem gK:bw X (jbq X.K):=by
 intro m l a s B H x y v u Q I L M h A
 obtain⟨p,S,i,z,rfl,rfl,J,F,q⟩:=h
 cases L
 obtain⟨t,rfl⟩:=M
 obtain⟨e,r,f,R⟩:=I.list J
 obtain⟨j,c,C,O,D,E⟩:=zX F
 obtain⟨w,n,g⟩:=r.get C
 have G:=r.length
 have P:=Dt
 have b:EP X a B Q w s:=⟨z,H,I,g,q⟩
 by_cases o:0<=i
 .have d:i.toNat=j:=by
   rw[seqIndex_of o E]at c
   exact jc8 c
  exact item_listR f.isList o (by omega) (by rw[d];simpa using n) b A
 .have d:(i+(e.toArray.size:Int)).toNat=j:=by
   rw[seqIndex_neg (by omega) D]at c
   rw[jbF,<-G]
   exact jc8 c
  exact jhP (x:=w) f.isList.typeIs slot_list_getitem.lookup
   (wpAny_getItem_list_neg (Q:=λr N=>r=w/\EP X a B Q r N) f.isList (by omega) (by rw[jbF]<;>omega) (by omega) (by rw[d];simpa using n) ⟨rfl,b⟩) A
theorem uB:bw X (jbr X.K):=by
 intro e d a s g H x y v u Q I E F h C
 obtain⟨p,P,i,z,rfl,rfl,B,o,q⟩:=h
 cases E
 obtain⟨t,rfl⟩:=F
 obtain⟨D,r,f,O⟩:=I.tuple B
 obtain⟨j,m,n,J,L,M⟩:=zX o
 obtain⟨w,l,c⟩:=r.get n
 have A:=r.length
 have N:=Dt
 have b:EP X a g Q w s:=⟨z,H,I,c,q⟩
 exact jhP (x:=w) f.typeIs jex.lookup
  (getItem_tuple (j:=j) (Q:=λr G=>r=w/\EP X a g Q r G) f (by omega) (by omega) (by rw[jbF,<-A];exact m) (by simpa using l) ⟨rfl,b⟩) C
theorem Jo:bw X jb7:=by
 intro b a e s F H x y v u Q I w A h r
 obtain⟨z,i,c,rfl,rfl,D,o,q⟩:=h
 obtain⟨t,rfl⟩:=w
 obtain⟨E,rfl⟩:=A
 obtain⟨j,d,l,B,m,n⟩:=zX o
 have p:z.cps.toList.length=z.length:=by simp[Str.length]
 rw[p]at d m n
 have C:=Dt
 exact tail_any (je5 s z t) slot_str_getitem.lookup (getItem_str (c:=c) (by
  have f:decide (i< -(2^63:Int))=vh:=decide_eq_false (by omega)
  have g:decide (i>=2^63)=vh:=decide_eq_false (by omega)
  rw[f,g,Bool.or_false]) (by rw[d];simpa using l) ⟨.str ⟨#[c]⟩,H,I.tok _,⟨_,rfl⟩,q⟩) r
theorem yR(lo a:Option Int)(n:Nat):(jf3 lo a su n).1=((HT.VR n 0 lo:Nat):Int)/\(jf3 lo a su n).2.1=((HT.VR n n a:Nat):Int)/\(jf3 lo a su n).2.2=1:=by
 refine⟨?_,?_,rfl⟩
 .cases lo with
  |none=>simp[jf3,HT.VR]
  |some i=>
   simp only[jf3,HT.VR,jji,show(1:Int)>0 by decide,if_true]
   by_cases h:i<0
   .simp only[h,if_true]<;>omega
   .simp only[h,if_false]<;>omega
 .cases a with
  |none=>simp[jf3,HT.VR]
  |some i=>
   simp only[jf3,HT.VR,jji,show(1:Int)>0 by decide,if_true]
   by_cases h:i<0
   .simp only[h,if_true]<;>omega
   .simp only[h,if_false]<;>omega
theorem BL(a:List pL)(lo b:Option Int):slicePick a.toArray lo b su=((a.drop (HT.VR a.length 0 lo)).take (HT.VR a.length a.length b-HT.VR a.length 0 lo)).toArray:=by
 obtain⟨c,d,e⟩:=yR lo b a.toArray.size
 unfold slicePick
 rw[c,d,e]
 simp only[sliceRange_one,pick_run,jbF]<;>rfl
noncomputable def jca (K:oh):V->Option Int->Option Int->Hp->VK->Prop:=λx d c H Q=>∃a b,x=.ref a/\Yy K H a b/\∀p,H p=su->Q (.ref p) (upd H p (.lst (xV b d c)))
theorem dq:jaP X (jca X.K):=by
 intro i s B H x v z A e f y Q I u j p t h
 obtain⟨a,c,rfl,l,q⟩:=h
 cases u
 obtain⟨n,r,g,m⟩:=I.list l
 have d:=r.length
 refine⟨"list",_,slot_list_getitem.lookup,g.isList.typeIs,?_⟩
 refine wpAny_getItem_list_slice g.isList j p t .none (by simp) ?_ (by rw[jbF]<;>omega)
 rw[BL,<-d]
 refine⟨.ref s.heap.objs.size,_,I.laid (t':=s.toks) (o:=.lst (xV c e f)) (λb w q=>U4 _ q) (U6 _) ?_,rfl,q _ (I.hok.fresh (U6 _))⟩
 exact⟨jc9 (GX c e f) m,_,0,(r.drop (HT.VR c.length 0 e)).take (HT.VR c.length c.length f-HT.VR c.length 0 e),jcK _ rfl⟩
noncomputable def J4:V->Bool
 |.non=>qm
 |.bl _=>qm
 |.int _=>qm
 |.str _=>qm
 |_=>vh
noncomputable def nM:V->V->Bool
 |.non,.non=>qm
 |.bl a,.bl b=>a==b
 |.bl a,.int b=>(if a then 1 else 0)==b
 |.int a,.bl b=>a==(if b then 1 else 0)
 |.int a,.int b=>a==b
 |.str a,.str b=>a==b
 |_,_=>vh
theorem lC{A:jdc}{s:S6}{y x:V}{u v:pL}(f:RelV y u)(c:RelV x v)(g:J4 y=qm)(e:J4 x=qm):jiK A s u v (nM y x):=by
 cases y with
 |non=>
  cases f
  cases x with
  |non=>cases c;exact SeqAt.EqAt.same _
  |bl b=>cases c;exact SeqAt.EqAt.none_bool b
  |int b=>obtain⟨t,rfl⟩:=c;exact SeqAt.EqAt.none_int b t
  |str b=>obtain⟨t,rfl⟩:=c;exact SeqAt.EqAt.none_str b t
  |_=>exact absurd (show vh=qm from e) jbJ
 |bl a=>
  cases f
  cases x with
  |non=>cases c;exact SeqAt.EqAt.bool_none a
  |bl b=>cases c;exact SeqAt.EqAt.bool_bool a b
  |int b=>obtain⟨t,rfl⟩:=c;exact SeqAt.EqAt.bool_int a b t
  |str b=>obtain⟨t,rfl⟩:=c;exact SeqAt.EqAt.bool_str a b t
  |_=>exact absurd (show vh=qm from e) jbJ
 |int a=>
  obtain⟨d,rfl⟩:=f
  cases x with
  |non=>cases c;exact SeqAt.EqAt.int_none a d
  |bl b=>cases c;exact SeqAt.EqAt.int_bool a d b
  |int b=>obtain⟨t,rfl⟩:=c;exact jiL a d b t
  |str b=>obtain⟨t,rfl⟩:=c;exact jiF a d b t
  |_=>exact absurd (show vh=qm from e) jbJ
 |str a=>
  obtain⟨d,rfl⟩:=f
  cases x with
  |non=>cases c;exact SeqAt.EqAt.str_none a d
  |bl b=>cases c;exact SeqAt.EqAt.str_bool a d b
  |int b=>obtain⟨t,rfl⟩:=c;exact jiG a d b t
  |str b=>obtain⟨t,rfl⟩:=c;exact SeqAt.EqAt.str_str a d b t
  |_=>exact absurd (show vh=qm from e) jbJ
 |_=>exact absurd (show vh=qm from g) jbJ
noncomputable def ye (x:V) (u:pL):Bool:=match u with
 |.none=>nM .non x
 |.bool b=>nM (.bl b) x
 |.int i _=>nM (.int i) x
 |.str z _=>nM (.str z) x
 |_=>vh
theorem uf{x y:V}{u:pL}(r:RelV y u)(f:J4 y=qm):ye x u=nM y x:=by
 cases y with
 |non=>cases r;rfl
 |bl b=>cases r;rfl
 |int i=>obtain⟨t,rfl⟩:=r;rfl
 |str z=>obtain⟨t,rfl⟩:=r;rfl
 |_=>exact absurd (show vh=qm from f) jbJ
theorem JX{x:V}:∀{xs:List V}{us:List pL},Vals xs us->xs.all J4=qm->us.any (ye x)=xs.any λy=>nM y x
 |_,_,.nil,_=>rfl
 |y::xs,u::us,.cons r t,f=>by
  rw[jd2,jbE]at f
  rw[jgq,jgq,uf r f.1,JX t f.2]
theorem Oa{A:jdc}{s:S6}{x:V}{v:pL}(c:RelV x v)(b:J4 x=qm):∀{xs:List V}{us:List pL},Vals xs us->xs.all J4=qm->∀u∈us,jiK A s u v (ye x u)
 |_,_,.nil,_=>λu a=>by cases a
 |y::xs,u::us,.cons r t,f=>λd a=>by
  rw[jd2,jbE]at f
  rcases jbK.mp a with rfl|a
  .rw[uf r f.1];exact lC r c f.1 b
  .exact Oa c b t f.2 d a
noncomputable def inV (x:V) (xs:List V):Bool:=xs.any λy=>nM y x
noncomputable def jck (K:oh) (neg:Bool):R2:=λx y H Q=>∃p a,y=.ref p/\(Yy K H p a\/Su K H p a)/\J4 x=qm/\a.all J4=qm/\Q (.bl (if neg then !inV x a else inV x a)) H
theorem zg:SJ X (jdj .In) (jck X.K vh):=by
 intro e s l H x y v u Q I f i h
 obtain⟨p,j,rfl,b,d,fs,q⟩:=h
 cases i
 rcases b with b|b
 .obtain⟨a,r,c,g⟩:=I.list b
  refine SeqAt.in_listAt (ye x) c.isList (λw hw=>Oa f d r fs w (by simpa using hw)) ⟨.bl _,H,I,rfl,?_⟩
  rw[show a.toArray.any (ye x)=a.any (ye x)by simp,JX r fs]
  exact q
 .obtain⟨a,r,c,g⟩:=I.tuple b
  refine SeqAt.in_tupleAt (ye x) c (λw hw=>Oa f d r fs w (by simpa using hw)) ⟨.bl _,H,I,rfl,?_⟩
  rw[show a.toArray.any (ye x)=a.any (ye x)by simp,JX r fs]
  exact q
theorem Qd:SJ X (jdj .NotIn) (jck X.K qm):=by
 intro e s l H x y v u Q I f i h
 obtain⟨p,j,rfl,b,d,fs,q⟩:=h
 cases i
 rcases b with b|b
 .obtain⟨a,r,c,g⟩:=I.list b
  refine SeqAt.notIn_listAt (ye x) c.isList (λw hw=>Oa f d r fs w (by simpa using hw)) ⟨.bl _,H,I,rfl,?_⟩
  rw[show a.toArray.any (ye x)=a.any (ye x)by simp,JX r fs]
  exact q
 .obtain⟨a,r,c,g⟩:=I.tuple b
  refine SeqAt.notIn_tupleAt (ye x) c (λw hw=>Oa f d r fs w (by simpa using hw)) ⟨.bl _,H,I,rfl,?_⟩
  rw[show a.toArray.any (ye x)=a.any (ye x)by simp,JX r fs]
  exact q
theorem YK:Tw X (.builtin "len") (λxs H Q=>∃p ys,xs=[.ref p]/\(Yy X.K H p ys\/Su X.K H p ys)/\Q (.int ys.length) H):=by
 intro f s m H xs l Q I r h
 obtain⟨p,ys,rfl,b,q⟩:=h
 obtain⟨u,rfl,i⟩:=vals1 r
 cases i
 have j:=Dt
 rcases b with b|b
 .obtain⟨c,e,d,g⟩:=I.list b
  have a:=e.length
  exact Calls.call_len_list d.isList (by simp only[jbF]<;>omega) ⟨.int ys.length,H,I.tok _,⟨s.toks+1,by rw[jbF,a]⟩,q⟩
 .obtain⟨c,e,d,g⟩:=I.tuple b
  have a:=e.length
  exact len_tuple d (by simp only[jbF]<;>omega) ⟨.int ys.length,H,I.tok _,⟨s.toks+1,by rw[jbF,a]⟩,q⟩
theorem YL:Tw X (.builtin "len") (λxs H Q=>∃z,xs=[.str z]/\z.length<=qd/\Q (.int z.length) H):=by
 intro a s e H xs d Q I r h
 obtain⟨z,rfl,c,q⟩:=h
 obtain⟨u,rfl,t,rfl⟩:=vals1 r
 have b:=Dt
 exact len_str (by omega) ⟨.int z.length,H,I.tok _,⟨_,rfl⟩,q⟩
theorem OD:Tw X (.type "list") (λxs H Q=>∃p ys,xs=[.ref p]/\(Yy X.K H p ys\/Su X.K H p ys)/\∀l,H l=su->Q (.ref l) (upd H l (.lst ys))):=by
 intro v s D H xs E Q I r h
 obtain⟨p,ys,rfl,j,q⟩:=h
 obtain⟨u,rfl,C⟩:=vals1 r
 cases C
 have g:∀(a:List pL),Vals ys a->ys.length<=qd->∀(c:jcX)(d:Nat),(∀b B,s.heap.get? b=nC B->c.get? b=nC B)->
  c.get? s.heap.objs.size=nC {cls:=.type "list",dict:=su,data:=.seq a.toArray d,slots:=#[]}->EP X v D Q (.ref s.heap.objs.size) {s with heap:=c}:=λa f m c d t e=>
  ⟨.ref s.heap.objs.size,_,I.laid (t':=s.toks) t (U6 _) (show Xx X.prog X.w _ c _ (.lst ys)from⟨m,a,d,f,e⟩),rfl,q _ (I.hok.fresh (U6 _))⟩
 rcases j with j|j
 .obtain⟨a,f,A,m⟩:=I.list j
  have i:=f.length
  obtain⟨o,z,x,n,y⟩:=A.isList
  exact call_list_seq p (.inl rfl) z x y (λc d t e=>g a f m c d t e) (by simp only[jbF]<;>omega)
 .obtain⟨a,f,A,m⟩:=I.tuple j
  have i:=f.length
  obtain⟨o,z,x,n,y⟩:=A
  exact call_list_seq p (.inr rfl) z x y (λc d t e=>g a f m c d t e) (by simp only[jbF]<;>omega)
noncomputable def jcf (K:oh) (T:String) (x:V) (H:Hp):Prop:=match x with
 |.str _=>T="str"
 |.int _=>T="int"
 |.ref p=>(T="list"/\∃b,Yy K H p b)\/(T="tuple"/\∃o,K.lookup p=nC o/\o.cls=.type "tuple"/\o.dict=su)\/
  (T="dict"/\((∃a,H p=nC (.dK a))\/∃a,H p=nC (.dT a)))\/(T="set"/\∃S n,H p=nC (.set S n))
 |_=>False
theorem iy{f:List (pA×Obj)}{y:St}{H:Hp}{s:S6}{T:String}{x:V}{v:pL}(I:Inv X f y H s)(r:RelV x v)(ty:jcf X.K T x H):
 s.TypeIs v T/\∀a,v=.ref a->∃l,s.heap.get? a=nC l/\l.dict=su:=by
 cases x with
 |str z=>
  obtain⟨t,rfl⟩:=r
  cases(show T="str" from ty)
  exact⟨je5 s z t,λ_ e=>nomatch e⟩
 |int i=>
  obtain⟨t,rfl⟩:=r
  cases(show T="int" from ty)
  exact⟨typeIs_int s i t,λ_ e=>nomatch e⟩
 |ref p=>
  cases r
  rcases ty with⟨rfl,A,u⟩|⟨rfl,o,b,q,h⟩|⟨rfl,b⟩|⟨rfl,S,n,b⟩
  .obtain⟨w,_,m,_⟩:=I.list u
   refine⟨m.isList.typeIs,λa e=>?_⟩
   cases e
   obtain⟨o,n,e,c,h,_⟩:=m
   exact⟨o,e,h⟩
  .refine⟨⟨o,I.QR p o b,q⟩,λa e=>?_⟩
   cases e
   exact⟨o,I.QR _ o b,h⟩
  .have z:∃o,s.heap.get? p=nC o/\o.ExactDict:=by
    rcases b with⟨j,b⟩|⟨j,b⟩
    .obtain⟨_,_,_,_,o,_,_,e,d,_⟩:=I.hok p _ b
     exact⟨o,e,d⟩
    .obtain⟨_,_,_,_,o,_,_,e,d,_⟩:=I.hok p _ b
     exact⟨o,e,d⟩
   obtain⟨o,e,d⟩:=z
   refine⟨⟨o,e,d.1⟩,λa g=>?_⟩
   cases g
   exact⟨o,e,d.2.1⟩
  .obtain⟨o,_,_,_,e,d,_⟩:=I.hok p _ b
   refine⟨⟨o,e,d.1⟩,λa g=>?_⟩
   cases g
   exact⟨o,e,d.2.1⟩
 |_=>exact jdi ty
noncomputable def jbN (K:oh) (T:String) (r:V->List V->Hp->VK->Prop) (to:TE) (t:TA):TE:=λb H Q=>to b H λx a=>jcf K T x a/\t b a λd c=>r x d c Q
variable{o e:Expr}{es:List Expr}{to:TE}{t:TA}{name:Str}{apos cpos:Pos}{T id:String}{r:V->List V->Hp->VK->Prop}
theorem cC(D:PlainAttrs T)(g:Slot T name id)(i:typeOf (.builtin id)=pure (.type "method_descriptor"))(A:jbR X id r)(B:PE X o to)(z:PA X (e::es) t)
 (c:jdz o name X.env (eval o X.env)=eval o X.env:=by rfl)
 (f:((jeh cpos (jc0 (e::es) X.env)).all (λx=>!x.1)&&(jfo cpos (jel [] X.env)).all (λx=>x.1.isSome)
  &&decide ((e::es).length+([]:List jgp).length+(if([]:List jgp).isEmpty then 0 else 1)<30))=qm:=by rfl)
 (d:(apos.endLine==cpos.line)=qm:=by rfl)(C:jc0 (e::es) X.env=(vh,eval e X.env)::jc0 es X.env:=by rfl)(b:(jeh cpos (jc0 es X.env)).any (·.1)=vh:=by rfl):
 PE X (.Call (.Attribute o name apos) (e::es) [] cpos) (jbN X.K T r to t):=by
 intro a s j H Q I h
 refine wpAny_Call_method_late c f d rfl (XD (B a s j H _ I h) λv J O=>?_)
 obtain⟨x,p,l,n,ty,E⟩:=O
 obtain⟨w,y⟩:=iy l n ty
 refine⟨T,id,D,g,i,w,y,?_⟩
 have m:=z cpos a J j p _ l E
 rw[C]at m|-
 refine jdS (by show(vh||(jeh cpos (jc0 es X.env)).any (·.1))=vh;rw[b]<;>rfl) (jdP ?_)
 exact XD m λM L⟨N,q,u,G,F⟩=>A a L j q x N v M Q u n G F
end
noncomputable def jcr (X:Cx) (id:String) (r:V->List V->Hp->VK->Prop):Prop:=
 ∀(a:List (pA×Obj))(s:S6)(d:St)(H:Hp)(x:V)(c:List V)(v:pL)(b:List pL)(Q:VK),Inv X a d H s->RelV x v->Vals c b->r x c H Q->
  jcH (model X.prog X.w) X.A (call (.builtin id) (v::b)) (EP X a d Q) X.xe s
theorem Vals.one{x:V}{us:List pL}(h:Vals [x] us):∃u,us=[u]/\RelV x u:=by
 cases h with|cons r h=>cases h with|nil=>exact⟨_,rfl,r⟩
theorem Vals.reverse{xs:List V}{us:List pL}(h:Vals xs us):Vals xs.reverse us.reverse:=by
 induction h with
 |nil=>exact .nil
 |cons r t a=>rw[jhd,jhd];exact Vals.append a (.cons r .nil)
theorem Vals.rep{xs:List V}{us:List pL}(h:Vals xs us):∀k:Nat,Vals (jcU k xs).flatten (jcU k us).flatten
 |0=>.nil
 |k+1=>by
  rw[jek,jek,jga,jga]
  exact Vals.append h (Vals.rep h k)
theorem foldl_rep(b:List pL):∀(k:Nat)(a:List pL),
 jjz (λd f=>d++f) a.toArray (jcU k b.toArray)=(a++(jcU k b).flatten).toArray
 |0,a=>by simp
 |k+1,a=>by
  have e:a.toArray++b.toArray=(a++b).toArray:=by simp
  have c:(a++b)++(jcU k b).flatten=a++(jcU (k+1) b).flatten:=by
   rw[jek,jga,jdu]
  rw[<-c,<-foldl_rep b k (a++b),<-e,jek,jh1]
section
variable{X:Cx}{pins:List (pA×Obj)}{σ:St}{H:Hp}{s:S6}{l b:pA}{xs ys zs:List V}
theorem Inv.jbY{a its':List pL}{n:Nat}{f:Array pL->Array pL}{t':Nat}(I:Inv X pins σ H s)(b:H l=nC (.lst xs))
 (e:s.heap.get? l=nC {cls:=.type "list",data:=.seq a.toArray n})(d:f a.toArray=its'.toArray)(h:Vals ys its')(i:ys.length<=qd):
 Inv X pins σ (upd H l (.lst ys)) {s with heap:=s.heap.update l (jiM f),toks:=t'}:=by
 have q:=PySem.IsL.update e f
 rw[d]at q
 refine I.write (x:=l) (e:=l) (by rw[b];exact trivial) (.inl rfl) (λj u c g=>(jcQ s.heap (jiM f) (jdh c)).trans g) ⟨_,q⟩ ?_
 exact⟨i,its',_,h,q⟩
theorem Inv.ja2{a:List pL}{t':Nat}(I:Inv X pins σ H s)(b:Vals ys a)(c:ys.length<=qd):
 Inv X pins σ (upd H s.heap.objs.size (.lst ys)) {s with heap:=s.heap.push {cls:=.type "list",data:=.seq a.toArray},toks:=t'}:=
 I.laid (λ_ _ q=>U4 _ q) (U6 _) ⟨c,a,0,b,jcK _ rfl⟩
theorem Inv.fresh(I:Inv X pins σ H s):H s.heap.objs.size=su:=I.hok.fresh (U6 _)
theorem Inv.uF(I:Inv X pins σ H s)(b:H l=nC (.lst xs)):xs.length<=qd/\∃(a:List pL)(n:Nat),Vals xs a/\xs.length=a.length/\s.heap.get? l=nC {cls:=.type "list",data:=.seq a.toArray n}:=by
 obtain⟨z,a,n,r,e⟩:=I.hok l _ b
 exact⟨z,a,n,r,r.length,e⟩
theorem jb{n:Nat}(h:n<=qd):jfW n=vh:=by
 unfold jfW
 exact decide_eq_false (by omega)
end
section
variable{X:Cx}
noncomputable def yL:V->List V->Hp->VK->Prop:=λx b H Q=>∃l a y,x=.ref l/\b=[y]/\H l=nC (.lst a)/\a.length<qd/\Q .non (upd H l (.lst (a++[y])))
theorem HH:jcr X "list.append" yL:=by
 intro c s t H x o v m Q I g f h
 obtain⟨l,p,y,rfl,rfl,b,j,q⟩:=h
 cases g
 obtain⟨u,rfl,d⟩:=f.one
 obtain⟨z,a,n,r,i,e⟩:=I.uF b
 refine jgo jh8 ⟨_,e,rfl⟩ F.entry_list_append (F.args_list_append_2 _ _) (PySem.list_append l a.toArray n u (by rw[jbF];omega)) ⟨e,?_⟩
 refine⟨.non,_,I.jbY (its':=a++[u]) b e (by simp) (r.append (.cons d .nil)) ?_,rfl,q⟩
 rw[O1,jh9]
 omega
noncomputable def jb5:R2:=λx y H Q=>∃l b a c,x=.ref l/\y=.ref b/\H l=nC (.lst a)/\H b=nC (.lst c)/\a.length+c.length<=qd/\∀p,H p=su->Q (.ref p) (upd H p (.lst (a++c)))
theorem Vv:SJ X (jd9 .Add) jb5:=by
 intro d s F H x y v u Q I p t h
 obtain⟨l,b,C,E,rfl,rfl,j,i,A,q⟩:=h
 cases p
 cases t
 obtain⟨z,c,n,r,w,e⟩:=I.uF j
 obtain⟨D,a,B,o,m,f⟩:=I.uF i
 refine PySem.P.add_list e f ?_ (by rw[jbF,jbF];omega)
 have g:c.toArray++a.toArray=(c++a).toArray:=by simp
 rw[g]
 exact⟨.ref _,_,I.ja2 (t':=s.toks) (r.append o) (by rw[O1];omega),rfl,q _ I.fresh⟩
noncomputable def jb9:R2:=λx y H Q=>∃l k a,x=.ref l/\y=.int k/\H l=nC (.lst a)/\-(2^63)<=k/\k<2^63/\a.length*k.toNat<=qd/\
 ∀p,H p=su->Q (.ref p) (upd H p (.lst (jcU k.toNat a).flatten))
theorem len_rep{b:Type}(xs:List b)(k:Nat):(jcU k xs).flatten.length=k*xs.length:=by
 induction k with
 |zero=>simp
 |succ k a=>rw[jek,jga,O1,a,jgS,Nat.add_comm]
theorem aP:SJ X (jd9 .Mult) jb9:=by
 intro w s N H x y v u Q I G J h
 obtain⟨l,k,M,rfl,rfl,D,B,C,p,q⟩:=h
 cases G
 obtain⟨t,rfl⟩:=J
 obtain⟨z,b,n,r,E,e⟩:=I.uF D
 have g:b.toArray.size*k.toNat<=qd:=by rw[jbF,<-E];exact p
 have d:¬b.toArray.size*k.toNat>(2^63-1)/8:=by
  have:(qd:Nat)<=(2^63-1)/8:=by decide
  omega
 have f:¬(!Builtin.List.listFitsIndex k)=qm:=by
  rw[fitsIndex_both B C]
  exact jbJ
 have c:¬jfW (b.toArray.size*k.toNat)=qm:=by
  rw[jb g]
  exact jbJ
 have i:jjz (λj o=>j++o) #[] (jcU (if b.toArray.isEmpty=qm then 0 else k.toNat) b.toArray)=(jcU k.toNat b).flatten.toArray:=by
  have A:∀m:Nat,jjz (λj o=>j++o) #[] (jcU m b.toArray)=(jcU m b).flatten.toArray:=λm=>by
   have:=foldl_rep b m []
   rw[List.nil_append]at this
   exact this
  rw[A]
  cases b with
  |nil=>simp
  |cons a L=>rw[if_neg (by simp)]
 refine wpAny_binaryOp_repeat_ref (T:="list") (U:="int") (by decide) ⟨_,e,rfl⟩ (λK=>typeIs_int K k t) noFill_list_mul F.fills_int_mul F.slot_int_rmul repeat_list F.slot_int_index.lookup
  (jgo F.slot_int_rmul (typeIs_int s k t) F.entry_int_rmul (F.args_int_rmul_2 _ _) (int___rmul___int_list k t l b.toArray n)
   ⟨e,rfl,⟨_,e,rfl⟩,jgo F.slot_list_mul ⟨_,e,rfl⟩ F.entry_list_mul (F.args_list_mul_2 _ _) (AutoListH.list___mul___list_int_3 l b.toArray n k t f d c) ⟨e,?_⟩⟩)
 rw[i]
 exact⟨.ref _,_,I.ja2 (t':=s.toks) (r.rep k.toNat) (by rw[len_rep,Nat.mul_comm];exact p),rfl,q _ I.fresh⟩
end
section
variable{prog:jcz}{w:jcS}{A:jdc}{E:pL->S6->Prop}{s:S6}
set_option maxRecDepth 100000 in
end
section
variable{X:Cx}
end
section
variable{κ:Type}[DecidableEq κ]
noncomputable def UV (a:List (κ×V)) (k:κ):Option V:=(a.find? λb=>decide (b.1=k)).map (·.2)
noncomputable def putK (a:List (κ×V)) (k:κ) (v:V):List (κ×V):=
 if(a.any λb=>decide (b.1=k))=qm then a.map (λb=>if b.1=k then(b.1,v)else b)else a++[(k,v)]
theorem Ug{p:κ×V}{r:List (κ×V)}{k:κ}(e:p.1=k):UV (p::r) k=nC p.2:=by simp[UV,jfp,e]
theorem Ue{p:κ×V}{r:List (κ×V)}{k:κ}(e:¬p.1=k):UV (p::r) k=UV r k:=by simp[UV,jfp,e]
theorem Ke(k:κ):∀a:List (κ×V),(a.any λb=>decide (b.1=k))=(UV a k).isSome
 |[]=>rfl
 |p::r=>by
  rw[jgq]
  by_cases e:p.1=k
  .simp only[Ug e,decide_eq_true e,jhQ,Option.isSome_some]
  .rw[Ue e,decide_eq_false e,Bool.false_or];exact Ke k r
theorem vM(k j:κ)(y:V):∀a:List (κ×V),UV (a.map λb=>if b.1=k then(b.1,y)else b) j=(UV a j).map λx=>if j=k then y else x
 |[]=>rfl
 |p::r=>by
  have c:=vM k j y r
  rw[jdy]
  by_cases h:p.1=k
  .rw[if_pos h]
   by_cases e:p.1=j
   .rw[Ug (p:=(p.1,y)) e,Ug e,jgJ,if_pos (e.symm.trans h)]
   .rw[Ue (p:=(p.1,y)) e,Ue e,c]
  .rw[if_neg h]
   by_cases e:p.1=j
   .rw[Ug (p:=p) e,Ug e,jgJ,if_neg (λz=>h (e.trans z))]
   .rw[Ue (p:=p) e,Ue e,c]
theorem Oj(k j:κ)(y:V):∀a:List (κ×V),UV a k=su->UV (a++[(k,y)]) j=if j=k then nC y else UV a j
 |[],_=>by
  by_cases e:k=j
  .rw[if_pos e.symm];exact Ug (p:=(k,y)) e
  .rw[if_neg (λz=>e z.symm)];exact Ue (p:=(k,y)) e
 |p::r,hn=>by
  rw[List.cons_append]
  have b:¬p.1=k:=λz=>by rw[Ug z]at hn;cases hn
  rw[Ue b]at hn
  have c:=Oj k j y r hn
  by_cases e:p.1=j
  .rw[Ug e,Ug e,if_neg (λz=>b (e.trans z))]
  .rw[Ue e,Ue e,c]
theorem vN(b:List (κ×V))(k j:κ)(y:V):UV (putK b k y) j=if j=k then nC y else UV b j:=by
 unfold putK
 by_cases a:(b.any λd=>decide (d.1=k))=qm
 .rw[if_pos a,vM]
  rw[Ke]at a
  by_cases e:j=k
  .obtain⟨x,c⟩:=jes.mp a
   rw[if_pos e,e,c,jgJ,if_pos rfl]
  .rw[if_neg e]
   cases UV b j with
   |none=>rfl
   |some x=>rw[jgJ,if_neg e]
 .rw[if_neg a]
  refine Oj k j y b ?_
  rw[Ke]at a
  cases q:UV b k with
  |none=>rfl
  |some x=>rw[q]at a;exact(a rfl).elim
theorem Mw(a:List (κ×V))(k:κ)(v:V):(putK a k v).length<=a.length+1:=by
 unfold putK
 split
 .rw[rz];omega
 .rw[O1,jc7,jec];omega
theorem w6{a:List (κ×V)}{k:κ}(v:V)(h:UV a k=su):putK a k v=a++[(k,v)]:=by
 unfold putK
 rw[Ke,h]
 exact if_neg (by decide)
theorem Ma.PX{o:Option V}{u:Option pL}(r:Ma o u):o.isSome=u.isSome:=by
 cases o with
 |none=>cases u with
  |none=>rfl
  |some _=>exact(show False from r).elim
 |some _=>cases u with
  |none=>exact(show False from r).elim
  |some _=>rfl
theorem Ma.getD{o:Option V}{u:Option pL}{d:V}{d':pL}(r:Ma o u)(a:RelV d d'):RelV (o.getD d) (u.getD d'):=by
 cases o with
 |none=>cases u with
  |none=>exact a
  |some _=>exact(show False from r).elim
 |some _=>cases u with
  |none=>exact(show False from r).elim
  |some _=>exact r
theorem KV.val{a:List (κ×V)}{vs:List (κ×pL)}(r:KV a vs)(k:κ):Ma (UV a k) (jir vs k):=by
 unfold KV at r
 induction r with
 |nil=>exact je3
 |@cons p q ps qs h t ih=>
  obtain⟨d,f⟩:=h
  by_cases e:p.1=k
  .have c:q.1=k:=d.symm.trans e
   have b:jir (q::qs) k=nC q.2:=by simp[jir,jfp,c]
   rw[Ug e,b];exact f
  .have c:¬q.1=k:=λz=>e (d.trans z)
   have b:jir (q::qs) k=jir qs k:=by simp[jir,jfp,c]
   rw[Ue e,b];exact ih
theorem KV.any{a:List (κ×V)}{vs:List (κ×pL)}(r:KV a vs)(k:κ):(a.any λb=>decide (b.1=k))=vs.any λb=>decide (b.1=k):=by
 unfold KV at r
 induction r with
 |nil=>rfl
 |cons h t c=>rw[jgq,jgq,c,h.1]
theorem KV.repl{b:List (κ×V)}{vs:List (κ×pL)}(r:KV b vs)(k:κ){y:V}{u:pL}(f:RelV y u):
 KV (b.map λa=>if a.1=k then(a.1,y)else a) (vs.map λa=>if a.1=k then(a.1,u)else a):=by
 unfold KV at r|-
 induction r with
 |nil=>exact .nil
 |@cons p q ps qs h t ih=>
  rw[jdy,jdy]
  refine .cons ?_ ih
  obtain⟨c,d⟩:=h
  by_cases e:p.1=k
  .rw[if_pos e,if_pos (c.symm.trans e)];exact⟨c,f⟩
  .rw[if_neg e,if_neg (λz=>e (c.trans z))];exact⟨c,d⟩
theorem KV.put{a:List (κ×V)}{vs:List (κ×pL)}(r:KV a vs)(k:κ){y:V}{u:pL}(b:RelV y u):KV (putK a k y) (stored vs k u):=by
 unfold putK stored
 rw[r.any k]
 by_cases e:(vs.any λc=>decide (c.1=k))=qm
 .rw[if_pos e,if_pos e];exact r.repl k b
 .rw[if_neg e,if_neg e];exact Paired.snoc r ⟨rfl,b⟩
theorem KV.length{a:List (κ×V)}{vs:List (κ×pL)}(r:KV a vs):a.length=vs.length:=Paired.length r
end
theorem Az{P:jcz}{w:jcS}{k:Key}{u:pL}(r:RelV (kV k) u):(Vt P w).is k u=qm:=by
 cases k with
 |inl i=>obtain⟨t,e⟩:=(show∃t,u=jhq i t from r);subst e;exact wK P w i t
 |inr x=>obtain⟨t,e⟩:=(show∃t,u=jfH x t from r);subst e;exact wL P w x t
theorem Av{P:jcz}{w:jcS}:∀{a:List Key}{us:List pL},Vals (a.map kV) us->ItemsAre (Vt P w) a us
 |[],_,r=>by rw[jgb]at r;cases r;exact .nil
 |k::a,_,r=>by
  rw[jdy]at r
  cases r with
  |cons h t=>exact .cons (Az h) (Av t)
noncomputable abbrev KT (H:Hp):List (List Key×V)->List (List Key×pA×pL)->Prop:=Paired λp q=>p.1=q.1/\H q.2.1=nC (.tup (p.1.map kV))/\RelV p.2 q.2.2
theorem KT.val{H:Hp}{a:List (List Key×V)}{xs:List (List Key×pA×pL)}(r:KT H a xs)(k:List Key):Ma (UV a k) ((jjo xs k).map (·.2)):=by
 induction r with
 |nil=>exact je3
 |@cons p q ps qs h t ih=>
  obtain⟨d,_,f⟩:=h
  by_cases e:p.1=k
  .have c:q.1=k:=d.symm.trans e
   have b:jjo (q::qs) k=nC q.2:=by simp[jjo,jfp,c]
   rw[Ug e,b];exact f
  .have c:¬q.1=k:=λz=>e (d.trans z)
   have b:jjo (q::qs) k=jjo qs k:=by simp[jjo,jfp,c]
   rw[Ue e,b];exact ih
theorem KT.repl{H:Hp}{a:List (List Key×V)}{xs:List (List Key×pA×pL)}(r:KT H a xs)(k:List Key){y:V}{u:pL}(g:RelV y u):
 KT H (a.map λc=>if c.1=k then(c.1,y)else c) (xs.map (putAt k u)):=by
 induction r with
 |nil=>exact .nil
 |@cons p q ps qs h t ih=>
  rw[jdy,jdy]
  refine .cons ?_ ih
  obtain⟨b,d,f⟩:=h
  unfold putAt
  by_cases e:p.1=k
  .rw[if_pos e,if_pos (b.symm.trans e)];exact⟨b,d,g⟩
  .rw[if_neg e,if_neg (λz=>e (b.trans z))];exact⟨b,d,f⟩
theorem KT.put{H:Hp}{a:List (List Key×V)}{xs:List (List Key×pA×pL)}(r:KT H a xs)(k:List Key){b:pA}{y:V}{u:pL}(d:H b=nC (.tup (k.map kV)))(c:RelV y u):
 KT H (putK a k y) (storedH xs k b u):=by
 have e:(a.any λf=>decide (f.1=k))=(jjo xs k).isSome:=by
  rw[Ke,(r.val k).PX,jhe]
 unfold putK storedH
 rw[e]
 by_cases q:(jjo xs k).isSome=qm
 .rw[if_pos q,if_pos q];exact r.repl k c
 .rw[if_neg q,if_neg q];exact Paired.snoc r ⟨rfl,d,c⟩
theorem KT.keeps{H H':Hp}{a:List (List Key×V)}{xs:List (List Key×pA×pL)}(r:KT H a xs)(c:∀b ys,H b=nC (.tup ys)->H' b=nC (.tup ys)):KT H' a xs:=
 Paired.aF r λ_ _ z=>⟨z.1,c _ _ z.2.1,z.2.2⟩
section
variable{P:jcz}{w:jcS}{H:Hp}{h:jcX}{a:pA}
theorem cG{u:HO}(ok:Q3 P w H h)(e:Rd H a u):Xx P w H h a u:=e.ok ok
theorem Dh{b:List (Key×V)}(ok:Q3 P w H h)(e:Rd H a (.dK b)):b.length<=qd/\(a==jfj)=vh/\∃vs,KV b vs/\h.DictOf (Vt P w) a vs:=
 show Xx P w H h a (.dK b)from cG ok e
theorem jaR{b:List (Key×V)}(ok:Q3 P w H h)(e:H a=nC (.dK b)):b.length<=qd/\(a==jfj)=vh/\∃vs,KV b vs/\h.DictOf (Vt P w) a vs:=Dh ok (.inl e)
theorem Hy{c:List Key}(ok:Q3 P w H h)(e:H a=nC (.tup (c.map kV))):(jhr (Vt P w)).is h c a:=by
 obtain⟨_,b,r,o,d,f,n,g⟩:=(show Xx P w H h a (.tup (c.map kV))from ok a _ e)
 exact⟨o,b.toArray,n,d,f,g,by simpa using Av r⟩
theorem Di{b:List (List Key×V)}(ok:Q3 P w H h)(e:Rd H a (.dT b)):b.length<=qd/\(a==jfj)=vh/\
 ∃xs,KT H b xs/\h.DictOfH (jhr (Vt P w)) a xs:=by
 obtain⟨z,y,xs,r,o,f,d,g,i,j,n,u⟩:=(show Xx P w H h a (.dT b)from cG ok e)
 refine⟨z,y,xs,r,o,f,d,g,i,j,n,λx c=>?_,u⟩
 have all:∀{l:List (List Key×V)}{m:List (List Key×pA×pL)},KT H l m->∀x∈m,(jhr (Vt P w)).is h x.1 x.2.1:=by
  intro l m q
  induction q with
  |nil=>intro x c;exact nomatch c
  |@cons p q ps qs hq t ih=>
   intro x c
   rcases jbK.mp c with e|c
   .subst e
    exact Hy ok (by rw[<-hq.1];exact hq.2.1)
   .exact ih x c
 exact all r x c
theorem jaS{b:List (List Key×V)}(ok:Q3 P w H h)(e:H a=nC (.dT b)):b.length<=qd/\(a==jfj)=vh/\
 ∃xs,KT H b xs/\h.DictOfH (jhr (Vt P w)) a xs:=Di ok (.inl e)
end
noncomputable def Om (H:Hp) (a:pA) (y:V) (r:Option V):Prop:=
 (∃c k,Rd H a (.dK c)/\y=kV k/\r=UV c k)\/∃c k b,Rd H a (.dT c)/\y=.ref b/\H b=nC (.tup (k.map kV))/\r=UV c k
noncomputable def qD (H:Hp) (a:pA) (y v:V) (H':Hp):Prop:=
 (∃c k,H a=nC (.dK c)/\y=kV k/\c.length<qd/\H'=upd H a (.dK (putK c k v)))\/
 ∃c k b,H a=nC (.dT c)/\y=.ref b/\H b=nC (.tup (k.map kV))/\c.length<qd/\H'=upd H a (.dT (putK c k v))
theorem Om.k{H:Hp}{a:pA}{b:List (Key×V)}{k:Key}(e:H a=nC (.dK b)):Om H a (kV k) (UV b k):=.inl ⟨b,k,.inl e,rfl,rfl⟩
theorem qD.k{H:Hp}{a:pA}{b:List (Key×V)}{k:Key}{v:V}(e:H a=nC (.dK b))(c:b.length<qd):qD H a (kV k) v (upd H a (.dK (putK b k v))):=.inl ⟨b,k,e,rfl,c,rfl⟩
section
variable{X:Cx}{pins:List (pA×Obj)}{σ:St}{H:Hp}{s:S6}{a:pA}{y v:V}{u r:pL}{o:Option V}{A:jdc}{E:pL->S6->Prop}
theorem Inv.big(I:Inv X pins σ H s):jfj<s.heap.objs.size:=by
 have h:jcM<s.heap.objs.size:=(I.mod.glob.keeps I.bk).lt
 exact jhR (by decide) h
theorem qY{Q:pL->S6->Prop}(C:A.units+1<jf9)(I:Inv X pins σ H s)(g:Om H a y (nC v))(q:RelV y u)(h:∀f r,Inv X pins σ H r->RelV v f->Q f r):
 jcH (model X.prog X.w) A (jhO (.ref a) u) Q E s:=by
 rcases g with⟨n,k,e,j,l⟩|⟨n,k,b,e,j,t,l⟩
 .subst j
  obtain⟨z,x,D,c,i⟩:=Dh I.hok e
  obtain⟨f,hw,d⟩:=Ma.some_of (v:=v) (o:=jir D k) (by rw[l];exact c.val k)
  exact wpAny_getItem_of (Az q) i.mapOf hw (h f _ (I.tok _) d)
 .subst j
  cases(show u=jcI b from q)
  obtain⟨z,x,F,c,i⟩:=Di I.hok e
  obtain⟨f,hw,d⟩:=Ma.some_of (v:=v) (o:=(jjo F k).map (·.2)) (by rw[l];exact c.val k)
  obtain⟨p,B,m⟩:=jcT.mp hw
  refine wpAny_getItem_heap (jfk C) (Hy I.hok t) i B ?_
  rw[m]
  exact h f _ (I.tok _) d
theorem jbV{Q:pL->S6->Prop}(r:A.units+1<jf9)(I:Inv X pins σ H s)(g:Om H a y o)(m:RelV y u)(h:∀n,Inv X pins σ H n->Q (.bool o.isSome) n):
 jcH (model X.prog X.w) A (jdj .In u (.ref a)) Q E s:=by
 rcases g with⟨j,k,e,f,l⟩|⟨j,k,b,e,f,p,l⟩
 .subst f
  obtain⟨z,i,t,c,d⟩:=Dh I.hok e
  refine wpAny_in_of (Az m) i d.mapOf ?_
  rw[<-(c.val k).PX,<-l]
  exact h _ (I.tok _)
 .subst f
  cases(show u=jcI b from m)
  obtain⟨z,i,v,c,d⟩:=Di I.hok e
  refine wpAny_in_heap (jfk r) (Hy I.hok p) i d ?_
  have q:=(c.val k).PX
  rw[jhe]at q
  rw[<-q,<-l]
  exact h _ (I.tok _)
theorem gk{Q:pL->S6->Prop}(r:A.units+1<jf9)(I:Inv X pins σ H s)(g:Om H a y o)(m:RelV y u)(h:∀n,Inv X pins σ H n->Q (.bool (!o.isSome)) n):
 jcH (model X.prog X.w) A (jdj .NotIn u (.ref a)) Q E s:=by
 rcases g with⟨j,k,e,f,l⟩|⟨j,k,b,e,f,p,l⟩
 .subst f
  obtain⟨z,i,t,c,d⟩:=Dh I.hok e
  refine wpAny_notIn_of (Az m) i d.mapOf ?_
  rw[<-(c.val k).PX,<-l]
  exact h _ (I.tok _)
 .subst f
  cases(show u=jcI b from m)
  obtain⟨z,i,v,c,d⟩:=Di I.hok e
  refine wpAny_notIn_heap (jfk r) (Hy I.hok p) i d ?_
  have q:=(c.val k).PX
  rw[jhe]at q
  rw[<-q,<-l]
  exact h _ (I.tok _)
theorem sV{h':jcX}{t':Nat}{d:HO}(I:Inv X pins σ H s)(i:jaN (H a))(h:jfI a s.heap h')(g:∃q,h'.get? a=nC q)(c:Xx X.prog X.w (upd H a d) h' a d):
 Inv X pins σ (upd H a d) {s with heap:=h',toks:=t'}:=
 I.write (x:=a) (e:=a) i (.inl rfl) (λb q f z=>(h.2 b f).trans z) g c
theorem bK{P:jcz}{w:jcS}{H':Hp}{h':jcX}{b:List (Key×V)}{vs:List (Key×pL)}(z:b.length<=qd)(d:(a==jfj)=vh)(c:KV b vs)(dd:h'.DictOf (Vt P w) a vs):
 Xx P w H' h' a (.dK b):=⟨z,d,vs,c,dd⟩
theorem qZ{H':Hp}{Q:Unit->S6->Prop}(T:A.units+1<jf9)(I:Inv X pins σ H s)(g:qD H a y v H')(J:RelV y u)(G:RelV v r)(h:∀K,Inv X pins σ H' K->Q () K):
 jcH (model X.prog X.w) A (setItem (.ref a) u r) Q E s:=by
 rcases g with⟨d,k,e,o,l,n⟩|⟨d,k,b,e,o,C,l,n⟩
 .subst o n
  obtain⟨z,p,U,f,m⟩:=jaR I.hok e
  have B:U.length<=qd:=by rw[<-f.length];exact z
  have t:(putK d k v).length<=qd:=by have:=Mw d k v;omega
  refine wpAny_setItem_pairs (hsz:=B) (Az J) m λF i x=>h _ ?_
  have S:∃q,F.get? a=nC q:=let⟨q,_,_,j,_⟩:=i;⟨q,j⟩
  exact sV I (by rw[e];exact je3) x S (bK t p (f.put k G) i)
 .subst o n
  cases(show u=jcI b from J)
  obtain⟨z,p,W,f,m⟩:=jaS I.hok e
  have B:W.length<=qd:=by rw[<-Paired.length f];exact z
  have t:(putK d k v).length<=qd:=by have:=Mw d k v;omega
  refine wpAny_setItem_heap (hsz:=B) (jfk T) (Hy I.hok C) m λF i x=>h _ ?_
  obtain⟨q,M,L,j,N,O,P,_,R⟩:=i
  refine sV I (by rw[e];exact je3) x ⟨q,j⟩ ⟨t,p,_,(f.put k C G).keeps λc Y D=>?_,q,M,L,j,N,O,P,R⟩
  rw[ZX (ja6 D e (λz=>nomatch z))]
  exact D
end
section
variable{X:Cx}{pins:List (pA×Obj)}{σ:St}{H:Hp}{s:S6}{a:pA}{kvs:List (Key×V)}{k:Key}{u:pL}{A:jdc}{E:pL->S6->Prop}
end
noncomputable def bz (i:Expr):Prop:=∀b a,subscripted i vh b a=operate [b,a] (jhO b a)
theorem dC{prog:jcz}{w:jcS}{A:jdc}{E:pL->S6->Prop}{s:S6}{env:Env}{b a:Expr}{pos:Pos}{T id:String}{Q:pL->S6->Prop}
 (m:jiJ (.type T) "__getitem__"=pure (nC (.builtin id)))(n:bz a)
 (h:jcH (model prog w) A (eval b env) (λo d=>jcH (model prog w) A (eval a env) (λi s₂=>s₂.TypeIs o T/\jcH (model prog w) A (jhO o i) Q E s₂) E d) E s):
 jcH (model prog w) A (eval (.Subscript b a pos) env) Q E s:=by
 refine Subscript_ (jc1 h (λo d g=>jc1 g (λi s₂ c=>?_) λ_ _ x=>x) λ_ _ x=>x)
 obtain⟨l,c⟩:=c
 unfold jiB
 refine xT ?_
 rw[getitemInPython_of_ne l.not_modules]
 refine xT (jh2 l m ?_)
 have f:jcH (model prog w) A (subscripted a vh o i) (λr e=>jcH (model prog w) A (letTemporaryGo b o r>>=λ_=>pure r) Q E e) E s₂:=by
  rw[n o i]
  exact wpAny_operating (jc1 c (λr e j=>xT (wpAny_letTemporaryGo (jcC j))) λ_ _ x=>x)
 first
  |exact jcC (xT f)
  |exact xT (jcC (xT f))
  |exact xT f
theorem xX{X:Cx}{c:List (pA×Obj)}{h:St}{H:Hp}{s:S6}{a:pA}{y:V}{o:Option V}(I:Inv X c h H s)(g:Om H a y o):s.TypeIs (.ref a) "dict":=by
 rcases g with⟨f,k,e,_,_⟩|⟨f,k,b,e,_,_,_⟩
 .obtain⟨_,_,i,_,d⟩:=Dh I.hok e
  exact d.typeIs
 .obtain⟨_,_,j,_,d⟩:=Di I.hok e
  exact d.typeIs
noncomputable def cO (e ty:TE):TE:=λc H Q=>e c H λx d=>ty c d λy b=>∃a v,x=.ref a/\Om b a y (nC v)/\Q v b
noncomputable def cH (g ty h:TE):TS:=λD b H=>h b H λv d=>g b d λx e=>ty b e λy f=>∃a c,x=.ref a/\qD f a y v c/\D.nx b c
section
variable{X:Cx}{o i e value:Expr}{pos pos' tpos:Pos}{td ty tv:TE}
theorem fK(t:X.A.units+1<jf9)(q:PE X o td)(p:PE X i ty)(r:bz i):PE X (.Subscript o i pos) (cO td ty):=by
 intro b s e H Q I h
 refine dC PySem.F.slot_dict_getitem.lookup r (XD (q b s e H _ I h) λu D⟨x,f,l,B,w⟩=>XD (p b D e f _ l w) λG J E=>?_)
 obtain⟨y,j,d,C,a,v,n,g,z⟩:=E
 subst n
 obtain rfl:u=jcI a:=B
 exact⟨xX d g,qY t d g C λL K m c=>⟨v,j,m,c,z⟩⟩
theorem eG(z:X.A.units+1<jf9)(t:PE X o td)(q:PE X i ty)(B:PE X value tv)(w:jgm value (nC (.Subscript o i pos')) pos.line X.env=pure vh):
 PS X (.Assign [.Subscript o i pos'] value pos) (cH td ty tv):=by
 intro b s c H D I h
 refine wpAny_Assign_Subscript (XD (B b s c H _ I h) λr L⟨v,d,j,G,C⟩=>XD (t b L c d _ j C) λu M⟨x,e,l,J,E⟩=>XD (q b M c e _ l E) λP Q N=>?_) w
 obtain⟨y,O,m,K,a,f,p,g,F⟩:=N
 subst p
 obtain rfl:u=jcI a:=J
 exact qZ z m g K G λR n=>⟨c,f,n,F⟩
end
theorem mX{P:jcz}{w:jcS}{H:Hp}(h:jcX)(a:jfj<h.objs.size):Xx P w H (h.push {cls:=.type "dict",data:=.dict #[]}) h.objs.size (.dK []):=
 ⟨jcY _,beq_eq_false_iff_ne.mpr (jdh (jcO a)),[],.nil,Heap.DictOf.new h⟩
noncomputable def j4:TE:=λ_ H Q=>∀p,H p=su->Q (.ref p) (upd H p (.dK []))
section
variable{X:Cx}{pos:Pos}
theorem jy:PE X (.Dict [] [] pos) j4:=λb s c H Q I h=>
 wpAny_Dict_empty ⟨.ref s.heap.objs.size,_,I.laid (a:=s.heap.objs.size) (o:=.dK []) (t':=s.toks) (λ_ _ q=>U4 _ q) (U6 _) (mX s.heap I.big),rfl,h _ (I.hok.fresh (U6 _))⟩
end
structure M1(X:Cx)(o:Expr)(m:Str)(apos:Pos)(e:Expr)(cpos:Pos):Prop where
 base:jdz o m X.env (eval o X.env)=eval o X.env
 few:((jeh cpos (jc0 [e] X.env)).all (λx=>!x.1)&&(jfo cpos (jel [] X.env)).all (λx=>x.1.isSome)
  &&decide (([e]:List Expr).length+([]:List jgp).length+(if([]:List jgp).isEmpty then 0 else 1)<30))=qm
 line:(apos.endLine==cpos.line)=qm
 trees:jeh cpos (jc0 [e] X.env)=[(vh,eval e X.env)]
structure M2(X:Cx)(o:Expr)(m:Str)(apos:Pos)(e f:Expr)(cpos:Pos):Prop where
 base:jdz o m X.env (eval o X.env)=eval o X.env
 few:((jeh cpos (jc0 [e,f] X.env)).all (λx=>!x.1)&&(jfo cpos (jel [] X.env)).all (λx=>x.1.isSome)
  &&decide (([e,f]:List Expr).length+([]:List jgp).length+(if([]:List jgp).isEmpty then 0 else 1)<30))=qm
 line:(apos.endLine==cpos.line)=qm
 trees:jeh cpos (jc0 [e,f] X.env)=[(vh,eval e X.env),(vh,eval f X.env)]
noncomputable def jch (H:Hp) (a:pA):Prop:=(∃b,Rd H a (.dK b))\/∃b,Rd H a (.dT b)
theorem aj{X:Cx}{g:List (pA×Obj)}{m:St}{H:Hp}{s:S6}{a:pA}(I:Inv X g m H s)(d:jch H a):
 s.TypeIs (.ref a) "dict"/\(∀b,jcI a=.ref b->∃c,s.heap.get? b=nC c/\c.dict=su)/\(a==jfj)=vh:=by
 rcases d with⟨l,e⟩|⟨l,e⟩
 .obtain⟨_,j,n,_,f⟩:=Dh I.hok e
  refine⟨f.typeIs,λb q=>?_,j⟩
  cases q
  obtain⟨c,_,_,h,i,_⟩:=f
  exact⟨c,h,i.2.1⟩
 .obtain⟨_,j,o,_,f⟩:=Di I.hok e
  refine⟨f.typeIs,λb q=>?_,j⟩
  cases q
  obtain⟨c,_,_,h,i,_⟩:=f
  exact⟨c,h,i.2.1⟩
section
variable{X:Cx}{pins:List (pA×Obj)}{σ:St}{H:Hp}{s:S6}{a:pA}{y d:V}{u r:pL}{o:Option V}{A:jdc}{E:pL->S6->Prop}
theorem bJ{Q:pL->S6->Prop}(x:A.units+1<jf9)(I:Inv X pins σ H s)(g:Om H a y o)(p:RelV y u)(n:RelV d r)(h:∀t q,Inv X pins σ H q->RelV (o.getD d) t->Q t q):
 jcH (model X.prog X.w) A (call (.builtin "dict.get") [.ref a,u,r]) Q E s:=by
 rcases g with⟨m,k,e,i,l⟩|⟨m,k,b,e,i,v,l⟩
 .subst i
  obtain⟨z,j,C,c,f⟩:=Dh I.hok e
  refine call_meetsIn jgl f.typeIs jhS (jhv _ _ _) (meets_dict_get_default (Vt X.prog X.w) a (Az p) j r) ⟨_,f.mapOf,h _ _ (I.tok _) ?_⟩
  rw[l]
  exact(c.val k).getD n
 .subst i
  cases(show u=jcI b from p)
  obtain⟨z,j,B,c,f⟩:=Di I.hok e
  refine call_meetsIn jgl f.typeIs jhS (jhv _ _ _) (meetsH_dict_get_default (jhr (Vt X.prog X.w)) a b j r) ⟨jfk x,k,B,Hy I.hok v,f,h _ _ (I.tok _) ?_⟩
  rw[l]
  exact(c.val k).getD n
end
noncomputable def j0 (f ty tx:TE):TE:=λb H Q=>f b H λx c=>∃a,x=.ref a/\jch c a/\ty b c λy e=>tx b e λz d=>∃o,Om d a y o/\Q (o.getD z) d
section
variable{X:Cx}{o e f:Expr}{apos cpos:Pos}{td ty tx:TE}
theorem jx(D:X.A.units+1<jf9)(C:PE X o td)(w:PE X e ty)(B:PE X f tx)(m:M2 X o "get" apos e f cpos):PE X (.Call (.Attribute o "get" apos) [e,f] [] cpos) (j0 td ty tx):=by
 intro b s i H Q I h
 refine jeT m.base m.few m.line PySem.F.plainAttrs_dict jgl PySem.F.type_dict_get (XD (C b s i H _ I h) λu N S=>?_)
 obtain⟨x,l,j,K,a,v,d,E⟩:=S
 subst v
 obtain rfl:u=jcI a:=K
 obtain⟨P,R,_⟩:=aj j d
 refine⟨P,R,?_⟩
 rw[m.trees]
 refine jdS rfl (jdP (jdF (XD (w b N i l _ j E) λU O⟨y,n,q,L,G⟩=>
  jdF (XD (B b O i n _ q G) λT Y⟨z,p,r,M,W,g,J⟩=>jd6 ?_))))
 exact bJ D r g L M λw' Z t c=>⟨_,p,t,c,J⟩
end
section
variable{X:Cx}{pins:List (pA×Obj)}{σ:St}{H:Hp}{s:S6}{a:pA}{kvs:List (Key×V)}{A:jdc}{E:pL->S6->Prop}
end
section
variable{X:Cx}{pins:List (pA×Obj)}{σ:St}{H:Hp}{s:S6}{a:pA}{y:V}{u:pL}{A:jdc}{E:pL->S6->Prop}
end
end L2
namespace Att
open PySem PySem.W PySem.Calls PyProof.Rows
theorem Ff{P:Params}{h:jcX}:∀(ns:List Int)(vs:List pL),WellAll P h vs (ns.map WData.int)->jjs vs ns:=by
 intro ns
 induction ns with
 |nil=>
  intro vs w
  rw[jgb]at w
  cases w
  exact .nil
 |cons n ns c=>
  intro vs w
  rw[jdy]at w
  cases w with
  |cons a b=>
   cases a
   exact .cons _ _ (c _ b)
theorem o6{l:jgv}{n:Nat}(hn:l.most=nC n){P:Params}{h:jcX}{args:List WData}{c:List pL}
 (b:l.row.toRowW.claim.pre args=qm)(m:WellAll P h c args):
 ∃a vs ns,c=[jcI a]/\args=[WData.list (ns.map WData.int)]/\h.get? a=nC {cls:=.type "list",data:=.seq vs.toArray}/\jjs vs ns/\ns.length<=n:=by
 have j:WShape.hasAll [] args [.list .int]=qm:=(pre_splitW b).1
 have o:l.pre.holds [] {args:=args}=qm:=(pre_splitW b).2
 obtain⟨d,r,rfl,p,t⟩:=hasAllW_cons j
 obtain rfl:=hasAllW_nil t
 obtain⟨z,rfl,u⟩:=hasW_list p
 obtain⟨ns,rfl⟩:=items_int u
 have f:ns.length<=n:=by
  unfold OpenLaw.pre at o
  have g:(WTm.not (.lt (.lit (.int (n:Int))) (.len (.arg 0)))).holds [] {args:=[.list (ns.map .int)]}=qm:=by
   have g:=(holds_andW o).1
   rw[hn]at g
   exact g
  have i:=condW_of g (w_not (w_lt w_lit (w_len_list (w_arg rfl))))
  rw[rz]at i
  refine Nat.le_of_not_lt λq=>?_
  have w:(n:Int)<((ns.length:Nat):Int):=by omega
  first
   |(rw[decide_eq_true w]at i;exact absurd i (by decide))
   |(simp at i;omega)
 cases m with
 |cons x y=>
  cases y
  cases x with
  |list v e=>exact⟨_,_,ns,rfl,rfl,v,Ff ns _ e,f⟩
theorem oW(l:jgv)(args:List WData):l.row.toRowW.claim.post args (.bool qm) args=qm:=
 postW_of (r:=l.row.toRowW) (X:=(qm==qm))
  (show WShape.has [] (.bool qm) .bool=qm by first|rfl|decide|simp[WShape.has,WShape.arms,WShape.armsAll])
  (show(WTm.eq .res (.lit (.bool qm))).value [] {args:=args,res:=nC (.bool qm),after:=args}=nC (.bool (qm==qm))from w_eq_bool (w_res rfl) w_lit) rfl
theorem xN{l:jgv}{n:Nat}{q:jcz}{c:List Str}{C:(Str->Option pL)->jcX->Prop}{D:jcS->jcX->Prop}{d:DefRec}
 (hn:l.most=nC n)(x:d.params.defaults=[])
 (call:∀(w:jcS)(e b:S6)(mg A:Str->Option pL)(i:pA)(o:Obj)(B t g:pL)(a:pA)(vs:List pL)(ns:List Int),
  Ground q c [] C w e mg A b.heap->D w b.heap->
  b.heap.get? i=nC o->o.data=.func (docDef d.name d.params d.body d.scope B t g)->b.heap.CodeRec t d.name->mg d.name=nC (.ref i)->
  b.heap.get? a=nC {cls:=.type "list",data:=.seq vs.toArray}->jjs vs ns->ns.length<=n->b.gens=#[]->
  je9 (model l.prog w) jis (.call (.ref i) ⟨[.ref a],[]⟩) (λr u=>r=.ok (.ret (.bool qm))/\OldK b.heap u.heap/\u.os=b.os/\jf6 u.gens) b):
 jif q c C D l.row.toRowW d [] (λf vs=>jjA f vs):=by
 intro w e b mg A G Y i o B t g J kV R N v F y O E I as p H T z P
 obtain rfl:J=.none:=Dflts.none F x
 obtain rfl:kV=.none:=Dflts.noKw F
 obtain⟨a,vs,ns,rfl,rfl,m,h,j⟩:=o6 hn p z
 refine enter_call (jeR (call w e b mg A i o B t g a vs ns G Y R (fd_plain N) v y m h j O) λr u S=>?_)
 obtain⟨rfl,K,L,M⟩:=S
 exact⟨.inl ⟨.bool qm,.bool qm,[],rfl,λ_=>rfl,.bool qm,oW l _,λ_=>⟨List.Pairwise.nil,λ_ Q=>(nomatch Q)⟩⟩,K,L,M⟩
section
variable{prog:jcz}{w:jcS}{A:jdc}{E:pL->S6->Prop}{s:S6}{K:oh}
end
end Att
namespace L2
open PySem PySem.Spec PyProof.Rows
theorem zP:∀{vs:List pL}{ns:List Int},jjs vs ns->Vals (ns.map V.int) vs
 |_,_,.nil=>.nil
 |_,_,.cons n t h=>.cons ⟨t,rfl⟩ (zP h)
noncomputable def Only (H:Hp):Prop:=∀b,H b=su\/∃o a,H b=nC (.frz o (.lst a))
theorem kI{P:jcz}{w:jcS}{K:oh}{mg Q:Str->Option pL}{CX:tY}{k:Nat}{L a:pA}{T:jaF}{x:Str}{sp:Sp}{s₁:S6}{vs:List pL}{ns:List Int}
 (R:K.In s₁.heap)(B:s₁.heap.Ns jcM mg)(f:s₁.heap.Ns builtinsNs Q)(N:∀x:Str,x≠"__name__"->Q x=jd5 x)(A:s₁.heap.NoLimit)(hg:s₁.gens=#[])
 (I:s₁.heap.get? a=nC {cls:=.type "list",data:=.seq vs.toArray})(Y:jjs vs ns)(Z:ns.length<=qd)(hr:Wi k jis)
 (F:∀base:jcX,K.In base->base.Ns jcM mg->We P w K mg base CX k L T [x] sp)(l:∀(s:S6)(u:pL),ji0 s T ⟨[u],[]⟩ [(x,u)])
 (O:∀H:Hp,Only H->Yy K H a (ns.map V.int)->sp [.ref a] H (λv _=>v=.bl qm) λ_ _ _=>False)
 (M:∀H e g,CX [] H s₁ (λ_ _ _=>False) e g->False):
 je9 (model P w) jis (.call (.ref L) ⟨[.ref a],[]⟩) (λr g=>r=.ok (.ret (.bool qm))/\OldK s₁.heap g.heap/\g.os=s₁.os/\jf6 g.gens) s₁:=by
 have rv:=zP Y
 have E:=Y.length
 have j:∀H:Hp,Only H->Yy K H a (ns.map V.int)->Q3 P w H s₁.heap->(∀b,H b≠su->b=a)->(H a≠su->K.lookup a=su)->
  je9 (model P w) jis (.call (.ref L) ⟨[.ref a],[]⟩) (λr g=>r=.ok (.ret (.bool qm))/\OldK s₁.heap g.heap/\g.os=s₁.os/\jf6 g.gens) s₁:=by
  intro H X hS C U hK
  have c:∀{b:pA}{o:Obj},s₁.heap.get? b=nC o->H b=su->(yo s₁.heap H).get? b=nC o:=λe n=>lX e n
  have aH:∀{b:pA}{o:Obj}{t:Array DictEntry}{ep:Nat},s₁.heap.get? b=nC o->o.data=.dict t ep->H b=su:=λ{b o t ep}e d=>by
   cases q:H b with
   |none=>rfl
   |some u=>
    have J:b=a:=U b (by rw[q];simp)
    subst J
    rw[I]at e;cases e
    have d':Data.seq vs.toArray _=Data.dict t ep:=d
    cases d'
  have i:∀{b:pA}{m:Str->Option pL},s₁.heap.Ns b m->(yo s₁.heap H).Ns b m:=λ{b m}⟨o,t,ep,e,d,r⟩=>⟨o,t,ep,c e (aH e d),d,r⟩
  have y:K.In (yo s₁.heap H):=λb o e=>c (R b o e) (by
   cases q:H b with
   |none=>rfl
   |some u=>
    have J:b=a:=U b (by rw[q];simp)
    subst J
    rw[hK (by rw[q];simp)]at e;cases e)
  have hM:Mod K mg (yo s₁.heap H):=⟨y,i B,⟨Q,i f,N⟩,let⟨mc,h1,h2⟩:=A;⟨mc,i h1,h2⟩⟩
  have e0:xx P w K mg (yo s₁.heap H) jis [] s₁ H:=⟨rfl,hM,λb o e=>gY e,Nat.le_of_eq (pK _ _),trivial,λb f=>absurd (show b∈([]:List pA)from f) (by simp),C,.of_eq hg⟩
  refine jeR ((F _ y (i B)).run jis [] s₁ H ⟨[.ref a],[]⟩ [.ref a] [.ref a] _ _ hr e0 (l s₁ (.ref a)) (.cons rfl .nil) (O H X hS)) λr g h=>?_
  cases r with
  |error e=>exact(M H e g h).elim
  |ok fl=>
   cases fl with
   |next=>exact jdi h
   |brk=>exact jdi h
   |cont=>exact jdi h
   |ret u=>
    obtain⟨v,H',os,p,un,D,r',q⟩:=h
    have q':v=.bl qm:=q
    subst q'
    obtain rfl:u=jdR qm:=r'
    refine⟨rfl,OldK.of_keep λb o e=>?_,os,p⟩
    cases q:H b with
    |none=>exact un.keep b o e q (by intro z;exact absurd (show b∈([]:List pA)from z) (by simp)) (by simp)
    |some u=>
     rcases X b with z|⟨ob,xs,z⟩
     .rw[q]at z;cases z
     .have z2:=un.frzs b ob _ z
      obtain⟨S,_⟩:=C b _ z
      obtain⟨e2,_⟩:=D b _ z2
      rw[e]at S;cases S
      exact e2
 cases hk:K.lookup a with
 |some o=>
  have e:=R a o hk
  rw[I]at e
  cases e
  refine j (λ_=>su) (λ_=>.inl rfl) (.inr ⟨_,vs.toArray,_,hk,rfl,rfl,rfl,by rw[jbF,E];exact Z,by simpa using rv⟩) (λb u z=>by have G:(su:Option HO)=nC u:=z;cases G) (λb z=>absurd rfl z) λz=>absurd rfl z
 |none=>
  refine j (λb=>if b=a then nC (.frz {cls:=.type "list",data:=.seq vs.toArray} (.lst (ns.map V.int)))else su) (λb=>?_) (.inl (.inr ⟨{cls:=.type "list",data:=.seq vs.toArray},if_pos rfl⟩)) (λb u z=>?_) (λb z=>?_) λ_=>hk
  .by_cases f:b=a
   .exact .inr ⟨_,_,if_pos f⟩
   .exact .inl (if_neg f)
  .by_cases f:b=a
   .have G:=(if_pos f).symm.trans z
    cases G
    subst f
    exact⟨I,by rw[rz];exact Z,vs,_,rv,I⟩
   .have G:=(if_neg f).symm.trans z
    cases G
  .by_cases f:b=a
   .exact f
   .exact absurd (if_neg f) z
theorem dJ{l:jgv}{n k:Nat}{q:jcz}{j:List Str}{L:(Str->Option pL)->jcX->Prop}{I:jcS->jcX->Prop}{d:DefRec}{K:Params->oh}{CX:jcS->tY}{sp:jcS->Sp}{x:Str}
 (hn:l.most=nC n)(B:n<=qd)(z:d.params.defaults=[])(X:Wi k jis)
 (Q:∀(w:jcS)(h:jcX),I w h->(K w.params).In h)
 (F:∀(w:jcS)(mg:Str->Option pL)(r:pA)(h:jcX),(K w.params).In h->h.Ns jcM mg->mg d.name=nC (.ref r)->
  ∃t:jaF,(∀(s:S6)(u:pL),ji0 s t ⟨[u],[]⟩ [(x,u)])/\
   ∀base:jcX,(K w.params).In base->base.Ns jcM mg->We l.prog w (K w.params) mg base (CX w) k r t [x] (sp w))
 (C:∀(w:jcS)(H:Hp)(a:pA)(ns:List Int),ns.length<=n->Only H->Yy (K w.params) H a (ns.map V.int)->sp w [.ref a] H (λv _=>v=.bl qm) λ_ _ _=>False)
 (y:∀(w:jcS)(H:Hp)(s:S6)(e:pL)(D:S6),CX w [] H s (λ_ _ _=>False) e D->False):
 jif q j L I l.row.toRowW d [] (λf vs=>jjA f vs):=by
 refine Att.xN hn z λw J p mg mb r o pm Z M a vs ns G Y ho hd S A m i c U=>?_
 have E:=Q w _ Y
 obtain⟨t,R,N⟩:=F w mg r _ E G.T.g A
 exact kI E G.T.g G.T.b G.T.builtins G.T.nolimit U m i (jc9 c B) X N R (λH O P=>C w H a ns c O P) λH e D=>y w H p e D
noncomputable def Wa (s:jde):Arguments:=match s with
 |.FunctionDef _ a _ _ _ _ _ _ _ _=>a
 |_=>{posonlyargs:=[],args:=[],vararg:=su,kwonlyargs:=[],kw_defaults:=[],kwarg:=su,defaults:=[]}
noncomputable def Xi (s:jde):List jde:=match s with
 |.FunctionDef _ _ b _ _ _ _ _ _ _=>b
 |_=>[]
noncomputable def ZJ (s:jde):Scope:=match s with
 |.FunctionDef _ _ _ _ _ _ sc _ _ _=>sc
 |_=>{kind:=.function,names:=[],isGenerator:=vh,isCoroutine:=vh}
noncomputable abbrev Ol:tY:=λ_ _ _ _ _ _=>False
noncomputable abbrev E0:XK:=λ_ _ _=>False
theorem rN{X:Cx}:Te Ol X E0:=λ_ _ _ _ _ _ _ h=>h.elim
structure Xl(K:oh)(x qual:Str)(st:jde)(f:pA)(fd:jaF):Prop where
 ex:∃(oc:pL)(od:Option pA)(kV doc pm:pL)(an:Option pA)(cdv ct:pL)(osl:Array (Option pL)),
  fd=jdx x qual (Wa st) (Xi st) (ZJ st) .none kV doc pm an cdv ct/\K.lookup f=nC ⟨oc,od,.func fd,osl⟩/\jf0 K cdv qual=qm
 kp:jdO K (.ref f)=qm
section
variable{P:jcz}{w:jcS}{K:oh}{mg:Str->Option pL}{base:jcX}
theorem Xl.ok{x b:Str}{st:jde}{f:pA}{j:jaF}{N ps:List Str}{k:Nat}{sp:Sp}(F:Xl K x b st f j)(S:Z9 N ps (ZJ st))(i:∀vs H Q E,sp vs H Q E->vs.length=ps.length)
 (d:∀(c:pL)(A:jdc)(a:List Env)(s:S6)(H:Hp)(vs:List V)(Q:VK)(E:XK),Wi k (A.deeper (jgI b (ZJ st) s.heap.objs.size f c))->sp vs H Q E->
  ∃t,vQ (Ht Ol P w K mg base N b (ZJ st) f c A a s H E).pZ (Xi st) t/\t {nx:=λ_ H'=>Q .non H',rt:=Q} (start N vs) H):We P w K mg base Ol (k+1) f j ps sp:=by
 obtain⟨u,v,kV,l,y,p,c,r,o,rfl,n,e⟩:=F.ex
 refine dX n e S i λA a s H vs Q E m g=>?_
 obtain⟨t,h,q⟩:=d c A a s H vs Q E m g
 exact⟨t,h.pZ,q⟩
theorem Xl.binds{x a:Str}{st:jde}{f:pA}{i:jaF}{ps:List Str}(F:Xl K x a st f i)
 (h:∀(kV c g:pL)(d:Option pA)(b e:pL)(us:List pL),us.length=ps.length->jfC (jdx x a (Wa st) (Xi st) (ZJ st) .none kV c g d b e) ⟨us,[]⟩=pure (ps.zip us)):Binds K i ps []:=by
 obtain⟨n,o,kV,c,g,d,b,e,l,rfl,m,j⟩:=F.ex
 exact .all (h kV c g d b e)
theorem lK{x a:Str}{st:jde}{f:pA}{j:pL}{m g:Option pA}{e:Array (Option pL)}{kV d i b h:pL}(l:K.lookup f=nC ⟨j,m,.func (jdx x a (Wa st) (Xi st) (ZJ st) .none kV d i g b h),e⟩)
 (c:jf0 K b a=qm)(k:jdO K (.ref f)=qm):Xl K x a st f (jdx x a (Wa st) (Xi st) (ZJ st) .none kV d i g b h):=⟨⟨j,m,kV,d,i,g,b,h,e,rfl,l,c⟩,k⟩
end
theorem Xr{n:Nat}(h:n<=1000):n<qd:=Nat.lt_of_le_of_lt h (by decide)
section
variable{X:Cx}
end
theorem Yn{A B:Prop}(h:B):if vh=qm then A else B:=by
 rw[if_neg jbJ]
 exact h
theorem Ys{A B:Prop}(h:A):if qm=qm then A else B:=by
 rw[if_pos rfl]
 exact h
theorem QQ{c A B:Prop}[Decidable c](a:c->A)(b:¬c->B):if c then A else B:=by
 by_cases h:c
 .rw[if_pos h]
  exact a h
 .rw[if_neg h]
  exact b h
noncomputable def Z5 (H H':Hp):Prop:=∀b o,H b=nC o->H' b=nC o
theorem Z5.refl(H:Hp):Z5 H H:=λ_ _ h=>h
theorem Z5.trans{H d H2:Hp}(a:Z5 H d)(b:Z5 d H2):Z5 H H2:=λc o h=>b c o (a c o h)
theorem Z5.free{H H':Hp}(e:Z5 H H'){l:pA}(h:H' l=su):H l=su:=by
 cases q:H l with
 |none=>rfl
 |some o=>
  rw[e l o q]at h
  cases h
theorem Z5.seq{K:oh}{H H':Hp}{a:pA}{xs:List V}(e:Z5 H H')(h:Yy K H a xs):Yy K H' a xs:=by
 rcases h with(h|⟨o,h⟩)|h
 .exact .inl (.inl (e _ _ h))
 .exact .inl (.inr ⟨o,e _ _ h⟩)
 .exact .inr h
section
variable{κ:Type}[DecidableEq κ]
end
end L2
namespace GM
end GM
namespace L2
open PySem PySem.Spec PyProof.Rows
noncomputable def noStar:Expr->Bool
 |.Starred _ _=>vh
 |_=>qm
theorem Yi{e:Expr}{a:List Expr}{env:Env}(h:noStar e=qm):jc0 (e::a) env=(vh,eval e env)::jc0 a env:=by
 cases e<;>first|rfl|cases h
theorem Vj{pos:Pos}{env:Env}:∀{a:List Expr},a.all noStar=qm->(jeh pos (jc0 a env)).any (·.1)=vh
 |[],_=>rfl
 |e::a,h=>by
  rw[jd2,jbE]at h
  rw[Yi h.1]
  show(vh||(jeh pos (jc0 a env)).any (·.1))=vh
  rw[Vj h.2];rfl
theorem Y4{e:Expr}{a:List Expr}(h:(e::a).all noStar=qm):noStar e=qm/\a.all noStar=qm:=by
 rw[jd2,jbE]at h;exact h
section
variable{X:Cx}{e o:Expr}{es:List Expr}{te:TE}{t:TA}{pos p:Pos}
theorem Gg(a:PE X e te)(b:PA X es t)(c:noStar e=qm:=by rfl):PA X (e::es) (Uu te t):=fC a b (Yi c)
theorem zq{x:Str}{id:String}{r:List V->Hp->VK->Prop}(d:Tw X (.builtin id) r)(f:Gl X x)(g:X.mg x=su)(h:jd5 x=nC (.builtin id))(c:PA X (e::es) t)(b:(e::es).all noStar=qm:=by rfl)
 (hn:x≠"__name__":=by decide)(a:(x==("__debug__":Str))=vh:=by decide):PE X (.Call (.Name x p) (e::es) [] pos) (qj r t):=
 jr d f g h c hn a (Yi (Y4 b).1) (Vj (Y4 b).2)
theorem aW{x:Str}{T:String}{r:List V->Hp->VK->Prop}(d:Tw X (.type T) r)(f:Gl X x)(g:X.mg x=su)(h:jd5 x=nC (.type T))(c:PA X (e::es) t)(b:(e::es).all noStar=qm:=by rfl)
 (hn:x≠"__name__":=by decide)(a:(x==("__debug__":Str))=vh:=by decide):PE X (.Call (.Name x p) (e::es) [] pos) (qj r t):=
 oK d f g h c hn a (Yi (Y4 b).1) (Vj (Y4 b).2)
theorem pF{env:Env}{a:Pos}(h:noStar e=qm):((jeh a (jc0 [e] env)).all (λx=>!x.1)&&(jfo a (jel [] env)).all (λx=>x.1.isSome)
 &&decide (([e]:List Expr).length+([]:List jgp).length+(if([]:List jgp).isEmpty then 0 else 1)<30))=qm:=by
 rw[Yi h];rfl
theorem oJ{to:TE}{a b:Pos}(h:PE X o to)(g:PA X [e] t)(f:noStar e=qm:=by rfl)(c:jdz o "append" X.env (eval o X.env)=eval o X.env:=by rfl)(d:(a.endLine==b.line)=qm:=by rfl):
 PE X (.Call (.Attribute o "append" a) [e] [] b) (jbN X.K "list" yL to t):=
 cC jhw jh8 PySem.F.type_list_append HH h g c (pF f) d (Yi f) rfl
end
inductive Nm where|non|bl|int|str|lst|tup|dct
 deriving DecidableEq
noncomputable def Nm.s:Nm->String
 |.non=>"NoneType"|.bl=>"bool"|.int=>"int"|.str=>"str"|.lst=>"list"|.tup=>"tuple"|.dct=>"dict"
noncomputable def kh (n m:Nm):Bool:=decide (n=m)||(decide (n=.bl)&&decide (m=.int))
noncomputable def bT (T U:String):Option Bool:=if(jhH T==jhH U)=qm then nC qm else if PySem.W.kitMeta U=qm then(fastBuiltinMro T).map (·.contains (jhH U))else su
theorem pQ(K:oh)(T U:String):jaE K (.type T) (.type U)=bT T U:=rfl
theorem bD(n m:Nm):bT n.s m.s=nC (kh n m):=by
 cases n<;>cases m<;>decide+kernel
noncomputable abbrev Mm (K:oh) (H:Hp) (v:V) (n:Nm):Prop:=TY K H v (.type (Nm.s n))
noncomputable def jax (K:oh) (m:Nm):List V->Hp->VK->Prop:=λa H Q=>∃x n,a=[x,.ty (Nm.s m)]/\Mm K H x n/\Q (.bl (kh n m)) H
theorem xP{X:Cx}(m:Nm):Tw X (.builtin "isinstance") (jax X.K m):=by
 intro b s i H g f Q I r h
 obtain⟨x,n,rfl,ty,q⟩:=h
 obtain⟨u,e,rfl,c,a⟩:=vals2 r
 cases a
 exact Ar I c ty ((pQ _ _ _).trans (bD n m)) λd=>⟨.bl (kh n m),H,I.tok d,rfl,q⟩
theorem ja8(m:Nm):(jh (Nm.s m))≠"__name__":=by cases m<;>decide+kernel
theorem ja7(m:Nm):((jh (Nm.s m))==("__debug__":Str))=vh:=by cases m<;>decide+kernel
theorem gf(m:Nm)(h:m≠.non):jd5 (jh (Nm.s m))=nC (.type (Nm.s m)):=by
 cases m
 .exact absurd rfl h
 .exact boot_bool
 .exact jig
 .exact jih
 .exact jit
 .exact boot_tuple
 .exact boot_dict
theorem aZ{X:Cx}(m:Nm){e:Expr}{d:TE}{p i pos:Pos}(g:Gl X "isinstance")(h:X.mg "isinstance"=su)(a:Gl X (jh (Nm.s m)))(b:X.mg (jh (Nm.s m))=su)(f:PE X e d)(h0:m≠.non:=by decide)(c:noStar e=qm:=by rfl):
 PE X (.Call (.Name "isinstance" p) [e,.Name (jh (Nm.s m)) i] [] pos) (qj (jax X.K m) (Uu d (Uu (tC (.ty (Nm.s m))) JK))):=
 zq (xP m) g h jfX (Gg f (Gg (rP a b (gf m h0) rfl (ja8 m) (ja7 m)) Lb) c) (by rw[jd2,c];rfl)
section
variable{X:Cx}{a b c:Expr}{ta tb tc:TE}{pos:Pos}
theorem Qc:SJ X (jd9 .Mult) (rI IntMulOk λi j=>.int (i*j)):=jaI λ_ _ _ _ _ _ _ a q=>mul_int q a
end
theorem Tt{i j:Int}(h:j.natAbs<2^64):IntMulOk i j:=IntMulOk.of_right (intBits_le_64 (by omega) (by omega))
theorem Jr{i j:Int}(h:i.natAbs<2^64):IntMulOk i j:=IntMulOk.of_left (intBits_le_64 (by omega) (by omega))
structure Z3(P:jcz)(w:jcS)(K:oh)(mg:Str->Option pL)(base:jcX)(k:Nat)(x:Str)(ps:List Str)(dvs:List V)(sp:Sp):Prop where
 ex:∃(f:pA)(fd:jaF)(ds:List pL),We P w K mg base Ol k f fd ps sp/\Binds K fd ps ds/\Vals dvs ds/\jdO K (.ref f)=qm/\mg x=nC (.ref f)
theorem jt{X:Cx}{k j:Nat}{x:Str}{ps:List Str}{dvs:List V}{sp:Sp}{p pos:Pos}{e:Expr}{a:List Expr}{t:TA}
 (D:Z3 X.prog X.w X.K X.mg X.base k x ps dvs sp)(n:Wi j X.A)(l:k<=j)(i:Gl X x)(g:PA X (e::a) t)(d:(e::a).all noStar=qm:=by rfl)
 (c:(x==("__debug__":Str))=vh:=by decide):
 PE X (.Call (.Name x p) (e::a) [] pos) (vI sp dvs E0 t):=by
 obtain⟨f,r,q,F,b,h,o,m⟩:=D.ex
 exact fG F (n.mono l) i m o b h rN g c (Yi (Y4 d).1) (Vj (Y4 d).2)
section
variable{P:jcz}{w:jcS}{K:oh}{mg:Str->Option pL}{base:jcX}
end
theorem Zk{H:Hp}{p:pA}(h:H p=su)(o:HO):Z5 H (upd H p o):=λb u q=>by rw[ZX (Yd q h)];exact q
noncomputable def yZ:List TE->Str->TE
 |[],acc=>λ_ H Q=>acc.length<=qd/\Q (.str acc) H
 |t::r,acc=>λa H Q=>t a H λx b=>∃y,x=.str y/\(acc++y).length<=qd/\yZ r (acc++y) a b Q
inductive iU(X:Cx):List Expr->List TE->Prop where
 |nil:iU X [] []
 |cons {e:Expr}{es:List Expr}{t:TE}{ts:List TE}:PE X e t->iU X es ts->iU X (e::es) (t::ts)
theorem gw{X:Cx}:iU X [] []:=.nil
theorem lJ{X:Cx}{e:Expr}{a:List Expr}{t:TE}{ts:List TE}(h:PE X e t)(r:iU X a ts):iU X (e::a) (t::ts):=.cons h r
theorem kE{X:Cx}{d:List Expr}{ts:List TE}(h:iU X d ts):∀(b:Str)(a:List (pA×Obj))(s:S6)(c:St)(H:Hp)(Q:VK),Inv X a c H s->yZ ts b c H Q->
 jcH (model X.prog X.w) X.A (joinParts b (evalEach d X.env)) (EP X a c Q) X.xe s:=by
 induction h with
 |nil=>
  intro b a s c H Q I q
  exact joinParts_nil ⟨.str b,H,I.tok _,⟨_,rfl⟩,q.2⟩ q.1
 |cons i _ l=>
  intro b a s c H Q I q
  refine joinParts_cons (XD (i a s c H _ I q) λv o⟨x,f,g,n,y,e,j,m⟩=>?_)
  subst e
  obtain⟨t,rfl⟩:=n
  exact⟨j,l _ a o c f Q g m⟩
theorem oM{X:Cx}{b c:Expr}{d:List Expr}{ts:List TE}{pos:Pos}(h:iU X (b::c::d) ts):PE X (.JoinedStr (b::c::d) pos) (yZ ts jdV):=by
 intro a s e H Q I q
 exact JoinedStr_many (kE h jdV a s e H Q I q)
noncomputable def jcm (b:TE):TE:=λc H Q=>b c H λx a=>∃i:Int,x=.int i/\i.natAbs.log2<1920/\Q (.str (jda i)) a
theorem jbf{X:Cx}{e:Expr}{b:TE}{pos:Pos}(f:PE X e b):PE X (.FormattedValue e (-1) su pos) (jcm b):=by
 intro a s l H Q I q
 refine FormattedValue_plain (XD (f a s l H _ I q) λv m⟨x,c,d,j,i,e,g,h⟩=>?_)
 subst e
 obtain⟨t,rfl⟩:=j
 exact wpAny_formatField_int g ⟨.str (jda i),c,d.tok _,⟨_,rfl⟩,h⟩
theorem empty_app(x:Str):jdV++x=x:=by
 refine ext_toList ?_
 show((#[]:Array Nat)++x.cps).toList=x.cps.toList
 rw[jfQ]
 rfl
structure QE(X:Cx)(e:Expr)(t:TE):Prop where h:PE X e t
structure QT(X:Cx)(e:Expr)(t:TT):Prop where h:PT X e t
structure QW(X:Cx)(e:Expr)(t:TT):Prop where h:PW X e t
structure QA(X:Cx)(es:List Expr)(t:TA):Prop where h:PA X es t
structure QS(X:Cx)(st:jde)(t:TS):Prop where h:PS X st t
structure sG(X:Cx)(st:List jde)(t:TS):Prop where h:vQ X st t
structure QO(X:Cx)(e:Option Expr)(t:TO):Prop where h:PO X e t
structure QI(X:Cx)(tg iter:Expr)(wi:TI):Prop where h:PI X tg iter wi
structure QG(X:Cx)(tg:Expr)(t:TG):Prop where h:PG X tg t
structure QF(X:Cx)(es:List Expr)(ts:List TE):Prop where h:iU X es ts
noncomputable def HN:Expr->Bool
 |.ListComp _ _ _ _=>vh
 |.SetComp _ _ _ _=>vh
 |.DictComp _ _ _ _ _=>vh
 |_=>qm
theorem Oh{e:Expr}{a:Option Expr}{l:Nat}{env:Env}(h:HN e=qm):jgm e a l env=pure vh:=by
 cases e<;>first|rfl|cases h
section
variable{X:Cx}{a b c e o:Expr}{es rest:List Expr}{ta tb tc te:TE}{tA tB':TT}{t:TA}{pos p:Pos}
theorem Ze(i:Nat){x:Str}(b:X.N[i]?=nC x:=by rfl)(d:jbT X.env.scope x:=by first|exact jbI rfl|exact jjB (jbI rfl)|exact jjB (jjB rfl))(c:(x==("__debug__":Str))=vh:=by decide)
 (a:(x==("__classdict__":Str))=vh:=by decide):QE X (.Name x pos) (dG i):=⟨jag b d c a⟩
theorem Zc{i:Int}{j:Nat}:QE X (.Constant (.int i) j pos) (tC (.int i)):=⟨L2.aY⟩
theorem TQ{k:Bool}{j:Nat}:QE X (.Constant (.bool k) j pos) (tC (.bl k)):=⟨L2.jbd⟩
theorem Xy{j:Nat}:QE X (.Constant .none j pos) (tC .non):=⟨L2.jac⟩
theorem Zf{x:Str}{j:Nat}:QE X (.Constant (.str x) j pos) (tC (.str x)):=⟨L2.jF⟩
theorem Zg{c:Operator}{r:R2}(f:SJ X (jd9 c) r)(d:QE X a ta)(e:QE X b tb):QE X (.BinOp a c b pos) (cW r ta tb):=⟨L2.jbh f d.h e.h⟩
theorem FN{b:UnaryOp}{r:V->Hp->VK->Prop}(d:jbM X (unaryOp b) r)(c:QE X a ta):QE X (.UnaryOp b a pos) (jcq r ta):=⟨L2.jbj d c.h⟩
theorem JT(b:QE X a ta):QE X (.UnaryOp .Not a pos) (cV ta):=⟨L2.jad b.h⟩
theorem RJ{b:BoolOp}(h:QE X a ta):QE X (.BoolOp b [a] pos) ta:=⟨L2.jae h.h⟩
theorem PN(c:QE X a ta)(d:QE X (.BoolOp .And (b::rest) pos) tb):QE X (.BoolOp .And (a::b::rest) pos) (cL ta tb):=⟨L2.aV c.h d.h⟩
theorem sI(c:QE X a ta)(d:QE X (.BoolOp .Or (b::rest) pos) tb):QE X (.BoolOp .Or (a::b::rest) pos) (jbA ta tb):=⟨L2.jbi c.h d.h⟩
theorem PP{c:jjn}{r:R2}(g:SJ X (jdj c) r)(d:QE X a ta)(e:QE X b tb)(f:jfU c b=vh):QE X (.Compare a [c] [b] pos) (cW r ta tb):=⟨L2.fH g d.h e.h f⟩
theorem v4(f:QT X c tA)(d:QE X a ta)(e:QE X b tb):QE X (.IfExp c a b pos) (jcn tA ta tb):=⟨L2.jz f.h d.h e.h⟩
theorem X7:QO X su qt:=⟨L2.eE⟩
theorem ZW(h:QE X e te):QO X (nC e) (cX te):=⟨L2.eF h.h⟩
theorem Yc{lo a:Option Expr}{c b:TO}{j:Pos}{r:V->Option Int->Option Int->Hp->VK->Prop}(g:jaP X r)(d:QE X e te)(f:QO X lo c)(i:QO X a b):QE X (.Subscript e (.Slice lo a su j) pos) (jcp r te c b):=⟨L2.jD g d.h f.h i.h⟩
theorem Z4{r:R2}(e:bw X r)(c:QE X a ta)(d:QE X b tb)(f:sE b):QE X (.Subscript a b pos) (cW r ta tb):=⟨L2.jbg e c.h d.h f⟩
theorem Zb:QA X [] JK:=⟨L2.Lb⟩
theorem Za(a:QE X e te)(b:QA X es t)(c:noStar e=qm:=by rfl):QA X (e::es) (Uu te t):=⟨L2.Gg a.h b.h c⟩
theorem ZV(h:QA X es t):QE X (.List es pos) (jby t):=⟨L2.jaa h.h⟩
theorem Xf{a:Nat}(h:QA X es t):QE X (.Tuple es a pos) (jbD t):=⟨L2.jaf h.h⟩
theorem El:QE X (.Dict [] [] pos) j4:=⟨L2.jy⟩
theorem PL:QF X [] []:=⟨L2.gw⟩
theorem YJ{ts:List TE}(h:QE X e te)(r:QF X es ts):QF X (e::es) (te::ts):=⟨L2.lJ h.h r.h⟩
theorem RG{a b:Expr}{ts:List TE}(h:QF X (a::b::es) ts):QE X (.JoinedStr (a::b::es) pos) (yZ ts jdV):=⟨L2.oM h.h⟩
theorem JS(a:QE X e te):QE X (.FormattedValue e (-1) su pos) (jcm te):=⟨L2.jbf a.h⟩
theorem Zx{k j:Nat}{x:Str}{ps:List Str}{dvs:List V}{sp:Sp}(D:Z3 X.prog X.w X.K X.mg X.base k x ps dvs sp)(f:Wi j X.A)(d:k<=j)(c:Gl X x)(b:QA X (e::es) t)(g:(e::es).all noStar=qm:=by rfl)
 (a:(x==("__debug__":Str))=vh:=by decide):QE X (.Call (.Name x p) (e::es) [] pos) (vI sp dvs E0 t):=⟨L2.jt D f d c b.h g a⟩
theorem RD(m:Nm){i:Pos}(d:Gl X "isinstance")(f:X.mg "isinstance"=su)(a:Gl X (jh (Nm.s m)))(b:X.mg (jh (Nm.s m))=su)(c:QE X e te)(h0:m≠.non:=by decide)(g:noStar e=qm:=by rfl):
 QE X (.Call (.Name "isinstance" p) [e,.Name (jh (Nm.s m)) i] [] pos) (qj (jax X.K m) (Uu te (Uu (tC (.ty (Nm.s m))) JK))):=⟨L2.aZ m d f a b c.h h0 g⟩
theorem Yw{x:Str}{id:String}{r:List V->Hp->VK->Prop}(c:Tw X (.builtin id) r)(d:Gl X x)(f:X.mg x=su)(i:jd5 x=nC (.builtin id))(b:QA X (e::es) t)(g:(e::es).all noStar=qm:=by rfl)
 (hn:x≠"__name__":=by decide)(a:(x==("__debug__":Str))=vh:=by decide):QE X (.Call (.Name x p) (e::es) [] pos) (qj r t):=⟨L2.zq c d f i b.h g hn a⟩
theorem Vf{x:Str}{T:String}{r:List V->Hp->VK->Prop}(c:Tw X (.type T) r)(d:Gl X x)(f:X.mg x=su)(i:jd5 x=nC (.type T))(b:QA X (e::es) t)(g:(e::es).all noStar=qm:=by rfl)
 (hn:x≠"__name__":=by decide)(a:(x==("__debug__":Str))=vh:=by decide):QE X (.Call (.Name x p) (e::es) [] pos) (qj r t):=⟨L2.aW c d f i b.h g hn a⟩
theorem WP{to:TE}{a b:Pos}(g:QE X o to)(f:QA X [e] t)(i:noStar e=qm:=by rfl)(c:jdz o "append" X.env (eval o X.env)=eval o X.env:=by rfl)(d:(a.endLine==b.line)=qm:=by rfl):
 QE X (.Call (.Attribute o "append" a) [e] [] b) (jbN X.K "list" yL to t):=⟨L2.oJ g.h f.h i c d⟩
theorem ZK{c:jjn}{r:R2}(g:SJ X (jdj c) r)(d:QE X a ta)(e:QE X b tb)(f:jfU c b=vh):QT X (.Compare a [c] [b] pos) (qw (cW r ta tb)):=⟨L2.eZ g d.h e.h f⟩
theorem WM(b:QT X a tA):QW X (.BoolOp .And [a] pos) tA:=⟨L2.dh b.h⟩
theorem Xn(b:QT X a tA):QW X (.BoolOp .Or [a] pos) tA:=⟨L2.jau b.h⟩
theorem VD(c:QT X a tA)(d:QW X (.BoolOp .And (b::rest) pos) tB'):QW X (.BoolOp .And (a::b::rest) pos) (jbv tA tB'):=⟨L2.jat c.h d.h⟩
theorem XN(c:QT X a tA)(d:QW X (.BoolOp .Or (b::rest) pos) tB'):QW X (.BoolOp .Or (a::b::rest) pos) (jco tA tB'):=⟨L2.jbm c.h d.h⟩
theorem Tg(h:QW X e tA):QT X e tA:=⟨PW.pt h.h⟩
theorem YF(b:QT X a tA):QT X (.UnaryOp .Not a pos) (jbz tA):=⟨L2.jar b.h⟩
theorem Yg(h:QE X e te)(b:∀a,isTrue e X.env a=(do let v<-a;jgR e.pos;holding [v] (truthy v)):=by intro _;rfl):QT X e (tB te):=⟨L2.jas h.h b⟩
end
section
variable{X:Cx}{c e:Expr}{te:TE}{tc:TT}{st:jde}{sts body orelse:List jde}{t u tb:TS}{pos:Pos}
theorem ZC(a:QE X e te):QS X (.Return (nC e) pos) (jbB te):=⟨L2.jap a.h⟩
theorem Y6:QS X st j7:=⟨L2.jL⟩
theorem Yx(a:QE X e te)(b:HN e=qm:=by rfl):QS X (.Expr e pos) (cP te):=⟨L2.eN a.h (Oh b)⟩
theorem ZL{i:Nat}{x:Str}{a:Pos}(b:X.N.Nodup)(f:X.N[i]?=nC x)(j:Loc X.env.scope x)(c:QE X e te)(g:HN e=qm:=by rfl)(d:X.fn x=qm\/X.env.scope.names.lookup x=nC .local:=by first|exact .inl rfl|exact .inr rfl|assumption):
 QS X (.Assign [.Name x a] e pos) (o8 te (Xz i)):=⟨L2.jaq b f j c.h (Oh g) d⟩
theorem ZR(d:QT X c tc)(a:sG X body t)(b:sG X orelse u):QS X (.If c body orelse pos) (dF tc t u):=⟨L2.jbl d.h a.h b.h⟩
theorem Qs(d:jip (model X.prog X.w) X.A X.env X.xe)(b:QT X c tc)(a:sG X body tb):QS X (.While c body [] pos) (ig tc tb):=⟨L2.jM d b.h a.h⟩
theorem Uz{b a:Expr}{c:TI}{g:TG}(j:jip (model X.prog X.w) X.A X.env X.xe)(e:X.calm=qm)(i:QI X b a c)(f:QG X b g)(d:sG X body tb)
 (l:∀x,jdY a X.env x=pure x:=by intro _;rfl):QS X (.For b a body [] pos) (jbx c g tb):=⟨L2.jao j e i.h f.h d.h l⟩
theorem Ws{b:Expr}(a:QE X e te):QI X b e (dZ X.K te):=⟨L2.fZ a.h⟩
theorem Wr{g a:Expr}{b:TA}{p:Pos}(d:Gl X "range")(e:X.mg "range"=su)(c:QA X [a] b)(f:noStar a=qm:=by rfl):QI X g (.Call (.Name "range" p) [a] [] pos) (cg b):=⟨L2.oR d e c.h (Yi f)⟩
theorem Ym{i:Nat}{x:Str}(a:X.N.Nodup)(c:X.N[i]?=nC x)(d:Loc X.env.scope x)(b:X.fn x=qm\/X.env.scope.names.lookup x=nC .local:=by first|exact .inl rfl|exact .inr rfl|assumption):QG X (.Name x pos) (Xz i):=⟨L2.fW a c d b⟩
theorem ZF:sG X [] qp:=⟨L2.eX⟩
theorem Zh(a:QS X st t):sG X [st] t:=⟨L2.eY a.h⟩
theorem Zd(a:QS X st t)(b:sG X sts u):sG X (st::sts) (j9 t u):=⟨L2.jN a.h b.h⟩
end
section
variable{P:jcz}{w:jcS}{K:oh}{mg:Str->Option pL}{base:jcX}
theorem Xl.Eg{x b:Str}{st:jde}{f:pA}{g:jaF}{N ps:List Str}{k:Nat}{sp:Sp}(F:Xl K x b st f g)(S:Z9 N ps (ZJ st))(e:∀vs H Q E,sp vs H Q E->vs.length=ps.length)
 (d:∀(c:pL)(A:jdc)(a:List Env)(s:S6)(H:Hp)(vs:List V)(Q:VK)(E:XK),Wi k (A.deeper (jgI b (ZJ st) s.heap.objs.size f c))->sp vs H Q E->
  ∃t,sG (Ht Ol P w K mg base N b (ZJ st) f c A a s H E).pZ (Xi st) t/\t {nx:=λ_ H'=>Q .non H',rt:=Q} (start N vs) H):We P w K mg base Ol (k+1) f g ps sp:=
 F.ok S e λc A a s H vs Q E i h=>let⟨t,q,r⟩:=d c A a s H vs Q E i h;⟨t,q.h,r⟩
theorem Xl.Yp{x a:Str}{st:jde}{f:pA}{g:jaF}{N ps:List Str}{k:Nat}{sp:Sp}(F:Xl K x a st f g)(m:mg x=nC (.ref f))(b:Binds K g ps [])(S:Z9 N ps (ZJ st))(h:∀vs H Q E,sp vs H Q E->vs.length=ps.length)
 (c:∀(e:pL)(A:jdc)(d:List Env)(s:S6)(H:Hp)(vs:List V)(Q:VK)(E:XK),Wi k (A.deeper (jgI a (ZJ st) s.heap.objs.size f e))->sp vs H Q E->
  ∃t,sG (Ht Ol P w K mg base N a (ZJ st) f e A d s H E).pZ (Xi st) t/\t {nx:=λ_ H'=>Q .non H',rt:=Q} (start N vs) H):Z3 P w K mg base (k+1) x ps [] sp:=
 ⟨f,g,[],F.Eg S h c,b,.nil,F.kp,m⟩
end
section
variable{prog:jcz}{w:jcS}{A:jdc}{R:jiI->S6->Prop}{s:S6}
end
noncomputable def YG (X:Cx) (a:Scope) (e:List (Str×pA)) (d:List Str) (C:pA) (b:S6) (c:Hp) (f:List pA):Cx where
 prog:=X.prog
 w:=X.w
 K:=X.K
 mg:=X.mg
 base:=X.base
 A:=X.A
 N:=d
 s₀:=b
 H₀:=c
 env:=ji2 a e C X.env
 outer:=X.stack
 stack:=X.stack
 ex:=f
 fn:=λ_=>vh
 calm:=qm
 pn:=[]
 xe:=λ_ _=>False
noncomputable def inner (b:St) (a:List Nat):St:=a.map λj=>(b[j]?).join
theorem yl:jiJ (.type "list_reverseiterator") "__len__"=pure su:=by rw[typeLookup_type,builtinLookup_eq_fast];kernel_rfl
theorem ww:jiJ (.type "list_reverseiterator") "__length_hint__"=pure (nC (.builtin "list_reverseiterator.__length_hint__")):=by rw[typeLookup_type,builtinLookup_eq_fast];kernel_rfl
section
variable{prog:jcz}{w:jcS}{A:jdc}{s:S6}{R:jiI->S6->Prop}
theorem ym(z:A.handled=su)(I l:pA)(r:l≠I)(items:Array pL):
 WalksS prog w A I [I,l] [I] (λa b=>a=b) items.size (λi v=>items[items.size-1-i]?=nC v) (λi s=>i<=items.size/\s.heap.IsRevIter I l ((items.size:Int)-1-(i:Int))/\s.heap.IsList l items)where
 sub:=λb f=>by simp at f;simp[f]
 grefl:=λ_=>rfl
 gtrans:=λ_ _ _ h g=>h.trans g
 frame:=λ_ _ _ _ x _ t=>⟨x.1,x.2.1.at λo e=>t I (by simp) o e,x.2.2.at λo e=>t l (by simp) o e⟩
 item:=λi s Q E B x m=>by
  have e:(items.size:Int)-1-(i:Int)=((items.size-1-i:Nat):Int):=by omega
  have c:=x.2.1
  rw[e]at c
  have u:items[items.size-1-i]?=nC (items[items.size-1-i]'(by omega)):=jem (by omega)
  refine wpAny_pyNext_rev_item c x.2.2 u λp d n=>?_
  have y:((items.size-1-i:Nat):Int)-1=(items.size:Int)-1-((i+1:Nat):Int):=by omega
  rw[y]at d
  exact m _ {s with heap:=p} u ⟨B,d,x.2.2.at λo j=>(n.2 l r).trans j⟩ ⟨λb o f j=>n.extBut b o (λh=>f (by simp[h])) j,rfl,rfl,rfl,U6 _⟩
 done:=λs Q E x m=>by
  have e:(items.size:Int)-1-(items.size:Int)=-1:=by omega
  have c:=x.2.1
  rw[e]at c
  exact wpAny_pyNext_rev_end z c λp q=>m {s with heap:=p} ⟨λb o f j=>q b o (λh=>f (by simp[h])) j,rfl,rfl,rfl,U6 _⟩
 self:=λ_ _ _ _ x m=>wpAny_pyIter_revIter x.2.1 m
variable{I:pA}{fp wr:List pA}{G:Array jfz->Array jfz->Prop}{n:Nat}{P:Nat->pL->Prop}{St:Nat->S6->Prop}
theorem Bt(W:WalksS prog w A.in1 I fp wr G n P St)(o:∀i s,St i s->s.TypeIs (.ref I) "list_reverseiterator")(S:pA)(m:pL)(h:Nat)(c:St 0 s)(j:S∉fp)(v:I∈fp)
 (y:s.heap.get? S=nC {cls:=.type "list",data:=.seq #[] h})
 (x:∀d a g,Moved (S::wr) G s d->d.heap.get? S=nC {cls:=.type "list",dict:=su,data:=.seq a g,slots:=#[]}->ItemsOf P a n->R (.ok (.ret m)) d)(hn:n<=qd:=by size_fits):
 jcH (model prog w) A.in1 (jeB (.ref S) (.ref I) m)
  (λp d=>match p with|.done f=>R (.ok f) d|.again g=>g.quiet=qm/\je9 (model prog w) A g R d) (λe d=>R (.error e) d) s:=by
 have r:S≠I:=λe=>j (e▸v)
 unfold jeB
 refine xT (wpAny_typeOf (o 0 _ c) ?_)
 have u:jhn (.ref S) (.ref I)=vh:=by simp[jhn,r]
 rw[if_neg (by rw[u];decide)]
 refine xT (W.self 0 _ _ _ c ?_)
 refine xT (jeG ?_)
 unfold Builtin.List.listLengthHint
 refine xT (jh2 (o 0 _ c) yl ?_)
 show jcH _ A.in1 (specialOf (jcI I) (jh "__length_hint__")>>=_) _ _ _
 refine xT (jh2 (o 0 _ c) ww ?_)
 generalize hid:("list_reverseiterator.__length_hint__":String)=t
 wp_delta
 rw[show splitId t=nC ("list_reverseiterator","__length_hint__")from by subst hid;decide+kernel]
 subst hid
 refine xT (wpAny_isInstance (b:=qm) (o 0 _ c) (by rw[isSubtype_type];kernel_rfl) ?_)
 refine jcC ?_
 rw[if_neg (by decide)]
 refine jcC ⟨jgr F.plain_extend_loop _,codeAny_extend_loopS W hn _ j _ n 0 _ _ _ rfl (jcY _) c y (ItemsOf.nil P) λd a g z q l=>?_⟩
 exact x d a g z q l
theorem Hx(W:WalksS prog w A.in1 I fp wr G n P St)(z:∀i s,St i s->s.TypeIs (.ref I) "list_reverseiterator")(S:pA)(u:St 0 s)(j:S∉fp)(x:I∈fp)
 (r:s.heap.get? S=nC {cls:=.type "list",data:=.seq #[]})
 (y:∀c a g,Moved (S::wr) G s c->c.heap.get? S=nC {cls:=.type "list",dict:=su,data:=.seq a g,slots:=#[]}->ItemsOf P a n->R (.ok (.ret .none)) c)(hn:n<=qd:=by size_fits):
 jcH (model prog w) A.in1 (Builtin.«list.__init__» ⟨[.ref S,.ref I],[]⟩)
  (λq c=>match q with|.done f=>R (.ok f) c|.again g=>g.quiet=qm/\je9 (model prog w) A g R c) (λe c=>R (.error e) c) s:=by
 show jcH _ A.in1 (do let v<-jhT (.ref S);Builtin.List.listUpdate (.ref S) (λ_=>#[]);letGo v.toList.reverse;jeB (.ref S) (.ref I) .none) _ _ s
 refine xT ?_
 unfold jhT
 refine xT (jg3 r rfl (jcC ?_))
 show jcH _ A.in1 (updateSeq S (λ_=>#[])>>=λ_=>letGo (#[]:Array pL).toList.reverse>>=λ_=>jeB (.ref S) (.ref I) .none) _ _ s
 refine xT (jgK r rfl ?_)
 have d:=jdm (jiM (λ_=>(#[]:Array pL))) r rfl
 have p:∀b o,b≠S->s.heap.get? b=nC o->(s.heap.update S (jiM (λ_=>(#[]:Array pL)))).get? b=nC o:=
  λb o m e=>(jcQ _ _ (jdh m)).trans e
 refine xT (jhf ?_)
 refine Bt (hn:=hn) W z S .none _ (W.frame 0 s _ s.toks u (U6 _) λb m o e=>p b o (λh=>j (h▸m)) e) j x d λc a g B t l=>?_
 exact y c a g (Moved.trans W.gtrans ((Moved.refl W.grefl).then_heap (U6 _) λb o m e=>p b o (λh=>m (h▸U7)) e) B) t l
end
section
variable{prog:jcz}{w:jcS}{A:jdc}{E:pL->S6->Prop}{s:S6}
variable{I:pA}{fp wr:List pA}{G:Array jfz->Array jfz->Prop}{n:Nat}{P:Nat->pL->Prop}{St:Nat->S6->Prop}
theorem Hw{Q:pL->S6->Prop}(W:WalksS prog w A.in1.in1 I fp wr G n P St)(x:∀i s,St i s->s.TypeIs (.ref I) "list_reverseiterator")(r:St 0 s)(p:∀b∈fp,b<s.heap.objs.size)(u:I∈fp)
 (v:∀h a j,Moved (s.heap.objs.size::wr) G {s with heap:=s.heap.push {cls:=.type "list",data:=.seq #[]}} h->
  h.heap.get? s.heap.objs.size=nC {cls:=.type "list",dict:=su,data:=.seq a j,slots:=#[]}->ItemsOf P a n->Q (.ref s.heap.objs.size) h)(hn:n<=qd:=by size_fits):
 jcH (model prog w) A (call (.type "list") [.ref I]) Q E s:=by
 have m:s.heap.objs.size∉fp:=λq=>jef _ (p _ q)
 refine callType_codes (Q₁:=λg c=>g=.ref s.heap.objs.size/\c={s with heap:=s.heap.push {cls:=.type "list",data:=.seq #[]}}) F.called_list (F.typeCall_list_1 _) F.entry_list_init
  (code_list_new _ ⟨rfl,rfl⟩) λg c f=>?_
 obtain⟨rfl,rfl⟩:=f
 have t:(s.heap.push {cls:=.type "list",data:=.seq #[]}).get? s.heap.objs.size=nC {cls:=.type "list",data:=.seq #[]}:=jcK _ rfl
 refine⟨⟨_,t,rfl⟩,F.args_list_init_2 _ _,Hx (hn:=hn) W x _ (W.frame 0 s _ s.toks r (U6 _) λb _ o e=>U4 _ e) m u t λh a j q l d=>?_⟩
 exact⟨rfl,v h a j q l d⟩
end
noncomputable def jbC (d:TE):TE:=λe H Q=>d e H λx b=>∃a c,x=.ref a/\b a=nC (.lst c)/\∀l,b l=su->Q (.ref l) (upd b l (.lst c.reverse))
theorem oZ{a:List pL}{b:Array pL}(h:ItemsOf (λi v=>a.toArray[a.toArray.size-1-i]?=nC v) b a.toArray.size):b.toList=a.reverse:=by
 obtain⟨d,f⟩:=h
 have sz:a.toArray.size=a.length:=by simp
 refine jhg λj=>?_
 by_cases c:j<b.size
 .have e:=f j b[j] (jem c)
  rw[jeM,jem c]
  rw[sz]at d e
  rw[List.getElem?_reverse (by omega)]
  rw[<-e]
  simp
 .rw[jeM,Array.getElem?_eq_none (by omega),jeN (by rw[jgP];omega)]
theorem uU{X:Cx}{e:Expr}{te:TE}{p1 p2 pos j:Pos}(hc:X.calm=qm)(R:Gl X "list")(ab:X.mg "list"=su)(S:Gl X "reversed")(ac:X.mg "reversed"=su)(ha:PE X e te)(hs:noStar e=qm:=by rfl):
 PE X (.Call (.Name "list" p1) [.Call (.Name "reversed" p2) [e] [] j] [] pos) (jbC te):=by
 intro B s σ H Q I h
 refine jdG (Pr I R ab jit ?_)
 refine jdH ?_ rfl rfl
 rw[Yi (show noStar (.Call (.Name "reversed" p2) [e] [] j)=qm from rfl)]
 show jcH _ _ (spliced ((vh,eval (.Call (.Name "reversed" p2) [e] [] j) X.env)::jeh pos (jc0 [] X.env))) _ _ s
 refine jdF (jdG (Pr I S ac boot_reversed ?_))
 refine jdH ?_ (Yi hs) rfl
 rw[Yi hs]
 show jcH _ _ (spliced ((vh,eval e X.env)::jeh j (jc0 [] X.env))) _ _ s
 refine jdF (XD (ha B s σ H _ I h) λu f zz=>?_)
 obtain⟨x,F,l,r1,q1⟩:=zz
 obtain⟨a,xs,ex,C,q⟩:=q1
 subst ex
 cases r1
 refine jd6 ?_
 obtain⟨_,d,n,rv,Y,M⟩:=l.uF C
 refine call_reversed_list (items:=d.toArray) ⟨_,M,rfl,n,rfl⟩ ?_
 refine jd6 ?_
 have hh:X.A.handled=su:=l.ok.hd hc
 have G:a<f.heap.objs.size:=jbH M
 have kp:∀b o,f.heap.get? b=nC o->(f.heap.push (jgc a ((d.toArray.size:Int)-1))).get? b=nC o:=λb o e=>U4 _ e
 have U:(f.heap.push (jgc a ((d.toArray.size:Int)-1))).get? f.heap.objs.size=nC (jgc a ((d.toArray.size:Int)-1)):=jcK _ rfl
 have L:Inv X B σ F {f with heap:=f.heap.push (jgc a ((d.toArray.size:Int)-1))}:=l.kept (t':=f.toks) kp
 have W:=ym (prog:=X.prog) (w:=X.w) (A:=X.A.in1.in1) hh f.heap.objs.size a (jcO G) d.toArray
 have ah:(f.heap.push (jgc a ((d.toArray.size:Int)-1))).objs.size=f.heap.objs.size+1:=jet ..
 refine Hw (s:={f with heap:=f.heap.push (jgc a ((d.toArray.size:Int)-1))}) W (λi s st=>st.2.1.typeIs) ⟨jcY _,⟨_,U,rfl,by show jjm _=jjm _;simp⟩,⟨_,kp _ _ M,rfl,n,rfl⟩⟩ (λb y=>?_) (by simp) (λs' ai c' Z P K=>?_) ?_
 .show b<(f.heap.push (jgc a ((d.toArray.size:Int)-1))).objs.size
  rw[ah]
  rcases jbK.mp y with z|z
  .rw[z];exact jdr _
  .rw[jc5.mp z];exact jfw G
 .have hS:F (f.heap.push (jgc a ((d.toArray.size:Int)-1))).objs.size=su:=L.hok.fresh (U6 _)
  have ad:F f.heap.objs.size=su:=l.hok.fresh (U6 _)
  have t:∀b o,b≠f.heap.objs.size->(f.heap.push (jgc a ((d.toArray.size:Int)-1))).get? b=nC o->s'.heap.get? b=nC o:=λb o y e=>
   Z.heap b o (λz=>by
    rcases jbK.mp z with z|z
    .exact absurd (jbH e) (by rw[z];exact jef _)
    .exact y (jc5.mp z)) (U4 _ e)
  have af:∀b o,(f.heap.push (jgc a ((d.toArray.size:Int)-1))).get? b=nC o->b≠(f.heap.push (jgc a ((d.toArray.size:Int)-1))).objs.size:=λb o e=>jcO (jbH e)
  have E:∀b u,F b=nC u->b≠(f.heap.push (jgc a ((d.toArray.size:Int)-1))).objs.size/\b≠f.heap.objs.size:=λb u e=>⟨Yd e hS,Yd e ad⟩
  have items:=oZ K
  have ae:Q3 X.prog X.w (upd F (f.heap.push (jgc a ((d.toArray.size:Int)-1))).objs.size (.lst xs.reverse)) s'.heap:=λb u e=>by
   by_cases y:b=(f.heap.push (jgc a ((d.toArray.size:Int)-1))).objs.size
   .subst y
    rw[Zj]at e
    cases e
    refine⟨by rw[jgP,Y];have:=(show d.length<=qd from by rw[<-Y];exact(l.uF C).1);exact this,d.reverse,c',rv.reverse,?_⟩
    rw[<-items]
    exact P
   .rw[ZX y]at e
    refine(L.hok b u e).stay (λc v g q=>t c v ?_ q) (λc z=>by rw[ZX (E c _ z).1];exact z) λc ys z=>by rw[ZX (E c _ z).1];exact z
    rcases g with z|z
    .rw[z];exact(E b u e).2
    .exact(E c _ z).2
  obtain⟨T,g',d',t',ag⟩:=s'
  have N:ag=f.os:=Z.os
  have O:f.gens=g':=Z.gens
  subst N
  have J:=L.step (h':=T) (H':=upd F (f.heap.push (jgc a ((d.toArray.size:Int)-1))).objs.size (.lst xs.reverse)) (ch:=[f.heap.objs.size]) (g':=g') (t':=t') (d':=d') (λb y=>by
   rw[jc5.mp y]
   refine⟨.inr l.sz,jeA l.lt,λz c ec=>?_,λp hp=>?_⟩
   .obtain⟨v',D⟩:=l.cell z c ec
    exact jcO D.lt
   .exact jcO (jbH (l.pin p hp).1)) (λb o _ _ g e _=>t b o (λz=>g (by simp[z])) e) (λb o _ _ g e _=>⟨o.slots,t b o (λz=>g (by simp[z])) e⟩)
   (λb o _ e n=>by rw[ZX (af b o e)];exact n) (λb o g e=>⟨o,t b o (λz=>g (by simp[z])) e⟩) (λb ys z=>by rw[ZX (E b _ z).1];exact z) (λb o' ys z=>by rw[ZX (E b _ z).1];exact z)
   (λb ps z=>⟨#[],by rw[ZX (E b _ z).1,z];simp⟩) (λm aa=>by
    obtain⟨o,es,ep,ho,r⟩:=aa
    exact⟨o,es,ep,t _ o (jcO l.lt) ho,r⟩) ae (by rw[<-O];exact l.bare)
  exact⟨.ref _,_,J,rfl,q _ hS⟩
 .have:=(l.uF C).1
  rw[jbF,<-Y];exact this
variable{X:Cx}
theorem zU{e:Expr}{g:TE}{m n pos a:Pos}(j:X.calm=qm)(b:Gl X "list")(d:X.mg "list"=su)(c:Gl X "reversed")(f:X.mg "reversed"=su)(i:QE X e g)(l:noStar e=qm:=by rfl):
 QE X (.Call (.Name "list" m) [.Call (.Name "reversed" n) [e] [] a] [] pos) (jbC g):=⟨L2.uU j b d c f i.h l⟩
end L2
namespace L2
open PySem PySem.Spec PyProof.Rows
end L2
namespace L2
open PySem PySem.Spec PyProof.Rows PySem.W
theorem Xx.there{P:jcz}{w:jcS}{H:Hp}{h:jcX}{a:pA}{o:HO}(x:Xx P w H h a o):∃u,h.get? a=nC u:=by
 cases o with
 |lst c=>obtain⟨_,_,_,_,e⟩:=x;exact⟨_,e⟩
 |tup c=>obtain⟨_,_,_,o,e,_⟩:=x;exact⟨_,e⟩
 |dK b=>obtain⟨_,_,_,_,o,_,_,e,_⟩:=x;exact⟨_,e⟩
 |dT b=>obtain⟨_,_,_,_,o,_,_,e,_⟩:=x;exact⟨_,e⟩
 |set S n=>obtain⟨o,_,_,_,e,_⟩:=x;exact⟨_,e⟩
 |ins C d fs=>obtain⟨_,_,_,e,_⟩:=x;exact⟨_,e⟩
 |own y=>obtain⟨_,e⟩:=x;exact⟨_,e⟩
 |xd fs=>obtain⟨_,⟨_,_,_,e,_⟩,_⟩:=x;exact⟨_,e⟩
 |rng i g=>obtain⟨_,_,_,e⟩:=x;exact⟨_,e⟩
 |frz j u=>obtain⟨e,_⟩:=x;exact⟨_,e⟩
 |tbl l=>exact⟨_,(show h.get? a=nC _ from x)⟩
 |met f y=>exact⟨_,(show h.get? a=nC _ from x)⟩
 |ext m=>obtain⟨_,⟨_,e⟩,_⟩:=x;exact⟨_,e⟩
theorem Q3.none_of{P:jcz}{w:jcS}{H:Hp}{h:jcX}{a:pA}(x:Q3 P w H h)(e:h.get? a=su):H a=su:=by
 cases q:H a with
 |none=>rfl
 |some o=>obtain⟨u,z⟩:=(x a o q).there;rw[e]at z;cases z
theorem Q3.hide{P:jcz}{w:jcS}{H:Hp}{h:jcX}{l:List pA}(x:Q3 P w H h)(c:∀b∈l,H b=su):Q3 P w H (jgi h l):=λa o e=>
 (x a o e).stay (λb u d q=>jev _ q λz=>by
  rcases d with r|r
  .subst r;rw[c b z]at e;cases e
  .rw[c b z]at r;cases r) (λ_ q=>q) λ_ _ q=>q
noncomputable def j8 (C:pA) (E:XK) (c:TA):TS:=λ_ e H=>c e H λd b=>d.length<=qd/\∀a,b a=su->E (.ref a) (nC C) b
section
open Builtin Builtin.ObjectAttr Builtin.Getset_descriptor
variable{prog:jcz}{w:jcS}{A:jdc}{E:pL->S6->Prop}{h:jcX}{g:Array jfz}{d:jjt}{t:Nat}{os:ji3}{a C:pA}{o:Obj}{K:oh}
theorem yf{M:jiU}{b:pL}{Q:Unit->S6->Prop}(X:K.In h)(i:jcJ K C (.type "BaseException")=nC qm)
 (l:h.get? a=nC o)(e:o.cls=.ref C)(j:Q () ⟨h,g,d,t,os⟩):jcH M A (checkBuiltinCall "BaseException.__getattribute__" ⟨[.ref a,b],[]⟩) Q E ⟨h,g,d,t,os⟩:=by
 have f:builtinKind "BaseException.__getattribute__"=nC .slot:=by decide+kernel
 have c:splitId "BaseException.__getattribute__"=nC ("BaseException","__getattribute__"):=by decide+kernel
 have L:=jf4 (M:=M) X i
 have m:=F.args_bexc_ga (.ref a) b
 simp only[checkBuiltinCall,f,c]
 refine xT ?_
 .unfold jhU
  repeat(first|(with_reducible refine jc6 l ?_;rw[e])|(with_reducible refine L.at ?_)|wp_step)
  exact j
theorem Bs{i:pL}{R:jiI->S6->Prop}(X:K.In h)(f:h.get? a=nC o)(b:o.cls=.ref C)(c:jcJ K C (.type "object")=nC qm)
 (e:R (.ok (.ret (.ref C))) ⟨h,g,d,t,os⟩):je9 (model prog w) A (.call (.builtin "getset_descriptor.__get__") ⟨[.builtin "object.__class__",.ref a,i],[]⟩) R ⟨h,g,d,t,os⟩:=by
 have j:jht (model prog w) h (typeOf (.ref a)) (.ref C):=b▸(jjq f).andThen .now
 have l:=jf4 (M:=model prog w) X c
 refine jeU KF.slot_gs.plain KF.entry_gs (KF.slot_gs.check _ _ _ _ _ _ _ _ jiC (KF.args_gs _ _ _) ?_)
 unfold Builtin.«getset_descriptor.__get__» descrGet
 rw[dga_obj]
 refine xT (jcC ?_)
 unfold descrGetter descrCheckInstance descrNameAndClass jhU
 simp only[KF.owner_class]
 repeat lk
 refine⟨jg4 _ (by decide+kernel),jfY KF.entry_class ?_⟩
 unfold Builtin.«object.__class__» shownTypeOf
 repeat lk
 exact e
theorem ph{j:Tok}{Q:Fin->S6->Prop}(X:K.In h)(c:h.get? a=nC o)(b:o.cls=.ref C)(i:jcJ K C (.type "object")=nC qm)(f:jcy K (.ref C) "__class__"=nC (nC (.builtin "object.__class__")))
 (p:Q (.done (.ret (.ref C))) ⟨h,g,d,t,os⟩):
 jcH (model prog w) A (Builtin.«object.__getattribute__» ⟨[.ref a,.str "__class__" j],[]⟩) Q E ⟨h,g,d,t,os⟩:=by
 have e:(⟨h,g,d,t,os⟩:S6).TypeIs (.builtin "object.__class__") "getset_descriptor":=jiC
 have l:=jiC
 have m:=F.slot_gs_get.lookup
 have n:=F.slot_gs_set.lookup
 have L:=je8 (M:=model prog w) X f
 repeat(any_goals(first|assumption|(with_reducible refine jc6 c ?_;rw[b])|with_reducible refine L.at ?_|wp_step))
 refine Bs X c b i ?_
 repeat(any_goals(first|assumption|wp_step))
theorem bO{v:Tok}{Q:pL->S6->Prop}(X:K.In h)(f:h.get? a=nC o)(b:o.cls=.ref C)(q:jcJ K C (.type "object")=nC qm)(p:jcJ K C (.type "BaseException")=nC qm)
 (n:jcy K (.ref C) "__class__"=nC (nC (.builtin "object.__class__")))(c:jcy K (.ref C) "__getattribute__"=nC (nC (.builtin "BaseException.__getattribute__")))(e:jcy K (.ref C) "__getattr__"=nC su)
 (y:Q (.ref C) ⟨h,g,d,t,os⟩):jcH (model prog w) A (getAttrBy (.ref a) (.str "__class__" v) vh vh) Q E ⟨h,g,d,t,os⟩:=by
 have j:=F.attr_ValueError
 have x:=j.ga.bind (.ref a)
 have r:(vh&&onTheHeap (jgs "BaseException.__getattribute__"))=vh:=rfl
 have i:(jgs "BaseException.__getattribute__"==jgs "object.__getattribute__")=vh:=by decide+kernel
 have u:(onTheHeap (jcI C)&&jgs "BaseException.__getattribute__"==jgs "object.__getattribute__")=vh:=by rw[i];rfl
 have l:=je8 (M:=model prog w) X c
 have m:=je8 (M:=model prog w) X e
 repeat(any_goals(first|assumption|(with_reducible refine jc6 f ?_;rw[b])|with_reducible refine l.at ?_|with_reducible refine m.at ?_|wp_step))
 refine jeU j.ga.plain F.entry_bexc_ga (yf X p f b (ph X f b q n ?_))
 repeat(any_goals(first|assumption|wp_step))
theorem bQ{Q:Option pL->S6->Prop}(X:K.In h)(m:h.get? a=nC o)(i:o.cls=.ref C)(j:jcJ K C (.type "object")=nC qm)(f:jcJ K C (.type "BaseException")=nC qm)
 (e:jcy K (.ref C) "__class__"=nC (nC (.builtin "object.__class__")))(b:jcy K (.ref C) "__getattribute__"=nC (nC (.builtin "BaseException.__getattribute__")))(c:jcy K (.ref C) "__getattr__"=nC su)
 (l:Q (nC (.ref C)) ⟨h,g,d,t+1,os⟩):jcH (model prog w) A (getAttr? (.ref a) "__class__") Q E ⟨h,g,d,t,os⟩:=by
 unfold getAttr? getAttrBy?
 refine xT (wpAny_mkText (xT (wpAny_attempt ?_)))
 exact bO X m i j f e b c (jcC l)
structure bj(K:oh)(C:pA):Prop where
 obj:jcJ K C (.type "object")=nC qm
 exc:jcJ K C (.type "BaseException")=nC qm
 att:jcy K (.ref C) "__class__"=nC (nC (.builtin "object.__class__"))
 ga:jcy K (.ref C) "__getattribute__"=nC (nC (.builtin "BaseException.__getattribute__"))
 gt:jcy K (.ref C) "__getattr__"=nC su
theorem bj.cls{K:oh}{C:pA}(Z:bj K C):(jjr K C).isSome=qm:=by
 have e:=Z.obj
 unfold jcJ at e
 cases h:jjr K C with
 |none=>rw[h]at e;cases e
 |some c=>rfl
noncomputable def t7 (a C:pA) (h:jcX):Prop:=∃o,h.get? a=nC o/\o.cls=.ref C
theorem Dr(Z:bj K C):KitX K (.ref a) (.ref C) (t7 a C)where
 ty:=λ_ _ _⟨_,i,j⟩=>j▸(jjq i).andThen .now
 it:=λ_ _ X _=>by
  obtain⟨f,b⟩:=jes.mp Z.cls
  unfold jjr at b
  split at b
  .rename_i p r c o l
   intro v x w B k q
   unfold isType loadHead
   exact xT (jic (k _ _ (X _ _ l)) (jcC q))
  .cases b
 ne:=λh tp y u n D X m=>by
  obtain⟨f,b⟩:=jes.mp Z.cls
  refine jfy.mpr λq=>?_
  have e:C=tp:=Value.ref.inj (beq_iff_eq.mp q)
  subst e
  unfold jjr at b
  split at b
  .rename_i p r c o l
   have z:=(X _ _ l).symm.trans m
   cases z
  .cases b
 ca:=λ{_ _ _ _ _ s}X⟨_,i,j⟩k=>by
  obtain⟨h,g,d,t,A⟩:=s
  exact bQ X i j Z.obj Z.exc Z.att Z.ga Z.gt k
end
noncomputable abbrev J2 (a C:pA):HO:=.ext (t7 a C)
theorem rn{P:jcz}{w:jcS}{H:Hp}{h:jcX}{a C:pA}(x:t7 a C h):Xx P w H h a (J2 a C):=by
 obtain⟨o,b,d⟩:=x
 exact⟨⟨o,b,d⟩,⟨o,b⟩,λ_ _⟨o,e,c⟩k=>⟨o,k o e,c⟩⟩
noncomputable def jav (K:oh) (D:pA):List V->Hp->VK->Prop:=λc H Q=>∃a C b,c=[.ref a,.ref D]/\H a=nC (J2 a C)/\bj K C/\jaE K (.ref C) (.ref D)=nC b/\Q (.bl b) H
theorem mL{X:Cx}(D:pA):Tw X (.builtin "isinstance") (jav X.K D):=by
 intro d s n H m l Q I r h
 obtain⟨a,C,b,rfl,f,Z,e,q⟩:=h
 obtain⟨u,j,rfl,g,c⟩:=vals2 r
 cases g;cases c
 have y:Xx X.prog X.w H s.heap a (J2 a C):=I.hok a _ f
 exact jdW (Dr Z) I.QR y.1 e (λz=>nomatch z) λi=>⟨.bl b,H,I.tok i,rfl,q⟩
theorem fM{X:Cx}{x:Str}{D:pA}{e:Expr}{f:TE}{p j pos:Pos}(h:Gl X "isinstance")(i:X.mg "isinstance"=su)(b:Gl X x)(c:X.mg x=nC (.ref D))(g:PE X e f)(d:noStar e=qm:=by rfl)(a:(x==("__debug__":Str))=vh:=by decide):
 PE X (.Call (.Name "isinstance" p) [e,.Name x j] [] pos) (qj (jav X.K D) (Uu f (Uu (tC (.ref D)) JK))):=
 zq (mL D) h i jfX (Gg g (Gg (yI b c rfl a) Lb) d) (by rw[jd2,d];rfl)
noncomputable def jaw (K:oh) (T:String):List V->Hp->VK->Prop:=λc H Q=>∃a C b,c=[.ref a,.ty T]/\H a=nC (J2 a C)/\bj K C/\jaE K (.ref C) (.type T)=nC b/\Q (.bl b) H
theorem mO{X:Cx}(T:String):Tw X (.builtin "isinstance") (jaw X.K T):=by
 intro d s n H m l Q I r h
 obtain⟨a,C,b,rfl,f,Z,e,q⟩:=h
 obtain⟨u,j,rfl,g,c⟩:=vals2 r
 cases g;cases c
 have y:Xx X.prog X.w H s.heap a (J2 a C):=I.hok a _ f
 exact jdW (Dr Z) I.QR y.1 e (λz=>nomatch z) λi=>⟨.bl b,H,I.tok i,rfl,q⟩
theorem fP{X:Cx}{x:Str}{T:String}{e:Expr}{f:TE}{p l pos:Pos}(h:Gl X "isinstance")(i:X.mg "isinstance"=su)(b:Gl X x)(c:X.mg x=su)(j:jd5 x=nC (.type T))(g:PE X e f)(d:noStar e=qm:=by rfl)
 (hn:x≠"__name__":=by decide)(a:(x==("__debug__":Str))=vh:=by decide):
 PE X (.Call (.Name "isinstance" p) [e,.Name x l] [] pos) (qj (jaw X.K T) (Uu f (Uu (tC (.ty T)) JK))):=
 zq (mO T) h i jfX (Gg g (Gg (rP b c j rfl hn a) Lb) d) (by rw[jd2,d];rfl)
section
variable{M:jiU}{A:jdc}{E:pL->S6->Prop}{h:jcX}{g:Array jfz}{d:jjt}{t:Nat}{os:ji3}{a C D:pA}{o oD:Obj}{K:oh}{dD:Option pA}{cD:jhx}{sD:Array (Option pL)}
theorem xY{Q:Bool->S6->Prop}(X:K.In h)(m:h.get? a=nC o)(l:o.cls=.ref C)(i:K.lookup D=nC ⟨.type "type",dD,.cls cD,sD⟩)(j:jcJ K D (.type "BaseException")=nC qm)(p:jcJ K C (.ref D)=nC qm)
 (n:Q qm ⟨h,g,d,t,os⟩):jcH M A (jiN (.ref a) (.ref D)) Q E ⟨h,g,d,t,os⟩:=by
 have f:=tc_notTuple
 have c:=jf4 (M:=M) X j
 have e:=jf4 (M:=M) X p
 have b:=X _ _ i
 unfold jiN
 repeat(first|(with_reducible refine jc6 m ?_;rw[l])|with_reducible refine jc6 b ?_|with_reducible refine c.at ?_|with_reducible refine e.at ?_|wp_step)
 exact n
end
structure nP(K:oh)(D:pA):Prop where
 ex:∃dD cD sD,K.lookup D=nC ⟨.type "type",dD,.cls cD,sD⟩
 exc:jcJ K D (.type "BaseException")=nC qm
noncomputable abbrev Cx.handling (X:Cx) (e:pL):Cx:={X with A:=X.A.mark (nC e),calm:=vh,xe:=λ_ _=>False}
theorem Inv.handling{X:Cx}{a:List (pA×Obj)}{b:St}{H:Hp}{s:S6}(I:Inv X a b H s)(e:pL):Inv (X.handling e) a b H s:=
 ⟨⟨I.ok.mod,I.ok.kind,I.ok.glob,I.ok.blt,I.ok.above,I.ok.inj,I.ok.has,I.ok.cab,λz=>(nomatch z),I.ok.frames,I.ok.stk,I.ok.exf,I.ok.bs,I.ok.bsz,I.ok.noex,I.ok.exfs,I.ok.Mu,I.ok.frf⟩,
  I.os,I.bare,I.base,I.loc,I.cell,I.free,I.freeC,I.pin,I.hok,I.len⟩
theorem Inv.forget{X:Cx}{e:pL}{f:List (pA×Obj)}{L:St}{H:Hp}{s:S6}{h':jcX}{t:Str->Option pL}{t':Nat}(ok:X.Ok)(J:Inv (X.handling e) f L H s)(ns:h'.Ns X.env.locals t)(I:jfI X.env.locals s.heap h'):
 Inv X f (jcU X.N.length su) H {s with heap:=h',toks:=t'}:=by
 have h:∀b o,X.s₀.heap.get? b=nC o->b≠X.env.locals:=λb o e=>jcO (jcW (jbH e) ok.above)
 have k:∀b o,b≠X.env.locals->s.heap.get? b=nC o->h'.get? b=nC o:=λb o g q=>(I.2 b g).trans q
 have d:Un X.fs X.ex X.H₀ H X.s₀.heap s.heap:=J.base
 refine⟨ok,J.os,J.bare,⟨λb o q n g l=>k b o (h b o q) (d.keep b o q n g l),λb o q n g l=>?_,d.free,λb o q l=>?_,d.tups,d.frzs,d.tbls⟩,⟨t,ns,λi x v _ z _=>?_⟩,λx c z=>?_,J.free,J.freeC,λp B=>?_,λa o z=>?_,jdf⟩
 .obtain⟨K,j⟩:=d.slot b o q n g l
  exact⟨K,k b _ (h b o q) j⟩
 .obtain⟨C,j⟩:=d.there b o q l
  exact⟨C,k b _ (h b o q) j⟩
 .rw[jfd]at z
  split at z<;>cases z
 .obtain⟨v,o,j,A⟩:=J.cell x c z
  exact⟨v,o,k c o (J.dW x c z) j,A⟩
 .obtain⟨D,E,w,F,G⟩:=J.pin p B
  exact⟨k _ _ w D,E,w,F,G⟩
 .refine(J.hok a o z).stay (λb u g q=>k b u (λy=>?_) q) (λ_ q=>q) λ_ _ q=>q
  have m:H X.env.locals=su:=J.free
  rcases g with r|r
  .subst r;rw[y,m]at z;cases z
  .rw[y,m]at r;cases r
theorem yG{K:oh}{h:jcX}{x:Str}{C:pA}{mg:Str->Option pL}{a:List pL}{newId:String}(X:K.In h)(m:mg x=nC (.ref C))(q:jh3 K C a newId=qm):jf1 x C a newId mg h:=by
 constructor
 .exact m
 unfold jh3 at q
 split at q
 case h_2=>exact absurd q (by decide)
 rename_i v j r l
 split at q
 case h_2=>exact absurd q (by decide)
 rename_i t u J L M N H O c d
 rw[jbE,jbE,jbE,jbE,jbE,beq_iff_eq,beq_iff_eq,beq_iff_eq,jeV]at q
 obtain⟨⟨⟨⟨⟨n,o⟩,e⟩,p⟩,b⟩,f⟩:=q
 subst n;subst o
 obtain⟨w,y,z,A,B,D,E,F,G,g,i⟩:=j
 simp only at c e b f
 subst c;subst e
 obtain⟨I⟩:=r
 simp only at d
 subst d
 exact⟨_,_,_,_,_,_,_,_,_,_,_,_,_,_,_,_,_,X _ _ l,.of_isNs (isNs_of_in X b),nsMap_none_of_in X b f,tail_of_in X p⟩
section
variable{P:jcz}{w:jcS}{K:oh}{mg:Str->Option pL}{base:jcX}
end
section
variable{X:Cx}{e:Expr}{es:List Expr}{te:TE}{t:TA}{pos p:Pos}
theorem qH{x:Str}{D:pA}{j:Pos}(f:Gl X "isinstance")(g:X.mg "isinstance"=su)(b:Gl X x)(c:X.mg x=nC (.ref D))(d:QE X e te)(i:noStar e=qm:=by rfl)(a:(x==("__debug__":Str))=vh:=by decide):
 QE X (.Call (.Name "isinstance" p) [e,.Name x j] [] pos) (qj (jav X.K D) (Uu te (Uu (tC (.ref D)) JK))):=⟨L2.fM f g b c d.h i a⟩
theorem qI{x:Str}{T:String}{l:Pos}(f:Gl X "isinstance")(g:X.mg "isinstance"=su)(b:Gl X x)(c:X.mg x=su)(j:jd5 x=nC (.type T))(d:QE X e te)(i:noStar e=qm:=by rfl)
 (hn:x≠"__name__":=by decide)(a:(x==("__debug__":Str))=vh:=by decide):
 QE X (.Call (.Name "isinstance" p) [e,.Name x l] [] pos) (qj (jaw X.K T) (Uu te (Uu (tC (.ty T)) JK))):=⟨L2.fP f g b c j d.h i hn a⟩
end
section
variable{P:jcz}{w:jcS}{K:oh}{mg:Str->Option pL}{base:jcX}
end
noncomputable def RK (a:List (Str×pA)):List (Str×jeS)->List (Str×pA)->List (Str×pA)
 |[],acc=>acc
 |(n,k)::r,acc=>if(k==.free)=qm then RK a r ((n,(a.lookup n).getD 0)::acc)else RK a r acc
theorem xQ{env:Env}:∀(b:List (Str×jeS))(acc:List (Str×pA)),(∀y∈b,y.2=.free->∃c,env.cells.lookup y.1=nC c)->
 (forIn b acc λ(x:Str×jeS)(r:List (Str×pA))=>(if(x.2==.free)=qm then do let a<-cellOf env x.1;pure (jew ((x.1,a)::r))else pure (jew r):Sem (ForInStep (List (Str×pA)))))=(pure (RK env.cells b acc):Sem _)
 |[],acc,_=>rfl
 |(n,k)::r,acc,h=>by
  have g:=λacc=>xQ (env:=env) r acc λy j=>h y (jcx _ j)
  rw[List.forIn_cons]
  cases hk:(k==jd3)with
  |false=>
   have d:RK env.cells ((n,k)::r) acc=RK env.cells r acc:=by
    show(if(k==jd3)=qm then _ else _)=_
    rw[hk];rfl
   rw[d,<-g acc]
   rfl
  |true=>
   have e:k=.free:=by simpa using hk
   obtain⟨c,f⟩:=h (n,k) U7 e
   have d:RK env.cells ((n,k)::r) acc=RK env.cells r ((n,c)::acc):=by
    show(if(k==jd3)=qm then RK env.cells r ((n,(env.cells.lookup n).getD 0)::acc)else _)=_
    rw[hk,show env.cells.lookup n=nC c from f];rfl
   rw[d,<-g]
   have i:cellOf env n=pure c:=by
    unfold cellOf
    rw[show env.cells.lookup n=nC c from f]
   rw[show cellOf env (n,k).fst=pure c from i];rfl
theorem uc{b:Scope}{env:Env}(h:∀y∈b.names,y.2=.free->∃c,env.cells.lookup y.1=nC c):closureFor b env=pure (RK env.cells b.names []):=by
 have q:=xQ (env:=env) b.names [] h
 have e:closureFor b env=Bind.bind (forIn b.names [] λ(x:Str×jeS)(r:List (Str×pA))=>(if(x.2==.free)=qm then do let a<-cellOf env x.1;pure (jew ((x.1,a)::r))else pure (jew r):Sem (ForInStep (List (Str×pA))))) (λr=>pure r):=rfl
 rw[e,q];rfl
theorem Ey{b:List (Str×pA)}{z:Str}:∀(c:List (Str×jeS))(a:List (Str×pA)),(a.lookup z).isSome=qm->((RK b c a).lookup z).isSome=qm
 |[],_,h=>h
 |(n,k)::r,a,h=>by
  unfold RK
  split
  .refine Ey r _ ?_
   rw[jdB]
   cases(z==n)
   .exact h
   .rfl
  .exact Ey r _ h
theorem Ez{b:List (Str×pA)}{z:Str}:∀(a:List (Str×jeS))(c:List (Str×pA)),(z,jd3)∈a->((RK b a c).lookup z).isSome=qm
 |[],_,h=>nomatch h
 |(n,k)::r,c,h=>by
  unfold RK
  rcases jbK.mp h with e|h
  .cases e
   rw[if_pos (by rfl)]
   refine Ey r _ ?_
   rw[jdB,show(z==z)=qm from by simp];rfl
  .split
   .exact Ez r _ h
   .exact Ez r _ h
theorem EY{a:List (Str×pA)}{z:Str}{c:pA}:∀(b:List (Str×jeS))(d:List (Str×pA)),(∀y∈b,y.2=.free->∃c,a.lookup y.1=nC c)->(∀z c,d.lookup z=nC c->a.lookup z=nC c)->
 (RK a b d).lookup z=nC c->a.lookup z=nC c
 |[],_,_,h,e=>h _ _ e
 |(n,k)::r,d,hn,h,e=>by
  unfold RK at e
  split at e
  .rename_i p
   have g:k=.free:=by simpa using p
   obtain⟨l,m⟩:=hn (n,k) U7 g
   refine EY r _ (λy i=>hn y (jcx _ i)) (λo q f=>?_) e
   rw[show a.lookup n=nC l from m]at f
   rw[jdB]at f
   cases hz:(o==n)with
   |false=>rw[hz]at f;exact h _ _ f
   |true=>
    rw[hz]at f
    have j:o=n:=by simpa using hz
    rw[j,show a.lookup n=nC l from m]
    exact f
  .exact EY r _ (λy i=>hn y (jcx _ i)) h e
structure Rp(X:Cx)(scope:Scope)(cl:List (Str×pA))(xs ns:List Str)(fr:List Nat):Prop where
 clos:closureFor scope X.env=pure cl
 sub:∀z c,cl.lookup z=nC c->X.env.cells.lookup z=nC c
 kind:scope.kind=.function
 nocell:∀y∈scope.names,y.2≠.cell
 names:∀y∈scope.names,y.2=.local->scope.names.lookup y.1=nC .local
 has:∀z,((relabel scope X.env).names.lookup z=nC .cell\/(relabel scope X.env).names.lookup z=nC .free)->∃c,cl.lookup z=nC c
 out:∀(j:Nat)(z:Str),ns[j]?=nC z->∃i,fr[j]?=nC i/\X.N[i]?=nC z/\X.env.scope.names.lookup z=nC .cell/\(relabel scope X.env).names.lookup z=nC .cell
 len:fr.length=ns.length
noncomputable def xR (c a:List (Str×jeS)) (N ns:List Str) (b:List Nat):Bool:=
 a.all (λy=>y.2 !=.cell)&&a.all (λy=>y.2 !=.local||a.lookup y.1==nC .local)&&a.all (λy=>y.2 !=.free||c.lookup y.1==nC .cell)
  &&(b.length==ns.length)&&(jc4 ns.length).all (λj=>match ns[j]?,b[j]? with
   |some z,nC i=>N[i]?==nC z&&c.lookup z==nC .cell&&a.lookup z==nC .free
   |_,_=>vh)
theorem R5{env:Env}(c:env.scope.kind=.function):∀{a:List (Str×jeS)}{x:Str},a.lookup x=nC .free->env.kindOf x=nC .cell->
 (a.map λ(n,k)=>if(k==jd3&&env.scope.kind==.function&&env.kindOf n==nC .cell)then(n,jgt)else(n,k)).lookup x=nC .cell
 |[],_,h,_=>by simp at h
 |(n,k)::r,x,h,hc=>by
  have d:=@R5 env c r x
  show jfh x ((if(k==jd3&&env.scope.kind==.function&&env.kindOf n==nC .cell)=qm then(n,jgt)else(n,k))::_)=_
  cases hx:x==n with
  |true=>
   have e:x=n:=by simpa using hx
   simp only[jdB,hx]at h
   cases h
   subst e
   rw[if_pos (by rw[c,hc];decide)]
   simp only[jdB,hx]
  |false=>
   simp only[jdB,hx]at h
   by_cases b:(k==jd3&&env.scope.kind==.function&&env.kindOf n==nC .cell)=qm
   .rw[if_pos b];simp only[jdB,hx];exact d h hc
   .rw[if_neg b];simp only[jdB,hx];exact d h hc
theorem Lj{env:Env}:∀{a:List (Str×jeS)}{x:Str}{k:jeS},
 (a.map λ(n,k)=>if(k==jd3&&env.scope.kind==.function&&env.kindOf n==nC .cell)then(n,jgt)else(n,k)).lookup x=nC k->(∀y∈a,y.2≠.cell)->(k=.cell\/k=.free)->(x,jd3)∈a
 |[],_,_,h,_,_=>by simp at h
 |(n,k0)::r,x,k,h,hn,hk=>by
  have f:=@Lj env r x k
  have c:jfh x ((if(k0==jd3&&env.scope.kind==.function&&env.kindOf n==nC .cell)=qm then(n,jgt)else(n,k0))::r.map λ(n,k)=>if(k==jd3&&env.scope.kind==.function&&env.kindOf n==nC .cell)then(n,jgt)else(n,k))=nC k:=h
  cases hx:x==n with
  |false=>
   refine jcx _ (f ?_ (λy d=>hn y (jcx _ d)) hk)
   by_cases b:(k0==jd3&&env.scope.kind==.function&&env.kindOf n==nC .cell)=qm
   .rw[if_pos b]at c;simpa only[jdB,hx]using c
   .rw[if_neg b]at c;simpa only[jdB,hx]using c
  |true=>
   have e:x=n:=by simpa using hx
   subst e
   by_cases b:(k0==jd3&&env.scope.kind==.function&&env.kindOf x==nC .cell)=qm
   .have:k0=.free:=by
     rw[jbE,jbE]at b
     simpa using b.1.1
    rw[this];exact U7
   .rw[if_neg b]at c
    simp only[jdB,hx]at c
    have:k0=k:=jc8 c
    subst this
    rcases hk with e|e
    .exact absurd e (hn (x,k0) U7)
    .rw[e];exact U7
theorem Rp.of{X:Cx}{a v:Scope}{N xs ns:List Str}{fr:List Nat}(o:X.env.scope=v)(F:X.N=N)(m:∃n,X.env.cells=jgX n X.env.scope.names [])(G:X.env.scope.kind=.function)(i:a.kind=.function)
 (h:xR v.names a.names N ns fr=qm):Rp X a (RK X.env.cells a.names []) xs ns fr:=by
 subst o F
 unfold xR at h
 rw[jbE,jbE,jbE,jbE]at h
 obtain⟨⟨⟨⟨B,C⟩,D⟩,r⟩,E⟩:=h
 have p:∀y∈a.names,y.2≠.cell:=λy d e=>by
  have:=jcV.mp B y d
  rw[e]at this;cases this
 have J:∀y∈a.names,y.2=.local->a.names.lookup y.1=nC .local:=λy d e=>by
  have:=jcV.mp C y d
  rw[e]at this
  simpa using this
 have K:∀y∈a.names,y.2=.free->X.env.scope.names.lookup y.1=nC .cell:=λy d e=>by
  have:=jcV.mp D y d
  rw[e]at this
  simpa using this
 have u:∀y∈a.names,y.2=.free->∃c,X.env.cells.lookup y.1=nC c:=λy d e=>by
  obtain⟨n,H⟩:=m
  rw[H]
  exact Ex (K y d e)
 refine⟨uc u,λz c e=>EY _ [] u (λz c e=>by cases e) e,i,p,J,λz I=>?_,λj z e=>?_,by simpa using r⟩
 .refine jes.mp (Ez _ [] ?_)
  rcases I with q|q
  .exact Lj q p (.inl rfl)
  .exact Lj q p (.inr rfl)
 .have t:j<ns.length:=(jcP.mp e).1
  have:=jcV.mp E j (jd0.mpr t)
  rw[e]at this
  have l:fr.length=ns.length:=by simpa using r
  have g:j<fr.length:=by rw[l];exact t
  rw[sH g]at this
  have b:(X.N[fr[j]]?==nC z&&X.env.scope.names.lookup z==nC .cell&&a.names.lookup z==nC .free)=qm:=this
  rw[jbE,jbE]at b
  obtain⟨⟨w,x⟩,A⟩:=b
  have f:X.env.scope.names.lookup z=nC .cell:=by simpa using x
  exact⟨fr[j],sH g,by simpa using w,f,R5 G (by simpa using A) f⟩
noncomputable def PF (X:Cx) (b:List Expr) (t:TT):Prop:=
 ∀(a:List (pA×Obj))(s:S6)(d:St)(H:Hp)(Q:Bool->Hp->Prop),Inv X a d H s->t d H Q->
  jcH (model X.prog X.w) X.A (forIn b qm λc r=>if r=qm then do let ok<-isTrue c X.env (eval c X.env);pure (jew ok)else pure (jew r)) (TP X a d Q) X.xe s
noncomputable def bR:TT:=λ_ H Q=>Q qm H
theorem jah{X:Cx}:PF X [] bR:=λa s b H Q I h=>wpAny_tests_nil ⟨H,I,h⟩
theorem jai{X:Cx}{c:Expr}{t:TT}(h:PT X c t):PF X [c] t:=λa s b H Q I hw=>wpAny_tests_one (h a s b H Q I hw)
section
variable{prog:jcz}{w:jcS}{A:jdc}{R:jiI->S6->Prop}{s:S6}
theorem Dd{y a o:Expr}{B:List Expr}{f:Scope}{pos:Pos}{it u:pL}{env:Env}(I:Nat->S6->Prop)
 (G:∀n s,I n s->jcH (model prog w) A (jju it) (λr g=>match r with
  |none=>R (.ok .next) g
  |some v=>jcH (model prog w) A (jgF a it v) (λ_ C=>jcH (model prog w) A (assign a env v) (λ_ p=>
   jcH (model prog w) A (forIn B qm λc r=>if r=qm then do let ok<-isTrue c env (eval c env);pure (jew ok)else pure (jew r)) (λok i=>if ok=qm then jcH (model prog w) A (eval y env) (λx q=>
    jcH (model prog w) A (call (.builtin "list.append") [u,x]) (λ_ t=>∃m,m<n/\I m t) (ji4 (model prog w) A env λe d=>R (.error e) d) q) (ji4 (model prog w) A env λe d=>R (.error e) d) i
    else∃m,m<n/\I m i) (ji4 (model prog w) A env λe d=>R (.error e) d) p)
   (ji4 (model prog w) A env λe d=>R (.error e) d) C) (ji4 (model prog w) A env λe d=>R (.error e) d) g) (ji4 (model prog w) A env λe d=>R (.error e) d) s)
 (n:Nat)(h:I n s):je9 (model prog w) A (.compLoop (.ListComp y [⟨a,o,B,0⟩] f pos) 0 it u env) R s:=by
 refine codeAny_loop rfl I (λn s L=>?_) n h
 show jcH _ A ((compTurn (.ListComp y [⟨a,o,B,0⟩] f pos) 0 it u env).onRaise (λx=>do jfL x env;theTreesLotGoes x)) _ _ s
 refine wpAny_noted ?_
 rw[compTurn_list]
 refine xT (je6 (xT (jc1 (G n s L) (λr g j=>?_) λ_ _ b=>b)))
 cases r with
 |none=>exact jcC j
 |some v=>
  refine xT (jc1 j (λ_ J z=>?_) λ_ _ b=>b)
  refine xT (jc1 z (λ_ p D=>?_) λ_ _ b=>b)
  refine xT (jc1 D (λH q l=>?_) λ_ _ b=>b)
  cases H with
  |false=>exact jcC ⟨rfl,l⟩
  |true=>exact xT (xT (jc1 l (λx t E=>xT (jc1 E (λ_ K F=>jcC (jcC ⟨rfl,F⟩)) λ_ _ b=>b)) λ_ _ b=>b))
end
noncomputable def Tz (J:It) (n:Nat) (g:TG) (j:List Nat) (u:TT) (t:TE) (p:St) (Q:VK) (q:Hp) (l:pA):Prop:=
 ∃W:Nat->Nat->Hp->Prop,(∃m,W 0 m (upd q l (.lst [])))/\∀k m H,W k m H->
  (J.stop k H/\Q (.ref l) H)\/(J.go k H/\∀v f,J.yld k H v f->∀o:St,o.length=n->g v (o++inner p j) f λa r=>(∃d:St,d.length=n/\a=d++inner p j)/\u a r λb h=>
   if b=qm then t a h λy i=>∃e c,i l=nC (.lst e)/\e.length<qd/\c<m/\W (k+1) c (upd i l (.lst (e++[y])))else∃c,c<m/\W (k+1) c h)
noncomputable def Kc (h:TI) (d:Nat) (c:List Nat) (g:TG) (f:TT) (e:TE):TE:=λb H Q=>h b H λJ a=>∀l,a l=su->Tz J d g c f e b Q a l
theorem xU{X:Cx}{N:List (pA×Obj)}{Z:St}{H:Hp}{s:S6}{tg M ai:Expr}{am:List Expr}{f:Scope}{pos a1:Pos}{P:List (Str×pA)}{xs ns:List Str}{fr:List Nat}{wi:TI}{g:TG}{tt:TT}{te:TE}
 {use:Option (pL->Sem Unit)}{Qv:pL->S6->Prop}{R:VK}
 (hc:X.calm=qm)(ok:Rp X f P xs ns fr)(hI:PI X tg M wi)(hg:∀C O L E,PG (YG X f P (xs++ns) C O L E) tg g)(hf:∀C O L E,PF (YG X f P (xs++ns) C O L E) am tt)
 (he:∀C O L E,PE (YG X f P (xs++ns) C O L E) ai te)(hs:∀x,jdY M X.env x=pure x)
 (I:Inv X N Z H s)(h:Kc wi xs.length fr g tt te Z H R)
 (ba:∀(C l:pA)(m:Str->Option pL)(s4:S6)(Hk:Hp),Inv X N Z Hk s4->s4.heap.Ns C m->Hk C=su->C≠X.env.locals->(∀z c,X.env.cells.lookup z=nC c->c≠C)->X.s₀.heap.objs.size<=C->(∀p∈X.pn++N,p.1≠C)->
  R (.ref l) Hk->compPost (model X.prog X.w) X.A X.xe use Qv (.ref l) C (.ok .next) s4):
 jcH (model X.prog X.w) X.A (comprehension (.ListComp ai [⟨tg,M,am,0⟩] f pos) f X.env a1 (newList []) vh (eval M X.env) use) Qv X.xe s:=by
 refine jho (use:=use) rfl hs ok.clos ok.kind ok.names ?_
 refine XD (hI N s Z H _ I h) λv s1 h1=>XD h1 λbn t h2=>?_
 obtain⟨it,E,tn,J,L,rfl,B,T,an,f2,rd⟩:=h2
 refine jei (wpAny_newFunctionEnv ok.nocell (by intro y hy;simp at hy) (λS K D=>?_) ok.kind)
 dsimp only at K D|-
 generalize hG:t.heap.push {cls:=.type "list",dict:=su,data:=.seq ([]:List pL).toArray}=G at K D|-
 have hC:G.objs.size=t.heap.objs.size+1:=by rw[<-hG,jet]
 have F:∀b,b<t.heap.objs.size->b≠G.objs.size/\b≠t.heap.objs.size:=λb i=>⟨by rw[hC];exact jcO (jfw i),jcO i⟩
 have U:∀b o,t.heap.get? b=nC o->S.get? b=nC o:=λb o e=>D.extBut b o (F b (jbH e)).1 (U4 _ (hG▸U4 _ e))
 have ax:S.get? t.heap.objs.size=nC {cls:=.type "list",data:=.seq ([]:List pL).toArray}:=
  D.extBut _ _ (by rw[hC];exact jcO (jdr _)) (U4 _ (hG▸jcK _ rfl))
 have ac:L t.heap.objs.size=su:=B.hok.fresh (U6 _)
 have ab:∀b∈E,b<t.heap.objs.size:=λb i=>by
  obtain⟨o,e,_⟩:=T.obj 0 _ an b i
  exact jbH e
 have bm:∀b∈frs X.stack,b∈X.env.locals::X.fs:=B.LQ
 have a6:∀z c,P.lookup z=nC c->c<t.heap.objs.size:=λz c e=>by
  obtain⟨v,q⟩:=B.cell z c (ok.sub z c e)
  exact q.lt
 have aT:(YG X f P (xs++ns) G.objs.size t L E).Ok:=by
  refine⟨B.ok.mod,ok.kind,B.ok.glob,B.ok.blt,?_,λa b c h1 h2=>B.ok.inj a b c (ok.sub a c h1) (ok.sub b c h2),λz hz=>ok.has z hz,λz c hf=>?_,λ_=>B.ok.hd hc,B.ok.frames,.inl rfl,λb i=>⟨(F b (ab b i)).1,λz c e=>?_⟩,B.bs,jc9 B.ok.bsz B.sz,λb o e i=>?_,λb i=>?_,B.stack,B.Pk⟩
  .show t.heap.objs.size<=G.objs.size
   rw[hC];exact jdI _
  .exact absurd (show vh=qm from hf) jbJ
  .exact(f2 b i).2.2.2.2.1 z c (ok.sub z c e)
  .rcases(f2 b i).2.2.2.1 with z|z
   .exact B.ok.noex b o e z
   .exact absurd (jcW (jbH e) (jc9 B.ok.bsz z)) (jef _)
  .intro z
   rcases jbK.mp (bm b z)with q|q
   .exact(f2 b i).2.1 q
   .exact(f2 b i).2.2.1 q
 have al:∀{H':Hp},(∀b∈E,H' b=su)->∀b∈E,G9 (YG X f P (xs++ns) G.objs.size t L E) [] H' b:=λhn b i=>
  ⟨hn b i,(F b (ab b i)).1,aT.exfs b i,.inl i,λz c e=>(f2 b i).2.2.2.2.1 z c (ok.sub z c e),λp hp=>absurd (show p∈([]:List (pA×Obj))from hp) (by simp)⟩
 have I4:Inv (YG X f P (xs++ns) G.objs.size t L E) [] (jcU xs.length su++inner Z fr) (upd L t.heap.objs.size (.lst [])) {t with heap:=S,toks:=t.toks+([]:List (Str×pL)).length}:=by
  refine⟨aT,rfl,B.bare,Un.laid U (U6 _) ac,⟨_,K,λj z u e1 e2 e3=>?_⟩,λz c e=>?_,?_,λz c e=>?_,λp hp=>absurd (show p∈([]:List (pA×Obj))from hp) (by simp),B.hok.laid U (U6 _) ⟨jcY _,[],0,.nil,ax⟩,?_⟩
  .by_cases hj:j<xs.length
   .rw[jdQ (by rw[jdf];exact hj),jfd,if_pos hj]at e2
    have a8:(su:Option V)=nC u:=jc8 e2
    cases a8
   .have aC:xs.length<=j:=jep.mp hj
    rw[jdv (by rw[jdf];exact aC),jdf]at e2
    have a7:ns[j-xs.length]?=nC z:=by
     have ag:(xs++ns)[j]?=nC z:=e1
     rw[jdv aC]at ag;exact ag
    obtain⟨i',q1,q2,q3,q4⟩:=ok.out _ z a7
    have a9:Z[i']?=nC (nC u):=by
     unfold inner at e2
     rw[jcF,q1]at e2
     have e4:(Z[i']?).join=nC u:=jc8 e2
     cases q:Z[i']? with
     |none=>rw[q]at e4;cases e4
     |some o=>rw[q]at e4;cases o with
      |none=>cases e4
      |some o=>cases e4;rfl
    obtain⟨m,hn,hl⟩:=B.loc
    obtain⟨val,r,l⟩:=hl i' z u q2 a9 (.inr (.inl q3))
    refine⟨val,r,.inr ⟨.inl q4,?_⟩⟩
    obtain⟨c',ay⟩:=ok.has z (.inl q4)
    rcases l with⟨k1,_⟩|⟨_,c,aB,Q⟩
    .have aS:X.env.scope.names.lookup z=nC .local:=k1
     rw[q3]at aS;cases aS
    .rw[ok.sub z c' ay]at aB
     cases aB
     obtain⟨ob,ho,hd⟩:=Q
     exact⟨c',ay,ob,U _ _ ho,hd⟩
  .obtain⟨v',ob,ho,hd⟩:=B.cell z c (ok.sub z c e)
   exact⟨v',ob,U _ _ ho,hd⟩
  .show upd L t.heap.objs.size (.lst []) G.objs.size=su
   rw[ZX (by rw[hC];exact jeA (jdr _))]
   exact B.hok.fresh (by rw[hC];exact jdI _)
  .rw[ZX (jcO (a6 z c e))]
   exact B.freeC z c (ok.sub z c e)
  .show(jcU xs.length su++inner Z fr).length=(xs++ns).length
   unfold inner
   rw[O1,O1,rz,ok.len,jdf]
 obtain⟨W,⟨m0,w0⟩,ar⟩:=rd _ ac
 have ah:je9 (model X.prog X.w) X.A (.compLoop (.ListComp ai [⟨tg,M,am,0⟩] f pos) 0 (.ref it) (.ref t.heap.objs.size) (ji2 f P G.objs.size X.env))
  (compPost (model X.prog X.w) X.A X.xe use Qv (.ref t.heap.objs.size) G.objs.size) {t with heap:=S,toks:=t.toks+([]:List (Str×pL)).length}:=by
  refine Dd (λn s'=>∃k Hk aa,Inv (YG X f P (xs++ns) G.objs.size t L E) [] aa Hk s'/\(∃os:St,os.length=xs.length/\aa=os++inner Z fr)/\tn k s'.heap/\(∀b∈E,Hk b=su)/\W k n Hk) ?_ m0
   ⟨0,_,_,I4,⟨_,jdf,rfl⟩,T.keep _ _ _ an λb _ o e=>U b o e,λb i=>by rw[ZX (F b (ab b i)).2];exact(f2 b i).1,w0⟩
  rintro n s3 ⟨k,Hk,aa,I3,⟨os,be,bg⟩,a2,aw,w3⟩
  subst bg
  rcases ar k n Hk w3 with⟨a3,qn⟩|⟨go,step⟩
  .refine XD (T.done (YG X f P (xs++ns) G.objs.size t L E) rfl rfl rfl rfl k [] s3 _ Hk _ I3 (al aw) a2 a3) λr s4 Y=>?_
   obtain⟨hr,I5⟩:=Y
   subst hr
   have J5:Inv X N Z Hk s4:=B.call' I5.os I5.base I5.hok I5.bare λb i=>⟨(f2 b i).2.2.2.1,(f2 b i).2.1,(f2 b i).2.2.2.2.1,(f2 b i).2.2.2.2.2⟩
   obtain⟨mC,bd,_⟩:=I5.loc
   have bi:G.objs.size≠X.env.locals:=jeA (jhR B.lt (by rw[hC];exact jdr _))
   have ad:∀z c,X.env.cells.lookup z=nC c->c≠G.objs.size:=λz c e q=>by
    obtain⟨v',Q⟩:=B.cell z c e
    have:=Q.lt
    rw[q,hC]at this
    exact absurd this (jep.mpr (jdI _))
   exact ba G.objs.size t.heap.objs.size mC s4 Hk J5 bd I5.free bi ad (jc9 B.sz (by rw[hC];exact jdI _)) (λp hp q=>by
    have:=jbH (B.pin p hp).1
    rw[q,hC]at this
    exact absurd this (jep.mpr (jdI _))) qn
  .refine XD (T.item (YG X f P (xs++ns) G.objs.size t L E) rfl rfl rfl rfl k [] s3 _ Hk _ I3 (al aw) a2 go) λr s4 Y=>?_
   obtain⟨u,hr,h4⟩:=Y
   subst hr
   refine XD h4 λ_ s5 Y=>?_
   obtain⟨val,H5,I5,r5,y5,ap,bb⟩:=Y
   have a5:=I5.pinned (al bb) (T.obj _ _ ap)
   refine jc1 (hg _ _ _ _ _ s5 _ H5 val u _ a5 r5 (step val H5 y5 os be)) (λ_ s6 Y=>?_) λ_ _ z=>z.elim
   obtain⟨bo,H6,I6,⟨a0,aE,aI⟩,q6⟩:=Y
   subst aI
   have af:∀{H8:Hp}{s8:S6}{m':Nat},Inv (YG X f P (xs++ns) G.objs.size t L E) ([]++Gh E s5.heap) (a0++inner Z fr) H8 s8->m'<n->W (k+1) m' H8->
    ∃m,m<n/\∃k Hk aa,Inv (YG X f P (xs++ns) G.objs.size t L E) [] aa Hk s8/\(∃os:St,os.length=xs.length/\aa=os++inner Z fr)/\tn k s8.heap/\(∀b∈E,Hk b=su)/\W k m Hk:=λ{H8 s8 m'}I8 hm w8=>by
    refine⟨m',hm,k+1,_,_,I8.Kd,⟨a0,aE,rfl⟩,T.keep _ _ _ ap λb i o e=>(I8.pin (b,o) (jcZ _ (jcZ _ (Ra i e)))).1,λb i=>?_,w8⟩
    obtain⟨ob,e,d⟩:=T.obj _ _ ap b i
    exact(I8.pin (b,ob) (jcZ _ (jcZ _ (Ra i e)))).2.1
   refine jc1 (hf _ _ _ _ _ s6 _ H6 _ I6 q6) (λb bl Y=>?_) λ_ _ z=>z.elim
   obtain⟨a4,av,ae⟩:=Y
   cases b with
   |false=>
    rw[if_neg (by decide)]at ae|-
    obtain⟨m',hm,w7⟩:=ae
    exact af av hm w7
   |true=>
    rw[if_pos rfl]at ae|-
    refine jc1 (he _ _ _ _ _ bl _ a4 _ av ae) (λyv s7 Y=>?_) λ_ _ z=>z.elim
    obtain⟨yy,H7,I7,r7,zs,m',hz,hl,hm,w7⟩:=Y
    refine jc1 (HH (X:=YG X f P (xs++ns) G.objs.size t L E) _ s7 _ H7 (.ref t.heap.objs.size) [yy] (.ref t.heap.objs.size) [yv] (λ_ H8=>H8=upd H7 t.heap.objs.size (.lst (zs++[yy]))) I7 rfl (.cons r7 .nil) ⟨_,zs,yy,rfl,rfl,hz,hl,rfl⟩) (λ_ s8 Y=>?_) λ_ _ z=>z.elim
    obtain⟨_,H8,I8,_,e8⟩:=Y
    subst e8
    exact af I8 hm w7
 exact jhV ah (T.self _ 0 _ _ _ (T.keep _ _ _ an λb _ o e=>U b o e) ah)
theorem fJ{X:Cx}{u d j:Expr}{p:List Expr}{a:Scope}{pos:Pos}{r:List (Str×pA)}{xs ns:List Str}{v:List Nat}{A:TI}{g:TG}{z:TT}{y:TE}
 (J:X.calm=qm)(ok:Rp X a r xs ns v)(F:PI X u d A)(M:∀C c i n,PG (YG X a r (xs++ns) C c i n) u g)(L:∀C c i n,PF (YG X a r (xs++ns) C c i n) p z)
 (K:∀C c i n,PE (YG X a r (xs++ns) C c i n) j y)(P:∀x,jdY d X.env x=pure x:=by intro _;rfl):
 PE X (.ListComp j [⟨u,d,p,0⟩] a pos) (Kc A xs.length v g z y):=by
 intro w s U H Q I h
 rw[eval_ListComp]
 refine xU (use:=su) J ok F M L K P I h λC l m R B D N E t f sz O q=>?_
 exact⟨m,N,λT S=>⟨.ref l,B,D.turned (t':=R.toks) (it:=C) (λb o G e=>S.extBut b o G e) E t (.inr sz) f O,rfl,q⟩⟩
theorem jK{X:Cx}{i:Nat}{y:Str}{E p:Pos}{F c j:Expr}{n:List Expr}{a:Scope}{pos:Pos}{G:List (Str×pA)}{xs ns:List Str}{P:List Nat}{T:TI}{g:TG}{S:TT}{R:TE}
 (hc:X.calm=qm)(ok:Rp X a G xs ns P)(hN:X.N.Nodup)(hi:X.N[i]?=nC y)(hy:Loc X.env.scope y)(K:X.fn y=qm\/X.env.scope.names.lookup y=nC .local)
 (M:jgm (.ListComp j [⟨F,c,n,0⟩] a pos) (nC (.Name y E)) p.line X.env=pure qm)
 (hI:PI X F c T)(hg:∀C d t u,PG (YG X a G (xs++ns) C d t u) F g)(hf:∀C d t u,PF (YG X a G (xs++ns) C d t u) n S)
 (he:∀C d t u,PE (YG X a G (xs++ns) C d t u) j R)(hs:∀x,jdY c X.env x=pure x:=by intro _;rfl):
 PS X (.Assign [.Name y E] (.ListComp j [⟨F,c,n,0⟩] a pos) p) (o8 (Kc T xs.length P g S R) (Xz i)):=by
 intro B s σ H D I h
 rw[exec_Assign_Name_used _ _ _ _ M]
 refine xT (je6 (xT ?_))
 show jcH _ X.A (do let _<-comprehension (.ListComp j [⟨F,c,n,0⟩] a pos) a X.env _ (newList []) vh (eval c X.env) (nC (assign (.Name y E) X.env))) _ _ s
 refine xT (jc1 (xU (use:=nC (assign (.Name y E) X.env)) (Qv:=λ_ Q=>SP X B D .next Q) hc ok hI hg hf he hs I h λC l m s4 Hk W hn hC w f sz hp q=>?_) (λ_ Q hq=>jcC (jcC hq)) λ_ _ e=>e)
 show jcH _ X.A (assign (.Name y E) X.env (.ref l)) _ _ s4
 refine wpAny_assign_Name (zL W hN hi hy (v:=.ref l) rfl (λs5 U sb=>?_) K)
 obtain⟨aa,L,J⟩:=sb
 have Y:C≠aa:=by
  rcases J with q|q
  .rw[q];exact w
  .exactλz=>f _ _ q z.symm
 refine⟨m,?_,λh' O=>⟨_,_,U.turned (t':=s5.toks) (it:=C) (λb o hb e=>O.extBut b o hb e) hC w (.inr sz) f hp,q⟩⟩
 obtain⟨oC,es,Z,ho,r⟩:=hn
 exact⟨oC,es,Z,L.extBut _ _ Y ho,r⟩
section
variable{X:Cx}
theorem Hf:∀{xs:List V}{us:List pL}{i:Nat}{u:pL},Vals xs us->us[i]?=nC u->∃x,xs[i]?=nC x/\RelV x u
 |[],_,_,_,.nil,e=>by simp at e
 |x::xs,_,0,u,.cons r rr,e=>⟨x,rfl,by cases e;exact r⟩
 |x::xs,_,i+1,u,.cons r rr,e=>by
  obtain⟨y,a,b⟩:=Hf (xs:=xs) (i:=i) rr (by simpa using e)
  exact⟨y,by simpa using a,b⟩
theorem G3(ns:List Int):∀k,k<=ns.length->preSum (λi=>ns.getD i 0) k=(ns.take k).sum
 |0,_=>rfl
 |k+1,h=>by
  have b:=G3 ns k (by omega)
  have a:k<ns.length:=by omega
  show preSum (λi=>ns.getD i 0) k+ns.getD k 0=_
  rw[b,jdE,sH a,List.sum_append,jbG,sH a]
  show(ns.take k).sum+ns[k]=(ns.take k).sum+(ns[k]+0)
  rw[Int.add_zero]
theorem Ia{ns:List Int}{a:List pL}{i:Nat}{v:pL}(r:Vals (ns.map V.int) a)(e:a.toArray[i]?=nC v):∃t,v=.int (ns.getD i 0) t:=by
 have c:a[i]?=nC v:=by simpa using e
 obtain⟨x,b,f⟩:=Hf r c
 rw[jcF]at b
 obtain⟨n,d,rfl⟩:=jcT.mp b
 obtain⟨t,rfl⟩:=f
 refine⟨t,?_⟩
 rw[jbG,d];rfl
theorem Hr(m:X.calm=qm):Tw X (.builtin "sum") (λxs H Q=>∃(p:pA)(ns:List Int),xs=[.ref p]/\Yy X.K H p (ns.map V.int)/\Q (.int ns.sum) H):=by
 intro j s C H xs B Q I r h
 obtain⟨p,ns,rfl,o,q⟩:=h
 obtain⟨u,rfl,t⟩:=vals1 r
 cases t
 obtain⟨d,l,f,y⟩:=I.list o
 have g:=l.length
 rw[rz]at g
 have a:p<s.heap.objs.size:=by obtain⟨_,e,_⟩:=f.isList;exact jbH e
 refine call_sum_walkG (jf7 f.isList ?_)
 refine⟨_,_,_,_,_,_,λi=>ns.getD i 0,rfl,jjC (A:=X.A.in1) (I.ok.hd m) _ p (jcO a) d.toArray,⟨⟨_,jcK _ rfl,rfl,rfl⟩,f.isList.push _⟩,?_,λi v e=>Ia l e,λx z w n=>?_⟩
 .intro b c
  show b<(s.heap.push _).objs.size
  rw[jet]
  rcases jbK.mp c with rfl|c
  .exact jdr _
  .rw[jc5.mp c];exact jfw a
 .refine⟨.int ns.sum,H,I.kept (old_kept n),⟨w,?_⟩,q⟩
  rw[jbF,<-g,G3 ns _ (U6 _),jc2]
theorem Hq(C:X.calm=qm):Tw X (.builtin "all") (λxs H Q=>∃(p:pA)(bs:List Bool),xs=[.ref p]/\Yy X.K H p (bs.map V.bl)/\Q (.bl (bs.all id)) H):=by
 intro t s O H xs N Q I r h
 obtain⟨p,bs,rfl,G,q⟩:=h
 obtain⟨u,rfl,l⟩:=vals1 r
 cases l
 obtain⟨a,w,j,L⟩:=I.list G
 have o:=w.length
 rw[rz]at o
 have g:p<s.heap.objs.size:=by obtain⟨_,e,_⟩:=j.isList;exact jbH e
 refine call_all_walk (jf7 j.isList ?_)
 refine⟨_,_,_,_,_,_,λi=>bs.getD i qm,rfl,jjC (A:=X.A.in1) (I.ok.hd C) _ p (jcO g) a.toArray,⟨⟨_,jcK _ rfl,rfl,rfl⟩,j.isList.push _⟩,λi v s Q E e z=>?_,λJ M D=>?_⟩
 .have y:a[i]?=nC v:=by simpa using e
  obtain⟨x,f,l⟩:=Hf w y
  rw[jcF]at f
  obtain⟨n,F,rfl⟩:=jcT.mp f
  have m:v=.bool n:=l
  subst m
  refine jdX ?_
  have B:bs.getD i qm=n:=by rw[jbG,F];rfl
  have b:Q (bs.getD i qm) s:=z
  rw[B]at b
  exact b
 .refine⟨.bl (bs.all id),H,I.kept (old_kept D),?_,q⟩
  have e:((jc4 a.toArray.size).all λi=>bs.getD i qm)=bs.all id:=by
   rw[jbF,<-o,jeb,jcV,jcV]
   constructor
   .intro h x f
    obtain⟨i,d,rfl⟩:=jgw.mp f
    have:=h i (jd0.mpr d)
    rw[jbG,sH d]at this
    exact this
   .intro h i d
    have c:=jd0.mp d
    rw[jbG,sH c]
    exact h _ (jds c)
  rw[e];rfl
noncomputable def BP (ns:List Int) (m:Int):Prop:=m∈ns/\∀x∈ns,x<=m
theorem Er(a:Nat->Nat->Bool):∀k,jfl a k<=k
 |0=>U6 _
 |k+1=>by
  unfold jfl
  split
  .exact U6 _
  .exact Nat.le_succ_of_le (Er a k)
theorem GQ(val:Nat->Int):∀k j,j<=k->val j<=val (jfl (λi j=>decide (val i>val j)) k)
 |0,j,h=>by
  have:j=0:=by omega
  subst this;exact jii _
 |k+1,j,h=>by
  have e:=GQ val k
  unfold jfl
  by_cases d:j=k+1
  .subst d
   split
   .exact jii _
   .rename_i a
    have b:¬val (k+1)>val (jfl (λi j=>decide (val i>val j)) k):=by simpa using a
    omega
  .have c:=e j (by omega)
   split
   .rename_i a
    have b:val (k+1)>val (jfl (λi j=>decide (val i>val j)) k):=by simpa using a
    omega
   .exact c
theorem v7{ns:List Int}(h:0<ns.length):BP ns (ns.getD (jfl (λi j=>decide (ns.getD i 0>ns.getD j 0)) (ns.length-1)) 0):=by
 have c:=Er (λi j=>decide (ns.getD i 0>ns.getD j 0)) (ns.length-1)
 have a:jfl (λi j=>decide (ns.getD i 0>ns.getD j 0)) (ns.length-1)<ns.length:=by omega
 refine⟨?_,λx d=>?_⟩
 .rw[jbG,sH a]
  exact jds a
 .obtain⟨i,b,rfl⟩:=jgw.mp d
  have:=GQ (λi=>ns.getD i 0) (ns.length-1) i (by omega)
  have e:ns.getD i 0=ns[i]:=by rw[jbG,sH b];rfl
  rw[e]at this
  exact this
theorem gR:jbR X "int.bit_length" (λx xs H Q=>∃i,x=.int i/\xs=[]/\Q (.int (jey i)) H):=by
 intro a s d H x xs v c Q I b r h
 obtain⟨i,rfl,rfl,q⟩:=h
 obtain⟨t,rfl⟩:=b
 cases r
 exact call_int_bit_length ⟨.int (jey i),H,I.tok _,⟨_,rfl⟩,q⟩
noncomputable def cM (to:TE):TE:=λb H Q=>to b H λx a=>∃i,x=.int i/\Q (.int (jey i)) a
theorem fD{o:Expr}{to:TE}{a b:Pos}(q:PE X o to)(d:jdz o "bit_length" X.env (eval o X.env)=eval o X.env:=by rfl)(f:(a.endLine==b.line)=qm:=by rfl):
 PE X (.Call (.Attribute o "bit_length" a) [] [] b) (cM to):=by
 intro c s m H Q I h
 refine wpAny_Call_method0_late d f (XD (q c s m H _ I h) λv t u=>?_)
 obtain⟨x,g,j,l,i,e,r⟩:=u
 subst e
 obtain⟨n,p⟩:=iy j l (show jcf X.K "int" (.int i) g from rfl)
 exact⟨"int","int.bit_length",PySem.F.plainAttrs_int,PySem.F.slot_int_bit_length,PySem.F.type_int_bit_length,n,p,jdS rfl (PySem.evalArgs_none (gR c t m g (.int i) [] v [] Q j l .nil ⟨i,rfl,rfl,r⟩))⟩
end
structure QC(X:Cx)(ifs:List Expr)(t:TT):Prop where h:PF X ifs t
structure jbL(X:Cx)(ts:List Expr)(t:iK):Prop where h:jaO X ts t
section
variable{X:Cx}{e o:Expr}{te to:TE}{pos:Pos}
theorem Wu:QC X [] bR:=⟨L2.jah⟩
theorem JV{c:Expr}{t:TT}(h:QT X c t):QC X [c] t:=⟨L2.jai h.h⟩
theorem qG{a b:Pos}(e:QE X o to)(c:jdz o "bit_length" X.env (eval o X.env)=eval o X.env:=by rfl)(d:(a.endLine==b.line)=qm:=by rfl):
 QE X (.Call (.Attribute o "bit_length" a) [] [] b) (cM to):=⟨L2.fD e.h c d⟩
theorem YH(K:oh)(h:X.K=K:=by rfl):bw X (jbq K):=by subst h;exact gK
theorem Q4(K:oh)(h:X.K=K:=by rfl):bw X (jbr K):=by subst h;exact uB
theorem Qj:jbL X [] gA:=⟨L2.fX⟩
theorem Wg{a:List Expr}{t:TG}{u:iK}(b:QG X e t)(c:jbL X a u)(d:(je2 (e::a) X.env).map (·.2)=assign e X.env::(je2 a X.env).map (·.2):=by rfl):jbL X (e::a) (Ao t u):=⟨L2.jG b.h c.h d⟩
theorem PQ{a:List Expr}{k:Nat}{t:iK}(K:oh)(n:Nat)(d:X.calm=qm)(h:jbL X a t)(c:X.K=K:=by rfl)(hn:(je2 a X.env).length=n:=by rfl)(b:(je2 a X.env).findIdx? (·.1)=su:=by rfl):QG X (.Tuple a k pos) (gC K n t):=by
 subst c;exact⟨L2.jaj d h.h hn b⟩
theorem xK{a:Expr}{g:TG}(c:QE X e te)(d:QG X a g)(f:swapsWithSole [a] e pos.line X.env=pure vh:=by rfl)(hw:swappedStores [a] e X.env=pure su:=by rfl)
 (b:(je2 [a] X.env).map (·.2)=[assign a X.env]:=by rfl):QS X (.Assign [a] e pos) (o8 te g):=⟨L2.jam c.h d.h f hw b⟩
theorem XH{p c e:Expr}{j:List Expr}{a:Scope}{u:TI}{g:TG}{t:TT}(r:Scope)(N xs ns:List Str)(q:List Nat)
 (z:X.calm=qm)(o:X.env.scope=r)(y:X.N=N)(m:∃n,X.env.cells=jgX n X.env.scope.names [])(E:X.env.scope.kind=.function)(l:a.kind=.function)(v:xR r.names a.names N ns q=qm)
 (w:QI X p c u)(D:∀C b d i,QG (YG X a (RK X.env.cells a.names []) (xs++ns) C b d i) p g)(B:∀C b d i,QC (YG X a (RK X.env.cells a.names []) (xs++ns) C b d i) j t)
 (A:∀C b d i,QE (YG X a (RK X.env.cells a.names []) (xs++ns) C b d i) e te)(F:∀x,jdY c X.env x=pure x:=by intro _;rfl):
 QE X (.ListComp e [⟨p,c,j,0⟩] a pos) (Kc u xs.length q g t te):=
 ⟨L2.fJ z (Rp.of o y m E l v) w.h (λC s H f=>(D C s H f).h) (λC s H f=>(B C s H f).h) (λC s H f=>(A C s H f).h) F⟩
theorem Eo{i:Nat}{y:Str}{z d:Pos}{p c e:Expr}{j:List Expr}{a:Scope}{D:TI}{g:TG}{B:TT}(A:Scope)(N xs ns:List Str)(w:List Nat)(t:X.N.Nodup)(M:X.N[i]?=nC y)(Q:Loc X.env.scope y)(r:X.fn y=qm)
 (v:jgm (.ListComp e [⟨p,c,j,0⟩] a pos) (nC (.Name y z)) d.line X.env=pure qm)
 (I:X.calm=qm)(u:X.env.scope=A)(G:X.N=N)(q:∃n,X.env.cells=jgX n X.env.scope.names [])(O:X.env.scope.kind=.function)(o:a.kind=.function)(E:xR A.names a.names N ns w=qm)
 (F:QI X p c D)(L:∀C b l m,QG (YG X a (RK X.env.cells a.names []) (xs++ns) C b l m) p g)(K:∀C b l m,QC (YG X a (RK X.env.cells a.names []) (xs++ns) C b l m) j B)
 (J:∀C b l m,QE (YG X a (RK X.env.cells a.names []) (xs++ns) C b l m) e te)(P:∀x,jdY c X.env x=pure x:=by intro _;rfl):
 QS X (.Assign [.Name y z] (.ListComp e [⟨p,c,j,0⟩] a pos) d) (o8 (Kc D xs.length w g B te) (Xz i)):=
 ⟨L2.jK I (Rp.of u G q O o E) t M Q (.inl r) v F.h (λC s H f=>(L C s H f).h) (λC s H f=>(K C s H f).h) (λC s H f=>(J C s H f).h) P⟩
end
section
variable{K:oh}{fr:List Nat}{tt:TT}{te:TE}{σ:St}{Q:VK}{H1:Hp}{l:pA}
noncomputable def my (g:List Nat) (j:TT) (i:TE) (h:St) (l:pA) (v:V) (H:Hp) (N:Hp->Prop):Prop:=
 ∀(f:V->Hp->Prop)(e:Hp->Prop),(∀y c d,c l=nC (.lst d)->d.length<qd->N (upd c l (.lst (d++[y])))->f y c)->(∀a,N a->e a)->
  j (nC v::inner h g) H λb a=>if b=qm then i (nC v::inner h g) a f else e a
theorem Dc{J:It}(n:Nat)(b:Nat->Hp->Prop)(h0:b 0 (upd H1 l (.lst [])))(f:∀k H,k<n->b k H->J.go k H)(c:∀H,b n H->J.stop n H)
 (q:∀k H v H',k<n->b k H->J.yld k H v H'->my fr tt te σ l v H' (b (k+1)))(i:∀H,b n H->Q (.ref l) H):Tz J 1 (Xz 0) fr tt te σ Q H1 l:=by
 refine⟨λk m H=>m=n-k/\k<=n/\b k H,⟨n,by simp,jcY _,h0⟩,?_⟩
 rintro k m H ⟨rfl,x,p⟩
 by_cases a:k<n
 .refine .inr ⟨f k H a p,λv H' r z j=>?_⟩
  obtain⟨o,rfl⟩:=jhW.mp j
  exact⟨⟨[nC v],rfl,rfl⟩,q k H v H' a p r _ _ (λy w t g h d=>⟨t,n-(k+1),g,h,by omega,rfl,a,d⟩) λu d=>⟨n-(k+1),by omega,rfl,a,d⟩⟩
 .have e:k=n:=by omega
  subst e
  exact .inl ⟨c H p,i H p⟩
theorem Ah{lo:Int}{n:Nat}(a:Nat->Hp->Prop)(h0:a 0 (upd H1 l (.lst [])))
 (d:∀k H,k<n->a k H->my fr tt te σ l (.int (lo+k)) H (a (k+1)))(b:∀H,a n H->Q (.ref l) H):Tz (dR lo n) 1 (Xz 0) fr tt te σ Q H1 l:=
 Dc n a h0 (λ_ _ h _=>h) (λ_ _=>U6 _) (λk H v f c p e=>by obtain⟨rfl,rfl⟩:=e;exact d k _ c p) b
theorem Uj{a:pA}{xs:List V}(b:Nat->Hp->Prop)(h0:b 0 (upd H1 l (.lst [])))(c:∀k H,k<=xs.length->b k H->Yy K H a xs)
 (f:∀k x H,xs[k]?=nC x->b k H->my fr tt te σ l x H (b (k+1)))(d:∀H,b xs.length H->Q (.ref l) H):Tz (bu K a) 1 (Xz 0) fr tt te σ Q H1 l:=
 Dc xs.length b h0 (λk H h p=>⟨xs,xs[k],c k H (jer h) p,by simp[h]⟩) (λH p=>⟨xs,c _ H (U6 _) p,U6 _⟩)
  (λk H v i e p g=>by obtain⟨rfl,y⟩:=g;exact f k v _ (y xs (c k _ (jer e) p)) p) d
noncomputable def dU (g:List Nat) (j:TT) (i:TE) (h:St) (l:pA) (v u:V) (H:Hp) (N:Hp->Prop):Prop:=
 ∀(f:V->Hp->Prop)(e:Hp->Prop),(∀y c d,c l=nC (.lst d)->d.length<qd->N (upd c l (.lst (d++[y])))->f y c)->(∀a,N a->e a)->
  j (nC v::nC u::inner h g) H λb a=>if b=qm then i (nC v::nC u::inner h g) a f else e a
theorem mQ{J:It}(n:Nat)(d:Nat->Hp->Prop)(h0:d 0 (upd H1 l (.lst [])))(h:∀k H,k<n->d k H->J.go k H)(f:∀H,d n H->J.stop n H)
 (z:∀k H v H',k<n->d k H->J.yld k H v H'->∃p x y,v=.ref p/\Su K H' p [x,y]/\dU fr tt te σ l x y H' (d (k+1)))(u:∀H,d n H->Q (.ref l) H):Tz J 2 (gC K 2 (Ao (Xz 0) (Ao (Xz 1) gA))) fr tt te σ Q H1 l:=by
 refine⟨λk m H=>m=n-k/\k<=n/\d k H,⟨n,by simp,jcY _,h0⟩,?_⟩
 rintro k m H ⟨rfl,G,p⟩
 by_cases c:k<n
 .refine .inr ⟨h k H c p,λv H' B j i=>?_⟩
  obtain⟨o,I,rfl⟩:∃a b,j=[a,b]:=by
   cases j with
   |nil=>cases i
   |cons a t=>
    obtain⟨b,rfl⟩:=jhW.mp (jeW i)
    exact⟨a,b,rfl⟩
  obtain⟨C,x,y,rfl,w,A⟩:=z k H v H' c p B
  exact⟨C,[x,y],rfl,w,rfl,x,[y],rfl,y,[],rfl,rfl,⟨[nC x,nC y],rfl,rfl⟩,A _ _ (λy F D q r g=>⟨D,n-(k+1),q,r,by omega,rfl,c,g⟩) λE g=>⟨n-(k+1),by omega,rfl,c,g⟩⟩
 .have e:k=n:=by omega
  subst e
  exact .inl ⟨f H p,u H p⟩
end
theorem Z5.upd{H H':Hp}{l:pA}(s:Z5 H H')(h:H l=su)(o:HO):Z5 H (upd H' l o):=λb u q=>by rw[ZX (Yd q h)];exact s b u q
theorem iY(a b:Nat):jf8 (a:Int) b=((a&&&b:Nat):Int):=by
 unfold jf8
 rw[show decide ((0:Int)<=(a:Int))=qm from by simp,show decide ((0:Int)<=(b:Int))=qm from by simp]
 show(((a:Int).toNat&&&(b:Int).toNat:Nat):Int)=_
 rw[jdD,jdD]
theorem aU(a b:Nat):jhk (a:Int) b=((a|||b:Nat):Int):=by
 unfold jhk jf8
 have c:decide ((0:Int)<=jdU (a:Int))=vh:=by unfold jdU;simp;omega
 have d:decide ((0:Int)<=jdU (b:Int))=vh:=by unfold jdU;simp;omega
 rw[c,d]
 show jdU (jdU (((jdU (jdU (a:Int))).toNat|||(jdU (jdU (b:Int))).toNat:Nat):Int))=_
 have e:∀x:Int,jdU (jdU x)=x:=λx=>by unfold jdU;omega
 rw[e,e,e,jdD,jdD]
theorem dm(k:Nat):(1:Int)*2^(k:Int).toNat=((2^k:Nat):Int):=by
 rw[jdD,Int.one_mul,Int.natCast_pow];rfl
theorem xO(b:Nat):jey (b:Int)=if b=0 then 0 else b.log2+1:=by
 unfold jey
 by_cases h:b=0
 .subst h;rfl
 .rw[if_neg h,if_neg (by simpa using h),Int.natAbs_natCast]
theorem bG{b:Nat}(h:b<64):jey (b:Int)<=6:=by
 rw[xO]
 split
 .omega
 .rename_i a
  have:=(Nat.log2_lt a (k:=6)).mpr h
  omega
noncomputable def things (b:Nat):List Nat:=(jc4 6).filter b.testBit
theorem vL:∀b<64,(jc4 (if b=0 then 0 else b.log2+1)).filter (λk=>decide (b&&&2^k=2^k))=things b:=by decide+kernel
theorem Nt(b:Nat):(things b).length<=6:=by
 have:=jen (b.testBit) (jc4 6)
 rw[jeX]at this
 exact this
theorem Dp{a b:Nat}:decide (V.int (a:Int)=V.int (b:Int))=decide (a=b):=by
 by_cases h:a=b
 .subst h;simp
 .rw[decide_eq_false h,decide_eq_false]
  intro z
  exact h (Int.ofNat.inj (V.int.inj z))
section
variable{K:oh}{fr:List Nat}{tt:TT}{te:TE}{σ:St}{Q:VK}{H1:Hp}{l:pA}
theorem T5{lo:Int}{n:Nat}(p:Nat->Bool)(f:Nat->V)(hn:n<=100)(g:H1 l=su)
 (q:∀k H,k<n->Z5 H1 H->∀C,(∀H',Z5 H H'->C (p k) H')->tt (nC (.int (lo+k))::inner σ fr) H C)
 (o:∀k H,k<n->p k=qm->Z5 H1 H->∀C,(∀H',Z5 H H'->C (f k) H')->te (nC (.int (lo+k))::inner σ fr) H C)
 (m:∀H,Z5 H1 H->H l=nC (.lst (((jc4 n).filter p).map f))->Q (.ref l) H):Tz (dR lo n) 1 (Xz 0) fr tt te σ Q H1 l:=by
 refine Ah (λk H=>Z5 H1 H/\H l=nC (.lst (((jc4 k).filter p).map f))) ⟨Zk g _,Zj⟩ ?_ λH⟨s,e⟩=>m H s e
 rintro k H d ⟨s,e⟩ t r j i
 refine q k H d s _ λH' a=>?_
 have c:(jc4 (k+1)).filter p=(jc4 k).filter p++(if p k=qm then[k]else[]):=by
  rw[jfq,jeK]
  cases hp:p k<;>simp[hp]
 cases hp:p k with
 |false=>
  rw[if_neg (by decide)]
  refine i _ ⟨s.trans a,?_⟩
  rw[c,hp,if_neg (by decide),jdA]
  exact a _ _ e
 |true=>
  rw[if_pos rfl]
  refine o k H' d hp (s.trans a) _ λh b=>?_
  refine j _ _ _ (b _ _ (a _ _ e)) ?_ ⟨((s.trans a).trans b).upd g _,?_⟩
  .rw[rz]
   have:=jen p (jc4 k)
   rw[jeX]at this
   exact Xr (by omega)
  .rw[Zj,c,hp,if_pos rfl,jcA];rfl
theorem z9{g:Type}{a:pA}(b:g->V)(xs:List g)(p:g->Bool)(f:g->V)(t:Yy K H1 a (xs.map b))(hn:xs.length<=100)(j:H1 l=su)
 (y:∀x∈xs,∀H,Z5 H1 H->∀C,(∀H',Z5 H H'->C (p x) H')->tt (nC (b x)::inner σ fr) H C)
 (w:∀x∈xs,p x=qm->∀H,Z5 H1 H->∀C,(∀H',Z5 H H'->C (f x) H')->te (nC (b x)::inner σ fr) H C)
 (u:∀H,Z5 H1 H->H l=nC (.lst ((xs.filter p).map f))->Q (.ref l) H):Tz (bu K a) 1 (Xz 0) fr tt te σ Q H1 l:=by
 refine Uj (xs:=xs.map b) (λk H=>Z5 H1 H/\H l=nC (.lst (((xs.take k).filter p).map f))) ⟨Zk j _,Zj⟩ (λk H _⟨s,_⟩=>s.seq t) ?_ λH⟨s,e⟩=>u H s (by rw[rz,jc2]at e;exact e)
 rintro k v H n ⟨s,e⟩ A z i r
 rw[jcF]at n
 obtain⟨x,o,rfl⟩:=jcT.mp n
 have m:x∈xs:=jcE o
 refine y x m H s _ λH' c=>?_
 have h:(xs.take (k+1)).filter p=(xs.take k).filter p++(if p x=qm then[x]else[]):=by
  rw[jdE,o,jeK]
  cases hp:p x<;>simp[hp]
 cases hp:p x with
 |false=>
  rw[if_neg (by decide)]
  refine r _ ⟨s.trans c,?_⟩
  rw[h,hp,if_neg (by decide),jdA]
  exact c _ _ e
 |true=>
  rw[if_pos rfl]
  refine w x m hp H' (s.trans c) _ λq d=>?_
  refine i _ _ _ (d _ _ (c _ _ e)) ?_ ⟨((s.trans c).trans d).upd j _,?_⟩
  .rw[rz]
   have i:=jen p (xs.take k)
   have B:=List.length_take_le' k xs
   exact Xr (by omega)
  .rw[Zj,h,hp,if_pos rfl,jcA];rfl
end
theorem Et{a:Type}{xs:List a}{k:Nat}{x:a}(h:xs[k]?=nC x):Ac xs (k:Int)=nC x:=FQ h
noncomputable def jbo (K:oh) (neg:Bool):R2:=λx y H Q=>∃(a b:pA)(d c:List Int),x=.ref a/\y=.ref b/\Yy K H a (d.map V.int)/\Yy K H b (c.map V.int)/\Q (.bl (if neg then !decide (d=c)else decide (d=c))) H
theorem wC{ns b:List Int}(h:ns.length=b.length):((jc4 ns.length).all λj=>ns.getD j 0==b.getD j 0)=decide (ns=b):=by
 rw[jeb,jcV,decide_eq_true_iff]
 constructor
 .intro q
  refine jhg λi=>?_
  by_cases a:i<ns.length
  .have:=q i (jd0.mpr a)
   have e:ns.getD i 0=b.getD i 0:=by simpa using this
   rw[jbG,jbG,sH a,sH (by rw[<-h];exact a)]at e
   rw[sH a,sH (by rw[<-h];exact a)]
   exact congrArg nC e
  .rw[jeN (by omega),jeN (by omega)]
 .intro e j _
  rw[e];simp
theorem Ak{A:jdc}{s:S6}{ns a:List Int}{us vs:List pL}(f:Vals (ns.map V.int) us)(g:Vals (a.map V.int) vs)(j:Nat)(d:j<us.toArray.size)(e:j<vs.toArray.size):jiK A s us.toArray[j] vs.toArray[j] (ns.getD j 0==a.getD j 0):=by
 obtain⟨t,b⟩:=Ia f (jem d)
 obtain⟨h,c⟩:=Ia g (jem e)
 rw[b,c]
 exact jiL _ _ _ _
theorem jk{X:Cx}(g:X.A.units<jf9):SJ X (jdj .Eq) (jbo X.K vh):=by
 intro o s G H x y v u Q I E F h
 obtain⟨a,b,d,c,rfl,rfl,z,B,q⟩:=h
 cases E;cases F
 obtain⟨C,p,m,_⟩:=I.list z
 obtain⟨i,r,n,_⟩:=I.list B
 have l:=p.length
 have D:=r.length
 rw[rz]at l D
 by_cases f:d.length=c.length
 .refine SeqAt.eq_listAt m.isList n.isList (by rw[jbF,jbF];omega) g (λj t w=>Ak p r j t w) ?_
  refine⟨_,H,I,?_,q⟩
  show jdR _=jdR (decide (d=c))
  rw[jbF,<-l,wC f]
 .refine SeqAt.eq_list_lengthsAt m.isList n.isList (by rw[jbF,jbF];simp;omega) g ?_
  refine⟨_,H,I,?_,q⟩
  show jdR vh=jdR (decide (d=c))
  rw[decide_eq_false λe=>f (by rw[e])]
theorem aO{X:Cx}(g:X.A.units<jf9):SJ X (jdj .NotEq) (jbo X.K qm):=by
 intro o s G H x y v u Q I E F h
 obtain⟨a,b,d,c,rfl,rfl,z,B,q⟩:=h
 cases E;cases F
 obtain⟨C,p,m,_⟩:=I.list z
 obtain⟨i,r,n,_⟩:=I.list B
 have l:=p.length
 have D:=r.length
 rw[rz]at l D
 by_cases f:d.length=c.length
 .refine SeqAt.RcNeAt.lists m.isList n.isList (by rw[jbF,jbF];omega) g (λj t w=>Ak p r j t w) _ _ _ _ ?_
  refine⟨_,H,I,?_,q⟩
  show jdR _=jdR (!decide (d=c))
  rw[jbF,<-l,wC f]
 .refine SeqAt.RcNeAt.lists_lengths m.isList n.isList (by rw[jbF,jbF];simp;omega) g _ _ _ _ ?_
  refine⟨_,H,I,?_,q⟩
  show jdR qm=jdR (!decide (d=c))
  rw[decide_eq_false λe=>f (by rw[e])];rfl
section
variable{X:Cx}
theorem yF:SJ X (jd9 .BitAnd) (λx y H Q=>∃a b:Nat,x=.int a/\y=.int b/\Q (.int ((a&&&b:Nat):Int)) H):=by
 intro c s h H x y v u Q I f g ⟨a,b,d,e,q⟩
 exact aL c s h H x y v u Q I f g ⟨_,_,d,e,by show Q (.int (jf8 a b)) H;rw[iY];exact q⟩
theorem uT:SJ X (jd9 .BitOr) (λx y H Q=>∃a b:Nat,x=.int a/\y=.int b/\Q (.int ((a|||b:Nat):Int)) H):=by
 intro c s h H x y v u Q I f g ⟨a,b,d,e,q⟩
 exact jba c s h H x y v u Q I f g ⟨_,_,d,e,by show Q (.int (jhk a b)) H;rw[aU];exact q⟩
theorem Qe:SJ X (jd9 .LShift) (λx y H Q=>∃k:Nat,x=.int 1/\y=.int k/\k<=1000/\Q (.int ((2^k:Nat):Int)) H):=by
 intro a s f H x y v u Q I d e ⟨k,b,c,g,q⟩
 exact aQ a s f H x y v u Q I d e ⟨1,k,b,c,⟨by omega,by omega,by decide⟩,by show Q (.int ((1:Int)*2^(k:Int).toNat)) H;rw[dm];exact q⟩
theorem rM:SJ X (jd9 .RShift) (λx y H Q=>∃a k:Nat,x=.int a/\y=.int k/\Q (.int ((a/2^k:Nat):Int)) H):=by
 intro b s h H x y v u Q I f g ⟨a,k,c,d,q⟩
 refine aR b s h H x y v u Q I f g ⟨a,k,c,d,by show(0:Int)<=(k:Int);omega,?_⟩
 show Q (.int ((a:Int)/2^(k:Int).toNat)) H
 rw[jdD]
 have e:((a/2^k:Nat):Int)=(a:Int)/2^k:=by rw[Int.natCast_ediv,Int.natCast_pow];rfl
 rw[<-e];exact q
end
theorem Fp{X:Cx}{f:pL->pL->Sem pL}{C:Int->Int->Prop}{g:Int->Int->V}(h:SJ X f (rI C g)):SJ X f (λx y H Q=>∃i j r,x=.int i/\y=.int j/\C i j/\g i j=r/\Q r H):=by
 intro a s n H x y v u Q I l m ⟨i,j,r,b,c,e,d,q⟩
 subst d
 exact h a s n H x y v u Q I l m ⟨i,j,b,c,e,q⟩
theorem Xc{X:Cx}{f:pL->pL->Sem pL}{g:Int->Int->V}(h:SJ X f (iR g)):SJ X f (λx y H Q=>∃i j r,x=.int i/\y=.int j/\g i j=r/\Q r H):=by
 intro a s m H x y v u Q I e l ⟨i,j,r,b,c,d,q⟩
 subst d
 exact h a s m H x y v u Q I e l ⟨i,j,b,c,q⟩
section
variable{X:Cx}{pins:List (pA×Obj)}{σ:St}{H:Hp}{s:S6}{h':jcX}
theorem Inv.Qi{t':Nat}{ch:List pA}(I:Inv X pins σ H s)(k:∀b o,b∉ch->s.heap.get? b=nC o->h'.get? b=nC o)(f:∀b∈ch,G9 X pins H b):Inv X pins σ H {s with heap:=h',toks:=t'}:=by
 have d:∀b u,H b=nC u->b∉ch:=λb u e z=>by have:=(f b z).1;rw[e]at this;cases this
 refine I.step (g':=s.gens) (d':=s.drawn) (ch:=ch) (λb t=>?_) (λb o _ _ a e _=>k b o a e) (λb o _ _ a e _=>⟨o.slots,k b o a e⟩) (λ_ _ _ _ n=>n)
  (λb o a e=>⟨o,k b o a e⟩) (λ_ _ e=>e) (λ_ _ _ e=>e) (λb B e=>⟨#[],by rw[e];simp⟩) (λm w=>?_) (λb u e=>?_) I.bare
 .obtain⟨y,i,A,j,l,p⟩:=f b t
  exact⟨j,i,l,p⟩
 .obtain⟨o,h,g,x,r⟩:=w
  exact⟨o,h,g,k _ o (λz=>(f _ z).2.1 rfl) x,r⟩
 .refine(I.hok b u e).stay (λc v a q=>k c v ?_ q) (λ_ q=>q) λ_ _ q=>q
  rcases a with z|z
  .rw[z];exact d b u e
  .exact d c _ z
end
noncomputable def jbQ (K:oh) (a b:pA):It:=
 ⟨λi H=>∃c x d y,Yy K H a c/\c[i]?=nC x/\Yy K H b d/\d[i]?=nC y,
  λi H v e=>∃p x y,v=.ref p/\H p=su/\e=upd H p (.tup [x,y])/\(∀c,Yy K H a c->c[i]?=nC x)/\(∀d,Yy K H b d->d[i]?=nC y),
  λi H=>∃c d,Yy K H a c/\Yy K H b d/\(c.length<=i\/d.length<=i)⟩
theorem iw{P:jcz}{w:jcS}{K:oh}{es:List Expr}{kk:Nat}{pos:Pos}(a b z TI TO m n:pA)(D:ZipApart z TI TO m n a b):
 Turn P w K (.Tuple es kk pos) (jbQ K a b) [z,TI,TO,m,n] z (λi h=>IsZip h z TI TO .none/\IsPair h TI (.ref m) (.ref n)/\(∃u v,IsPair h TO u v)/\h.IsListIter m a i/\h.IsListIter n b i)where
 mem:=by simp
 obj:=λi h A c d=>by
  obtain⟨B,f,⟨u,v,g⟩,⟨o1,e1,c1,d1⟩,⟨o2,e2,c2,d2⟩⟩:=A
  simp only[jbK,jdk,or_false]at d
  rcases d with rfl|rfl|rfl|rfl|rfl
  .exact⟨_,B,λv x=>by cases x⟩
  .exact⟨_,f,λv x=>by cases x⟩
  .exact⟨_,g,λv x=>by cases x⟩
  .exact⟨_,e1,λv x=>by rw[d1]at x;cases x⟩
  .exact⟨_,e2,λv x=>by rw[d2]at x;cases x⟩
 keep:=λi h h' A k=>by
  obtain⟨B,f,⟨u,v,g⟩,G,J⟩:=A
  exact⟨k z (by simp) _ B,k TI (by simp) _ f,⟨u,v,k TO (by simp) _ g⟩,G.at λo e=>k m (by simp) o e,J.at λo e=>k n (by simp) o e⟩
 item:=by
  intro X hP hw hK d i l s σ H E I T A hg
  subst hP hw hK
  obtain⟨B,f,⟨u,v,g⟩,G,J⟩:=A
  obtain⟨xs,x,ys,y,r,hx,t,hy⟩:=hg
  obtain⟨ae,rv,p,ac⟩:=I.list r
  obtain⟨S,F,p2,ad⟩:=I.list t
  obtain⟨Y,aa,ag⟩:=rv.get hx
  obtain⟨Z,ab,ah⟩:=F.get hy
  refine wpAny_pyNext_zip_item D B f g G J p.isList p2.isList (x:=Y) (y:=Z) (by simpa using aa) (by simpa using ab) λh' a1 a2 a3 a4 a5 a6 U=>?_
  have lt:∀{c o},s.heap.get? c=nC o->c<s.heap.objs.size:=λe=>jbH e
  have af:∀c∈[z,TI,TO,m,n],c<s.heap.objs.size:=by
   intro c d
   simp only[jbK,jdk,or_false]at d
   rcases d with rfl|rfl|rfl|rfl|rfl
   .exact lt B
   .exact lt f
   .exact lt g
   .obtain⟨_,e,_⟩:=G;exact lt e
   .obtain⟨_,e,_⟩:=J;exact lt e
  have I1:Inv X l σ (upd H s.heap.objs.size (.tup [x,y])) {s with heap:=s.heap.push {cls:=.type "tuple",data:=.seq #[Y,Z]},toks:=s.toks}:=by
   refine I.laid (λc o e=>U4 _ e) (U6 _) ⟨by show 2<=qd;decide,[Y,Z],.cons ag (.cons ah .nil),?_⟩
   exact⟨_,jcK _ rfl,rfl,_,rfl⟩
  have Q:∀c∈[z,TI,TO,m,n],upd H s.heap.objs.size (.tup [x,y]) c=su:=λc d=>by
   rw[ZX (jcO (af c d))];exact(T c d).1
  have O:∀c∈[z,TI,TO,m,n],G9 X l (upd H s.heap.objs.size (.tup [x,y])) c:=λc d=>⟨Q c d,(T c d).2⟩
  have kk:∀c o,c∉[z,TI,TO,m,n]->(s.heap.push {cls:=.type "tuple",data:=.seq #[Y,Z]}).get? c=nC o->h'.get? c=nC o:=λc o d e=>by
   rcases jgx e with⟨e9,e8⟩|e'
   .subst e9 e8;exact a5
   .exact U c o (λx=>d (by simp[x])) (λx=>d (by simp[x])) (λx=>d (by simp[x])) (λx=>d (by simp[x])) e'
  have I2:Inv X l σ (upd H s.heap.objs.size (.tup [x,y])) {s with heap:=h'}:=by
   have z:=Inv.Qi (t':=s.toks) I1 kk O
   exact z
  refine⟨_,rfl,wpAny_letOwnedTupleGo_zip (s:={s with heap:=h'}) a1 λL R j=>?_⟩
  have I3:Inv X l σ (upd H s.heap.objs.size (.tup [x,y])) {s with heap:=L}:=
   by
   have z:=Inv.Qi (h':=L) (t':=s.toks) (ch:=[z]) I2 (λc o d e=>j.extBut c o (λq=>d (by simp[q])) e) (λc d=>O c (by simp at d;simp[d]))
   exact z
  refine⟨.ref s.heap.objs.size,_,I3,rfl,⟨_,x,y,rfl,I.hok.fresh (U6 _),rfl,λzs C=>by rw[I.Ib C r];exact hx,λzs C=>by rw[I.Ib C t];exact hy⟩,?_,Q⟩
  have M:IsPair h' TI (.ref m) (.ref n):=U _ _ D.TIz D.TITO D.TIi1 D.TIi2 f
  exact⟨R,j.extBut _ _ D.TIz M,⟨_,_,j.extBut _ _ D.TOz a2⟩,a3.extBut j.extBut D.i1z,a4.extBut j.extBut D.i2z⟩
 done:=by
  intro X hP hw hK d i l s σ H E I T A hg
  subst hP hw hK
  obtain⟨B,f,⟨u,v,g⟩,G,J⟩:=A
  obtain⟨xs,ys,r,t,N⟩:=hg
  obtain⟨ae,rv,p,ac⟩:=I.list r
  obtain⟨S,F,p2,ad⟩:=I.list t
  have l1:=rv.length
  have l2:=F.length
  refine wpAny_pyNext_zip_end (I.ok.hd d) D B f g G J p.isList p2.isList ?_ λh' U=>⟨rfl,?_⟩
  .rcases N with q|q
   .exact .inl (by simp;omega)
   .exact .inr (by simp;omega)
  .exact I.Qi (t':=s.toks) (ch:=[z,TI,TO,m,n]) (λc o d e=>U c o (λx=>d (by simp[x])) (λx=>d (by simp[x])) (λx=>d (by simp[x])) (λx=>d (by simp[x])) e) T
 self:=λ_ _ _ _ _ A h=>wpAny_pyIter_zip A.1 h
noncomputable def jaY (K:oh) (d:TA):TI:=λh H R=>d h H λe c=>∃a b,e=[.ref a,.ref b]/\(∃f,Yy K c a f)/\(∃g,Yy K c b g)/\R (jbQ K a b) c
theorem jal{X:Cx}{J:List Expr}{T:Nat}{tp:Pos}{a b:Expr}{F:TA}{p pos:Pos}(M:Gl X "zip")(O:X.mg "zip"=su)(L:PA X [a,b] F)(P:noStar a=qm)(g:noStar b=qm):
 PI X (.Tuple J T tp) (.Call (.Name "zip" p) [a,b] [] pos) (jaY X.K F):=by
 intro i s σ H R I h
 refine Call_ (Pr I M O boot_zip (jdH (XD (L pos i s σ H _ I h) λus j zz=>?_) (by rw[Yi P,Yi g]) (by rw[Yi g];rfl)))
 obtain⟨vs,G,d,W,U⟩:=zz
 obtain⟨B,C,e,⟨xs,r⟩,⟨ys,t⟩,q⟩:=U
 subst e
 obtain⟨u,u',rfl,Y,x⟩:=vals2 W
 cases Y;cases x
 obtain⟨S,rv,D,_⟩:=d.list r
 obtain⟨A,Z,E,_⟩:=d.list t
 have v:B<j.heap.objs.size:=by obtain⟨_,e,_⟩:=D.isList;exact jbH e
 have w:C<j.heap.objs.size:=by obtain⟨_,e,_⟩:=E.isList;exact jbH e
 refine call_zip_2 D.isList E.isList λh' z l m n o Q N=>?_
 refine wpAny_pyIter_zip z ?_
 refine⟨j.heap.objs.size+4,_,_,_,G,rfl,d.kept (t':=j.toks) N,iw B C _ _ _ _ _ (zipApart_new v w),⟨z,l,⟨_,_,m⟩,n,o⟩,λc y=>?_,q⟩
 have f:j.heap.objs.size<=c:=by
  simp only[jbK,jdk,or_false]at y
  rcases y with rfl|rfl|rfl|rfl|rfl
  .exact jfM _ _
  .exact jfM _ _
  .exact jfM _ _
  .exact U6 _
  .exact jfM _ _
 exact d.pI f (d.hok.fresh f)
theorem xJ{X:Cx}{e:List Expr}{l:Nat}{m:Pos}{a b:Expr}{d:TA}{p pos:Pos}(g:Gl X "zip")(i:X.mg "zip"=su)(f:QA X [a,b] d)(j:noStar a=qm:=by rfl)(c:noStar b=qm:=by rfl):
 QI X (.Tuple e l m) (.Call (.Name "zip" p) [a,b] [] pos) (jaY X.K d):=⟨L2.jal g i f.h j c⟩
theorem Ai{K:oh}{g:List Nat}{m:TT}{j:TE}{n:St}{Q:VK}{f:Hp}{l:pA}{a b:pA}{xs ys:List V}(e:xs.length=ys.length)(c:Nat->Hp->Prop)(h0:c 0 (upd f l (.lst [])))(d:∀k H,k<=xs.length->c k H->Yy K H a xs/\Yy K H b ys)
 (w:∀k x y p H,xs[k]?=nC x->ys[k]?=nC y->c k H->H p=su->dU g m j n l x y (upd H p (.tup [x,y])) (c (k+1)))(t:∀H,c xs.length H->Q (.ref l) H):
 Tz (jbQ K a b) 2 (gC K 2 (Ao (Xz 0) (Ao (Xz 1) gA))) g m j n Q f l:=
 mQ xs.length c h0 (λk H h p=>⟨xs,xs[k],ys,ys[k],(d k H (jer h) p).1,by simp[h],(d k H (jer h) p).2,by simp[e▸h]⟩) (λH p=>⟨xs,ys,(d _ H (U6 _) p).1,(d _ H (U6 _) p).2,.inl (U6 _)⟩)
  (λk H v A i p z=>by
   obtain⟨q,x,y,rfl,u,rfl,o,r⟩:=z
   exact⟨q,x,y,rfl,Su.of Zj,w k x y q H (o _ (d k H (jer i) p).1) (r _ (d k H (jer i) p).2) p u⟩) t
section
variable{prog:jcz}{w:jcS}{A:jdc}{R:jiI->S6->Prop}{I:pA}{fp wr:List pA}{n:Nat}{P:Nat->pL->Prop}{St':Nat->jcX->Prop}{kw:List (Str×pL)}
theorem jaT(W:Walks prog w A.in1 I fp wr n P St')(f:Nat->Nat->Bool)(D:CmpOf prog w A.in1 .Gt P f){S:pA}(M:S∉fp):
 ∀(k j:Nat)(s:S6)(h:pL)(c:Nat),(j+1)+k=n->St' (j+1) s.heap->P (jfl f j) h->s.heap.get? S=nC {cls:=.type "list",dict:=su,data:=.seq #[h,h] c,slots:=#[]}->
  (∀v J C,P (jfl f (n-1)) v->(∀b o,b∉wr->b≠S->s.heap.get? b=nC o->J.get? b=nC o)->R (.ok (.ret v)) {s with heap:=J,toks:=C})->
  je9 (model prog w) A (.builtin "max.loop" ⟨[.ref I,.none,.ref S],kw⟩) R s:=by
 have O:S∉wr:=λz=>M (W.sub _ z)
 have N:(jda "max"++jda ".loop":String)="max.loop":=by decide
 intro k
 induction k with
 |zero=>
  intro j s h c T G B t y
  have U:n=j+1:=by omega
  subst U
  refine jfY jhy ?_;rw[jgy jeH _];show jcH _ A.in1 (seqItems? (.ref S)>>=_) _ _ s;refine xT (jg3 t rfl ?_);show jcH _ A.in1 (tryCatch (jju (.ref I)) _>>=_) _ _ s
  refine xT (jgd (W.done s _ _ G λg C a=>?_))
  show jcH _ A.in1 (updateSeq S (λ_=>#[])>>=_) _ _ _
  refine xT (jgK (a S _ O t) rfl (xT (jhf (jcC (y h _ C B λb o m r e=>?_)))))
  exact(jcQ _ _ (jdh r)).trans (a b o m e)
 |succ k L=>
  intro j s h c T G B t y
  refine jfY jhy ?_;rw[jgy jeH _];show jcH _ A.in1 (seqItems? (.ref S)>>=_) _ _ s;refine xT (jg3 t rfl ?_);show jcH _ A.in1 (tryCatch (jju (.ref I)) _>>=_) _ _ s
  refine xT (jgd (W.item (j+1) s _ _ (by omega) G λv g C Q u a=>?_))
  have i:=a S _ O t
  show jcH _ A.in1 (tryCatch (holding [v,v] (richCompare .Gt v h>>=_)) _>>=_) _ _ _
  refine xT (jgd (jeG (xT (D (j+1) (jfl f j) v h _ _ _ Q B (xT (jeG (jdX (xT (jhf (jcC ?_))))))))))
  have x:jfl f (j+1)=if f (j+1) (jfl f j)=qm then j+1 else jfl f j:=rfl
  by_cases K:f (j+1) (jfl f j)=qm
  .rw[if_pos K]at x|-
   refine xT (jgK i rfl (xT (jhf ?_)))
   rw[N]
   refine jcC ⟨jgr jeH _,L (j+1) _ v _ (by omega) (W.frame _ _ _ u λb q o e=>?_) (by rw[x];exact Q) (jdm _ i rfl) λH E p l d=>?_⟩
   .exact(jcQ _ _ (λz:S=b=>M (z▸q))).trans e
   .exact y H E p l λb o m r e=>d b o m r ((jcQ _ _ (jdh r)).trans (a b o m e))
  .rw[if_neg K]at x|-
   refine xT (jhf ?_)
   rw[N]
   refine jcC ⟨jgr jeH _,L (j+1) _ h c (by omega) u (by rw[x];exact B) i λH E p l d=>?_⟩
   exact y H E p l λb o m r e=>d b o m r (a b o m e)
theorem bZ{d:pL}(W:Walks prog w A.in1 I fp wr n P St')(m:Nat->Nat->Bool)(p:CmpOf prog w A.in1 .Gt P m){S:pA}(r:S∉fp){s:S6}{c:Nat}(st:St' 0 s.heap)(B:s.heap.get? S=nC {cls:=.type "list",dict:=su,data:=.seq #[] c,slots:=#[]})
 (y:∀v h' l,(n=0/\v=d\/0<n/\P (jfl m (n-1)) v)->(∀b o,b∉wr->b≠S->s.heap.get? b=nC o->h'.get? b=nC o)->R (.ok (.ret v)) {s with heap:=h',toks:=l}):
 je9 (model prog w) A (.builtin "max.loop" ⟨[.ref I,.none,.ref S],[(jh "default",d)]⟩) R s:=by
 have G:S∉wr:=λz=>r (W.sub _ z)
 have E:(jda "max"++jda ".loop":String)="max.loop":=by decide
 refine jfY jhy ?_;rw[jgy jeH _];show jcH _ A.in1 (seqItems? (.ref S)>>=_) _ _ s;refine xT (jg3 B rfl ?_);show jcH _ A.in1 (tryCatch (jju (.ref I)) _>>=_) _ _ s
 rcases Nat.eq_zero_or_pos n with h|h
 .refine xT (jgd (W.done s _ _ (by rw[h];exact st) λg l a=>?_))
  refine xT (wpAny_rule (jcC ?_))
  exact y d g l (.inl ⟨h,rfl⟩) λb o j _ e=>a b o j e
 .refine xT (jgd (W.item 0 s _ _ h st λv g l H u a=>?_))
  have i:=a S _ G B
  show jcH _ A.in1 (updateSeq S (λ_=>#[v,v])>>=_) _ _ _
  refine xT (jgK i rfl ?_)
  rw[E]
  refine jcC ⟨jgr jeH _,jaT W m p r (n-1) 0 _ v _ (by omega) (W.frame _ _ _ u λb q o e=>?_) H (jdm _ i rfl) λJ D x t f=>?_⟩
  .exact(jcQ _ _ (λz:S=b=>r (z▸q))).trans e
  .exact y J D x (.inr ⟨h,t⟩) λb o j C e=>f b o j C ((jcQ _ _ (jdh C)).trans (a b o j e))
end
theorem wy(a v:pL):argsOk "max" ⟨[a],[(jh "default",v)]⟩:=by unfold argsOk;kernel_rfl
section
variable{X:Cx}
theorem gF{a:List (pA×Obj)}{s:S6}{u:St}{H:Hp}{Q:VK}{p:pA}{ns:List Int}{d:Int}{t:Tok}(C:X.calm=qm)(J:Inv X a u H s)(D:Yy X.K H p (ns.map V.int))(G:ns=[]->Q (.int d) H)(I:∀m,BP ns m->Q (.int m) H):
 jcH (model X.prog X.w) X.A (call (.builtin "max") [.ref p] [(jh "default",.int d t)]) (EP X a u Q) X.xe s:=by
 obtain⟨n,r,q,O⟩:=J.list D
 have y:=r.length
 rw[rz]at y
 have c:p<s.heap.objs.size:=by obtain⟨_,e,_⟩:=q.isList;exact jbH e
 have E:(jda "max"++jda ".loop":String)="max.loop":=by decide
 refine kmk_tree PySem.F.kind_max PySem.F.plain_max PySem.F.entry_max (wy _ _) ?_
 show jcH _ X.A.in1 (jgT "max" ["key","default"] 0 ⟨[],[(jh "default",.int d t)]⟩>>=_) _ _ s
 refine xT (wpAny_of_eq (show jgT "max" ["key","default"] 0 ⟨[],[(jh "default",.int d t)]⟩=pure [su,nC (.int d t)]from rfl) (xT (jcC ?_)))
 refine xT (jf7 q.isList (xT (jei ?_)))
 rw[E]
 have B:p≠s.heap.objs.size:=jcO c
 have f:(s.heap.push {cls:=.type "list_iterator",data:=.fields #[.ref p,.int 0 0]}).objs.size=s.heap.objs.size+1:=jet ..
 refine jcC ⟨jgr jeH _,bZ (jjC (A:=X.A.in1) (J.ok.hd C) s.heap.objs.size p B n.toArray) _ (CmpOf.ints_gt (λi=>ns.getD i 0) (λi v e=>Ia r e)) ?_ ?_ (jcK _ rfl) ?_⟩
 .intro z
  rw[f]at z
  rcases jbK.mp z with z|z
  .exact absurd z (jeA (jdr _))
  .have N:=jc5.mp z
   exact absurd N.symm (jcO (jfw c))
 .exact⟨⟨_,U4 _ (jcK _ rfl),rfl,rfl⟩,(q.isList.push _).push _⟩
 .intro v g M l h
  have x:Inv X a u H {s with heap:=g,toks:=M}:=by
   refine J.kept λb o e=>h b o (λz=>?_) (λz=>?_) (U4 _ (U4 _ e))
   .rw[jc5.mp z]at e;exact absurd (jbH e) (jef _)
   .rw[z,f]at e;exact absurd (Nat.lt_of_succ_lt (jbH e)) (jef _)
  rcases l with⟨j,rfl⟩|⟨j,l⟩
  .rw[jbF]at j
   exact⟨.int d,H,x,⟨t,rfl⟩,G (jdl.mp (by omega))⟩
  .obtain⟨L,rfl⟩:=Ia r l
   rw[jbF]at j
   refine⟨.int _,H,x,⟨L,rfl⟩,I _ ?_⟩
   rw[jbF,<-y]
   exact v7 (by omega)
noncomputable def cU (K:oh) (g f:TE):TE:=λc H Q=>g c H λx e=>f c e λy a=>∃(p:pA)(b:List Int)(d:Int),x=.ref p/\y=.int d/\Yy K a p (b.map V.int)/\(b=[]->Q (.int d) a)/\∀m,BP b m->Q (.int m) a
theorem fV{e d:Expr}{r l:TE}{p b pos:Pos}(D:X.calm=qm)(F:Gl X "max")(G:X.mg "max"=su)(C:PE X e r)(E:PE X d l)(i:noStar e=qm):
 PE X (.Call (.Name "max" p) [e] [⟨nC "default",d,b⟩] pos) (cU X.K r l):=by
 intro a s q H Q I h
 refine jdG (Pr I F G boot_max ?_)
 refine callWith_kw (XD ((Gg C Lb i) pos a s q H (λn g=>match n with
  |[x]=>l q g λy c=>∃(p:pA)(f:List Int)(d:Int),x=.ref p/\y=.int d/\Yy X.K c p (f.map V.int)/\(f=[]->Q (.int d) c)/\∀m,BP f m->Q (.int m) c
  |_=>False) I h) λW R o=>?_) (by rw[Yi i];rfl) (by rw[Yi i];rfl) rfl rfl
 obtain⟨n,g,w,N,j⟩:=o
 match n,j with
 |[x],j=>
  obtain⟨u,rfl,P⟩:=vals1 N
  refine kws_cons (XD (E a R q g _ w j) λv U o=>kws_nil ?_)
  obtain⟨y,c,z,O,T,f,S,A,B,J,L,M⟩:=o
  subst A B
  cases P
  obtain⟨t,rfl⟩:=O
  exact gF D z J L M
end
theorem qJ{X:Cx}(K:oh){e d:Expr}{c b:TE}{p a pos:Pos}(i:X.calm=qm)(l:Gl X "max")(m:X.mg "max"=su)(g:QE X e c)(j:QE X d b)(n:noStar e=qm:=by rfl)(f:X.K=K:=by rfl):
 QE X (.Call (.Name "max" p) [e] [⟨nC "default",d,a⟩] pos) (cU K c b):=by subst f;exact⟨L2.fV i l m g.h j.h n⟩
noncomputable def top (ns:List Int):Int:=ns.foldl max 0
theorem jaC(ns:List Int):∀a:Int,a<=ns.foldl max a/\∀x∈ns,x<=ns.foldl max a:=by
 induction ns with
 |nil=>intro a;exact⟨jii _,λx h=>by cases h⟩
 |cons y ns f=>
  intro a
  obtain⟨c,d⟩:=f (max a y)
  refine⟨Int.le_trans (Int.le_max_left a y) c,λx b=>?_⟩
  rcases jbK.mp b with e|b
  .rw[e];exact Int.le_trans (Int.le_max_right a y) c
  .exact d x b
theorem dH(ns:List Int):∀a:Int,ns.foldl max a=a\/ns.foldl max a∈ns:=by
 induction ns with
 |nil=>intro a;exact .inl rfl
 |cons y ns b=>
  intro a
  show ns.foldl max (max a y)=a\/ns.foldl max (max a y)∈y::ns
  rcases b (max a y)with h|h
  .rw[h]
   rcases Int.le_total a y with q|q
   .rw[Int.max_eq_right q];exact .inr U7
   .rw[Int.max_eq_left q];exact .inl rfl
  .exact .inr (jcx _ h)
theorem ni{ns:List Int}{m:Int}(h0:∀x∈ns,0<=x)(h:BP ns m):m=top ns:=by
 have a:=(jaC ns 0).2 m h.1
 rcases dH ns 0 with e|e
 .have:=h0 m h.1
  unfold top;omega
 .have:=h.2 _ e
  unfold top;omega
section
variable{P:jcz}{w:jcS}{K:oh}{mg:Str->Option pL}{base:jcX}
end
section
variable{X:Cx}
end
section
variable{X:Cx}{e e2 o a b c:Expr}{to ta tb tc:TE}{t:TA}{pos apos cpos:Pos}
theorem Ji{e d:jjn}{r f:R2}(g:SJ X (jdj e) r)(i:SJ X (jdj d) f)(j:QE X a ta)(l:QE X b tb)(m:QE X c tc)
 (n:jjf [e,d] [b,c]=vh:=by with_unfolding_all rfl):QE X (.Compare a [e,d] [b,c] pos) (yX r f ta tb tc):=⟨L2.ju g i j.h l.h m.h n⟩
theorem Ep{e d:jjn}{r f:R2}(g:SJ X (jdj e) r)(i:SJ X (jdj d) f)(j:QE X a ta)(l:QE X b tb)(m:QE X c tc)
 (n:jjf [e,d] [b,c]=vh:=by with_unfolding_all rfl):QT X (.Compare a [e,d] [b,c] pos) (qw (yX r f ta tb tc)):=⟨L2.jO g i j.h l.h m.h n⟩
end
noncomputable def X8 (s:jde):List jde:=match s with
 |.ClassDef _ _ _ b _ _ _ _ _ _ _=>b
 |_=>[]
structure Own(K:oh)(mg:Str->Option pL)(x:Str)(C:pA)(nos:List Str):Prop where
 at_:mg x=nC (.ref C)
 cls:qC K C
 makes:jfv K C=qm
 kp:jdO K (.ref C)=qm
 no:∀f∈nos,Ou K C f
 t1:jcy K (.ref C) "__class__"=nC (nC (.builtin "object.__class__"))
 t2:jfV K (.builtin "object.__class__") "__get__"=nC (nC (.builtin "getset_descriptor.__get__"))
 t3:jid K (.builtin "object.__class__")=nC qm
 t4:jcJ K C (.type "object")=nC qm
theorem Own.ty{K:oh}{mg:Str->Option pL}{x:Str}{C a c:pA}{b:List Str}{H:Hp}{fs:List (Str×V)}(O:Own K mg x C b)(e:H a=nC (.ins C c fs)):TY K H (.ref a) (.ref C):=.ins e O.cls O.t1 O.t2 O.t3 O.t4
structure Ut(P:jcz)(w:jcS)(K:oh)(mg:Str->Option pL)(base:jcX)(k:Nat)(C:pA)(m:Str)(ps:List Str)(sp:Sp):Prop where
 ex:∃(f:pA)(fd:jaF),We P w K mg base Ol k f fd ps sp/\Binds K fd ps []/\Meth K C m f/\qC K C
structure Sy(P:jcz)(w:jcS)(K:oh)(mg:Str->Option pL)(base:jcX)(k:Nat)(x:Str)(C:pA)(ps:List Str)(sp:Sp):Prop where
 ex:∃(f:pA)(fd:jaF),We P w K mg base Ol k f fd ps sp/\Binds K fd ps []/\Mk K C f/\mg x=nC (.ref C)
structure BR(K:oh)(mg:Str->Option pL)(x:Str)(C:pA):Prop where
 makes:jfv K C=qm
 init:jcy K (.ref C) "__init__"=nC (nC (.builtin "object.__init__"))
 kp:jdO K (.ref C)=qm
 at_:mg x=nC (.ref C)
section
variable{X:Cx}
theorem o4{c:List (pA×Obj)}{f:St}{H:Hp}{s:S6}{Q:VK}{C:pA}{x:Str}(M:BR X.K X.mg x C)(I:Inv X c f H s)
 (h:∀a d,H a=su->H d=su->d≠a->Q (.ref a) (upd (upd H d (.own a)) a (.ins C d []))):jcH (model X.prog X.w) X.A (call (.ref C) []) (EP X c f Q) X.xe s:=by
 have i:=h (s.heap.objs.size+1) s.heap.objs.size (I.hok.fresh (jdI _)) (I.hok.fresh (U6 _)) (jcO (jdr _))
 have g:=Inv.made (C:=C) I
 have Y:=jhs (M:=model X.prog X.w) I.QR M.makes
 have up:∀b o,s.heap.get? b=nC o->((s.heap.push jdg).push (jdt C s.heap.objs.size)).get? b=nC o:=λb o e=>U4 _ (U4 _ e)
 have j:((s.heap.push jdg).push (jdt C s.heap.objs.size)).get? (s.heap.objs.size+1)=nC (jdt C s.heap.objs.size):=by
  have z:=jcK (s.heap.push jdg) (o:=jdt C s.heap.objs.size) rfl
  rwa[jet]at z
 have l:jht (model X.prog X.w) ((s.heap.push jdg).push (jdt C s.heap.objs.size)) (typeOf (.ref (s.heap.objs.size+1))) (.ref C):=(jjq j).andThen .now
 have m:jht (model X.prog X.w) ((s.heap.push jdg).push (jdt C s.heap.objs.size)) (jhU (.ref (s.heap.objs.size+1)) (.type "object")) qm:=l.andThen (Y.top.keeps up)
 refine jfD (pW I.QR M.makes M.init (λself=>PySem.W.Looks.of_pure (PySem.W.oi_bind self)) ?_)
 refine jeU PySem.W.oi_plain PySem.W.entry_oi (@PySem.W.check_slot (model X.prog X.w) _ _ _ "object.__init__" "object" "__init__" (.ref (s.heap.objs.size+1)) [] [] _ PySem.W.oi_kind PySem.W.oi_split m (PySem.W.oi_args (.ref (s.heap.objs.size+1))) ?_)
 rw[PySem.W.oi_run]
 exact jcC (And.intro rfl ⟨V.ref (s.heap.objs.size+1),_,g,rfl,i⟩)
noncomputable def j5 (C:pA):TE:=λ_ H Q=>∀a b,H a=su->H b=su->b≠a->Q (.ref a) (upd (upd H b (.own a)) a (.ins C b []))
theorem jab{x:Str}{C:pA}{p pos:Pos}(M:BR X.K X.mg x C)(c:Gl X x)(a:(x==("__debug__":Str))=vh:=by decide):PE X (.Call (.Name x p) [] [] pos) (j5 C):=by
 intro b s d H Q I h
 exact jdG (Uk I c M.at_ (jiw I.QR M.kp (o4 M I h)) a)
noncomputable def xf (T:pA->Sp->Prop) (m:Str) (g:TE) (t:TA):TE:=λd H Q=>g d H λx b=>∃(a C f:pA)(fs:List (Str×V))(c:Sp),x=.ref a/\b a=nC (.ins C f fs)/\fs.lookup m=su/\T C c/\t d b λh e=>c (x::h) e Q E0
theorem jC{T:pA->Sp->Prop}{m:Str}{o e:Expr}{i:List Expr}{E:TE}{t:TA}{d pos:Pos}{j:Nat}{pl:Sem Bool}(S:PE X o E)(P:∀C sp,T C sp->∃ps,Ut X.prog X.w X.K X.mg X.base j C m ps sp)(U:Wi j X.A)(R:PA X (e::i) t)
 (p:jc0 (e::i) X.env=(vh,eval e X.env)::jc0 i X.env)(n:(jeh pos (jc0 i X.env)).any (·.1)=vh)
 (Y:eval (.Call (.Attribute o m d) (e::i) [] pos) X.env=(do
  let B<-eval o X.env
  jgR d.atName
  let(f,first)<-holding [B] (jfK B m pl)
  jgz pos f first (jeh pos (jc0 (e::i) X.env)) (jfo pos (jel [] X.env)))):
 PE X (.Call (.Attribute o m d) (e::i) [] pos) (xf T m E t):=by
 intro g s G H Q I h
 refine jfR (pl:=pl) (XD (S g s G H _ I h) λu s1 zz=>?_) Y
 obtain⟨x,J,v,rx,a,C,dx,fs,sp,N,M,l,O,q⟩:=zz
 subst N
 obtain rfl:u=jcI a:=rx
 obtain⟨ps,D⟩:=P C sp O
 obtain⟨f,fd,F,b,z,c⟩:=D.ex
 refine Jl v M c z l (jed (first:=[.ref a]) (h₀:=X.base) I.ok.mod.kin z.kp (XD (R pos g s1 G J _ v q) λus s2⟨vs,L,y,r,Z⟩=>⟨y.QR,?_⟩) p n)
 have q3:sp (V.ref a::(vs++[])) L Q E0:=by rw[jdA];exact Z
 exact tE (us:=.ref a::us) (vs:=.ref a::vs) (dvs:=[]) F U b .nil rN y (.cons rfl r) q3
theorem oN{T:pA->Sp->Prop}{m:Str}{o:Expr}{p:TE}{d pos:Pos}{j:Nat}{pl:Sem Bool}(z:PE X o p)(y:∀C sp,T C sp->∃ps,Ut X.prog X.w X.K X.mg X.base j C m ps sp)(B:Wi j X.A)
 (E:eval (.Call (.Attribute o m d) [] [] pos) X.env=(do
  let n<-eval o X.env
  jgR d.atName
  let(f,first)<-holding [n] (jfK n m pl)
  jgz pos f first (jeh pos (jc0 [] X.env)) (jfo pos (jel [] X.env)))):
 PE X (.Call (.Attribute o m d) [] [] pos) (xf T m p JK):=by
 intro e s L H Q I h
 refine jfR (pl:=pl) (XD (z e s L H _ I h) λu P J=>?_) E
 obtain⟨x,M,g,G,a,C,N,fs,sp,t,r,l,v,q⟩:=J
 subst t
 obtain rfl:u=jcI a:=G
 obtain⟨ps,D⟩:=y C sp v
 obtain⟨f,O,F,b,i,c⟩:=D.ex
 refine Jl g r c i l (jiw (first:=[.ref a]) g.QR i.kp ?_)
 exact tE (us:=[.ref a]) (vs:=[.ref a]) (dvs:=[]) F B b .nil rN g (.cons rfl .nil) q
noncomputable def jQ (K:oh) (D:pA):List V->Hp->VK->Prop:=λa H Q=>∃x t b,a=[x,.ref D]/\TY K H x t/\jaE K t (.ref D)=nC b/\Q (.bl b) H
theorem v8(D:pA):Tw X (.builtin "isinstance") (jQ X.K D):=by
 intro c s l H j i Q I r h
 obtain⟨x,t,b,rfl,ty,e,q⟩:=h
 obtain⟨u,g,rfl,d,a⟩:=vals2 r
 cases a
 exact Ar I d ty e λf=>⟨.bl b,H,I.tok f,rfl,q⟩
end
section
variable{X:Cx}{e o value:Expr}{es:List Expr}{te to ta tv:TE}{t:TA}{pos p apos pos':Pos}
theorem Y7(K:oh){f:Str}(c:QE X e ta)(b:jdz e f X.env (eval e X.env)=eval e X.env:=by rfl)(a:X.K=K:=by rfl):QE X (.Attribute e f pos) (jbw K ta f):=by subst a;exact⟨L2.aX c.h b⟩
theorem Xj{f:Str}(a:QE X o ta)(c:QE X value tv)(b:HN value=qm:=by rfl):QS X (.Assign [.Attribute o f pos'] value pos) (jbs X.K ta tv f):=⟨L2.jan a.h c.h (Oh b)⟩
theorem xG{x:Str}{C:pA}(M:BR X.K X.mg x C)(b:Gl X x)(a:(x==("__debug__":Str))=vh:=by decide):QE X (.Call (.Name x p) [] [] pos) (j5 C):=⟨L2.jab M b a⟩
theorem Qq{k j:Nat}{x:Str}{C:pA}{ps:List Str}{sp:Sp}(D:Sy X.prog X.w X.K X.mg X.base k x C ps sp)(l:Wi j X.A)(i:k+1<=j)(g:Gl X x)(d:QA X (e::es) t)(c:(e::es).all noStar=qm:=by rfl)(a:(x==("__debug__":Str))=vh:=by decide):
 QE X (.Call (.Name x p) (e::es) [] pos) (ql C sp [] E0 t):=by
 obtain⟨f,n,F,b,M,m⟩:=D.ex
 exact⟨L2.fU M F (l.mono i) g m b .nil rN d.h a (Yi (Y4 c).1) (Vj (Y4 c).2)⟩
theorem Ov{T:pA->Sp->Prop}{m:Str}{k j:Nat}{pl:Sem Bool}(g:QE X o ta)(c:∀C sp,T C sp->∃ps,Ut X.prog X.w X.K X.mg X.base k C m ps sp)(l:Wi j X.A)(i:k<=j)(d:QA X (e::es) t)(a:(e::es).all noStar=qm:=by rfl)
 (n:eval (.Call (.Attribute o m apos) (e::es) [] pos) X.env=(do
  let b<-eval o X.env
  jgR apos.atName
  let(f,first)<-holding [b] (jfK b m pl)
  jgz pos f first (jeh pos (jc0 (e::es) X.env)) (jfo pos (jel [] X.env))):=by rfl):
 QE X (.Call (.Attribute o m apos) (e::es) [] pos) (xf T m ta t):=⟨L2.jC (pl:=pl) g.h c (l.mono i) d.h (Yi (Y4 a).1) (Vj (Y4 a).2) n⟩
theorem GJ{T:pA->Sp->Prop}{m:Str}{k j:Nat}{pl:Sem Bool}(c:QE X o ta)(b:∀C sp,T C sp->∃ps,Ut X.prog X.w X.K X.mg X.base k C m ps sp)(e:Wi j X.A)(d:k<=j)
 (g:eval (.Call (.Attribute o m apos) [] [] pos) X.env=(do
  let a<-eval o X.env
  jgR apos.atName
  let(f,first)<-holding [a] (jfK a m pl)
  jgz pos f first (jeh pos (jc0 [] X.env)) (jfo pos (jel [] X.env))):=by rfl):
 QE X (.Call (.Attribute o m apos) [] [] pos) (xf T m ta JK):=⟨L2.oN (pl:=pl) c.h b (e.mono d) g⟩
theorem Jj{x:Str}{D:pA}{j:Pos}(g:Gl X "isinstance")(i:X.mg "isinstance"=su)(b:Gl X x)(c:X.mg x=nC (.ref D))(f:QE X e te)(d:noStar e=qm:=by rfl)(a:(x==("__debug__":Str))=vh:=by decide):
 QE X (.Call (.Name "isinstance" p) [e,.Name x j] [] pos) (qj (jQ X.K D) (Uu te (Uu (tC (.ref D)) JK))):=
 ⟨L2.zq (v8 D) g i jfX (L2.Gg f.h (L2.Gg (L2.yI b c rfl a) L2.Lb) d) (by rw[jd2,d];rfl)⟩
end
inductive Form where
 |none
 |only(b:Nat)(m:Int)
 |some(k l:Nat)(m:Int)
 |most(k c:Nat)(m:Int)
inductive Tr where
 |leaf(f:Form)
 |node(any:Bool)(ts:List Tr)
noncomputable def Us:Form->Nat
 |.none=>0
 |.only b _=>b
 |.some k _ _=>k
 |.most k _ _=>k
mutual
noncomputable def Xa:Tr->Nat
 |.leaf _=>1
 |.node _ ts=>1+Yr ts
noncomputable def Yr:List Tr->Nat
 |[]=>0
 |t::ts=>max (Xa t) (Yr ts)
end
mutual
noncomputable def Yj:Tr->Nat
 |.leaf _=>1
 |.node _ ts=>1+Z8 ts
noncomputable def Z8:List Tr->Nat
 |[]=>0
 |t::ts=>Yj t+Z8 ts
end
mutual
noncomputable def Xw:Tr->Nat
 |.leaf f=>Us f
 |.node _ ts=>YQ ts
noncomputable def YQ:List Tr->Nat
 |[]=>0
 |t::ts=>Xw t|||YQ ts
end
theorem ue:∀ts:List Tr,((Yr ts:Nat):Int)=top (ts.map λt=>((Xa t:Nat):Int)):=by
 have b:∀(ts:List Tr)(a:Nat),(ts.map λt=>((Xa t:Nat):Int)).foldl max (a:Int)=((max a (Yr ts):Nat):Int):=by
  intro ts
  induction ts with
  |nil=>intro a;show(a:Int)=_;rw[show Yr []=0 from rfl,Nat.max_eq_left (jcY _)]
  |cons t ts c=>
   intro a
   show(ts.map λt=>((Xa t:Nat):Int)).foldl max (max (a:Int) ((Xa t:Nat):Int))=_
   have e:max (a:Int) ((Xa t:Nat):Int)=((max a (Xa t):Nat):Int):=by omega
   rw[e,c]
   show _=((max a (max (Xa t) (Yr ts)):Nat):Int)
   omega
 intro ts
 have:=b ts 0
 rw[Nat.max_eq_right (jcY _)]at this
 exact this.symm
theorem JL:∀ts:List Tr,((Z8 ts:Nat):Int)=(ts.map λt=>((Yj t:Nat):Int)).sum
 |[]=>rfl
 |t::ts=>by
  show((Yj t+Z8 ts:Nat):Int)=_
  rw[jdy,jiD,<-JL ts];omega
theorem Hu:∀t:Tr,1<=Xa t
 |.leaf _=>U6 _
 |.node _ ts=>by show 1<=1+Yr ts;omega
theorem Tn{ts:List Tr}{t:Tr}(h:t∈ts):Xa t<=Yr ts:=by
 induction ts with
 |nil=>cases h
 |cons x ts a=>
  show Xa t<=max (Xa x) (Yr ts)
  rcases jbK.mp h with e|h
  .subst e;omega
  .have:=a h;omega
theorem Rr:∀(as bs:List Tr),Yr (as++bs)=max (Yr as) (Yr bs)
 |[],bs=>by show Yr bs=max 0 (Yr bs);omega
 |a::as,bs=>by show max (Xa a) (Yr (as++bs))=max (max (Xa a) (Yr as)) (Yr bs);rw[Rr as bs];omega
theorem UT:∀(as bs:List Tr),Z8 (as++bs)=Z8 as+Z8 bs
 |[],bs=>by show Z8 bs=0+Z8 bs;omega
 |a::as,bs=>by show Yj a+Z8 (as++bs)=Yj a+Z8 as+Z8 bs;rw[UT as bs];omega
noncomputable def Xb {a b:Type} (R:a->b->Prop) (xs:List a) (ys:List b):Prop:=xs.length=ys.length/\∀(i:Nat)(x:a)(y:b),xs[i]?=nC x->ys[i]?=nC y->R x y
section
variable{α β:Type}{R S:α->β->Prop}{xs xs':List α}{ys ys':List β}
theorem Xb.nil:Xb R [] []:=⟨rfl,λi x y e=>by simp at e⟩
theorem Xb.imp(h:Xb R xs ys)(f:∀x y,y∈ys->R x y->S x y):Xb S xs ys:=⟨h.1,λi x y b a=>f x y (jcE a) (h.2 i x y b a)⟩
theorem Xb.append(h:Xb R xs ys)(g:Xb R xs' ys'):Xb R (xs++xs') (ys++ys'):=by
 refine⟨by rw[O1,O1,h.1,g.1],λi x y a b=>?_⟩
 by_cases c:i<xs.length
 .rw[jdQ c]at a
  rw[jdQ (by rw[<-h.1];exact c)]at b
  exact h.2 i x y a b
 .rw[jdv (by omega)]at a
  rw[jdv (by rw[<-h.1];omega),<-h.1]at b
  exact g.2 _ x y a b
theorem Xb.one{x:α}{y:β}(h:R x y):Xb R [x] [y]:=⟨rfl,λi a b c d=>by
 match i with
 |0=>cases c;cases d;exact h
 |i+1=>simp at c⟩
theorem Xb.snoc{x:α}{y:β}(h:Xb R xs ys)(g:R x y):Xb R (xs++[x]) (ys++[y]):=h.append (.one g)
theorem Xb.at{bs:List pA}{R:pA->β->Prop}(h:Xb R bs ys){i:Nat}{v:V}(e:(bs.map V.ref)[i]?=nC v):∃b y,v=.ref b/\bs[i]?=nC b/\ys[i]?=nC y/\R b y:=by
 rw[jcF]at e
 obtain⟨b,c,rfl⟩:=jcT.mp e
 have d:i<bs.length:=(jcP.mp c).1
 have a:i<ys.length:=by rw[<-h.1];exact d
 exact⟨b,ys[i],rfl,c,sH a,h.2 i b _ c (sH a)⟩
end
theorem Qm:∀ts:List Tr,ts.length<=Z8 ts
 |[]=>U6 _
 |t::ts=>by
  have c:1<=Yj t:=by cases t with|leaf f=>exact U6 _|node a b=>show 1<=1+Z8 b;omega
  have d:=Qm ts
  show ts.length+1<=Yj t+Z8 ts
  omega
theorem Tu{ts:List Tr}{t:Tr}(h:t∈ts):Yj t<=Z8 ts:=by
 induction ts with
 |nil=>cases h
 |cons x ts a=>
  show Yj t<=Yj x+Z8 ts
  rcases jbK.mp h with e|h
  .subst e;omega
  .have:=a h;omega
theorem vK(ts:List Tr)(i:Nat)(t:Tr)(h:ts[i]?=nC t):Z8 (ts.take (i+1))=Z8 (ts.take i)+Yj t:=by
 rw[jdE,h,UT];show _+(Yj t+0)=_;omega
structure GD(m:Int):Prop where
 lo:0<=m
 hi:m<=10^9
noncomputable def Wf:Form->Prop
 |.none=>True
 |.only b m=>1<=b/\b<=63/\GD m
 |.some k l m=>1<=k/\k<=63/\1<=l/\l<=6/\GD m
 |.most k c m=>1<=k/\k<=63/\1<=c/\c<=6/\GD m
mutual
noncomputable def rK:Tr->Prop
 |.leaf f=>Wf f
 |.node _ ts=>Yt ts
noncomputable def Yt:List Tr->Prop
 |[]=>True
 |t::ts=>rK t/\Yt ts
end
theorem uK:∀{ts:List Tr},(∀t∈ts,rK t)->Yt ts
 |[],_=>by rw[Yt];trivial
 |t::ts,h=>by rw[Yt];exact⟨h t (U7 ..),uK λu a=>h u (jcx _ a)⟩
theorem Ku:∀{ts:List Tr},Yt ts->∀t∈ts,rK t
 |[],_,t,a=>by cases a
 |u::ts,h,t,a=>by
  rw[Yt]at h
  rcases jbK.mp a with e|a
  .subst e;exact h.1
  .exact Ku h.2 t a
theorem Qw{any:Bool}{ts:List Tr}:rK (.node any ts)↔Yt ts:=by rw[rK]
theorem MJ{f:Form}:rK (.leaf f)↔Wf f:=by rw[rK]
theorem Xb.mem{d b:Type}{R:d->b->Prop}{xs:List d}{ys:List b}(h:Xb R xs ys){y:b}(e:y∈ys):∃x,R x y:=by
 obtain⟨i,c,rfl⟩:=jgw.mp e
 have a:i<xs.length:=by rw[h.1];exact c
 exact⟨xs[i],h.2 i _ _ (sH a) (sH c)⟩
variable{X:Cx}{e:Expr}{te:TE}{pos:Pos}
end L2
namespace L2
open PySem PySem.Spec PyProof.Rows
section
variable{prog:jcz}{w:jcS}{A:jdc}{E:pL->S6->Prop}
end
end L2
namespace L2
open PySem PySem.Spec PyProof.Rows PySem.W
noncomputable def Throws (C:pA) (H:Hp) (E:XK):Prop:=∀b a,Z5 H b->b a=su->E (.ref a) (nC C) b
theorem Throws.same{C:pA}{H H':Hp}{E:XK}(S:Z5 H H')(h:Throws C H E):Throws C H' E:=λb a s n=>h b a (S.trans s) n
section
variable{P:jcz}{w:jcS}{K:oh}{mg:Str->Option pL}{base:jcX}
end
noncomputable def cF (K:oh):List V->Hp->VK->Prop:=λd H Q=>∃(a p C:pA)(c:List pA)(b:Bool),d=[.ref a,.ref p]/\H a=nC (J2 a C)/\H p=nC (.tup (c.map V.ref))/\bj K C/\jgL K (.ref C) (c.map jcI)=nC b/\Q (.bl b) H
theorem zO:∀{a:List pA}{us:List pL},Vals (a.map V.ref) us->us=a.map jcI
 |[],_,.nil=>rfl
 |d::a,_,.cons h r=>by
  have e:=zO r
  subst e
  cases h
  rfl
theorem qT{X:Cx}:Tw X (.builtin "isinstance") (cF X.K):=by
 intro d s O H N M Q I r h
 obtain⟨a,p,C,f,b,rfl,i,j,Z,e,q⟩:=h
 obtain⟨u,L,rfl,B,c⟩:=vals2 r
 cases B;cases c
 have y:Xx X.prog X.w H s.heap a (J2 a C):=I.hok a _ i
 obtain⟨_,v,F,D⟩:Xx X.prog X.w H s.heap p (.tup (f.map V.ref)):=I.hok p _ j
 have g:=zO F
 subst g
 obtain⟨o,l,m,n,t⟩:=D
 obtain⟨G,J,x,A⟩:=o
 cases m;cases t
 exact kia_tup (Dr Z) I.QR y.1 l e (λz=>nomatch z) λE=>⟨.bl b,H,I.tok E,rfl,q⟩
theorem eV{X:Cx}{a:List jde}{h₀:jeg}{e:List jeg}{pos:Pos}{t:TS}(d:vQ X.pZ a t):PS X (.Try a (h₀::e) [] [] pos) t:=by
 intro b s g H D I h
 refine jhz (jc1 (d b s g H D (I.wish _) h) (λf i q=>?_) λ_ _ z=>jdi z)
 have c:=q.Ro
 cases f with
 |next=>exact jeP c
 |ret u=>exact c
 |brk=>exact c
 |cont=>exact c
section
variable{X:Cx}{e:Expr}{es:List Expr}{te:TE}{t:TA}{pos p:Pos}
theorem BW{c:Expr}{b:TE}(i:Gl X "isinstance")(j:X.mg "isinstance"=su)(f:QE X e te)(g:QE X c b)(d:noStar e=qm:=by rfl)(a:noStar c=qm:=by rfl):
 QE X (.Call (.Name "isinstance" p) [e,c] [] pos) (qj (cF X.K) (Uu te (Uu b JK))):=
 ⟨L2.zq qT i j jfX (L2.Gg f.h (L2.Gg g.h L2.Lb a) d) (by rw[jd2,d,jd2,a];rfl)⟩
theorem TV{x:Str}{D:pA}(b:Gl X x)(c:X.mg x=nC (.ref D))(a:(x==("__debug__":Str))=vh:=by decide):QE X (.Name x p) (tC (.ref D)):=⟨L2.yI b c rfl a⟩
theorem BZ{a:List jde}{h₀:jeg}{c:List jeg}{tb:TS}(b:sG X.pZ a tb):QS X (.Try a (h₀::c) [] [] pos) tb:=⟨L2.eV b.h⟩
end
noncomputable def Tb (h B:jcX) (e:pA) (vs:Array pL) (m:pL):Prop:=∃T a b,vs[1]?=nC (.ref T)/\B.get? T=su/\T≠e/\h.get? T=nC a/\a.data=.fields b/\b[3]?=nC m
section
variable{M:jiU}{A:jdc}{E:pL->S6->Prop}{s:S6}{B:jcX}{env:Env}{outer:List Env}{L e:pA}{C:pL}{dx:Option pA}{Q:Unit->S6->Prop}
end
noncomputable def Ms (C:pA) (a:Option pA) (t:pA):Obj:={cls:=.ref C,dict:=a,data:=.fields #[.ref t,.none,.none,.none,.bool vh,.none]}
noncomputable def sJ (a C:pA) (h:jcX):Prop:=∃t,h.get? a=nC (Ms C su t)
noncomputable def nY (a C b:pA) (h:jcX):Prop:=∃t,h.get? a=nC (Ms C (nC b) t)
noncomputable abbrev yM (a C:pA):HO:=.ext (sJ a C)
noncomputable abbrev pG (a C b:pA):HO:=.ext (nY a C b)
theorem rZ{P:jcz}{w:jcS}{H:Hp}{h:jcX}{a C:pA}(x:sJ a C h):Xx P w H h a (yM a C):=by
 obtain⟨o,e⟩:=x
 exact⟨⟨o,e⟩,⟨_,e⟩,λ_ _⟨o,e⟩k=>⟨o,k _ e⟩⟩
theorem gr{P:jcz}{w:jcS}{H:Hp}{h:jcX}{a C b:pA}(x:nY a C b h):Xx P w H h a (pG a C b):=by
 obtain⟨o,e⟩:=x
 exact⟨⟨o,e⟩,⟨_,e⟩,λ_ _⟨o,e⟩k=>⟨o,k _ e⟩⟩
noncomputable def cJ (C:pA) (f:Str):Sp:=λc H Q _=>∃a v,c=[.ref a,v]/\H a=nC (yM a C)/\∀b,H b=su->b≠a->Q .non (upd (upd H a (pG a C b)) b (.xd [(f,v)]))
section
variable{prog:jcz}{w:jcS}{A:jdc}{E:pL->S6->Prop}{h:jcX}{g:Array jfz}{d:jjt}{t:Nat}{os:ji3}{K:oh}
variable{nm q:Str}{C N:pA}{bs bm bmB:List pL}{hdct:Bool}{sn:List Str}{sub:List pL}{ab:Bool}{col:Option Bool}{dd:Option pA}{k0 k1 k2 k3 k5:Option pL}{B newId initId:String}
theorem pq(X:K.In h)(F:jfm B newId initId bmB)(T:OwnTail h bmB bm){a:List pL}{l:pA}{Q:Fin->S6->Prop}
 (i:h.get? C=nC (jgA nm q C N bs bm hdct sn sub ab col dd k0 k1 k2 k3 k5 newId))(D:jcy K (.ref C) "__init__"=nC (nC (.ref l)))(y:jjw K (.ref l)=nC (.type "function"))
 (G:∀h' e,h.objs.size<=e->jij h h' e (.ref C) a->jcH (model prog w) A (call (.ref l) (.ref e::a)) (λr u=>r=.none/\Q (.done (.ret (.ref e))) u) E ⟨h',g,d,t,os⟩)
 (H:a.length<=qd):jcH (model prog w) A (Builtin.«type.__call__» ⟨.ref C::a,[]⟩) Q E ⟨h,g,d,t,os⟩:=by
 repeat(first|with_reducible refine jc6 i ?_|with_reducible refine wpAny_madeBy_exc i ?_|wp_step)
 refine codeAny_call_builtin_code (jg4 _ F.quiet) (wpAny_check_new_subT F T i (codeAny_exc_new_subT F T i (show jcH _ _ _ _ _ _ from ?_) H))
 generalize hO1:({cls:=.type "tuple",data:=.seq a.toArray}:Obj)=j
 have x:∃c:Data,c=.fields #[.ref h.objs.size,.none,.none,.none,.bool vh,.none]:=⟨_,rfl⟩
 obtain⟨c,f⟩:=x
 rw[<-f]
 have m:∀b o,h.get? b=nC o->((h.push j).push {cls:=.ref C,data:=c}).get? b=nC o:=λb o e=>U4 _ (U4 _ e)
 have v:=m _ _ i
 have n:K.In ((h.push j).push {cls:=.ref C,data:=c}):=X.keeps m
 have p:((h.push j).push {cls:=.ref C,data:=c}).get? (h.objs.size+1)=nC {cls:=.ref C,data:=c}:=by
  have z:=jcK (h.push j) (o:={cls:=.ref C,data:=c}) (by subst f;rfl)
  rwa[jet]at z
 have own:(jcI C::bm).contains (.ref C)=qm:=by simp
 unfold jhU
 repeat(first|with_reducible refine jc6 p ?_|(with_reducible refine jgQ v ?_;rw[own])|wp_step)
 refine(je8 n D).at ?_
 refine jeG (xT ((bind_fn n _ y).at ?_))
 refine xT (jc1 (G _ (h.objs.size+1) (jdI _) ⟨m,jgu (jdI _),h.objs.size,?_,jgu (U6 _),?_⟩) (λr u z=>?_) λ_ _ z=>z)
 .subst f;exact p
 .subst hO1;exact U4 _ (ji5 rfl rfl)
 .obtain⟨rfl,z⟩:=z
  wp_walk
  exact z
theorem lE(X:K.In h)(F:jfm B newId initId bmB)(T:OwnTail h bmB bm){a:List pL}{c:pA}{Q:pL->S6->Prop}
 (b:h.get? C=nC (jgA nm q C N bs bm hdct sn sub ab col dd k0 k1 k2 k3 k5 newId))(i:jcy K (.ref C) "__init__"=nC (nC (.ref c)))(f:jjw K (.ref c)=nC (.type "function"))
 (l:∀h' e,h.objs.size<=e->jij h h' e (.ref C) a->jcH (model prog w) (A.under (.builtin "type.__call__" ⟨.ref C::a,[]⟩)) (call (.ref c) (.ref e::a)) (λr o=>r=.none/\Q (.ref e) o) E ⟨h',g,d,t,os⟩)
 (m:a.length<=qd):jcH (model prog w) A (call (.ref C) a) Q E ⟨h,g,d,t,os⟩:=by
 have p:=tc_lookup
 have u:=tc_bind (.ref C)
 have v:(⟨h,g,d,t,os⟩:S6).TypeIs (.ref C) "type":=⟨_,b,rfl⟩
 refine jfD (codeAny_of_tree (show jcH _ _ (callAny (.ref C) _) _ _ _ from ?_))
 repeat(any_goals(first|assumption|with_reducible refine jc6 b ?_|wp_step))
 refine⟨rfl,codeAny_call_builtin_at (jg4 _ (by decide+kernel)) entry_typeCall (wpAny_check_type_call_sub b (pq X F T b i f (λh' e n j=>?_) m))⟩
 exact l h' e n j
theorem tD{M:jiU}{s:S6}{env:Env}{x:Sem pL}{Q:Flow->S6->Prop}(j:bm.contains (.type "BaseException")=qm)(o:A.handled=su)
 (k:jcH M A x (λv b=>∃e a,v=.ref e/\b.heap.get? C=nC (jgA nm q C N bs bm hdct sn sub ab col dd k0 k1 k2 k3 k5 newId)/\b.heap.get? e=nC a/\a.cls=.ref C/\(∃vs:Array pL,a.data=.fields vs/\vs[1]?=nC .none)/\E (.ref e) b) E s):
 jcH M A (jjj env (nC x) su) Q E s:=by
 have h:(jcI C::bm).contains (.type "BaseException")=qm:=by rw[jiO,j,ji6]
 unfold jjj
 refine xT (jc1 k (λv b z=>?_) λ_ _ z=>z)
 obtain⟨e,a,rfl,c,n,l,⟨vs,m,f⟩,i⟩:=z
 obtain⟨u,w,p,r⟩:=a
 cases l;cases m
 obtain⟨t,g,d,B,y⟩:=b
 repeat(first|with_reducible refine jc6 n ?_|with_reducible refine jc6 c ?_|(with_reducible refine jgQ c ?_;rw[h])|wp_step)
 rw[f]
 refine jcC ?_
 rw[if_neg (by decide)]
 exact jcC (wpAny_raiseNew_none o i)
end
noncomputable def lF (K:oh) (C:pA) (a:List pL) (newId:String):Bool:=match K.lookup C with
 |some ⟨.type "type",_,.cls cd,sl⟩=>(match cd.mro,sl.toList with
  |.ref C2::bm,[_,_,_,_,nC (.builtin n),_]=>(C2==C&&n==newId)&&(!cd.hasDel&&tailIn K a bm)
  |_,_=>vh)
 |_=>vh
noncomputable def vX (C:pA) (b:List pL) (newId:String) (h:jcX):Prop:=
 ∃e N o q bs a p d f c g i j l m n,h.get? C=nC (jgA o q C N bs e a p d f c g i j l m n newId)/\OwnTail h b e
theorem fj{K:oh}{h:jcX}{C:pA}{a:List pL}{newId:String}(X:K.In h)(q:lF K C a newId=qm):vX C a newId h:=by
 unfold lF at q
 split at q
 case h_2=>exact absurd q (by decide)
 rename_i r g n i
 split at q
 case h_2=>exact absurd q (by decide)
 rename_i o p F G H I D J b c
 rw[jbE,jbE,jbE,beq_iff_eq,beq_iff_eq,jeV]at q
 obtain⟨⟨j,l⟩,d,m⟩:=q
 subst j;subst l
 obtain⟨t,u,v,w,x,y,z,A,B,e,f⟩:=g
 simp only at b d
 subst b;subst d
 obtain⟨E⟩:=n
 simp only at c
 subst c
 exact⟨_,_,_,_,_,_,_,_,_,_,_,_,_,_,_,_,X _ _ i,tail_of_in X m⟩
structure nQ(P:jcz)(w:jcS)(K:oh)(mg:Str->Option pL)(base:jcX)(k:Nat)(x:Str)(C:pA)(f:Str):Prop where
 bound:mg x=nC (.ref C)
 own:vX C [.type "ValueError",.type "Exception",.type "BaseException",.type "object"] "ValueError.__new__" base
 kp:jdO K (.ref C)=qm
 ex:∃(fI:pA)(fd:jaF)(ps:List Str),jcy K (.ref C) "__init__"=nC (nC (.ref fI))/\jjw K (.ref fI)=nC (.type "function")/\We P w K mg base Ol k fI fd ps (cJ C f)/\Binds K fd ps []
end L2
namespace L2
open PySem PySem.Spec PyProof.Rows PySem.W
open Builtin Builtin.ObjectAttr
abbrev Bp:List pL:=[.type "ValueError",.type "Exception",.type "BaseException",.type "object"]
structure sy(K:oh)(D:pA):Prop where
 ga:jfV K (.ref D) "__getattribute__"=nC (nC (.builtin "type.__getattribute__"))
 rd:readsIn K D (.type "type")=qm
 fd:∃r,findCls K (.ref D) (.type "type") "__init__"=nC r/\(match r with|.val v=>v=.builtin "ValueError.__init__"|_=>False)
section
variable{prog:jcz}{w:jcS}{A:jdc}{E:pL->S6->Prop}{h:jcX}{g:Array jfz}{d:jjt}{t:Nat}{os:ji3}{K:oh}{C a:pA}
theorem qR{u:pL}{p:pA}{Q:pL->S6->Prop}(O:vX C Bp "ValueError.__new__" h)(c:h.get? a=nC (Ms C su p))
 (k:∀h' q,h'.get? a=nC (Ms C su q)->(∀b o,b≠a->h.get? b=nC o->h'.get? b=nC o)->Q .none ⟨h',g,d,t,os⟩):
 jcH (model prog w) A (call (.builtin "ValueError.__init__") [.ref a,u]) Q E ⟨h,g,d,t,os⟩:=by
 obtain⟨v,N,H,I,bs,f,J,n,r,j,x,y,z,B,D,G,l,i⟩:=O
 have F:=jcL
 refine jfD (jeU F.init.plain F.initEntry (wpAny_check_init_subT F i l c rfl ?_))
 unfold Ms at c
 wp_walk
 refine k _ h.objs.size ?_ λb o m e=>?_
 .rw[jdm _ (U4 _ c) rfl]
  rfl
 .rw[jcQ _ _ (jdh m)]
  exact U4 _ e
structure qO(K:oh)(C:pA)(f:Str):Prop where
 sa:jcy K (.ref C) "__setattr__"=nC (nC (.builtin "object.__setattr__"))
 no:jcy K (.ref C) f=nC su
 cls:∃cd D,jjr K C=nC cd/\cd.mro=.ref C::.ref D::Bp/\cd.hasDict=qm
theorem gq{f:Str}{v:pL}{l:pA}{Q:Unit->S6->Prop}(X:K.In h)(Z:qO K C f)(j:h.get? a=nC (Ms C su l))
 (k:∀h' n U,h.objs.size<=n->h'.get? a=nC (Ms C (nC n) l)->h'.Ns1 n (λy=>if y=f then nC v else su)->(∀b o,b≠a->h.get? b=nC o->h'.get? b=nC o)->Q () ⟨h',g,d,U,os⟩):
 jcH (model prog w) A (setAttr (.ref a) f v) Q E ⟨h,g,d,t,os⟩:=by
 obtain⟨m,D,q,z,x⟩:=Z.cls
 have I:InstAt h a (Ms C su l) C su:=⟨j,rfl,rfl,trivial⟩
 have i:=PySem.F.store_ValueError
 have S:m.mro.isEmpty=vh:=by rw[z];rfl
 have p:m.mro.contains (.type "object")=qm:=by rw[z];simp[Bp]
 have T:jht (model prog w) h (jhU (.ref a) (.type "object")) qm:=I.type.andThen (jf4 X (by unfold jcJ;rw[q,Option.bind_some,if_neg (by rw[S];decide),p]))
 refine set_plain (s:=⟨h,g,d,t,os⟩) X I Z.sa ?_
 refine jeU i.slot.plain i.entry (@check_slot (model prog w) _ _ ⟨h,g,d,t+1,os⟩ "object.__setattr__" "object" "__setattr__" (.ref a) [.str f t,v] [] _ i.kind i.split T (i.args (.ref a) (.str f t) v) ?_)
 have R:jht (model prog w) h (mroOf (.ref C)) m.mro:=(jiq X q).andThen .now
 rw[osa_eq,refuse_eq]
 refine xT (xT (I.type.at (xT (R.at ?_))))
 rw[z,refuseLoop_ref,refuseLoop_ref,i.passes]
 refine jcC (xT (I.type.at (xT ((je8 X Z.no).at (xT (jcC ?_))))))
 have c:h.get? a=nC ⟨.ref C,su,.fields #[.ref l,.none,.none,.none,.bool vh,.none],#[]⟩:=j
 refine xT (jcC (xT (xT (jic c (xT ((jiq X q).at ?_))))))
 rw[x]
 have G:a≠h.objs.size:=jcO (jbH j)
 refine xT (wpAny_alloc' (xT (wpAny_update' (U4 _ c) ?_)))
 refine jcC (xT (jcC (xT ?_)))
 have L:=jdm (λo=>{o with dict:=nC h.objs.size}) (U4 {cls:=.type "dict",data:=.dict #[]} c) rfl
 have M:((h.push {cls:=.type "dict",data:=.dict #[]}).update a λo=>{o with dict:=nC h.objs.size}).get? h.objs.size=nC {cls:=.type "dict",data:=.dict #[]}:=
  (jcQ _ _ G).trans (ji5 rfl rfl)
 have N:((h.push {cls:=.type "dict",data:=.dict #[]}).update a λo=>{o with dict:=nC h.objs.size}).Ns h.objs.size (λ_=>su):=⟨_,#[],_,M,rfl,λe j=>absurd j (by simp),λ_=>rfl⟩
 refine wpAny_nsSet1 (jiW N) λO H J=>?_
 obtain⟨oD,Y,W,B,u,r⟩:=H.count (jjv f v Within.nil)
 refine xT (wpAny_lookBehind B (by rw[u];exact pastItsLine_dict (jc9 r (by rw[jc7,jec,jcD];omega))) (jcC ?_))
 refine k O h.objs.size _ (U6 _) ((J.2 a G).trans L) H λb o P e=>?_
 exact(J.2 b (jcO (jbH e))).trans ((jcQ _ _ (jdh P)).trans (U4 _ e))
end
theorem iB{H:Hp}{a:pA}{o:HO}(e:H a=nC o):upd H a o=H:=by
 funext b
 by_cases h:b=a
 .subst h;rw[Zj,e]
 .rw[ZX h]
noncomputable def jZ (C:pA) (c:TA):TE:=λe H Q=>c e H λd b=>∃a v,d=[.ref a,v]/\b a=nC (yM a C)/\Q .non b
theorem jn{X:Cx}{x:Str}{D C:pA}{c b:Expr}{G:TA}{p l pos:Pos}{pl:Sem Bool}(Z:sy X.K D)(O:vX C Bp "ValueError.__new__" X.base)(hg:Gl X x)(hm:X.mg x=nC (.ref D))(ha:PA X [c,b] G)
 (A:[c,b].all noStar=qm:=by rfl)(t:(x==("__debug__":Str))=vh:=by decide)
 (ht:eval (.Call (.Attribute (.Name x p) "__init__" l) [c,b] [] pos) X.env=(do
  let B<-eval (.Name x p) X.env
  jgR l.atName
  let(f,first)<-holding [B] (jfK B "__init__" pl)
  jgz pos f first (jeh pos (jc0 [c,b] X.env)) (jfo pos (jel [] X.env))):=by rfl):
 PE X (.Call (.Attribute (.Name x p) "__init__" l) [c,b] [] pos) (jZ C G):=by
 intro g s σ H Q I h
 obtain⟨r,hr,j⟩:=Z.fd
 refine jfR (pl:=pl) (Uk I hg hm ?_ t) ht
 cases r with
 |get=>exact j.elim
 |val v=>
 have j:v=.builtin "ValueError.__init__":=j
 subst j
 refine method_cls I.QR Z.ga (cls_value I.QR Z.rd hr (by decide+kernel) ?_)
 refine jgn (XD (ha pos g _ σ H _ (I.tok _) h) λus E⟨vs,J,i,r1,a,v,T,n,q⟩=>?_) (Yi (Y4 A).1) (Vj (Y4 A).2)
 subst T
 obtain⟨u1,u2,rfl,w,aa⟩:=vals2 r1
 cases w
 obtain⟨P,N,nm,qn,bs,d,sn,y,M,m,S,k0,k1,k2,k3,k5,hC,L⟩:=O
 obtain⟨t0,he⟩:sJ a C E.heap:=(i.hok a _ n).1
 obtain⟨W,U,R,F,u⟩:=E
 refine qR ⟨P,N,nm,qn,bs,d,sn,y,M,m,S,k0,k1,k2,k3,k5,i.bk _ _ hC,L.keeps i.bk⟩ he λY t2 b k=>?_
 have z:=Inv.write (s:=⟨W,U,R,F,u⟩) (t':=F) (h':=Y) (o:=yM a C) (x:=a) (e:=a) i (by rw[n];trivial) (.inl rfl) k ⟨_,b⟩ (rZ ⟨t2,b⟩)
 rw[iB n]at z
 exact⟨.non,J,z,rfl,q⟩
noncomputable def cI (C:pA) (g h:TE) (f:Str):TS:=λD d H=>h d H λy e=>g d e λx c=>∃a,x=.ref a/\c a=nC (yM a C)/\∀b,c b=su->b≠a->D.nx d (upd (upd c a (pG a C b)) b (.xd [(f,y)]))
theorem eO{X:Cx}{o d:Expr}{f:Str}{C:pA}{pos j:Pos}{U Y:TE}(Z:qO X.K C f)(ha:PE X o U)(hv:PE X d Y)(hs:jgm d (nC (.Attribute o f j)) pos.line X.env=pure vh):
 PS X (.Assign [.Attribute o f j] d pos) (cI C U Y f):=by
 intro i s G H D I h
 refine jgk (XD (hv i s G H _ I h) λu s1⟨y,H1,I1,ry,q⟩=>XD (ha i s1 G H1 _ I1 q) λov T zz=>?_) hs
 obtain⟨x,A,p,rx,a,ex,B,q2⟩:=zz
 subst ex
 obtain rfl:ov=jcI a:=rx
 obtain⟨t0,S⟩:sJ a C T.heap:=(p.hok a _ B).1
 obtain⟨L,R,P,t2,w⟩:=T
 refine gq p.QR Z S λh3 dx W O Q n3 E=>?_
 have M:a<L.objs.size:=jbH S
 have N:dx≠a:=jeA (jcW M O)
 have v:A dx=su:=p.hok.fresh O
 have J:Inv X i G (upd (upd A a (pG a C dx)) dx (.xd [(f,y)])) ⟨h3,R,P,W,w⟩:=by
  have e:∀b u,A b=nC u->(∀φ,u≠.ext φ)->b≠a/\b≠dx:=λb u q n=>⟨λz=>by subst z;rw[B]at q;cases q;exact n _ rfl,λz=>by subst z;rw[v]at q;cases q⟩
  have F:∀b o,L.get? b=nC o->A b=su->b≠a/\b≠dx:=λb o q n=>⟨(λz=>by subst z;rw[B]at n;cases n),λz=>by subst z;exact absurd (jbH q) (jep.mpr O)⟩
  refine Inv.un (s:=⟨L,R,P,t2,w⟩) (t':=W) p ⟨λb o q n _ _=>E b o (F b o q n).1 q,λb o q n _ _=>⟨o.slots,E b o (F b o q n).1 q⟩,λb o q n _=>?_,λb o q _=>?_,λb xs q=>?_,λb o u q=>?_,λb ps q=>⟨#[],?_⟩⟩ λb o q=>?_
  .rw[ZX (F b o q n).2,ZX (F b o q n).1];exact n
  .by_cases t:b=a
   .subst t;exact⟨_,Q⟩
   .exact⟨_,E b o t q⟩
  .have z:=e b _ q λ_ y=>nomatch y
   rw[ZX z.2,ZX z.1];exact q
  .have z:=e b _ q λ_ y=>nomatch y
   rw[ZX z.2,ZX z.1];exact q
  .have z:=e b _ q λ_ y=>nomatch y
   rw[ZX z.2,ZX z.1,q];simp
  .by_cases t:b=dx
   .subst t
    rw[Zj]at q;cases q
    exact⟨_,n3,λg=>by
     by_cases m:g=f
     .subst m;rw[if_pos rfl];simp only[jdB,beq_self_eq_true];exact ry
     .rw[if_neg m]
      have:(g==f)=vh:=by simpa using m
      simp only[jdB,this,List.lookup_nil];trivial⟩
   rw[ZX t]at q
   by_cases l:b=a
   .subst l
    rw[Zj]at q;cases q
    exact gr ⟨t0,Q⟩
   rw[ZX l]at q
   refine(p.hok b o q).stay (λc u hc z=>E c u (λy=>?_) z) (λc z=>?_) λc xs z=>?_
   .subst y
    rcases hc with r|r
    .exact l r.symm
    .rw[B]at r;cases r
   .have y:=e c _ z λ_ y=>nomatch y
    rw[ZX y.2,ZX y.1];exact z
   .have y:=e c _ z λ_ y=>nomatch y
    rw[ZX y.2,ZX y.1];exact z
 exact⟨G,_,J,q2 dx v N⟩
section
variable{prog:jcz}{w:jcS}{A:jdc}{E:pL->S6->Prop}{h:jcX}{g:Array jfz}{d:jjt}{t:Nat}{os:ji3}{K:oh}{C a dx:pA}{f:Str}{v:pL}
end
noncomputable abbrev TX:=St->Hp->VK->XK->Prop
section
variable{X:Cx}{D:pA}{pos p apos:Pos}{e o:Expr}{es:List Expr}{ta:TE}{t:TA}
noncomputable def j6 (C:pA) (m:Str) (sp:Sp) (f:TE) (t:TA):TX:=λc H Q E=>f c H λx b=>∃a e fs,x=.ref a/\b a=nC (.ins C e fs)/\fs.lookup m=su/\t c b λg d=>sp (x::g) d Q E
end
theorem Inv.bH{X:Cx}{e:pL}{a:List (pA×Obj)}{b:St}{H:Hp}{s:S6}(ok:X.Ok)(J:Inv (X.handling e) a b H s):Inv X a b H s:=⟨ok,J.os,J.bare,J.base,J.loc,J.cell,J.free,J.freeC,J.pin,J.hok,J.len⟩
noncomputable def tx (l:List Nat):Str:=⟨l.toArray⟩
theorem Wd(l:List Nat):(tx l).cps.toList=l:=by simp[tx]
theorem Yo(l:List Nat):(tx l).length=l.length:=by simp[tx,Str.length]
theorem QM{l m:List Nat}(h:tx l=tx m):l=m:=by rw[<-Wd l,h,Wd]
theorem Ha(x:Str):x=tx x.cps.toList:=by obtain⟨a⟩:=x;simp[tx]
theorem Xq(l m:List Nat):tx l++tx m=tx (l++m):=by
 rw[Ha (tx l++tx m)]
 congr 1
 show((tx l).cps++(tx m).cps).toList=_
 rw[jfQ,Wd,Wd]
theorem Ky{X:Cx}:SJ X (jdj .LtE) (λx y H Q=>∃i j,x=.str i/\y=.str j/\Q (.bl (!decide (j.cps.toList<i.cps.toList))) H):=by
 rintro a s e H x y u v Q I c d ⟨i,j,rfl,rfl,q⟩
 obtain⟨t,rfl⟩:=(show∃t,u=jfH i t from c)
 obtain⟨b,rfl⟩:=(show∃b,v=jfH j b from d)
 exact P.le_str ⟨.bl _,H,I,rfl,q⟩
noncomputable def Vp (l:List Nat) (lo a:Option Int):List Nat:=(l.drop (HT.VR l.length 0 lo)).take (HT.VR l.length l.length a-HT.VR l.length 0 lo)
theorem picked_eq(n:Nat)(lo a:Option Int):jeC lo a 1 n=(jc4 (HT.VR n n a-HT.VR n 0 lo)).map (HT.VR n 0 lo+·):=by
 rw[<-sliceRange_one]
 unfold jeC
 have c:∀(d:Nat)(o:Option Int),(match o with|none=>(d:Int)|some i=>if(1:Int)>0 then max 0 (min (if i<0 then i+(n:Int)else i) (n:Int))else max (-1) (min (if i<0 then i+(n:Int)else i) ((n:Int)-1)))=((HT.VR n d o:Nat):Int):=λd o=>by
  cases o with
  |none=>rfl
  |some i=>
   show(if(1:Int)>0 then _ else _)=_
   rw[if_pos (by decide)]
   unfold HT.VR
   by_cases h:i<0
   .simp only[h,if_true]<;>omega
   .simp only[h,if_false]<;>omega
 have b:=c 0 lo
 have e:=c n a
 dsimp only
 rw[if_pos (by decide),if_pos (by decide)]
 congr 1
theorem Dg(l:List Nat)(lo a:Option Int):(Vp l lo a).length<=l.length:=by
 unfold Vp
 rw[jcB,jcG];omega
noncomputable def jcb:V->Option Int->Option Int->Hp->VK->Prop:=λx b a H Q=>∃l,x=.str (tx l)/\l.length<=qd/\Q (.str (tx (Vp l b a))) H
theorem YM{X:Cx}:jaP X jcb:=by
 intro r s M H x v K L a hi J Q I E A C D h
 obtain⟨l,rfl,B,q⟩:=h
 obtain⟨t,rfl⟩:=(show∃t,v=jfH (tx l) t from E)
 have pt:∀{w o},jie w o->∃p:Option (Int×Tok),w=partValue p/\p.map (·.1)=o:=λp=>by
  cases p with
  |none=>exact⟨su,rfl,rfl⟩
  |int i t=>exact⟨nC (i,t),rfl,rfl⟩
 obtain⟨b,rfl,j⟩:=pt C
 obtain⟨c,rfl,m⟩:=pt D
 refine⟨"str",_,F.slot_str_getitem.lookup,je5 _ _ _,wpAny_getItem_str_slice (l:=b) (u:=c) (st:=su) A rfl ?_⟩
 have e:(jgB (tx l) b c su).filterMap ((tx l).cps[·]?)=Vp l a hi:=by
  unfold jgB
  rw[j,m]
  show(jeC a hi 1 (tx l).length).filterMap ((tx l).cps[·]?)=_
  rw[picked_eq,pick_run,Wd,Yo]
  rfl
 have y:(jgB (tx l) b c su).length=(Vp l a hi).length:=by
  have:jgB (tx l) b c su=(jc4 (HT.VR l.length l.length hi-HT.VR l.length 0 a)).map (HT.VR l.length 0 a+·):=by
   unfold jgB
   rw[j,m]
   show jeC a hi 1 (tx l).length=_
   rw[picked_eq,Yo]
  rw[this,rz,jeX]
  unfold Vp
  rw[jcB,jcG]
  have:=HT.tG l.length l.length (U6 _) hi
  omega
 unfold sliceMade
 refine post_val_or_str ?_
 rw[e]
 have g:(if(((su:Option (Int×Tok)).map (·.1)).getD 1==1&&(jgB (tx l) b c su).length==(tx l).length)=qm then tx l else⟨(Vp l a hi).toArray⟩)=tx (Vp l a hi):=by
  split
  .rename_i z
   rw[jbE]at z
   have f:=beq_iff_eq.mp z.2
   rw[y,Yo]at f
   congr 1
   have d:HT.VR l.length 0 a=0\/l=[]:=by
    unfold Vp at f
    rw[jcB,jcG]at f
    have:=HT.tG l.length l.length (U6 _) hi
    by_cases n:l=[]
    .exact .inr n
    .have:0<l.length:=jix.mpr n
     left;omega
   rcases d with d|d
   .have:l.length<=HT.VR l.length l.length hi:=by
     unfold Vp at f
     rw[d,jcB,jcG]at f
     omega
    unfold Vp
    rw[d,jfE,jdp (by omega)]
   .subst d;unfold Vp;simp
  .rfl
 rw[g]
 exact⟨by rw[Yo];exact jc9 (Dg l a hi) B,λG k=>⟨.str (tx (Vp l a hi)),H,I.tok k,⟨G,rfl⟩,q⟩⟩
noncomputable def jaL (K:oh) (a:pA):It:=
 ⟨λi H=>∃b x,Yy K H a b/\b[i]?=nC x,
  λi H v c=>∃p x,v=.ref p/\H p=su/\c=upd H p (.tup [.int i,x])/\∀b,Yy K H a b->b[i]?=nC x,
  λi H=>∃b,Yy K H a b/\b.length<=i⟩
theorem nj{P:jcz}{w:jcS}{K:oh}{es:List Expr}{S:Nat}{pos:Pos}(a z j:pA)(A:z≠j):
 Turn P w K (.Tuple es S pos) (jaL K a) [z,j] z (λi h=>(∃f,IsEnum h z j i f)/\h.IsListIter j a i)where
 mem:=by simp
 obj:=λi h m c b=>by
  obtain⟨⟨f,g⟩,⟨o1,e1,c1,d1⟩⟩:=m
  simp only[jbK,jdk,or_false]at b
  rcases b with rfl|rfl
  .exact⟨_,g,λv x=>by cases x⟩
  .exact⟨_,e1,λv x=>by rw[d1]at x;cases x⟩
 keep:=λi h h' m k=>by
  obtain⟨⟨f,g⟩,r⟩:=m
  exact⟨⟨f,k z (by simp) _ g⟩,r.at λo e=>k j (by simp) o e⟩
 item:=by
  intro X J hw G b i d s F H E I C m L
  subst J hw G
  obtain⟨⟨f,g⟩,r⟩:=m
  obtain⟨xs,x,l,hx⟩:=L
  obtain⟨R,Y,p,O⟩:=I.list l
  obtain⟨D,N,U⟩:=Y.get hx
  refine wpAny_pyNext_enum_item g r p.isList (x:=D) (by simpa using N) A λh' a1 a2 a3 a4 M=>?_
  have T:∀c∈[z,j],c<s.heap.objs.size:=by
   intro c b
   simp only[jbK,jdk,or_false]at b
   rcases b with rfl|rfl
   .exact jbH g
   .obtain⟨_,e,_⟩:=r;exact jbH e
  have I1:Inv X d F (upd H s.heap.objs.size (.tup [.int i,x])) {s with heap:=s.heap.push {cls:=.type "tuple",data:=.seq #[.int i s.toks,D]},toks:=s.toks+1}:=by
   refine I.laid (λc o e=>U4 _ e) (U6 _) ⟨by show 2<=qd;decide,[.int i s.toks,D],.cons ⟨_,rfl⟩ (.cons U .nil),?_⟩
   exact⟨_,jcK _ rfl,rfl,_,rfl⟩
  have y:∀c∈[z,j],upd H s.heap.objs.size (.tup [.int i,x]) c=su:=λc b=>by
   rw[ZX (jcO (T c b))];exact(C c b).1
  have u:∀c∈[z,j],G9 X d (upd H s.heap.objs.size (.tup [.int i,x])) c:=λc b=>⟨y c b,(C c b).2⟩
  have S:∀c o,c∉[z,j]->(s.heap.push {cls:=.type "tuple",data:=.seq #[.int i s.toks,D]}).get? c=nC o->h'.get? c=nC o:=λc o b e=>by
   rcases jgx e with⟨e9,e8⟩|e'
   .subst e9 e8;exact a3
   .exact M c o (λx=>b (by simp[x])) (λx=>b (by simp[x])) e'
  have I2:Inv X d F (upd H s.heap.objs.size (.tup [.int i,x])) {s with heap:=h',toks:=s.toks+1}:=by
   have z:=Inv.Qi (t':=s.toks+1) I1 S u
   exact z
  refine⟨_,rfl,jg5 (s:={s with heap:=h',toks:=s.toks+1}) a1 λt B n=>?_⟩
  have I3:Inv X d F (upd H s.heap.objs.size (.tup [.int i,x])) {s with heap:=t,toks:=s.toks+1}:=by
   have z:=Inv.Qi (h':=t) (t':=s.toks+1) (ch:=[z]) I2 (λc o b e=>n.extBut c o (λq=>b (by simp[q])) e) (λc b=>u c (by simp at b;simp[b]))
   exact z
  refine⟨.ref s.heap.objs.size,_,I3,rfl,⟨_,x,rfl,I.hok.fresh (U6 _),rfl,λzs Q=>by rw[I.Ib Q l];exact hx⟩,?_,y⟩
  exact⟨⟨_,by have:=B;push_cast;exact this⟩,a2.extBut n.extBut (jdh A)⟩
 done:=by
  intro X J hw G b i d s F H E I C m L
  subst J hw G
  obtain⟨⟨f,g⟩,r⟩:=m
  obtain⟨xs,l,Z⟩:=L
  obtain⟨R,Y,p,O⟩:=I.list l
  have l1:=Y.length
  refine wpAny_pyNext_enum_end (I.ok.hd b) g r p.isList (by simp;omega) λh' M=>⟨rfl,?_⟩
  exact I.Qi (t':=s.toks) (ch:=[z,j]) (λc o b e=>M c o (λx=>b (by simp[x])) e) C
 self:=λ_ _ _ _ _ m h=>by
  obtain⟨⟨f,g⟩,_⟩:=m
  exact jge g h
noncomputable def dY (K:oh) (c:TA):TI:=λf H R=>c f H λd b=>∃a,d=[.ref a]/\(∃e,Yy K b a e)/\R (jaL K a) b
theorem fY{X:Cx}{r:List Expr}{B:Nat}{J:Pos}{a:Expr}{n:TA}{p pos:Pos}(v:Gl X "enumerate")(x:X.mg "enumerate"=su)(t:PA X [a] n)(y:noStar a=qm):
 PI X (.Tuple r B J) (.Call (.Name "enumerate" p) [a] [] pos) (dY X.K n):=by
 intro d s M H R I h
 refine Call_ (Pr I v x boot_enumerate (jdH (XD (t pos d s M H _ I h) λP j L=>?_) (by rw[Yi y]) rfl))
 obtain⟨Q,o,f,F,E⟩:=L
 obtain⟨C,e,⟨S,i⟩,q⟩:=E
 subst e
 obtain⟨u,rfl,G⟩:=vals1 F
 cases G
 obtain⟨A,O,D,_⟩:=f.list i
 refine call_enumerate_list D.isList λN m g z w=>?_
 refine jge m ?_
 refine⟨j.heap.objs.size+1,_,_,_,o,rfl,f.kept (t':=j.toks) w,nj C _ _ (Nat.succ_ne_self _),⟨⟨_,m⟩,g⟩,λc l=>?_,q⟩
 have b:j.heap.objs.size<=c:=by
  simp only[jbK,jdk,or_false]at l
  rcases l with rfl|rfl
  .exact jdI _
  .exact U6 _
 exact f.pI b (f.hok.fresh b)
theorem lG{K:oh}{a:pA}{xs:List V}{g:TG}{n:TS}{D:Ends}{b:St}{H:Hp}(c:Nat->St->Hp->Prop)(h0:c 0 b H)(w:∀i b H,i<=xs.length->c i b H->Yy K H a xs)
 (A:∀(i:Nat)x p b H,xs[i]?=nC x->c i b H->H p=su->g (.ref p) b (upd H p (.tup [.int i,x])) λf j=>n {D with nx:=c (i+1),ct:=c (i+1),bk:=D.nx} f j)(t:∀b H,c xs.length b H->D.nx b H):
 ∃W:Nat->Nat->St->Hp->Prop,(∃m,W 0 m b H)/\∀i m b H,W i m b H->
  ((jaL K a).stop i H/\D.nx b H)\/((jaL K a).go i H/\∃N:St->Hp->Prop,(∀d H',N d H'->∃l,l<m/\W (i+1) l d H')/\∀x H',(jaL K a).yld i H x H'->g x b H' λf j=>n {D with nx:=N,ct:=N,bk:=D.nx} f j):=by
 refine⟨λi m b H=>m=xs.length-i/\i<=xs.length/\c i b H,⟨xs.length,by simp,jcY _,h0⟩,?_⟩
 rintro i m b H ⟨rfl,u,p⟩
 have q:=w i b H u p
 by_cases h:i<xs.length
 .refine .inr ⟨⟨xs,xs[i],q,by simp[h]⟩,c (i+1),λd H' B=>⟨xs.length-(i+1),by omega,rfl,h,B⟩,λv H' y=>?_⟩
  obtain⟨r,x,rfl,z,rfl,o⟩:=y
  exact A i x r b _ (o _ q) p z
 .have e:i=xs.length:=by omega
  subst e
  exact .inl ⟨⟨xs,q,U6 _⟩,t b H p⟩
noncomputable def jbP (l:List Nat):It:=⟨λi _=>i<l.length,λi H v a=>a=H/\∃c,l[i]?=nC c/\v=.str (tx [c]),λi _=>l.length<=i⟩
theorem iu{P:jcz}{w:jcS}{K:oh}{N:Expr}(l:List Nat)(t:Tok)(it:pA):Turn P w K N (jbP l) [it] it (λi h=>h.IsStrIter it "str_ascii_iterator" (tx l) t i)where
 mem:=by simp
 obj:=λi h a b j=>by
  have e:b=it:=by simpa using j
  subst e
  obtain⟨o,e,c,d⟩:=a
  exact⟨o,e,λv z=>by rw[d]at z;cases z⟩
 keep:=λi h n a k=>by
  obtain⟨o,e,c,d⟩:=a
  exact⟨o,k it (by simp) o e,c,d⟩
 item:=by
  intro X B hw A D i g s F H E I p a f
  subst B hw A
  have f:i<l.length:=f
  obtain⟨q,r,L,u,x,y⟩:=p it (by simp)
  have C:(tx l).cps[i]?=nC l[i]:=by rw[<-jeM,Wd];simp[f]
  refine wpAny_pyNext_ascii_item a C λn m M=>?_
  have G:Inv X g F H {s with heap:=n,toks:=s.toks+1}:=I.turned (t':=s.toks+1) (λb o j e=>(M.2 b j).trans e) q r u x y
  obtain⟨o,e,c,d⟩:=id m
  exact⟨_,rfl,lN (s:={s with heap:=n,toks:=s.toks+1}) e c d (by decide) ⟨.str (tx [l[i]]),H,G,⟨_,rfl⟩,⟨rfl,l[i],by simp[f],rfl⟩,m,λb j=>(p b j).1⟩⟩
 done:=by
  intro X B hw A D i g s F H E I p a f
  subst B hw A
  have f:l.length<=i:=f
  obtain⟨q,r,L,u,x,y⟩:=p it (by simp)
  have C:(tx l).cps[i]?=su:=by rw[<-jeM,Wd];simp[f]
  exact wpAny_pyNext_ascii_end (I.ok.hd D) a C λn J=>⟨rfl,I.turned (t':=s.toks) (λb o j e=>J b o j e) q r u x y⟩
 self:=λ_ _ _ _ _ a h=>wpAny_pyIter_striter_ascii a h
noncomputable def jaX (b:TE):TI:=λc H R=>b c H λx a=>∃l:List Nat,x=.str (tx l)/\l.all (·<128)=qm/\R (jbP l) a
theorem jak{X:Cx}{p e:Expr}{f:TE}(m:PE X e f):PI X p e (jaX f):=by
 intro a s u H R I h
 refine XD (m a s u H _ I h) λv c r=>?_
 obtain⟨x,g,d,n,l,e,i,q⟩:=r
 subst e
 obtain⟨t,rfl⟩:=(show∃t,v=jfH (tx l) t from n)
 refine wpAny_pyIter_ascii (by rw[<-jjk,Wd];exact i) ?_
 refine⟨c.heap.objs.size,[c.heap.objs.size],_,_,g,rfl,d.kept (t':=c.toks) λb o e=>U4 _ e,iu l t _,⟨_,jcK _ rfl,rfl,rfl⟩,λb j=>?_,q⟩
 have e:b=c.heap.objs.size:=by simpa using j
 subst e
 exact d.pI (U6 _) (d.hok.fresh (U6 _))
section
variable{X:Cx}
noncomputable def jb6 (K:oh) (neg:Bool):R2:=λx y H Q=>∃(a b:pA)(d c:List Str),x=.ref a/\y=.ref b/\Yy K H a (d.map V.str)/\Yy K H b (c.map V.str)/\Q (.bl (if neg then !decide (d=c)else decide (d=c))) H
theorem jY:∀{ns d:List Str}{us c:List pL}{A:jdc}{s:S6},Vals (ns.map V.str) us->Vals (d.map V.str) c->∀j(e:j<us.toArray.size)(f:j<c.toArray.size),jiK A s us.toArray[j] c.toArray[j] ((ns[j]?).any λx=>(d[j]?).any λy=>x==y):=by
 intro ns d us c A s i l j e f
 have m:j<us.length:=by simpa using e
 have n:j<c.length:=by simpa using f
 have q:=i.length
 have r:=l.length
 rw[rz]at q r
 obtain⟨x,g,t⟩:=Hf i (sH m)
 obtain⟨y,h,u⟩:=Hf l (sH n)
 rw[jcF]at g h
 obtain⟨a,o,rfl⟩:=jcT.mp g
 obtain⟨b,p,rfl⟩:=jcT.mp h
 rw[o,p]
 have:=lC (A:=A) (s:=s) t u rfl rfl
 simpa[nM]using this
theorem o7:∀{ns b:List Str},ns.length=b.length->((jc4 ns.length).all λj=>(ns[j]?).any λx=>(b[j]?).any λy=>x==y)=decide (ns=b):=by
 intro ns b d
 by_cases h:ns=b
 .subst h
  rw[decide_eq_true rfl,jcV]
  intro j a
  have a:j<ns.length:=jd0.mp a
  simp[a]
 .rw[decide_eq_false h,<-Bool.not_eq_true]
  intro q
  refine h (jhg λj=>?_)
  by_cases a:j<ns.length
  .have z:=jcV.mp q j (jd0.mpr a)
   have c:j<b.length:=d▸a
   simp only[sH a,sH c,Option.any_some,beq_iff_eq]at z|-
   rw[z]
  .rw[jeN (by omega),jeN (by omega)]
theorem jm(g:X.A.units<jf9):SJ X (jdj .Eq) (jb6 X.K vh):=by
 intro o s G H x y v u Q I E F h
 obtain⟨a,b,d,c,rfl,rfl,z,B,q⟩:=h
 cases E;cases F
 obtain⟨C,p,m,_⟩:=I.list z
 obtain⟨i,r,n,_⟩:=I.list B
 have l:=p.length
 have D:=r.length
 rw[rz]at l D
 by_cases f:d.length=c.length
 .refine SeqAt.RcAt.lists m.isList n.isList (by rw[jbF,jbF];omega) g (λj t w=>jY p r j t w) _ _ _ _ ?_
  refine⟨_,H,I,?_,q⟩
  show jdR _=jdR (decide (d=c))
  rw[jbF,<-l,o7 f]
 .refine jhp m.isList n.isList (by rw[jbF,jbF];simp;omega) g _ _ _ _ ?_
  refine⟨_,H,I,?_,q⟩
  show jdR vh=jdR (decide (d=c))
  rw[decide_eq_false λe=>f (by rw[e])]
end
section
variable{X:Cx}
theorem aM(f:X.A.units+64<jf9):SJ X (jdj .In) (λy x H Q=>∃a o,x=.ref a/\Om H a y o/\Q (.bl o.isSome) H):=by
 intro b s j H y x v u Q I e d h
 obtain⟨a,o,rfl,g,q⟩:=h
 cases d
 exact jbV (by omega) I g e λi c=>⟨.bl _,H,c,rfl,q⟩
theorem Kv(f:X.A.units+64<jf9):SJ X (jdj .NotIn) (λy x H Q=>∃a o,x=.ref a/\Om H a y o/\Q (.bl (!o.isSome)) H):=by
 intro b s j H y x v u Q I e d h
 obtain⟨a,o,rfl,g,q⟩:=h
 cases d
 exact gk (by omega) I g e λi c=>⟨.bl _,H,c,rfl,q⟩
end
theorem yg{e f:Expr}{env:Env}{a:Pos}(h:noStar e=qm)(b:noStar f=qm):((jeh a (jc0 [e,f] env)).all (λx=>!x.1)&&(jfo a (jel [] env)).all (λx=>x.1.isSome)
 &&decide (([e,f]:List Expr).length+([]:List jgp).length+(if([]:List jgp).isEmpty then 0 else 1)<30))=qm:=by
 rw[Yi h,Yi b];rfl
section
variable{P:jcz}{w:jcS}{K:oh}{mg:Str->Option pL}{base:jcX}
end
section
variable{X:Cx}{e o i f value:Expr}{es:List Expr}{te to ti tf tv:TE}{t:TA}{pos p apos pos':Pos}
theorem vY{x:Str}{D C:pA}{b:Pos}{pl:Sem Bool}{a:Expr}(Z:sy X.K D)(O:vX C Bp "ValueError.__new__" X.base)(i:Gl X x)(j:X.mg x=nC (.ref D))(g:QA X [e,a] t)
 (l:[e,a].all noStar=qm:=by rfl)(c:(x==("__debug__":Str))=vh:=by decide)
 (m:eval (.Call (.Attribute (.Name x p) "__init__" b) [e,a] [] pos) X.env=(do
  let d<-eval (.Name x p) X.env
  jgR b.atName
  let(f,first)<-holding [d] (jfK d "__init__" pl)
  jgz pos f first (jeh pos (jc0 [e,a] X.env)) (jfo pos (jel [] X.env))):=by rfl):
 QE X (.Call (.Attribute (.Name x p) "__init__" b) [e,a] [] pos) (jZ C t):=⟨L2.jn (pl:=pl) Z O i j g.h l c m⟩
theorem qL{f:Str}{C:pA}(Z:qO X.K C f)(a:QE X o to)(c:QE X value tv)(b:HN value=qm:=by rfl):QS X (.Assign [.Attribute o f pos'] value pos) (cI C to tv f):=⟨L2.eO Z a.h c.h (Oh b)⟩
theorem qK{a:List Expr}{g:Nat}{i:Pos}(c:Gl X "enumerate")(d:X.mg "enumerate"=su)(b:QA X [e] t)(f:noStar e=qm:=by rfl):QI X (.Tuple a g i) (.Call (.Name "enumerate" p) [e] [] pos) (dY X.K t):=⟨L2.fY c d b.h f⟩
theorem xH{b:Expr}(a:QE X e te):QI X b e (jaX te):=⟨L2.jak a.h⟩
theorem Kh(d:X.A.units+64<jf9)(b:QE X o to)(a:QE X i ti)(c:bz i:=by intro _ _;rfl):QE X (.Subscript o i pos) (cO to ti):=⟨L2.fK (by omega) b.h a.h c⟩
theorem BX(e:X.A.units+64<jf9)(b:QE X o to)(a:QE X i ti)(d:QE X value tv)(c:HN value=qm:=by rfl):QS X (.Assign [.Subscript o i pos'] value pos) (cH to ti tv):=⟨L2.eG (by omega) b.h a.h d.h (Oh c)⟩
theorem vZ{a:Pos}(m:X.A.units+64<jf9)(l:QE X o to)(g:QE X e te)(i:QE X f tf)(c:noStar e=qm:=by rfl)(b:noStar f=qm:=by rfl)(d:jdz o "get" X.env (eval o X.env)=eval o X.env:=by rfl)(j:(apos.endLine==a.line)=qm:=by rfl):
 QE X (.Call (.Attribute o "get" apos) [e,f] [] a) (j0 to te tf):=⟨L2.jx (by omega) l.h g.h i.h ⟨d,yg c b,j,by rw[Yi c,Yi b];rfl⟩⟩
end
section
variable{l:pA}{fr:List Nat}{tt:TT}{te:TE}{σ:St}{Q:VK}{H1:Hp}
theorem J0(xs:List Nat)(p:Nat->Bool)(f:Nat->V)(hn:xs.length<=100)(j:H1 l=su)
 (y:∀x∈xs,∀H,Z5 H1 H->∀C,(∀H',Z5 H H'->C (p x) H')->tt (nC (.str (tx [x]))::inner σ fr) H C)
 (w:∀x∈xs,p x=qm->∀H,Z5 H1 H->∀C,(∀H',Z5 H H'->C (f x) H')->te (nC (.str (tx [x]))::inner σ fr) H C)
 (u:∀H,Z5 H1 H->H l=nC (.lst ((xs.filter p).map f))->Q (.ref l) H):Tz (jbP xs) 1 (Xz 0) fr tt te σ Q H1 l:=by
 refine Dc xs.length (λk H=>Z5 H1 H/\H l=nC (.lst (((xs.take k).filter p).map f))) ⟨Zk j _,Zj⟩ (λk H i _=>i) (λH _=>U6 _) ?_ λH⟨s,e⟩=>u H s (by rw[jc2]at e;exact e)
 rintro k H v H' i ⟨s,e⟩ ⟨rfl,c,n,rfl⟩ A z t r
 have m:c∈xs:=jcE n
 have g:(xs.take (k+1)).filter p=(xs.take k).filter p++(if p c=qm then[c]else[]):=by
  rw[jeY,n,jeK]
  cases hp:p c<;>simp[hp]
 refine y c m _ s _ λb a=>?_
 have h:b l=nC (.lst (((xs.take k).filter p).map f)):=a _ _ e
 cases hp:p c with
 |false=>
  rw[if_neg (by decide)]
  refine r b ⟨s.trans a,?_⟩
  rw[g,hp];simpa using h
 |true=>
  rw[if_pos rfl]
  refine w c m hp b (s.trans a) _ λd o=>?_
  have q:d l=nC (.lst (((xs.take k).filter p).map f)):=o _ _ h
  refine t _ d _ q ?_ ⟨?_,?_⟩
  .rw[rz,jcD]
   have:=jen p (xs.take k)
   rw[jcB]at this
   omega
  .exact((s.trans a).trans o).upd j _
  .rw[Zj,g,hp];simp
end
theorem Ti{X:Cx}:SJ X (jd9 .Mult) (λx y H Q=>∃z n,x=.str z/\y=.int n/\2<=n/\n<=1000/\1<=z.length/\z.length<=1000/\Q (.str ⟨(jcU n.toNat z.cps).foldl (·++·) #[]⟩) H):=by
 rintro c s o H x y u v Q I g h ⟨z,n,rfl,rfl,i,j,l,d,q⟩
 obtain⟨t,rfl⟩:=(show∃t,u=jfH z t from g)
 obtain⟨t',rfl⟩:=(show∃t',v=jhq n t' from h)
 have e:(n==1||z.length==0)=vh:=by
  rw[jfF]
  exact⟨beq_false_of_ne (by omega),beq_false_of_ne (by omega)⟩
 have m:z.length*n.toNat<=1000*1000:=Nat.mul_le_mul d (by omega)
 have b:∀(k:Nat)(a:Array Nat),((jcU k z.cps).foldl (·++·) a).size=a.size+k*z.cps.size:=by
  intro k
  induction k with
  |zero=>intro a;simp
  |succ k f=>intro a;rw[jek,jh1,f,Array.size_append,jgS];omega
 refine P.mul_str ?_ (λ_ _=>?_) (λ_ _=>?_) ?_
 .rw[decide_eq_false (by omega),decide_eq_false (by omega)];rfl
 .have:(1000:Int)<=(2^63-1)/n:=by
   rw[Int.le_ediv_iff_mul_le (by omega)]
   omega
  omega
 .unfold jiy
  simp only[jcD,decide_eq_false_iff_not]
  omega
 .rw[if_neg (by omega),if_neg (by rw[e];decide)]
  refine⟨?_,.str _,H,I.tok _,⟨_,rfl⟩,q⟩
  show((jcU n.toNat z.cps).foldl (·++·) #[]).size<=qd
  rw[b,jcD]
  have:n.toNat*z.cps.size=z.length*n.toNat:=Nat.mul_comm _ _
  simp only[Array.size_empty]
  omega
theorem vH:∀{ns:List Str}{us:List pL},Vals (ns.map V.str) us->∃l:List (Str×Tok),us=jiu l/\l.map (·.1)=ns
 |[],_,h=>by
  cases h
  exact⟨[],rfl,rfl⟩
 |n::ns,_,h=>by
  cases h with
  |cons r t=>
   obtain⟨l,rfl,e⟩:=vH t
   obtain⟨a,rfl⟩:=r
   exact⟨(n,a)::l,rfl,by rw[jdy,e]⟩
noncomputable def cR (K:oh) (to g:TE):TE:=λe H Q=>to e H λx f=>∃b,x=.str b/\g e f λy d=>∃a c,y=.ref a/\Yy K d a (c.map V.str)/\JoinOk b c=qm/\Q (.str (jeZ b c)) d
section
variable{X:Cx}{o e:Expr}{apos cpos pos:Pos}{to te:TE}
theorem fQ(z:PE X o to)(v:PE X e te)(m:M1 X o "join" apos e cpos):PE X (.Call (.Attribute o "join" apos) [e] [] cpos) (cR X.K to te):=by
 intro b s g H Q I h
 refine jeT m.base m.few m.line jeD PySem.F.slot_str_join PySem.F.type_str_join (XD (z b s g H _ I h) λu M N=>?_)
 obtain⟨x,i,n,J,d,p,D⟩:=N
 subst p
 obtain⟨t,rfl⟩:=J
 refine⟨je5 _ _ _,(λ_ e=>nomatch e),?_⟩
 rw[m.trees]
 refine jdS rfl (jdP (jdF (XD (v b M g i _ n D) λO P⟨y,j,f,L,a,B,q,r,c,E⟩=>jd6 ?_)))
 subst q
 cases L
 obtain⟨A,G,C,_⟩:=f.list r
 obtain⟨l,rfl,w⟩:=vH G
 exact SC.join C.isList w c λR k=>⟨.str (jeZ d B),j,f.tok _,⟨_,rfl⟩,E⟩
noncomputable def jcl (b:TE):TE:=λc H Q=>b c H λx a=>∃y:Str,x=.str y/\y.length<=qd/\Q (.str y) a
theorem jbe(f:PE X e te):PE X (.FormattedValue e (-1) su pos) (jcl te):=by
 intro a s i H Q I q
 refine FormattedValue_plain (XD (f a s i H _ I q) λv j⟨x,b,c,h,y,e,g,d⟩=>?_)
 subst e
 obtain⟨t,rfl⟩:=h
 exact wpAny_formatField_str ⟨.str y,b,c,⟨_,rfl⟩,d⟩ ⟨.str y,b,c.tok _,⟨_,rfl⟩,d⟩ g
end
section
variable{X:Cx}{o e:Expr}{apos cpos pos:Pos}{to te:TE}
theorem Km(K:oh)(g:QE X o to)(d:QE X e te)(b:X.K=K:=by rfl)(a:noStar e=qm:=by rfl)(c:jdz o "join" X.env (eval o X.env)=eval o X.env:=by rfl)(f:(apos.endLine==cpos.line)=qm:=by rfl):
 QE X (.Call (.Attribute o "join" apos) [e] [] cpos) (cR K to te):=by
 subst b
 exact⟨L2.fQ g.h d.h ⟨c,pF a,f,by rw[Yi a];rfl⟩⟩
theorem JR(a:QE X e te):QE X (.FormattedValue e (-1) su pos) (jcl te):=⟨L2.jbe a.h⟩
end
noncomputable def Wx (ns:List Str) (b:Nat):Str:=jeZ (jh "+") ((things b).map λk=>ns.getD k jdV)
noncomputable def Dk (ns:List Str):Form->Str
 |.none=>jh "nothing"
 |.only b m=>Wx ns b++jh " for "++jh (jda m)
 |.some k l m=>jh (jda ((l:Nat):Int))++jh " of "++Wx ns k++jh " for "++jh (jda m)
 |.most k c m=>jh "up to "++jh (jda ((c:Nat):Int))++jh " of "++Wx ns k++jh " for "++jh (jda m)++jh " each"
noncomputable def wB (any:Bool):Str:=if any=qm then jh "any(" else jh "one("
mutual
noncomputable def W6 (ns:List Str):Tr->Str
 |.leaf f=>Dk ns f
 |.node any ts=>wB any++jeZ (jh "; ") (textL ns ts)++jh ")"
noncomputable def textL (ns:List Str):List Tr->List Str
 |[]=>[]
 |t::ts=>W6 ns t::textL ns ts
end
theorem KH(ns:List Str):∀ts:List Tr,textL ns ts=ts.map (W6 ns)
 |[]=>by rw[textL];rfl
 |t::ts=>by rw[textL,KH ns ts];rfl
theorem Nr(ns:List Str)(any:Bool)(ts:List Tr):W6 ns (.node any ts)=wB any++jeZ (jh "; ") (ts.map (W6 ns))++jh ")":=by rw[W6,KH]
theorem Nq(ns:List Str)(f:Form):W6 ns (.leaf f)=Dk ns f:=by rw[W6]
noncomputable def vU (ns:List Str):Prop:=∀x∈ns,x.length<=20
theorem uv{ns:List Str}(h:vU ns)(k:Nat):(ns.getD k jdV).length<=20:=by
 rw[jbG]
 cases e:ns[k]? with
 |none=>show jdV.length<=20;decide
 |some x=>exact h x (jcE e)
theorem kj{sep:Str}{ts:List Str}{B N:Nat}(h:∀x∈ts,x.length<=B)(hn:ts.length<=N):(ts.map (·.length)).sum+ts.length*sep.length<=N*(B+sep.length):=by
 have c:∀l:List Str,(∀x∈l,x.length<=B)->(l.map (·.length)).sum<=l.length*B:=by
  intro l
  induction l with
  |nil=>intro _;simp
  |cons x l e=>
   intro h
   have a:=e λy d=>h y (jcx _ d)
   have b:=h x (U7 ..)
   rw[jdy,jiD,jc7,jgS]
   omega
 have a:=c ts h
 have b:ts.length*(B+sep.length)<=N*(B+sep.length):=jik _ hn
 rw[Nat.mul_add]at b
 omega
theorem joinOk_of{sep:Str}{ts:List Str}(h:(ts.map (·.length)).sum+ts.length*sep.length<=100000):JoinOk sep ts=qm/\(jeZ sep ts).length<=(ts.map (·.length)).sum+ts.length*sep.length:=by
 constructor
 .unfold JoinOk jiy
  rw[StrLaws.joinTotal]
  have:¬((ts.map (·.length)).sum+ts.length*sep.length>qd):=by rw[jcD];omega
  simp[this]
 .unfold jeZ
  rw[jia]
  exact StrLaws.join_length_le sep ts
theorem Wy{ns:List Str}(h:vU ns)(b:Nat):JoinOk (jh "+") ((things b).map λk=>ns.getD k jdV)=qm/\(Wx ns b).length<=130:=by
 have e:=kj (sep:=jh "+") (ts:=(things b).map λk=>ns.getD k jdV) (B:=20) (N:=6) (λx f=>by
  obtain⟨k,_,rfl⟩:=jdT.mp f
  exact uv h k) (by rw[rz];exact Nt b)
 have d:(jh "+").length=1:=rfl
 rw[d]at e
 obtain⟨a,c⟩:=joinOk_of (sep:=jh "+") (ts:=(things b).map λk=>ns.getD k jdV) (by rw[d];omega)
 refine⟨a,?_⟩
 unfold Wx
 rw[d]at c
 omega
theorem Vr{m:Int}(h0:0<=m)(h:m<=10^9):(jh (jda m)).length<=11:=by
 rw[PySem.ofString_length]
 exact int_text_length_le10 (k:=10) (by decide) (by omega)
theorem Rt{m:Int}(h0:0<=m)(h:m<=10^9):m.natAbs.log2<1920:=by
 by_cases z:m.natAbs=0
 .rw[z];decide
 .exact(Nat.log2_lt z).mpr (jcW (show m.natAbs<2^31 by omega) (je0 (by decide) (by decide)))
theorem lens:(jh " for ").length=5/\(jh " of ").length=4/\(jh "up to ").length=6/\(jh " each").length=5/\(jh "nothing").length=7/\(jh ")").length=1/\(jh "; ").length=2/\(jh "any(").length=4/\(jh "one(").length=4:=by decide
theorem lH{ns:List Str}(h:vU ns){f:Form}(ok:Wf f):(Dk ns f).length<=200:=by
 obtain⟨e,g,i,j,n,_⟩:=lens
 cases f with
 |none=>show(jh "nothing").length<=200;omega
 |only b m=>
  have a:=(Wy h b).2
  have c:=Vr ok.2.2.lo ok.2.2.hi
  show(Wx ns b++jh " for "++jh (jda m)).length<=200
  rw[uy,uy];omega
 |some k l m=>
  have a:=(Wy h k).2
  have c:=Vr ok.2.2.2.2.lo ok.2.2.2.2.hi
  have d:=Vr (m:=((l:Nat):Int)) (by omega) (by have:=ok.2.2.2.1;omega)
  show(jh (jda ((l:Nat):Int))++jh " of "++Wx ns k++jh " for "++jh (jda m)).length<=200
  rw[uy,uy,uy,uy];omega
 |most k l m=>
  have a:=(Wy h k).2
  have c:=Vr ok.2.2.2.2.lo ok.2.2.2.2.hi
  have d:=Vr (m:=((l:Nat):Int)) (by omega) (by have:=ok.2.2.2.1;omega)
  show(jh "up to "++jh (jda ((l:Nat):Int))++jh " of "++Wx ns k++jh " for "++jh (jda m)++jh " each").length<=200
  rw[uy,uy,uy,uy,uy,uy];omega
theorem lW(any:Bool):(wB any).length=4:=by cases any<;>rfl
mutual
theorem text_len{ns:List Str}(h:vU ns):∀t:Tr,rK t->Yj t<=100->(W6 ns t).length+2<=220*Yj t
 |.leaf f,ok,_=>by
  rw[Nq]
  have:=lH h (MJ.mp ok)
  show _<=220*1
  omega
 |.node any ts,ok,few=>by
  have a:1+Z8 ts<=100:=few
  have b:=Gz h ts (Ku (Qw.mp ok)) (by omega)
  obtain⟨_,_,_,_,_,c,d,_⟩:=lens
  rw[W6,uy,uy,lW,c]
  have g:(textL ns ts).length=ts.length:=by rw[KH,rz]
  have e:((textL ns ts).map (·.length)).sum+(textL ns ts).length*(jh "; ").length<=220*Z8 ts:=by rw[d];exact b
  have:=(joinOk_of (sep:=jh "; ") (ts:=textL ns ts) (by omega)).2
  show _<=220*(1+Z8 ts)
  omega
theorem Gz{ns:List Str}(h:vU ns):∀ts:List Tr,(∀t∈ts,rK t)->Z8 ts<=100->((textL ns ts).map (·.length)).sum+(textL ns ts).length*2<=220*Z8 ts
 |[],_,_=>by rw[textL];exact jcY _
 |t::ts,ok,few=>by
  have c:Yj t+Z8 ts<=100:=few
  have a:=text_len h t (ok t (U7 ..)) (by omega)
  have b:=Gz h ts (λu d=>ok u (jcx _ d)) (by omega)
  rw[textL,jdy,jiD,jc7,jgS]
  show _<=220*(Yj t+Z8 ts)
  omega
end
theorem KJ{ns:List Str}(h:vU ns){ts:List Tr}(ok:∀t∈ts,rK t)(c:Z8 ts<=100):JoinOk (jh "; ") (ts.map (W6 ns))=qm/\(jeZ (jh "; ") (ts.map (W6 ns))).length<=22000:=by
 obtain⟨_,_,_,_,_,g,f,_⟩:=lens
 have d:=Gz h ts ok c
 rw[KH]at d
 have e:((ts.map (W6 ns)).map (·.length)).sum+(ts.map (W6 ns)).length*(jh "; ").length<=22000:=by rw[f];omega
 obtain⟨a,b⟩:=joinOk_of (sep:=jh "; ") (ts:=ts.map (W6 ns)) (by omega)
 exact⟨a,by omega⟩
noncomputable def Sub (x m:Nat):Prop:=x|||(2^m-1)=2^m-1
theorem Sub.jf{x y m:Nat}(h:Sub (x|||y) m):Sub x m/\Sub y m:=by
 unfold Sub at*
 have a:∀i,(x.testBit i=qm->(2^m-1).testBit i=qm)/\(y.testBit i=qm->(2^m-1).testBit i=qm):=λi=>by
  have:=congrArg (λz=>z.testBit i) h
  simp only[jil]at this
  constructor<;>intro z
  .rw[z,jhQ,jhQ]at this;exact this.symm
  .rw[z,ji6,jhQ]at this;exact this.symm
 constructor
 .refine jim λi=>?_
  rw[jil]
  cases e:x.testBit i with
  |false=>rfl
  |true=>rw[(a i).1 e];rfl
 .refine jim λi=>?_
  rw[jil]
  cases e:y.testBit i with
  |false=>rfl
  |true=>rw[(a i).2 e];rfl
theorem Ka:∀m<7,∀b<64,b|||(2^m-1)=2^m-1->∀k∈things b,k<m:=by decide+kernel
theorem Sub.mem{m:Nat}:∀{ts:List Tr},Sub (YQ ts) m->∀t∈ts,Sub (Xw t) m
 |[],_,t,c=>by cases c
 |u::ts,h,t,c=>by
  obtain⟨a,b⟩:=Sub.jf (show Sub (Xw u|||YQ ts) m from h)
  rcases jbK.mp c with rfl|c
  .exact a
  .exact Sub.mem b t c
end L2
namespace L2
open PySem PySem.Spec PyProof.Rows PySem.W Builtin Builtin.Str
section
variable{prog:jcz}{w:jcS}{A:jdc}{E:pL->S6->Prop}{s:S6}{x y:Str}{t u:Tok}{Q:pL->S6->Prop}
theorem zm(x:Str)(a:List Nat)(k:Nat):(ji7 x a k).length=a.length+1:=by
 unfold ji7
 rw[rz,jh4]
 simp
theorem mK(g:(y.length==0)=vh)(j:x.length+2<=qd)
 (h:∀(l:List (Str×Tok))(k:Tok),l.map (·.1)=jd8 x y->l.length<=x.length+2->Q (.ref s.heap.objs.size) {s with heap:=s.heap.push {cls:=.type "list",data:=.seq (jiu l).toArray},toks:=k}):
 jcH (model prog w) A (call (.builtin "str.split") [.str x t,.str y u]) Q E s:=by
 have e:=StrLaws.occ_length_le x y 0 x.length (x.length+1)
 by_cases a:(decide (x.length<y.length)||decide (strKind x<strKind y))=qm
 .refine jgo jf5 (je5 _ _ _) jhh (jg6 _ _) (meets_str_split_cannot_occur x y t u a) ?_
  exact h [(x,t)] s.toks (by unfold jd8;rw[if_pos a];rfl) (by simp)
 have b:=eq_false_of_ne_true a
 by_cases c:(occurrences x y 0 x.length (x.length+1)).isEmpty=qm
 .refine jgo jf5 (je5 _ _ _) jhh (jg6 _ _) (meets_str_split_not_found x y t u b g c) ?_
  exact h [(x,t)] s.toks (by unfold jd8;rw[if_neg a,if_pos c];rfl) (by simp)
 have d:=eq_false_of_ne_true c
 have i:(ji7 x (occurrences x y 0 x.length (x.length+1)) y.length).length<=x.length+2:=by rw[zm];omega
 refine jgo jf5 (je5 _ _ _) jhh (jg6 _ _) (meets_str_split_sep x y t u b g d (by omega) (by omega)) ?_
 show wants Q E _ _
 rw[strsFrom_eq]
 refine h (numbered s.toks _) _ ?_ ?_
 .unfold jd8;rw[if_neg a,if_neg c];exact numbered_texts _ _
 .rw[<-rz (f:=(·.1)),numbered_texts];exact i
end
theorem zM:∀l:List (Str×Tok),Vals ((l.map (·.1)).map V.str) (jiu l)
 |[]=>.nil
 |(x,t)::l=>.cons ⟨t,rfl⟩ (zM l)
section
variable{X:Cx}{o e f:Expr}{apos cpos pos p:Pos}{to te tf:TE}
noncomputable def qu (to d:TE):TE:=λa H Q=>to a H λx b=>∃z,x=.str z/\d a b λy c=>∃q,y=.str q/\Q (.bl (jgf z q)) c
noncomputable def cQ (to d:TE):TE:=λa H Q=>to a H λx b=>∃z,x=.str z/\d a b λy c=>∃q,y=.str q/\Q (.bl (je1 z q)) c
noncomputable def vJ (to e f:TE):TE:=λa H Q=>to a H λx b=>∃z,x=.str z/\e a b λy c=>∃q,y=.str q/\f a c λv d=>∃i,v=.int i/\Q (.bl (jh5 z q i)) d
noncomputable def ie (to d:TE):TE:=λb H Q=>to b H λx c=>∃z,x=.str z/\z.length<=100000/\d b c λy a=>∃q,y=.str q/\(q.length==0)=vh/\∀l,a l=su->Q (.ref l) (upd a l (.lst ((jd8 z q).map V.str)))
theorem oO(n:PE X o to)(l:PE X e te)(m:M1 X o "startswith" apos e cpos):PE X (.Call (.Attribute o "startswith" apos) [e] [] cpos) (qu to te):=by
 intro a s b H Q I h
 refine jeT m.base m.few m.line jeD jgU jgV (XD (n a s b H _ I h) λu A B=>?_)
 obtain⟨x,c,f,v,z,i,p⟩:=B
 subst i
 obtain⟨t,rfl⟩:=v
 refine⟨je5 _ _ _,(λ_ e=>nomatch e),?_⟩
 rw[m.trees]
 refine jdS rfl (jdP (jdF (XD (l a A b c _ f p) λC D⟨y,d,g,w,q,j,r⟩=>jd6 ?_)))
 subst j
 obtain⟨E,rfl⟩:=w
 exact SC.startswith ⟨.bl _,d,g,rfl,r⟩
theorem fL(n:PE X o to)(l:PE X e te)(m:M1 X o "endswith" apos e cpos):PE X (.Call (.Attribute o "endswith" apos) [e] [] cpos) (cQ to te):=by
 intro a s b H Q I h
 refine jeT m.base m.few m.line jeD PySem.F.slot_str_endswith PySem.F.type_str_endswith (XD (n a s b H _ I h) λu A B=>?_)
 obtain⟨x,c,f,v,z,i,p⟩:=B
 subst i
 obtain⟨t,rfl⟩:=v
 refine⟨je5 _ _ _,(λ_ e=>nomatch e),?_⟩
 rw[m.trees]
 refine jdS rfl (jdP (jdF (XD (l a A b c _ f p) λC D⟨y,d,g,w,q,j,r⟩=>jd6 ?_)))
 subst j
 obtain⟨E,rfl⟩:=w
 exact SC.endswith ⟨.bl _,d,g,rfl,r⟩
theorem uV(C:PE X o to)(A:PE X e te)(B:PE X f tf)(m:M2 X o "startswith" apos e f cpos):PE X (.Call (.Attribute o "startswith" apos) [e,f] [] cpos) (vJ to te tf):=by
 intro a s b H Q I h
 refine jeT m.base m.few m.line jeD jgU jgV (XD (C a s b H _ I h) λu M O=>?_)
 obtain⟨x,c,j,K,z,r,D⟩:=O
 subst r
 obtain⟨t,rfl⟩:=K
 refine⟨je5 _ _ _,(λ_ e=>nomatch e),?_⟩
 rw[m.trees]
 refine jdS rfl (jdP (jdF (XD (A a M b c _ j D) λR N⟨y,d,l,L,q,w,E⟩=>
  jdF (XD (B a N b d _ l E) λP S⟨v,g,n,J,i,p,G⟩=>jd6 ?_))))
 subst w p
 obtain⟨T,rfl⟩:=L
 obtain⟨U,rfl⟩:=J
 exact SC.startswith3 ⟨.bl _,g,n,rfl,G⟩
theorem jE(v:PE X o to)(r:PE X e te)(m:M1 X o "split" apos e cpos):PE X (.Call (.Attribute o "split" apos) [e] [] cpos) (ie to te):=by
 intro a s f H Q I h
 refine jeT m.base m.few m.line jeD jf5 PySem.F.type_str_split (XD (v a s f H _ I h) λu E J=>?_)
 obtain⟨x,g,i,C,z,n,M,A⟩:=J
 subst n
 obtain⟨t,rfl⟩:=C
 refine⟨je5 _ _ _,(λ_ e=>nomatch e),?_⟩
 rw[m.trees]
 refine jdS rfl (jdP (jdF (XD (r a E f g _ i A) λN G⟨y,K,b,D,q,p,w,B⟩=>jd6 ?_)))
 subst p
 obtain⟨O,rfl⟩:=D
 refine mK w (by rw[jcD];omega) λl k d L=>?_
 have j:Vals ((jd8 z q).map V.str) (jiu l):=by rw[<-d];exact zM l
 refine⟨.ref G.heap.objs.size,_,b.laid (t':=k) (o:=.lst ((jd8 z q).map V.str)) (λc o e=>U4 _ e) (U6 _) ⟨?_,jiu l,0,j,?_⟩,rfl,B _ (b.hok.fresh (U6 _))⟩
 .have:=congrArg jd7 d
  rw[rz]at this
  rw[rz,<-this,jcD];omega
 .exact jcK _ rfl
theorem T3:Tw X (.type "int") (λxs H Q=>∃n:Int,xs=[.str (jh (jda n))]/\0<=n/\n<10^10/\Q (.int n) H):=by
 intro a s f H xs e Q I r h
 obtain⟨n,rfl,b,c,q⟩:=h
 obtain⟨u,rfl,d⟩:=vals1 r
 obtain⟨t,rfl⟩:=d
 exact KIN.call_num b c ⟨.int n,H,I.tok _,⟨_,rfl⟩,q⟩
end
noncomputable def jaM (l:List Nat):It:=
 ⟨λi _=>i<l.length,λi H v a=>∃p c,v=.ref p/\H p=su/\l[i]?=nC c/\a=upd H p (.tup [.int i,.str (tx [c])]),λi _=>l.length<=i⟩
theorem tQ{P:jcz}{w:jcS}{K:oh}{es:List Expr}{Z:Nat}{pos:Pos}(l:List Nat)(t:Tok)(z g:pA)(B:z≠g):
 Turn P w K (.Tuple es Z pos) (jaM l) [z,g] z (λi h=>i<=l.length/\(∃f,IsEnum h z g i f)/\h.IsStrIter g "str_ascii_iterator" (tx l) t i)where
 mem:=by simp
 obj:=λi h m c p=>by
  obtain⟨_,⟨f,j⟩,⟨o1,R,c1,Q⟩⟩:=m
  simp only[jbK,jdk,or_false]at p
  rcases p with rfl|rfl
  .exact⟨_,j,λv x=>by cases x⟩
  .exact⟨_,R,λv x=>by rw[Q]at x;cases x⟩
 keep:=λi h h' m k=>by
  obtain⟨hi,⟨f,j⟩,⟨o1,R,c1,Q⟩⟩:=m
  exact⟨hi,⟨f,k z (by simp) _ j⟩,⟨o1,k g (by simp) o1 R,c1,Q⟩⟩
 item:=by
  intro X D hw S p i a s O H E I N m y
  subst D hw S
  have y:i<l.length:=y
  obtain⟨_,⟨f,j⟩,M⟩:=m
  have Y:(tx l).cps.size=l.length:=Yo l
  refine wpAny_pyNext_enum_itemD (Draws.strAscii (A:=X.A.in1) (I.ok.hd p) g (tx l) t) j M (by rw[Y];exact y) B (by simpa using B) λux h' n D a1 a2 a3 a4 U=>?_
  obtain⟨c,u,F,rfl⟩:=D
  have T:l[i]?=nC c:=by rw[<-jeM,Wd]at F;exact F
  have aa:∀b∈[z,g],b<s.heap.objs.size:=by
   intro b d
   simp only[jbK,jdk,or_false]at d
   rcases d with rfl|rfl
   .exact jbH j
   .obtain⟨_,e,_⟩:=M;exact jbH e
  have I1:Inv X a O (upd H s.heap.objs.size (.tup [.int i,.str (tx [c])])) {s with heap:=s.heap.push {cls:=.type "tuple",data:=.seq #[.int i n,.str ⟨#[c]⟩ u]},toks:=n+1}:=by
   refine I.laid (λc o e=>U4 _ e) (U6 _) ⟨by show 2<=qd;decide,[.int i n,.str ⟨#[c]⟩ u],.cons ⟨_,rfl⟩ (.cons ⟨_,rfl⟩ .nil),?_⟩
   exact⟨_,jcK _ rfl,rfl,_,rfl⟩
  have J:∀b∈[z,g],upd H s.heap.objs.size (.tup [.int i,.str (tx [c])]) b=su:=λb d=>by
   rw[ZX (jcO (aa b d))];exact(N b d).1
  have G:∀b∈[z,g],G9 X a (upd H s.heap.objs.size (.tup [.int i,.str (tx [c])])) b:=λb d=>⟨J b d,(N b d).2⟩
  have Z:∀b o,b∉[z,g]->(s.heap.push {cls:=.type "tuple",data:=.seq #[.int i n,.str ⟨#[c]⟩ u]}).get? b=nC o->h'.get? b=nC o:=λb o d e=>by
   rcases jgx e with⟨e9,e8⟩|e'
   .subst e9 e8;exact a3
   .exact U b o (λx=>d (by simp[x])) (λx=>d (by simp[x])) e'
  have I2:Inv X a O (upd H s.heap.objs.size (.tup [.int i,.str (tx [c])])) {s with heap:=h',toks:=n+1}:=by
   have z:=Inv.Qi (t':=n+1) I1 Z G
   exact z
  refine⟨_,rfl,jg5 (s:={s with heap:=h',toks:=n+1}) a1 λC L r=>?_⟩
  have I3:Inv X a O (upd H s.heap.objs.size (.tup [.int i,.str (tx [c])])) {s with heap:=C,toks:=n+1}:=by
   have z:=Inv.Qi (h':=C) (t':=n+1) (ch:=[z]) I2 (λb o d e=>r.extBut b o (λq=>d (by simp[q])) e) (λb d=>G b (by simp at d;simp[d]))
   exact z
  refine⟨.ref s.heap.objs.size,_,I3,rfl,⟨_,c,rfl,I.hok.fresh (U6 _),T,rfl⟩,?_,J⟩
  exact⟨y,⟨_,by have:=L;push_cast;exact this⟩,a2.extBut r.extBut (jdh B)⟩
 done:=by
  intro X D hw S p i a s O H E I N m y
  subst D hw S
  have y:l.length<=i:=y
  obtain⟨hi,⟨f,j⟩,M⟩:=m
  have e:i=(tx l).cps.size:=by rw[show(tx l).cps.size=l.length from Yo l];omega
  subst e
  refine wpAny_pyNext_enum_endD (Draws.strAscii (A:=X.A.in1) (I.ok.hd p) g (tx l) t) j M λh' U=>⟨rfl,?_⟩
  exact I.Qi (t':=s.toks) (ch:=[z,g]) (λc o p e=>U c o (λx=>p (by simp[x])) e) N
 self:=λ_ _ _ _ _ m h=>by
  obtain⟨_,⟨f,j⟩,_⟩:=m
  exact jge j h
noncomputable def lY (b:TA):TI:=λd H R=>b d H λc a=>∃l:List Nat,c=[.str (tx l)]/\l.all (·<128)=qm/\R (jaM l) a
theorem jH{X:Cx}{w:List Expr}{D:Nat}{J:Pos}{a:Expr}{r:TA}{p pos:Pos}(y:Gl X "enumerate")(A:X.mg "enumerate"=su)(x:PA X [a] r)(B:noStar a=qm):
 PI X (.Tuple w D J) (.Call (.Name "enumerate" p) [a] [] pos) (lY r):=by
 intro g s L H R I h
 refine Call_ (Pr I y A boot_enumerate (jdH (XD (x pos g s L H _ I h) λN m K=>?_) (by rw[Yi B]) rfl))
 obtain⟨O,v,i,F,E⟩:=K
 obtain⟨l,e,b,q⟩:=E
 subst e
 obtain⟨u,rfl,G⟩:=vals1 F
 obtain⟨t,rfl⟩:=G
 refine call_enumerate_str λM o f C z=>?_
 have j:strIterType (tx l)="str_ascii_iterator":=by
  unfold strIterType
  rw[show(tx l).cps.all (·<128)=qm from by rw[<-jjk,Wd];exact b];rfl
 rw[j]at f
 refine jge o ?_
 refine⟨m.heap.objs.size+1,_,_,_,v,rfl,i.kept (t':=m.toks) z,tQ l t _ _ (Nat.succ_ne_self _),⟨jcY _,⟨_,o⟩,f⟩,λc n=>?_,q⟩
 have d:m.heap.objs.size<=c:=by
  simp only[jbK,jdk,or_false]at n
  rcases n with rfl|rfl
  .exact jdI _
  .exact U6 _
 exact i.pI d (i.hok.fresh d)
theorem pH{l:List Nat}{g:TG}{o:TS}{D:Ends}{a:St}{H:Hp}(b:Nat->St->Hp->Prop)(h0:b 0 a H)
 (w:∀(i:Nat)c p a H,l[i]?=nC c->b i a H->H p=su->g (.ref p) a (upd H p (.tup [.int i,.str (tx [c])])) λf j=>o {D with nx:=b (i+1),ct:=b (i+1),bk:=D.nx} f j)(t:∀a H,b l.length a H->D.nx a H):
 ∃W:Nat->Nat->St->Hp->Prop,(∃m,W 0 m a H)/\∀i m a H,W i m a H->
  ((jaM l).stop i H/\D.nx a H)\/((jaM l).go i H/\∃N:St->Hp->Prop,(∀d H',N d H'->∃n,n<m/\W (i+1) n d H')/\∀x H',(jaM l).yld i H x H'->g x a H' λf j=>o {D with nx:=N,ct:=N,bk:=D.nx} f j):=by
 refine⟨λi m a H=>m=l.length-i/\i<=l.length/\b i a H,⟨l.length,by simp,jcY _,h0⟩,?_⟩
 rintro i m a H ⟨rfl,A,p⟩
 by_cases h:i<l.length
 .refine .inr ⟨h,b (i+1),λd H' z=>⟨l.length-(i+1),by omega,rfl,h,z⟩,λv H' y=>?_⟩
  obtain⟨r,c,rfl,u,q,rfl⟩:=y
  exact w i c r a _ q p u
 .have e:i=l.length:=by omega
  subst e
  exact .inl ⟨U6 _,t a H p⟩
section
variable{X:Cx}{o e f:Expr}{apos cpos pos p:Pos}{to te tf:TE}{t:TA}
theorem V8(f:QE X o to)(c:QE X e te)(a:noStar e=qm:=by rfl)(b:jdz o "startswith" X.env (eval o X.env)=eval o X.env:=by rfl)(d:(apos.endLine==cpos.line)=qm:=by rfl):
 QE X (.Call (.Attribute o "startswith" apos) [e] [] cpos) (qu to te):=⟨L2.oO f.h c.h ⟨b,pF a,d,by rw[Yi a];rfl⟩⟩
theorem Kl(f:QE X o to)(c:QE X e te)(a:noStar e=qm:=by rfl)(b:jdz o "endswith" X.env (eval o X.env)=eval o X.env:=by rfl)(d:(apos.endLine==cpos.line)=qm:=by rfl):
 QE X (.Call (.Attribute o "endswith" apos) [e] [] cpos) (cQ to te):=⟨L2.fL f.h c.h ⟨b,pF a,d,by rw[Yi a];rfl⟩⟩
theorem Ow(f:QE X o to)(c:QE X e te)(a:noStar e=qm:=by rfl)(b:jdz o "split" X.env (eval o X.env)=eval o X.env:=by rfl)(d:(apos.endLine==cpos.line)=qm:=by rfl):
 QE X (.Call (.Attribute o "split" apos) [e] [] cpos) (ie to te):=⟨L2.jE f.h c.h ⟨b,pF a,d,by rw[Yi a];rfl⟩⟩
theorem zV(j:QE X o to)(d:QE X e te)(g:QE X f tf)(b:noStar e=qm:=by rfl)(a:noStar f=qm:=by rfl)(c:jdz o "startswith" X.env (eval o X.env)=eval o X.env:=by rfl)(i:(apos.endLine==cpos.line)=qm:=by rfl):
 QE X (.Call (.Attribute o "startswith" apos) [e,f] [] cpos) (vJ to te tf):=⟨L2.uV j.h d.h g.h ⟨c,yg b a,i,by rw[Yi b,Yi a];rfl⟩⟩
theorem v5{a:List Expr}{g:Nat}{i:Pos}(c:Gl X "enumerate")(d:X.mg "enumerate"=su)(b:QA X [e] t)(f:noStar e=qm:=by rfl):QI X (.Tuple a g i) (.Call (.Name "enumerate" p) [e] [] pos) (lY t):=⟨L2.jH c d b.h f⟩
end
noncomputable def Z2 (sep:List Nat):List (List Nat)->List Nat
 |[]=>[]
 |[x]=>x
 |x::y::r=>x++sep++Z2 sep (y::r)
theorem Pn(sep:List Nat):∀ps:List (List Nat),Str.join (tx sep) (ps.map tx)=tx (Z2 sep ps)
 |[]=>rfl
 |[x]=>rfl
 |x::y::r=>by
  show tx x++tx sep++Str.join (tx sep) ((y::r).map tx)=_
  rw[Pn sep (y::r),Xq,Xq];rfl
theorem rB(sep:List Nat)(ps:List (List Nat)):jeZ (tx sep) (ps.map tx)=tx (Z2 sep ps):=by
 unfold jeZ
 rw[jia,Pn]
theorem Dl{c:Nat}:∀{a a' b b':List Nat},c∉a->c∉a'->a++c::b=a'++c::b'->a=a'/\b=b'
 |[],[],b,b',_,_,e=>⟨rfl,(jdb e).2⟩
 |[],y::a',b,b',_,h',e=>absurd (jdb e).1 (λq=>h' (by rw[q];exact U7 ..))
 |x::a,[],b,b',h,_,e=>absurd (jdb e).1 (λq=>h (by rw[<-q];exact U7 ..))
 |x::a,y::a',b,b',h,h',e=>by
  obtain⟨d,f⟩:=jdb e
  obtain⟨g,i⟩:=Dl (λz=>h (jcx _ z)) (λz=>h' (jcx _ z)) f
  exact⟨by rw[d,g],i⟩
theorem Ay{c:Nat}:∀{ps a:List (List Nat)},ps≠[]->a≠[]->(∀p∈ps,c∉p)->(∀q∈a,c∉q)->Z2 [c] ps=Z2 [c] a->ps=a
 |[],_,h,_,_,_,_=>absurd rfl h
 |_::_,[],_,h,_,_,_=>absurd rfl h
 |[x],[y],_,_,_,_,e=>by rw[show x=y from e]
 |[x],y::z::r,_,_,h,_,e=>by
  have e:x=y++[c]++Z2 [c] (z::r):=e
  exact absurd (show c∈x by rw[e];simp) (h x (U7 ..))
 |x::z::r,[y],_,_,_,h,e=>by
  have e:x++[c]++Z2 [c] (z::r)=y:=e
  exact absurd (show c∈y by rw[<-e];simp) (h y (U7 ..))
 |x::y::r,x'::y'::r',_,_,h,h',e=>by
  have e:x++[c]++Z2 [c] (y::r)=x'++[c]++Z2 [c] (y'::r'):=e
  rw[jdu,jdu]at e
  obtain⟨d,f⟩:=Dl (h x (U7 ..)) (h' x' (U7 ..)) e
  rw[d,Ay (by simp) (by simp) (λp b=>h p (jcx _ b)) (λp b=>h' p (jcx _ b)) f]
theorem vC(x y:Str):jd8 x y≠[]:=by
 unfold jd8
 split
 .simp
 split
 .simp
 .intro e
  have:=zm x (jdw x y 0 x.length (x.length+1)) y.length
  rw[e]at this
  simp at this
theorem vD{c:Nat}{ps:List (List Nat)}(h0:ps≠[])(b:∀p∈ps,c∉p):jd8 (tx (Z2 [c] ps)) (tx [c])=ps.map tx:=by
 have a:jd8 (tx (Z2 [c] ps)) (tx [c])=((jd8 (tx (Z2 [c] ps)) (tx [c])).map λq=>q.cps.toList).map tx:=by
  rw[jdq]
  conv=>lhs;rw[<-jjp (jd8 (tx (Z2 [c] ps)) (tx [c]))]
  exact jfS λq _=>Ha q
 rw[a]
 congr 1
 refine Ay (c:=c) ?_ h0 ?_ b ?_
 .intro e
  exact vC _ _ (jez.mp e)
 .intro p d
  obtain⟨q,f,rfl⟩:=jdT.mp d
  exact jiP (tx (Z2 [c] ps)) c q f
 .refine QM ?_
  rw[<-Pn,<-a]
  exact jiQ _ _
theorem uh(l:List Nat)(i j:Nat):(tx l).cps.extract i j=((l.drop i).take (j-i)).toArray:=by
 simp[tx,List.extract_toArray,List.extract_eq_drop_take]
theorem Bj(l p:List Nat)(i:Nat):ji8 (tx l) (tx p) i=((l.drop i).take p.length==p):=by
 unfold ji8
 rw[uh,Yo,jfe]
 rw[jeb]
 simp[tx]
theorem Ql(l p:List Nat):jgf (tx l) (tx p)=(l.take p.length==p):=by
 unfold jgf
 rw[Bj,Yo,Yo,jfE,ji9]
 rw[jeb]
 simp only[jbE,decide_eq_true_eq,beq_iff_eq]
 refine⟨λh=>h.2,λh=>⟨?_,h⟩⟩
 have:=congrArg jd7 h
 rw[jcB]at this;omega
theorem tO(l p:List Nat)(i:Nat):jh5 (tx l) (tx p) (i:Int)=((l.drop i).take p.length==p&&decide (i+p.length<=l.length)):=by
 have e:fromIndex (tx l).length (i:Int)=i:=by unfold fromIndex;rw[if_neg (by omega)];omega
 unfold jh5
 rw[e,Bj,Yo,Yo,Bool.and_comm]
theorem rm(l p:List Nat):je1 (tx l) (tx p)=(decide (p.length<=l.length)&&((l.drop (l.length-p.length)).take p.length==p)):=by
 unfold je1
 rw[Bj,Yo,Yo,ji9]
theorem Aj(l:List Nat)(c:Nat):je1 (tx (l++[c])) (tx [c])=qm:=by
 rw[rm]
 simp
theorem Um(n d i:Nat):HT.VR n d (nC (i:Int))=min i n:=by
 unfold HT.VR
 simp only[show¬((i:Int)<0)by omega,if_false]
 omega
theorem J1(l:List Nat)(b:Nat)(h:b<=l.length):Vp l (nC (b:Int)) su=l.drop b:=by
 unfold Vp
 rw[Um,jdJ h]
 show(l.drop b).take (l.length-b)=_
 rw[jdp (by rw[jcG];exact U6 _)]
theorem mU(a x:List Nat)(c:Nat)(h:a.length=4):Vp (a++x++[c]) (nC 4) (nC (-1))=x:=by
 have e:(a++x++[c]).length=x.length+5:=by simp[h];omega
 have b:HT.VR (x.length+5) 0 (nC 4)=4:=by unfold HT.VR;simp only[show¬((4:Int)<0)by omega,if_false];omega
 have d:HT.VR (x.length+5) (x.length+5) (nC (-1))=x.length+4:=by unfold HT.VR;simp only[show((-1:Int)<0)by omega,if_true];omega
 unfold Vp
 rw[e,b,d,jdu,<-h,jff,h,Nat.add_sub_cancel,jg7]
noncomputable def quiet:Nat->List Nat->Option Nat
 |w,[]=>nC w
 |w,c::cs=>if c=40 then quiet (w+1) cs else if c=41 then(if w=0 then su else quiet (w-1) cs)else if w=0/\c=59 then su else quiet w cs
theorem Rb:∀(a b:List Nat)(w:Nat),quiet w (a++b)=(quiet w a).bind λv=>quiet v b
 |[],b,w=>rfl
 |c::a,b,w=>by
  show(if c=40 then quiet (w+1) (a++b)else if c=41 then(if w=0 then su else quiet (w-1) (a++b))else if w=0/\c=59 then su else quiet w (a++b))=(if c=40 then quiet (w+1) a else if c=41 then(if w=0 then su else quiet (w-1) a)else if w=0/\c=59 then su else quiet w a).bind _
  split
  .exact Rb a b _
  split
  .split
   .rfl
   .exact Rb a b _
  split
  .rfl
  .exact Rb a b _
theorem Cj:∀(a:List Nat)(w:Nat),(∀c∈a,c≠40/\c≠41/\c≠59)->quiet w a=nC w
 |[],w,_=>rfl
 |c::a,w,h=>by
  obtain⟨b,e,f⟩:=h c (U7 ..)
  show(if c=40 then quiet (w+1) a else if c=41 then(if w=0 then su else quiet (w-1) a)else if w=0/\c=59 then su else quiet w a)=_
  rw[if_neg b,if_neg e,if_neg (λz=>f z.2)]
  exact Cj a w λd g=>h d (jcx _ g)
theorem Lg:∀(a:List Nat)(w v:Nat),quiet w a=nC v->quiet (w+1) a=nC (v+1)
 |[],w,v,h=>by rw[show v=w from(jc8 h).symm];rfl
 |c::a,w,v,h=>by
  have h:(if c=40 then quiet (w+1) a else if c=41 then(if w=0 then su else quiet (w-1) a)else if w=0/\c=59 then su else quiet w a)=nC v:=h
  show(if c=40 then quiet (w+1+1) a else if c=41 then(if w+1=0 then su else quiet (w+1-1) a)else if w+1=0/\c=59 then su else quiet (w+1) a)=_
  by_cases d:c=40
  .rw[if_pos d]at h|-;exact Lg a _ _ h
  rw[if_neg d]at h|-
  by_cases e:c=41
  .rw[if_pos e]at h|-
   by_cases b:w=0
   .rw[if_pos b]at h;cases h
   .rw[if_neg b]at h
    rw[if_neg (by omega)]
    have:=Lg a _ _ h
    rw[show w-1+1=w+1-1 by omega]at this
    exact this
  rw[if_neg e]at h|-
  rw[if_neg (λz=>absurd z.1 (by omega))]
  by_cases b:w=0/\c=59
  .rw[if_pos b]at h;cases h
  .rw[if_neg b]at h
   exact Lg a _ _ h
noncomputable def Piece (x:List Nat):Prop:=quiet 0 x=nC 0
theorem Ck:∀xs:List (List Nat),(∀x∈xs,Piece x)->quiet 1 (Z2 [59,32] xs)=nC 1
 |[],_=>rfl
 |[x],h=>Lg x 0 0 (h x (U7 ..))
 |x::y::r,h=>by
  show quiet 1 (x++[59,32]++Z2 [59,32] (y::r))=_
  rw[Rb,Rb,Lg x 0 0 (h x (U7 ..))]
  exact Ck (y::r) λz a=>h z (jcx _ a)
noncomputable abbrev jbS:=List (List Nat)×Nat×Int
noncomputable def semi (l:List Nat) (i:Nat):Bool:=(l.drop i).take 2==[59,32]&&decide (i+2<=l.length)
noncomputable def VH (l:List Nat) (i c:Nat) (st:jbS):jbS:=
 if c=40 then(st.1,st.2.1,st.2.2+1)else if c=41 then(st.1,st.2.1,st.2.2-1)
 else if st.2.2=0/\semi l i=qm then(st.1++[(l.drop st.2.1).take (i-st.2.1)],i+2,st.2.2)else st
noncomputable def XJ (l:List Nat):Nat->jbS
 |0=>([],0,0)
 |i+1=>VH l i (l.getD i 0) (XJ l i)
theorem Dm(A:List Nat)(c:Nat)(B:List Nat):(A++c::B).getD A.length 0=c:=by
 rw[jbG,jdv (U6 _),Nat.sub_self];rfl
theorem zE{l A B:List Nat}{c:Nat}(e:l=A++c::B)(h:c≠59):semi l A.length=vh:=by
 subst e
 unfold semi
 rw[jff]
 cases B with
 |nil=>simp
 |cons d B=>simp[h]
theorem Cg(l:List Nat)(ps:List (List Nat))(b:Nat):∀(a A B:List Nat)(w v:Nat),l=A++a++B->quiet w a=nC v->XJ l A.length=(ps,b,(w:Int))->XJ l (A.length+a.length)=(ps,b,(v:Int))
 |[],A,B,w,v,_,h,hr=>by rw[show v=w from(jc8 h).symm];exact hr
 |c::a,A,B,w,v,e,h,hr=>by
  have h:(if c=40 then quiet (w+1) a else if c=41 then(if w=0 then su else quiet (w-1) a)else if w=0/\c=59 then su else quiet w a)=nC v:=h
  have m:l=A++c::(a++B):=by rw[e];simp
  have p:l.getD A.length 0=c:=by rw[m];exact Dm _ _ _
  have o:l=(A++[c])++a++B:=by rw[e];simp
  have g:(A++[c]).length=A.length+1:=by simp
  have step:XJ l (A.length+1)=VH l A.length c (ps,b,(w:Int)):=by
   show VH l A.length (l.getD A.length 0) (XJ l A.length)=_
   rw[p,hr]
  have go:∀j:Nat,quiet j a=nC v->VH l A.length c (ps,b,(w:Int))=(ps,b,(j:Int))->XJ l (A.length+(c::a).length)=(ps,b,(v:Int)):=λj t r=>by
   have:=Cg l ps b a (A++[c]) B j v o t (by rw[g,step,r])
   rw[g]at this
   rw[jc7,show A.length+(a.length+1)=A.length+1+a.length by omega];exact this
  by_cases f:c=40
  .rw[if_pos f]at h
   exact go (w+1) h (by unfold VH;rw[if_pos f];simp)
  rw[if_neg f]at h
  by_cases i:c=41
  .rw[if_pos i]at h
   by_cases d:w=0
   .rw[if_pos d]at h;cases h
   .rw[if_neg d]at h
    exact go (w-1) h (by unfold VH;rw[if_neg f,if_pos i];simp;omega)
  rw[if_neg i]at h
  by_cases d:w=0/\c=59
  .rw[if_pos d]at h;cases h
  .rw[if_neg d]at h
   refine go w h ?_
   unfold VH
   rw[if_neg f,if_neg i,if_neg]
   rintro⟨x,n⟩
   have u:w=0:=by have:(w:Int)=0:=x;omega
   rw[zE m (λq=>d ⟨u,q⟩)]at n
   cases n
theorem zr(l:List Nat):∀(xs:List (List Nat))(A:List Nat)(ps:List (List Nat)),xs≠[]->(∀x∈xs,Piece x)->l=A++Z2 [59,32] xs->XJ l A.length=(ps,A.length,0)->∃b,b<=l.length/\(XJ l l.length).2.1=b/\(XJ l l.length).1++[l.drop b]=ps++xs
 |[],_,_,h,_,_,_=>absurd rfl h
 |[x],A,ps,_,h,e,hr=>by
  have e:l=A++x:=e
  have z:=Cg l ps A.length x A [] 0 0 (by rw[e,jdA]) (h x (U7 ..)) hr
  rw[<-O1,<-e]at z
  refine⟨A.length,by rw[e];simp,by rw[z],?_⟩
  rw[z,show l.drop A.length=x by rw[e,jff]]
 |x::y::r,A,ps,_,h,e,hr=>by
  have e:l=A++(x++[59,32]++Z2 [59,32] (y::r)):=e
  have c:l=A++x++(59::32::Z2 [59,32] (y::r)):=by rw[e];simp
  have z:=Cg l ps A.length x A _ 0 0 c (h x (U7 ..)) hr
  have v:semi l (A.length+x.length)=qm:=by
   unfold semi
   rw[c,<-O1,jff];simp;omega
  have j:l.getD (A.length+x.length) 0=59:=by rw[c,<-O1];exact Dm _ _ _
  have f:l=(A++x++[59])++(32::Z2 [59,32] (y::r)):=by rw[c];simp
  have a:(A++x++[59]).length=A.length+x.length+1:=by simp;omega
  have m:l.getD (A.length+x.length+1) 0=32:=by rw[f,<-a];exact Dm _ _ _
  have d:(l.drop A.length).take (A.length+x.length-A.length)=x:=by
   rw[c,jdu,jff,jfe,jg7]
  have p:XJ l (A.length+x.length+1)=(ps++[x],A.length+x.length+2,0):=by
   show VH l (A.length+x.length) (l.getD (A.length+x.length) 0) (XJ l (A.length+x.length))=_
   rw[j,z]
   unfold VH
   rw[if_neg (by decide),if_neg (by decide),if_pos ⟨rfl,v⟩]
   show(ps++[(l.drop A.length).take (A.length+x.length-A.length)],_,_)=_
   rw[d];rfl
  have q:XJ l (A.length+x.length+2)=(ps++[x],A.length+x.length+2,0):=by
   show VH l (A.length+x.length+1) (l.getD (A.length+x.length+1) 0) (XJ l (A.length+x.length+1))=_
   rw[m,p]
   unfold VH
   rw[if_neg (by decide),if_neg (by decide),if_neg]
   rintro⟨_,g⟩
   rw[<-a,zE f (by decide)]at g
   cases g
  have i:l=(A++x++[59,32])++Z2 [59,32] (y::r):=by rw[c];simp
  have aA:(A++x++[59,32]).length=A.length+x.length+2:=by simp;omega
  obtain⟨b,n,t,u⟩:=zr l (y::r) (A++x++[59,32]) (ps++[x]) (by simp) (λz o=>h z (jcx _ o)) i (by rw[aA];exact q)
  exact⟨b,n,t,by rw[u];simp⟩
theorem wX{xs:List (List Nat)}(h0:xs≠[])(h:∀x∈xs,Piece x):(XJ (Z2 [59,32] xs) (Z2 [59,32] xs).length).2.1<=(Z2 [59,32] xs).length/\
 (XJ (Z2 [59,32] xs) (Z2 [59,32] xs).length).1++[(Z2 [59,32] xs).drop (XJ (Z2 [59,32] xs) (Z2 [59,32] xs).length).2.1]=xs:=by
 obtain⟨b,a,e,q⟩:=zr (Z2 [59,32] xs) xs [] [] h0 h rfl rfl
 subst e
 exact⟨a,q⟩
noncomputable abbrev PB:List Nat:=[102,111,114]
noncomputable abbrev tV:List Nat:=[111,102]
noncomputable abbrev bh:List Nat:=[117,112]
noncomputable abbrev bf:List Nat:=[116,111]
noncomputable abbrev G8:List Nat:=[101,97,99,104]
noncomputable abbrev Vk:List Nat:=[110,111,116,104,105,110,103]
noncomputable abbrev nD:List Nat:=[97,110,121,40]
noncomputable abbrev nF:List Nat:=[111,110,101,40]
theorem Ec:jh " for "=tx [32,102,111,114,32]:=rfl
theorem uE:jh " of "=tx [32,111,102,32]:=rfl
theorem kW:jh "up to "=tx [117,112,32,116,111,32]:=rfl
theorem wD:jh " each"=tx [32,101,97,99,104]:=rfl
theorem wF:jh "nothing"=tx Vk:=rfl
theorem Du:jh "+"=tx [43]:=rfl
theorem Dv:jh "; "=tx [59,32]:=rfl
theorem zc:jh ")"=tx [41]:=rfl
noncomputable def WQ (any:Bool):List Nat:=if any=qm then nD else nF
theorem gH(any:Bool):wB any=tx (WQ any):=by cases any<;>rfl
theorem VJ(any:Bool):(WQ any).length=4:=by cases any<;>rfl
noncomputable def Xd (m:Int):List Nat:=(jh (jda m)).cps.toList
theorem T6(m:Int):jh (jda m)=tx (Xd m):=Ha _
theorem Dn:∀m:Nat,1<=m->∃c r,(jdZ 10 m).map jg8=c::r/\c≠48:=by
 intro m
 induction m using Nat.strongRecOn with
 |_ m g=>
  intro f
  by_cases h:m<10
  .rw[jee h]
   have b:∀k<10,1<=k->(je7 k).toNat≠48:=by decide
   exact⟨_,[],rfl,b m h f⟩
  .have a:m %10<10:=jjD m (by decide)
   have t:jdZ 10 (m/10)++jdZ 10 (m %10)=jdZ 10 (10*(m/10)+m %10):=jfr (by decide) (by omega) a
   rw[Nat.div_add_mod]at t
   obtain⟨c,r,e,d⟩:=g (m/10) (by omega) (by omega)
   rw[<-t,jcA,e]
   exact⟨c,_,rfl,d⟩
theorem O7{m:Int}(h0:0<=m)(j:m<10^10):1<=(Xd m).length/\(Xd m).length<=10/\(∀c∈Xd m,48<=c/\c<=57)/\((Xd m).length=1\/¬(Xd m).take 1=[48]):=by
 have i:(Xd m).length<=10:=by
  have:=KT.len_num h0 j
  rw[T6,Yo]at this;exact this
 obtain⟨n,rfl⟩:=jhA h0
 have e:Xd (n:Nat)=(jdZ 10 n).map jg8:=jiE n
 rw[e]at i|-
 refine⟨?_,i,?_,?_⟩
 .rw[rz]
  by_cases h:1<=n
  .obtain⟨c,r,f,_⟩:=Dn n h
   have:=congrArg jd7 f
   rw[rz]at this
   rw[this];simp
  .rw[show n=0 by omega];decide
 .intro c g
  obtain⟨d,l,rfl⟩:=jdT.mp g
  have:=Nat.isDigit_of_mem_toDigits (by decide) (by decide) l
  unfold Char.isDigit at this
  simp only[jbE,decide_eq_true_eq]at this
  obtain⟨a,b⟩:=this
  exact⟨by have:(48:UInt32)<=d.val:=a;exact jhX.mp this,by have:d.val<=(57:UInt32):=b;exact jhX.mp this⟩
 .by_cases h:1<=n
  .obtain⟨c,r,f,g⟩:=Dn n h
   right
   rw[f]
   intro z
   exact g (jdb (show[c]=[48]from z)).1
  .left;rw[show n=0 by omega];decide
theorem rJ{l:Nat}(h:l<10):(Xd (l:Int)).length=1:=by
 have e:Xd (l:Nat)=(jdZ 10 l).map jg8:=jiE l
 rw[e,jee h];rfl
noncomputable def Ew (b:Nat) (a:List Nat):Nat:=a.foldl (λr k=>r|||2^k) b
noncomputable def once:Nat->List Nat->Bool
 |_,[]=>qm
 |b,k::ks=>decide (k<6)&&!decide (b&&&2^k=2^k)&&once (b|||2^k) ks
noncomputable def W8 (n:List Nat):Prop:=1<=n.length/\n.length<=8/\∀c∈n,97<=c/\c<=122
noncomputable def Wm (ns:List (List Nat)) (kd:List Nat->Nat->Prop) (b:Nat) (pl:List Nat):Prop:=
 (∃a:List Nat,a≠[]/\a.length<=6/\(∀j∈a,j<ns.length)/\once 0 a=qm/\Ew 0 a=b/\pl=Z2 [43] (a.map λj=>ns.getD j []))\/∃k,kd k b/\W8 k/\pl=61::k
noncomputable def nO (c:Nat):Prop:=43<=c/\c<=122/\c≠59
theorem Qk{sep:List Nat}{c:Nat}:∀{ps:List (List Nat)},c∈Z2 sep ps->(∃p∈ps,c∈p)\/c∈sep
 |[],h=>absurd h (by simp[Z2])
 |[x],h=>.inl ⟨x,U7 ..,h⟩
 |x::y::r,h=>by
  have h:c∈x++sep++Z2 sep (y::r):=h
  rcases jdo.mp h with h|h
  .rcases jdo.mp h with h|h
   .exact .inl ⟨x,U7 ..,h⟩
   .exact .inr h
  .rcases Qk h with⟨p,a,h⟩|h
   .exact .inl ⟨p,jcx _ a,h⟩
   .exact .inr h
theorem Aw{sep:List Nat}{B:Nat}:∀{ps:List (List Nat)},(∀p∈ps,p.length<=B)->ps≠[]->(Z2 sep ps).length+sep.length<=ps.length*(B+sep.length)
 |[],_,h=>absurd rfl h
 |[x],h,_=>by
  have:=h x (U7 ..)
  show x.length+sep.length<=1*(B+sep.length)
  omega
 |x::y::r,h,_=>by
  have a:=h x (U7 ..)
  have b:=Aw (sep:=sep) (ps:=y::r) (λp c=>h p (jcx _ c)) (by simp)
  show(x++sep++Z2 sep (y::r)).length+sep.length<=((y::r).length+1)*(B+sep.length)
  rw[O1,O1,jgS]
  omega
theorem getD_mem{ns:List (List Nat)}{j:Nat}(h:j<ns.length):ns.getD j []∈ns:=by
 rw[jbG,sH h];exact jds h
section
variable{ns:List (List Nat)}{kd:List Nat->Nat->Prop}(hn:∀n∈ns,W8 n)
include hn
theorem Lf{b:Nat}{pl:List Nat}(h:Wm ns kd b pl):(∀c∈pl,nO c)/\1<=pl.length/\pl.length<=53:=by
 rcases h with⟨l,m,n,o,_,_,rfl⟩|⟨k,_,⟨w,x,t⟩,rfl⟩
 .have i:∀p∈l.map (λj=>ns.getD j []),W8 p:=λp d=>by
   obtain⟨j,g,rfl⟩:=jdT.mp d
   exact hn _ (getD_mem (o j g))
  refine⟨λc a=>?_,?_,?_⟩
  .rcases Qk a with⟨p,d,f⟩|a
   .have:=(i p d).2.2 c f
    exact⟨by omega,this.2,by omega⟩
   .rw[jc5.mp a];unfold nO;omega
  .cases l with
   |nil=>exact absurd rfl m
   |cons j r=>
    have u:=(i _ (U7 ..)).1
    cases r with
    |nil=>exact u
    |cons q r=>
     show 1<=(ns.getD j []++[43]++Z2 [43] ((q::r).map λj=>ns.getD j [])).length
     rw[O1,O1]
     simp only[jc7,jec]
     omega
  .have:=Aw (sep:=[43]) (B:=8) (λp d=>(i p d).2.1) (λz=>m (jez.mp z))
   rw[rz]at this
   have e:l.length*(8+[43].length)<=6*9:=jik 9 n
   have v:([43]:List Nat).length=1:=rfl
   omega
 .refine⟨λc a=>?_,by simp,by simp;omega⟩
  rcases jbK.mp a with rfl|a
  .unfold nO;omega
  .have:=t c a
   exact⟨by omega,this.2,by omega⟩
end
noncomputable def UW (ns:List (List Nat)) (kd:List Nat->Nat->Prop):Form->List (List Nat)->Prop
 |.none,ws=>ws=[Vk]
 |.only b m,ws=>∃pl,Wm ns kd b pl/\ws=[pl,PB,Xd m]
 |.some k l m,ws=>∃pl,Wm ns kd k pl/\ws=[Xd (l:Nat),tV,pl,PB,Xd m]
 |.most k l m,ws=>∃pl,Wm ns kd k pl/\ws=[bh,bf,Xd (l:Nat),tV,pl,PB,Xd m,G8]
noncomputable def YS (ns:List (List Nat)) (kd:List Nat->Nat->Prop):Nat->Tr->List Nat->Prop
 |0,_,_=>False
 |_+1,.leaf f,x=>Wf f/\∃a,UW ns kd f a/\x=Z2 [32] a
 |d+1,.node any ts,x=>∃xs,Xb (λy t=>YS ns kd d t y) xs ts/\x=WQ any++Z2 [59,32] xs++[41]
theorem Qa{w:List Nat}(h:w.all λc=>decide (43<=c)&&decide (c<=122)&&!decide (c=59)):∀c∈w,nO c:=λc a=>by
 have:=jcV.mp h c a
 simp at this
 exact⟨this.1.1,this.1.2,this.2⟩
theorem Ik{m:Int}(h0:0<=m)(a:m<10^10):∀c∈Xd m,nO c:=λc b=>by
 have:=(O7 h0 a).2.2.1 c b
 exact⟨by omega,by omega,by omega⟩
theorem Kf{ns:List (List Nat)}{kd:List Nat->Nat->Prop}(hn:∀n∈ns,W8 n){f:Form}{g:List (List Nat)}(ok:Wf f)(h:UW ns kd f g):(∀w∈g,∀c∈w,nO c)/\(Z2 [32] g).length<=84/\g≠[]:=by
 cases f with
 |none=>
  have h:g=[Vk]:=h
  subst h
  refine⟨λw hw=>?_,by decide,by simp⟩
  rw[jc5.mp hw];exact Qa (by decide)
 |only b m=>
  obtain⟨q,e,rfl⟩:=h
  obtain⟨d,i,j⟩:=Lf hn e
  have a:=ok.2.2.lo
  have o:=ok.2.2.hi
  have p:=O7 a (by omega)
  refine⟨λw hw=>?_,?_,by simp⟩
  .simp only[jbK,jdk,or_false]at hw
   rcases hw with rfl|rfl|rfl
   .exact d
   .exact Qa (by decide)
   .exact Ik a (by omega)
  .simp[Z2];omega
 |some k l m=>
  obtain⟨q,e,rfl⟩:=h
  obtain⟨d,i,j⟩:=Lf hn e
  have a:=ok.2.2.2.2.lo
  have o:=ok.2.2.2.2.hi
  have r:=ok.2.2.2.1
  have p:=O7 a (by omega)
  have t:=rJ (l:=l) (by omega)
  refine⟨λw hw=>?_,?_,by simp⟩
  .simp only[jbK,jdk,or_false]at hw
   rcases hw with rfl|rfl|rfl|rfl|rfl
   .exact Ik (by omega) (by omega)
   .exact Qa (by decide)
   .exact d
   .exact Qa (by decide)
   .exact Ik a (by omega)
  .simp[Z2];omega
 |most k l m=>
  obtain⟨q,e,rfl⟩:=h
  obtain⟨d,i,j⟩:=Lf hn e
  have a:=ok.2.2.2.2.lo
  have o:=ok.2.2.2.2.hi
  have r:=ok.2.2.2.1
  have p:=O7 a (by omega)
  have t:=rJ (l:=l) (by omega)
  refine⟨λw hw=>?_,?_,by simp⟩
  .simp only[jbK,jdk,or_false]at hw
   rcases hw with rfl|rfl|rfl|rfl|rfl|rfl|rfl|rfl
   .exact Qa (by decide)
   .exact Qa (by decide)
   .exact Ik (by omega) (by omega)
   .exact Qa (by decide)
   .exact d
   .exact Qa (by decide)
   .exact Ik a (by omega)
   .exact Qa (by decide)
  .simp[Z2];omega
theorem O4{d:List (List Nat)}(h:∀w∈d,∀c∈w,nO c):∀c∈Z2 [32] d,c≠40/\c≠41/\c≠59/\c<128:=λc a=>by
 rcases Qk a with⟨w,hw,b⟩|a
 .have:=h w hw c b
  unfold nO at this;omega
 .rw[jc5.mp a];omega
theorem uC{a:List (List Nat)}(h:∀w∈a,∀c∈w,nO c)(h0:a≠[]):jd8 (tx (Z2 [32] a)) (tx [32])=a.map tx:=
 vD h0 λw hw b=>by have:=h w hw 32 b;unfold nO at this;omega
theorem Jb{xs:List (List Nat)}{ts:List Tr}(h:Xb (λy t=>y.length+2<=86*Yj t) xs ts):(Z2 [59,32] xs).length<=86*Z8 ts:=by
 have d:∀(ts:List Tr)(xs:List (List Nat)),Xb (λy t=>y.length+2<=86*Yj t) xs ts->xs≠[]->(Z2 [59,32] xs).length+2<=86*Z8 ts:=by
  intro ts
  induction ts with
  |nil=>intro xs h c;exact absurd (jdl.mp h.1) c
  |cons t ts g=>
   intro xs h c
   cases xs with
   |nil=>exact absurd rfl c
   |cons x r=>
    have a:=h.2 0 x t rfl rfl
    have j:Xb (λy t=>y.length+2<=86*Yj t) r ts:=⟨jeW h.1,λi y u e f=>h.2 (i+1) y u e f⟩
    show _<=86*(Yj t+Z8 ts)
    cases r with
    |nil=>show x.length+2<=_;omega
    |cons y r=>
     have b:=g _ j (by simp)
     show(x++[59,32]++Z2 [59,32] (y::r)).length+2<=_
     rw[O1,O1]
     simp only[jc7,jec]at b|-
     omega
 cases xs with
 |nil=>exact jcY _
 |cons x r=>have:=d ts _ h (by simp);omega
theorem Ud{ns:List (List Nat)}{kd:List Nat->Nat->Prop}(hn:∀n∈ns,W8 n):∀(d:Nat)(t:Tr)(x:List Nat),YS ns kd d t x->Piece x/\(∀c∈x,c<128)/\x.length+2<=86*Yj t
 |0,_,_,h=>h.elim
 |d+1,.leaf f,x,h=>by
  obtain⟨ok,B,hw,rfl⟩:=h
  obtain⟨a,b,_⟩:=Kf hn ok hw
  have s:=O4 a
  refine⟨Cj _ 0 λc e=>⟨(s c e).1,(s c e).2.1,(s c e).2.2.1⟩,λc e=>(s c e).2.2.2,?_⟩
  show _<=86*1
  omega
 |d+1,.node any ts,x,h=>by
  obtain⟨xs,g,rfl⟩:=h
  have q:∀y∈xs,∃t,YS ns kd d t y:=λy m=>by
   obtain⟨i,o,rfl⟩:=jfT m
   exact⟨_,g.2 i _ _ (sH o) (sH (by rw[<-g.1];exact o))⟩
  have A:∀y∈xs,Piece y:=λy m=>by
   obtain⟨t,l⟩:=q y m
   exact(Ud hn d t y l).1
  have v:∀w,quiet w (WQ any)=nC (w+1):=λw=>by cases any<;>simp[WQ,quiet]
  refine⟨?_,λc e=>?_,?_⟩
  .show quiet 0 (WQ any++Z2 [59,32] xs++[41])=nC 0
   rw[Rb,Rb,v]
   show((quiet 1 (Z2 [59,32] xs)).bind _)=_
   rw[Ck xs A];rfl
  .rcases jdo.mp e with e|e
   .rcases jdo.mp e with e|e
    .have:∀(b:Bool),∀c∈WQ b,c<128:=by decide
     exact this any c e
    .rcases Qk e with⟨p,z,j⟩|e
     .obtain⟨t,l⟩:=q p z
      exact(Ud hn d t p l).2.1 c j
     .simp only[jbK,jdk,or_false]at e;omega
   .rw[jc5.mp e];omega
  .have:=Jb (xs:=xs) (ts:=ts) ⟨g.1,λi y t r u=>(Ud hn d t y (g.2 i y t r u)).2.2⟩
   rw[O1,O1,VJ]
   show _<=86*(1+Z8 ts)
   simp only[jc7,jec]
   omega
theorem Bk{ns:List (List Nat)}{kd:List Nat->Nat->Prop}(hn:∀n∈ns,W8 n){d:Nat}{t:Tr}{x:List Nat}(h:YS ns kd d t x)(a:Yj t<=24):x.length<=2000:=by
 cases d with
 |zero=>exact h.elim
 |succ d=>
  cases t with
  |leaf f=>
   have:=(Ud hn _ _ _ h).2.2
   have e:Yj (.leaf f)=1:=rfl
   rw[e]at this;omega
  |node any ts=>
   obtain⟨xs,b,rfl⟩:=h
   have a:1+Z8 ts<=24:=a
   have:=Jb (xs:=xs) (ts:=ts) ⟨b.1,λi y t c g=>(Ud hn d t y (b.2 i y t c g)).2.2⟩
   rw[O1,O1,VJ]
   simp only[jc7,jec]
   omega
theorem wW:∀b<64,once 0 (things b)=qm/\Ew 0 (things b)=b/\(1<=b->things b≠[]):=by decide+kernel
section
variable{ns:List (List Nat)}{kd:List Nat->Nat->Prop}
theorem Le{b:Nat}(g:1<=b)(i:b<=63)(l:ns.length<=6)(h:Sub b ns.length):∃pl,Wx (ns.map tx) b=tx pl/\Wm ns kd b pl:=by
 obtain⟨d,e,f⟩:=wW b (by omega)
 have a:∀j∈things b,j<ns.length:=Ka ns.length (by omega) b (by omega) h
 refine⟨_,?_,.inl ⟨things b,f g,Nt b,a,d,e,rfl⟩⟩
 unfold Wx
 rw[Du,<-rB,jdq]
 congr 1
 refine jfS λj c=>?_
 show(ns.map tx).getD j jdV=tx (ns.getD j [])
 rw[jbG,jcF,sH (a j c),jbG,sH (a j c)];rfl
theorem uo{f:Form}(ok:Wf f)(d:ns.length<=6)(g:Sub (Us f) ns.length):∃h,UW ns kd f h/\Dk (ns.map tx) f=tx (Z2 [32] h):=by
 cases f with
 |none=>exact⟨_,rfl,rfl⟩
 |only b m=>
  obtain⟨c,e,a⟩:=Le (kd:=kd) ok.1 ok.2.1 d g
  refine⟨_,⟨c,a,rfl⟩,?_⟩
  show Wx (ns.map tx) b++jh " for "++jh (jda m)=_
  rw[e,Ec,T6,Xq,Xq]
  congr 1
  simp[Z2]
 |some k l m=>
  obtain⟨c,e,a⟩:=Le (kd:=kd) ok.1 ok.2.1 d g
  refine⟨_,⟨c,a,rfl⟩,?_⟩
  show jh (jda ((l:Nat):Int))++jh " of "++Wx (ns.map tx) k++jh " for "++jh (jda m)=_
  rw[e,Ec,uE,T6,T6,Xq,Xq,Xq,Xq]
  congr 1
  simp[Z2]
 |most k l m=>
  obtain⟨c,e,a⟩:=Le (kd:=kd) ok.1 ok.2.1 d g
  refine⟨_,⟨c,a,rfl⟩,?_⟩
  show jh "up to "++jh (jda ((l:Nat):Int))++jh " of "++Wx (ns.map tx) k++jh " for "++jh (jda m)++jh " each"=_
  rw[e,Ec,uE,kW,wD,T6,T6,Xq,Xq,Xq,Xq,Xq,Xq]
  congr 1
  simp[Z2]
theorem GP{e b:Type}{R:e->b->Prop}:∀(ys:List b),(∀y∈ys,∃x,R x y)->∃xs,Xb R xs ys
 |[],_=>⟨[],Xb.nil⟩
 |y::ys,h=>by
  obtain⟨x,c⟩:=h y (U7 ..)
  obtain⟨xs,a⟩:=GP ys λz d=>h z (jcx _ d)
  exact⟨[x]++xs,(Xb.one c).append a⟩
theorem text_canon(m:ns.length<=6):∀(d:Nat)(t:Tr),Xa t<=d->rK t->Sub (Xw t) ns.length->∃x,YS ns kd d t x/\W6 (ns.map tx) t=tx x
 |0,t,h,_,_=>absurd (Hu t) (by omega)
 |d+1,.leaf f,_,ok,a=>by
  obtain⟨o,b,c⟩:=uo (kd:=kd) (MJ.mp ok) m a
  exact⟨_,⟨MJ.mp ok,o,b,rfl⟩,by rw[Nq];exact c⟩
 |d+1,.node any ts,h,ok,a=>by
  have h:1+Yr ts<=d+1:=h
  have a:Sub (YQ ts) ns.length:=a
  have l:=Ku (Qw.mp ok)
  obtain⟨n,j⟩:=GP (R:=λy t=>YS ns kd d t y/\W6 (ns.map tx) t=tx y) ts λt g=>by
   have:=Tn g
   exact text_canon m d t (by omega) (l t g) (a.mem t g)
  refine⟨_,⟨n,j.imp λ_ _ _ z=>z.1,rfl⟩,?_⟩
  have e:ts.map (W6 (ns.map tx))=n.map tx:=by
   refine List.ext_getElem (by rw[rz,rz,j.1]) λi b c=>?_
   rw[rz]at b c
   rw[List.getElem_map,List.getElem_map]
   exact(j.2 i _ _ (sH c) (sH b)).2
  rw[Nr,e,Dv,rB,gH,zc,Xq,Xq]
end
theorem yW{ns:List (List Nat)}{a:List Nat}(hn:∀n∈ns,W8 n)(h0:a≠[])(d:∀j∈a,j<ns.length):jgf (tx (Z2 [43] (a.map λj=>ns.getD j []))) (tx [61])=vh:=by
 rw[Ql,jfy]
 intro z
 have z:=beq_iff_eq.mp z
 have e:61∈Z2 [43] (a.map λj=>ns.getD j []):=jd1 (by rw[z];exact U7 ..)
 rcases Qk e with⟨p,f,b⟩|b
 .obtain⟨j,c,rfl⟩:=jdT.mp f
  have:=(hn _ (getD_mem (d j c))).2.2 61 b
  omega
 .exact absurd (jc5.mp b) (by decide)
theorem wZ{ns:List (List Nat)}{a:List Nat}(hn:∀n∈ns,W8 n)(h0:a≠[])(d:∀j∈a,j<ns.length):jd8 (tx (Z2 [43] (a.map λj=>ns.getD j []))) (tx [43])=(a.map λj=>ns.getD j []).map tx:=
 vD (λz=>h0 (jez.mp z)) λp e c=>by
  obtain⟨j,b,rfl⟩:=jdT.mp e
  have:=(hn _ (getD_mem (d j b))).2.2 43 c
  omega
end L2
set_option maxHeartbeats 4000000
namespace My
open PySem PySem.Spec PyProof.Rows L2 GM
theorem jbZ{T:Type}{P:List T->Prop}{us:List T}(h:us.length=0)(f:P []):P us:=by cases us with|nil=>exact f|cons a us=>cases h
theorem ja3{T:Type}{P:List T->Prop}{us:List T}(h:us.length=1)(f:∀a,P [a]):P us:=by cases us with|nil=>cases h|cons a us=>exact jbZ (P:=λl=>P (a::l)) (jeW h) (f a)
theorem ja4{T:Type}{P:List T->Prop}{us:List T}(h:us.length=2)(f:∀a b,P [a,b]):P us:=by cases us with|nil=>cases h|cons a us=>exact ja3 (P:=λl=>P (a::l)) (jeW h) (f a)
theorem ja5{T:Type}{P:List T->Prop}{us:List T}(h:us.length=3)(f:∀a b c,P [a,b,c]):P us:=by cases us with|nil=>cases h|cons a us=>exact ja4 (P:=λl=>P (a::l)) (jeW h) (f a)
theorem jb0{T:Type}{P:List T->Prop}{us:List T}(h:us.length=4)(f:∀a b c d,P [a,b,c,d]):P us:=by cases us with|nil=>cases h|cons a us=>exact ja5 (P:=λl=>P (a::l)) (jeW h) (f a)
theorem RV{K:oh}{x b:Str}{st:jde}{f:pA}{m:jaF}{j:Str}(F:Xl K x b st f m)(h:∀(kV d i:pL)(e:Option pA)(c g:pL)(a:pL),jfC (jdx x b (Wa st) (Xi st) (ZJ st) .none kV d i e c g) ⟨[a],[]⟩=pure ([j].zip [a])):Binds K m [j] []:=
 F.binds λkV d i e c g l n=>ja3 (P:=λl=>jfC (jdx x b (Wa st) (Xi st) (ZJ st) .none kV d i e c g) ⟨l,[]⟩=pure ([j].zip l)) n (h kV d i e c g)
theorem VF{K:oh}{x c:Str}{st:jde}{f:pA}{o:jaF}{l m:Str}(F:Xl K x c st f o)(h:∀(kV e j:pL)(g:Option pA)(d i:pL)(a b:pL),jfC (jdx x c (Wa st) (Xi st) (ZJ st) .none kV e j g d i) ⟨[a,b],[]⟩=pure ([l,m].zip [a,b])):Binds K o [l,m] []:=
 F.binds λkV e j g d i n p=>ja4 (P:=λn=>jfC (jdx x c (Wa st) (Xi st) (ZJ st) .none kV e j g d i) ⟨n,[]⟩=pure ([l,m].zip n)) p (h kV e j g d i)
theorem Bq{K:oh}{x d:Str}{st:jde}{f:pA}{q:jaF}{m n o:Str}(F:Xl K x d st f q)(h:∀(kV g l:pL)(i:Option pA)(e j:pL)(a b c:pL),jfC (jdx x d (Wa st) (Xi st) (ZJ st) .none kV g l i e j) ⟨[a,b,c],[]⟩=pure ([m,n,o].zip [a,b,c])):Binds K q [m,n,o] []:=
 F.binds λkV g l i e j p r=>ja5 (P:=λp=>jfC (jdx x d (Wa st) (Xi st) (ZJ st) .none kV g l i e j) ⟨p,[]⟩=pure ([m,n,o].zip p)) r (h kV g l i e j)
theorem zZ{K:oh}{x e:Str}{st:jde}{f:pA}{t:jaF}{n o p q:Str}(F:Xl K x e st f t)(h:∀(kV i m:pL)(j:Option pA)(g l:pL)(a b c d:pL),jfC (jdx x e (Wa st) (Xi st) (ZJ st) .none kV i m j g l) ⟨[a,b,c,d],[]⟩=pure ([n,o,p,q].zip [a,b,c,d])):Binds K t [n,o,p,q] []:=
 F.binds λkV i m j g l r u=>jb0 (P:=λr=>jfC (jdx x e (Wa st) (Xi st) (ZJ st) .none kV i m j g l) ⟨r,[]⟩=pure ([n,o,p,q].zip r)) u (h kV i m j g l)
noncomputable def top (i:Nat):Stmt:=PySem.Challenge.pw_gavelhall_k35_odd_texts.main.body.getD i (.Pass ⟨0,0,0,0⟩)
noncomputable abbrev Ng:jde:=top 14
noncomputable abbrev Pu:jde:=top 15
noncomputable abbrev Rx:jde:=top 17
noncomputable abbrev Ry:jde:=top 18
noncomputable abbrev Gq:jde:=top 19
noncomputable abbrev Rg:jde:=top 28
noncomputable abbrev V4:jde:=top 29
noncomputable abbrev Up:jde:=top 30
noncomputable abbrev Sg:jde:=top 31
noncomputable abbrev V9:jde:=top 32
noncomputable abbrev Ub:jde:=top 33
noncomputable abbrev U8:jde:=top 34
noncomputable abbrev Ua:jde:=top 35
noncomputable abbrev Qg:jde:=top 37
noncomputable abbrev Sd:jde:=top 38
noncomputable abbrev UL:jde:=top 39
noncomputable abbrev JG:jde:=top 40
noncomputable abbrev Vw:jde:=top 41
noncomputable abbrev Qf:jde:=top 42
noncomputable abbrev Vi:jde:=top 43
noncomputable abbrev U5:jde:=top 44
noncomputable abbrev Sh:jde:=top 45
noncomputable abbrev Pa:jde:=top 47
noncomputable abbrev Cq:jde:=top 50
noncomputable abbrev Cw:jde:=top 51
noncomputable abbrev KC:jde:=top 52
noncomputable abbrev Kz:jde:=top 53
noncomputable abbrev JC:jde:=top 54
noncomputable abbrev Cu:jde:=top 55
noncomputable abbrev Ln:jde:=top 56
noncomputable abbrev KD:jde:=top 57
noncomputable abbrev Lr:jde:=top 58
noncomputable abbrev Cr:jde:=top 59
noncomputable abbrev JD:jde:=top 60
noncomputable abbrev Lp:jde:=top 61
noncomputable abbrev Nf:jde:=top 62
noncomputable abbrev Nb:jde:=top 63
noncomputable abbrev Lk:jde:=top 64
noncomputable abbrev JF:jde:=top 65
noncomputable abbrev Ip:jde:=top 66
noncomputable abbrev Ob:jde:=top 67
noncomputable abbrev yN:jde:=top 68
noncomputable abbrev yO:jde:=top 69
noncomputable abbrev Q9:jde:=top 70
noncomputable abbrev Lq:jde:=top 71
noncomputable abbrev Cv:jde:=top 72
noncomputable abbrev K5:jde:=top 73
noncomputable abbrev Ru:jde:=(X8 (top 21)).getD 1 (.Pass ⟨0,0,0,0⟩)
noncomputable abbrev Rv:jde:=(X8 (top 21)).getD 2 (.Pass ⟨0,0,0,0⟩)
noncomputable abbrev Rw:jde:=(X8 (top 21)).getD 4 (.Pass ⟨0,0,0,0⟩)
noncomputable abbrev VV:jde:=(X8 (top 22)).getD 0 (.Pass ⟨0,0,0,0⟩)
noncomputable abbrev T8:jde:=(X8 (top 22)).getD 3 (.Pass ⟨0,0,0,0⟩)
noncomputable abbrev Vb:jde:=(X8 (top 23)).getD 0 (.Pass ⟨0,0,0,0⟩)
noncomputable abbrev Uo:jde:=(X8 (top 23)).getD 3 (.Pass ⟨0,0,0,0⟩)
noncomputable abbrev V3:jde:=(X8 (top 24)).getD 0 (.Pass ⟨0,0,0,0⟩)
noncomputable abbrev T9:jde:=(X8 (top 24)).getD 3 (.Pass ⟨0,0,0,0⟩)
noncomputable abbrev W0:jde:=(X8 (top 25)).getD 0 (.Pass ⟨0,0,0,0⟩)
noncomputable abbrev V0:jde:=(X8 (top 25)).getD 1 (.Pass ⟨0,0,0,0⟩)
noncomputable abbrev V1:jde:=(X8 (top 25)).getD 2 (.Pass ⟨0,0,0,0⟩)
noncomputable abbrev U0:jde:=(X8 (top 26)).getD 1 (.Pass ⟨0,0,0,0⟩)
noncomputable abbrev U3:jde:=(X8 (top 27)).getD 1 (.Pass ⟨0,0,0,0⟩)
noncomputable abbrev Tj:jde:=(X8 (top 48)).getD 0 (.Pass ⟨0,0,0,0⟩)
noncomputable abbrev Cy:jde:=(X8 (top 48)).getD 1 (.Pass ⟨0,0,0,0⟩)
noncomputable abbrev Fq:jde:=(X8 (top 48)).getD 2 (.Pass ⟨0,0,0,0⟩)
noncomputable abbrev Vc:jde:=(X8 (top 48)).getD 3 (.Pass ⟨0,0,0,0⟩)
noncomputable abbrev V2:jde:=(X8 (top 48)).getD 4 (.Pass ⟨0,0,0,0⟩)
noncomputable abbrev Uv:jde:=(X8 (top 10)).getD 0 (.Pass ⟨0,0,0,0⟩)
theorem BK:Z9 ["thing"] ["thing"] (ZJ Ng):={}
theorem CP:Z9 ["thing","least","most"] ["thing","least","most"] (ZJ Pu):={}
theorem X4:Z9 ["numbers","bundle","number"] ["numbers"] (ZJ Rx):={}
theorem CQ:Z9 ["bundle"] ["bundle"] (ZJ Ry):={}
theorem tK:Z9 ["one","other"] ["one","other"] (ZJ Gq):={}
theorem Ir:Z9 ["bundle"] ["bundle"] (ZJ Rg):={}
theorem QH:Z9 ["number"] ["number"] (ZJ V4):={}
theorem Pg:Z9 ["amount"] ["amount"] (ZJ Up):={}
theorem Tc:Z9 ["bids","bid"] ["bids"] (ZJ Sg):={}
theorem Ft:Z9 ["bids"] ["bids"] (ZJ V9):={}
theorem Fx:Z9 ["bids"] ["bids"] (ZJ Ub):={}
theorem Gs:Z9 ["bundle","names"] ["bundle","names"] (ZJ U8):={}
theorem Fw:Z9 ["bids","names"] ["bids","names"] (ZJ Ua):={}
theorem K7:Z9 ["text","stock"] ["text","stock"] (ZJ Qg):={}
theorem K6:Z9 ["text","stock","level"] ["text","stock","level"] (ZJ Sd):={}
theorem Lw:Z9 ["inner","stock","level"] ["inner","stock","level"] (ZJ UL):={}
theorem W2:Z9 ["inner","pieces","begin","within","place","sign"] ["inner"] (ZJ JG):={}
theorem R7:Z9 ["words","stock"] ["words","stock"] (ZJ Vw):={}
theorem BJ:Z9 ["words","form"] ["words","form"] (ZJ Qf):={}
theorem NQ:Z9 ["place","stock"] ["place","stock"] (ZJ Vi):={}
theorem Od:Z9 ["word"] ["word"] (ZJ U5):={}
theorem Fv:Z9 ["word"] ["word"] (ZJ Sh):={}
theorem yP:Z9 ["thing"] ["thing"] (ZJ Pa):={}
theorem o5:Z9 ["_law_script","_law_k"] ["_law_script","_law_k"] (ZJ Cq):={}
theorem Rh:Z9 ["_law_cell_here","_law_size","_law_letters_here","_law_word_here","_law_k","_law_at"] ["_law_cell_here","_law_size"] (ZJ Cw):={}
theorem Wh:Z9 ["_law_script","_law_many","_law_way","_law_cell_here","_law_base","_law_found","_law_some","_law_size","_law_at","_law_k","_law_letter"] ["_law_script","_law_many"] (ZJ KC):={}
theorem Cz:Z9 ["_law_script","_law_names_here","_law_pool"] ["_law_script","_law_names_here"] (ZJ Kz):={}
theorem G4:Z9 ["_law_cell_here","_law_way"] ["_law_cell_here"] (ZJ JC):={}
theorem zA:Z9 ["_law_cell_here","_law_other","_law_last","_law_word_here"] ["_law_cell_here","_law_other","_law_last"] (ZJ Cu):={}
theorem Wq:Z9 ["_law_forms","_law_cell_here","_law_number_here","_law_found","_law_row","_law_k","_law_way"] ["_law_forms","_law_cell_here"] (ZJ Ln):={}
theorem tH:Z9 ["_law_bundle_here","_law_names_here"] ["_law_bundle_here","_law_names_here"] (ZJ KD):={}
theorem Gr:Z9 ["_law_form_here","_law_names_here","_law_place_here"] ["_law_form_here","_law_names_here"] (ZJ Lr):={}
theorem Oc:Z9 ["_law_script","_law_last","_law_cell_here","_law_forms","_law_k"] ["_law_script","_law_last"] (ZJ Cr):={}
theorem Pb:Z9 ["_law_text_here","_law_at","_law_low","_law_high","_law_begin","_law_figures"] ["_law_text_here","_law_at","_law_low","_law_high"] (ZJ JD):={}
theorem Ni:Z9 ["_law_text_here","_law_at","_law_begin"] ["_law_text_here","_law_at"] (ZJ Lp):={}
theorem Vn:Z9 ["_law_text_here","_law_at","_law_names_here","_law_kinds_here","_law_kind","_law_found","_law_name"] ["_law_text_here","_law_at","_law_names_here","_law_kinds_here"] (ZJ Nf):={}
theorem Px:Z9 ["_law_text_here","_law_at","_law_count","_law_names_here","_law_kinds_here","_law_place_here","_law_number_here"] ["_law_text_here","_law_at","_law_count","_law_names_here","_law_kinds_here"] (ZJ Nb):={}
theorem Nh:Z9 ["_law_text_here","_law_at","_law_word_here","_law_names_here","_law_kinds_here","_law_number_here","_law_found"] ["_law_text_here","_law_at","_law_word_here","_law_names_here","_law_kinds_here"] (ZJ Lk):={}
theorem G5:Z9 ["_law_text_here","_law_at","_law_names_here","_law_kinds_here","_law_found"] ["_law_text_here","_law_at","_law_names_here","_law_kinds_here"] (ZJ JF):={}
theorem Wz:Z9 ["_law_text_here","_law_at","_law_deep","_law_names_here","_law_kinds_here","_law_word_here","_law_parts","_law_found"] ["_law_text_here","_law_at","_law_deep","_law_names_here","_law_kinds_here"] (ZJ Ip):={}
theorem CG:Z9 ["_law_form_here"] ["_law_form_here"] (ZJ Ob):={}
theorem vq:Z9 ["_law_text_here","_law_names_here","_law_kinds_here","_law_found"] ["_law_text_here","_law_names_here","_law_kinds_here"] (ZJ yN):={}
theorem Xk:Z9 ["_law_cell_here","_law_a","_law_other","_law_kind","_law_some"] ["_law_cell_here","_law_a","_law_other","_law_kind"] (ZJ yO):={}
theorem Vx:Z9 ["_law_text_here","_law_cell_here","_law_other","_law_sign","_law_at","_law_spots","_law_way","_law_turned"] ["_law_text_here","_law_cell_here","_law_other"] (ZJ Q9):={}
theorem Qh:Z9 ["_law_text_here","_law_stock","e","_law_right"] ["_law_text_here","_law_stock"] (ZJ Lq):={}
theorem zB:Z9 ["_law_text_here","_law_stock","_law_names_here","_law_due_here","_law_found"] ["_law_text_here","_law_stock","_law_names_here","_law_due_here"] (ZJ Cv):={}
theorem R0:Z9 ["_law_script","_law_names_here","_law_kinds_here","_law_stock","_law_form_here","_law_whole","_law_text_here","_law_at","_law_other","_law_due_here","_law_bare"] ["_law_script"] (ZJ K5):={}
theorem CJ:Z9 ["self"] ["self"] (ZJ Ru):={}
theorem CK:Z9 ["self"] ["self"] (ZJ Rv):={}
theorem CN:Z9 ["self","names"] ["self","names"] (ZJ Rw):={}
theorem Qx:Z9 ["self","bundle","amount"] ["self","bundle","amount"] (ZJ VV):={}
theorem RZ:Z9 ["self","names","place","amount"] ["self","names"] (ZJ T8):={}
theorem RP:Z9 ["self","kind","least","amount"] ["self","kind","least","amount"] (ZJ Vb):={}
theorem V5:Z9 ["self","names","place","least","amount"] ["self","names"] (ZJ Uo):={}
theorem QD:Z9 ["self","kind","most","each"] ["self","kind","most","each"] (ZJ V3):={}
theorem U9:Z9 ["self","names","place","most","each"] ["self","names"] (ZJ T9):={}
theorem SQ:Z9 ["self","bids"] ["self","bids"] (ZJ W0):={}
theorem Qy:Z9 ["self"] ["self"] (ZJ V0):={}
theorem Qz:Z9 ["self"] ["self"] (ZJ V1):={}
theorem Ri:Z9 ["self","names","inner"] ["self","names"] (ZJ U0):={}
theorem Rj:Z9 ["self","names","inner"] ["self","names"] (ZJ U3):={}
theorem Wl:Z9 ["self","rows","number","row","name","kind"] ["self","rows"] (ZJ Tj):={}
theorem RQ:Z9 ["self","name"] ["self","name"] (ZJ Vc):={}
theorem QB:Z9 ["self","kind"] ["self","kind"] (ZJ V2):={}
theorem Ls:Z9 ["self","name"] ["self","name"] (ZJ Uv):={}
noncomputable abbrev nv (k:Nat):V:=.int (k:Int)
noncomputable def Np (d:oh):Sp:=λc H Q _=>∃a b:Nat,c=[.int a,.int b]/\Q (.bl (decide (a&&&b=b))) H
noncomputable def LC (d:oh):Sp:=λc H Q _=>∃b:Nat,c=[.int b]/\b<64/\∀l a,Z5 H a->H l=su->a l=nC (.lst ((things b).map nv))->Q (.ref l) a
noncomputable def K8 (K:oh):Sp:=λa H Q _=>∃v n,a=[v]/\Mm K H v n/\Q (.bl (decide (n=Nm.int))) H
noncomputable def X6 (K:oh):Sp:=λc H Q _=>∃v b a,c=[v,.int b,.int a]/\((∃n,Mm K H v n/\n≠.int/\Q (.bl vh) H)\/(∃i,v=.int i/\Q (.bl (decide (b<=i)&&decide (i<=a))) H))
noncomputable def Xp (b:oh):Sp:=λa H Q _=>∃i:Int,a=[.int i]/\1<=i/\i<=63/\Q .non H
noncomputable def WF (b:oh):Sp:=λa H Q _=>∃i:Int,a=[.int i]/\1<=i/\i<=6/\Q .non H
noncomputable def Wc (b:oh):Sp:=λa H Q _=>∃i:Int,a=[.int i]/\0<=i/\i<=10^9/\Q .non H
theorem jbk{n:Nat}(h:n<=6):2^n<=64/\0<2^n:=⟨(je0 (n:=2) (by decide) h:2^n<=2^6),jfs _⟩
noncomputable def VP (ns:List Int) (k:Nat):Int:=if k<ns.length then ns.getD k 0 %10^60 else if ns=[]then 7919*(k:Int)+5 else(ns.getD (k %ns.length) 0 %1000003+613*(k:Int))*(48271+2*(k:Int)) %2147483647
theorem z8(ns:List Int)(k:Nat):0<=VP ns k:=by
 unfold VP
 split
 .exact jd4 _ (by decide)
 .split
  .omega
  .exact jd4 _ (by decide)
noncomputable def Og (K:oh):Sp:=λd H Q _=>∃(a:pA)(c:List Int)(k:Nat),d=[.ref a,.int k]/\Yy K H a (c.map V.int)/\k<=1000/\∀b,Z5 H b->Q (.int (VP c k)) b
noncomputable def Wv (c:Int):Int:=if c %6=0 then 0 else if c %6=1 then 10^9 else if c %6<4 then 1+c/6 %12 else c/6 %(10^9+1)
theorem Fb(c:Int):0<=Wv c:=by
 unfold Wv
 split
 .omega
 .split
  .decide
  .split
   .omega
   .exact jd4 _ (by decide)
theorem xM(c:Int):Wv c<=10^9:=by
 unfold Wv
 split
 .decide
 .split
  .exact jii _
  .split
   .omega
   .have:=jeq (c/6) (show(0:Int)<10^9+1 by decide)
    omega
noncomputable def G6 (b:oh):Sp:=λa H Q _=>∃c,a=[.int c]/\Q (.int (Wv c)) H
theorem dg(f:Str)(y:V):(Sv f y []).length<1000:=by
 have h:=RL f y []
 rw[jec]at h;omega
theorem put2(f g:Str)(y z:V):(Sv g z (Sv f y [])).length<1000:=by
 have h:=RL f y []
 have a:=RL g z (Sv f y [])
 rw[jec]at h;omega
noncomputable abbrev ur (b:Nat) (m:Int):List (Str×V):=[("bundle",nv b),("amount",.int m)]
noncomputable abbrev ut (k l:Nat) (m:Int):List (Str×V):=[("kind",nv k),("least",nv l),("amount",.int m)]
noncomputable abbrev uq (k c:Nat) (m:Int):List (Str×V):=[("kind",nv k),("most",nv c),("each",.int m)]
theorem WL{nos:List Str}{f:Str}(i:Nat)(h:nos[i]?=nC f):f∈nos:=jcE h
noncomputable def Vz (f:oh) (c:pA):Sp:=λe H Q _=>∃(a d:pA)(b:Nat)(m:Int),e=[.ref a,nv b,.int m]/\1<=b/\b<=63/\GD m/\H a=nC (.ins c d [])/\Q .non (upd H a (.ins c d (ur b m)))
noncomputable def W4 (e:oh) (c:pA):Sp:=λd H Q _=>∃(a b:pA)(k l:Nat)(m:Int),d=[.ref a,nv k,nv l,.int m]/\1<=k/\k<=63/\1<=l/\l<=6/\GD m/\H a=nC (.ins c b [])/\Q .non (upd H a (.ins c b (ut k l m)))
noncomputable def VB (e:oh) (c:pA):Sp:=λd H Q _=>∃(a b:pA)(k l:Nat)(m:Int),d=[.ref a,nv k,nv l,.int m]/\1<=k/\k<=63/\1<=l/\l<=6/\GD m/\H a=nC (.ins c b [])/\Q .non (upd H a (.ins c b (uq k l m)))
noncomputable def dN (Zz Zw Zi Zv:pA) (H:Hp) (a:pA):Form->Prop
 |.none=>∃d,H a=nC (.ins Zz d [])
 |.only b m=>∃d,H a=nC (.ins Zw d (ur b m))
 |.some k l m=>∃d,H a=nC (.ins Zi d (ut k l m))
 |.most k c m=>∃d,H a=nC (.ins Zv d (uq k c m))
noncomputable def word:Form->Str
 |.none=>"none"
 |.only _ _=>"only"
 |.some _ _ _=>"some"
 |.most _ _ _=>"most"
noncomputable def Fits:Form->Nat->Nat->Int->Prop
 |.none,_,_,_=>True
 |.only b m,k,_,z=>b=k/\m=z
 |.some b c m,k,l,z=>b=k/\c=l/\m=z
 |.most b c m,k,l,z=>b=k/\c=l/\m=z
noncomputable def vR (H:Hp) (p:pA) (f:Form):Prop:=∃(k l:Nat)(z:Int),H p=nC (.tup [.str (word f),nv k,nv l,.int z])/\k<=63/\Fits f k l z
noncomputable abbrev wk (l:pA):List (Str×V):=[("bids",.ref l)]
noncomputable def WK (any:Bool):Str:=if any=qm then"any" else"one"
noncomputable def XF (Zz Zw Zi Zv Zq Zr:pA) (A:pA->Prop) (H:Hp):Nat->pA->Tr->Prop
 |0,_,_=>False
 |_+1,a,.leaf f=>Wf f/\dN Zz Zw Zi Zv H a f
 |d+1,a,.node any ts=>∃(b l:pA)(bs:List pA),H a=nC (.ins (if any=qm then Zq else Zr) b (wk l))/\A l/\H l=nC (.lst (bs.map V.ref))/\Xb (XF Zz Zw Zi Zv Zq Zr A H d) bs ts
noncomputable def FT (A:pA->Prop) (H:Hp):Nat->pA->Tr->Prop
 |0,_,_=>False
 |_+1,p,.leaf f=>Wf f/\vR H p f
 |d+1,p,.node any ts=>∃(l:pA)(ps:List pA),H p=nC (.tup [.str (WK any),.ref l])/\A l/\H l=nC (.lst (ps.map V.ref))/\Xb (FT A H d) ps ts
section
variable{c1 c2 c3 c4 c5 c6:pA}{A B:pA->Prop}{H H':Hp}
theorem XF.move(c:∀a C b fs,H a=nC (.ins C b fs)->H' a=nC (.ins C b fs))(g:∀l m,A l->H l=nC (.lst m)->B l/\H' l=nC (.lst m)):
 ∀(d:Nat){a:pA}{t:Tr},XF c1 c2 c3 c4 c5 c6 A H d a t->XF c1 c2 c3 c4 c5 c6 B H' d a t
 |0,_,_,h=>h
 |_+1,a,.leaf f,h=>⟨h.1,by cases f<;>obtain⟨b,e⟩:=h.2<;>exact⟨b,c _ _ _ _ e⟩⟩
 |d+1,a,.node any ts,h=>by
  obtain⟨b,l,bs,n,i,j,o⟩:=h
  exact⟨b,l,bs,c _ _ _ _ n,(g l _ i j).1,(g l _ i j).2,o.imp λx y _ z=>XF.move c g d z⟩
theorem XF.same{d:Nat}{a:pA}{t:Tr}(S:Z5 H H')(h:XF c1 c2 c3 c4 c5 c6 A H d a t):XF c1 c2 c3 c4 c5 c6 A H' d a t:=XF.move (λa C c fs e=>S _ _ e) (λl f b e=>⟨b,S _ _ e⟩) d h
theorem XF.put{d:Nat}{a m:pA}{t:Tr}{c:List V}{o:HO}(h:XF c1 c2 c3 c4 c5 c6 A H d a t)(g:H m=nC (.lst c))(f:¬A m):XF c1 c2 c3 c4 c5 c6 A (upd H m o) d a t:=
 XF.move (λa C i fs e=>by rw[ZX (λq=>by rw[q,g]at e;cases e)];exact e) (λl c b e=>⟨b,by rw[ZX (λq=>by subst q;exact f b)];exact e⟩) d h
theorem XF.imp{d:Nat}{a:pA}{t:Tr}(h:XF c1 c2 c3 c4 c5 c6 A H d a t)(f:∀l b,A l->H l=nC (.lst b)->B l):XF c1 c2 c3 c4 c5 c6 B H d a t:=XF.move (λa C g fs e=>e) (λl b c e=>⟨f l b c e,e⟩) d h
theorem XF.to:∀(d e:Nat){a:pA}{t:Tr},XF c1 c2 c3 c4 c5 c6 A H d a t->Xa t<=e->XF c1 c2 c3 c4 c5 c6 A H e a t
 |0,_,_,_,h,_=>h.elim
 |d+1,0,a,t,h,le=>by have:=Hu t;omega
 |d+1,e+1,a,.leaf f,h,le=>h
 |d+1,e+1,a,.node any ts,h,le=>by
  obtain⟨b,l,bs,c,g,i,j⟩:=h
  have n:1+Yr ts<=e+1:=le
  exact⟨b,l,bs,c,g,i,j.imp λx y m z=>XF.to d e z (by have:=Tn m;omega)⟩
theorem FT.move(b:∀a xs,H a=nC (.tup xs)->H' a=nC (.tup xs))(c:∀l j,A l->H l=nC (.lst j)->B l/\H' l=nC (.lst j)):
 ∀(d:Nat){a:pA}{t:Tr},FT A H d a t->FT B H' d a t
 |0,_,_,h=>h
 |_+1,a,.leaf f,h=>⟨h.1,by obtain⟨k,l,z,e,r⟩:=h.2;exact⟨k,l,z,b _ _ e,r⟩⟩
 |d+1,a,.node any ts,h=>by
  obtain⟨l,bs,m,g,i,n⟩:=h
  exact⟨l,bs,b _ _ m,(c l _ g i).1,(c l _ g i).2,n.imp λx y _ z=>FT.move b c d z⟩
theorem FT.same{d:Nat}{a:pA}{t:Tr}(S:Z5 H H')(h:FT A H d a t):FT A H' d a t:=FT.move (λa c e=>S _ _ e) (λl f b e=>⟨b,S _ _ e⟩) d h
theorem FT.put{d:Nat}{a m:pA}{t:Tr}{c:List V}{o:HO}(h:FT A H d a t)(g:H m=nC (.lst c))(f:¬A m):FT A (upd H m o) d a t:=
 FT.move (λa i e=>by rw[ZX (λq=>by rw[q,g]at e;cases e)];exact e) (λl c b e=>⟨b,by rw[ZX (λq=>by subst q;exact f b)];exact e⟩) d h
theorem FT.imp{d:Nat}{a:pA}{t:Tr}(h:FT A H d a t)(f:∀l b,A l->H l=nC (.lst b)->B l):FT B H d a t:=FT.move (λa g e=>e) (λl b c e=>⟨f l b c e,e⟩) d h
theorem FT.to:∀(d e:Nat){a:pA}{t:Tr},FT A H d a t->Xa t<=e->FT A H e a t
 |0,_,_,_,h,_=>h.elim
 |d+1,0,a,t,h,le=>by have:=Hu t;omega
 |d+1,e+1,a,.leaf f,h,le=>h
 |d+1,e+1,a,.node any ts,h,le=>by
  obtain⟨l,bs,b,c,g,i⟩:=h
  have m:1+Yr ts<=e+1:=le
  exact⟨l,bs,b,c,g,i.imp λx y j z=>FT.to d e z (by have:=Tn j;omega)⟩
end
noncomputable def jbu:Sp:=λb H Q _=>∃a:pA,b=[.ref a]/\Q (.int 1) H
noncomputable def vy (val:Tr->Nat) (Zz Zw Zi Zv Zm Zq Zr Zn:pA) (d:Nat):Sp:=λe H Q _=>∃(a:pA)(any:Bool)(b:List Tr)(A:pA->Prop),e=[.ref a]/\XF Zz Zw Zi Zv Zq Zr A H d a (.node any b)/\Z8 b<=900/\∀c,Z5 H c->Q (nv (val (.node any b))) c
noncomputable def Gw (val:List Tr->Nat) (Zz Zw Zi Zv Zm Zq Zr Zn:pA) (d:Nat):Sp:=λc H Q _=>∃(l:pA)(bs:List pA)(a:List Tr)(A:pA->Prop),c=[.ref l]/\H l=nC (.lst (bs.map V.ref))/\Xb (XF Zz Zw Zi Zv Zq Zr A H d) bs a/\Z8 a<=900/\∀b,Z5 H b->Q (nv (1+val a)) b
noncomputable def T1 (val:Tr->Nat) (Zz Zw Zi Zv Zm Zq Zr Zn:pA) (d:Nat):pA->Sp->Prop:=λC a=>((C=Zz\/C=Zw\/C=Zi\/C=Zv)/\a=jbu)\/((C=Zq\/C=Zr)/\a=vy val Zz Zw Zi Zv Zm Zq Zr Zn d)
noncomputable def Be (a:oh) (b:pA):Sp:=jbu
noncomputable def Bf (a:oh) (b:pA):Sp:=jbu
noncomputable def N6 (a:oh) (Zz Zw Zi Zv Zm Zq Zr Zn:pA):Sp:=Gw Yr Zz Zw Zi Zv Zm Zq Zr Zn 4
noncomputable def N8 (a:oh) (Zz Zw Zi Zv Zm Zq Zr Zn:pA):Sp:=Gw Z8 Zz Zw Zi Zv Zm Zq Zr Zn 4
noncomputable def R1 (e:oh) (Zz Zw Zi Zv Zm Zq Zr Zn:pA):Sp:=λc H Q _=>∃(l:pA)(bs:List pA)(a:List Tr)(A:pA->Prop)(d:Nat),c=[.ref l]/\H l=nC (.lst (bs.map V.ref))/\Xb (XF Zz Zw Zi Zv Zq Zr A H d) bs a/\Yr a<=3/\Z8 a<=23/\∀b,Z5 H b->Q .non b
noncomputable def YC (i:oh) (c Zz Zw Zi Zv Zm Zq Zr Zn:pA):Sp:=λh H Q _=>∃(a g l:pA)(bs:List pA)(f:List Tr)(A:pA->Prop)(d:Nat),h=[.ref a,.ref l]/\H a=nC (.ins c g [])/\(c=Zq\/c=Zr)/\H l=nC (.lst (bs.map V.ref))/\Xb (XF Zz Zw Zi Zv Zq Zr A H d) bs f/\Yr f<=3/\Z8 f<=23/\∀b e,Z5 H b->b e=su->Q .non (upd (upd b e (.lst (bs.map V.ref))) a (.ins c g (wk e)))
noncomputable def QK (K:oh):Sp:=λb H Q _=>∃(p:pA)(a:List Nat),b=[.ref p]/\Yy K H p (a.map nv)/\once 0 a=qm/\Q (nv (Ew 0 a)) H
noncomputable def Iw (j:oh):Sp:=λi H Q _=>∃(l:pA)(g:List pA)(a:List Tr)(A:pA->Prop)(d:Nat)(c:Int),i=[.ref l,.int c]/\H l=nC (.lst (g.map V.ref))/\Xb (FT A H d) g a/\a.length<=100/\∀f e h b,Z5 H e->e f=nC (.lst (h.map V.ref))->Xb (FT (λ_=>True) e (d+1)) h b->Yr b<=Yr a+1->b.length<=a.length->Z8 b<=Z8 a+a.length->(∃x,YQ b|||x=YQ a)->Q (.ref f) e
section
variable{P:jcz}{w:jcS}{K:oh}{mg:Str->Option pL}{base:jcX}
variable{Zz Zw Zi Zv Zm Zq Zr Zn:pA}
theorem uR{f:pA}{g:jaF}(F:Xl K "holds" "holds" Gq f g)(d:mg "holds"=nC (.ref f)):Z3 P w K mg base 1 "holds" ["one","other"] [] (Np K):=by
 refine F.Yp d (VF F λ_ _ _ _ _ _ _ _=>rfl) tK (λi H Q E h=>?_) (λe A c s H i Q E j h=>?_)
 .obtain⟨a,b,rfl,_⟩:=h;rfl
 obtain⟨a,b,rfl,q⟩:=h
 refine⟨_,(Zh (ZC (PP Xv (Zg yF (Ze 0) (Ze 1)) (Ze 1) (Yb _)))),?_⟩
 refine⟨_,rfl,_,rfl,a,b,rfl,rfl,_,rfl,rfl,?_⟩
 rw[Dp];exact q
theorem DX{f:pA}{x:jaF}(F:Xl K "things_in" "things_in" Ry f x)(u:mg "things_in"=nC (.ref f))(t:mg "range"=su)
 (r:Z3 P w K mg base 1 "holds" ["one","other"] [] (Np K)):Z3 P w K mg base 2 "things_in" ["bundle"] [] (LC K):=by
 refine F.Yp u (RV F λ_ _ _ _ _ _ _=>rfl) CQ (λB H Q E h=>?_) (λv A d s H B Q E z h=>?_)
 .obtain⟨b,rfl,_⟩:=h;rfl
 obtain⟨b,rfl,n,q⟩:=h
 refine⟨_,(Zh (ZC (XH (ZJ Ry) ["bundle"] ["number"] ["bundle"] [0] rfl rfl rfl ⟨s.heap.objs.size+1,rfl⟩ rfl rfl (by decide+kernel) (Wr rfl t (Za (qG (Ze 0)) Zb)) (λC p g m=>(Ym (i:=0) (show jdM (["number","bundle"]:List Str)from by decide+kernel) rfl (jbI rfl))) (λC p g m=>(JV (Yg (Zx r z (by first|decide|omega) rfl (Za (Ze 1) (Za (Zg Qe Zc (Ze 0)) Zb)))))) (λC p g m=>(Ze 0))))),?_⟩
 have D:=bG n
 refine⟨_,rfl,_,rfl,_,rfl,by omega,by omega,λl o=>?_⟩
 rw[jdD]
 refine T5 (λk=>decide (b&&&2^k=2^k)) nv (by omega) o ?_ ?_ ?_
 .intro k a y e C c
  rw[jeE]
  exact⟨_,rfl,_,rfl,k,rfl,rfl,by omega,b,2^k,rfl,_,rfl,c _ (Z5.refl _)⟩
 .intro k a y _ e C c
  rw[jeE]
  exact⟨_,rfl,c _ (Z5.refl _)⟩
 .intro a e j
  rw[xO,vL b n]at j
  exact q l a e o j
theorem zQ:∀n:Nm,(kh n .int=qm->(!kh n .bl)=decide (n=.int))/\(¬kh n .int=qm->vh=decide (n=.int)):=by intro n;cases n<;>decide
theorem Bw{f:pA}{j:jaF}(F:Xl K "is_whole" "is_whole" Ng f j)(g:mg "is_whole"=nC (.ref f))(b:mg "isinstance"=su)(e:mg "int"=su)(l:mg "bool"=su):Z3 P w K mg base 1 "is_whole" ["thing"] [] (K8 K):=by
 refine F.Yp g (RV F λ_ _ _ _ _ _ _=>rfl) BK (λm H Q E h=>?_) (λi A a s H m Q E o h=>?_)
 .obtain⟨v,n,rfl,_⟩:=h;rfl
 obtain⟨v,n,rfl,d,q⟩:=h
 refine⟨_,(Zh (ZC (PN (RD .int rfl b rfl e (Ze 0)) (RJ (JT (RD .bl rfl b rfl l (Ze 0))))))),?_⟩
 refine⟨_,rfl,v,n,rfl,d,_,rfl,?_⟩
 refine QQ (λc=>?_) (λc=>?_)
 .refine⟨_,rfl,v,n,rfl,d,_,rfl,?_⟩
  rw[(zQ n).1 c];exact q
 .show Q (.bl vh) H
  rw[(zQ n).2 c];exact q
theorem DW{f:pA}{g:jaF}(F:Xl K "is_within" "is_within" Pu f g)(d:mg "is_within"=nC (.ref f))
 (b:Z3 P w K mg base 1 "is_whole" ["thing"] [] (K8 K)):Z3 P w K mg base 2 "is_within" ["thing","least","most"] [] (X6 K):=by
 refine F.Yp d (Bq F λ_ _ _ _ _ _ _ _ _=>rfl) CP (λr H Q E h=>?_) (λe A a s H r Q E o h=>?_)
 .obtain⟨v,p,j,rfl,_⟩:=h;rfl
 obtain⟨v,p,j,rfl,h⟩:=h
 refine⟨_,(Zh (ZC (PN (Zx b o (by first|decide|omega) rfl (Za (Ze 0) Zb)) (RJ (Ji zj zj (Ze 1) (Ze 0) (Ze 2)))))),?_⟩
 rcases h with⟨n,l,m,q⟩|⟨i,rfl,q⟩
 .refine⟨_,rfl,v,n,rfl,l,_,rfl,?_⟩
  rw[decide_eq_false m]
  exact Yn q
 .refine⟨_,rfl,_,.int,rfl,TY.int _,_,rfl,Ys ?_⟩
  refine⟨_,rfl,_,rfl,_,_,rfl,rfl,_,rfl,?_⟩
  refine QQ (λc=>?_) (λc=>?_)
  .refine⟨_,rfl,_,_,rfl,rfl,?_⟩
   rw[c,jea]at q;exact q
  .rw[jfy.mpr c,jeI]at q;exact q
theorem within{lo i a:Int}(b:lo<=i)(c:i<=a):(decide (lo<=i)&&decide (i<=a))=qm:=by rw[decide_eq_true b,decide_eq_true c];rfl
theorem Ij{f:pA}{e:jaF}(F:Xl K "check_bundle" "check_bundle" Rg f e)(c:mg "check_bundle"=nC (.ref f))
 (b:Z3 P w K mg base 2 "is_within" ["thing","least","most"] [] (X6 K)):Z3 P w K mg base 3 "check_bundle" ["bundle"] [] (Xp K):=by
 refine F.Yp c (RV F λ_ _ _ _ _ _ _=>rfl) Ir (λm H Q E h=>?_) (λd A a s H m Q E l h=>?_)
 .obtain⟨i,rfl,_⟩:=h;rfl
 obtain⟨i,rfl,g,j,q⟩:=h
 refine⟨_,(Zh (ZR (YF (Yg (Zx b l (by first|decide|omega) rfl (Za (Ze 0) (Za Zc (Za Zc Zb)))))) (Zh Y6) ZF)),?_⟩
 refine⟨_,rfl,_,1,63,rfl,.inr ⟨_,rfl,_,rfl,?_⟩⟩
 rw[within g j]
 exact Yn q
theorem Jy{f:pA}{e:jaF}(F:Xl K "check_so_many" "check_so_many" V4 f e)(c:mg "check_so_many"=nC (.ref f))
 (b:Z3 P w K mg base 2 "is_within" ["thing","least","most"] [] (X6 K)):Z3 P w K mg base 3 "check_so_many" ["number"] [] (WF K):=by
 refine F.Yp c (RV F λ_ _ _ _ _ _ _=>rfl) QH (λm H Q E h=>?_) (λd A a s H m Q E l h=>?_)
 .obtain⟨i,rfl,_⟩:=h;rfl
 obtain⟨i,rfl,g,j,q⟩:=h
 refine⟨_,(Zh (ZR (YF (Yg (Zx b l (by first|decide|omega) rfl (Za (Ze 0) (Za Zc (Za Zc Zb)))))) (Zh Y6) ZF)),?_⟩
 refine⟨_,rfl,_,1,6,rfl,.inr ⟨_,rfl,_,rfl,?_⟩⟩
 rw[within g j]
 exact Yn q
theorem Ii{f:pA}{e:jaF}(F:Xl K "check_amount" "check_amount" Up f e)(c:mg "check_amount"=nC (.ref f))
 (b:Z3 P w K mg base 2 "is_within" ["thing","least","most"] [] (X6 K)):Z3 P w K mg base 3 "check_amount" ["amount"] [] (Wc K):=by
 refine F.Yp c (RV F λ_ _ _ _ _ _ _=>rfl) Pg (λm H Q E h=>?_) (λd A a s H m Q E l h=>?_)
 .obtain⟨i,rfl,_⟩:=h;rfl
 obtain⟨i,rfl,g,j,q⟩:=h
 refine⟨_,(Zh (ZR (YF (Yg (Zx b l (by first|decide|omega) rfl (Za (Ze 0) (Za Zc (Za (Zg Gf Zc Zc) Zb)))))) (Zh Y6) ZF)),?_⟩
 refine⟨_,rfl,_,_,rfl,rfl,⟨by decide,by decide,by decide⟩,_,0,10^9,rfl,.inr ⟨_,rfl,_,rfl,?_⟩⟩
 rw[within g j]
 exact Yn q
theorem Jt{f:pA}{i:jaF}(F:Xl K "__init__" "Only.__init__" VV f i)
 (o:Z3 P w K mg base 3 "check_bundle" ["bundle"] [] (Xp K))
 (n:Z3 P w K mg base 3 "check_amount" ["amount"] [] (Wc K))
 (t:Own K mg "Bid" Zz [])
 (c:Own K mg "Only" Zw ["bundle","amount"])
 (y:Own K mg "SoMany" Zi ["kind","least","amount"])
 (x:Own K mg "UpTo" Zv ["kind","most","each"])
 (z:Own K mg "Several" Zm ["bids"])
 (u:Own K mg "AnyOf" Zq ["bids"])
 (v:Own K mg "OneOf" Zr ["bids"])
 (B:Own K mg "Stock" Zn ["numbers","kinds"]):We P w K mg base Ol 4 f i ["self","bundle","amount"] (Vz K Zw):=by
 refine F.Eg Qx (λr H Q E h=>?_) (λp A g s H r Q E l h=>?_)
 .obtain⟨a,d,b,m,rfl,_⟩:=h;rfl
 obtain⟨a,d,b,m,rfl,C,D,j,e,q⟩:=h
 refine⟨_,(Zd (Yx (Zx o l (by first|decide|omega) rfl (Za (Ze 1) Zb)))
  (Zd (Yx (Zx n l (by first|decide|omega) rfl (Za (Ze 2) Zb)))
  (Zd (Xj (Ze 0) (Ze 1))
  (Zh (Xj (Ze 0) (Ze 2)))))),?_⟩
 refine⟨_,rfl,(b:Int),rfl,by omega,by omega,?_⟩
 refine⟨_,rfl,m,rfl,j.lo,j.hi,?_⟩
 refine⟨_,rfl,_,rfl,a,Zw,d,[],rfl,e,c.cls,c.no _ (WL 0 rfl),by decide,?_⟩
 refine⟨_,rfl,_,rfl,a,Zw,d,_,rfl,Zj,c.cls,c.no _ (WL 1 rfl),dg _ _,?_⟩
 rw[Hb]
 exact q
theorem M8{f:pA}{i:jaF}(F:Xl K "__init__" "SoMany.__init__" Vb f i)
 (p:Z3 P w K mg base 3 "check_bundle" ["bundle"] [] (Xp K))
 (n:Z3 P w K mg base 3 "check_so_many" ["number"] [] (WF K))
 (o:Z3 P w K mg base 3 "check_amount" ["amount"] [] (Wc K))
 (u:Own K mg "Bid" Zz [])
 (z:Own K mg "Only" Zw ["bundle","amount"])
 (b:Own K mg "SoMany" Zi ["kind","least","amount"])
 (y:Own K mg "UpTo" Zv ["kind","most","each"])
 (B:Own K mg "Several" Zm ["bids"])
 (v:Own K mg "AnyOf" Zq ["bids"])
 (x:Own K mg "OneOf" Zr ["bids"])
 (C:Own K mg "Stock" Zn ["numbers","kinds"]):We P w K mg base Ol 4 f i ["self","kind","least","amount"] (W4 K Zi):=by
 refine F.Eg RP (λt H Q E h=>?_) (λr A g s H t Q E d h=>?_)
 .obtain⟨a,c,k,l,m,rfl,_⟩:=h;rfl
 obtain⟨a,c,k,l,m,rfl,D,G,I,J,j,e,q⟩:=h
 refine⟨_,(Zd (Yx (Zx p d (by first|decide|omega) rfl (Za (Ze 1) Zb)))
  (Zd (Yx (Zx n d (by first|decide|omega) rfl (Za (Ze 2) Zb)))
  (Zd (Yx (Zx o d (by first|decide|omega) rfl (Za (Ze 3) Zb)))
  (Zd (Xj (Ze 0) (Ze 1))
  (Zd (Xj (Ze 0) (Ze 2))
  (Zh (Xj (Ze 0) (Ze 3)))))))),?_⟩
 refine⟨_,rfl,(k:Int),rfl,by omega,by omega,?_⟩
 refine⟨_,rfl,(l:Int),rfl,by omega,by omega,?_⟩
 refine⟨_,rfl,m,rfl,j.lo,j.hi,?_⟩
 refine⟨_,rfl,_,rfl,a,Zi,c,[],rfl,e,b.cls,b.no _ (WL 0 rfl),by decide,?_⟩
 refine⟨_,rfl,_,rfl,a,Zi,c,_,rfl,Zj,b.cls,b.no _ (WL 1 rfl),dg _ _,?_⟩
 refine⟨_,rfl,_,rfl,a,Zi,c,_,rfl,Zj,b.cls,b.no _ (WL 2 rfl),put2 _ _ _ _,?_⟩
 rw[Hb,Hb]
 exact q
theorem Jx{f:pA}{i:jaF}(F:Xl K "__init__" "UpTo.__init__" V3 f i)
 (p:Z3 P w K mg base 3 "check_bundle" ["bundle"] [] (Xp K))
 (n:Z3 P w K mg base 3 "check_so_many" ["number"] [] (WF K))
 (o:Z3 P w K mg base 3 "check_amount" ["amount"] [] (Wc K))
 (u:Own K mg "Bid" Zz [])
 (y:Own K mg "Only" Zw ["bundle","amount"])
 (z:Own K mg "SoMany" Zi ["kind","least","amount"])
 (b:Own K mg "UpTo" Zv ["kind","most","each"])
 (B:Own K mg "Several" Zm ["bids"])
 (v:Own K mg "AnyOf" Zq ["bids"])
 (x:Own K mg "OneOf" Zr ["bids"])
 (C:Own K mg "Stock" Zn ["numbers","kinds"]):We P w K mg base Ol 4 f i ["self","kind","most","each"] (VB K Zv):=by
 refine F.Eg QD (λt H Q E h=>?_) (λr A g s H t Q E d h=>?_)
 .obtain⟨a,c,k,l,m,rfl,_⟩:=h;rfl
 obtain⟨a,c,k,l,m,rfl,D,G,I,J,j,e,q⟩:=h
 refine⟨_,(Zd (Yx (Zx p d (by first|decide|omega) rfl (Za (Ze 1) Zb)))
  (Zd (Yx (Zx n d (by first|decide|omega) rfl (Za (Ze 2) Zb)))
  (Zd (Yx (Zx o d (by first|decide|omega) rfl (Za (Ze 3) Zb)))
  (Zd (Xj (Ze 0) (Ze 1))
  (Zd (Xj (Ze 0) (Ze 2))
  (Zh (Xj (Ze 0) (Ze 3)))))))),?_⟩
 refine⟨_,rfl,(k:Int),rfl,by omega,by omega,?_⟩
 refine⟨_,rfl,(l:Int),rfl,by omega,by omega,?_⟩
 refine⟨_,rfl,m,rfl,j.lo,j.hi,?_⟩
 refine⟨_,rfl,_,rfl,a,Zv,c,[],rfl,e,b.cls,b.no _ (WL 0 rfl),by decide,?_⟩
 refine⟨_,rfl,_,rfl,a,Zv,c,_,rfl,Zj,b.cls,b.no _ (WL 1 rfl),dg _ _,?_⟩
 refine⟨_,rfl,_,rfl,a,Zv,c,_,rfl,Zj,b.cls,b.no _ (WL 2 rfl),put2 _ _ _ _,?_⟩
 rw[Hb,Hb]
 exact q
theorem ou{f:pA}{x:jaF}(F:Xl K "_law_cell" "_law_cell" Cq f x)(t:mg "_law_cell"=nC (.ref f))(o:mg "len"=su):Z3 P w K mg base 1 "_law_cell" ["_law_script","_law_k"] [] (Og K):=by
 refine F.Yp t (VF F λ_ _ _ _ _ _ _ _=>rfl) o5 (λD H Q E h=>?_) (λv A n s H D Q E C h=>?_)
 .obtain⟨a,b,k,rfl,_⟩:=h;rfl
 obtain⟨a,b,k,rfl,m,G,q⟩:=h
 have y:(b.map V.int).length=b.length:=rz _
 refine⟨_,(Zd (ZR (ZK La (Ze 1) (Yw YK rfl o jcN (Za (Ze 0) Zb)) (Yb _)) (Zh (ZC (Zg YZ (Z4 (YH K) (Ze 0) (Ze 1) (λ_ _=>rfl)) (Zg Gf Zc Zc)))) ZF)
  (Zd (ZR (ZK (jk C.Rn) (Ze 0) (ZV Zb) (Yb _)) (Zh (ZC (Zg Yh (Zg Qc Zc (Ze 1)) Zc))) ZF)
  (Zh (ZC (Zg YZ (Zg Qc (Zg Yh (Zg YZ (Z4 (YH K) (Ze 0) (Zg (Fp YZ) (Ze 1) (Yw YK rfl o jcN (Za (Ze 0) Zb))) (λ_ _=>rfl)) Zc) (Zg Qc Zc (Ze 1))) (Zg Yh Zc (Zg Qc Zc (Ze 1)))) Zc))))),?_⟩
 refine⟨_,rfl,_,rfl,a,_,rfl,.inl m,_,_,rfl,rfl,_,rfl,?_⟩
 refine QQ (λc=>?_) (λc=>?_)
 .have u:(k:Int)<(((b.map V.int).length:Nat):Int):=of_decide_eq_true c
  have i:k<b.length:=by omega
  have d:Q (.int (b.getD k 0 %10^60)) H:=by
   have z:=q H (Z5.refl _)
   unfold VP at z;rw[if_pos i]at z;exact z
  refine⟨_,rfl,_,rfl,a,_,_,V.int (b.getD k 0),rfl,rfl,m,Et (by rw[jcF,sH i,jbG,sH i];rfl),?_⟩
  refine⟨_,_,rfl,rfl,⟨by decide,by decide,by decide⟩,_,_,rfl,rfl,?_,d⟩
  show(0:Int)<10^60
  decide
 .have u:¬(k:Int)<(((b.map V.int).length:Nat):Int):=of_decide_eq_false (jfy.mpr c)
  have i:¬k<b.length:=by omega
  refine⟨_,rfl,(by show 0<=qd;decide),λp B=>?_⟩
  have r:=Zk B (.lst [])
  have g:=r.seq m
  refine⟨a,p,b,[],rfl,rfl,g,Yy.of Zj,_,rfl,?_⟩
  have d:=q _ r
  unfold VP at d
  rw[if_neg i]at d
  by_cases e:b=[]
  .rw[if_pos e]at d
   show(if(decide (b=[]):Bool)=qm then _ else _)
   rw[decide_eq_true e]
   exact Ys ⟨_,rfl,_,_,rfl,rfl,Jr (by decide),_,_,rfl,rfl,d⟩
  .rw[if_neg e]at d
   show(if(decide (b=[]):Bool)=qm then _ else _)
   rw[decide_eq_false e]
   refine Yn ?_
   have l:0<b.length:=jix.mpr e
   have j:k %b.length<b.length:=jjD _ l
   refine⟨_,rfl,_,rfl,_,rfl,a,_,rfl,.inl g,_,_,nv (k %b.length),rfl,rfl,(by show(0:Int)<_;omega),?_,a,_,_,V.int (b.getD (k %b.length) 0),rfl,rfl,g,Et (by rw[jcF,sH j,jbG,sH j];rfl),?_⟩
   .show V.int ((k:Int) %(((b.map V.int).length:Nat):Int))=V.int ((k %b.length:Nat):Int)
    rw[y];rfl
   refine⟨_,_,rfl,rfl,(by show(0:Int)<1000003;decide),_,rfl,_,_,rfl,rfl,Jr (by decide),_,_,rfl,rfl,_,rfl,_,_,rfl,rfl,Jr (by decide),_,_,rfl,rfl,_,_,rfl,rfl,Tt (by omega),_,_,rfl,rfl,(by show(0:Int)<2147483647;decide),d⟩
theorem wQ{f:pA}{o:jaF}(F:Xl K "_law_amount" "_law_amount" JC f o)(m:mg "_law_amount"=nC (.ref f)):Z3 P w K mg base 1 "_law_amount" ["_law_cell_here"] [] (G6 K):=by
 refine F.Yp m (RV F λ_ _ _ _ _ _ _=>rfl) G4 (λp H Q E h=>?_) (λn A l s H p Q E r h=>?_)
 .obtain⟨c,rfl,_⟩:=h;rfl
 obtain⟨c,rfl,q⟩:=h
 refine⟨_,(Zd (ZL (i:=1) G4.nd rfl (jbI rfl) (Zg YZ (Ze 0) Zc))
  (Zd (ZR (ZK Xv (Ze 1) Zc (Yb _)) (Zh (ZC Zc)) ZF)
  (Zd (ZR (ZK Xv (Ze 1) Zc (Yb _)) (Zh (ZC (Zg Gf Zc Zc))) ZF)
  (Zd (ZR (ZK La (Ze 1) Zc (Yb _)) (Zh (ZC (Zg Yh Zc (Zg YZ (Zg Va (Ze 0) Zc) Zc)))) ZF)
  (Zh (ZC (Zg YZ (Zg Va (Ze 0) Zc) (Zg Yh (Zg Gf Zc Zc) Zc)))))))),?_⟩
 refine⟨_,rfl,_,_,rfl,rfl,(by show(0:Int)<6;decide),?_⟩
 unfold Wv at q
 refine⟨_,rfl,rfl,_,rfl,?_⟩
 refine QQ (λe=>?_) (λe=>?_)
 .have b:c %6=0:=V.int.inj (of_decide_eq_true e)
  rw[if_pos b]at q;exact q
 have b:¬c %6=0:=λz=>e (decide_eq_true (congrArg V.int z))
 rw[if_neg b]at q
 refine⟨_,rfl,rfl,_,rfl,?_⟩
 refine QQ (λd=>?_) (λd=>?_)
 .have a:c %6=1:=V.int.inj (of_decide_eq_true d)
  rw[if_pos a]at q
  exact⟨_,_,rfl,rfl,⟨by decide,by decide,by decide⟩,q⟩
 have a:¬c %6=1:=λz=>d (decide_eq_true (congrArg V.int z))
 rw[if_neg a]at q
 refine⟨_,rfl,_,_,rfl,rfl,_,rfl,?_⟩
 refine QQ (λg=>?_) (λg=>?_)
 .have j:c %6<4:=of_decide_eq_true g
  rw[if_pos j]at q
  exact⟨_,rfl,_,_,rfl,rfl,⟨by decide,by decide⟩,_,_,rfl,rfl,(by show(0:Int)<12;decide),_,_,rfl,rfl,q⟩
 .have j:¬c %6<4:=of_decide_eq_false (jfy.mpr g)
  rw[if_neg j]at q
  refine⟨_,rfl,_,_,rfl,rfl,⟨by decide,by decide⟩,?_⟩
  exact⟨_,_,rfl,rfl,⟨by decide,by decide,by decide⟩,_,_,rfl,rfl,_,_,rfl,rfl,(by show(0:Int)<10^9+1;decide),q⟩
theorem R9(c:Int)(m:Nat)(e:0<m):∃b:Nat,c %(m:Int)=(b:Int)/\b<m:=by
 have a:=jd4 c (show(m:Int)≠0 by omega)
 have d:=jeq c (show(0:Int)<(m:Int)by omega)
 exact⟨(c %(m:Int)).toNat,by omega,by omega⟩
theorem MN{f:pA}{c:jaF}(F:Xl K "depth" "Bid.depth" Ru f c)
 (g:Own K mg "Bid" Zz [])
 (m:Own K mg "Only" Zw ["bundle","amount"])
 (n:Own K mg "SoMany" Zi ["kind","least","amount"])
 (l:Own K mg "UpTo" Zv ["kind","most","each"])
 (o:Own K mg "Several" Zm ["bids"])
 (i:Own K mg "AnyOf" Zq ["bids"])
 (j:Own K mg "OneOf" Zr ["bids"])
 (p:Own K mg "Stock" Zn ["numbers","kinds"]):We P w K mg base Ol 1 f c ["self"] (Be K Zz):=by
 refine F.Eg CJ (λe H Q E h=>?_) (λd A b s H e Q E r h=>?_)
 .obtain⟨a,rfl,_⟩:=h;rfl
 obtain⟨a,rfl,q⟩:=h
 refine⟨_,(Zh (ZC Zc)),?_⟩
 exact q
theorem MP{f:pA}{c:jaF}(F:Xl K "tally" "Bid.tally" Rv f c)
 (g:Own K mg "Bid" Zz [])
 (m:Own K mg "Only" Zw ["bundle","amount"])
 (n:Own K mg "SoMany" Zi ["kind","least","amount"])
 (l:Own K mg "UpTo" Zv ["kind","most","each"])
 (o:Own K mg "Several" Zm ["bids"])
 (i:Own K mg "AnyOf" Zq ["bids"])
 (j:Own K mg "OneOf" Zr ["bids"])
 (p:Own K mg "Stock" Zn ["numbers","kinds"]):We P w K mg base Ol 1 f c ["self"] (Bf K Zz):=by
 refine F.Eg CK (λe H Q E h=>?_) (λd A b s H e Q E r h=>?_)
 .obtain⟨a,rfl,_⟩:=h;rfl
 obtain⟨a,rfl,q⟩:=h
 refine⟨_,(Zh (ZC Zc)),?_⟩
 exact q
theorem qP(K:oh){Zz Zw Zi Zv Zm Zq Zr Zn:pA}{A:pA->Prop}{H:Hp}{d:Nat}{b:pA}{t:Tr}(c:XF Zz Zw Zi Zv Zq Zr A H d b t)(g:Yj t<=900):
 ∃(C a:pA)(fs:List (Str×V))(sp:Sp),H b=nC (.ins C a fs)/\fs.lookup ("depth":Str)=su/\T1 Xa Zz Zw Zi Zv Zm Zq Zr Zn d C sp/\∀Q:VK,(∀H',Z5 H H'->Q (nv (Xa t)) H')->sp [.ref b] H Q E0:=by
 cases d with
 |zero=>exact c.elim
 |succ d=>
  cases t with
  |leaf f=>
   obtain⟨_,c⟩:=c
   cases f<;>obtain⟨a,e⟩:=c
   .exact⟨_,a,_,_,e,rfl,.inl ⟨.inl rfl,rfl⟩,λQ q=>⟨b,rfl,q H (Z5.refl H)⟩⟩
   .exact⟨_,a,_,_,e,rfl,.inl ⟨.inr (.inl rfl),rfl⟩,λQ q=>⟨b,rfl,q H (Z5.refl H)⟩⟩
   .exact⟨_,a,_,_,e,rfl,.inl ⟨.inr (.inr (.inl rfl)),rfl⟩,λQ q=>⟨b,rfl,q H (Z5.refl H)⟩⟩
   .exact⟨_,a,_,_,e,rfl,.inl ⟨.inr (.inr (.inr rfl)),rfl⟩,λQ q=>⟨b,rfl,q H (Z5.refl H)⟩⟩
  |node any i=>
   have h:=c
   obtain⟨a,l,bs,j,m,n,o⟩:=c
   have yg:Z8 i<=900:=by have:1+Z8 i<=900:=g;omega
   refine⟨_,a,_,_,j,rfl,.inr ⟨?_,rfl⟩,λQ q=>⟨b,any,i,A,rfl,h,yg,q⟩⟩
   cases any
   .exact .inr rfl
   .exact .inl rfl
theorem qQ(K:oh){Zz Zw Zi Zv Zm Zq Zr Zn:pA}{A:pA->Prop}{H:Hp}{d:Nat}{b:pA}{t:Tr}(c:XF Zz Zw Zi Zv Zq Zr A H d b t)(g:Yj t<=900):
 ∃(C a:pA)(fs:List (Str×V))(sp:Sp),H b=nC (.ins C a fs)/\fs.lookup ("tally":Str)=su/\T1 Yj Zz Zw Zi Zv Zm Zq Zr Zn d C sp/\∀Q:VK,(∀H',Z5 H H'->Q (nv (Yj t)) H')->sp [.ref b] H Q E0:=by
 cases d with
 |zero=>exact c.elim
 |succ d=>
  cases t with
  |leaf f=>
   obtain⟨_,c⟩:=c
   cases f<;>obtain⟨a,e⟩:=c
   .exact⟨_,a,_,_,e,rfl,.inl ⟨.inl rfl,rfl⟩,λQ q=>⟨b,rfl,q H (Z5.refl H)⟩⟩
   .exact⟨_,a,_,_,e,rfl,.inl ⟨.inr (.inl rfl),rfl⟩,λQ q=>⟨b,rfl,q H (Z5.refl H)⟩⟩
   .exact⟨_,a,_,_,e,rfl,.inl ⟨.inr (.inr (.inl rfl)),rfl⟩,λQ q=>⟨b,rfl,q H (Z5.refl H)⟩⟩
   .exact⟨_,a,_,_,e,rfl,.inl ⟨.inr (.inr (.inr rfl)),rfl⟩,λQ q=>⟨b,rfl,q H (Z5.refl H)⟩⟩
  |node any i=>
   have h:=c
   obtain⟨a,l,bs,j,m,n,o⟩:=c
   have yg:Z8 i<=900:=by have:1+Z8 i<=900:=g;omega
   refine⟨_,a,_,_,j,rfl,.inr ⟨?_,rfl⟩,λQ q=>⟨b,any,i,A,rfl,h,yg,q⟩⟩
   cases any
   .exact .inr rfl
   .exact .inl rfl
theorem ud{ts:List Tr}{m:Int}(a:BP (ts.map λt=>((Xa t:Nat):Int)) m):m=((Yr ts:Nat):Int):=by
 rw[ue]
 exact ni (λz b=>by obtain⟨t,_,rfl⟩:=jdT.mp b;exact jiH _) a
theorem jbb
 (c:Own K mg "Bid" Zz [])
 (e:Own K mg "Only" Zw ["bundle","amount"])
 (f:Own K mg "SoMany" Zi ["kind","least","amount"])
 (d:Own K mg "UpTo" Zv ["kind","most","each"])
 (g:Own K mg "Several" Zm ["bids"])
 (a:Own K mg "AnyOf" Zq ["bids"])
 (b:Own K mg "OneOf" Zr ["bids"])
 (h:Own K mg "Stock" Zn ["numbers","kinds"])(any:Bool):qC K (if any=qm then Zq else Zr)/\Ou K (if any=qm then Zq else Zr) "bids":=by
 cases any
 .exact⟨b.cls,b.no _ (WL 0 rfl)⟩
 .exact⟨a.cls,a.no _ (WL 0 rfl)⟩
theorem NB(d:Nat){f:pA}{N:jaF}(F:Xl K "depth_over" "depth_over" V9 f N)(I:mg "depth_over"=nC (.ref f))(G:mg "max"=su)
 (Yk:Own K mg "Bid" Zz [])
 (Z7:Own K mg "Only" Zw ["bundle","amount"])
 (ZM:Own K mg "SoMany" Zi ["kind","least","amount"])
 (Z6:Own K mg "UpTo" Zv ["kind","most","each"])
 (ZP:Own K mg "Several" Zm ["bids"])
 (Z0:Own K mg "AnyOf" Zq ["bids"])
 (Z1:Own K mg "OneOf" Zr ["bids"])
 (ZQ:Own K mg "Stock" Zn ["numbers","kinds"])
 (wz:∀C sp,T1 Xa Zz Zw Zi Zv Zm Zq Zr Zn d C sp->∃ps,Ut P w K mg base (2*d+1) C "depth" ps sp):Z3 P w K mg base (2*d+2) "depth_over" ["bids"] [] (Gw Yr Zz Zw Zi Zv Zm Zq Zr Zn d):=by
 refine F.Yp I (RV F λ_ _ _ _ _ _ _=>rfl) Ft (λvs H Q E h=>?_) (λJ A n s H vs Q E Y h=>?_)
 .obtain⟨l,bs,a,A,rfl,_⟩:=h;rfl
 obtain⟨l,bs,a,A,rfl,x,u,O,q⟩:=h
 have tl:=Qm a
 refine⟨_,(Zh (ZC (Zg (Xc Yh) Zc (qJ K rfl rfl G (XH (ZJ V9) ["bids"] ["bid"] [] [] rfl rfl rfl ⟨s.heap.objs.size+1,rfl⟩ rfl rfl (by decide+kernel) (Ws (Ze 0)) (λC B o p=>(Ym (i:=0) (show jdM (["bid"]:List Str)from by decide+kernel) rfl (jbI rfl))) (λC B o p=>Wu) (λC B o p=>(GJ (Ze 0) wz Y (by first|decide|omega)))) Zc)))),?_⟩
 refine⟨_,rfl,l,rfl,⟨_,Yy.of x⟩,λz r=>?_⟩
 refine Uj (xs:=bs.map V.ref) (λk g=>Z5 H g/\g z=nC (.lst (((a.take k).map λt=>((Xa t:Nat):Int)).map V.int))) ⟨Zk r _,Zj⟩ (λk g _⟨s,_⟩=>Yy.of (s _ _ x)) ?_ ?_
 .rintro k v j Z ⟨c,e⟩ K1 K0 k1 k0
  obtain⟨b,t,rfl,hb,y,ib⟩:=u.at Z
  have mt:=Tu (jcE y)
  obtain⟨C,L,R,sp,S,T,U,W⟩:=qP K (Zm:=Zm) (ib.same c) (by omega)
  refine⟨_,rfl,b,C,L,R,sp,rfl,S,T,U,W _ λH3 D=>k1 _ _ _ (D _ _ e) ?_ ⟨(c.trans D).upd r _,?_⟩⟩
  .rw[rz,rz,jcB];exact Xr (by omega)
  .rw[Zj,jdE,y,jcA,jcA];rfl
 .rintro j ⟨c,e⟩
  rw[rz,u.1,jc2]at e
  refine⟨z,_,0,rfl,rfl,Yy.of e,λM=>⟨_,_,nv (1+Yr a),rfl,rfl,?_,q j c⟩,λm X=>⟨_,_,nv (1+Yr a),rfl,rfl,?_,q j c⟩⟩
  .have:a=[]:=jez.mp M
   subst this;rfl
  .rw[ud X];show V.int (1+((Yr a:Nat):Int))=V.int ((1+Yr a:Nat):Int)
   congr 1
theorem Ju(d:Nat){f:pA}{e:jaF}(F:Xl K "depth" "Several.depth" V0 f e)(i:Z3 P w K mg base (2*d+2) "depth_over" ["bids"] [] (Gw Yr Zz Zw Zi Zv Zm Zq Zr Zn d))
 (j:Own K mg "Bid" Zz [])
 (p:Own K mg "Only" Zw ["bundle","amount"])
 (r:Own K mg "SoMany" Zi ["kind","least","amount"])
 (o:Own K mg "UpTo" Zv ["kind","most","each"])
 (t:Own K mg "Several" Zm ["bids"])
 (m:Own K mg "AnyOf" Zq ["bids"])
 (n:Own K mg "OneOf" Zr ["bids"])
 (u:Own K mg "Stock" Zn ["numbers","kinds"]):
 We P w K mg base Ol (2*d+3) f e ["self"] (vy Xa Zz Zw Zi Zv Zm Zq Zr Zn (d+1)):=by
 refine F.Eg Qy (λJ H Q E h=>?_) (λv A c s H J Q E I h=>?_)
 .obtain⟨a,any,g,A,rfl,_⟩:=h;rfl
 obtain⟨a,any,g,A,rfl,C,b,q⟩:=h
 obtain⟨x,l,bs,y,L,z,B⟩:=C
 obtain⟨D,G⟩:=jbb j p r o t m n u any
 refine⟨_,(Zh (ZC (Zx i I (by first|decide|omega) rfl (Za (Y7 K (Ze 0)) Zb)))),?_⟩
 exact⟨_,rfl,a,_,x,_,.ref l,rfl,y,D,G,rfl,l,bs,g,A,rfl,z,B,b,q⟩
theorem Al{b e B:pA}{c f O:jaF}(y:Xl K "depth" "Bid.depth" Ru b c)(q:Xl K "depth" "Several.depth" V0 e f)(G:Xl K "depth_over" "depth_over" V9 B O)(R:mg "depth_over"=nC (.ref B))(F:mg "max"=su)
 (g:Own K mg "Bid" Zz [])
 (m:Own K mg "Only" Zw ["bundle","amount"])
 (n:Own K mg "SoMany" Zi ["kind","least","amount"])
 (l:Own K mg "UpTo" Zv ["kind","most","each"])
 (r:Own K mg "Several" Zm ["bids"])
 (i:Own K mg "AnyOf" Zq ["bids"])
 (j:Own K mg "OneOf" Zr ["bids"])
 (t:Own K mg "Stock" Zn ["numbers","kinds"])
 (M1:Meth K Zz "depth" b)(M2:Meth K Zw "depth" b)(I:Meth K Zi "depth" b)(J:Meth K Zv "depth" b)(L:Meth K Zq "depth" e)(M:Meth K Zr "depth" e):
 ∀d,∀C sp,T1 Xa Zz Zw Zi Zv Zm Zq Zr Zn d C sp->∃ps,Ut P w K mg base (2*d+1) C "depth" ps sp:=by
 have leaf:=MN (P:=P) (w:=w) (base:=base) (mg:=mg) y g m n l r i j t
 have o:Binds K c ["self"] []:=RV y λ_ _ _ _ _ _ _=>rfl
 have z:Binds K f ["self"] []:=RV q λ_ _ _ _ _ _ _=>rfl
 have put:∀d,We P w K mg base Ol (2*d+1) e f ["self"] (vy Xa Zz Zw Zi Zv Zm Zq Zr Zn d)->∀C sp,T1 Xa Zz Zw Zi Zv Zm Zq Zr Zn d C sp->∃ps,Ut P w K mg base (2*d+1) C "depth" ps sp:=by
  intro d D C sp v
  have p:We P w K mg base Ol (2*d+1) b c ["self"] jbu:=leaf.mono (by omega)
  rcases v with⟨u,rfl⟩|⟨u,rfl⟩
  .rcases u with rfl|rfl|rfl|rfl
   .exact⟨_,b,c,p,o,M1,g.cls⟩
   .exact⟨_,b,c,p,o,M2,m.cls⟩
   .exact⟨_,b,c,p,o,I,n.cls⟩
   .exact⟨_,b,c,p,o,J,l.cls⟩
  .rcases u with rfl|rfl
   .exact⟨_,e,f,D,z,L,i.cls⟩
   .exact⟨_,e,f,D,z,M,j.cls⟩
 intro d
 induction d with
 |zero=>
  refine put 0 (q.Eg Qy (λU H Q E h=>?_) (λN A x s H U Q E W h=>?_))
  .obtain⟨a,any,T,A,rfl,_⟩:=h;rfl
  .obtain⟨a,any,T,A,rfl,v,_⟩:=h;exact v.elim
 |succ d S=>exact put (d+1) (Ju d q (NB d G R F g m n l r i j t S) g m n l r i j t)
theorem NP(d:Nat){f:pA}{L:jaF}(F:Xl K "tally_over" "tally_over" Ub f L)(G:mg "tally_over"=nC (.ref f))(D:mg "sum"=su)
 (Yk:Own K mg "Bid" Zz [])
 (Z7:Own K mg "Only" Zw ["bundle","amount"])
 (ZM:Own K mg "SoMany" Zi ["kind","least","amount"])
 (Z6:Own K mg "UpTo" Zv ["kind","most","each"])
 (ZP:Own K mg "Several" Zm ["bids"])
 (Z0:Own K mg "AnyOf" Zq ["bids"])
 (Z1:Own K mg "OneOf" Zr ["bids"])
 (ZQ:Own K mg "Stock" Zn ["numbers","kinds"])
 (wA:∀C sp,T1 Yj Zz Zw Zi Zv Zm Zq Zr Zn d C sp->∃ps,Ut P w K mg base (2*d+1) C "tally" ps sp):Z3 P w K mg base (2*d+2) "tally_over" ["bids"] [] (Gw Z8 Zz Zw Zi Zv Zm Zq Zr Zn d):=by
 refine F.Yp G (RV F λ_ _ _ _ _ _ _=>rfl) Fx (λZ H Q E h=>?_) (λI A j s H Z Q E U h=>?_)
 .obtain⟨l,bs,a,A,rfl,_⟩:=h;rfl
 obtain⟨l,bs,a,A,rfl,u,r,M,q⟩:=h
 have tl:=Qm a
 refine⟨_,(Zh (ZC (Zg (Xc Yh) Zc (Yw (Hr rfl) rfl D (boot_sum) (Za (XH (ZJ Ub) ["bids"] ["bid"] [] [] rfl rfl rfl ⟨s.heap.objs.size+1,rfl⟩ rfl rfl (by decide+kernel) (Ws (Ze 0)) (λC z n o=>(Ym (i:=0) (show jdM (["bid"]:List Str)from by decide+kernel) rfl (jbI rfl))) (λC z n o=>Wu) (λC z n o=>(GJ (Ze 0) wA U (by first|decide|omega)))) Zb))))),?_⟩
 refine⟨_,rfl,l,rfl,⟨_,Yy.of u⟩,λy p=>?_⟩
 refine Uj (xs:=bs.map V.ref) (λk g=>Z5 H g/\g y=nC (.lst (((a.take k).map λt=>((Yj t:Nat):Int)).map V.int))) ⟨Zk p _,Zj⟩ (λk g _⟨s,_⟩=>Yy.of (s _ _ u)) ?_ ?_
 .rintro k v m W ⟨e,c⟩ K1 K0 Y k0
  obtain⟨b,t,rfl,hb,x,X⟩:=r.at W
  have mt:=Tu (jcE x)
  obtain⟨C,J,N,sp,O,R,S,T⟩:=qQ K (Zm:=Zm) (X.same e) (by omega)
  refine⟨_,rfl,b,C,J,N,sp,rfl,O,R,S,T _ λH3 B=>Y _ _ _ (B _ _ c) ?_ ⟨(e.trans B).upd p _,?_⟩⟩
  .rw[rz,rz,jcB];exact Xr (by omega)
  .rw[Zj,jdE,x,jcA,jcA];rfl
 .rintro m ⟨e,c⟩
  rw[rz,r.1,jc2]at c
  refine⟨y,_,rfl,Yy.of c,_,_,nv (1+Z8 a),rfl,rfl,?_,q m e⟩
  rw[<-JL];show V.int (1+((Z8 a:Nat):Int))=V.int ((1+Z8 a:Nat):Int)
  congr 1
theorem Jv(d:Nat){f:pA}{e:jaF}(F:Xl K "tally" "Several.tally" V1 f e)(i:Z3 P w K mg base (2*d+2) "tally_over" ["bids"] [] (Gw Z8 Zz Zw Zi Zv Zm Zq Zr Zn d))
 (j:Own K mg "Bid" Zz [])
 (p:Own K mg "Only" Zw ["bundle","amount"])
 (r:Own K mg "SoMany" Zi ["kind","least","amount"])
 (o:Own K mg "UpTo" Zv ["kind","most","each"])
 (t:Own K mg "Several" Zm ["bids"])
 (m:Own K mg "AnyOf" Zq ["bids"])
 (n:Own K mg "OneOf" Zr ["bids"])
 (u:Own K mg "Stock" Zn ["numbers","kinds"]):
 We P w K mg base Ol (2*d+3) f e ["self"] (vy Yj Zz Zw Zi Zv Zm Zq Zr Zn (d+1)):=by
 refine F.Eg Qz (λJ H Q E h=>?_) (λv A c s H J Q E I h=>?_)
 .obtain⟨a,any,g,A,rfl,_⟩:=h;rfl
 obtain⟨a,any,g,A,rfl,C,b,q⟩:=h
 obtain⟨x,l,bs,y,L,z,B⟩:=C
 obtain⟨D,G⟩:=jbb j p r o t m n u any
 refine⟨_,(Zh (ZC (Zx i I (by first|decide|omega) rfl (Za (Y7 K (Ze 0)) Zb)))),?_⟩
 exact⟨_,rfl,a,_,x,_,.ref l,rfl,y,D,G,rfl,l,bs,g,A,rfl,z,B,b,q⟩
theorem Am{b e B:pA}{c f O:jaF}(y:Xl K "tally" "Bid.tally" Rv b c)(q:Xl K "tally" "Several.tally" V1 e f)(F:Xl K "tally_over" "tally_over" Ub B O)(R:mg "tally_over"=nC (.ref B))(M:mg "sum"=su)
 (g:Own K mg "Bid" Zz [])
 (m:Own K mg "Only" Zw ["bundle","amount"])
 (n:Own K mg "SoMany" Zi ["kind","least","amount"])
 (l:Own K mg "UpTo" Zv ["kind","most","each"])
 (r:Own K mg "Several" Zm ["bids"])
 (i:Own K mg "AnyOf" Zq ["bids"])
 (j:Own K mg "OneOf" Zr ["bids"])
 (t:Own K mg "Stock" Zn ["numbers","kinds"])
 (M1:Meth K Zz "tally" b)(M2:Meth K Zw "tally" b)(G:Meth K Zi "tally" b)(I:Meth K Zv "tally" b)(J:Meth K Zq "tally" e)(L:Meth K Zr "tally" e):
 ∀d,∀C sp,T1 Yj Zz Zw Zi Zv Zm Zq Zr Zn d C sp->∃ps,Ut P w K mg base (2*d+1) C "tally" ps sp:=by
 have leaf:=MP (P:=P) (w:=w) (base:=base) (mg:=mg) y g m n l r i j t
 have o:Binds K c ["self"] []:=RV y λ_ _ _ _ _ _ _=>rfl
 have z:Binds K f ["self"] []:=RV q λ_ _ _ _ _ _ _=>rfl
 have put:∀d,We P w K mg base Ol (2*d+1) e f ["self"] (vy Yj Zz Zw Zi Zv Zm Zq Zr Zn d)->∀C sp,T1 Yj Zz Zw Zi Zv Zm Zq Zr Zn d C sp->∃ps,Ut P w K mg base (2*d+1) C "tally" ps sp:=by
  intro d D C sp v
  have p:We P w K mg base Ol (2*d+1) b c ["self"] jbu:=leaf.mono (by omega)
  rcases v with⟨u,rfl⟩|⟨u,rfl⟩
  .rcases u with rfl|rfl|rfl|rfl
   .exact⟨_,b,c,p,o,M1,g.cls⟩
   .exact⟨_,b,c,p,o,M2,m.cls⟩
   .exact⟨_,b,c,p,o,G,n.cls⟩
   .exact⟨_,b,c,p,o,I,l.cls⟩
  .rcases u with rfl|rfl
   .exact⟨_,e,f,D,z,J,i.cls⟩
   .exact⟨_,e,f,D,z,L,j.cls⟩
 intro d
 induction d with
 |zero=>
  refine put 0 (q.Eg Qz (λU H Q E h=>?_) (λN A x s H U Q E W h=>?_))
  .obtain⟨a,any,T,A,rfl,_⟩:=h;rfl
  .obtain⟨a,any,T,A,rfl,v,_⟩:=h;exact v.elim
 |succ d S=>exact put (d+1) (Jv d q (NP d F R M g m n l r i j t S) g m n l r i j t)
theorem Fl{f:pA}{fd:jaF}(F:Xl K "check_bids" "check_bids" Sg f fd)(ZZ:mg "check_bids"=nC (.ref f))(r:mg "isinstance"=su)(I:mg "list"=su)
 (R:Z3 P w K mg base 10 "depth_over" ["bids"] [] (N6 K Zz Zw Zi Zv Zm Zq Zr Zn))
 (S:Z3 P w K mg base 10 "tally_over" ["bids"] [] (N8 K Zz Zw Zi Zv Zm Zq Zr Zn))
 (u:Own K mg "Bid" Zz [])
 (Z:Own K mg "Only" Zw ["bundle","amount"])
 (ZM:Own K mg "SoMany" Zi ["kind","least","amount"])
 (Y:Own K mg "UpTo" Zv ["kind","most","each"])
 (ZP:Own K mg "Several" Zm ["bids"])
 (U:Own K mg "AnyOf" Zq ["bids"])
 (X:Own K mg "OneOf" Zr ["bids"])
 (ZQ:Own K mg "Stock" Zn ["numbers","kinds"])
 (J:jaE K (.ref Zz) (.ref Zz)=nC qm)
 (L:jaE K (.ref Zw) (.ref Zz)=nC qm)
 (T:jaE K (.ref Zi) (.ref Zz)=nC qm)
 (M:jaE K (.ref Zv) (.ref Zz)=nC qm)
 (WN:jaE K (.ref Zm) (.ref Zz)=nC qm)
 (N:jaE K (.ref Zq) (.ref Zz)=nC qm)
 (O:jaE K (.ref Zr) (.ref Zz)=nC qm)
 (VL:jaE K (.ref Zn) (.ref Zz)=nC vh):Z3 P w K mg base 11 "check_bids" ["bids"] [] (R1 K Zz Zw Zi Zv Zm Zq Zr Zn):=by
 have n:∀{H:Hp}{b:pA}{d:Nat}{A:pA->Prop}{t:Tr},XF Zz Zw Zi Zv Zq Zr A H d b t->∃t,TY K H (.ref b) t/\jaE K t (.ref Zz)=nC qm:=λ{H b d A t}a=>by
  cases d with
  |zero=>exact a.elim
  |succ d=>
   cases t with
   |leaf f=>
    obtain⟨_,a⟩:=a
    cases f<;>obtain⟨dx,e⟩:=a
    .exact⟨_,u.ty e,J⟩
    .exact⟨_,Z.ty e,L⟩
    .exact⟨_,ZM.ty e,T⟩
    .exact⟨_,Y.ty e,M⟩
   |node any ts=>
    obtain⟨dx,l,bs,e,_⟩:=a
    cases any
    .exact⟨_,X.ty e,O⟩
    .exact⟨_,U.ty e,N⟩
 refine F.Yp ZZ (RV F λ_ _ _ _ _ _ _=>rfl) Tc (λvs H Q E h=>?_) (λaa A o s H vs Q E C h=>?_)
 .obtain⟨l,bs,ts,A,d,rfl,_⟩:=h;rfl
 obtain⟨l,bs,ts,A,d,rfl,j,B,hd,G,q⟩:=h
 refine⟨_,(Zd (ZR (YF (Yg (RD .lst rfl r rfl I (Ze 0)))) (Zh Y6) ZF)
  (Zd (Uz jdK rfl (Ws (Ze 0)) (Ym (i:=1) Tc.nd rfl (jbI rfl)) (Zh (ZR (YF (Yg (Jj rfl r rfl u.at_ (Ze 1)))) (Zh Y6) ZF)))
  (Zd (ZR (ZK R6 (Zx R C (by first|decide|omega) rfl (Za (Ze 0) Zb)) Zc (Yb _)) (Zh Y6) ZF)
  (Zh (ZR (ZK R6 (Zx S C (by first|decide|omega) rfl (Za (Ze 0) Zb)) Zc (Yb _)) (Zh Y6) ZF))))),?_⟩
 refine⟨_,rfl,_,.lst,rfl,TY.lst j,_,rfl,Yn ?_⟩
 refine⟨_,rfl,l,rfl,⟨_,Yy.of j⟩,?_⟩
 refine J6 (xs:=bs.map V.ref) (λi m c=>c=H/\∃y,m=[nC (.ref l),y]) ?_ ?_ ?_ ?_
 .exact⟨rfl,_,rfl⟩
 .rintro i m c _ ⟨rfl,_⟩;exact Yy.of j
 .rintro i v m c hv ⟨rfl,y,rfl⟩
  obtain⟨b,t,rfl,a,D,ib⟩:=B.at hv
  obtain⟨t,D,hk⟩:=n ib
  exact⟨_,rfl,_,t,qm,rfl,D,hk,_,rfl,Yn ⟨rfl,_,rfl⟩⟩
 .rintro m c ⟨rfl,y,rfl⟩
  have g:Xb (XF Zz Zw Zi Zv Zq Zr A c 4) bs ts:=B.imp λx y G z=>XF.to d 4 z (by have:=Tn G;omega)
  refine⟨_,rfl,l,bs,ts,A,rfl,j,g,by omega,λH1 p=>⟨_,_,rfl,rfl,_,rfl,?_⟩⟩
  rw[decide_eq_false (show¬(4:Int)<((1+Yr ts:Nat):Int)by omega)]
  refine Yn ?_
  refine⟨_,rfl,l,bs,ts,A,rfl,p _ _ j,g.imp λx y _ z=>z.same p,by omega,λH2 s2=>⟨_,_,rfl,rfl,_,rfl,?_⟩⟩
  rw[decide_eq_false (show¬(24:Int)<((1+Z8 ts:Nat):Int)by omega)]
  exact Yn (q _ (p.trans s2))
theorem Mi(c:pA){f:pA}{n:jaF}(F:Xl K "__init__" "Several.__init__" W0 f n)(x:mg "list"=su)
 (v:Z3 P w K mg base 11 "check_bids" ["bids"] [] (R1 K Zz Zw Zi Zv Zm Zq Zr Zn))
 (M:Own K mg "Bid" Zz [])
 (O:Own K mg "Only" Zw ["bundle","amount"])
 (R:Own K mg "SoMany" Zi ["kind","least","amount"])
 (N:Own K mg "UpTo" Zv ["kind","most","each"])
 (S:Own K mg "Several" Zm ["bids"])
 (i:Own K mg "AnyOf" Zq ["bids"])
 (j:Own K mg "OneOf" Zr ["bids"])
 (T:Own K mg "Stock" Zn ["numbers","kinds"]):We P w K mg base Ol 12 f n ["self","bids"] (YC K c Zz Zw Zi Zv Zm Zq Zr Zn):=by
 refine F.Eg SQ (λL H Q E h=>?_) (λy A g s H L Q E D h=>?_)
 .obtain⟨a,m,l,bs,t,A,d,rfl,_⟩:=h;rfl
 obtain⟨a,m,l,bs,t,A,d,rfl,o,B,r,z,C,G,q⟩:=h
 refine⟨_,(Zd (Yx (Zx v D (by first|decide|omega) rfl (Za (Ze 1) Zb)))
  (Zh (Xj (Ze 0) (Vf OD rfl x (jit) (Za (Ze 1) Zb))))),?_⟩
 obtain⟨I,J⟩:qC K c/\Ou K c "bids":=by
  rcases B with rfl|rfl
  .exact⟨i.cls,i.no _ (WL 0 rfl)⟩
  .exact⟨j.cls,j.no _ (WL 0 rfl)⟩
 refine⟨_,rfl,l,bs,t,A,d,rfl,r,z,C,G,λu b=>?_⟩
 refine⟨_,rfl,l,_,rfl,.inl (Yy.of (b _ _ r)),λlb p=>?_⟩
 have e:a≠lb:=Yd (b _ _ o) p
 exact⟨_,rfl,a,c,m,[],rfl,by rw[ZX e];exact b _ _ o,I,J,by decide,q u lb b p⟩
theorem HF{H:Hp}{x a:pA}{o u:HO}(b:H x=su)(c:H a=su):Z5 H (upd (upd (upd H a (.own x)) x o) x u):=(((Z5.refl H).upd c _).upd b _).upd b _
theorem rF{Zz Zw Zi Zv Zm Zq Zr:pA}{A:pA->Prop}{H H1:Hp}{x f b c:pA}{bs:List pA}{ts:List Tr}{d:Nat}{any:Bool}(j:H x=su)(r:H f=su)(m:Z5 (upd (upd H f (.own x)) x (.ins c f [])) H1)(i:H1 b=su)(p:Xb (XF Zz Zw Zi Zv Zq Zr A H d) bs ts)(q:c=if any=qm then Zq else Zr):
 Z5 H (upd (upd H1 b (.lst (bs.map V.ref))) x (.ins c f (wk b)))/\H b=su/\XF Zz Zw Zi Zv Zq Zr (λl=>A l\/l=b) (upd (upd H1 b (.lst (bs.map V.ref))) x (.ins c f (wk b))) (d+1) x (.node any ts):=by
 have n:Z5 H H1:=(((Z5.refl H).upd r _).upd j _).trans m
 have g:=n.free i
 have S:Z5 H (upd (upd H1 b (.lst (bs.map V.ref))) x (.ins c f (wk b))):=(n.upd g _).upd j _
 have u:b≠x:=λz=>by
  have e:=m _ _ (Zj (H:=upd H f (.own x)) (a:=x) (o:=.ins c f []))
  rw[<-z,i]at e;cases e
 subst q
 exact⟨S,g,f,b,bs,Zj,.inr rfl,by rw[ZX u];exact Zj,p.imp λy t _ z=>(z.same S).imp λl v h _=>.inl h⟩
theorem jaZ{k:Nat}(h:k<6):(decide ((0:Int)<=(k:Int))&&decide ((k:Int)<=5))=qm:=by
 rw[decide_eq_true (by omega),decide_eq_true (by omega)];rfl
theorem DR{f:pA}{B:jaF}(F:Xl K "bundle_of" "bundle_of" Rx f B)(u:mg "bundle_of"=nC (.ref f))
 (r:Z3 P w K mg base 1 "holds" ["one","other"] [] (Np K))
 (t:Z3 P w K mg base 2 "is_within" ["thing","least","most"] [] (X6 K)):Z3 P w K mg base 3 "bundle_of" ["numbers"] [] (QK K):=by
 refine F.Yp u (RV F λ_ _ _ _ _ _ _=>rfl) X4 (λJ H Q E h=>?_) (λy A e s H J Q E n h=>?_)
 .obtain⟨p,a,rfl,_⟩:=h;rfl
 obtain⟨p,a,rfl,l,I,q⟩:=h
 refine⟨_,(Zd (ZL (i:=1) X4.nd rfl (jbI rfl) Zc)
  (Zd (Uz jdK rfl (Ws (Ze 0)) (Ym (i:=2) X4.nd rfl (jbI rfl)) (Zd (ZR (YF (Yg (Zx t n (by first|decide|omega) rfl (Za (Ze 2) (Za Zc (Za Zc Zb)))))) (Zh Y6) ZF)
   (Zd (ZR (Yg (Zx r n (by first|decide|omega) rfl (Za (Ze 1) (Za (Zg Qe Zc (Ze 2)) Zb)))) (Zh Y6) ZF)
   (Zh (ZL (i:=1) X4.nd rfl (jbI rfl) (Zg uT (Ze 1) (Zg Qe Zc (Ze 2))))))))
  (Zh (ZC (Ze 1))))),?_⟩
 refine⟨_,rfl,p,rfl,⟨_,l⟩,?_⟩
 refine J6 (xs:=a.map nv) (λi c b=>b=H/\once (Ew 0 (a.take i)) (a.drop i)=qm/\∃x,c=[nC (.ref p),nC (nv (Ew 0 (a.take i))),x]) ?_ ?_ ?_ ?_
 .exact⟨rfl,I,su,rfl⟩
 .rintro i c b _ ⟨rfl,_⟩;exact l
 .rintro i v c b o ⟨rfl,g,x,rfl⟩
  rw[jcF]at o
  obtain⟨k,d,rfl⟩:=jcT.mp o
  have m:=(jcP.mp d).1
  have z:a.drop i=k::a.drop (i+1):=by
   rw[jfO m]
   congr 1
   exact jc8 ((sH m).symm.trans d)
  have j:Ew 0 (a.take (i+1))=Ew 0 (a.take i)|||2^k:=by
   unfold Ew
   rw[jdE,d,jhi];rfl
  rw[z]at g
  simp only[once,jbE,jeV,decide_eq_true_eq,decide_eq_false_iff_not]at g
  obtain⟨⟨C,D⟩,G⟩:=g
  refine⟨_,rfl,_,0,5,rfl,.inr ⟨_,rfl,_,rfl,?_⟩⟩
  rw[jaZ C]
  refine Yn ?_
  refine⟨_,rfl,_,rfl,k,rfl,rfl,by omega,_,_,rfl,_,rfl,?_⟩
  rw[decide_eq_false D]
  refine Yn ?_
  refine⟨_,rfl,_,rfl,k,rfl,rfl,by omega,_,_,rfl,rfl,rfl,?_,nC (nv k),?_⟩
  .rw[j];exact G
  .rw[j];rfl
 .rintro c b ⟨rfl,g,x,rfl⟩
  rw[rz,jc2]
  exact⟨_,rfl,q⟩
theorem Uc:∀a b:List Tr,YQ (a++b)=YQ a|||YQ b
 |[],b=>by show YQ b=0|||YQ b;rw[jhj]
 |x::a,b=>by show Xw x|||YQ (a++b)=(Xw x|||YQ a)|||YQ b;rw[Uc a b,jja]
theorem yV(ts:List Tr)(i:Nat)(t:Tr)(h:ts[i]?=nC t):YQ (ts.take (i+1))=YQ (ts.take i)|||Xw t:=by
 rw[jeY,h,Uc]
 show _|||(Xw t|||0)=_
 rw[jgC]
structure GI(H:Hp)(lf:pA)(d:Nat)(ts:List Tr)(i:Nat)(H':Hp)(lr:pA)(qs rs:List pA)(us vs:List Tr):Prop where
 s:Z5 H H'
 nr:H lr=su
 ne:lf≠lr
 ef:H' lf=nC (.lst (qs.map V.ref))
 er:H' lr=nC (.lst (rs.map V.ref))
 fu:Xb (FT (λx=>x≠lf/\x≠lr) H' (d+1)) qs us
 fv:Xb (FT (λx=>x≠lf/\x≠lr) H' d) rs vs
 du:Yr us<=Yr ts+1
 dv:Yr vs<=Yr ts
 len:us.length+vs.length<=i
 tal:Z8 us+Z8 vs<=Z8 (ts.take i)+us.length
 spk:YQ us|||YQ vs=YQ (ts.take i)
section
variable{H H' H'':Hp}{lf lr lr2:pA}{d i:Nat}{ts us vs:List Tr}{qs rs:List pA}
theorem GI.same(g:GI H lf d ts i H' lr qs rs us vs)(S:Z5 H' H''):GI H lf d ts i H'' lr qs rs us vs:=
 ⟨g.s.trans S,g.nr,g.ne,S _ _ g.ef,S _ _ g.er,g.fu.imp λ_ _ _ z=>z.same S,g.fv.imp λ_ _ _ z=>z.same S,g.du,g.dv,g.len,g.tal,g.spk⟩
theorem GI.row(g:GI H lf d ts i H' lr qs rs us vs)(h:H lf=su){A:pA->Prop}{p:pA}{t:Tr}(b:ts[i]?=nC t)(f:FT A H d p t):GI H lf d ts (i+1) (upd H' lr (.lst ((rs++[p]).map V.ref))) lr qs (rs++[p]) us (vs++[t]):=by
 have c:¬(lr≠lf/\lr≠lr):=λz=>z.2 rfl
 have a:FT (λx=>x≠lf/\x≠lr) H' d p t:=(f.imp λl m _ e=>⟨Yd e h,Yd e g.nr⟩).same g.s
 have j:=Tn (jcE b)
 refine⟨g.s.upd g.nr _,g.nr,g.ne,by rw[ZX g.ne];exact g.ef,Zj,g.fu.imp λ_ _ _ z=>z.put g.er c,(g.fv.imp λ_ _ _ z=>z.put g.er c).snoc (a.put g.er c),g.du,?_,?_,?_,?_⟩
 .rw[Rr];show max _ (max (Xa t) 0)<=_
  have:=g.dv;omega
 .have:=g.len
  rw[O1];show us.length+(vs.length+1)<=i+1;omega
 .have:=g.tal
  rw[vK ts i t b,UT];show Z8 us+(Z8 vs+(Yj t+0))<=_;omega
 .have e:=g.spk
  rw[yV ts i t b,<-e,Uc]
  show _|||(_|||(Xw t|||0))=_
  rw[jgC,jja]
theorem FT.step{m:pA}{o b:List V}(j:H' lf=nC (.lst o))(c:upd H' lf (.lst b) lr2=su){d:Nat}{p:pA}{t:Tr}(h:FT (λx=>x≠lf/\x≠m) H' d p t):FT (λx=>x≠lf/\x≠lr2) (upd (upd H' lf (.lst b)) lr2 (.lst [])) d p t:=by
 have n:lr2≠lf:=λz=>by rw[z,Zj]at c;cases c
 have g:H' lr2=su:=by rw[ZX n]at c;exact c
 refine FT.move (λa q e=>?_) (λl r f e=>?_) d h
 .rw[ZX (Yd e g),ZX (λz=>by rw[z,j]at e;cases e)];exact e
 .have i:=Yd e g
  exact⟨⟨f.1,i⟩,by rw[ZX i,ZX f.1];exact e⟩
theorem GI.push(g:GI H lf d ts i H' lr qs rs us vs)(m:H lf=su){p:pA}{t:Tr}(l:∀{c:List V}{a:pA},upd H' lf (.lst c) a=su->FT (λx=>x≠lf/\x≠a) (upd (upd H' lf (.lst c)) a (.lst [])) (d+1) p t)(o:Xa t<=Yr ts+1)(q:Yj t<=Z8 vs+1)(n:1<=vs.length)(j:Xw t=YQ vs)
 (b:upd H' lf (.lst ((qs++[p]).map V.ref)) a=su):GI H lf d ts i (upd (upd H' lf (.lst ((qs++[p]).map V.ref))) a (.lst [])) a (qs++[p]) [] (us++[t]) []:=by
 have f:a≠lf:=λz=>by rw[z,Zj]at b;cases b
 have h:H' a=su:=by rw[ZX f]at b;exact b
 refine⟨(g.s.upd m _).upd (g.s.free h) _,g.s.free h,jdh f,by rw[ZX (jdh f)];exact Zj,Zj,(g.fu.imp λ_ _ _ z=>z.step g.ef b).snoc (l b),Xb.nil,?_,jcY _,?_,?_,?_⟩
 .rw[Rr];show max _ (max (Xa t) 0)<=_
  have:=g.du;omega
 .have:=g.len
  rw[O1];show us.length+1+0<=i;omega
 .have:=g.tal
  rw[UT,O1];show Z8 us+(Yj t+0)+0<=_+(us.length+1);omega
 .have e:=g.spk
  rw[<-e,Uc]
  show(_|||(Xw t|||0))|||0=_
  rw[jgC,jgC,j]
end
theorem FT.up{A:pA->Prop}{H:Hp}:∀(d:Nat){a:pA}{t:Tr},FT A H d a t->FT A H (d+1) a t
 |0,_,_,h=>h.elim
 |d+1,a,.leaf f,h=>h
 |d+1,a,.node any ts,h=>by
  obtain⟨l,bs,b,c,e,g⟩:=h
  exact⟨l,bs,b,c,e,g.imp λx y _ z=>FT.up d z⟩
theorem yw{f:pA}{fd:jaF}(F:Xl K "_law_grouped" "_law_grouped" Ln f fd)(ZZ:mg "_law_grouped"=nC (.ref f))(Y9:mg "range"=su)(Yz:mg "len"=su)(P0:mg "divmod"=su):Z3 P w K mg base 1 "_law_grouped" ["_law_forms","_law_cell_here"] [] (Iw K):=by
 refine F.Yp ZZ (VF F λ_ _ _ _ _ _ _ _=>rfl) Wq (λm H Q E h=>?_) (λal A ai s H m Q E hr h=>?_)
 .obtain⟨l,L,ts,A,d,c,rfl,_⟩:=h;rfl
 obtain⟨l,L,ts,A,d,c,rfl,hl,hP,am,q⟩:=h
 refine⟨_,(Zd (ZL (i:=2) Wq.nd rfl (jbI rfl) (Zg YZ (Zg Qc (Zg YZ (Ze 1) Zc) Zc) Zc))
  (Zd (ZL (i:=3) Wq.nd rfl (jbI rfl) (ZV Zb))
  (Zd (ZL (i:=4) Wq.nd rfl (jbI rfl) (ZV Zb))
  (Zd (Uz jdK rfl (Wr rfl Y9 (Za (Yw YK rfl Yz jcN (Za (Ze 0) Zb)) Zb)) (Ym (i:=5) Wq.nd rfl (jbI rfl)) (Zd (Yx (WP (Ze 4) (Za (Z4 (YH K) (Ze 0) (Ze 5) (λ_ _=>rfl)) Zb)))
   (Zd (xK (Yw GR rfl P0 (boot_divmod) (Za (Ze 2) (Za Zc Zb))) (PQ K 2 rfl (Wg (Ym (i:=2) Wq.nd rfl (jbI rfl)) (Wg (Ym (i:=6) Wq.nd rfl (jbI rfl)) Qj))))
   (Zh (ZR (Tg (VD (ZK Xv (Ze 6) Zc (Yb _)) (WM (ZK Xv (Yw YK rfl Yz jcN (Za (Ze 4) Zb)) Zc (Yb _))))) (Zd (Yx (WP (Ze 3) (Za (Z4 (YH K) (Ze 4) Zc (λ_ _=>rfl)) Zb)))
    (Zh (ZL (i:=4) Wq.nd rfl (jbI rfl) (ZV Zb)))) (Zh (ZR (Tg (XN (ZK La (Ze 6) Zc (Yb _)) (Xn (ZK Xv (Ze 5) (Zg DY (Yw YK rfl Yz jcN (Za (Ze 0) Zb)) Zc) (Yb _))))) (Zd (Yx (WP (Ze 3) (Za (Xf (Za (Z4 (YH K) (ZV (Za Zf (Za Zf Zb))) (Zg (Fp YZ) (Ze 6) Zc) (λ_ _=>rfl)) (Za (Ze 4) Zb))) Zb)))
     (Zh (ZL (i:=4) Wq.nd rfl (jbI rfl) (ZV Zb)))) ZF)))))))
  (Zh (ZC (Ze 3))))))),?_⟩
 refine⟨_,rfl,_,_,rfl,rfl,(by show(0:Int)<1000000007;decide),_,_,rfl,rfl,Tt (by decide),_,_,rfl,rfl,(by show(0:Int)<2147483647;decide),?_⟩
 refine⟨(by show 0<=qd;decide),λlf X=>⟨(by show 0<=qd;decide),λlr Y=>?_⟩⟩
 have s1:=Zk X (.lst [])
 have s2:=Zk Y (.lst [])
 have pl:(L.map V.ref).length=ts.length:=by rw[rz,hP.1]
 refine⟨_,rfl,l,_,rfl,.inl (Yy.of ((s1.trans s2) _ _ hl)),_,rfl,by omega,by omega,?_⟩
 rw[jdD,pl]
 refine Kp (n:=ts.length) (lo:=0) (λi σ H'=>∃(lr:pA)(D S:List pA)(us m:List Tr)(u:Int)(y1 y2:Option V),GI H lf d ts i H' lr D S us m/\σ=[nC (.ref l),nC (.int c),nC (.int u),nC (.ref lf),nC (.ref lr),y1,y2]) ?_ ?_ ?_
 .have af:lf≠lr:=Yd (Zj (H:=H) (a:=lf) (o:=.lst [])) Y
  exact⟨lr,[],[],[],[],_,_,_,⟨s1.trans s2,s1.free Y,af,s2 _ _ Zj,Zj,Xb.nil,Xb.nil,jcY _,jcY _,U6 _,jcY _,rfl⟩,rfl⟩
 .rintro i σ H1 hi ⟨lr,D,S,us,m,u,y1,y2,g,rfl⟩
  rw[jeE]
  have Z:ts[i]?=nC ts[i]:=sH hi
  have ad:i<L.length:=by rw[hP.1];exact hi
  have ac:L[i]?=nC L[i]:=sH ad
  have g1:=g.row X Z (hP.2 i _ _ ac Z)
  have zp:(L.map V.ref)[i]?=nC (V.ref L[i]):=by rw[jcF,ac];rfl
  have ah:S.length=m.length:=g.fv.1
  have an:D.length=us.length:=g.fu.1
  have gl:=g.len
  refine⟨_,rfl,.inl ⟨rfl,_,Yy.of g.er⟩,_,rfl,_,rfl,l,_,_,_,rfl,rfl,Yy.of (g.s _ _ hl),Et zp,lr,_,_,rfl,rfl,g.er,by rw[rz];exact Xr (by omega),?_⟩
  have er:S.map V.ref++[V.ref L[i]]=(S++[L[i]]).map V.ref:=by rw[jcA];rfl
  rw[er]
  generalize upd H1 lr (.lst ((S++[L[i]]).map V.ref))=H2 at g1|-
  refine⟨_,rfl,_,_,rfl,⟨by decide,by decide⟩,λpt ag=>⟨pt,_,rfl,Su.of Zj,rfl,_,_,rfl,_,_,rfl,rfl,?_⟩⟩
  have p:=g1.same (Zk ag (.tup [.int (u/5),.int (u %5)]))
  generalize upd H2 pt (.tup [.int (u/5),.int (u %5)])=T at p|-
  have lv:(m++[ts[i]]).length=m.length+1:=O1
  refine⟨_,rfl,rfl,_,rfl,?_⟩
  refine QQ (λcw=>?_) (λ_=>Yn ?_)
  .refine⟨_,rfl,lr,_,rfl,.inl (Yy.of p.er),rfl,_,rfl,?_⟩
   refine QQ (λc1=>?_) (λ_=>?_)
   ·
    have ae:V.int ((((S++[L[i]]).map V.ref).length:Nat):Int)=V.int 1:=of_decide_eq_true c1
    have c2:S=[]:=by
     injection ae with c3
     rw[rz,O1,jh9]at c3
     exact jdl.mp (by omega)
    have c4:m=[]:=jdl.mp (by rw[<-ah,c2];rfl)
    subst c2 c4
    refine⟨_,rfl,.inl ⟨rfl,_,Yy.of p.ef⟩,_,rfl,lr,_,_,_,rfl,rfl,Yy.of p.er,rfl,lf,_,_,rfl,rfl,p.ef,by rw[rz];exact Xr (by omega),?_⟩
    have eq:D.map V.ref++[V.ref L[i]]=(D++[L[i]]).map V.ref:=by rw[jcA];rfl
    rw[eq]
    refine⟨(by show 0<=qd;decide),λx R=>?_⟩
    have f0:=p.fv.2 0 L[i] ts[i] rfl rfl
    have md:=Tn (jcE Z)
    exact⟨x,_,[],_,[],_,_,_,p.push X (λz=>(FT.up d f0).step p.ef z) (by omega) (by show Yj ts[i]<=Yj ts[i]+0+1;omega) (by rw[lv];omega) (by show Xw ts[i]=Xw ts[i]|||0;rw[jgC]) R,rfl⟩
   .refine⟨_,rfl,_,_,rfl,rfl,_,rfl,?_⟩
    refine QQ (λ_=>Ys ?_) (λ_=>?_)
    .have dn:Yr (m++[ts[i]])<=Yr ts:=p.dv
     refine⟨_,rfl,.inl ⟨rfl,_,Yy.of p.ef⟩,(by show 2<=qd;decide),λB hw=>?_⟩
     have O:=p.same (Zk hw (.lst [V.str "any",V.str "one"]))
     have N:upd T B (.lst [V.str "any",V.str "one"]) B=nC (.lst [V.str "any",V.str "one"]):=Zj
     generalize upd T B (.lst [V.str "any",V.str "one"])=M at O N|-
     obtain⟨C,G,aa⟩:=R9 (u %5) 2 (by decide)
     obtain⟨any,W⟩:∃any,Ac [V.str "any",V.str "one"] (C:Int)=nC (.str (WK any)):=by
      rcases(by omega:C=0\/C=1)with e|e<;>subst e
      .exact⟨qm,rfl⟩
      .exact⟨vh,rfl⟩
     refine⟨_,rfl,_,_,nv C,rfl,rfl,(by show(0:Int)<2;decide),congrArg V.int G,B,_,_,_,rfl,rfl,Yy.of N,W,_,rfl,(by show 2<=qd;decide),λv I=>?_⟩
     have j:=O.same (Zk I (.tup [.str (WK any),.ref lr]))
     have b:upd M v (.tup [.str (WK any),.ref lr]) v=nC (.tup [.str (WK any),.ref lr]):=Zj
     generalize upd M v (.tup [.str (WK any),.ref lr])=U at j b|-
     refine⟨lf,_,_,rfl,rfl,j.ef,by rw[rz];exact Xr (by omega),?_⟩
     have eq:D.map V.ref++[V.ref v]=(D++[v]).map V.ref:=by rw[jcA];rfl
     rw[eq]
     refine⟨(by show 0<=qd;decide),λx R=>?_⟩
     refine⟨x,_,[],_,[],_,_,_,j.push (t:=.node any (m++[ts[i]])) X (λ{ab r}z=>?_) (by show 1+Yr (m++[ts[i]])<=_;omega) (by show 1+Z8 (m++[ts[i]])<=_;omega) (by rw[lv];omega) rfl R,rfl⟩
     have m1:r≠lf:=λy=>by rw[y,Zj]at z;cases z
     have J:U r=su:=by rw[ZX m1]at z;exact z
     exact⟨lr,_,by rw[ZX (Yd b J),ZX (λy=>by rw[y,j.ef]at b;cases b)];exact b,⟨jdh j.ne,Yd j.er J⟩,by rw[ZX (Yd j.er J),ZX (jdh j.ne)];exact j.er,j.fv.imp λ_ _ _ y=>y.step j.ef z⟩
    .refine⟨_,rfl,_,rfl,l,_,rfl,.inl (Yy.of (p.s _ _ hl)),_,_,rfl,rfl,rfl,_,rfl,?_⟩
     refine QQ (λ_=>?_) (λ_=>?_)
     .have dn:Yr (m++[ts[i]])<=Yr ts:=p.dv
      refine⟨_,rfl,.inl ⟨rfl,_,Yy.of p.ef⟩,(by show 2<=qd;decide),λB hw=>?_⟩
      have O:=p.same (Zk hw (.lst [V.str "any",V.str "one"]))
      have N:upd T B (.lst [V.str "any",V.str "one"]) B=nC (.lst [V.str "any",V.str "one"]):=Zj
      generalize upd T B (.lst [V.str "any",V.str "one"])=M at O N|-
      obtain⟨C,G,aa⟩:=R9 (u %5) 2 (by decide)
      obtain⟨any,W⟩:∃any,Ac [V.str "any",V.str "one"] (C:Int)=nC (.str (WK any)):=by
       rcases(by omega:C=0\/C=1)with e|e<;>subst e
       .exact⟨qm,rfl⟩
       .exact⟨vh,rfl⟩
      refine⟨_,rfl,_,_,nv C,rfl,rfl,(by show(0:Int)<2;decide),congrArg V.int G,B,_,_,_,rfl,rfl,Yy.of N,W,_,rfl,(by show 2<=qd;decide),λv I=>?_⟩
      have j:=O.same (Zk I (.tup [.str (WK any),.ref lr]))
      have b:upd M v (.tup [.str (WK any),.ref lr]) v=nC (.tup [.str (WK any),.ref lr]):=Zj
      generalize upd M v (.tup [.str (WK any),.ref lr])=U at j b|-
      refine⟨lf,_,_,rfl,rfl,j.ef,by rw[rz];exact Xr (by omega),?_⟩
      have eq:D.map V.ref++[V.ref v]=(D++[v]).map V.ref:=by rw[jcA];rfl
      rw[eq]
      refine⟨(by show 0<=qd;decide),λx R=>?_⟩
      refine⟨x,_,[],_,[],_,_,_,j.push (t:=.node any (m++[ts[i]])) X (λ{ab r}z=>?_) (by show 1+Yr (m++[ts[i]])<=_;omega) (by show 1+Z8 (m++[ts[i]])<=_;omega) (by rw[lv];omega) rfl R,rfl⟩
      have m1:r≠lf:=λy=>by rw[y,Zj]at z;cases z
      have J:U r=su:=by rw[ZX m1]at z;exact z
      exact⟨lr,_,by rw[ZX (Yd b J),ZX (λy=>by rw[y,j.ef]at b;cases b)];exact b,⟨jdh j.ne,Yd j.er J⟩,by rw[ZX (Yd j.er J),ZX (jdh j.ne)];exact j.er,j.fv.imp λ_ _ _ y=>y.step j.ef z⟩
     .exact⟨lr,D,_,us,_,_,_,_,p,rfl⟩
  .refine⟨_,rfl,_,_,rfl,rfl,_,rfl,?_⟩
   refine QQ (λ_=>Ys ?_) (λ_=>?_)
   .have dn:Yr (m++[ts[i]])<=Yr ts:=p.dv
    refine⟨_,rfl,.inl ⟨rfl,_,Yy.of p.ef⟩,(by show 2<=qd;decide),λB hw=>?_⟩
    have O:=p.same (Zk hw (.lst [V.str "any",V.str "one"]))
    have N:upd T B (.lst [V.str "any",V.str "one"]) B=nC (.lst [V.str "any",V.str "one"]):=Zj
    generalize upd T B (.lst [V.str "any",V.str "one"])=M at O N|-
    obtain⟨C,G,aa⟩:=R9 (u %5) 2 (by decide)
    obtain⟨any,W⟩:∃any,Ac [V.str "any",V.str "one"] (C:Int)=nC (.str (WK any)):=by
     rcases(by omega:C=0\/C=1)with e|e<;>subst e
     .exact⟨qm,rfl⟩
     .exact⟨vh,rfl⟩
    refine⟨_,rfl,_,_,nv C,rfl,rfl,(by show(0:Int)<2;decide),congrArg V.int G,B,_,_,_,rfl,rfl,Yy.of N,W,_,rfl,(by show 2<=qd;decide),λv I=>?_⟩
    have j:=O.same (Zk I (.tup [.str (WK any),.ref lr]))
    have b:upd M v (.tup [.str (WK any),.ref lr]) v=nC (.tup [.str (WK any),.ref lr]):=Zj
    generalize upd M v (.tup [.str (WK any),.ref lr])=U at j b|-
    refine⟨lf,_,_,rfl,rfl,j.ef,by rw[rz];exact Xr (by omega),?_⟩
    have eq:D.map V.ref++[V.ref v]=(D++[v]).map V.ref:=by rw[jcA];rfl
    rw[eq]
    refine⟨(by show 0<=qd;decide),λx R=>?_⟩
    refine⟨x,_,[],_,[],_,_,_,j.push (t:=.node any (m++[ts[i]])) X (λ{ab r}z=>?_) (by show 1+Yr (m++[ts[i]])<=_;omega) (by show 1+Z8 (m++[ts[i]])<=_;omega) (by rw[lv];omega) rfl R,rfl⟩
    have m1:r≠lf:=λy=>by rw[y,Zj]at z;cases z
    have J:U r=su:=by rw[ZX m1]at z;exact z
    exact⟨lr,_,by rw[ZX (Yd b J),ZX (λy=>by rw[y,j.ef]at b;cases b)];exact b,⟨jdh j.ne,Yd j.er J⟩,by rw[ZX (Yd j.er J),ZX (jdh j.ne)];exact j.er,j.fv.imp λ_ _ _ y=>y.step j.ef z⟩
   .refine⟨_,rfl,_,rfl,l,_,rfl,.inl (Yy.of (p.s _ _ hl)),_,_,rfl,rfl,rfl,_,rfl,?_⟩
    refine QQ (λ_=>?_) (λ_=>?_)
    .have dn:Yr (m++[ts[i]])<=Yr ts:=p.dv
     refine⟨_,rfl,.inl ⟨rfl,_,Yy.of p.ef⟩,(by show 2<=qd;decide),λB hw=>?_⟩
     have O:=p.same (Zk hw (.lst [V.str "any",V.str "one"]))
     have N:upd T B (.lst [V.str "any",V.str "one"]) B=nC (.lst [V.str "any",V.str "one"]):=Zj
     generalize upd T B (.lst [V.str "any",V.str "one"])=M at O N|-
     obtain⟨C,G,aa⟩:=R9 (u %5) 2 (by decide)
     obtain⟨any,W⟩:∃any,Ac [V.str "any",V.str "one"] (C:Int)=nC (.str (WK any)):=by
      rcases(by omega:C=0\/C=1)with e|e<;>subst e
      .exact⟨qm,rfl⟩
      .exact⟨vh,rfl⟩
     refine⟨_,rfl,_,_,nv C,rfl,rfl,(by show(0:Int)<2;decide),congrArg V.int G,B,_,_,_,rfl,rfl,Yy.of N,W,_,rfl,(by show 2<=qd;decide),λv I=>?_⟩
     have j:=O.same (Zk I (.tup [.str (WK any),.ref lr]))
     have b:upd M v (.tup [.str (WK any),.ref lr]) v=nC (.tup [.str (WK any),.ref lr]):=Zj
     generalize upd M v (.tup [.str (WK any),.ref lr])=U at j b|-
     refine⟨lf,_,_,rfl,rfl,j.ef,by rw[rz];exact Xr (by omega),?_⟩
     have eq:D.map V.ref++[V.ref v]=(D++[v]).map V.ref:=by rw[jcA];rfl
     rw[eq]
     refine⟨(by show 0<=qd;decide),λx R=>?_⟩
     refine⟨x,_,[],_,[],_,_,_,j.push (t:=.node any (m++[ts[i]])) X (λ{ab r}z=>?_) (by show 1+Yr (m++[ts[i]])<=_;omega) (by show 1+Z8 (m++[ts[i]])<=_;omega) (by rw[lv];omega) rfl R,rfl⟩
     have m1:r≠lf:=λy=>by rw[y,Zj]at z;cases z
     have J:U r=su:=by rw[ZX m1]at z;exact z
     exact⟨lr,_,by rw[ZX (Yd b J),ZX (λy=>by rw[y,j.ef]at b;cases b)];exact b,⟨jdh j.ne,Yd j.er J⟩,by rw[ZX (Yd j.er J),ZX (jdh j.ne)];exact j.er,j.fv.imp λ_ _ _ y=>y.step j.ef z⟩
    .exact⟨lr,D,_,us,_,_,_,_,p,rfl⟩
 .rintro σ H1 ⟨lr,D,S,us,m,u,y1,y2,g,rfl⟩
  have gt:=g.tal
  have gl:=g.len
  rw[jc2]at gt
  exact⟨_,rfl,q lf H1 D us g.s g.ef (g.fu.imp λ_ _ _ z=>z.imp λ_ _ _ _=>trivial) g.du (by omega) (by omega) ⟨YQ m,by have e:=g.spk;rw[jc2]at e;exact e⟩⟩
end
noncomputable def YX (l:List Nat):Bool:=(decide (1<=l.length)&&decide (l.length<=8))&&l.all λc=>decide (97<=c)&&decide (c<=122)
noncomputable def asc (l:List Nat):Bool:=l.all (·<128)
theorem yD{l:List Nat}(h:YX l=qm):asc l=qm:=by
 unfold YX at h
 rw[jbE]at h
 unfold asc
 rw[jcV]at*
 intro c a
 have z:=h.2 c a
 simp only[jbE,decide_eq_true_eq]at z|-
 omega
theorem Ge{l:List Nat}(h:YX l=qm):1<=l.length/\l.length<=8:=by
 unfold YX at h
 simp only[jbE,decide_eq_true_eq]at h
 exact h.1
theorem yE(a b:Nat):decide ([a]<[b])=decide (a<b):=by
 by_cases h:a<b
 .rw[decide_eq_true h,decide_eq_true];exact List.Lex.rel h
 .rw[decide_eq_false h,decide_eq_false]
  intro z
  cases z with
  |rel z=>exact h z
  |cons z=>cases z
theorem snoc_ind{b:Type}{P:List b->Prop}(h0:P [])(c:∀l a,P l->P (l++[a]))(l:List b):P l:=by
 have z:∀m:List b,P m.reverse:=λm=>by
  induction m with
  |nil=>exact h0
  |cons a m d=>rw[jhd];exact c _ _ d
 have:=z l.reverse
 rwa[List.reverse_reverse]at this
noncomputable abbrev sv (l:List Nat):V:=.str (tx l)
noncomputable def QJ (l:List Nat):Key:=jhG (tx l)
theorem CW{l m:List Nat}(h:QJ l=QJ m):l=m:=QM (Sum.inr.inj h)
noncomputable def numsOf (ns:List (List Nat)):List (Key×V):=ns.zipIdx.map λq=>(QJ q.1,.int (q.2:Nat))
theorem numsOf_len(ns:List (List Nat)):(numsOf ns).length=ns.length:=by simp[numsOf]
theorem MF(ns:List (List Nat))(n:List Nat):numsOf (ns++[n])=numsOf ns++[(QJ n,.int (ns.length:Nat))]:=by simp[numsOf,List.zipIdx_append]
theorem Oj{a:List (Key×V)}{k j:Key}{v:V}(h:UV a k=su):UV (a++[(k,v)]) j=if j=k then nC v else UV a j:=by rw[<-w6 v h,vN]
theorem HR:∀(ns:List (List Nat))(n:List Nat),ns.Nodup->n∉ns->UV (numsOf ns) (QJ n)=su:=by
 refine snoc_ind (λn _ _=>rfl) λns m c n a b=>?_
 .skip
  rw[jjb]at a
  have d:m∉ns:=λz=>a.2.2 m z m (by simp) rfl
  rw[MF,Oj (c m a.1 d)]
  have:n≠m:=λz=>b (by simp[z])
  rw[if_neg λz=>this (CW z)]
  exact c n a.1 λz=>b (by simp[z])
theorem gW:∀(ns:List (List Nat))(n:List Nat)(i:Nat),ns.Nodup->ns[i]?=nC n->UV (numsOf ns) (QJ n)=nC (.int (i:Nat)):=by
 refine snoc_ind (λn i _ h=>by simp at h) λns m f n i b a=>?_
 .skip
  rw[jjb]at b
  have d:m∉ns:=λz=>b.2.2 m z m (by simp) rfl
  rw[MF,Oj (HR ns m b.1 d)]
  by_cases e:i<ns.length
  .rw[jdQ e]at a
   have:n≠m:=λz=>d (z▸jcE a)
   rw[if_neg λz=>this (CW z)]
   exact f n i b.1 a
  .have c:i=ns.length:=by
    have:=(jcP.mp a).1
    simp at this;omega
   subst c
   simp at a
   subst a
   rw[if_pos rfl]
noncomputable def Wb (a:List (List Nat)) (k:List Nat):Nat->Nat
 |0=>0
 |i+1=>if a[i]?=nC k then Wb a k i|||2^i else Wb a k i
theorem Mz(a:List (List Nat))(k:List Nat):∀i,Wb a k i<2^i
 |0=>Nat.one_pos
 |i+1=>by
  have h:=Mz a k i
  have e:2^(i+1)=2^i+2^i:=by rw[Nat.pow_succ];omega
  unfold Wb
  split
  .exact Nat.or_lt_two_pow (by omega) (by omega)
  .omega
theorem pX(a:List (List Nat))(k:List Nat)(i:Nat):Wb a k (i+1)=if a[i]?=nC k then Wb a k i+2^i else Wb a k i:=by
 show(if a[i]?=nC k then Wb a k i|||2^i else Wb a k i)=_
 split
 .have z:=jgW (Mz a k i) 1
  rw[Nat.mul_one]at z
  rw[Nat.or_comm,<-z];omega
 .rfl
noncomputable def Mp (a:List (Key×V)) (b:List (List Nat)) (i:Nat):Prop:=a.length<=i/\∀k,UV a (QJ k)=if k∈b.take i then nC (nv (Wb b k i))else su
theorem az(a:List (List Nat)):Mp [] a 0:=⟨U6 _,λk=>by simp[UV]⟩
theorem Dz{a:List (List Nat)}{k:List Nat}:∀{i:Nat},k∉a.take i->Wb a k i=0
 |0,_=>rfl
 |i+1,h=>by
  rw[jeY]at h
  have b:k∉a.take i:=λz=>h (by simp[z])
  have c:¬a[i]?=nC k:=λz=>h (by simp[z])
  unfold Wb
  rw[if_neg c]
  exact Dz b
theorem pP{c:List (Key×V)}{a:List (List Nat)}{k:List Nat}{i:Nat}(h:Mp c a i)(b:a[i]?=nC k):Mp (putK c (QJ k) (nv (Wb a k i|||2^i))) a (i+1):=by
 refine⟨jc9 (Mw _ _ _) (by have:=h.1;omega),λj=>?_⟩
 rw[vN,jeY,b]
 by_cases e:j=k
 .subst e
  rw[if_pos rfl,if_pos (by simp)]
  show _=nC (nv (if a[i]?=nC j then Wb a j i|||2^i else Wb a j i))
  rw[if_pos b]
 .rw[if_neg λz=>e (CW z),h.2 j]
  have d:(j∈a.take i++[k])↔j∈a.take i:=by simp[e]
  have f:Wb a j (i+1)=Wb a j i:=by
   show(if a[i]?=nC j then _ else _)=_
   rw[if_neg]
   rw[b];exactλz=>e (jc8 z).symm
  simp only[Option.toList_some,d,f]
noncomputable def Uq (K:oh):Sp:=λb H Q _=>∃x,b=[x]/\((∃l,x=sv l/\asc l=qm/\l.length<=3000/\∀a,Z5 H a->Q (.bl (YX l)) a)\/(∃n,Mm K H x n/\n≠.str/\Q (.bl vh) H))
noncomputable def iV (c:oh) (H:Hp) (r:pA) (ns b:List (List Nat)):Prop:=∃a:List pA,H r=nC (.lst (a.map V.ref))/\a.length=ns.length/\b.length=ns.length/\∀(i:Nat)(p:pA),a[i]?=nC p->∃n k,ns[i]?=nC n/\b[i]?=nC k/\H p=nC (.tup [sv n,sv k])
noncomputable def Good (ns a:List (List Nat)):Prop:=ns.length<=6/\(∀n∈ns,YX n=qm)/\ns.Nodup/\(∀k∈a,YX k=qm)
noncomputable def OJ (a b:pA):List (Str×V):=Sv "kinds" (.ref b) (Sv "numbers" (.ref a) [])
noncomputable def Yu (c:pA) (H:Hp) (a:pA) (ns b:List (List Nat)):Prop:=∃g d e f,H a=nC (.ins c g (OJ d e))/\H d=nC (.dK (numsOf ns))/\H e=nC (.dK f)/\Mp f b b.length/\b.length=ns.length/\Good ns b
theorem Yu.same{c:pA}{H H':Hp}{a:pA}{ns ks:List (List Nat)}(S:Z5 H H')(h:Yu c H a ns ks):Yu c H' a ns ks:=by
 obtain⟨e,b,d,j,f,g,i,r⟩:=h
 exact⟨e,b,d,j,S _ _ f,S _ _ g,S _ _ i,r⟩
noncomputable def vP (a:pA) (H H':Hp):Prop:=∀b o,b≠a->H b=nC o->H' b=nC o
noncomputable def Uy (K:oh) (c:pA):Sp:=λg H Q _=>∃(a f r:pA)(e d:List (List Nat)),g=[.ref a,.ref r]/\H a=nC (.ins c f [])/\iV K H r e d/\Good e d/\∀b,vP a H b->Yu c b a e d->Q .non b
noncomputable def X5 (g:oh) (c:pA):Sp:=λf H Q _=>∃a d e n i,f=[.ref a,sv n]/\Yu c H a d e/\d[i]?=nC n/\∀b,Z5 H b->Q (.int (i:Nat)) b
noncomputable def WD (g:oh) (c:pA):Sp:=λf H Q _=>∃a e b k,f=[.ref a,sv k]/\Yu c H a e b/\k∈b/\∀d,Z5 H d->Q (nv (Wb b k b.length)) d
section
variable{P:jcz}{w:jcS}{K:oh}{mg:Str->Option pL}{base:jcX}
theorem uD{l:List Nat}(h:l.length<=3000):(tx l).length<=qd:=by rw[Yo,jcD];omega
theorem yC{f:pA}{N:jaF}(F:Xl K "is_name" "is_name" Pa f N)(B:mg "is_name"=nC (.ref f))(t:mg "all"=su)(v:mg "isinstance"=su)(u:mg "str"=su)(y:mg "len"=su):Z3 P w K mg base 1 "is_name" ["thing"] [] (Uq K):=by
 refine F.Yp B (RV F λ_ _ _ _ _ _ _=>rfl) yP (λX H Q E h=>?_) (λI A j s H X Q E Z h=>?_)
 .obtain⟨x,rfl,_⟩:=h;rfl
 obtain⟨x,rfl,h⟩:=h
 refine⟨_,(Zd (ZR (Tg (XN (YF (Yg (RD .str rfl v rfl u (Ze 0)))) (Xn (YF (Ep zj zj Zc (Yw YL rfl y jcN (Za (Ze 0) Zb)) Zc))))) (Zh (ZC TQ)) ZF)
  (Zh (ZC (Yw (Hq rfl) rfl t (boot_all) (Za (XH (ZJ Pa) ["thing"] ["sign"] [] [] rfl rfl rfl ⟨s.heap.objs.size+1,rfl⟩ rfl rfl (by decide+kernel) (xH (Ze 0)) (λC b a m=>(Ym (i:=0) (show jdM (["sign"]:List Str)from by decide+kernel) rfl (jbI rfl))) (λC b a m=>Wu) (λC b a m=>(Ji Ky Ky Zf (Ze 0) Zf))) Zb))))),?_⟩
 rcases h with⟨l,rfl,O,W,q⟩|⟨n,R,S,q⟩
 .have Y:((tx l).length:Int)=(l.length:Int):=by rw[Yo]
  refine⟨_,rfl,sv l,.str,rfl,.str _,_,rfl,Yn ⟨_,rfl,tx l,rfl,uD W,1,_,rfl,rfl,_,rfl,QQ (λc=>?_) (λc=>?_)⟩⟩
  .have D:(1:Int)<=((tx l).length:Int):=of_decide_eq_true c
   refine⟨_,_,rfl,rfl,_,rfl,QQ (λd=>?_) (λd=>?_)⟩
   .have G:¬((tx l).length:Int)<=8:=by simpa using d
    have z:=q H (Z5.refl _)
    have e:YX l=vh:=by unfold YX;rw[decide_eq_false (show¬l.length<=8 by omega),Bool.and_false,jeI]
    rw[e]at z;exact z
   .have G:((tx l).length:Int)<=8:=by simpa using d
    refine⟨_,rfl,l,rfl,O,λp T=>?_⟩
    refine J0 l (λ_=>qm) (λc=>.bl (decide (97<=c)&&decide (c<=122))) (by omega) T (λx U a b C k=>k a (Z5.refl _)) (λx U _ a b C k=>?_) (λa b J=>?_)
    .have L:(jh "a").cps.toList=[97]:=by decide
     have M:(jh "z").cps.toList=[122]:=by decide
     refine⟨_,rfl,_,_,rfl,rfl,_,rfl,?_⟩
     rw[Wd,L,yE]
     by_cases o:x<97
     .rw[decide_eq_true o]
      refine Yn ?_
      have z:=k a (Z5.refl _)
      rw[decide_eq_false (show¬97<=x by omega),jeI]at z
      exact z
     .rw[decide_eq_false o]
      refine Ys ⟨_,_,rfl,rfl,?_⟩
      have z:=k a (Z5.refl _)
      rw[decide_eq_true (show 97<=x by omega),jea]at z
      rw[Wd,M,yE]
      have g:(!decide (122<x))=decide (x<=122):=by
       by_cases r:x<=122
       .rw[decide_eq_true r,decide_eq_false (by omega)];rfl
       .rw[decide_eq_false r,decide_eq_true (by omega)];rfl
      rw[g]
      exact z
    .have g:a p=nC (.lst ((l.map λc=>decide (97<=c)&&decide (c<=122)).map V.bl)):=by
      rw[J,jfb.mpr (λ_ _=>rfl),jdq];rfl
     refine⟨p,_,rfl,Yy.of g,?_⟩
     have z:=q a b
     unfold YX at z
     rw[decide_eq_true (show 1<=l.length by omega),decide_eq_true (show l.length<=8 by omega),jea,jea]at z
     rw[jjc]
     exact z
  .have D:¬(1:Int)<=((tx l).length:Int):=by simpa using c
   refine⟨_,rfl,Ys ?_⟩
   have z:=q H (Z5.refl _)
   have e:YX l=vh:=by unfold YX;rw[decide_eq_false (show¬1<=l.length by omega),jeI,jeI]
   rw[e]at z;exact z
 .have e:kh n .str=vh:=by cases n<;>first|rfl|exact absurd rfl S
  refine⟨_,rfl,x,n,rfl,R,_,rfl,?_⟩
  rw[e]
  exact Ys q
theorem Qt(a b:pA):(OJ a b).lookup ("numbers":Str)=nC (V.ref a):=by
 unfold OJ
 rw[RM,if_neg (by decide),RM,if_pos rfl]
theorem Mt(b a:pA):(OJ b a).lookup ("kinds":Str)=nC (V.ref a):=by
 unfold OJ
 rw[RM,if_pos rfl]
theorem M9{f:pA}{o:jaF}(F:Xl K "number_of" "Stock.number_of" Vc f o)
 (z:Z3 P w K mg base 1 "is_name" ["thing"] [] (Uq K))
 (G:Own K mg "Bid" Zz [])
 (M:Own K mg "Only" Zw ["bundle","amount"])
 (N:Own K mg "SoMany" Zi ["kind","least","amount"])
 (L:Own K mg "UpTo" Zv ["kind","most","each"])
 (O:Own K mg "Several" Zm ["bids"])
 (I:Own K mg "AnyOf" Zq ["bids"])
 (J:Own K mg "OneOf" Zr ["bids"])
 (d:Own K mg "Stock" Zn ["numbers","kinds"]):We P w K mg base Ol 2 f o ["self","name"] (X5 K Zn):=by
 refine F.Eg RQ (λD H Q E h=>?_) (λB A j s H D Q E g h=>?_)
 .obtain⟨a,x,C,n,i,rfl,_⟩:=h;rfl
 obtain⟨a,x,C,n,i,rfl,⟨m,b,l,U,p,r,R,S,T,t⟩,u,q⟩:=h
 have e:YX n=qm:=t.2.1 n (jcE u)
 have v:=gW x n i t.2.2.1 u
 refine⟨_,(Zd (ZR (Tg (XN (YF (Yg (Zx z g (by first|decide|omega) rfl (Za (Ze 1) Zb)))) (Xn (ZK (Kv g.units) (Ze 1) (Y7 K (Ze 0)) (by with_unfolding_all rfl))))) (Zh Y6) ZF)
  (Zh (ZC (Kh g.units (Y7 K (Ze 0)) (Ze 1))))),?_⟩
 refine⟨_,rfl,_,rfl,.inl ⟨n,rfl,yD e,by have:=(Ge e).2;omega,λy c=>?_⟩⟩
 rw[e]
 refine⟨_,rfl,Yn ?_⟩
 refine⟨_,rfl,_,rfl,a,Zn,m,_,.ref b,rfl,c _ _ p,d.cls,d.no _ (by simp),Qt b l,⟨b,_,rfl,Om.k (k:=QJ n) (c _ _ r),?_⟩⟩
 rw[v]
 refine⟨_,rfl,Yn ?_⟩
 exact⟨_,rfl,a,Zn,m,_,.ref b,rfl,c _ _ p,d.cls,d.no _ (by simp),Qt b l,_,rfl,b,_,rfl,v▸Om.k (k:=QJ n) (c _ _ r),q y c⟩
theorem Jw{f:pA}{o:jaF}(F:Xl K "kind_of" "Stock.kind_of" V2 f o)
 (v:Z3 P w K mg base 1 "is_name" ["thing"] [] (Uq K))
 (G:Own K mg "Bid" Zz [])
 (M:Own K mg "Only" Zw ["bundle","amount"])
 (N:Own K mg "SoMany" Zi ["kind","least","amount"])
 (L:Own K mg "UpTo" Zv ["kind","most","each"])
 (O:Own K mg "Several" Zm ["bids"])
 (I:Own K mg "AnyOf" Zq ["bids"])
 (J:Own K mg "OneOf" Zr ["bids"])
 (d:Own K mg "Stock" Zn ["numbers","kinds"]):We P w K mg base Ol 2 f o ["self","kind"] (WD K Zn):=by
 refine F.Eg QB (λD H Q E h=>?_) (λx A j s H D Q E g h=>?_)
 .obtain⟨a,C,B,n,rfl,_⟩:=h;rfl
 obtain⟨a,C,B,n,rfl,⟨m,l,b,T,p,R,r,z,S,y⟩,t,q⟩:=h
 have e:YX n=qm:=y.2.2.2 n t
 have i:=z.2 n
 rw[if_pos (by rw[jc2];exact t)]at i
 refine⟨_,(Zd (ZR (Tg (XN (YF (Yg (Zx v g (by first|decide|omega) rfl (Za (Ze 1) Zb)))) (Xn (ZK (Kv g.units) (Ze 1) (Y7 K (Ze 0)) (by with_unfolding_all rfl))))) (Zh Y6) ZF)
  (Zh (ZC (Kh g.units (Y7 K (Ze 0)) (Ze 1))))),?_⟩
 refine⟨_,rfl,_,rfl,.inl ⟨n,rfl,yD e,by have:=(Ge e).2;omega,λu c=>?_⟩⟩
 rw[e]
 refine⟨_,rfl,Yn ?_⟩
 refine⟨_,rfl,_,rfl,a,Zn,m,_,.ref b,rfl,c _ _ p,d.cls,d.no _ (by simp),Mt l b,⟨b,_,rfl,Om.k (k:=QJ n) (c _ _ r),?_⟩⟩
 rw[i]
 refine⟨_,rfl,Yn ?_⟩
 exact⟨_,rfl,a,Zn,m,_,.ref b,rfl,c _ _ p,d.cls,d.no _ (by simp),Mt l b,_,rfl,b,_,rfl,i▸Om.k (k:=QJ n) (c _ _ r),q u c⟩
theorem vP.same{a:pA}{H H' H2:Hp}(h:vP a H H')(S:Z5 H' H2):vP a H H2:=λb o n e=>S _ _ (h b o n e)
theorem vP.put{a b:pA}{o:HO}{H H':Hp}(h:vP a H H')(n:H b=su):vP a H (upd H' b o):=λc u e d=>by
 rw[ZX (Yd d n)];exact h c u e d
theorem vP.self{a:pA}{o:HO}{H H':Hp}(h:vP a H H'):vP a H (upd H' a o):=λc u b d=>by rw[ZX b];exact h c u b d
theorem Ba{n:Nat}(h:n<=6):n<qd:=by rw[jcD];omega
noncomputable def mq (H:Hp) (c a r g d e:pA) (ns h:List (List Nat)) (i:Nat) (j:L2.St) (b:Hp):Prop:=
 (∃x y z u,j=[nC (.ref a),nC (.ref r),x,y,z,u])/\vP a H b/\b a=nC (.ins c g (OJ d e))/\b d=nC (.dK (numsOf (ns.take i)))/\∃f,b e=nC (.dK f)/\Mp f h i
theorem mq.same{H:Hp}{c a r f d e:pA}{ns g:List (List Nat)}{i:Nat}{j:L2.St}{b Hd:Hp}(S:Z5 b Hd)(h:mq H c a r f d e ns g i j b):mq H c a r f d e ns g i j Hd:=by
 obtain⟨l,m,n,o,t,p,q⟩:=h
 exact⟨l,m.same S,S _ _ n,S _ _ o,t,S _ _ p,q⟩
theorem K3{f:pA}{fd:jaF}(F:Xl K "__init__" "Stock.__init__" Tj f fd)(Tq:mg "enumerate"=su)(Yz:mg "len"=su)
 (Y5:Z3 P w K mg base 1 "is_name" ["thing"] [] (Uq K))
 (Yk:Own K mg "Bid" Zz [])
 (Z7:Own K mg "Only" Zw ["bundle","amount"])
 (ZM:Own K mg "SoMany" Zi ["kind","least","amount"])
 (Z6:Own K mg "UpTo" Zv ["kind","most","each"])
 (ZP:Own K mg "Several" Zm ["bids"])
 (Z0:Own K mg "AnyOf" Zq ["bids"])
 (Z1:Own K mg "OneOf" Zr ["bids"])
 (m:Own K mg "Stock" Zn ["numbers","kinds"]):We P w K mg base Ol 4 f fd ["self","rows"] (Uy K Zn):=by
 refine F.Eg Wl (λvs H Q E h=>?_) (λah A ag s H vs Q E R h=>?_)
 .obtain⟨a,g,r,v,S,rfl,_⟩:=h;rfl
 obtain⟨a,g,r,v,S,rfl,X,RW,G,q⟩:=h
 refine⟨_,(Zd (ZR (ZK R6 (Yw YK rfl Yz jcN (Za (Ze 1) Zb)) Zc (Yb _)) (Zh Y6) ZF)
  (Zd (Xj (Ze 0) El)
  (Zd (Xj (Ze 0) El)
  (Zh (Uz jdK rfl (qK rfl Tq (Za (Ze 1) Zb)) (PQ K 2 rfl (Wg (Ym (i:=2) Wl.nd rfl (jbI rfl)) (Wg (Ym (i:=3) Wl.nd rfl (jbI rfl)) Qj))) (Zd (ZL (i:=4) Wl.nd rfl (jbI rfl) (Z4 (Q4 K) (Ze 3) Zc (λ_ _=>rfl)))
   (Zd (ZL (i:=5) Wl.nd rfl (jbI rfl) (Z4 (Q4 K) (Ze 3) Zc (λ_ _=>rfl)))
   (Zd (ZR (Tg (XN (YF (Yg (Zx Y5 R (by first|decide|omega) rfl (Za (Ze 4) Zb)))) (Xn (ZK (aM R.units) (Ze 4) (Y7 K (Ze 0)) (by with_unfolding_all rfl))))) (Zh Y6) ZF)
   (Zd (ZR (YF (Yg (Zx Y5 R (by first|decide|omega) rfl (Za (Ze 5) Zb)))) (Zh Y6) ZF)
   (Zd (BX R.units (Y7 K (Ze 0)) (Ze 4) (Ze 2))
   (Zh (BX R.units (Y7 K (Ze 0)) (Ze 5) (Zg uT (vZ R.units (Y7 K (Ze 0)) (Ze 5) Zc) (Zg Qe Zc (Ze 2))))))))))))))),?_⟩
 obtain⟨ps,J,Y,Z,ac⟩:=id RW
 refine⟨_,rfl,r,_,rfl,.inl (Yy.of J),_,_,rfl,rfl,_,rfl,QQ (λc=>?_) (λ_=>?_)⟩
 .have c2:(6:Int)<(((ps.map V.ref).length:Nat):Int):=of_decide_eq_true c
  rw[rz,Y]at c2
  have:=G.1
  omega
 refineλd1 t=>⟨_,rfl,a,Zn,g,[],rfl,Zk t _ _ _ X,m.cls,m.no _ (by simp),by decide,λd l=>⟨_,rfl,a,Zn,g,_,rfl,?_,m.cls,m.no _ (by simp),dg "numbers" (.ref d1),?_⟩⟩
 .rw[ZX (Yd Zj l)];exact Zj
 have n1:d1≠a:=λz=>by subst z;rw[X]at t;cases t
 have n2:d≠a:=λz=>by subst z;rw[Zj]at l;cases l
 have B:d≠d1:=λz=>by subst z;rw[ZX n1,Zj]at l;cases l
 have e2:H d=su:=by rw[ZX n2,ZX B]at l;exact l
 have base:mq H Zn a r g d1 d v S 0 [nC (.ref a),nC (.ref r),su,su,su,su] (upd (upd (upd (upd H d1 (.dK [])) a (.ins Zn g (Sv "numbers" (.ref d1) []))) d (.dK [])) a (.ins Zn g (Sv "kinds" (.ref d) (Sv "numbers" (.ref d1) [])))):=by
  refine⟨⟨_,_,_,_,rfl⟩,?_,Zj,?_,[],?_,az S⟩
  .refine vP.self (vP.put (vP.self (vP.put (λb o _ e=>e) t)) e2)
  .rw[ZX n1,ZX (jdh B),ZX n1,Zj];rfl
  .rw[ZX n2,Zj]
 have af:upd (upd (upd (upd H d1 (.dK [])) a (.ins Zn g (Sv "numbers" (.ref d1) []))) d (.dK [])) a (.ins Zn g (Sv "kinds" (.ref d) (Sv "numbers" (.ref d1) []))) r=nC (.lst (ps.map V.ref)):=base.2.1 _ _ (λz=>by subst z;rw[X]at J;cases J) J
 refine⟨_,rfl,r,rfl,⟨_,Yy.of af⟩,lG (xs:=ps.map V.ref) (mq H Zn a r g d1 d v S) base (λi σ T _ h=>Yy.of (h.2.1 _ _ (λz=>by subst z;rw[X]at J;cases J) J)) (λi x p σ T hx hP hp=>?_) (λσ T h=>?_)⟩
 .rw[jcF]at hx
  obtain⟨C,ae,rfl⟩:=jcT.mp hx
  obtain⟨n,k,hn,hk,N⟩:=ac i C ae
  have hi:i<v.length:=(jcP.mp hn).1
  have M:YX n=qm:=G.2.1 n (jcE hn)
  have L:YX k=qm:=G.2.2.2 k (jcE hk)
  have aa:n∉v.take i:=λz=>by
   obtain⟨j,hj,e⟩:=jfT z
   have ai:j<i:=by rw[jcB]at hj;omega
   rw[List.getElem_take]at e
   have:=(jcP.mp hn).2
   exact absurd ((List.getElem_inj G.2.2.1).mp (e.trans this.symm)) (by omega)
  have hv:UV (numsOf (v.take i)) (QJ n)=su:=HR _ n (G.2.2.1.sublist (ji1 _ _)) aa
  have nq:C≠a:=λz=>by subst z;rw[X]at N;cases N
  have ad:=hP.same (Zk hp (.tup [.int (i:Nat),.ref C]))
  obtain⟨⟨x,y,z,u,rfl⟩,W,U,I,kk,h3,O⟩:=ad
  have ab:upd T p (.tup [.int (i:Nat),.ref C]) p=nC (.tup [.int (i:Nat),.ref C]):=Zj
  generalize upd T p (.tup [.int (i:Nat),.ref C])=Hd at W U I h3 ab|-
  have hq:Hd C=nC (.tup [sv n,sv k]):=W _ _ nq N
  refine⟨p,_,rfl,Su.of ab,rfl,_,_,rfl,_,_,rfl,rfl,?_⟩
  refine⟨_,rfl,C,[sv n,sv k],0,sv n,rfl,rfl,Su.of hq,rfl,?_⟩
  refine⟨_,rfl,C,[sv n,sv k],1,sv k,rfl,rfl,Su.of hq,rfl,?_⟩
  refine⟨_,rfl,_,rfl,.inl ⟨n,rfl,yD M,by have:=(Ge M).2;omega,λH1 s1=>?_⟩⟩
  rw[M]
  refine⟨_,rfl,Yn ⟨_,rfl,_,rfl,a,Zn,g,_,.ref d1,rfl,s1 _ _ U,m.cls,m.no _ (by simp),Qt d1 d,d1,_,rfl,Om.k (k:=QJ n) (s1 _ _ I),?_⟩⟩
  rw[hv]
  refine⟨_,rfl,Yn ?_⟩
  refine⟨_,rfl,_,rfl,.inl ⟨k,rfl,yD L,by have:=(Ge L).2;omega,λH2 s2=>?_⟩⟩
  rw[L]
  refine⟨_,rfl,Yn ?_⟩
  have D:=s1.trans s2
  have g1:=D _ _ U
  have g2:=D _ _ I
  have g3:=D _ _ h3
  have gB:=W.same D
  refine⟨_,rfl,_,rfl,a,Zn,g,_,.ref d1,rfl,g1,m.cls,m.no _ (by simp),Qt d1 d,_,rfl,d1,_,rfl,qD.k (k:=QJ n) g2 (by rw[numsOf_len,jcB];exact Ba (by have:=G.1;omega)),?_⟩
  rw[w6 _ hv]
  have e1:numsOf (v.take i)++[(QJ n,V.int (i:Nat))]=numsOf (v.take (i+1)):=by
   rw[jeY,hn]
   show _=numsOf (v.take i++[n])
   rw[MF,jcB,jdJ (jer hi)]
  rw[e1]
  have k1:upd H2 d1 (.dK (numsOf (v.take (i+1)))) a=nC (.ins Zn g (OJ d1 d)):=by rw[ZX (jdh n1)];exact g1
  have k3:upd H2 d1 (.dK (numsOf (v.take (i+1)))) d=nC (.dK kk):=by rw[ZX B];exact g3
  refine⟨_,rfl,a,Zn,g,_,.ref d,rfl,k1,m.cls,m.no _ (by simp),Mt d1 d,d,rfl,.inl ⟨_,.inl k3⟩,_,rfl,_,Om.k (k:=QJ k) k3,?_⟩
  have eo:((UV kk (QJ k)).getD (.int 0))=nv (Wb S k i):=by
   rw[O.2 k]
   by_cases hm:k∈S.take i
   .rw[if_pos hm];rfl
   .rw[if_neg hm,Dz hm];rfl
  rw[eo]
  refine⟨_,rfl,i,rfl,rfl,by have:=G.1;omega,_,_,rfl,rfl,?_⟩
  refine⟨_,rfl,a,Zn,g,_,.ref d,rfl,k1,m.cls,m.no _ (by simp),Mt d1 d,_,rfl,d,_,rfl,qD.k (k:=QJ k) k3 (Ba (by have:=O.1;have:=G.1;omega)),?_⟩
  refine⟨⟨_,_,_,_,rfl⟩,(gB.put t).put e2,?_,?_,_,Zj,pP O hk⟩
  .rw[ZX (jdh n2)];exact k1
  .rw[ZX (jdh B),Zj]
 .obtain⟨_,W,U,I,kk,h3,O⟩:=h
  rw[rz,Y]at I O
  refine q T W ⟨g,d1,d,kk,U,?_,h3,by rw[Z];exact O,Z,G⟩
  rw[jc2]at I;exact I
end
noncomputable def low (l:List Nat):Bool:=l.all λc=>decide (97<=c)&&decide (c<=122)
theorem HJ{l:List Nat}(a:1<=l.length)(b:l.length<=8)(h:low l=qm):YX l=qm:=by
 unfold YX
 rw[decide_eq_true a,decide_eq_true b]
 exact h
theorem rE{l m:List Nat}(h:low l=qm)(a:low m=qm):low (l++m)=qm:=by unfold low at*;rw[List.all_append,h,a];rfl
theorem yp{l m:List Nat}(h:low l=qm)(b:∀c∈m,c∈l):low m=qm:=by
 unfold low at*
 rw[jcV]at*
 exactλc a=>h c (b c a)
noncomputable def iM (c:Int):Nat->Int
 |0=>c
 |k+1=>iM c k/26
noncomputable def dig (c:Int) (k:Nat):Nat:=97+(iM c k %26).toNat
noncomputable def Ss (c:Int) (n:Nat):List Nat:=(jc4 n).map (dig c)
theorem Tv(c:Int)(n:Nat):(Ss c n).length=n:=by simp[Ss]
theorem gm(c:Int)(k:Nat):97<=dig c k/\dig c k<=122:=by
 unfold dig
 have a:=jd4 (iM c k) (show(26:Int)≠0 by decide)
 have b:=jeq (iM c k) (show(0:Int)<26 by decide)
 omega
theorem GC(c:Int)(n:Nat):low (Ss c n)=qm:=by
 unfold low Ss
 rw[jcV]
 intro x a
 obtain⟨k,_,rfl⟩:=jdT.mp a
 have:=gm c k
 simp only[jbE,decide_eq_true_eq];exact this
theorem tW(c:Int)(n:Nat):Ss c (n+1)=Ss c n++[dig c n]:=by simp[Ss,jfq]
theorem iH{c:Int}{n:Nat}(a:1<=n)(b:n<=8):YX (Ss c n)=qm:=HJ (by rw[Tv];exact a) (by rw[Tv];exact b) (GC c n)
noncomputable def GF (ns:List (List Nat)) (m:Nat):Prop:=ns.length=m/\(∀n∈ns,YX n=qm)/\ns.Nodup
theorem GF.reverse{ns:List (List Nat)}{m:Nat}(h:GF ns m):GF ns.reverse m:=⟨by rw[jgP];exact h.1,λn a=>h.2.1 n (List.mem_reverse.mp a),by rw[jeL,List.pairwise_reverse];exact(jeL.mp h.2.2).imp λh e=>h e.symm⟩
theorem wu{f:Nat->List Nat}{m:Nat}(d:∀k,k<m->YX (f k)=qm)(g:∀i j,i<m->j<m->f i=f j->i=j):GF ((jc4 m).map f) m:=by
 refine⟨by simp,λn p=>?_,?_⟩
 .obtain⟨k,o,rfl⟩:=jdT.mp p
  exact d k (jd0.mp o)
 .rw[jeL,List.pairwise_map]
  refine List.Pairwise.imp_of_mem (λ{a b}h l c e=>c (g a b (jd0.mp h) (jd0.mp l) e)) (jeL.mp List.nodup_range)
theorem lR(b:List Nat)(m:Nat)(n:m<=6)(f:b.length=8)(d:low b=qm):GF ((jc4 m).map λk=>b.take (k+1)) m:=by
 refine wu (λk l=>HJ (by rw[jcB];omega) (by rw[jcB];omega) (yp d λc a=>jd1 a)) λi j g h e=>?_
 have:=congrArg jd7 e
 rw[jcB,jcB]at this
 omega
noncomputable def iG:List (List Nat):=["up","to","of","for","each","any","one","nothing"].map λx:String=>(jh x).cps.toList
noncomputable def lO (ns:List (List Nat)) (m:Nat):Bool:=decide (ns.length=m)&&(ns.all YX&&decide ns.Nodup)
theorem lQ{ns:List (List Nat)}{m:Nat}(h:lO ns m=qm):GF ns m:=by
 unfold lO at h
 simp only[jbE,decide_eq_true_eq]at h
 exact⟨h.1,jcV.mp h.2.1,h.2.2⟩
theorem lU:∀a,a<8->∀m,m<7->lO (((iG++iG).drop a).take m) m=qm:=by decide+kernel
noncomputable def third (b:List Nat) (size at_:Nat) (x m:Int) (k:Nat):List Nat:=(b.take at_++Ss (x+(k:Int)*m) 1)++(b.drop (at_+1)).take (size-(at_+1))
theorem uz{b:List Nat}{size at_ m:Nat}{x st:Int}(v:b.length=8)(g:low b=qm)(o:1<=size)(p:size<=8)(u:at_<size)(A:m<=6)(B:0<=x/\x<26)(q:1<=st/\st<=4):
 GF ((jc4 m).map (third b size at_ x st)) m:=by
 have a:∀k,(third b size at_ x st k).length=size:=λk=>by
  unfold third
  simp only[O1,jcB,jcG,Tv]
  omega
 refine wu (λk z=>HJ (by rw[a];exact o) (by rw[a];exact p) ?_) λi j w y e=>?_
 .exact rE (rE (yp g λc d=>jd1 d) (GC _ _)) (yp g λc d=>jeu (jd1 d))
 .unfold third at e
  have h:=(jh6 e (by simp[Tv])).1
  have l:=(jh6 h rfl).2
  have n:dig (x+(i:Int)*st) 0=dig (x+(j:Int)*st) 0:=by
   have:[dig (x+(i:Int)*st) 0]=[dig (x+(j:Int)*st) 0]:=l
   simpa using this
  unfold dig iM at n
  have r:=jd4 (x+(i:Int)*st) (show(26:Int)≠0 by decide)
  have t:=jd4 (x+(j:Int)*st) (show(26:Int)≠0 by decide)
  obtain⟨C,D⟩:=q
  have f:st=1\/st=2\/st=3\/st=4:=by omega
  rcases f with rfl|rfl|rfl|rfl<;>omega
theorem xW(l:List Nat)(k:Nat):Vp l su (nC (k:Int))=l.take k:=by
 unfold Vp
 rw[HT.Um,HT.jV,jfE,Nat.sub_zero]
 by_cases h:k<=l.length
 .rw[jdJ h]
 .rw[jfg (by omega),jdp (U6 _),jdp (by omega)]
theorem gj(l:List Nat)(a b:Nat)(c:a<=l.length)(d:b<=l.length):Vp l (nC (a:Int)) (nC (b:Int))=(l.drop a).take (b-a):=by
 unfold Vp
 rw[HT.Um,HT.Um,jdJ c,jdJ d]
noncomputable def Gy (d:oh):Sp:=λb H Q _=>∃(c:Int)(n:Nat),b=[.int c,.int (n:Int)]/\n<=8/\∀a,Z5 H a->Q (sv (Ss c n)) a
noncomputable def Bd (K:oh):Sp:=λe H Q _=>∃(a:pA)(d:List Int)(m:Nat),e=[.ref a,.int (m:Int)]/\Yy K H a (d.map V.int)/\m<=6/\∀l b c,Z5 H b->H l=su->b l=nC (.lst (c.map sv))->GF c m->Q (.ref l) b
noncomputable def Bc (K:oh):Sp:=λf H Q _=>∃(a l:pA)(e:List Int)(b:List (List Nat)),f=[.ref a,.ref l]/\Yy K H a (e.map V.int)/\H l=nC (.lst (b.map sv))/\b.length<=6/\(∀n∈b,YX n=qm)/\
 ∀(p:pA)(c:Hp)(d:List (List Nat)),Z5 H c->H p=su->c p=nC (.lst (d.map sv))->d.length=b.length->(∀k∈d,YX k=qm)->Q (.ref p) c
section
variable{P:jcz}{w:jcS}{K:oh}{mg:Str->Option pL}{base:jcX}
theorem gQ(i:Nat)(h:i<26):Ac (jh "abcdefghijklmnopqrstuvwxyz").cps.toList (i:Int)=nC (97+i):=by
 have z:∀i,i<26->(jh "abcdefghijklmnopqrstuvwxyz").cps.toList[i]?=nC (97+i):=by decide+kernel
 exact FQ (z i h)
theorem oH{f:pA}{v:jaF}(F:Xl K "_law_word" "_law_word" Cw f v)(r:mg "_law_word"=nC (.ref f))(o:mg "range"=su)(m:mg "divmod"=su):Z3 P w K mg base 1 "_law_word" ["_law_cell_here","_law_size"] [] (Gy K):=by
 refine F.Yp r (VF F λ_ _ _ _ _ _ _ _=>rfl) Rh (λB H Q E h=>?_) (λt A d s H B Q E I h=>?_)
 .obtain⟨c,n,rfl,_⟩:=h;rfl
 obtain⟨c,n,rfl,G,q⟩:=h
 refine⟨_,(Zd (ZL (i:=2) Rh.nd rfl (jbI rfl) Zf)
  (Zd (ZL (i:=3) Rh.nd rfl (jbI rfl) Zf)
  (Zd (Uz jdK rfl (Wr rfl o (Za (Ze 1) Zb)) (Ym (i:=4) Rh.nd rfl (jbI rfl)) (Zd (xK (Yw GR rfl m (boot_divmod) (Za (Ze 0) (Za Zc Zb))) (PQ K 2 rfl (Wg (Ym (i:=0) Rh.nd rfl (jbI rfl)) (Wg (Ym (i:=5) Rh.nd rfl (jbI rfl)) Qj))))
   (Zh (ZL (i:=3) Rh.nd rfl (jbI rfl) (Zg Zy (Ze 3) (Z4 Jo (Ze 2) (Ze 5) (λ_ _=>rfl)))))))
  (Zh (ZC (Ze 3)))))),?_⟩
 refine⟨_,rfl,_,rfl,by omega,by omega,?_⟩
 refine Kp (λi j a=>(∃x y,j=[nC (.int (iM c i)),nC (.int (n:Int)),nC (.str "abcdefghijklmnopqrstuvwxyz"),nC (sv (Ss c i)),x,y])/\Z5 H a) ⟨⟨_,_,rfl⟩,Z5.refl _⟩ (λi j a l b=>?_) (λj a b=>?_)
 .obtain⟨⟨x,y,rfl⟩,g⟩:=b
  have l:i<n:=by simpa using l
  refine⟨_,rfl,_,_,rfl,⟨by decide,by decide⟩,λp z=>⟨p,_,rfl,Su.of Zj,rfl,_,_,rfl,_,_,rfl,rfl,?_⟩⟩
  have C:=jd4 (iM c i) (show(26:Int)≠0 by decide)
  have D:=jeq (iM c i) (show(0:Int)<26 by decide)
  have e:iM c i %26=(((iM c i %26).toNat:Nat):Int):=by omega
  refine⟨_,rfl,_,rfl,_,rfl,_,_,dig c i,rfl,rfl,by decide,?_,_,_,rfl,rfl,?_,?_⟩
  .rw[e];exact gQ _ (by omega)
  .show(tx (Ss c i)).length+1<=qd
   rw[Yo,Tv,jcD];omega
  .have u:sv (Ss c (i+1))=V.str (tx (Ss c i)++⟨#[dig c i]⟩):=by
    show V.str (tx (Ss c (i+1)))=_
    rw[tW,<-Xq];rfl
   rw[u]
   exact⟨⟨_,_,rfl⟩,g.trans (Zk z _)⟩
 .obtain⟨⟨x,y,rfl⟩,g⟩:=b
  have e:(((n:Int)).toNat)=n:=by simp
  rw[e]
  exact⟨_,rfl,q a g⟩
theorem aD{l:List Nat}(h:l.length<=8):l.length<=qd:=by rw[jcD];omega
theorem vp{H H':Hp}{l:pA}(S:Z5 H H')(h:H' l=su):H l=su:=by
 cases e:H l with
 |none=>rfl
 |some o=>rw[S _ _ e]at h;cases h
theorem mR(xs:List V)(a m:Nat)(h:a+m<=xs.length):xV xs (nC (a:Int)) (nC ((a+m:Nat):Int))=(xs.drop a).take m:=by
 unfold xV
 rw[HT.Um,HT.Um,jdJ (show a<=xs.length by omega),jdJ h,jfe]
theorem jaD:[V.str "up",V.str "to",V.str "of",V.str "for",V.str "each",V.str "any",V.str "one",V.str "nothing"]=iG.map sv:=by
 have z:∀x:String,sv (jh x).cps.toList=V.str (jh x):=λx=>congrArg V.str (Ha _).symm
 unfold iG
 simp only[jdy,jgb,z]
theorem modn(c:Int)(m:Nat)(h:0<m):∃u:Nat,c %(m:Int)=(u:Int)/\u<m:=by
 have a:=jd4 c (show(m:Int)≠0 by omega)
 have b:=jeq c (show(0:Int)<(m:Int)by omega)
 exact⟨(c %(m:Int)).toNat,by omega,by omega⟩
theorem uO{f:pA}{fd:jaF}(F:Xl K "_law_names" "_law_names" KC f fd)(ZZ:mg "_law_names"=nC (.ref f))(Y9:mg "range"=su)(Vs:mg "list"=su)(Jq:mg "reversed"=su)
 (T:Z3 P w K mg base 1 "_law_cell" ["_law_script","_law_k"] [] (Og K))
 (Qn:Z3 P w K mg base 1 "_law_word" ["_law_cell_here","_law_size"] [] (Gy K)):Z3 P w K mg base 2 "_law_names" ["_law_script","_law_many"] [] (Bd K):=by
 refine F.Yp ZZ (VF F λ_ _ _ _ _ _ _ _=>rfl) Wh (λvs H Q E h=>?_) (λaf A ae s H vs Q E L h=>?_)
 .obtain⟨a,j,m,rfl,_⟩:=h;rfl
 obtain⟨a,j,m,rfl,X,hm,q⟩:=h
 refine⟨_,(Zd (ZL (i:=2) Wh.nd rfl (jbI rfl) (Zg YZ (Zx T L (by first|decide|omega) rfl (Za (Ze 0) (Za Zc Zb))) Zc))
  (Zd (ZL (i:=3) Wh.nd rfl (jbI rfl) (Zx T L (by first|decide|omega) rfl (Za (Ze 0) (Za Zc Zb))))
  (Zd (ZL (i:=4) Wh.nd rfl (jjB rfl) (Zx Qn L (by first|decide|omega) rfl (Za (Zx T L (by first|decide|omega) rfl (Za (Ze 0) (Za Zc Zb))) (Za Zc Zb))))
  (Zd (ZR (ZK Xv (Ze 2) Zc (Yb _)) (Zd (Eo (i:=5) (ZJ KC) ["_law_script","_law_many","_law_way","_law_cell_here","_law_base","_law_found","_law_some","_law_size","_law_at","_law_k","_law_letter"] ["_law_k"] ["_law_base"] [4] Wh.nd rfl (jbI rfl) rfl rfl rfl rfl rfl ⟨s.heap.objs.size+1,rfl⟩ rfl rfl (by decide+kernel) (Wr rfl Y9 (Za (Ze 1) Zb)) (λC R S fp=>(Ym (i:=0) (show jdM (["_law_k","_law_base"]:List Str)from by decide+kernel) rfl (jbI rfl))) (λC R S fp=>Wu) (λC R S fp=>(Yc YM (Ze 1) X7 (ZW (Zg Yh (Ze 0) Zc)))))
   (Zd (ZR (ZK Xv (Zg YZ (Ze 3) Zc) Zc (Yb _)) (Zh (ZL (i:=5) Wh.nd rfl (jbI rfl) (zU rfl rfl Vs rfl Jq (Ze 5)))) ZF)
   (Zh (ZC (Ze 5))))) ZF)
  (Zd (ZR (ZK Xv (Ze 2) Zc (Yb _)) (Zd (ZL (i:=6) Wh.nd rfl (jbI rfl) (Zg aP (ZV (Za Zf (Za Zf (Za Zf (Za Zf (Za Zf (Za Zf (Za Zf (Za Zf Zb))))))))) Zc))
   (Zh (ZC (Yc dq (Ze 6) (ZW (Zg (Fp YZ) (Ze 3) Zc)) (ZW (Zg (Xc Yh) (Zg (Fp YZ) (Ze 3) Zc) (Ze 1))))))) ZF)
  (Zd (ZL (i:=7) Wh.nd rfl (jbI rfl) (Zg (Xc Yh) Zc (Zg (Fp YZ) (Ze 3) Zc)))
  (Zd (ZL (i:=8) Wh.nd rfl (jbI rfl) (Zg (Fp YZ) (Zg Va (Ze 3) Zc) (Ze 7)))
  (Zd (ZL (i:=5) Wh.nd rfl (jbI rfl) (ZV Zb))
  (Zd (Uz jdK rfl (Wr rfl Y9 (Za (Ze 1) Zb)) (Ym (i:=9) Wh.nd rfl (jbI rfl)) (Zd (ZL (i:=10) Wh.nd rfl (jbI rfl) (Zx Qn L (by first|decide|omega) rfl (Za (Zg Yh (Zg YZ (Zg Va (Ze 3) Zc) Zc) (Zg Qc (Ze 9) (Zg Yh Zc (Zg YZ (Zg Va (Ze 3) Zc) Zc)))) (Za Zc Zb))))
   (Zh (Yx (WP (Ze 5) (Za (Zg Zy (Zg Zy (Yc YM (Ze 4) X7 (ZW (Ze 8))) (Ze 10)) (Yc YM (Ze 4) (ZW (Zg Yh (Ze 8) Zc)) (ZW (Ze 7)))) Zb))))))
  (Zh (ZC (Ze 5)))))))))))),?_⟩
 refine⟨_,rfl,a,j,1,rfl,X,by decide,λH1 s1=>⟨_,_,rfl,rfl,(by show(0:Int)<4;decide),?_⟩⟩
 refine⟨_,rfl,a,j,3,rfl,s1.seq X,by decide,λS R=>?_⟩
 have M:=s1.trans R
 refine⟨_,rfl,a,j,2,rfl,M.seq X,by decide,λH3 s3=>⟨_,8,rfl,by decide,λH4 s4=>?_⟩⟩
 have d:=M.trans (s3.trans s4)
 have Y:=Tv (VP j 2) 8
 have r:=GC (VP j 2) 8
 have c0:=z8 j 3
 generalize Ss (VP j 2) 8=b at Y r|-
 generalize VP j 1 %4=ai
 generalize VP j 3=c at c0|-
 have em:((m:Int)).toNat=m:=by simp
 obtain⟨u,hu,aa⟩:=modn c 8 (by decide)
 refine⟨_,rfl,rfl,_,rfl,QQ (λ_=>?_) (λ_=>?_)⟩
 .refine⟨_,rfl,(m:Int),rfl,by omega,by omega,λl D=>?_⟩
  rw[em]
  refine T5 (λ_=>qm) (λk=>sv (b.take (k+1))) (by omega) D (λk g hk o C kk=>kk g (Z5.refl _)) (λk g hk _ o C kk=>?_) (λg o t=>?_)
  .refine⟨_,rfl,_,rfl,_,_,rfl,rfl,_,rfl,b,rfl,aD (by omega),?_⟩
   have e:(0+(k:Int)+1)=((k+1:Nat):Int):=by push_cast;omega
   rw[e,xW]
   exact kk g (Z5.refl _)
  .have B:g l=nC (.lst (((jc4 m).map λk=>b.take (k+1)).map sv)):=by
    rw[t,jfb.mpr (λ_ _=>rfl),jdq];rfl
   have n:H l=su:=vp d D
   have O:=lR b m hm Y r
   refine⟨_,rfl,_,_,rfl,rfl,(by show(0:Int)<2;decide),rfl,_,rfl,QQ (λ_=>?_) (λ_=>?_)⟩
   .refine⟨_,rfl,l,_,rfl,B,λp hp=>?_⟩
    have U:upd g p (.lst (((jc4 m).map λk=>b.take (k+1)).map sv).reverse) p=nC (.lst ((((jc4 m).map λk=>b.take (k+1)).reverse).map sv)):=by rw[Zj,List.map_reverse]
    exact⟨_,rfl,q p _ _ ((d.trans o).trans (Zk hp _)) (vp (d.trans o) hp) U O.reverse⟩
   .exact⟨_,rfl,q l g _ (d.trans o) n B O⟩
 .refine⟨_,rfl,rfl,_,rfl,QQ (λ_=>?_) (λ_=>?_)⟩
  .refine⟨(by show 8<=qd;decide),λp1 G=>⟨p1,2,_,rfl,rfl,Zj,by decide,by decide,(by show 8*2<=qd;decide),λp2 I=>?_⟩⟩
   have N:(c %8:Int)=((u:Nat):Int):=hu
   refine⟨_,rfl,_,rfl,_,_,nv u,rfl,rfl,(by show(0:Int)<8;decide),congrArg V.int N,_,rfl,_,rfl,_,_,nv u,rfl,rfl,(by show(0:Int)<8;decide),congrArg V.int N,_,rfl,_,_,nv (u+m),rfl,rfl,?_,_,rfl,p2,_,rfl,Yy.of Zj,λp3 J=>?_⟩
   .show V.int ((u:Int)+(m:Int))=V.int ((u+m:Nat):Int)
    push_cast;rfl
   have e9:(jcU (Int.toNat 2) [V.str "up",V.str "to",V.str "of",V.str "for",V.str "each",V.str "any",V.str "one",V.str "nothing"]).flatten=(iG++iG).map sv:=by
    rw[jaD,jcA]
    show(jcU 2 (iG.map sv)).flatten=_
    simp[jcU]
   have Z:(iG++iG).length=16:=by decide
   rw[e9,mR _ u m (by rw[rz,Z];omega),<-List.map_drop,<-List.map_take]
   refine q p3 _ (((iG++iG).drop u).take m) (((d.trans (Zk G _)).trans (Zk I _)).trans (Zk J _)) (vp ((d.trans (Zk G _)).trans (Zk I _)) J) Zj (lQ (lU u aa m (by omega)))
  .obtain⟨v,hv,ab⟩:=modn (c/8) (1+u) (by omega)
   have ac:=jd4 (c/64) (show(26:Int)≠0 by decide)
   have ad:=jeq (c/64) (show(0:Int)<26 by decide)
   have ag:=jd4 (c/1664) (show(4:Int)≠0 by decide)
   have ah:=jeq (c/1664) (show(0:Int)<4 by decide)
   have O:=uz (m:=m) (x:=c/64 %26) (st:=1+c/1664 %4) Y r (size:=1+u) (at_:=v) (by omega) (by omega) ab hm ⟨ac,ad⟩ (by omega)
   refine⟨_,rfl,_,_,nv u,rfl,rfl,(by show(0:Int)<8;decide),congrArg V.int hu,_,_,nv (1+u),rfl,rfl,?_,?_⟩
   .show V.int ((1:Int)+(u:Int))=V.int ((1+u:Nat):Int)
    push_cast;rfl
   refine⟨_,rfl,_,_,rfl,rfl,⟨by decide,by decide⟩,_,rfl,_,_,nv v,rfl,rfl,?_,congrArg V.int hv,?_⟩
   .show(0:Int)<((1+u:Nat):Int)
    omega
   refine⟨(by show 0<=qd;decide),λl D=>?_⟩
   have n:=vp d D
   refine⟨_,rfl,(m:Int),rfl,by omega,by omega,?_⟩
   rw[em]
   refine Kp (λi σ g=>(∃z x y,σ=[nC (.ref a),nC (.int (m:Int)),z,nC (.int c),nC (sv b),nC (.ref l),su,nC (nv (1+u)),nC (nv v),x,y])/\Z5 H g/\g l=nC (.lst (((jc4 i).map (third b (1+u) v (c/64 %26) (1+c/1664 %4))).map sv))) ⟨⟨_,_,_,rfl⟩,d.trans (Zk D _),Zj⟩ (λi σ g hi W=>?_) (λσ g W=>?_)
   .obtain⟨⟨z,x,y,rfl⟩,o,t⟩:=W
    refine⟨_,rfl,_,_,rfl,rfl,⟨by decide,by decide⟩,_,_,rfl,rfl,(by show(0:Int)<26;decide),_,rfl,_,rfl,_,_,rfl,rfl,⟨by decide,by decide⟩,_,_,rfl,rfl,(by show(0:Int)<4;decide),_,_,rfl,rfl,_,_,rfl,rfl,Tt (by omega),_,_,rfl,rfl,_,1,rfl,by decide,λH6 s6=>?_⟩
    have e0:(0+(i:Int))=(i:Int):=by omega
    have B:=s6 _ _ t
    have lb:(tx (Vp b su (nC (v:Int)))).length<=8:=by rw[Yo];exact jc9 (Dg _ _ _) (by omega)
    have lc:(tx (Vp b (nC ((v:Int)+1)) (nC ((1+u:Nat):Int)))).length<=8:=by rw[Yo];exact jc9 (Dg _ _ _) (by omega)
    have lw:(tx (Ss (c/64 %26+(0+(i:Int))*(1+c/1664 %4)) 1)).length=1:=by rw[Yo,Tv]
    refine⟨_,rfl,.inl ⟨rfl,_,Yy.of B⟩,_,rfl,_,rfl,_,rfl,b,rfl,aD (by omega),_,rfl,_,_,rfl,rfl,(by rw[jcD];omega),_,rfl,_,rfl,_,_,rfl,rfl,_,rfl,_,rfl,_,rfl,b,rfl,aD (by omega),_,_,rfl,rfl,?_,l,_,_,rfl,rfl,B,?_,?_⟩
    .rw[Xq,Yo,O1,Tv,jcD]
     rw[Yo]at lb
     omega
    .rw[rz,rz,jeX,jcD]
     omega
    .refine⟨⟨_,_,_,rfl⟩,(o.trans s6).upd n _,?_⟩
     rw[Zj,Xq,Xq,jfq,jcA,jcA]
     have U:Vp b su (nC (v:Int))=b.take v:=xW b v
     have N:Vp b (nC ((v:Int)+1)) (nC ((1+u:Nat):Int))=(b.drop (v+1)).take (1+u-(v+1)):=by
      have:=gj b (v+1) (1+u) (by omega) (by omega)
      push_cast at this|-
      exact this
     rw[U,N,e0]
     rfl
   .obtain⟨⟨z,x,y,rfl⟩,o,t⟩:=W
    exact⟨_,rfl,q l g _ o n t O⟩
theorem uN{f:pA}{fd:jaF}(F:Xl K "_law_kinds" "_law_kinds" Kz f fd)(ZZ:mg "_law_kinds"=nC (.ref f))(Y9:mg "range"=su)(Yz:mg "len"=su)
 (Qn:Z3 P w K mg base 1 "_law_word" ["_law_cell_here","_law_size"] [] (Gy K))
 (R:Z3 P w K mg base 1 "_law_cell" ["_law_script","_law_k"] [] (Og K)):Z3 P w K mg base 2 "_law_kinds" ["_law_script","_law_names_here"] [] (Bc K):=by
 refine F.Yp ZZ (VF F λ_ _ _ _ _ _ _ _=>rfl) Cz (λvs H Q E h=>?_) (λab A aa s H vs Q E J h=>?_)
 .obtain⟨a,l,d,e,rfl,_⟩:=h;rfl
 obtain⟨a,l,d,e,rfl,S,hl,hm,W,q⟩:=h
 refine⟨_,(Zd (ZL (i:=2) Cz.nd rfl (jjB rfl) (ZV (Za (Zx Qn J (by first|decide|omega) rfl (Za (Zx R J (by first|decide|omega) rfl (Za (Ze 0) (Za Zc Zb))) (Za (Zg (Xc Yh) Zc (Zg YZ (Zx R J (by first|decide|omega) rfl (Za (Ze 0) (Za Zc Zb))) Zc)) Zb))) (Za (Z4 (YH K) (Zg Vv (Ze 1) (ZV (Za Zf Zb))) Zc (λ_ _=>rfl)) (Za Zf Zb)))))
  (Zh (ZC (XH (ZJ Kz) ["_law_script","_law_names_here","_law_pool"] ["_law_k"] ["_law_pool","_law_script"] [2,0] rfl rfl rfl ⟨s.heap.objs.size+1,rfl⟩ rfl rfl (by decide+kernel) (Wr rfl Y9 (Za (Yw YK rfl Yz jcN (Za (Ze 1) Zb)) Zb)) (λC N O fp=>(Ym (i:=0) (show jdM (["_law_k","_law_pool","_law_script"]:List Str)from by decide+kernel) rfl (jbI rfl))) (λC N O fp=>Wu) (λC N O fp=>(Z4 (YH K) (Ze 1) (Zg (Fp YZ) (Zg Va (Zx R J (by first|decide|omega) rfl (Za (Ze 2) (Za Zc Zb))) (Zg Yh Zc (Zg Qc (Ze 0) (Ze 0)))) Zc) (λ_ _=>rfl))))))),?_⟩
 obtain⟨u,hu,ae⟩:=modn (VP d 4) 8 (by decide)
 refine⟨_,rfl,a,d,4,rfl,S,by decide,λH1 s1=>⟨_,rfl,a,d,4,rfl,s1.seq S,by decide,λO N=>?_⟩⟩
 refine⟨_,_,rfl,rfl,(by show(0:Int)<8;decide),_,_,nv (1+u),rfl,rfl,?_,?_⟩
 .show V.int ((1:Int)+VP d 4 %8)=V.int ((1+u:Nat):Int)
  have:VP d 4 %8=(u:Int):=hu
  rw[this];push_cast;rfl
 refine⟨_,1+u,rfl,by omega,λH3 s3=>?_⟩
 have hw:YX (Ss (VP d 4) (1+u))=qm:=iH (by omega) (by omega)
 generalize Ss (VP d 4) (1+u)=b at hw|-
 have y:=(s1.trans N).trans s3
 refine⟨_,rfl,(by show 1<=qd;decide),λp1 x=>⟨l,p1,_,_,rfl,rfl,Zk x _ _ _ (y _ _ hl),Zj,?_,λp2 X=>?_⟩⟩
 .rw[rz,jcD]
  show e.length+1<=_
  omega
 obtain⟨c,U,e0⟩:∃c,YX c=qm/\(e.map sv++[V.str "any"])[0]?=nC (sv c):=by
  cases e with
  |nil=>exact⟨(jh "any").cps.toList,by decide,by show nC (V.str (jh "any"))=_;rw[Ha (jh "any")];simp[Wd]⟩
  |cons n e=>exact⟨n,W n (by simp),rfl⟩
 refine⟨p2,_,0,sv c,rfl,rfl,Yy.of Zj,FQ (j:=0) e0,(by show 3<=qd;decide),λM Y=>?_⟩
 have B:=((y.trans (Zk x _)).trans (Zk X _)).trans (Zk Y (.lst [sv b,sv c,V.str "one"]))
 have I:upd (upd (upd H3 p1 (.lst [V.str "any"])) p2 (.lst (e.map sv++[V.str "any"]))) M (.lst [sv b,sv c,V.str "one"]) M=nC (.lst [sv b,sv c,V.str "one"]):=Zj
 generalize upd (upd (upd H3 p1 (.lst [V.str "any"])) p2 (.lst (e.map sv++[V.str "any"]))) M (.lst [sv b,sv c,V.str "one"])=H4 at B I|-
 have r:V.str "one"=sv (jh "one").cps.toList:=congrArg V.str (Ha _)
 rw[r]at I
 have g:YX (jh "one").cps.toList=qm:=by decide
 generalize(jh "one").cps.toList=one at I g
 refine⟨_,rfl,l,_,rfl,.inl (Yy.of (B _ _ hl)),_,rfl,by rw[rz];omega,by rw[rz];omega,λp hp=>?_⟩
 have en:(((e.map sv).length:Nat):Int).toNat=e.length:=by rw[rz];simp
 rw[en]
 have m:∀k:Nat,∃v:Nat,VP d 5/(1+(0+(k:Int))*(0+(k:Int))) %3=(v:Int)/\v<3:=λk=>modn _ 3 (by decide)
 refine T5 (λ_=>qm) (λk=>sv ([b,c,one].getD (VP d 5/(1+(0+(k:Int))*(0+(k:Int))) %3).toNat b)) (by omega) hp (λk G T D C Z=>Z G (Z5.refl _)) (λk G T _ D C Z=>?_) (λG D e5=>?_)
 .obtain⟨v,L,o⟩:=m k
  have t:k<=5:=by omega
  have ad:(0+(k:Int))*(0+(k:Int))<=25:=by
   have:k*k<=5*5:=Nat.mul_le_mul t t
   rw[jeE]
   exact_mod_cast this
  have ac:0<=(0+(k:Int))*(0+(k:Int)):=Int.mul_nonneg (by omega) (by omega)
  refine⟨_,rfl,_,rfl,a,d,5,rfl,(B.trans D).seq S,by decide,λH6 s6=>?_⟩
  refine⟨_,rfl,_,rfl,_,_,rfl,rfl,Tt (by omega),_,_,rfl,rfl,_,_,rfl,rfl,⟨by omega,by omega⟩,_,_,nv v,rfl,rfl,(by show(0:Int)<3;decide),congrArg V.int L,M,_,_,sv ([b,c,one].getD v b),rfl,rfl,Yy.of ((D.trans s6) _ _ I),FQ ?_,?_⟩
  .have:∀v,v<3->[sv b,sv c,sv one][v]?=nC (sv ([b,c,one].getD v b)):=λv h=>by
    match v,h with
    |0,_=>rfl
    |1,_=>rfl
    |2,_=>rfl
   exact this v o
  .have z:=Z H6 s6
   rw[L,jdD]at z
   exact z
 .refine q p G ((jc4 e.length).map λk:Nat=>[b,c,one].getD (VP d 5/(1+(0+(k:Int))*(0+(k:Int))) %3).toNat b) (B.trans D) (vp B hp) ?_ (by simp) λk T=>?_
  .rw[e5,jfb.mpr (λ_ _=>rfl),jdq];rfl
  .obtain⟨j,_,rfl⟩:=jdT.mp T
   obtain⟨v,L,o⟩:=m j
   rw[L,jdD]
   have:∀v,v<3->YX ([b,c,one].getD v b)=qm:=λv h=>by
    match v,h with
    |0,_=>exact hw
    |1,_=>exact U
    |2,_=>exact g
   exact this v o
end
noncomputable def kdOf (a:List (List Nat)):List Nat->Nat->Prop:=λk b=>k∈a/\b=Wb a k a.length
noncomputable def rA (o:Option Str) (w:Str):Bool:=match o with|none=>qm|some s=>decide (s=w)
noncomputable def Mf (b:List Str) (a:List (Option Str)):Bool:=decide (b.length=a.length)&&((b.zip a).all λp=>rA p.2 p.1)
noncomputable def oV:Option Str->V|none=>.non|some s=>.str s
theorem Q6{n:List Nat}(h:YX n=qm):W8 n:=by
 have l:=Ge h
 unfold YX at h
 rw[jbE]at h
 refine⟨l.1,l.2,λc a=>?_⟩
 have:=jcV.mp h.2 c a
 rw[jbE]at this
 exact⟨of_decide_eq_true this.1,of_decide_eq_true this.2⟩
noncomputable def N7 (c:oh):Sp:=λb H Q _=>∃m:Int,b=[.str (jh (jda m))]/\0<=m/\m<10^10/\∀a,Z5 H a->Q (.bl qm) a
noncomputable def Ur (c:oh):Sp:=λb H Q _=>∃m:Int,b=[.str (jh (jda m))]/\0<=m/\m<10^10/\∀a,Z5 H a->Q (.int m) a
noncomputable def GK (K:oh) (Zz Zw Zi Zv Zm Zq Zr Zn:pA):pA->Sp->Prop:=λC a=>(C=Zn/\a=X5 K Zn)
noncomputable def Aa (K:oh) (Zz Zw Zi Zv Zm Zq Zr Zn:pA):pA->Sp->Prop:=λC a=>(C=Zn/\a=WD K Zn)
noncomputable def Td (h:oh) (Zz Zw Zi Zv Zm Zq Zr Zn:pA):Sp:=λg H Q _=>∃(f:List Nat)(a:pA)(e d:List (List Nat))(b:Nat),g=[.str (tx f),.ref a]/\Yu Zn H a e d/\Wm e (kdOf d) b f/\∀c,Z5 H c->Q (nv b) c
noncomputable def Pz (K:oh):Sp:=λf H Q _=>∃(d c:pA)(e:List Str)(a:List (Option Str)),f=[.ref d,.ref c]/\Yy K H d (e.map V.str)/\Yy K H c (a.map oV)/\a.length<=20/\∀b,Z5 H b->Q (.bl (Mf e a)) b
noncomputable def Vd (K:oh) (Zz Zw Zi Zv Zm Zq Zr Zn:pA):Sp:=λh H Q _=>∃(e a:pA)(d c g:List (List Nat))(f:Form),h=[.ref e,.ref a]/\Yy K H e ((g.map tx).map V.str)/\Yu Zn H a d c/\Wf f/\UW d (kdOf c) f g/\∀x b,Z5 H b->dN Zz Zw Zi Zv b x f->Q (.ref x) b
noncomputable def K9 (g:oh) (Zz Zw Zi Zv Zm Zq Zr Zn:pA):Sp:=λf H Q _=>∃(x:List Nat)(a:pA)(e d:List (List Nat))(t:Tr),f=[.str (tx x),.ref a]/\Yu Zn H a e d/\YS e (kdOf d) 4 t x/\Xa t<=4/\Yj t<=24/\∀b c,Z5 H c->XF Zz Zw Zi Zv Zq Zr (λl=>H l=su) c 4 b t->Q (.ref b) c
theorem yQ(c k:Nat):decide (V.str (tx [c])=V.str (tx [k]))=decide (c=k):=by
 by_cases h:c=k
 .rw[h,decide_eq_true rfl,decide_eq_true rfl]
 .rw[decide_eq_false h,decide_eq_false]
  intro z
  exact h (jdb (QM (V.str.inj z))).1
theorem LR{H:Hp}{a c:pA}{ns g:List (List Nat)}(h:Yu c H a ns g):∀n∈ns,W8 n:=by
 obtain⟨l,i,j,u,m,o,p,q,r,t,b,e,d⟩:=h
 exactλn f=>Q6 (b n f)
theorem yc(l:List Nat)(b i:Nat)(h:i<=l.length):Vp l (nC (b:Int)) (nC (i:Int))=(l.drop b).take (i-b):=by
 unfold Vp
 rw[L2.Um,L2.Um,jdJ h]
 by_cases a:b<=l.length
 .rw[jdJ a]
 .rw[jfg (by omega),show i-b=0 by omega,show i-l.length=0 by omega];simp
theorem Ce(l:List Nat):∀i,(XJ l i).1.length<=i/\(XJ l i).2.1<=i+1
 |0=>⟨U6 0,by show(0:Nat)<=1;omega⟩
 |i+1=>by
  obtain⟨a,b⟩:=Ce l i
  show(VH l i (l.getD i 0) (XJ l i)).1.length<=i+1/\_
  show _/\(VH l i (l.getD i 0) (XJ l i)).2.1<=i+2
  unfold VH
  split
  .exact⟨by show(XJ l i).1.length<=_;omega,by show(XJ l i).2.1<=_;omega⟩
  split
  .exact⟨by show(XJ l i).1.length<=_;omega,by show(XJ l i).2.1<=_;omega⟩
  split
  .exact⟨by rw[O1];show(XJ l i).1.length+1<=_;omega,U6 _⟩
  .exact⟨by omega,by omega⟩
section
variable{P:jcz}{w:jcS}{K:oh}{mg:Str->Option pL}{base:jcX}
variable{Zz Zw Zi Zv Zm Zq Zr Zn:pA}
theorem Gb{f:pA}{l:jaF}(F:Xl K "number_told" "number_told" U5 f l)(i:mg "number_told"=nC (.ref f))(e:mg "int"=su)
 (g:Z3 P w K mg base 1 "is_figures" ["word"] [] (N7 K)):Z3 P w K mg base 2 "number_told" ["word"] [] (Ur K):=by
 refine F.Yp i (RV F λ_ _ _ _ _ _ _=>rfl) Od (λp H Q E h=>?_) (λj A a s H p Q E n h=>?_)
 .obtain⟨m,rfl,_⟩:=h;rfl
 obtain⟨m,rfl,b,c,q⟩:=h
 refine⟨_,(Zd (ZR (YF (Yg (Zx g n (by first|decide|omega) rfl (Za (Ze 0) Zb)))) (Zh Y6) ZF)
  (Zh (ZC (Vf T3 rfl e (jig) (Za (Ze 0) Zb))))),?_⟩
 refine⟨_,rfl,m,rfl,b,c,λd o=>⟨_,rfl,Yn ?_⟩⟩
 exact⟨_,rfl,m,rfl,b,c,q d o⟩
theorem Fo{f:pA}{fd:jaF}(F:Xl K "place_told" "place_told" Vi f fd)(ZZ:mg "place_told"=nC (.ref f))
 (Rq:Z3 P w K mg base 3 "bundle_of" ["numbers"] [] (QK K))
 (Yk:Own K mg "Bid" Zz [])
 (Z7:Own K mg "Only" Zw ["bundle","amount"])
 (ZM:Own K mg "SoMany" Zi ["kind","least","amount"])
 (Z6:Own K mg "UpTo" Zv ["kind","most","each"])
 (ZP:Own K mg "Several" Zm ["bids"])
 (Z0:Own K mg "AnyOf" Zq ["bids"])
 (Z1:Own K mg "OneOf" Zr ["bids"])
 (ZQ:Own K mg "Stock" Zn ["numbers","kinds"])
 (Y:∀C sp,Aa K Zz Zw Zi Zv Zm Zq Zr Zn C sp->∃ps,Ut P w K mg base 2 C "kind_of" ps sp)
 (Z:∀C sp,GK K Zz Zw Zi Zv Zm Zq Zr Zn C sp->∃ps,Ut P w K mg base 2 C "number_of" ps sp):Z3 P w K mg base 4 "place_told" ["place","stock"] [] (Td K Zz Zw Zi Zv Zm Zq Zr Zn):=by
 refine F.Yp ZZ (VF F λ_ _ _ _ _ _ _ _=>rfl) NQ (λvs H Q E h=>?_) (λaa A G s H vs Q E B h=>?_)
 .obtain⟨pl,a,e,D,b,rfl,_⟩:=h;rfl
 obtain⟨pl,a,e,D,b,rfl,d,S,q⟩:=h
 have y:=LR d
 have R:=(Lf y S).2.2
 refine⟨_,(Zd (ZR (Yg (V8 (Ze 0) Zf)) (Zh (ZC (Ov (Ze 1) Y B (by first|decide|omega) (Za (Yc YM (Ze 0) (ZW Zc) X7) Zb)))) ZF)
  (Zh (ZC (Zx Rq B (by first|decide|omega) rfl (Za (XH (ZJ Vi) ["place","stock"] ["name"] ["stock"] [1] rfl rfl rfl ⟨s.heap.objs.size+1,rfl⟩ rfl rfl (by decide+kernel) (Ws (Ow (Ze 0) Zf)) (λC m n N=>(Ym (i:=0) (show jdM (["name","stock"]:List Str)from by decide+kernel) rfl (jbI rfl))) (λC m n N=>Wu) (λC m n N=>(Ov (Ze 1) Z B (by first|decide|omega) (Za (Ze 0) Zb)))) Zb))))),?_⟩
 have hG:=d
 obtain⟨J,d1,d2,kk,L,e2,e3,e4,e5,g6,ad,ac,ab⟩:=hG
 rcases S with⟨g,O,h6,u,ho,rfl,rfl⟩|⟨k,⟨hk,rfl⟩,hK,rfl⟩
 .refine⟨_,rfl,_,rfl,_,rfl,_,rfl,?_⟩
  rw[show jh "="=tx [61]from rfl,yW y O u]
  refine Yn ?_
  refine⟨_,rfl,_,rfl,by rw[Yo];omega,_,rfl,rfl,λl hl=>⟨l,rfl,⟨_,Yy.of Zj⟩,λU t=>?_⟩⟩
  rw[Du,wZ y O u]at*
  have I:=Zk hl (.lst (((g.map λj=>e.getD j []).map tx).map V.str))
  have M:upd H l (.lst (((g.map λj=>e.getD j []).map tx).map V.str)) l=nC (.lst (((g.map λj=>e.getD j []).map tx).map V.str)):=Zj
  generalize upd H l (.lst (((g.map λj=>e.getD j []).map tx).map V.str))=X at I M t|-
  refine Uj (xs:=((g.map λj=>e.getD j []).map tx).map V.str) (λk r=>Z5 X r/\r U=nC (.lst ((g.take k).map nv))) ⟨Zk t _,Zj⟩ (λk r _ z=>Yy.of (z.1 _ _ M)) ?_ ?_
  .rintro k v n T ⟨m,c⟩ K1 K0 k1 k0
   rw[jdq,jdq,jcF]at T
   obtain⟨j,o,rfl⟩:=jcT.mp T
   have x:=u j (jcE o)
   have p:=I.trans m
   refine⟨_,rfl,a,Zn,J,_,X5 K Zn,rfl,p _ _ L,rfl,⟨rfl,rfl⟩,_,rfl,a,e,D,e.getD j [],j,rfl,Yu.same p d,?_,λH3 W=>k1 _ _ _ (W _ _ c) ?_ ⟨(m.trans W).upd t _,?_⟩⟩
   .rw[jbG,sH x];rfl
   .rw[rz,jcB];exact Xr (by omega)
   .rw[Zj,jdE,o,jcA];rfl
  .rintro n ⟨m,c⟩
   rw[rz,rz,rz,jc2]at c
   exact⟨U,g,rfl,Yy.of c,ho,q n (I.trans m)⟩
 .refine⟨_,rfl,_,rfl,_,rfl,_,rfl,?_⟩
  have es:jgf (tx (61::k)) (jh "=")=qm:=by
   rw[show jh "="=tx [61]from rfl,Ql];rfl
  rw[es]
  refine Ys ?_
  refine⟨_,rfl,a,Zn,J,_,WD K Zn,rfl,L,rfl,⟨rfl,rfl⟩,_,rfl,_,rfl,_,rfl,by rw[jcD];omega,a,e,D,k,?_,d,hk,q⟩
  rw[show Vp (61::k) (nC 1) su=k from J1 (61::k) 1 (by simp)]
theorem Bv{f:pA}{W:jaF}(F:Xl K "has_form" "has_form" Qf f W)(T:mg "has_form"=nC (.ref f))(R:mg "all"=su)(J:mg "len"=su)(zf:mg "zip"=su):Z3 P w K mg base 1 "has_form" ["words","form"] [] (Pz K):=by
 refine F.Yp T (VF F λ_ _ _ _ _ _ _ _=>rfl) BJ (λvs H Q E h=>?_) (λU A B s H vs Q E hr h=>?_)
 .obtain⟨G,r,c,a,rfl,_⟩:=h;rfl
 obtain⟨G,r,c,a,rfl,hw,t,X,q⟩:=h
 refine⟨_,(Zd (ZR (ZK Im (Yw YK rfl J jcN (Za (Ze 0) Zb)) (Yw YK rfl J jcN (Za (Ze 1) Zb)) (Yb _)) (Zh (ZC TQ)) ZF)
  (Zh (ZC (Yw (Hq rfl) rfl R (boot_all) (Za (XH (ZJ Qf) ["words","form"] ["word","fixed"] [] [] rfl rfl rfl ⟨s.heap.objs.size+1,rfl⟩ rfl rfl (by decide+kernel) (xJ rfl zf (Za (Ze 0) (Za (Ze 1) Zb))) (λC j I L=>(PQ K 2 rfl (Wg (Ym (i:=0) (show jdM (["word","fixed"]:List Str)from by decide+kernel) rfl (jbI rfl)) (Wg (Ym (i:=1) (show jdM (["word","fixed"]:List Str)from by decide+kernel) rfl (jbI rfl)) Qj)))) (λC j I L=>Wu) (λC j I L=>(sI (PP aN (Ze 1) Xy (Yb _)) (RJ (PP Xv (Ze 1) (Ze 0) (Yb _)))))) Zb))))),?_⟩
 refine⟨_,rfl,G,_,rfl,.inl hw,_,rfl,r,_,rfl,.inl t,rfl,_,rfl,?_⟩
 rw[rz,rz]
 by_cases g:c.length=a.length
 .rw[g,decide_eq_true rfl]
  refine Yn ?_
  refine⟨_,rfl,_,rfl,G,r,rfl,⟨_,hw⟩,⟨_,t⟩,λl M=>?_⟩
  refine Ai (xs:=c.map V.str) (ys:=a.map oV) (by rw[rz,rz,g]) (λk n=>Z5 H n/\n l=nC (.lst ((((c.zip a).take k).map λp=>rA p.2 p.1).map V.bl))) ⟨Zk M _,Zj⟩ (λk n _⟨s,_⟩=>⟨s.seq hw,s.seq t⟩) ?_ ?_
  .rintro k v u p o O N ⟨D,m⟩ Y S K0 k1 k0
   rw[jcF]at O N
   obtain⟨x,Z,rfl⟩:=jcT.mp O
   obtain⟨y,hy,rfl⟩:=jcT.mp N
   have hz:(c.zip a)[k]?=nC (x,y):=by rw[List.getElem?_zip_eq_some];exact⟨Z,hy⟩
   have j:=Zk Y (.tup [V.str x,oV y])
   have d:∀b,b=rA y x->S (V.bl b) (upd o p (.tup [V.str x,oV y])):=λb e=>k1 _ _ _ (j _ _ m) (by rw[rz,rz,jcB];exact Xr (by rw[jh4];omega)) ⟨(D.trans j).upd M _,by rw[Zj,jdE,hz,jcA,jcA,e];rfl⟩
   cases y with
   |none=>exact⟨_,rfl,rfl,_,rfl,Ys (d qm rfl)⟩
   |some y=>exact⟨_,rfl,rfl,_,rfl,Yn ⟨_,rfl,_,rfl,rfl,d _ (by show decide (V.str y=V.str x)=decide (y=x);by_cases z:y=x<;>simp[z])⟩⟩
  .rintro o ⟨D,m⟩
   rw[jdp (by rw[rz,jh4];omega)]at m
   refine⟨l,_,rfl,Yy.of m,?_⟩
   have z:=q o D
   unfold Mf at z
   rw[decide_eq_true g,jea]at z
   rw[jjc]
   exact z
 .rw[decide_eq_false (show¬V.int ((c.length:Nat):Int)=V.int ((a.length:Nat):Int)fromλz=>g (by have:=V.int.inj z;omega))]
  refine Ys ?_
  have z:=q H (Z5.refl H)
  unfold Mf at z
  rw[decide_eq_false g,jeI]at z
  exact z
end
section
variable{P:jcz}{w:jcS}{K:oh}{mg:Str->Option pL}{base:jcX}
variable{Zz Zw Zi Zv Zm Zq Zr Zn:pA}
theorem K4{f:pA}{fd:jaF}(F:Xl K "plain_bid_told" "plain_bid_told" Vw f fd)(ZZ:mg "plain_bid_told"=nC (.ref f))
 (XM:Z3 P w K mg base 1 "has_form" ["words","form"] [] (Pz K))
 (Ve:Z3 P w K mg base 4 "place_told" ["place","stock"] [] (Td K Zz Zw Zi Zv Zm Zq Zr Zn))
 (N:Z3 P w K mg base 2 "number_told" ["word"] [] (Ur K))
 (Yk:Own K mg "Bid" Zz [])
 (Z7:Own K mg "Only" Zw ["bundle","amount"])
 (ZM:Own K mg "SoMany" Zi ["kind","least","amount"])
 (Z6:Own K mg "UpTo" Zv ["kind","most","each"])
 (ZP:Own K mg "Several" Zm ["bids"])
 (Z0:Own K mg "AnyOf" Zq ["bids"])
 (Z1:Own K mg "OneOf" Zr ["bids"])
 (ZQ:Own K mg "Stock" Zn ["numbers","kinds"])
 (Hj:BR K mg "Bid" Zz)
 (Fz:Sy P w K mg base 4 "Only" Zw ["self","bundle","amount"] (Vz K Zw))
 (Kg:Sy P w K mg base 4 "SoMany" Zi ["self","kind","least","amount"] (W4 K Zi))
 (FJ:Sy P w K mg base 4 "UpTo" Zv ["self","kind","most","each"] (VB K Zv)):Z3 P w K mg base 6 "plain_bid_told" ["words","stock"] [] (Vd K Zz Zw Zi Zv Zm Zq Zr Zn):=by
 refine F.Yp ZZ (VF F λ_ _ _ _ _ _ _ _=>rfl) R7 (λvs H Q E h=>?_) (λae A ac s H vs Q E d h=>?_)
 .obtain⟨c,a,ns,Y,ws,f,rfl,_⟩:=h;rfl
 obtain⟨c,a,ns,Y,ws,f,rfl,hw,B,ab,J,q⟩:=h
 have ok:=ab
 refine⟨_,(Zd (ZR (ZK (jm d.Rn) (Ze 0) (ZV (Za Zf Zb)) (Yb _)) (Zh (ZC (xG Hj rfl))) ZF)
  (Zd (ZR (Yg (Zx XM d (by first|decide|omega) rfl (Za (Ze 0) (Za (ZV (Za Xy (Za Zf (Za Xy Zb)))) Zb)))) (Zh (ZC (Qq Fz d (by first|decide|omega) rfl (Za (Zx Ve d (by first|decide|omega) rfl (Za (Z4 (YH K) (Ze 0) Zc (λ_ _=>rfl)) (Za (Ze 1) Zb))) (Za (Zx N d (by first|decide|omega) rfl (Za (Z4 (YH K) (Ze 0) Zc (λ_ _=>rfl)) Zb)) Zb))))) ZF)
  (Zd (ZR (Yg (Zx XM d (by first|decide|omega) rfl (Za (Ze 0) (Za (ZV (Za Xy (Za Zf (Za Xy (Za Zf (Za Xy Zb)))))) Zb)))) (Zh (ZC (Qq Kg d (by first|decide|omega) rfl (Za (Zx Ve d (by first|decide|omega) rfl (Za (Z4 (YH K) (Ze 0) Zc (λ_ _=>rfl)) (Za (Ze 1) Zb))) (Za (Zx N d (by first|decide|omega) rfl (Za (Z4 (YH K) (Ze 0) Zc (λ_ _=>rfl)) Zb)) (Za (Zx N d (by first|decide|omega) rfl (Za (Z4 (YH K) (Ze 0) Zc (λ_ _=>rfl)) Zb)) Zb)))))) ZF)
  (Zd (ZR (Yg (Zx XM d (by first|decide|omega) rfl (Za (Ze 0) (Za (ZV (Za Zf (Za Zf (Za Xy (Za Zf (Za Xy (Za Zf (Za Xy (Za Zf Zb))))))))) Zb)))) (Zh (ZC (Qq FJ d (by first|decide|omega) rfl (Za (Zx Ve d (by first|decide|omega) rfl (Za (Z4 (YH K) (Ze 0) Zc (λ_ _=>rfl)) (Za (Ze 1) Zb))) (Za (Zx N d (by first|decide|omega) rfl (Za (Z4 (YH K) (Ze 0) Zc (λ_ _=>rfl)) Zb)) (Za (Zx N d (by first|decide|omega) rfl (Za (Z4 (YH K) (Ze 0) Zc (λ_ _=>rfl)) Zb)) Zb)))))) ZF)
  (Zh Y6))))),?_⟩
 refine⟨_,rfl,(by show 1<=qd;decide),λZ h0=>?_⟩
 have L:=Zk h0 (.lst [V.str (jh "nothing")])
 have e0:upd H Z (.lst [V.str (jh "nothing")]) Z=nC (.lst [V.str (jh "nothing")]):=Zj
 generalize upd H Z (.lst [V.str (jh "nothing")])=u at L e0|-
 have aa:=L.seq hw
 refine⟨c,Z,ws.map tx,[jh "nothing"],rfl,rfl,aa,Yy.of e0,_,rfl,?_⟩
 rw[if_neg jbJ]
 have ad:∀{v:Hp}{os:List (Option Str)}{l:pA}(e:v l=su),Z5 v (upd v l (.lst (os.map oV)))/\Yy K (upd v l (.lst (os.map oV))) l (os.map oV):=λe=>⟨Zk e _,Yy.of Zj⟩
 cases f with
 |none=>
  have J:ws=[Vk]:=J
  subst J
  rw[show decide (([Vk]:List (List Nat)).map tx=[jh "nothing"])=qm from decide_eq_true rfl]
  refine Ys ?_
  exactλx o D C _=>q x _ (L.trans (((Z5.refl u).upd C _).upd D _)) ⟨o,Zj⟩
 |only b m=>
  obtain⟨i,S,rfl⟩:=J
  obtain⟨b1,b2,j⟩:=ok
  rw[show decide (([i,PB,Xd m]:List (List Nat)).map tx=[jh "nothing"])=vh from decide_eq_false (λz=>by have:=congrArg jd7 z;cases this)]
  refine Yn ?_
  refine⟨_,rfl,(by show 3<=qd;decide),λg R=>?_⟩
  have n:=L.trans (Zk R (.lst [V.non,.str (jh "for"),.non]))
  have t:upd u g (.lst [V.non,.str (jh "for"),.non]) g=nC (.lst [V.non,.str (jh "for"),.non]):=Zj
  generalize upd u g (.lst [V.non,.str (jh "for"),.non])=v at n t|-
  refine⟨c,g,_,[su,nC (jh "for"),su],rfl,n.seq hw,Yy.of t,(by decide),λG T=>⟨_,rfl,?_⟩⟩
  rw[show Mf (([i,PB,Xd m]:List (List Nat)).map tx) [su,nC (jh "for"),su]=qm from rfl]
  refine Ys ?_
  have y:=n.trans T
  refine⟨_,rfl,c,_,_,_,rfl,rfl,y.seq hw,rfl,_,rfl,i,a,ns,Y,b,rfl,Yu.same y B,S,λH3 r=>?_⟩
  have S3:=y.trans r
  refine⟨_,rfl,c,_,_,_,rfl,rfl,S3.seq hw,rfl,m,congrArg (λz=>[V.str z]) (T6 m).symm,j.lo,by have:=j.hi;omega,λX U=>λx o D C _=>?_⟩
  exact⟨x,o,b,m,rfl,b1,b2,j,Zj,rfl,q x _ ((S3.trans U).trans (HF D C)) ⟨o,Zj⟩⟩
 |some k l m=>
  obtain⟨i,S,rfl⟩:=J
  obtain⟨k1,k2,c1,c2,j⟩:=ok
  rw[show decide (([Xd (l:Nat),tV,i,PB,Xd m]:List (List Nat)).map tx=[jh "nothing"])=vh from decide_eq_false (λz=>by have:=congrArg jd7 z;cases this)]
  refine Yn ?_
  refine⟨_,rfl,(by show 3<=qd;decide),λg R=>?_⟩
  have n:=L.trans (Zk R (.lst [V.non,.str (jh "for"),.non]))
  have t:upd u g (.lst [V.non,.str (jh "for"),.non]) g=nC (.lst [V.non,.str (jh "for"),.non]):=Zj
  generalize upd u g (.lst [V.non,.str (jh "for"),.non])=v at n t|-
  refine⟨c,g,_,[su,nC (jh "for"),su],rfl,n.seq hw,Yy.of t,(by decide),λG T=>⟨_,rfl,?_⟩⟩
  rw[show Mf (([Xd (l:Nat),tV,i,PB,Xd m]:List (List Nat)).map tx) [su,nC (jh "for"),su]=vh from rfl]
  refine Yn ?_
  have y:=n.trans T
  refine⟨_,rfl,(by show 5<=qd;decide),λp h2=>?_⟩
  have r:=y.trans (Zk h2 (.lst [V.non,.str (jh "of"),.non,.str (jh "for"),.non]))
  have O:upd G p (.lst [V.non,.str (jh "of"),.non,.str (jh "for"),.non]) p=nC (.lst [V.non,.str (jh "of"),.non,.str (jh "for"),.non]):=Zj
  generalize upd G p (.lst [V.non,.str (jh "of"),.non,.str (jh "for"),.non])=H3 at r O|-
  refine⟨c,p,_,[su,nC (jh "of"),su,nC (jh "for"),su],rfl,r.seq hw,Yy.of O,(by decide),λX U=>⟨_,rfl,?_⟩⟩
  rw[show Mf (([Xd (l:Nat),tV,i,PB,Xd m]:List (List Nat)).map tx) [su,nC (jh "of"),su,nC (jh "for"),su]=qm from rfl]
  refine Ys ?_
  have M:=r.trans U
  refine⟨_,rfl,c,_,_,_,rfl,rfl,M.seq hw,rfl,_,rfl,i,a,ns,Y,k,rfl,Yu.same M B,S,λH5 W=>?_⟩
  have S5:=M.trans W
  refine⟨_,rfl,c,_,_,_,rfl,rfl,S5.seq hw,rfl,((l:Nat):Int),congrArg (λz=>[V.str z]) (T6 _).symm,by omega,by omega,λH6 s6=>?_⟩
  have I:=S5.trans s6
  refine⟨_,rfl,c,_,_,_,rfl,rfl,I.seq hw,rfl,m,congrArg (λz=>[V.str z]) (T6 m).symm,j.lo,by have:=j.hi;omega,λH7 s7=>λx o D C _=>?_⟩
  exact⟨x,o,k,l,m,rfl,k1,k2,c1,c2,j,Zj,rfl,q x _ ((I.trans s7).trans (HF D C)) ⟨o,Zj⟩⟩
 |most k l m=>
  obtain⟨i,S,rfl⟩:=J
  obtain⟨k1,k2,c1,c2,j⟩:=ok
  rw[show decide (([bh,bf,Xd (l:Nat),tV,i,PB,Xd m,G8]:List (List Nat)).map tx=[jh "nothing"])=vh from decide_eq_false (λz=>by have:=congrArg jd7 z;cases this)]
  refine Yn ?_
  refine⟨_,rfl,(by show 3<=qd;decide),λg R=>?_⟩
  have n:=L.trans (Zk R (.lst [V.non,.str (jh "for"),.non]))
  have t:upd u g (.lst [V.non,.str (jh "for"),.non]) g=nC (.lst [V.non,.str (jh "for"),.non]):=Zj
  generalize upd u g (.lst [V.non,.str (jh "for"),.non])=v at n t|-
  refine⟨c,g,_,[su,nC (jh "for"),su],rfl,n.seq hw,Yy.of t,(by decide),λG T=>⟨_,rfl,?_⟩⟩
  rw[show Mf (([bh,bf,Xd (l:Nat),tV,i,PB,Xd m,G8]:List (List Nat)).map tx) [su,nC (jh "for"),su]=vh from rfl]
  refine Yn ?_
  have y:=n.trans T
  refine⟨_,rfl,(by show 5<=qd;decide),λp h2=>?_⟩
  have r:=y.trans (Zk h2 (.lst [V.non,.str (jh "of"),.non,.str (jh "for"),.non]))
  have O:upd G p (.lst [V.non,.str (jh "of"),.non,.str (jh "for"),.non]) p=nC (.lst [V.non,.str (jh "of"),.non,.str (jh "for"),.non]):=Zj
  generalize upd G p (.lst [V.non,.str (jh "of"),.non,.str (jh "for"),.non])=H3 at r O|-
  refine⟨c,p,_,[su,nC (jh "of"),su,nC (jh "for"),su],rfl,r.seq hw,Yy.of O,(by decide),λX U=>⟨_,rfl,?_⟩⟩
  rw[show Mf (([bh,bf,Xd (l:Nat),tV,i,PB,Xd m,G8]:List (List Nat)).map tx) [su,nC (jh "of"),su,nC (jh "for"),su]=vh from rfl]
  refine Yn ?_
  have M:=r.trans U
  refine⟨_,rfl,(by show 8<=qd;decide),λl3 h3=>?_⟩
  have W:=M.trans (Zk h3 (.lst [V.str (jh "up"),.str (jh "to"),.non,.str (jh "of"),.non,.str (jh "for"),.non,.str (jh "each")]))
  have e5:upd X l3 (.lst [V.str (jh "up"),.str (jh "to"),.non,.str (jh "of"),.non,.str (jh "for"),.non,.str (jh "each")]) l3=nC (.lst [V.str (jh "up"),.str (jh "to"),.non,.str (jh "of"),.non,.str (jh "for"),.non,.str (jh "each")]):=Zj
  generalize upd X l3 (.lst [V.str (jh "up"),.str (jh "to"),.non,.str (jh "of"),.non,.str (jh "for"),.non,.str (jh "each")])=H5 at W e5|-
  refine⟨c,l3,_,[nC (jh "up"),nC (jh "to"),su,nC (jh "of"),su,nC (jh "for"),su,nC (jh "each")],rfl,W.seq hw,Yy.of e5,(by decide),λH6 s6=>⟨_,rfl,?_⟩⟩
  rw[show Mf (([bh,bf,Xd (l:Nat),tV,i,PB,Xd m,G8]:List (List Nat)).map tx) [nC (jh "up"),nC (jh "to"),su,nC (jh "of"),su,nC (jh "for"),su,nC (jh "each")]=qm from rfl]
  refine Ys ?_
  have I:=W.trans s6
  refine⟨_,rfl,c,_,_,_,rfl,rfl,I.seq hw,rfl,_,rfl,i,a,ns,Y,k,rfl,Yu.same I B,S,λH7 s7=>?_⟩
  have S7:=I.trans s7
  refine⟨_,rfl,c,_,_,_,rfl,rfl,S7.seq hw,rfl,((l:Nat):Int),congrArg (λz=>[V.str z]) (T6 _).symm,by omega,by omega,λH8 s8=>?_⟩
  have S8:=S7.trans s8
  refine⟨_,rfl,c,_,_,_,rfl,rfl,S8.seq hw,rfl,m,congrArg (λz=>[V.str z]) (T6 m).symm,j.lo,by have:=j.hi;omega,λH9 s9=>λx o D C _=>?_⟩
  exact⟨x,o,k,l,m,rfl,k1,k2,c1,c2,j,Zj,rfl,q x _ ((S8.trans s9).trans (HF D C)) ⟨o,Zj⟩⟩
end
noncomputable def JQ (K:oh) (H:Hp) (a:pA) (ns:List Str):Prop:=Yy K H a (ns.map V.str)/\vU ns/\ns.length<=20
theorem JQ.same{K:oh}{H H':Hp}{a:pA}{ns:List Str}(h:JQ K H a ns)(S:Z5 H H'):JQ K H' a ns:=⟨S.seq h.1,h.2⟩
theorem sz{n:Nat}(h:n<=100000):n<=qd:=by rw[jcD];omega
theorem YD:jdV.length=0:=rfl
theorem Aq{ns:List Str}{k:Nat}(h:k<ns.length):Ac (ns.map V.str) (k:Int)=nC (V.str (ns.getD k jdV)):=by
 refine Et ?_
 rw[jcF,sH h,jbG,sH h];rfl
noncomputable def Wt (K:oh):Sp:=λe H Q _=>∃(b:Nat)(d:pA)(a:List Str),e=[nv b,.ref d]/\b<64/\JQ K H d a/\(∀k∈things b,k<a.length)/\∀c,Z5 H c->Q (.str (Wx a b)) c
noncomputable def Lz (c:oh) (d:pA):Sp:=λb H Q _=>∃(a:pA)(v:V),b=[.ref a,v]/\Q (.str (jh "nothing")) H
noncomputable def NZ (K:oh) (c:pA):Sp:=λh H Q _=>∃(a g:pA)(b:Nat)(m:Int)(f:pA)(d:List Str),h=[.ref a,.ref f]/\H a=nC (.ins c g (ur b m))/\Wf (.only b m)/\JQ K H f d/\(∀k∈things b,k<d.length)/\∀e,Z5 H e->Q (.str (Dk d (.only b m))) e
noncomputable def Pj (K:oh) (c:pA):Sp:=λg H Q _=>∃(a f:pA)(k l:Nat)(m:Int)(e:pA)(b:List Str),g=[.ref a,.ref e]/\H a=nC (.ins c f (ut k l m))/\Wf (.some k l m)/\JQ K H e b/\(∀x∈things k,x<b.length)/\∀d,Z5 H d->Q (.str (Dk b (.some k l m))) d
noncomputable def N5 (K:oh) (c:pA):Sp:=λg H Q _=>∃(a f:pA)(k l:Nat)(m:Int)(e:pA)(b:List Str),g=[.ref a,.ref e]/\H a=nC (.ins c f (uq k l m))/\Wf (.most k l m)/\JQ K H e b/\(∀x∈things k,x<b.length)/\∀d,Z5 H d->Q (.str (Dk b (.most k l m))) d
noncomputable def Gx (K:oh) (any:Bool) (Zz Zw Zi Zv Zm Zq Zr Zn:pA) (d:Nat):Sp:=λg H Q _=>∃(a:pA)(b:List Tr)(A:pA->Prop)(f:pA)(c:List Str)(m:Nat),g=[.ref a,.ref f]/\XF Zz Zw Zi Zv Zq Zr A H d a (.node any b)/\Z8 b<=100/\JQ K H f c/\m<=6/\m<=c.length/\Sub (YQ b) m/\∀e,Z5 H e->Q (.str (W6 c (.node any b))) e
noncomputable def yS (K:oh) (Zz Zw Zi Zv Zm Zq Zr Zn:pA) (d:Nat):Sp:=λf H Q _=>∃(l:pA)(bs:List pA)(a:List Tr)(A:pA->Prop)(e:pA)(b:List Str)(m:Nat),f=[.ref l,.ref e]/\H l=nC (.lst (bs.map V.ref))/\Xb (XF Zz Zw Zi Zv Zq Zr A H d) bs a/\Z8 a<=100/\JQ K H e b/\m<=6/\m<=b.length/\Sub (YQ a) m/\∀c,Z5 H c->Q (.str (jeZ (jh "; ") (a.map (W6 b)))) c
noncomputable def jaQ (K:oh) (Zz Zw Zi Zv Zm Zq Zr Zn:pA) (d:Nat):pA->Sp->Prop:=λC a=>(C=Zz/\a=Lz K Zz)\/(C=Zw/\a=NZ K Zw)\/(C=Zi/\a=Pj K Zi)\/(C=Zv/\a=N5 K Zv)\/(C=Zq/\a=Gx K qm Zz Zw Zi Zv Zm Zq Zr Zn d)\/(C=Zr/\a=Gx K vh Zz Zw Zi Zv Zm Zq Zr Zn d)
noncomputable def iW (K:oh) (Zz Zw Zi Zv Zm Zq Zr Zn:pA):pA->Sp->Prop:=jaQ K Zz Zw Zi Zv Zm Zq Zr Zn 5
theorem XF.ok{b c e g i j:pA}{A:pA->Prop}{H:Hp}:∀(d:Nat){a:pA}{t:Tr},XF b c e g i j A H d a t->rK t
 |0,_,_,h=>h.elim
 |_+1,a,.leaf f,h=>MJ.mpr h.1
 |d+1,a,.node any ts,h=>by
  obtain⟨p,l,bs,q,r,u,m⟩:=h
  exact Qw.mpr (uK λt n=>by obtain⟨x,o⟩:=m.mem n;exact XF.ok d o)
theorem FT.ok{A:pA->Prop}{H:Hp}:∀(d:Nat){a:pA}{t:Tr},FT A H d a t->rK t
 |0,_,_,h=>h.elim
 |_+1,a,.leaf f,h=>MJ.mpr h.1
 |d+1,a,.node any ts,h=>by
  obtain⟨l,bs,g,i,j,b⟩:=h
  exact Qw.mpr (uK λt c=>by obtain⟨x,e⟩:=b.mem c;exact FT.ok d e)
section
variable{P:jcz}{w:jcS}{K:oh}{mg:Str->Option pL}{base:jcX}
variable{Zz Zw Zi Zv Zm Zq Zr Zn:pA}
theorem Gd{f:pA}{B:jaF}(F:Xl K "place_words" "place_words" U8 f B)(x:mg "place_words"=nC (.ref f))
 (v:Z3 P w K mg base 2 "things_in" ["bundle"] [] (LC K)):Z3 P w K mg base 3 "place_words" ["bundle","names"] [] (Wt K):=by
 refine F.Yp x (VF F λ_ _ _ _ _ _ _ _=>rfl) Gs (λM H Q E h=>?_) (λy A m s H M Q E J h=>?_)
 .obtain⟨b,t,e,rfl,_⟩:=h;rfl
 obtain⟨b,t,e,rfl,G,r,I,q⟩:=h
 refine⟨_,(Zh (ZC (Km K Zf (XH (ZJ U8) ["bundle","names"] ["number"] ["names"] [1] rfl rfl rfl ⟨s.heap.objs.size+1,rfl⟩ rfl rfl (by decide+kernel) (Ws (Zx v J (by first|decide|omega) rfl (Za (Ze 0) Zb))) (λC a c p=>(Ym (i:=0) (show jdM (["number","names"]:List Str)from by decide+kernel) rfl (jbI rfl))) (λC a c p=>Wu) (λC a c p=>(Z4 (YH K) (Ze 1) (Ze 0) (λ_ _=>rfl))))))),?_⟩
 refine⟨jh "+",rfl,_,rfl,b,rfl,G,λl N u O n=>⟨l,rfl,⟨_,Yy.of n⟩,λL D=>?_⟩⟩
 have j:=r.same u
 refine z9 nv (things b) (λ_=>qm) (λk=>.str (e.getD k jdV)) (Yy.of n) (by have:=Nt b;omega) D ?_ ?_ ?_
 .intro k d c a C g;exact g _ (Z5.refl _)
 .intro k d _ c a C g
  exact⟨_,rfl,_,rfl,t,_,_,_,rfl,rfl,(j.same a).1,Aq (I k d),g _ (Z5.refl _)⟩
 .intro c a o
  have z:(((things b).filter λ_=>qm).map λk=>V.str (e.getD k jdV))=((things b).map λk=>e.getD k jdV).map V.str:=by
   rw[jfb.mpr (λ_ _=>rfl),jdq];rfl
  rw[z]at o
  exact⟨L,_,rfl,Yy.of o,(Wy r.2.1 b).1,q c (u.trans a)⟩
theorem MT{f:pA}{c:jaF}(F:Xl K "words" "Bid.words" Rw f c)
 (g:Own K mg "Bid" Zz [])
 (m:Own K mg "Only" Zw ["bundle","amount"])
 (n:Own K mg "SoMany" Zi ["kind","least","amount"])
 (l:Own K mg "UpTo" Zv ["kind","most","each"])
 (o:Own K mg "Several" Zm ["bids"])
 (i:Own K mg "AnyOf" Zq ["bids"])
 (j:Own K mg "OneOf" Zr ["bids"])
 (p:Own K mg "Stock" Zn ["numbers","kinds"]):We P w K mg base Ol 1 f c ["self","names"] (Lz K Zz):=by
 refine F.Eg CN (λe H Q E h=>?_) (λd A b s H e Q E r h=>?_)
 .obtain⟨a,v,rfl,_⟩:=h;rfl
 obtain⟨a,v,rfl,q⟩:=h
 exact⟨_,(Zh (ZC Zf)),q⟩
theorem Ny{f:pA}{l:jaF}(F:Xl K "words" "Only.words" T8 f l)
 (t:Z3 P w K mg base 3 "place_words" ["bundle","names"] [] (Wt K))
 (z:Own K mg "Bid" Zz [])
 (c:Own K mg "Only" Zw ["bundle","amount"])
 (G:Own K mg "SoMany" Zi ["kind","least","amount"])
 (D:Own K mg "UpTo" Zv ["kind","most","each"])
 (I:Own K mg "Several" Zm ["bids"])
 (B:Own K mg "AnyOf" Zq ["bids"])
 (C:Own K mg "OneOf" Zr ["bids"])
 (J:Own K mg "Stock" Zn ["numbers","kinds"]):We P w K mg base Ol 4 f l ["self","names"] (NZ K Zw):=by
 refine F.Eg RZ (λy H Q E h=>?_) (λu A j s H y Q E x h=>?_)
 .obtain⟨a,g,b,m,o,d,rfl,_⟩:=h;rfl
 obtain⟨a,g,b,m,o,d,rfl,e,ok,n,v,q⟩:=h
 refine⟨_,(Zd (ZL (i:=2) RZ.nd rfl (jbI rfl) (Zx t x (by first|decide|omega) rfl (Za (Y7 K (Ze 0)) (Za (Ze 1) Zb))))
  (Zd (ZL (i:=3) RZ.nd rfl (jbI rfl) (Y7 K (Ze 0)))
  (Zh (ZC (RG (YJ (JR (Ze 2)) (YJ Zf (YJ (JS (Ze 3)) PL)))))))),?_⟩
 obtain⟨L,M,N,O,R,_⟩:=lens
 have T:=(Wy n.2.1 b).2
 have S:=Vr ok.2.2.lo ok.2.2.hi
 refine⟨_,rfl,a,Zw,g,_,nv b,rfl,e,c.cls,c.no _ (WL 0 rfl),rfl,_,rfl,b,o,d,rfl,by have:=ok.2.1;omega,n,v,λr p=>?_⟩
 refine⟨_,rfl,a,Zw,g,_,.int m,rfl,p _ _ e,c.cls,c.no _ (WL 1 rfl),rfl,?_⟩
 refine⟨_,rfl,Wx d b,rfl,sz (by omega),Wx d b,rfl,sz (by rw[uy,YD];omega),jh " for ",rfl,sz (by rw[uy,uy,YD];omega),?_⟩
 refine⟨_,rfl,m,rfl,Rt ok.2.2.lo ok.2.2.hi,jh (jda m),rfl,sz (by rw[uy,uy,uy,YD];omega),sz (by rw[uy,uy,uy,YD];omega),?_⟩
 rw[empty_app]
 exact q r p
theorem Q7{f:pA}{n:jaF}(F:Xl K "words" "SoMany.words" Uo f n)
 (v:Z3 P w K mg base 3 "place_words" ["bundle","names"] [] (Wt K))
 (C:Own K mg "Bid" Zz [])
 (J:Own K mg "Only" Zw ["bundle","amount"])
 (b:Own K mg "SoMany" Zi ["kind","least","amount"])
 (I:Own K mg "UpTo" Zv ["kind","most","each"])
 (L:Own K mg "Several" Zm ["bids"])
 (D:Own K mg "AnyOf" Zq ["bids"])
 (G:Own K mg "OneOf" Zr ["bids"])
 (M:Own K mg "Stock" Zn ["numbers","kinds"]):We P w K mg base Ol 4 f n ["self","names"] (Pj K Zi):=by
 refine F.Eg V5 (λB H Q E h=>?_) (λx A g s H B Q E z h=>?_)
 .obtain⟨a,c,k,l,m,t,d,rfl,_⟩:=h;rfl
 obtain⟨a,c,k,l,m,t,d,rfl,e,ok,o,y,q⟩:=h
 refine⟨_,(Zd (ZL (i:=2) V5.nd rfl (jbI rfl) (Zx v z (by first|decide|omega) rfl (Za (Y7 K (Ze 0)) (Za (Ze 1) Zb))))
  (Zd (ZL (i:=3) V5.nd rfl (jbI rfl) (Y7 K (Ze 0)))
  (Zd (ZL (i:=4) V5.nd rfl (jbI rfl) (Y7 K (Ze 0)))
  (Zh (ZC (RG (YJ (JS (Ze 3)) (YJ Zf (YJ (JR (Ze 2)) (YJ Zf (YJ (JS (Ze 4)) PL))))))))))),?_⟩
 obtain⟨N,O,R,S,T,_⟩:=lens
 have X:=(Wy o.2.1 k).2
 have W:=Vr ok.2.2.2.2.lo ok.2.2.2.2.hi
 have r:(0:Int)<=((l:Nat):Int):=by omega
 have p:((l:Nat):Int)<=10^9:=by have:=ok.2.2.2.1;omega
 have U:=Vr r p
 refine⟨_,rfl,a,Zi,c,_,nv k,rfl,e,b.cls,b.no _ (WL 0 rfl),rfl,_,rfl,k,t,d,rfl,by have:=ok.2.1;omega,o,y,λu j=>?_⟩
 refine⟨_,rfl,a,Zi,c,_,nv l,rfl,j _ _ e,b.cls,b.no _ (WL 1 rfl),rfl,?_⟩
 refine⟨_,rfl,a,Zi,c,_,.int m,rfl,j _ _ e,b.cls,b.no _ (WL 2 rfl),rfl,?_⟩
 refine⟨_,rfl,_,rfl,Rt r p,jh (jda ((l:Nat):Int)),rfl,sz (by rw[uy,YD];omega),jh " of ",rfl,sz (by rw[uy,uy,YD];omega),?_⟩
 refine⟨_,rfl,Wx d k,rfl,sz (by omega),Wx d k,rfl,sz (by rw[uy,uy,uy,YD];omega),jh " for ",rfl,sz (by rw[uy,uy,uy,uy,YD];omega),?_⟩
 refine⟨_,rfl,m,rfl,Rt ok.2.2.2.2.lo ok.2.2.2.2.hi,jh (jda m),rfl,sz (by rw[uy,uy,uy,uy,uy,YD];omega),sz (by rw[uy,uy,uy,uy,uy,YD];omega),?_⟩
 rw[empty_app]
 exact q u j
theorem Nz{f:pA}{n:jaF}(F:Xl K "words" "UpTo.words" T9 f n)
 (v:Z3 P w K mg base 3 "place_words" ["bundle","names"] [] (Wt K))
 (C:Own K mg "Bid" Zz [])
 (I:Own K mg "Only" Zw ["bundle","amount"])
 (J:Own K mg "SoMany" Zi ["kind","least","amount"])
 (b:Own K mg "UpTo" Zv ["kind","most","each"])
 (L:Own K mg "Several" Zm ["bids"])
 (D:Own K mg "AnyOf" Zq ["bids"])
 (G:Own K mg "OneOf" Zr ["bids"])
 (M:Own K mg "Stock" Zn ["numbers","kinds"]):We P w K mg base Ol 4 f n ["self","names"] (N5 K Zv):=by
 refine F.Eg U9 (λB H Q E h=>?_) (λx A g s H B Q E z h=>?_)
 .obtain⟨a,c,k,l,m,t,d,rfl,_⟩:=h;rfl
 obtain⟨a,c,k,l,m,t,d,rfl,e,ok,o,y,q⟩:=h
 refine⟨_,(Zd (ZL (i:=2) U9.nd rfl (jbI rfl) (Zx v z (by first|decide|omega) rfl (Za (Y7 K (Ze 0)) (Za (Ze 1) Zb))))
  (Zd (ZL (i:=3) U9.nd rfl (jbI rfl) (Y7 K (Ze 0)))
  (Zd (ZL (i:=4) U9.nd rfl (jbI rfl) (Y7 K (Ze 0)))
  (Zh (ZC (RG (YJ Zf (YJ (JS (Ze 3)) (YJ Zf (YJ (JR (Ze 2)) (YJ Zf (YJ (JS (Ze 4)) (YJ Zf PL))))))))))))),?_⟩
 obtain⟨N,O,R,S,T,_⟩:=lens
 have X:=(Wy o.2.1 k).2
 have W:=Vr ok.2.2.2.2.lo ok.2.2.2.2.hi
 have r:(0:Int)<=((l:Nat):Int):=by omega
 have p:((l:Nat):Int)<=10^9:=by have:=ok.2.2.2.1;omega
 have U:=Vr r p
 refine⟨_,rfl,a,Zv,c,_,nv k,rfl,e,b.cls,b.no _ (WL 0 rfl),rfl,_,rfl,k,t,d,rfl,by have:=ok.2.1;omega,o,y,λu j=>?_⟩
 refine⟨_,rfl,a,Zv,c,_,nv l,rfl,j _ _ e,b.cls,b.no _ (WL 1 rfl),rfl,?_⟩
 refine⟨_,rfl,a,Zv,c,_,.int m,rfl,j _ _ e,b.cls,b.no _ (WL 2 rfl),rfl,?_⟩
 refine⟨jh "up to ",rfl,sz (by rw[uy,YD];omega),?_⟩
 refine⟨_,rfl,_,rfl,Rt r p,jh (jda ((l:Nat):Int)),rfl,sz (by rw[uy,uy,YD];omega),jh " of ",rfl,sz (by rw[uy,uy,uy,YD];omega),?_⟩
 refine⟨_,rfl,Wx d k,rfl,sz (by omega),Wx d k,rfl,sz (by rw[uy,uy,uy,uy,YD];omega),jh " for ",rfl,sz (by rw[uy,uy,uy,uy,uy,YD];omega),?_⟩
 refine⟨_,rfl,m,rfl,Rt ok.2.2.2.2.lo ok.2.2.2.2.hi,jh (jda m),rfl,sz (by rw[uy,uy,uy,uy,uy,uy,YD];omega),jh " each",rfl,sz (by rw[uy,uy,uy,uy,uy,uy,uy,YD];omega),sz (by rw[uy,uy,uy,uy,uy,uy,uy,YD];omega),?_⟩
 rw[empty_app]
 exact q u j
theorem Ab(K:oh){Zz Zw Zi Zv Zm Zq Zr Zn:pA}{A:pA->Prop}{H:Hp}{d:Nat}{b:pA}{t:Tr}{m:Nat}(j:XF Zz Zw Zi Zv Zq Zr A H d b t)(r:Yj t<=100)(y:m<=6)(u:Sub (Xw t) m):
 ∃(C c:pA)(fs:List (Str×V))(sp:Sp),H b=nC (.ins C c fs)/\fs.lookup ("words":Str)=su/\jaQ K Zz Zw Zi Zv Zm Zq Zr Zn d C sp/\∀(h:Hp)(g:pA)(ns:List Str),Z5 H h->JQ K h g ns->m<=ns.length->∀Q:VK,(∀H',Z5 h H'->Q (.str (W6 ns t)) H')->sp [.ref b,.ref g] h Q E0:=by
 cases d with
 |zero=>exact j.elim
 |succ d=>
  cases t with
  |leaf f=>
   obtain⟨ok,j⟩:=j
   simp only[Nq]
   have n:∀(ns:List Str),m<=ns.length->∀x,Us f=x->x<=63->∀k∈things x,k<ns.length:=λns a x e G k B=>by
    have v:Sub x m:=by rw[<-e];exact u
    have:=Ka m (by omega) x (by omega) v k B
    omega
   cases f with
   |none=>
    obtain⟨c,e⟩:=j
    exact⟨_,c,_,_,e,rfl,.inl ⟨rfl,rfl⟩,λh g ns S i a Q q=>⟨b,.ref g,rfl,q h (Z5.refl h)⟩⟩
   |only x z=>
    obtain⟨c,e⟩:=j
    exact⟨_,c,_,_,e,rfl,.inr (.inl ⟨rfl,rfl⟩),λh g ns S i a Q q=>⟨b,c,x,z,g,ns,rfl,S _ _ e,ok,i,n ns a x rfl ok.2.1,q⟩⟩
   |some x l z=>
    obtain⟨c,e⟩:=j
    exact⟨_,c,_,_,e,rfl,.inr (.inr (.inl ⟨rfl,rfl⟩)),λh g ns S i a Q q=>⟨b,c,x,l,z,g,ns,rfl,S _ _ e,ok,i,n ns a x rfl ok.2.1,q⟩⟩
   |most x l z=>
    obtain⟨c,e⟩:=j
    exact⟨_,c,_,_,e,rfl,.inr (.inr (.inr (.inl ⟨rfl,rfl⟩))),λh g ns S i a Q q=>⟨b,c,x,l,z,g,ns,rfl,S _ _ e,ok,i,n ns a x rfl ok.2.1,q⟩⟩
  |node any p=>
   have o:=j
   obtain⟨c,l,bs,w,D,E,F⟩:=j
   have yg:Z8 p<=100:=by have:1+Z8 p<=100:=r;omega
   cases any
   .exact⟨_,c,_,_,w,rfl,.inr (.inr (.inr (.inr (.inr ⟨rfl,rfl⟩)))),λh g ns S i a Q q=>⟨b,p,A,g,ns,m,rfl,XF.same S o,yg,i,y,a,u,q⟩⟩
   .exact⟨_,c,_,_,w,rfl,.inr (.inr (.inr (.inr (.inl ⟨rfl,rfl⟩)))),λh g ns S i a Q q=>⟨b,p,A,g,ns,m,rfl,XF.same S o,yg,i,y,a,u,q⟩⟩
theorem NK(d:Nat){f:pA}{W:jaF}(F:Xl K "list_words" "list_words" Ua f W)(S:mg "list_words"=nC (.ref f))
 (Yk:Own K mg "Bid" Zz [])
 (Z7:Own K mg "Only" Zw ["bundle","amount"])
 (ZM:Own K mg "SoMany" Zi ["kind","least","amount"])
 (Z6:Own K mg "UpTo" Zv ["kind","most","each"])
 (ZP:Own K mg "Several" Zm ["bids"])
 (Z0:Own K mg "AnyOf" Zq ["bids"])
 (Z1:Own K mg "OneOf" Zr ["bids"])
 (ZQ:Own K mg "Stock" Zn ["numbers","kinds"])
 (R:∀C sp,jaQ K Zz Zw Zi Zv Zm Zq Zr Zn d C sp->∃ps,Ut P w K mg base (2*d+4) C "words" ps sp):Z3 P w K mg base (2*d+5) "list_words" ["bids","names"] [] (yS K Zz Zw Zi Zv Zm Zq Zr Zn d):=by
 refine F.Yp S (VF F λ_ _ _ _ _ _ _ _=>rfl) Fw (λvs H Q E h=>?_) (λT A y s H vs Q E hr h=>?_)
 .obtain⟨l,bs,g,A,M,u,m,rfl,_⟩:=h;rfl
 obtain⟨l,bs,g,A,M,u,m,rfl,J,p,o,I,hm,r,hs,q⟩:=h
 have tl:=Qm g
 refine⟨_,(Zh (ZC (Km K Zf (XH (ZJ Ua) ["bids","names"] ["bid"] ["names"] [1] rfl rfl rfl ⟨s.heap.objs.size+1,rfl⟩ rfl rfl (by decide+kernel) (Ws (Ze 0)) (λC N B D=>(Ym (i:=0) (show jdM (["bid","names"]:List Str)from by decide+kernel) rfl (jbI rfl))) (λC N B D=>Wu) (λC N B D=>(Ov (Ze 0) R hr (by first|decide|omega) (Za (Ze 1) Zb))))))),?_⟩
 refine⟨jh "; ",rfl,_,rfl,l,rfl,⟨_,Yy.of J⟩,λL G=>?_⟩
 refine Uj (xs:=bs.map V.ref) (λk j=>Z5 H j/\j L=nC (.lst (((g.take k).map (W6 u)).map V.str))) ⟨Zk G _,Zj⟩ (λk j _ z=>Yy.of (z.1 _ _ J)) ?_ ?_
 .rintro k v n hv ⟨c,e⟩ K1 K0 k1 k0
  obtain⟨b,t,rfl,hb,a,ib⟩:=p.at hv
  have mt:=Tu (jcE a)
  obtain⟨C,U,X,sp,Y,Z,g3,g4⟩:=Ab K (Zm:=Zm) (Zn:=Zn) (ib.same c) (by omega) hm (hs.mem t (jcE a))
  refine⟨_,rfl,b,C,U,X,sp,rfl,Y,Z,g3,_,rfl,g4 n M u (Z5.refl _) (I.same c) r _ λH3 O=>k1 _ _ _ (O _ _ e) ?_ ⟨(c.trans O).upd G _,?_⟩⟩
  .rw[rz,rz,jcB];exact Xr (by omega)
  .rw[Zj,jdE,a,jcA,jcA];rfl
 .rintro n ⟨c,e⟩
  rw[rz,p.1,jc2]at e
  have ok:∀t∈g,rK t:=λt a=>by
   obtain⟨x,hx⟩:=p.mem a
   exact XF.ok _ hx
  exact⟨L,_,rfl,Yy.of e,(KJ I.2.1 ok o).1,q n c⟩
theorem HY(d:Nat){f:pA}{o:jaF}(F:Xl K "words" "AnyOf.words" U0 f o)(v:Z3 P w K mg base (2*d+5) "list_words" ["bids","names"] [] (yS K Zz Zw Zi Zv Zm Zq Zr Zn d))
 (N:Own K mg "Bid" Zz [])
 (S:Own K mg "Only" Zw ["bundle","amount"])
 (T:Own K mg "SoMany" Zi ["kind","least","amount"])
 (R:Own K mg "UpTo" Zv ["kind","most","each"])
 (U:Own K mg "Several" Zm ["bids"])
 (n:Own K mg "AnyOf" Zq ["bids"])
 (O:Own K mg "OneOf" Zr ["bids"])
 (W:Own K mg "Stock" Zn ["numbers","kinds"]):
 We P w K mg base Ol (2*d+6) f o ["self","names"] (Gx K qm Zz Zw Zi Zv Zm Zq Zr Zn (d+1)):=by
 refine F.Eg Ri (λM H Q E h=>?_) (λx A j s H M Q E I h=>?_)
 .obtain⟨a,e,A,t,c,m,rfl,_⟩:=h;rfl
 obtain⟨a,e,A,t,c,m,rfl,r,b,p,G,g,J,q⟩:=h
 have ok:=Ku (Qw.mp (XF.ok _ r))
 obtain⟨y,l,bs,B,X,C,D⟩:=r
 obtain⟨_,_,_,_,_,Z,l7,l8,l9⟩:=lens
 have Y:=(KJ p.2.1 ok b).2
 refine⟨_,(Zd (ZL (i:=2) Ri.nd rfl (jbI rfl) (Zx v I (by first|decide|omega) rfl (Za (Y7 K (Ze 0)) (Za (Ze 1) Zb))))
  (Zh (ZC (RG (YJ Zf (YJ (JR (Ze 2)) (YJ Zf PL))))))),?_⟩
 refine⟨_,rfl,a,Zq,y,_,.ref l,rfl,B,n.cls,n.no _ (WL 0 rfl),rfl,_,rfl,l,bs,e,A,t,c,m,rfl,C,D,b,p,G,g,J,λu L=>?_⟩
 refine⟨jh "any(",rfl,sz (by rw[uy,YD];omega),_,rfl,jeZ (jh "; ") (e.map (W6 c)),rfl,sz (by omega),jeZ (jh "; ") (e.map (W6 c)),rfl,sz (by rw[uy,uy,YD];omega),jh ")",rfl,sz (by rw[uy,uy,uy,YD];omega),sz (by rw[uy,uy,uy,YD];omega),?_⟩
 rw[empty_app]
 have z:=q u L
 rw[Nr]at z
 exact z
theorem Ga(d:Nat){f:pA}{o:jaF}(F:Xl K "words" "OneOf.words" U3 f o)(v:Z3 P w K mg base (2*d+5) "list_words" ["bids","names"] [] (yS K Zz Zw Zi Zv Zm Zq Zr Zn d))
 (N:Own K mg "Bid" Zz [])
 (S:Own K mg "Only" Zw ["bundle","amount"])
 (T:Own K mg "SoMany" Zi ["kind","least","amount"])
 (R:Own K mg "UpTo" Zv ["kind","most","each"])
 (U:Own K mg "Several" Zm ["bids"])
 (O:Own K mg "AnyOf" Zq ["bids"])
 (n:Own K mg "OneOf" Zr ["bids"])
 (W:Own K mg "Stock" Zn ["numbers","kinds"]):
 We P w K mg base Ol (2*d+6) f o ["self","names"] (Gx K vh Zz Zw Zi Zv Zm Zq Zr Zn (d+1)):=by
 refine F.Eg Rj (λM H Q E h=>?_) (λx A j s H M Q E I h=>?_)
 .obtain⟨a,e,A,t,c,m,rfl,_⟩:=h;rfl
 obtain⟨a,e,A,t,c,m,rfl,r,b,p,G,g,J,q⟩:=h
 have ok:=Ku (Qw.mp (XF.ok _ r))
 obtain⟨y,l,bs,B,X,C,D⟩:=r
 obtain⟨_,_,_,_,_,Z,l7,l8,l9⟩:=lens
 have Y:=(KJ p.2.1 ok b).2
 refine⟨_,(Zd (ZL (i:=2) Rj.nd rfl (jbI rfl) (Zx v I (by first|decide|omega) rfl (Za (Y7 K (Ze 0)) (Za (Ze 1) Zb))))
  (Zh (ZC (RG (YJ Zf (YJ (JR (Ze 2)) (YJ Zf PL))))))),?_⟩
 refine⟨_,rfl,a,Zr,y,_,.ref l,rfl,B,n.cls,n.no _ (WL 0 rfl),rfl,_,rfl,l,bs,e,A,t,c,m,rfl,C,D,b,p,G,g,J,λu L=>?_⟩
 refine⟨jh "one(",rfl,sz (by rw[uy,YD];omega),_,rfl,jeZ (jh "; ") (e.map (W6 c)),rfl,sz (by omega),jeZ (jh "; ") (e.map (W6 c)),rfl,sz (by rw[uy,uy,YD];omega),jh ")",rfl,sz (by rw[uy,uy,uy,YD];omega),sz (by rw[uy,uy,uy,YD];omega),?_⟩
 rw[empty_app]
 have z:=q u L
 rw[Nr]at z
 exact z
theorem An{I J L M r t Y:pA}{z B F G p q d7:jaF}(T:Xl K "words" "Bid.words" Rw I z)(U:Xl K "words" "Only.words" T8 J B)(W:Xl K "words" "SoMany.words" Uo L F)(X:Xl K "words" "UpTo.words" T9 M G)
 (u:Xl K "words" "AnyOf.words" U0 r p)(v:Xl K "words" "OneOf.words" U3 t q)(Z:Xl K "list_words" "list_words" Ua Y d7)(g7:mg "list_words"=nC (.ref Y))
 (x:Z3 P w K mg base 3 "place_words" ["bundle","names"] [] (Wt K))
 (b:Own K mg "Bid" Zz [])
 (g:Own K mg "Only" Zw ["bundle","amount"])
 (i:Own K mg "SoMany" Zi ["kind","least","amount"])
 (f:Own K mg "UpTo" Zv ["kind","most","each"])
 (j:Own K mg "Several" Zm ["bids"])
 (c:Own K mg "AnyOf" Zq ["bids"])
 (e:Own K mg "OneOf" Zr ["bids"])
 (l:Own K mg "Stock" Zn ["numbers","kinds"])
 (M1:Meth K Zz "words" I)(M2:Meth K Zw "words" J)(M3:Meth K Zi "words" L)(M4:Meth K Zv "words" M)(M5:Meth K Zq "words" r)(M6:Meth K Zr "words" t):
 ∀d,∀C sp,jaQ K Zz Zw Zi Zv Zm Zq Zr Zn d C sp->∃ps,Ut P w K mg base (2*d+4) C "words" ps sp:=by
 have l1:=MT (P:=P) (w:=w) (base:=base) (mg:=mg) T b g i f j c e l
 have l2:=Ny (P:=P) (w:=w) (base:=base) (mg:=mg) U x b g i f j c e l
 have l3:=Q7 (P:=P) (w:=w) (base:=base) (mg:=mg) W x b g i f j c e l
 have l4:=Nz (P:=P) (w:=w) (base:=base) (mg:=mg) X x b g i f j c e l
 have b1:Binds K z ["self","names"] []:=VF T λ_ _ _ _ _ _ _ _=>rfl
 have b2:Binds K B ["self","names"] []:=VF U λ_ _ _ _ _ _ _ _=>rfl
 have b3:Binds K F ["self","names"] []:=VF W λ_ _ _ _ _ _ _ _=>rfl
 have b4:Binds K G ["self","names"] []:=VF X λ_ _ _ _ _ _ _ _=>rfl
 have b5:Binds K p ["self","names"] []:=VF u λ_ _ _ _ _ _ _ _=>rfl
 have b6:Binds K q ["self","names"] []:=VF v λ_ _ _ _ _ _ _ _=>rfl
 have put:∀d,We P w K mg base Ol (2*d+4) r p ["self","names"] (Gx K qm Zz Zw Zi Zv Zm Zq Zr Zn d)->We P w K mg base Ol (2*d+4) t q ["self","names"] (Gx K vh Zz Zw Zi Zv Zm Zq Zr Zn d)->∀C sp,jaQ K Zz Zw Zi Zv Zm Zq Zr Zn d C sp->∃ps,Ut P w K mg base (2*d+4) C "words" ps sp:=by
  intro d h5 h6 C sp o
  rcases o with⟨rfl,rfl⟩|⟨rfl,rfl⟩|⟨rfl,rfl⟩|⟨rfl,rfl⟩|⟨rfl,rfl⟩|⟨rfl,rfl⟩
  .exact⟨_,I,z,l1.mono (by omega),b1,M1,b.cls⟩
  .exact⟨_,J,B,l2.mono (by omega),b2,M2,g.cls⟩
  .exact⟨_,L,F,l3.mono (by omega),b3,M3,i.cls⟩
  .exact⟨_,M,G,l4.mono (by omega),b4,M4,f.cls⟩
  .exact⟨_,r,p,h5,b5,M5,c.cls⟩
  .exact⟨_,t,q,h6,b6,M6,e.cls⟩
 intro d
 induction d with
 |zero=>
  refine put 0 (u.Eg Ri (λS H Q E h=>?_) (λy A n s H S Q E hr h=>?_)) (v.Eg Rj (λS H Q E h=>?_) (λy A n s H S Q E hr h=>?_))
  .obtain⟨a,R,A,N,O,m,rfl,_⟩:=h;rfl
  .obtain⟨a,R,A,N,O,m,rfl,o,_⟩:=h;exact o.elim
  .obtain⟨a,R,A,N,O,m,rfl,_⟩:=h;rfl
  .obtain⟨a,R,A,N,O,m,rfl,o,_⟩:=h;exact o.elim
 |succ d ih=>
  have D:=NK d Z g7 b g i f j c e l ih
  exact put (d+1) (HY d u D b g i f j c e l) (Ga d v D b g i f j c e l)
end
theorem mF:∀b<64,∀k<6,decide (b/2^k&&&1=1)=b.testBit k:=by decide+kernel
theorem sub_le:∀m<7,∀b<64,b<=2^m-1->b|||(2^m-1)=2^m-1:=by decide+kernel
theorem pY(ns:List (List Nat)):ns.map sv=(ns.map tx).map V.str:=by rw[jdq];rfl
theorem DG{K:oh}{H:Hp}{l:pA}{ns:List (List Nat)}(h:H l=nC (.lst (ns.map sv)))(ok:∀n∈ns,YX n=qm)(a:ns.length<=6):JQ K H l (ns.map tx):=by
 refine⟨Yy.of (by rw[<-pY];exact h),λx c=>?_,by rw[rz];omega⟩
 obtain⟨n,b,rfl⟩:=jdT.mp c
 have:=Ge (ok n b)
 rw[Yo];omega
noncomputable def zH (e:oh):Sp:=λb H Q _=>∃(c d:Int)(m:Nat),b=[.int c,.int d,nv (2^m-1)]/\m<=6/\∀p a t,Z5 H a->Xa t=1->Yj t=1->FT (λl=>H l=su) a 1 p t->Sub (Xw t) m->Q (.ref p) a
noncomputable def JH (K:oh):Sp:=Wt K
noncomputable def qg (K:oh) (d:Nat):Sp:=λe H Q _=>∃(p:pA)(t:Tr)(A:pA->Prop)(c:pA)(a:List Str)(m:Nat),e=[.ref p,.ref c]/\FT A H d p t/\Yj t<=100/\JQ K H c a/\m<=6/\m<=a.length/\Sub (Xw t) m/\∀b,Z5 H b->Q (.str (W6 a t)) b
noncomputable def zK (K:oh):Sp:=qg K 4
noncomputable def zG (K:oh):Sp:=λd H Q _=>∃(a:pA)(c:List Int)(m:Nat),d=[.ref a,nv (2^m-1)]/\Yy K H a (c.map V.int)/\m<=6/\∀p b t,Z5 H b->FT (λ_=>True) b 4 p t->Xa t<=4->Yj t<=24->Sub (Xw t) m->Q (.ref p) b
section
variable{P:jcz}{w:jcS}{K:oh}{mg:Str->Option pL}{base:jcX}
variable{Zz Zw Zi Zv Zm Zq Zr Zn:pA}
theorem uP{f:pA}{B:jaF}(F:Xl K "_law_place" "_law_place" KD f B)(v:mg "_law_place"=nC (.ref f))(u:mg "range"=su):Z3 P w K mg base 1 "_law_place" ["_law_bundle_here","_law_names_here"] [] (JH K):=by
 refine F.Yp v (VF F λ_ _ _ _ _ _ _ _=>rfl) tH (λN H Q E h=>?_) (λx A j s H N Q E O h=>?_)
 .obtain⟨b,r,d,rfl,_⟩:=h;rfl
 obtain⟨b,r,d,rfl,G,p,I,q⟩:=h
 refine⟨_,(Zh (ZC (Km K Zf (XH (ZJ KD) ["_law_bundle_here","_law_names_here"] ["_law_k"] ["_law_bundle_here","_law_names_here"] [0,1] rfl rfl rfl ⟨s.heap.objs.size+1,rfl⟩ rfl rfl (by decide+kernel) (Wr rfl u (Za Zc Zb)) (λC t l o=>(Ym (i:=0) (show jdM (["_law_k","_law_bundle_here","_law_names_here"]:List Str)from by decide+kernel) rfl (jbI rfl))) (λC t l o=>(JV (ZK Xv (Zg yF (Zg rM (Ze 1) (Ze 0)) Zc) Zc (Yb _)))) (λC t l o=>(Z4 (YH K) (Ze 2) (Ze 0) (λ_ _=>rfl))))))),?_⟩
 refine⟨jh "+",rfl,6,rfl,by decide,by decide,λM D=>?_⟩
 refine T5 (n:=6) (lo:=0) (λk=>b.testBit k) (λk=>.str (d.getD k jdV)) (by decide) D ?_ ?_ ?_
 .intro k c a e C g
  rw[jeE]
  have z:=g c (Z5.refl _)
  refine⟨_,rfl,_,rfl,b,k,rfl,rfl,_,1,rfl,rfl,rfl,_,rfl,?_⟩
  rw[<-mF b G k a]at z
  rw[show decide (V.int ((b/2^k&&&1:Nat):Int)=V.int 1)=decide (b/2^k&&&1=1)from Dp (b:=1)]
  exact z
 .intro k c a L e C g
  rw[jeE]
  have J:k∈things b:=jgE.mpr ⟨jd0.mpr a,L⟩
  exact⟨_,rfl,_,rfl,r,_,_,_,rfl,rfl,(p.same e).1,Aq (I k J),g _ (Z5.refl _)⟩
 .intro c e m
  have y:(((jc4 6).filter λk=>b.testBit k).map λk=>V.str (d.getD k jdV))=((things b).map λk=>d.getD k jdV).map V.str:=by
   rw[jdq];rfl
  rw[y]at m
  exact⟨M,_,rfl,Yy.of m,(Wy p.2.1 b).1,q c e⟩
theorem oE{f:pA}{fd:jaF}(F:Xl K "_law_leaf" "_law_leaf" Cu f fd)(T:mg "_law_leaf"=nC (.ref f))
 (S:Z3 P w K mg base 1 "_law_amount" ["_law_cell_here"] [] (G6 K)):Z3 P w K mg base 2 "_law_leaf" ["_law_cell_here","_law_other","_law_last"] [] (zH K):=by
 refine F.Yp T (Bq F λ_ _ _ _ _ _ _ _ _=>rfl) zA (λvs H Q E h=>?_) (λU A G s H vs Q E hr h=>?_)
 .obtain⟨c,d,m,rfl,_⟩:=h;rfl
 obtain⟨c,d,m,rfl,C,q⟩:=h
 refine⟨_,(Zd (ZL (i:=3) zA.nd rfl (jbI rfl) (Z4 (YH K) (ZV (Za Zf (Za Zf (Za Zf (Za Zf (Za Zf (Za Zf (Za Zf (Za Zf (Za Zf Zb)))))))))) (Zg (Fp YZ) (Ze 0) Zc) (λ_ _=>rfl)))
  (Zd (ZR (ZK R6 (Zg (Fp YZ) (Ze 0) Zc) Zc (Yb _)) (Zh (ZC (Xf (Za (Ze 3) (Za (ZV Zb) Zb))))) ZF)
  (Zd (ZR (ZK Xv (Ze 2) Zc (Yb _)) (Zh (ZC (Xf (Za Zf (Za Zc (Za Zc (Za Zc Zb))))))) ZF)
  (Zh (ZC (Xf (Za (Ze 3) (Za (Zg (Xc Yh) Zc (Zg (Fp YZ) (Zg Va (Ze 0) Zc) (Ze 2))) (Za (Zg (Xc Yh) Zc (Zg (Fp YZ) (Zg Va (Ze 0) Zc) Zc)) (Za (Zx S hr (by first|decide|omega) rfl (Za (Ze 1) Zb)) Zb)))))))))),?_⟩
 obtain⟨Z,L⟩:=jbk C
 obtain⟨z,J,hz⟩:=R9 c 9 (by decide)
 obtain⟨n,X,hn⟩:=R9 (c/567) 6 (by decide)
 refine⟨(by show 9<=qd;decide),λl hl=>?_⟩
 have r:=Zk hl (.lst [V.str "none",.str "only",.str "some",.str "most",.str "only",.str "some",.str "most",.str "any",.str "one"])
 obtain⟨t,Y,o⟩:∃t:Str,Ac [V.str "none",.str "only",.str "some",.str "most",.str "only",.str "some",.str "most",.str "any",.str "one"] (z:Int)=nC (.str t)/\((z<=6/\∀b:Nat,1+b<=63->∃f,t=word f/\Wf f/\Fits f (1+b) (1+n) (Wv d)/\(Us f=0\/Us f=1+b))\/(6<z/\∃any,t=WK any)):=by
  have u:GD (Wv d):=⟨Fb d,xM d⟩
  have N:∀b:Nat,1+b<=63->∃f,("only":Str)=word f/\Wf f/\Fits f (1+b) (1+n) (Wv d)/\(Us f=0\/Us f=1+b):=λb B=>⟨.only (1+b) (Wv d),rfl,⟨by omega,by omega,u⟩,⟨rfl,rfl⟩,.inr rfl⟩
  have O:∀b:Nat,1+b<=63->∃f,("some":Str)=word f/\Wf f/\Fits f (1+b) (1+n) (Wv d)/\(Us f=0\/Us f=1+b):=λb B=>⟨.some (1+b) (1+n) (Wv d),rfl,⟨by omega,by omega,by omega,by omega,u⟩,⟨rfl,rfl,rfl⟩,.inr rfl⟩
  have R:∀b:Nat,1+b<=63->∃f,("most":Str)=word f/\Wf f/\Fits f (1+b) (1+n) (Wv d)/\(Us f=0\/Us f=1+b):=λb B=>⟨.most (1+b) (1+n) (Wv d),rfl,⟨by omega,by omega,by omega,by omega,u⟩,⟨rfl,rfl,rfl⟩,.inr rfl⟩
  rcases(by omega:z=0\/z=1\/z=2\/z=3\/z=4\/z=5\/z=6\/z=7\/z=8)with e|e|e|e|e|e|e|e|e<;>subst e
  .exact⟨_,rfl,.inl ⟨by decide,λb _=>⟨.none,rfl,trivial,trivial,.inl rfl⟩⟩⟩
  .exact⟨_,rfl,.inl ⟨by decide,N⟩⟩
  .exact⟨_,rfl,.inl ⟨by decide,O⟩⟩
  .exact⟨_,rfl,.inl ⟨by decide,R⟩⟩
  .exact⟨_,rfl,.inl ⟨by decide,N⟩⟩
  .exact⟨_,rfl,.inl ⟨by decide,O⟩⟩
  .exact⟨_,rfl,.inl ⟨by decide,R⟩⟩
  .exact⟨_,rfl,.inr ⟨by decide,qm,rfl⟩⟩
  .exact⟨_,rfl,.inr ⟨by decide,vh,rfl⟩⟩
 have I:L2.Sub 0 m:=by unfold L2.Sub;rw[jhj]
 refine⟨_,rfl,_,_,nv z,rfl,rfl,(by show(0:Int)<9;decide),congrArg V.int J,l,_,_,_,rfl,rfl,Yy.of Zj,Y,?_⟩
 refine⟨_,rfl,_,_,nv z,rfl,rfl,(by show(0:Int)<9;decide),congrArg V.int J,_,_,rfl,rfl,_,rfl,?_⟩
 refine QQ (λv=>?_) (λv=>?_)
 .have c':(6:Int)<(z:Int):=of_decide_eq_true v
  rcases o with⟨M,_⟩|⟨_,any,rfl⟩
  .omega
  refine⟨_,rfl,(by show 0<=qd;decide),λl2 g=>⟨(by show 2<=qd;decide),λp a=>?_⟩⟩
  refine q p _ (.node any []) ((r.trans (Zk g _)).trans (Zk a _)) rfl rfl ⟨l2,[],Zj,r.free g,?_,Xb.nil⟩ I
  exact Zk a _ _ _ Zj
 .rcases o with⟨M,o⟩|⟨M,_⟩
  .refine⟨_,rfl,rfl,_,rfl,?_⟩
   by_cases j:2^m-1=0
   .rw[show decide (nv (2^m-1)=V.int 0)=qm from decide_eq_true (by rw[j];rfl)]
    refine Ys ⟨(by show 4<=qd;decide),λp a=>?_⟩
    exact q p _ (.leaf .none) (r.trans (Zk a _)) rfl rfl ⟨trivial,0,1,0,Zj,by decide,trivial⟩ I
   rw[show decide (nv (2^m-1)=V.int 0)=vh from decide_eq_false (λy=>j (by have:=V.int.inj y;omega))]
   refine Yn ?_
   obtain⟨b,W,B⟩:=R9 (c/9) (2^m-1) (by omega)
   obtain⟨f,rfl,ok,x,D⟩:=o b (by omega)
   refine⟨_,rfl,_,rfl,_,_,rfl,rfl,⟨by decide,by decide⟩,_,rfl,_,_,nv b,rfl,rfl,(by show(0:Int)<((2^m-1:Nat):Int);omega),congrArg V.int W,_,_,nv (1+b),rfl,rfl,rfl,?_⟩
   refine⟨_,rfl,_,_,rfl,rfl,⟨by decide,by decide⟩,_,_,nv n,rfl,rfl,(by show(0:Int)<6;decide),congrArg V.int X,_,_,nv (1+n),rfl,rfl,rfl,_,rfl,d,rfl,(by show 4<=qd;decide),λp a=>?_⟩
   refine q p _ (.leaf f) (r.trans (Zk a _)) rfl rfl ⟨ok,1+b,1+n,Wv d,Zj,by omega,x⟩ ?_
   show Sub (Us f) m
   rcases D with e|e<;>rw[e]
   .exact I
   .exact sub_le m (by omega) (1+b) (by omega) (by omega)
  .exact absurd (decide_eq_true (show(6:Int)<(z:Int)by omega)) v
end
theorem nG(any:Bool):WK any++jh "("=wB any:=by cases any<;>decide
theorem iI(any:Bool):(WK any).length=3:=by cases any<;>rfl
theorem yH:(jh "(").length=1:=rfl
theorem vG(ts:List Tr)(t:Tr):YQ (ts++[t])=YQ ts|||Xw t:=by
 rw[Uc];show _|||(Xw t|||0)=_;rw[jgC]
theorem Sub.jcj{x y m:Nat}(a:L2.Sub x m)(b:L2.Sub y m):L2.Sub (x|||y) m:=by
 unfold L2.Sub at*
 rw[jja,b,a]
section
variable{P:jcz}{w:jcS}{K:oh}{mg:Str->Option pL}{base:jcX}
theorem oG(d:Nat){f:pA}{fd:jaF}(F:Xl K "_law_text" "_law_text" Lr f fd)(ZZ:mg "_law_text"=nC (.ref f))(N:mg "str"=su)
 (PJ:Z3 P w K mg base 1 "_law_place" ["_law_bundle_here","_law_names_here"] [] (JH K))(RB:Z3 P w K mg base (8+d) "_law_text" ["_law_form_here","_law_names_here"] [] (qg K d)):Z3 P w K mg base (8+d+1) "_law_text" ["_law_form_here","_law_names_here"] [] (qg K (d+1)):=by
 refine F.Yp ZZ (VF F λ_ _ _ _ _ _ _ _=>rfl) Gr (λvs H Q E h=>?_) (λaf A ad s H vs Q E hr h=>?_)
 .obtain⟨p,t,A,U,u,m,rfl,_⟩:=h;rfl
 obtain⟨p,t,A,U,u,m,rfl,hF,aa,y,hm,ab,hs,q⟩:=h
 refine⟨_,(Zd (ZR (ZK Xv (Z4 (Q4 K) (Ze 0) Zc (λ_ _=>rfl)) Zf (Yb _)) (Zh (ZC Zf)) ZF)
  (Zd (ZR (ZK zg (Z4 (Q4 K) (Ze 0) Zc (λ_ _=>rfl)) (Xf (Za Zf (Za Zf Zb))) (by with_unfolding_all rfl)) (Zh (ZC (Zg Zy (Zg Zy (Zg Zy (Z4 (Q4 K) (Ze 0) Zc (λ_ _=>rfl)) Zf) (Km K Zf (XH (ZJ Lr) ["_law_form_here","_law_names_here","_law_place_here"] ["_law_part"] ["_law_names_here"] [1] rfl rfl rfl ⟨s.heap.objs.size+1,rfl⟩ rfl rfl (by decide+kernel) (Ws (Z4 (Q4 K) (Ze 0) Zc (λ_ _=>rfl))) (λC j r fp=>(Ym (i:=0) (show jdM (["_law_part","_law_names_here"]:List Str)from by decide+kernel) rfl (jbI rfl))) (λC j r fp=>Wu) (λC j r fp=>(Zx RB hr (by first|decide|omega) rfl (Za (Ze 0) (Za (Ze 1) Zb))))))) Zf))) ZF)
  (Zd (ZL (i:=2) Gr.nd rfl (jbI rfl) (Zx PJ hr (by first|decide|omega) rfl (Za (Z4 (Q4 K) (Ze 0) Zc (λ_ _=>rfl)) (Za (Ze 1) Zb))))
  (Zd (ZR (ZK Xv (Z4 (Q4 K) (Ze 0) Zc (λ_ _=>rfl)) Zf (Yb _)) (Zh (ZC (Zg Zy (Zg Zy (Ze 2) Zf) (Vf T4 rfl N (jih) (Za (Z4 (Q4 K) (Ze 0) Zc (λ_ _=>rfl)) Zb))))) ZF)
  (Zd (ZR (ZK Xv (Z4 (Q4 K) (Ze 0) Zc (λ_ _=>rfl)) Zf (Yb _)) (Zh (ZC (Zg Zy (Zg Zy (Zg Zy (Zg Zy (Vf T4 rfl N (jih) (Za (Z4 (Q4 K) (Ze 0) Zc (λ_ _=>rfl)) Zb)) Zf) (Ze 2)) Zf) (Vf T4 rfl N (jih) (Za (Z4 (Q4 K) (Ze 0) Zc (λ_ _=>rfl)) Zb))))) ZF)
  (Zh (ZC (Zg Zy (Zg Zy (Zg Zy (Zg Zy (Zg Zy (Zg Zy Zf (Vf T4 rfl N (jih) (Za (Z4 (Q4 K) (Ze 0) Zc (λ_ _=>rfl)) Zb))) Zf) (Ze 2)) Zf) (Vf T4 rfl N (jih) (Za (Z4 (Q4 K) (Ze 0) Zc (λ_ _=>rfl)) Zb))) Zf)))))))),?_⟩
 obtain⟨n1,n2,n3,n4,n5,n6,n7,n8,n9⟩:=lens
 cases t with
 |leaf f=>
  obtain⟨M,k0,l0,z0,g,ag,D⟩:=hF
  simp only[Nq]at q
  have L:∀x,Us f=x->x<=63->∀k∈things x,k<u.length:=λx e hx k hk=>by
   have J:L2.Sub x m:=by rw[<-e];exact hs
   have:=Ka m (by omega) x (by omega) J k hk
   omega
  cases f with
  |none=>exact⟨_,rfl,p,_,_,_,rfl,rfl,Su.of g,rfl,rfl,_,rfl,Ys (q H (Z5.refl H))⟩
  |only b z=>
   obtain⟨rfl,rfl⟩:=D
   obtain⟨b1,O,o⟩:=M
   have pl:=(Wy y.2.1 b).2
   have zl:=Vr o.lo o.hi
   refine⟨_,rfl,p,_,_,_,rfl,rfl,Su.of g,rfl,rfl,_,rfl,Yn ?_⟩
   refine⟨_,rfl,p,_,_,_,rfl,rfl,Su.of g,rfl,(by show 2<=qd;decide),λB n=>⟨B,_,rfl,.inr (Su.of Zj),rfl,rfl,_,rfl,Yn ?_⟩⟩
   have c:=Zk n (.tup [V.str "any",V.str "one"])
   refine⟨_,rfl,p,_,_,_,rfl,rfl,Su.of (c _ _ g),rfl,_,rfl,b,U,u,rfl,by omega,y.same c,L b rfl O,λr j=>?_⟩
   have a:=j _ _ (c _ _ g)
   refine⟨_,rfl,p,_,_,_,rfl,rfl,Su.of a,rfl,rfl,_,rfl,Ys ?_⟩
   refine⟨_,rfl,Wx u b,jh " for ",rfl,rfl,sz (by omega),_,rfl,p,_,_,_,rfl,rfl,Su.of a,rfl,z,rfl,Rt o.lo o.hi,_,jh (jda z),rfl,rfl,sz (by rw[uy];omega),?_⟩
   exact q r (c.trans j)
  |some b l z=>
   obtain⟨rfl,rfl,rfl⟩:=D
   obtain⟨b1,O,c1,c2,o⟩:=M
   have pl:=(Wy y.2.1 b).2
   have zl:=Vr o.lo o.hi
   have T:(0:Int)<=((l:Nat):Int):=by omega
   have S:((l:Nat):Int)<=10^9:=by omega
   have ll:=Vr T S
   refine⟨_,rfl,p,_,_,_,rfl,rfl,Su.of g,rfl,rfl,_,rfl,Yn ?_⟩
   refine⟨_,rfl,p,_,_,_,rfl,rfl,Su.of g,rfl,(by show 2<=qd;decide),λB n=>⟨B,_,rfl,.inr (Su.of Zj),rfl,rfl,_,rfl,Yn ?_⟩⟩
   have c:=Zk n (.tup [V.str "any",V.str "one"])
   refine⟨_,rfl,p,_,_,_,rfl,rfl,Su.of (c _ _ g),rfl,_,rfl,b,U,u,rfl,by omega,y.same c,L b rfl O,λr j=>?_⟩
   have a:=j _ _ (c _ _ g)
   refine⟨_,rfl,p,_,_,_,rfl,rfl,Su.of a,rfl,rfl,_,rfl,Yn ?_⟩
   refine⟨_,rfl,p,_,_,_,rfl,rfl,Su.of a,rfl,rfl,_,rfl,Ys ?_⟩
   refine⟨_,rfl,p,_,_,_,rfl,rfl,Su.of a,rfl,_,rfl,Rt T S,jh (jda ((l:Nat):Int)),jh " of ",rfl,rfl,sz (by omega),?_⟩
   refine⟨_,rfl,_,Wx u b,rfl,rfl,sz (by rw[uy];omega),_,jh " for ",rfl,rfl,sz (by rw[uy,uy];omega),?_⟩
   refine⟨_,rfl,p,_,_,_,rfl,rfl,Su.of a,rfl,z,rfl,Rt o.lo o.hi,_,jh (jda z),rfl,rfl,sz (by rw[uy,uy,uy];omega),?_⟩
   exact q r (c.trans j)
  |most b l z=>
   obtain⟨rfl,rfl,rfl⟩:=D
   obtain⟨b1,O,c1,c2,o⟩:=M
   have pl:=(Wy y.2.1 b).2
   have zl:=Vr o.lo o.hi
   have T:(0:Int)<=((l:Nat):Int):=by omega
   have S:((l:Nat):Int)<=10^9:=by omega
   have ll:=Vr T S
   refine⟨_,rfl,p,_,_,_,rfl,rfl,Su.of g,rfl,rfl,_,rfl,Yn ?_⟩
   refine⟨_,rfl,p,_,_,_,rfl,rfl,Su.of g,rfl,(by show 2<=qd;decide),λB n=>⟨B,_,rfl,.inr (Su.of Zj),rfl,rfl,_,rfl,Yn ?_⟩⟩
   have c:=Zk n (.tup [V.str "any",V.str "one"])
   refine⟨_,rfl,p,_,_,_,rfl,rfl,Su.of (c _ _ g),rfl,_,rfl,b,U,u,rfl,by omega,y.same c,L b rfl O,λr j=>?_⟩
   have a:=j _ _ (c _ _ g)
   refine⟨_,rfl,p,_,_,_,rfl,rfl,Su.of a,rfl,rfl,_,rfl,Yn ?_⟩
   refine⟨_,rfl,p,_,_,_,rfl,rfl,Su.of a,rfl,rfl,_,rfl,Yn ?_⟩
   refine⟨_,rfl,p,_,_,_,rfl,rfl,Su.of a,rfl,_,rfl,Rt T S,jh "up to ",jh (jda ((l:Nat):Int)),rfl,rfl,sz (by omega),?_⟩
   refine⟨_,jh " of ",rfl,rfl,sz (by rw[uy];omega),?_⟩
   refine⟨_,rfl,_,Wx u b,rfl,rfl,sz (by rw[uy,uy];omega),_,jh " for ",rfl,rfl,sz (by rw[uy,uy,uy];omega),?_⟩
   refine⟨_,rfl,p,_,_,_,rfl,rfl,Su.of a,rfl,z,rfl,Rt o.lo o.hi,_,jh (jda z),rfl,rfl,sz (by rw[uy,uy,uy,uy];omega),_,jh " each",rfl,rfl,sz (by rw[uy,uy,uy,uy,uy];omega),?_⟩
   exact q r (c.trans j)
 |node any X=>
  have ac:=Ku (Qw.mp (FT.ok _ hF))
  obtain⟨l,ps,g,hA,hl,R⟩:=hF
  have ae:1+Z8 X<=100:=aa
  have tl:=Qm X
  have J:L2.Sub (YQ X) m:=hs
  have wl:=iI any
  have c1:decide (V.str (WK any)=V.str "none")=vh:=by cases any<;>decide
  have c2:inV (V.str (WK any)) [V.str "any",V.str "one"]=qm:=by cases any<;>decide
  refine⟨_,rfl,p,_,_,_,rfl,rfl,Su.of g,rfl,rfl,_,rfl,?_⟩
  rw[c1]
  refine Yn ?_
  refine⟨_,rfl,p,_,_,_,rfl,rfl,Su.of g,rfl,(by show 2<=qd;decide),λB n=>⟨B,_,rfl,.inr (Su.of Zj),rfl,rfl,_,rfl,?_⟩⟩
  rw[if_neg jbJ,c2]
  refine Ys ?_
  have c:=Zk n (.tup [V.str "any",V.str "one"])
  have I:=c _ _ g
  have G:=c _ _ hl
  generalize upd H B (.tup [V.str "any",V.str "one"])=H1 at c I G|-
  refine⟨_,rfl,p,_,_,_,rfl,rfl,Su.of I,rfl,WK any,jh "(",rfl,rfl,sz (by rw[yH];omega),?_⟩
  refine⟨jh "; ",rfl,_,rfl,p,_,_,_,rfl,rfl,Su.of I,rfl,l,rfl,⟨_,Yy.of G⟩,λl2 h2=>?_⟩
  refine Uj (xs:=ps.map V.ref) (λk Z=>Z5 H1 Z/\Z l2=nC (.lst (((X.take k).map (W6 u)).map V.str))) ⟨Zk h2 _,Zj⟩ (λk Z _ z=>Yy.of (z.1 _ _ G)) ?_ ?_
  .rintro k v r hv ⟨j,Y⟩ K1 K0 k1 k0
   obtain⟨b,t,rfl,hb,ht,ib⟩:=R.at hv
   have mt:=Tu (jcE ht)
   have W:=c.trans j
   refine⟨_,rfl,_,rfl,b,t,A,U,u,m,rfl,FT.same W ib,by omega,y.same W,hm,ab,J.mem t (jcE ht),λH3 s3=>k1 _ _ _ (s3 _ _ Y) ?_ ⟨(j.trans s3).upd h2 _,?_⟩⟩
   .rw[rz,rz,jcB];exact Xr (by omega)
   .rw[Zj,jdE,ht,jcA,jcA];rfl
  .rintro r ⟨j,Y⟩
   rw[rz,R.1,jc2]at Y
   obtain⟨jo,jl⟩:=KJ y.2.1 ac (show Z8 X<=100 by omega)
   refine⟨l2,_,rfl,Yy.of Y,jo,_,_,rfl,rfl,sz (by rw[uy,yH];omega),_,jh ")",rfl,rfl,sz (by rw[uy,uy,yH];omega),?_⟩
   have z:=q r (c.trans j)
   rw[Nr,<-nG]at z
   exact z
theorem ul{f:pA}{i:jaF}(F:Xl K "_law_text" "_law_text" Lr f i)(b:mg "_law_text"=nC (.ref f))(e:mg "str"=su)
 (c:Z3 P w K mg base 1 "_law_place" ["_law_bundle_here","_law_names_here"] [] (JH K)):∀d,Z3 P w K mg base (8+d) "_law_text" ["_law_form_here","_law_names_here"] [] (qg K d):=by
 intro d
 induction d with
 |zero=>
  refine F.Yp b (VF F λ_ _ _ _ _ _ _ _=>rfl) Gr (λq H Q E h=>?_) (λg A a s H q Q E r h=>?_)
  .obtain⟨p,t,A,n,o,m,rfl,_⟩:=h;rfl
  .obtain⟨p,t,A,n,o,m,rfl,j,_⟩:=h;exact j.elim
 |succ d l=>exact oG d F b e c l
theorem oA{f:pA}{fd:jaF}(F:Xl K "_law_form" "_law_form" Cr f fd)(ZZ:mg "_law_form"=nC (.ref f))(Y9:mg "range"=su)
 (J:Z3 P w K mg base 1 "_law_cell" ["_law_script","_law_k"] [] (Og K))
 (QX:Z3 P w K mg base 1 "_law_grouped" ["_law_forms","_law_cell_here"] [] (Iw K))
 (Ei:Z3 P w K mg base 2 "_law_leaf" ["_law_cell_here","_law_other","_law_last"] [] (zH K)):Z3 P w K mg base 3 "_law_form" ["_law_script","_law_last"] [] (zG K):=by
 refine F.Yp ZZ (VF F λ_ _ _ _ _ _ _ _=>rfl) Oc (λvs H Q E h=>?_) (λan A al s H vs Q E r h=>?_)
 .obtain⟨a,C,m,rfl,_⟩:=h;rfl
 obtain⟨a,C,m,rfl,S,ad,q⟩:=h
 refine⟨_,(Zd (ZL (i:=2) Oc.nd rfl (jbI rfl) (Zx J r (by first|decide|omega) rfl (Za (Ze 0) (Za Zc Zb))))
  (Zd (ZL (i:=3) Oc.nd rfl (jbI rfl) (ZV Zb))
  (Zd (Uz jdK rfl (Wr rfl Y9 (Za (Zg (Xc Yh) Zc (Zg (Fp YZ) (Ze 2) Zc)) Zb)) (Ym (i:=4) Oc.nd rfl (jbI rfl)) (Zh (Yx (WP (Ze 3) (Za (Zx Ei r (by first|decide|omega) rfl (Za (Zx J r (by first|decide|omega) rfl (Za (Ze 0) (Za (Zg (Xc Yh) Zc (Zg Qc Zc (Ze 4))) Zb))) (Za (Zx J r (by first|decide|omega) rfl (Za (Ze 0) (Za (Zg (Xc Yh) Zc (Zg Qc Zc (Ze 4))) Zb))) (Za (Ze 1) Zb)))) Zb)))))
  (Zd (ZR (ZK Xv (Zg YZ (Zg Va (Ze 2) Zc) Zc) Zc (Yb _)) (Zh (ZC (Z4 (YH K) (Ze 3) Zc (λ_ _=>rfl)))) ZF)
  (Zd (ZL (i:=3) Oc.nd rfl (jbI rfl) (Zx QX r (by first|decide|omega) rfl (Za (Zx QX r (by first|decide|omega) rfl (Za (Ze 3) (Za (Zx J r (by first|decide|omega) rfl (Za (Ze 0) (Za Zc Zb))) Zb))) (Za (Zx J r (by first|decide|omega) rfl (Za (Ze 0) (Za Zc Zb))) Zb))))
  (Zh (ZC (Xf (Za (Z4 (YH K) (ZV (Za Zf (Za Zf Zb))) (Zg (Fp YZ) (Zg Va (Ze 2) Zc) Zc) (λ_ _=>rfl)) (Za (Ze 3) Zb)))))))))),?_⟩
 refine⟨_,rfl,a,C,9,rfl,S,by decide,λH1 s1=>?_⟩
 have ap:=s1.seq S
 generalize VP C 9=X
 refine⟨(by show 0<=qd;decide),λg hf=>?_⟩
 have ac:H g=su:=s1.free hf
 have s2:=s1.trans (Zk hf (.lst []))
 obtain⟨W,Y,ar⟩:=R9 X 7 (by decide)
 refine⟨_,rfl,_,_,nv W,rfl,rfl,(by show(0:Int)<7;decide),congrArg V.int Y,_,_,nv (1+W),rfl,rfl,rfl,_,rfl,by omega,by omega,?_⟩
 rw[jdD]
 refine Kp (n:=1+W) (lo:=0) (λi σ U=>Z5 H U/\(∃(j:List pA)(b:List Tr),U g=nC (.lst (j.map V.ref))/\Xb (FT (λx=>x≠g) U 1) j b/\Yr b<=1/\Z8 b=i/\b.length=i/\L2.Sub (YQ b) m)/\∃y,σ=[nC (.ref a),nC (nv (2^m-1)),nC (.int X),nC (.ref g),y]) ?_ ?_ ?_
 .exact⟨s2,⟨[],[],Zj,Xb.nil,jcY _,rfl,rfl,by unfold L2.Sub;exact jhj _⟩,_,rfl⟩
 .rintro k σ H3 hk ⟨G,⟨j,b,D,c,hd,hy,hl,l⟩,y,rfl⟩
  rw[jeE]
  have d:=G.seq S
  have pl:j.length=b.length:=c.1
  refine⟨_,rfl,.inl ⟨rfl,_,Yy.of D⟩,_,rfl,_,rfl,_,_,rfl,rfl,Tt (by omega),_,_,nv (12+2*k),rfl,rfl,(by show V.int ((12:Int)+2*(k:Int))=V.int ((12+2*k:Nat):Int);congr 1),a,C,12+2*k,rfl,d,by omega,λH4 I=>?_⟩
  have ab:=I.seq d
  refine⟨_,rfl,_,rfl,_,_,rfl,rfl,Tt (by omega),_,_,nv (13+2*k),rfl,rfl,(by show V.int ((13:Int)+2*(k:Int))=V.int ((13+2*k:Nat):Int);congr 1),a,C,13+2*k,rfl,ab,by omega,λH5 s5=>?_⟩
  have M:=I.trans s5
  refine⟨_,rfl,_,_,m,rfl,ad,λp H6 t O td ty hF ae=>?_⟩
  have v:=M.trans O
  have u:=v _ _ D
  refine⟨g,_,_,rfl,rfl,u,by rw[rz];exact Xr (by omega),?_⟩
  have nA:¬(g≠g):=λz=>z rfl
  have aa:FT (λx=>x≠g) H6 1 p t:=hF.imp λx zs hx e=>by
   intro z
   rw[z]at hx
   have:=M _ _ D
   rw[hx]at this;cases this
  refine⟨(G.trans v).upd ac _,⟨j++[p],b++[t],by rw[Zj,jcA];rfl,(c.imp λ_ _ _ z=>(FT.same v z).put u nA).snoc (aa.put u nA),?_,?_,by rw[O1,hl];rfl,?_⟩,_,rfl⟩
  .rw[Rr];show max _ (max (Xa t) 0)<=1;omega
  .rw[UT];show Z8 b+(Yj t+0)=k+1;omega
  .rw[vG];exact Sub.jcj l ae
 .rintro σ H3 ⟨G,⟨j,b,D,c,hd,hy,hl,l⟩,y,rfl⟩
  have d:=G.seq S
  have pl:j.length=b.length:=c.1
  refine⟨_,rfl,_,_,rfl,rfl,⟨by decide,by decide⟩,_,_,rfl,rfl,(by show(0:Int)<4;decide),rfl,_,rfl,QQ (λ_=>?_) (λ_=>?_)⟩
  .have L:j[0]?=nC (j[0]'(by omega)):=sH _
   have o:b[0]?=nC (b[0]'(by omega)):=sH _
   have f0:=c.2 0 _ _ L o
   have d0:=Tn (jcE o)
   have y0:=Tu (jcE o)
   refine⟨_,rfl,g,_,_,_,rfl,rfl,Yy.of D,Et (k:=0) (by rw[jcF,L];rfl),?_⟩
   exact q _ H3 (b[0]'(by omega)) G (FT.to _ 4 (f0.imp λ_ _ _ _=>trivial) (by omega)) (by omega) (by omega) (l.mem _ (jcE o))
  refine⟨_,rfl,_,rfl,a,C,10,rfl,d,by decide,λH4 I=>?_⟩
  refine⟨g,j,b,λx=>x≠g,1,_,rfl,I _ _ D,c.imp λ_ _ _ z=>FT.same I z,by omega,λl2 H5 qs us s5 e5 hU du lu tu⟨x1,ag⟩=>?_⟩
  have N:=I.trans s5
  refine⟨_,rfl,a,C,11,rfl,N.seq d,by decide,λH6 O=>?_⟩
  refine⟨l2,qs,us,λ_=>True,2,_,rfl,O _ _ e5,hU.imp λ_ _ _ z=>FT.same O z,by omega,λl3 H7 rs R s7 e7 hV dw lw tw⟨x2,ah⟩=>?_⟩
  have am:=(N.trans O).trans s7
  have af:L2.Sub (YQ R) m:=by
   have h1:L2.Sub (YQ us|||x1) m:=by rw[ag];exact l
   have h2:L2.Sub (YQ R|||x2) m:=by rw[ah];exact(L2.Sub.jf h1).1
   exact(L2.Sub.jf h2).1
  refine⟨(by show 2<=qd;decide),λai hw=>?_⟩
  have s8:=Zk hw (.lst [V.str "any",V.str "one"])
  obtain⟨T,Z,av⟩:=R9 (X/28) 2 (by decide)
  obtain⟨any,ea⟩:∃any,Ac [V.str "any",V.str "one"] (T:Int)=nC (.str (WK any)):=by
   rcases(by omega:T=0\/T=1)with e|e<;>subst e
   .exact⟨qm,rfl⟩
   .exact⟨vh,rfl⟩
  refine⟨_,rfl,_,_,rfl,rfl,⟨by decide,by decide⟩,_,_,nv T,rfl,rfl,(by show(0:Int)<2;decide),congrArg V.int Z,ai,_,_,_,rfl,rfl,Yy.of Zj,ea,_,rfl,(by show 2<=qd;decide),λp hp=>?_⟩
  have s9:=Zk hp (.tup [V.str (WK any),V.ref l3])
  have B:=s8.trans s9
  refine q p _ (.node any R) ((G.trans am).trans B) ⟨l3,rs,Zj,trivial,B _ _ e7,hV.imp λ_ _ _ z=>FT.same B z⟩ ?_ ?_ af
  .show 1+Yr R<=4;omega
  .show 1+Z8 R<=24;omega
end
end My
namespace L2
open PySem PySem.Spec PyProof.Rows PySem.W
structure VM(c:pL->Prop)(B:jcX)(l:List Env)(e:pA)(C:pL)(m:Option pL)(h:jcX):Prop where
 keep:B.StaysIn h
 new:B.get? e=su
 fun_:h.FunFrames B l
 at_:∃oe vs,h.get? e=nC oe/\oe.cls=C/\oe.data=.fields vs/\1<vs.size/\(∀x,m=nC x->Tb h B e vs x)/\(m=su->vs[1]?=nC .none)/\∃x,vs[2]?=nC x/\c x
theorem VM.drop{c:pL->Prop}{B h:jcX}{n:Env}{l:List Env}{e:pA}{C:pL}{m:Option pL}(x:VM c B (n::l) e C m h):VM c B l e C m h:=⟨x.keep,x.new,let⟨_,_,z⟩:=x.fun_;z,x.at_⟩
theorem VM.there{c:pL->Prop}{B h:jcX}{l:List Env}{e:pA}{C:pL}{m:Option pL}(x:VM c B l e C m h):∃d,h.get? e=nC d/\d.cls=C:=by
 obtain⟨d,f,a,b,_⟩:=x.at_
 exact⟨d,a,b⟩
theorem VM.imp{c d:pL->Prop}{B h:jcX}{l:List Env}{e:pA}{C:pL}{m:Option pL}(x:VM c B l e C m h)(f:∀v,c v->d v):VM d B l e C m h:=by
 obtain⟨k,n,r,t,u,a,b,g,i,j,o,y,p,q⟩:=x
 exact⟨k,n,r,t,u,a,b,g,i,j,o,y,p,f y q⟩
section
variable{M:jiU}{A:jdc}{E:pL->S6->Prop}{s:S6}{B:jcX}{env:Env}{outer:List Env}{L e:pA}{C:pL}{c:pL->Prop}{Q:Unit->S6->Prop}
theorem lB{oe:Obj}{vs:Array pL}{d:pL}{hn:Bool}(v:A.frames=nC (env::outer))(W:env.frame=nC L)
 (X:B.StaysIn s.heap)(N:B.get? e=su)(n:s.heap.FunFrames B (env::outer))(u:s.heap.get? e=nC oe)(U:oe.cls=C)(p:oe.data=.fields vs)(w:1<vs.size)(S:∃x,vs[2]?=nC x/\c x)
 (k:∀h',VM c B (env::outer) e C (nC (jgG L)) h'->s.heap.UpToSlots h'->Q () {s with heap:=h'}):
 jcH M A (do let a<-frameOf env;let pl<-entryPlaceOf L hn;let b<-jiz d a .none (jgG L) .none pl;setField (.ref e) 1 b) Q E s:=by
 have F:e∉(env::outer).filterMap (·.frame):=λz=>by
  obtain⟨_,o,a,b⟩:=n.mem z
  rw[u]at a;cases a;exact b vs p
 refine xT (wpAny_frameOf_fun v n W λh1 G=>xT (wpAny_entryPlaceOf λpl g=>?_))
 unfold jiz newFields
 have I:h1.get? e=nC oe:=(G.2.1 e F).trans u
 have K:B.StaysIn h1:=λb o q=>(G.2.1 b λz=>by have y:=(n.mem z).1;rw[q]at y;cases y).trans (X b o q)
 have l:∀b o,s.heap.get? b=nC o->∃r,h1.get? b=nC {o with slots:=r}:=G.2.2
 refine xT (jei ?_ (g.sizeOk5 _ _ _ _ _))
 generalize hO:({cls:=.type "traceback",dict:=su,data:=.fields ([d,.ref L,.none,jgG L,.none]++(if pl.isEmpty then jcU 6 jdL else pl)).toArray}:Obj)=O
 have f:∃m:Array pL,O.data=.fields m/\m[3]?=nC (jgG L):=by
  subst hO
  exact⟨_,rfl,by first|(simp;done)|(rcases g with rfl|⟨_,_,_,_,_,_,_,rfl⟩<;>simp)⟩
 have t:O.isFreed=vh:=by obtain⟨m,z,_⟩:=f;exact jft z
 have J:=U4 (h:=h1) O I
 refine jg9 J p w ?_
 have i:h1.objs.size≠e:=jeA (jbH I)
 have H:=jfn p (·.setIfInBounds 1 (jcI h1.objs.size))
 have R:=jdm (jdN (·.setIfInBounds 1 (jcI h1.objs.size))) J (jft H)
 have Y:=(jcQ (h1.push O) (jdN (·.setIfInBounds 1 (jcI h1.objs.size))) (jdh i)).trans (jcK h1 t)
 have D:∀b o,b≠e->h1.get? b=nC o->((h1.push O).update e (jdN (·.setIfInBounds 1 (jcI h1.objs.size)))).get? b=nC o:=λb o T q=>by
  rw[jcQ _ _ (jdh T)]
  exact U4 _ q
 have P:∀b o,s.heap.get? b=nC o->(∀ws,o.data≠.fields ws)->b≠e:=λb o q j z=>by
  subst z;rw[u]at q;cases q;exact j vs p
 obtain⟨m,td,Z⟩:=f
 refine k _ ⟨λb o q=>D b o (λz=>by subst z;rw[N]at q;cases q) (K b o q),N,n.of_keeps λb o q j=>?_,?_⟩ λb o q j=>?_
 .obtain⟨r,y⟩:=l b o q
  exact⟨_,D b _ (P b o q j) y,rfl⟩
 .refine⟨_,_,R,by rw[Obj.cls_mapFields];exact U,H,by rw[Array.size_setIfInBounds];exact w,λx q=>?_,(λq=>nomatch q),?_⟩
  .cases q
   exact⟨h1.objs.size,O,m,by simp[w],K.fresh,i,Y,td,Z⟩
  .obtain⟨x,y,z⟩:=S
   exact⟨x,by rw[Array.getElem?_setIfInBounds_ne (by decide)];exact y,z⟩
 .obtain⟨r,y⟩:=l b o q
  exact⟨r,D b _ (P b o q j) y⟩
theorem jc(a:A.frames=nC (env::outer))(f:env.frame=nC L)(x:VM c B (env::outer) e C su s.heap)
 (k:∀h',VM c B (env::outer) e C (nC (jgG L)) h'->s.heap.UpToSlots h'->Q () {s with heap:=h'}):jcH M A (jfL (.ref e) env) Q E s:=by
 obtain⟨m,n,g,o,p,d,j,b,l,_,h,i⟩:=x
 unfold jfL
 simp only[f]
 refine xT (jeF d b (h rfl) ?_)
 rw[if_neg (by decide)]
 exact lB a f m n g d j b l i k
theorem zb{m:pL}{l:List Env}(x:VM c B l e C (nC m) s.heap)(k:∀h',VM c B l e C (nC .none) h'->s.heap.UpToSlots h'->Q () {s with heap:=h'}):jcH M A (jiv (.ref e) su) Q E s:=by
 obtain⟨J,K,w,L,N,r,G,p,I,H,_,y⟩:=x
 obtain⟨T,P,u,n,g,d,j,a,D⟩:=H _ rfl
 have v:3<u.size:=(jfG.mp D).1
 unfold jiv
 refine xT (jeF r p n ?_)
 rw[if_pos (show(jcI T !=jdL)=qm from by simp)]
 refine jg9 j a v ?_
 have i:∀b,b≠T->(s.heap.update T (jdN (·.setIfInBounds 3 ((su:Option pA).elim jdL λf=>jgG f)))).get? b=s.heap.get? b:=λb F=>jcQ _ _ (jdh F)
 have t:∀b o,s.heap.get? b=nC o->(∀O,o.data≠.fields O)->b≠T:=λb o q h z=>by
  subst z;rw[j]at q;cases q;exact h u a
 refine k _ ⟨λb o q=>(i b λz=>by subst z;rw[g]at q;cases q).trans (J b o q),K,w.of_keeps λb o q h=>⟨o,(i b (t b o q h)).trans q,rfl⟩,
  L,N,(i e (jdh d)).trans r,G,p,I,λx q=>?_,(λq=>nomatch q),y⟩ λb o q h=>⟨o.slots,(i b (t b o q h)).trans q⟩
 cases q
 exact⟨T,_,_,n,g,d,jdm _ j (jft (jfn a _)),jfn a _,by simp[v]⟩
theorem rD(a:A.frames=nC (env::outer))(g:env.frame=nC L)(x:VM c B (env::outer) e C su s.heap)
 (k:∀h',VM c B outer e C (nC .none) h'->s.heap.UpToSlots h'->Q () {s with heap:=h'}):jcH M A (leaving env (.ref e)) Q E s:=by
 unfold leaving
 exact xT (jc a g x λj b h=>zb b λf d i=>k f d.drop (h.trans i))
theorem DK{env env':Env}(h:env'.frame=env.frame)(v:pL):jfL v env'=jfL v env:=by
 unfold jfL PySem.frameOf
 rw[h]
theorem rH{m:pL}(j:A.frames=nC (env::outer))(v:env.frame=nC L)(x:VM c B (env::outer) e C (nC m) s.heap)
 (k:∀h',VM c B (env::outer) e C (nC (jgG L)) h'->s.heap.UpToSlots h'->Q () {s with heap:=h'}):jcH M A (jfL (.ref e) env) Q E s:=by
 obtain⟨N,O,D,U,W,t,I,r,K,J,_,G⟩:=id x
 obtain⟨T,S,P,F,n,i,h,d,p⟩:=J _ rfl
 unfold jfL
 simp only[v]
 refine xT (jeF t r F ?_)
 rw[if_pos (show(jcI T !=jdL)=qm from by simp)]
 refine xT (jeF h d p ?_)
 by_cases l:(m==jgG L)=qm
 .rw[if_pos l]
  have y:m=jgG L:=by simpa using l
  subst y
  exact jcC (k s.heap x λb o q _=>⟨o.slots,q⟩)
 rw[if_neg l]
 refine xT (jg9 h d (jfG.mp p).1 ?_)
 have g:∀b,b≠T->(s.heap.update T (jdN (·.setIfInBounds 3 jdL))).get? b=s.heap.get? b:=λb H=>jcQ _ _ (jdh H)
 have w:∀b o,s.heap.get? b=nC o->(∀R,o.data≠.fields R)->b≠T:=λb o q f z=>by
  subst z;rw[h]at q;cases q;exact f P d
 refine lB j v (λb o q=>(g b λz=>by subst z;rw[n]at q;cases q).trans (N b o q)) O (D.of_keeps λb o q f=>⟨o,(g b (w b o q f)).trans q,rfl⟩)
  ((g e (jdh i)).trans t) I r K G λh' a u=>k h' a λb o q f=>u b o ((g b (w b o q f)).trans q) f
theorem cu{m:pL}{l:List Env}{j:Option pA}(x:VM c B l e C (nC m) s.heap)(k:∀h',VM c B l e C (nC (j.elim jdL λf=>jgG f)) h'->s.heap.UpToSlots h'->Q () {s with heap:=h'}):jcH M A (jiv (.ref e) j) Q E s:=by
 obtain⟨K,L,y,N,O,t,H,r,J,I,_,D⟩:=x
 obtain⟨T,R,v,p,g,d,n,a,F⟩:=I _ rfl
 have w:3<v.size:=(jfG.mp F).1
 unfold jiv
 refine xT (jeF t r p ?_)
 rw[if_pos (show(jcI T !=jdL)=qm from by simp)]
 refine jg9 n a w ?_
 have i:∀b,b≠T->(s.heap.update T (jdN (·.setIfInBounds 3 (j.elim jdL λf=>jgG f)))).get? b=s.heap.get? b:=λb G=>jcQ _ _ (jdh G)
 have u:∀b o,s.heap.get? b=nC o->(∀P,o.data≠.fields P)->b≠T:=λb o q h z=>by
  subst z;rw[n]at q;cases q;exact h v a
 refine k _ ⟨λb o q=>(i b λz=>by subst z;rw[g]at q;cases q).trans (K b o q),L,y.of_keeps λb o q h=>⟨o,(i b (u b o q h)).trans q,rfl⟩,
  N,O,(i e (jdh d)).trans t,H,r,J,λx q=>?_,(λq=>nomatch q),D⟩ λb o q h=>⟨o.slots,(i b (u b o q h)).trans q⟩
 cases q
 exact⟨T,_,_,p,g,d,jdm _ n (jft (jfn a _)),jfn a _,by simp[w]⟩
theorem kO{m:pL}(a:A.frames=nC (env::outer))(g:env.frame=nC L)(x:VM c B (env::outer) e C (nC m) s.heap)
 (k:∀h',VM c B outer e C (nC .none) h'->s.heap.UpToSlots h'->Q () {s with heap:=h'}):jcH M A (leaving env (.ref e)) Q E s:=by
 unfold leaving
 exact xT (rH a g x λj b h=>zb b λf d i=>k f d.drop (h.trans i))
theorem rO{d:Type}{m:pL}{l:List Env}{b:String}{env:Env}{Q:d->S6->Prop}(x:VM c B l e C (nC m) s.heap)(k:∀h' j,VM c B l e C (nC j) h'->s.heap.UpToSlots h'->E (.ref e) {s with heap:=h'}):jcH M A (jjd b (.ref e) env:Sem d) Q E s:=by
 obtain⟨r,t,n,w,z,h,p,g,q,i,_,o⟩:=id x
 obtain⟨T,v,y,f,_⟩:=i _ rfl
 unfold jjd
 refine xT (jeF h g f ?_)
 rw[if_neg (show¬((jcI T==jdL)=qm)from by simp)]
 exact xT (cu x λh' a u=>wpAny_throw (k h' _ a u))
end
structure iT(c:pL->Prop)(P:jcz)(w:jcS)(outer:List Env)(H:Hp)(s:S6)(H':Hp)(e C:pA)(B:jcX)(s':S6):Prop where
 os:s'.os=s.os
 bare:jf6 s'.gens
 un:∀h',B.StaysIn h'->s'.heap.UpToSlots h'->Un (frs outer) [] H H' s.heap h'
 hok:Q3 P w H' B
 fly:VM c B outer e (.ref C) (nC .none) s'.heap
 new:H' e=su
 fresh:s.heap.get? e=su
noncomputable def Bo (c:pL->Prop) (P:jcz) (w:jcS):tY:=λb H s E e f=>∃d a C B,e=.ref a/\iT c P w b H s d a C B f/\E (.ref a) (nC C) d
section
variable{c:pL->Prop}{P:jcz}{w:jcS}{K:oh}{mg:Str->Option pL}{base:jcX}
section
variable{k:Nat}{f:pA}{fd:jaF}{ps:List Str}{sp sp2:Sp}
theorem We.of0(F:We P w K mg base Ol k f fd ps sp):We P w K mg base (Bo c P w) k f fd ps sp:=
 ⟨F.len,λA a s H b n o Q E j i g m l=>jeR (F.run A a s H b n o Q E j i g m l) λr p h=>by
  cases r with
  |error e=>exact jdi h
  |ok d=>cases d<;>exact h⟩
end
end
noncomputable abbrev Q0 (c:pL->Prop) (X:Cx) (E:XK):Prop:=∀v b,jcH (model X.prog X.w) X.A (leaving X.env v) (λ_ a=>Bo c X.prog X.w X.outer X.H₀ X.s₀ E v a) (λd a=>Bo c X.prog X.w X.outer X.H₀ X.s₀ E d a) b->X.xe v b
theorem um{c:pL->Prop}{X:Cx}{E:XK}{j:List (pA×Obj)}{W:St}{H H':Hp}{s s':S6}{a C:pA}{B:jcX}{m:pL}(i:X.stack=X.env::X.outer)(J:X.env.frame=nC X.env.locals)(t:X.ex=[])(x:Q0 c X E)(I:Inv X j W H s)
 (O:s'.os=s.os)(g:jf6 s'.gens)(un:∀h',B.StaysIn h'->s'.heap.UpToSlots h'->Un (frs X.stack) [] H H' s.heap h')(v:Q3 X.prog X.w H' B)(h:VM c B X.stack a (.ref C) (nC m) s'.heap)(y:H' a=su)(fresh:s.heap.get? a=su)
 (q:E (.ref a) (nC C) H'):X.xe (.ref a) s':=by
 refine x _ _ ?_
 rw[i]at h
 have e:∀b:pA,b∉X.ex:=λb z=>by rw[t]at z;cases z
 have l:∀b:pA,b∉([]:List pA):=λ_ z=>nomatch z
 have N:∀b o,X.s₀.heap.get? b=nC o->b∉X.fs->b∉frs X.stack:=λb o q f z=>by
  rcases jbK.mp (I.LQ b z)with r|r
  .subst r;exact absurd (jbH q) (jep.mpr I.ok.above)
  .exact f r
 refine kO (by rw[<-i];exact I.ok.frames) J h λY S T=>⟨H',a,C,B,rfl,⟨O.trans I.os,g,λG K R=>?_,v,S,y,?_⟩,q⟩
 .have U:=un G K (T.trans R)
  refine⟨λb o q n f _=>U.keep b o (I.base.keep b o q n f (e b)) (I.base.free b o q n (e b)) (N b o q f) (l b),λb o q n f _=>?_,λb o q n _=>?_,λb o q _=>?_,
   λb A q=>U.tups b A (I.base.tups b A q),λb o u q=>U.frzs b o u (I.base.frzs b o u q),λb P q=>?_⟩
  .obtain⟨Z,d⟩:=I.base.slot b o q n f (e b)
   obtain⟨Q,F⟩:=U.any d (I.base.free b o q n (e b)) (l b)
   exact⟨Q,F⟩
  .obtain⟨p,d⟩:=I.base.there b o q (e b)
   exact U.free b p d (I.base.free b o q n (e b)) (l b)
  .obtain⟨p,d⟩:=I.base.there b o q (e b)
   exact U.there b p d (l b)
  .obtain⟨L,d⟩:=I.base.tbls b P q
   obtain⟨M,D⟩:=U.tbls b _ d
   exact⟨L++M,by rw[D,jgY]⟩
 .cases z:X.s₀.heap.get? a with
  |none=>rfl
  |some o=>obtain⟨p,d⟩:=I.base.there a o z (e a);rw[fresh]at d;cases d
theorem WY{c:pL->Prop}{X:Cx}{E:XK}(e:X.stack=X.env::X.outer)(h:X.env.frame=nC X.env.locals)(d:X.ex=[])(f:Q0 c X E):Te (Bo c X.prog X.w) X E:=by
 intro g m H s v l I i
 obtain⟨j,a,C,B,rfl,b,q⟩:=i
 exact um e h d f I b.os b.bare b.un b.hok b.fly b.new b.fresh q
structure Hi(c:pL->Prop)(P:jcz)(w:jcS)(K:oh)(mg:Str->Option pL)(base:jcX)(k:Nat)(f:pA)(ps:List Str)(sp:Sp):Prop where
 len:∀vs H Q E,sp vs H Q E->vs.length=ps.length
 run:∀(A:jdc)(outer:List Env)(s:S6)(H:Hp)(us:List pL)(vs:List V)(Q:VK)(E:XK),Wi k A->xx P w K mg base A outer s H->Vals vs us->sp vs H Q E->je9 (model P w) A (.call (.ref f) ⟨us,[]⟩) (CR (Bo c P w) outer P w H s Q E) s
section
variable{c:pL->Prop}{P:jcz}{w:jcS}{K:oh}{mg:Str->Option pL}{base:jcX}{k:Nat}{f:pA}{fd:jaF}{ps:List Str}{sp sp2:Sp}
theorem Hi.of(F:We P w K mg base (Bo c P w) k f fd ps sp)(l:Binds K fd ps []):Hi c P w K mg base k f ps sp:=
 ⟨F.len,λA a s H g p Q E n i r h=>by
  have j:K.In s.heap:=i.mod.kin.keeps λb o e=>(i.bs b o e).1
  have m:g.length=ps.length:=by rw[<-r.length];exact F.len _ _ _ _ h
  have d:=l s g j (by rw[jdA];exact m)
  rw[jdA]at d
  exact F.run A a s H ⟨g,[]⟩ g p Q E n i d r h⟩
theorem Hi.of0(F:We P w K mg base Ol k f fd ps sp)(a:Binds K fd ps []):Hi c P w K mg base k f ps sp:=.of F.of0 a
theorem Hi.mono{j:Nat}(F:Hi c P w K mg base k f ps sp)(h:k<=j):Hi c P w K mg base j f ps sp:=⟨F.len,λA a s H d e Q E b=>F.run A a s H d e Q E (b.mono h)⟩
theorem Hi.or(F:Hi c P w K mg base k f ps sp)(G:Hi c P w K mg base k f ps sp2):Hi c P w K mg base k f ps (λvs H Q E=>sp vs H Q E\/sp2 vs H Q E):=
 ⟨λvs H Q E q=>q.elim (F.len vs H Q E) (G.len vs H Q E),λA a s H g vs Q E d b e h=>h.elim (F.run A a s H g vs Q E d b e) (G.run A a s H g vs Q E d b e)⟩
end
structure X3(c:pL->Prop)(P:jcz)(w:jcS)(K:oh)(mg:Str->Option pL)(base:jcX)(k:Nat)(x:Str)(ps:List Str)(sp:Sp):Prop where
 ex:∃f:pA,Hi c P w K mg base k f ps sp/\jdO K (.ref f)=qm/\mg x=nC (.ref f)
structure Nu(c:pL->Prop)(P:jcz)(w:jcS)(K:oh)(mg:Str->Option pL)(base:jcX)(k:Nat)(x:Str)(C:pA)(ps:List Str)(sp:Sp):Prop where
 ex:∃f:pA,Hi c P w K mg base k f ps sp/\Mk K C f/\mg x=nC (.ref C)
structure Ej(c:pL->Prop)(P:jcz)(w:jcS)(K:oh)(mg:Str->Option pL)(base:jcX)(k:Nat)(C:pA)(m:Str)(ps:List Str)(sp:Sp):Prop where
 ex:∃f:pA,Hi c P w K mg base k f ps sp/\Meth K C m f/\qC K C
section
variable{c:pL->Prop}{P:jcz}{w:jcS}{K:oh}{mg:Str->Option pL}{base:jcX}
theorem Z3.jcv{k:Nat}{x:Str}{ps:List Str}{sp:Sp}(D:Z3 P w K mg base k x ps [] sp):X3 c P w K mg base k x ps sp:=by
 obtain⟨f,d,a,F,b,v,r⟩:=D.ex
 cases v
 exact⟨f,.of0 F b,r⟩
theorem X3.or{k:Nat}{x:Str}{ps:List Str}{sp a:Sp}(D:X3 c P w K mg base k x ps sp)(d:X3 c P w K mg base k x ps a):X3 c P w K mg base k x ps (λvs H Q E=>sp vs H Q E\/a vs H Q E):=by
 obtain⟨f,F,g,m⟩:=D.ex
 obtain⟨h,e,_,b⟩:=d.ex
 rw[m]at b;cases b
 exact⟨f,F.or e,g,m⟩
theorem Xl.uM{x d:Str}{st:jde}{f:pA}{m:jaF}{N ps:List Str}{k:Nat}{sp:Sp}(F:Xl K x d st f m)(b:Binds K m ps [])(S:Z9 N ps (ZJ st))(l:∀vs H Q E,sp vs H Q E->vs.length=ps.length)
 (g:∀(e:pL)(A:jdc)(a:List Env)(s:S6)(H:Hp)(vs:List V)(Q:VK)(E:XK),Wi k (A.deeper (jgI d (ZJ st) s.heap.objs.size f e))->sp vs H Q E->
  ∃t,sG (Ht (Bo c P w) P w K mg base N d (ZJ st) f e A a s H E) (Xi st) t/\t {nx:=λ_ H'=>Q .non H',rt:=Q} (start N vs) H):Hi c P w K mg base (k+1) f ps sp:=by
 obtain⟨y,z,kV,n,B,u,e,v,r,rfl,p,i⟩:=F.ex
 refine Hi.of (dX p i S l λA a s H vs Q E o j=>?_) b
 obtain⟨t,h,q⟩:=g e A a s H vs Q E o j
 exact⟨t,h.h,q⟩
theorem Xl.Nv{x a:Str}{st:jde}{f:pA}{i:jaF}{N ps:List Str}{k:Nat}{sp:Sp}(F:Xl K x a st f i)(m:mg x=nC (.ref f))(b:Binds K i ps [])(S:Z9 N ps (ZJ st))(h:∀vs H Q E,sp vs H Q E->vs.length=ps.length)
 (d:∀(g:pL)(A:jdc)(e:List Env)(s:S6)(H:Hp)(vs:List V)(Q:VK)(E:XK),Wi k (A.deeper (jgI a (ZJ st) s.heap.objs.size f g))->sp vs H Q E->
  ∃t,sG (Ht (Bo c P w) P w K mg base N a (ZJ st) f g A e s H E) (Xi st) t/\t {nx:=λ_ H'=>Q .non H',rt:=Q} (start N vs) H):X3 c P w K mg base (k+1) x ps sp:=
 ⟨f,F.uM b S h d,F.kp,m⟩
theorem GZ{N:List Str}{d:Str}{b:Scope}{f:pA}{e:pL}{A:jdc}{a:List Env}{s:S6}{H:Hp}{E:XK}:
 jip (model P w) (Ht (Bo c P w) P w K mg base N d b f e A a s H E).A (Ht (Bo c P w) P w K mg base N d b f e A a s H E).env (Ht (Bo c P w) P w K mg base N d b f e A a s H E).xe:=
 PassesOwn.leaving
end
section
variable{c:pL->Prop}{X:Cx}{k j:Nat}{f C:pA}{ps:List Str}{sp:Sp}{E:XK}{x m:Str}{p pos apos:Pos}{e o:Expr}{es:List Expr}{ta:TE}{t:TA}
theorem qb{a:List (pA×Obj)}{d:St}{H:Hp}{s:S6}{Q:VK}{us:List pL}{vs:List V}(F:Hi c X.prog X.w X.K X.mg X.base k f ps sp)(i:Wi k X.A)(j:Te (Bo c X.prog X.w) X E)(I:Inv X a d H s)(r:Vals vs us)(h:sp vs H Q E):
 jcH (model X.prog X.w) X.A (call (.ref f) us) (EP X a d Q) X.xe s:=by
 refine jfD (jeR (F.run X.A X.stack s H us vs Q E i I.env0 r h) λr l b=>?_)
 cases r with
 |error e=>exact j a d H s e l I b
 |ok g=>
  cases g with
  |ret u=>exact I.after b
  |next=>exact jdi b
  |brk=>exact jdi b
  |cont=>exact jdi b
theorem jq(D:X3 c X.prog X.w X.K X.mg X.base k x ps sp)(z:Wi j X.A)(o:k<=j)(n:Gl X x)(m:PA X (e::es) t)(y:Te (Bo c X.prog X.w) X E)(g:(e::es).all noStar=qm:=by rfl)(b:(x==("__debug__":Str))=vh:=by decide):
 PE X (.Call (.Name x p) (e::es) [] pos) (vI sp [] E t):=by
 intro a s C H Q I h
 obtain⟨f,F,u,v⟩:=D.ex
 refine jdG (Uk I n v ?_ b)
 refine jed (h₀:=X.base) I.ok.mod.kin u (XD (m pos a s C H _ I h) λJ G⟨B,l,d,r,q⟩=>⟨d.QR,?_⟩) (Yi (Y4 g).1) (Vj (Y4 g).2)
 have i:sp (B++[]) l Q E:=q
 rw[jdA]at i
 exact qb F (z.mono o) y d r i
theorem jB{pl:Sem Bool}(J:PE X o ta)(M:Ej c X.prog X.w X.K X.mg X.base k C m ps sp)(O:Wi j X.A)(L:k<=j)(N:Te (Bo c X.prog X.w) X E)(G:PA X (e::es) t)(p:(e::es).all noStar=qm:=by rfl)
 (P:eval (.Call (.Attribute o m apos) (e::es) [] pos) X.env=(do
  let v<-eval o X.env
  jgR apos.atName
  let(f,first)<-holding [v] (jfK v m pl)
  jgz pos f first (jeh pos (jc0 (e::es) X.env)) (jfo pos (jel [] X.env))):=by rfl):
 PE X (.Call (.Attribute o m apos) (e::es) [] pos) (λd H Q=>j6 C m sp ta t d H Q E):=by
 intro b s d H Q I h
 refine jfR (pl:=pl) (XD (J b s d H _ I h) λu T U=>?_) P
 obtain⟨x,y,g,S,a,Z,fs,D,B,l,q⟩:=U
 subst D
 obtain rfl:u=jcI a:=S
 obtain⟨f,F,n,z⟩:=M.ex
 refine Jl g B z n l (jed (first:=[.ref a]) (h₀:=X.base) I.ok.mod.kin n.kp (XD (G pos b T d y _ g q) λus s2⟨vs,Y,i,r,R⟩=>⟨i.QR,?_⟩) (Yi (Y4 p).1) (Vj (Y4 p).2))
 exact qb (us:=.ref a::us) (vs:=.ref a::vs) F (O.mono L) N i (.cons rfl r) R
theorem jA(D:Nu c X.prog X.w X.K X.mg X.base k x C ps sp)(S:Wi j X.A)(O:k+1<=j)(N:Gl X x)(L:PA X (e::es) t)(R:Te (Bo c X.prog X.w) X E)(o:(e::es).all noStar=qm:=by rfl)(n:(x==("__debug__":Str))=vh:=by decide):
 PE X (.Call (.Name x p) (e::es) [] pos) (ql C sp [] E t):=by
 intro b s y H Q I h
 obtain⟨f,F,M,P⟩:=D.ex
 refine jdG (Uk I N P ?_ n)
 refine jed (h₀:=X.base) I.ok.mod.kin M.kp (XD (L pos b s y H _ I h) λl d⟨vs,H1,g,r,q⟩=>⟨g.QR,?_⟩) (Yi (Y4 o).1) (Vj (Y4 o).2)
 have i:=q (d.heap.objs.size+1) d.heap.objs.size (g.hok.fresh (jdI _)) (g.hok.fresh (U6 _)) (jcO (jdr _))
 rw[jdA]at i
 have m:=Inv.made (C:=C) g
 have U:Vals (V.ref (d.heap.objs.size+1)::vs) (jcI (d.heap.objs.size+1)::l):=.cons rfl r
 refine jfD (wH (f:=f) g.QR M.makes M.init (beq_iff_eq.mp M.fn) (jeR (F.run _ X.stack _ _ (jcI (d.heap.objs.size+1)::l) _ _ E ((S.mono O).make C l []) (m.env0.make C l []) U i) λr Z a=>?_))
 cases r with
 |error e=>exact R b y _ _ e Z m a
 |ok J=>
  cases J with
  |ret u=>
   obtain⟨v,z,B,Y,G,T⟩:=m.after a
   subst G
   exact⟨Y,⟨V.ref (d.heap.objs.size+1),z,B,rfl,T⟩⟩
  |next=>exact jdi a
  |brk=>exact jdi a
  |cont=>exact jdi a
end
section
variable{c:pL->Prop}{X:Cx}{k j:Nat}{x:Str}{ps:List Str}{sp:Sp}{E:XK}{e o:Expr}{es:List Expr}{ta:TE}{t:TA}{pos p apos:Pos}
theorem YB(D:X3 c X.prog X.w X.K X.mg X.base k x ps sp)(i:Wi j X.A)(f:k<=j)(d:Gl X x)(b:QA X (e::es) t)(g:Te (Bo c X.prog X.w) X E)
 (l:(e::es).all noStar=qm:=by rfl)(a:(x==("__debug__":Str))=vh:=by decide):QE X (.Call (.Name x p) (e::es) [] pos) (vI sp [] E t):=⟨L2.jq D i f d b.h g l a⟩
theorem Tf{C:pA}(D:Nu c X.prog X.w X.K X.mg X.base k x C ps sp)(i:Wi j X.A)(f:k+1<=j)(d:Gl X x)(b:QA X (e::es) t)(g:Te (Bo c X.prog X.w) X E)
 (l:(e::es).all noStar=qm:=by rfl)(a:(x==("__debug__":Str))=vh:=by decide):QE X (.Call (.Name x p) (e::es) [] pos) (ql C sp [] E t):=⟨L2.jA D i f d b.h g l a⟩
theorem En{C:pA}{m:Str}{pl:Sem Bool}(d:QE X o ta)(M:Ej c X.prog X.w X.K X.mg X.base k C m ps sp)(l:Wi j X.A)(g:k<=j)(i:Te (Bo c X.prog X.w) X E)(b:QA X (e::es) t)(n:(e::es).all noStar=qm:=by rfl)
 (p:eval (.Call (.Attribute o m apos) (e::es) [] pos) X.env=(do
  let a<-eval o X.env
  jgR apos.atName
  let(f,first)<-holding [a] (jfK a m pl)
  jgz pos f first (jeh pos (jc0 (e::es) X.env)) (jfo pos (jel [] X.env))):=by rfl):
 QE X (.Call (.Attribute o m apos) (e::es) [] pos) (λq H Q=>j6 C m sp ta t q H Q E):=⟨L2.jB (pl:=pl) d.h M l g i b.h n p⟩
end
theorem oX{c:pL->Prop}{X:Cx}{x:Str}{C:pA}{p:List pL}{B newId i:String}{E:XK}{e:Expr}{K:List Expr}{ta:TA}{np j pos:Pos}(L:c .none)(F:jfm B newId i p)(O:jf1 x C p newId X.mg X.base)
 (u:p.contains (.type "BaseException")=qm)(hc:X.calm=qm)(hg:Gl X x)(ha:PA X (e::K) ta)(v:X.stack=X.env::X.outer)(hf:X.env.frame=nC X.env.locals)(Q:X.ex=[])
 (U:Q0 c X E)
 (hs:(e::K).all noStar=qm:=by rfl)(M:(x==("__debug__":Str))=vh:=by decide):
 PS X (.Raise (nC (.Call (.Name x np) (e::K) [] j)) su pos) (j8 C E ta):=by
 intro y s σ H D I h
 obtain⟨bm,N,nm,qn,bs,hdct,sn,sub,ab,col,dd,k0,k1,k2,k3,k5,mN,hC,hN,T,Y⟩:=O.obj
 refine wpAny_Raise_call_subT (nm:=nm) (q:=qn) (N:=N) (bs:=bs) (bm:=bm) (hdct:=hdct) (sn:=sn) (sub:=sub) (ab:=ab) (col:=col) (dd:=dd) (k0:=k0) (k1:=k1) (k2:=k2) (k3:=k3) (k5:=k5) F (Y.hasType u) (I.ok.hd hc) (Vj hs) T (Uk I hg O.bound ⟨rfl,?_⟩ M)
 have w:=ha j y s σ H _ I h
 rw[Yi (env:=X.env) (Y4 hs).1]at w|-
 refine jdP ?_
 refine XD w λus A⟨vs,H1,d,r,hz,q⟩=>⟨rfl,by show us.length<=_;rw[<-r.length];exact hz,d.bk _ _ hC,hN.keeps d.bk,Y.keeps d.bk,λh' a m=>U _ _ ?_⟩
 have S:∀env∈(X.env::X.outer),∀b,env.frame=nC b->b∈frs X.stack:=λenv he b f=>by rw[v];exact jeJ.mpr ⟨env,he,f⟩
 have fl:=d.stack
 rw[v]at fl
 have l:∀b o,X.s₀.heap.get? b=nC o->b∉X.fs->b∉frs X.stack:=λb o q f z=>by
  rcases jbK.mp (d.LQ b z)with r|r
  .exact absurd (jbH q) (by rw[r];exact jep.mpr d.ok.above)
  .exact f r
 have g:∀b:pA,b∉X.ex:=λb z=>by rw[Q]at z;cases z
 have R:∀b,A.heap.get? b=su->X.s₀.heap.get? b=su:=λb q=>by
  cases z:X.s₀.heap.get? b with
  |none=>rfl
  |some o=>obtain⟨W,t⟩:=d.base.there b o z (g b);rw[q]at t;cases t
 obtain⟨tt,P,_,_⟩:=m.there
 have ai:VM c (jgi A.heap (frs X.stack)) (X.env::X.outer) a (.ref C) su h':=by
  refine⟨λb o q=>m.keeps b o (jfZ _ q),?_,(jin fl S).of_keeps λb o f _=>⟨o,m.keeps b o f,rfl⟩,_,_,P,rfl,rfl,(by show 1<6;decide),(λx q=>nomatch q),λ_=>rfl,_,rfl,L⟩
  cases z:(jgi A.heap (frs X.stack)).get? a with
  |none=>rfl
  |some o=>have:=jfZ _ z;rw[m.new]at this;cases this
 refine rD (by rw[<-v];exact d.ok.frames) hf ai λh2 x1 x4=>?_
 have up:A.heap.UpToSlots h2:=(jhB m.keeps).trans x4
 refine⟨H1,a,C,jgi A.heap (frs X.stack),rfl,⟨d.os,d.bare,λh3 k3 u3=>?_,d.hok.hide d.Pk,x1,d.hok.none_of m.new,R a m.new⟩,q a (d.hok.none_of m.new)⟩
 have G:∀b o,X.s₀.heap.get? b=nC o->X.H₀ b=su->b∈X.fs->∃G,h3.get? b=nC {o with slots:=G}:=λb o q n f=>by
  obtain⟨s1,t⟩:=d.base.slot b o q n f (g b)
  obtain⟨_,W,Z,nf⟩:=d.Mu.mem f
  rw[t]at Z;cases Z
  obtain⟨s3,J⟩:=(up.trans u3) b _ t nf
  exact⟨s3,J⟩
 refine⟨λb o q n f _=>k3 b o (jev _ (d.base.keep b o q n f (g b)) (l b o q f)),λb o q n f _=>G b o q n f,λb o q n _=>d.base.free b o q n (g b),λb o q _=>?_,d.base.tups,d.base.frzs,d.base.tbls⟩
 by_cases f:b∈X.fs
 .obtain⟨s3,J⟩:=G b o q (d.ok.frf b f) f
  exact⟨_,J⟩
 .obtain⟨W,t⟩:=d.base.there b o q (g b)
  exact⟨_,k3 b W (jev _ t (l b o q f))⟩
noncomputable def IW (C:pA) (E:XK) (f:Str) (d:TA):TS:=λ_ g H=>d g H λe b=>∃v,e=[v]/\∀a c,b a=su->b c=su->c≠a->E (.ref a) (nC C) (upd b c (.xd [(f,v)]))
theorem uX{c:pL->Prop}{X:Cx}{x f:Str}{C:pA}{k j:Nat}{E:XK}{e:Expr}{ta:TA}{np B pos:Pos}(ad:c .none)(Z:nQ X.prog X.w X.K X.mg X.base k x C f)(hr:Wi j X.A)(hj:k+1<=j)(hc:X.calm=qm)(hg:Gl X x)(ha:PA X [e] ta)
 (P:X.stack=X.env::X.outer)(hf:X.env.frame=nC X.env.locals)(ag:X.ex=[])(am:Q0 c X E)(hs:noStar e=qm:=by rfl)(ae:(x==("__debug__":Str))=vh:=by decide):
 PS X (.Raise (nC (.Call (.Name x np) [e] [] B)) su pos) (IW C E f ta):=by
 intro J s σ H D I h
 obtain⟨bm,N,nm,qn,bs,hdct,sn,sub,ab,col,dd,k0,k1,k2,k3,k5,hC,TL⟩:=Z.own
 obtain⟨fI,fd,ps,hi,ah,F,g⟩:=Z.ex
 have nx:∀b:pA,b∉X.ex:=λb z=>by rw[ag]at z;cases z
 have O:bm.contains (.type "BaseException")=qm:=TL.hasType (by decide)
 rw[arm_exec_Raise]
 refine xT (je6 (tD (C:=C) (nm:=nm) (q:=qn) (N:=N) (bs:=bs) (bm:=bm) (hdct:=hdct) (sn:=sn) (sub:=sub) (ab:=ab) (col:=col) (dd:=dd) (k0:=k0) (k1:=k1) (k2:=k2) (k3:=k3) (k5:=k5) (newId:="ValueError.__new__") O (I.ok.hd hc) ?_))
 refine xT (jc1 (wpAny_Call_ofName (Uk I hg Z.bound ?_ ae)) (λv s3 z=>xT (je6 (jcC z))) λ_ _ z=>z)
 refine jed (h₀:=X.base) I.ok.mod.kin Z.kp (XD (ha B J s σ H _ I h) λus s1⟨vs,p,M,r,v,ev,q⟩=>⟨M.QR,?_⟩) (Yi hs) rfl
 subst ev
 obtain⟨u,rfl,ru⟩:=vals1 r
 have ac:=M.bk _ _ hC
 obtain⟨h1,g1,d1,t1,t⟩:=s1
 refine lE M.QR jcL (TL.keeps M.bk) ac hi ah (λh2 a le hm=>?_) (by show 1<=qd;rw[jcD];decide)
 obtain⟨tt,af,_,_⟩:=hm.there
 have na:p a=su:=M.hok.fresh le
 have I2:Inv X J σ (upd p a (yM a C)) ⟨h2,g1,d1,t1,t⟩:=M.laid (s:=⟨h1,g1,d1,t1,t⟩) hm.keeps le (rZ ⟨tt,af⟩)
 have r2:Vals [V.ref a,v] [jcI a,u]:=.cons rfl (.cons ru .nil)
 have hl:([jcI a,u]++[]).length=ps.length:=by
  have:=F.len [V.ref a,v] (upd p a (yM a C)) (λ_ _=>True) E0 ⟨a,v,rfl,Zj,λ_ _ _=>trivial⟩
  exact this
 have U:=g ⟨h2,g1,d1,t1,t⟩ [jcI a,u] I2.QR hl
 rw[jdA]at U
 refine jfD (jeR (F.run _ X.stack ⟨h2,g1,d1,t1,t⟩ (upd p a (yM a C)) ⟨[jcI a,u],[]⟩ [jcI a,u] [V.ref a,v]
  (λw H2=>w=.non/\∃i,p i=su/\i≠a/\H2=upd (upd (upd p a (yM a C)) a (pG a C i)) i (.xd [(f,v)])) E0 ((hr.mono hj).make C [u] []) (I2.env0.make C [u] []) U r2 ⟨a,v,rfl,Zj,λi n1 n2=>⟨rfl,i,by rw[ZX n2]at n1;exact n1,n2,rfl⟩⟩) λrr s' hq=>?_)
 cases rr with
 |error e=>exact hq.elim
 |ok fl=>
 cases fl with
 |next=>exact jdi hq
 |brk=>exact jdi hq
 |cont=>exact jdi hq
 |ret w=>
 obtain⟨v3,L,d,rv,ev,i,an,Q,eH⟩:=I2.after hq
 subst ev
 refine⟨rv,?_⟩
 have l:L a=nC (pG a C i):=by rw[eH,ZX (jdh Q),Zj]
 have ap:L i=nC (.xd [(f,v)]):=by rw[eH,Zj]
 have m:∀b,b≠a->L b=upd p i (.xd [(f,v)]) b:=λb g=>by
  rw[eH]
  by_cases hd:b=i
  .subst hd;rw[Zj,Zj]
  .rw[ZX hd,ZX hd,ZX g,ZX g]
 have S:upd p i (.xd [(f,v)]) a=su:=by rw[ZX (jdh Q)];exact na
 obtain⟨t3,he⟩:nY a C i s'.heap:=(d.hok a _ l).1
 have G:X.s₀.heap.get? a=su:=by
  cases z:X.s₀.heap.get? a with
  |none=>rfl
  |some o=>exact absurd (jbH z) (jep.mpr (jc9 (M.sz) le))
 refine⟨a,_,rfl,d.bk _ _ hC,he,rfl,⟨_,rfl,rfl⟩,am _ _ ?_⟩
 have al:∀env∈(X.env::X.outer),∀b,env.frame=nC b->b∈a::frs X.stack:=λenv hm b g=>by rw[P];exact .tail _ (jeJ.mpr ⟨env,hm,g⟩)
 have fl:=d.stack
 rw[P]at fl
 have nS:∀b u,L b=nC u->b∉frs X.stack:=λb u q z=>by rw[d.Pk b z]at q;cases q
 have nL:∀b o,X.s₀.heap.get? b=nC o->b∉X.fs->b∉a::frs X.stack:=λb o q g z=>by
  rcases jbK.mp z with r|r
  .subst r;rw[G]at q;cases q
  rcases jbK.mp (d.LQ b r)with r|r
  .subst r;exact absurd (jbH q) (jep.mpr d.ok.above)
  .exact g r
 have ai:VM c (jgi s'.heap (a::frs X.stack)) (X.env::X.outer) a (.ref C) su s'.heap:=⟨λb o q=>jfZ _ q,jgj _ (.head _),jin fl al,_,_,he,rfl,rfl,(by show 1<6;decide),(λx q=>nomatch q),λ_=>rfl,_,rfl,ad⟩
 refine rD (by rw[<-P];exact d.ok.frames) hf ai λh4 x1 up=>?_
 refine⟨upd p i (.xd [(f,v)]),a,C,_,rfl,⟨d.os,d.bare,λh5 k5 u5=>?_,λb o q=>?_,x1,S,G⟩,q a i na an Q⟩
 .have sl:∀b o,X.s₀.heap.get? b=nC o->X.H₀ b=su->b∈X.fs->∃sl,h5.get? b=nC {o with slots:=sl}:=λb o q n g=>by
   obtain⟨s1,e1⟩:=d.base.slot b o q n g (nx b)
   obtain⟨_,o',e2,nf⟩:=d.Mu.mem g
   rw[e1]at e2;cases e2
   obtain⟨s3,m⟩:=(up.trans u5) b _ e1 nf
   exact⟨s3,m⟩
  have R:∀b u,L b=nC u->(∀φ,u≠.ext φ)->b≠a:=λb u q n z=>by subst z;rw[l]at q;cases q;exact n _ rfl
  refine⟨λb o q n g _=>k5 b o (jev _ (d.base.keep b o q n g (nx b)) (nL b o q g)),λb o q n g _=>sl b o q n g,λb o q n _=>?_,λb o q _=>?_,λb xs q=>?_,λb o u q=>?_,λb ps q=>?_⟩
  .have z:=d.base.free b o q n (nx b)
   rw[m b λy=>by subst y;rw[l]at z;cases z]at z
   exact z
  .by_cases g:b∈X.fs
   .obtain⟨s3,m⟩:=sl b o q (d.ok.frf b g) g
    exact⟨_,m⟩
   .obtain⟨o',e1⟩:=d.base.there b o q (nx b)
    exact⟨_,k5 b o' (jev _ e1 (nL b o q g))⟩
  .have z:=d.base.tups b xs q
   rw[m b (R b _ z λ_ y=>nomatch y)]at z
   exact z
  .have z:=d.base.frzs b o u q
   rw[m b (R b _ z λ_ y=>nomatch y)]at z
   exact z
  .obtain⟨aa,z⟩:=d.base.tbls b ps q
   rw[m b (R b _ z λ_ y=>nomatch y)]at z
   exact⟨aa,z⟩
 .have T:b≠a:=λz=>by subst z;rw[S]at q;cases q
  have q3:L b=nC o:=by rw[m b T];exact q
  refine(d.hok b o q3).stay (λc u hc z=>jev _ z λy=>?_) (λc z=>?_) λc xs z=>?_
  .have Y:L c≠su/\c≠a:=by
    rcases hc with r|r
    .subst r;exact⟨(by rw[q3];exactλy=>nomatch y),T⟩
    .exact⟨(by rw[r];exactλy=>nomatch y),λy=>by subst y;rw[l]at r;cases r⟩
   rcases jbK.mp y with r|r
   .exact Y.2 r
   .exact Y.1 (d.Pk c r)
  .rw[<-m c λy=>by subst y;rw[l]at z;cases z];exact z
  .rw[<-m c λy=>by subst y;rw[l]at z;cases z];exact z
theorem J7{base h h':jcX}{as:List pA}:∀{l:List Env},h.FunFrames base l->(∀env∈l,∀a,env.frame=nC a->a∈as/\h'.get? a=h.get? a)->h'.FunFrames (jgi h' as) l
 |[],_,_=>trivial
 |env::_,⟨hk,⟨L,o,hf,_,ho,hd⟩,hr⟩,hin=>⟨hk,⟨L,o,hf,jgj _ (hin env (.head _) L hf).1,(hin env (.head _) L hf).2.trans ho,hd⟩,J7 hr λe b=>hin e (.tail _ b)⟩
theorem Q3.but{P:jcz}{w:jcS}{H:Hp}{h h':jcX}{c:pA}(x:Q3 P w H h)(n:H c=su)(e:jfI c h h'):Q3 P w H h':=λa o z=>
 (x a o z).stay (λb u d q=>(e.2 b (λy=>by
  rcases d with r|r
  .subst r;rw[y,n]at z;cases z
  .rw[y,n]at r;cases r)).trans q) (λ_ q=>q) λ_ _ q=>q
theorem bV{h:pL->Prop}{X:Cx}{E:XK}{H':Hp}{s':S6}{a C:pA}{B:jcX}{m:pL}(ok:X.Ok)(d:X.stack=X.env::X.outer)(j:X.env.frame=nC X.env.locals)(f:Q0 h X E)
 (n:s'.os=X.s₀.os)(b:jf6 s'.gens)(un:∀h',B.StaysIn h'->s'.heap.UpToSlots h'->Un (frs X.outer) [] X.H₀ H' X.s₀.heap h')(e:Q3 X.prog X.w H' B)(c:VM h B X.stack a (.ref C) (nC m) s'.heap)(g:H' a=su)(fresh:X.s₀.heap.get? a=su)
 (q:E (.ref a) (nC C) H'):X.xe (.ref a) s':=by
 refine f _ _ ?_
 rw[d]at c
 exact kO (by rw[<-d];exact ok.frames) j c λt p r=>⟨H',a,C,B,rfl,⟨n,b,λi l o=>un i l (r.trans o),e,p,g,fresh⟩,q⟩
theorem bW{cc:pL->Prop}{X:Cx}{E:XK}{E9:pL->S6->Prop}{Q:List (pA×Obj)}{σ:St}{Y H':Hp}{H s':S6}{a C c:pA}{B:jcX}{U:Obj}(i:X.stack=X.env::X.outer)(hf:X.env.frame=nC X.env.locals)(ae:X.ex=[])(af:Q0 cc X E)(J:Inv X Q σ Y H)
 (hc:X.s₀.heap.objs.size<=c)(v:H.heap.get? c=nC U)(M:Y c=su)(N:c∉frs X.stack)(g:iT cc X.prog X.w X.stack Y H H' a C B s')(q:E (.ref a) (nC C) H'):
 jcH (model X.prog X.w) X.A (jfL (.ref a) X.env) (λ_ W=>W.heap.get? c=nC U/\∀h',jfI c W.heap h'->∀(t:String)(j:Env),jcH (model X.prog X.w) X.A (jjd t (.ref a) j:Sem pL) (λ_ _=>False) X.xe {W with heap:=h'}) E9 s':=by
 have ai:=g.fly
 rw[i]at ai
 have m:∀b:pA,b∉([]:List pA):=λ_ z=>nomatch z
 have p:∀b:pA,b∉X.ex:=λb z=>by rw[ae]at z;cases z
 refine rH (by rw[<-i];exact J.ok.frames) hf ai λF a4 u4=>?_
 have h:=g.un F a4.keep u4
 have ac:=h.keep c U v M N (m c)
 refine⟨ac,λh' sb t j=>?_⟩
 obtain⟨kb,ne,fn,oe,vs,he,ad,hd,hz,ht,_,aa⟩:=id a4
 obtain⟨T,oT,ts,h1,P,ab,hT,O,h3⟩:=ht _ rfl
 have nT:H.heap.get? T=su:=by
  cases z:H.heap.get? T with
  |none=>rfl
  |some o=>
   have st:B.StaysIn (F.hide T):=λb o q=>(Heap.hide_ne F λy=>by rw[y,P]at q;cases q).trans (kb b o q)
   have up:s'.heap.UpToSlots (F.hide T):=λb o q S=>by
    obtain⟨I,y⟩:=u4 b o q S
    refine⟨I,(Heap.hide_ne F λr=>?_).trans y⟩
    rw[r,hT]at y
    cases y
    exact S ts O
   obtain⟨G,y⟩:=(g.un _ st up).there T o z (m T)
   rw[Heap.hide_self]at y;cases y
 have nc:∀b,H.heap.get? b=su->b≠c:=λb q z=>by rw[z,v]at q;cases q
 have f:∀b,b≠c->h'.get? b=F.get? b:=λb d=>sb.2 b d
 have HT:H' T=su:=g.hok.none_of P
 have Hc:H' c=su:=h.free c U v M (m c)
 have Hs:∀b∈frs X.stack,H' b=su:=λb d=>by
  obtain⟨_,G,e,_⟩:=J.stack.mem d
  exact h.free b G e (J.Pk b d) (m b)
 have cs:∀b∈frs X.stack,b≠c:=λb d z=>N (by rw[<-z];exact d)
 have R:∀b o,X.s₀.heap.get? b=nC o->b≠c/\b≠a/\b≠T:=λb o q=>by
  obtain⟨G,e⟩:=J.base.there b o q (p b)
  refine⟨λz=>?_,λz=>?_,λz=>?_⟩
  .subst z;exact absurd (jbH q) (jep.mpr hc)
  .rw[z,g.fresh]at e;cases e
  .rw[z,nT]at e;cases e
 have nL:∀b o,X.s₀.heap.get? b=nC o->b∉X.fs->b∉frs X.stack:=λb o q d z=>by
  rcases jbK.mp (J.LQ b z)with r|r
  .subst r;exact absurd (jbH q) (jep.mpr J.ok.above)
  .exact d r
 have K:∀b o,X.s₀.heap.get? b=nC o->b∉X.fs->b∉a::T::frs X.stack:=λb o q d z=>by
  obtain⟨_,r1,r2⟩:=R b o q
  rcases jbK.mp z with r|z
  .exact r1 r
  rcases jbK.mp z with r|z
  .exact r2 r
  .exact nL b o q d z
 have Z:VM cc (jgi h' (a::T::frs X.stack)) X.stack a (.ref C) (nC (jgG X.env.locals)) h':=by
  refine⟨λb o q=>jfZ _ q,jgj _ (.head _),?_,oe,vs,(f a (nc a g.fresh)).trans he,ad,hd,hz,λx q=>?_,(λq=>nomatch q),aa⟩
  .rw[i]at*
   refine J7 fn λenv hm b d=>?_
   have L:b∈frs (X.env::X.outer):=jeJ.mpr ⟨env,hm,d⟩
   exact⟨.tail _ (.tail _ L),f b (cs b L)⟩
  .cases q
   exact⟨T,oT,ts,h1,jgj _ (.tail _ (.head _)),ab,(f T (nc T nT)).trans hT,O,h3⟩
 refine rO Z λh5 m5 a5 u5=>bV J.ok i hf af (g.os.trans J.os) g.bare (λh6 k6 u6=>?_) (((g.hok.kept kb).but Hc sb).hide λb d=>?_) a5 g.new ?_ q
 .have I:∀b o,X.s₀.heap.get? b=nC o->X.H₀ b=su->b∈X.fs->∃I,h6.get? b=nC {o with slots:=I}:=λb o q n d=>by
   obtain⟨W,l⟩:=J.base.slot b o q n d (p b)
   obtain⟨_,G,D,S⟩:=J.Mu.mem d
   rw[l]at D;cases D
   obtain⟨s3,e3⟩:=h.any l (J.base.free b o q n (p b)) (m b)
   obtain⟨s4,e4⟩:=(u5.trans u6) b _ ((f b (R b o q).1).trans e3) S
   exact⟨s4,e4⟩
  refine⟨λb o q n d _=>?_,λb o q n d _=>I b o q n d,λb o q n _=>?_,λb o q _=>?_,λb xs q=>h.tups b xs (J.base.tups b xs q),λb o u q=>h.frzs b o u (J.base.frzs b o u q),λb ps q=>?_⟩
  .exact k6 b o (jev _ ((f b (R b o q).1).trans (h.keep b o (J.base.keep b o q n d (p b)) (J.base.free b o q n (p b)) (nL b o q d) (m b))) (K b o q d))
  .obtain⟨G,l⟩:=J.base.there b o q (p b)
   exact h.free b G l (J.base.free b o q n (p b)) (m b)
  .by_cases d:b∈X.fs
   .obtain⟨s3,e3⟩:=I b o q (J.ok.frf b d) d
    exact⟨_,e3⟩
   .obtain⟨o1,l⟩:=J.base.there b o q (p b)
    obtain⟨o2,D⟩:=h.there b o1 l (m b)
    exact⟨_,k6 b o2 (jev _ ((f b (R b o q).1).trans D) (K b o q d))⟩
  .obtain⟨m1,l⟩:=J.base.tbls b ps q
   obtain⟨m2,D⟩:=h.tbls b _ l
   exact⟨m1++m2,by rw[D,jgY]⟩
 .rcases jbK.mp d with r|d
  .rw[r];exact g.new
  rcases jbK.mp d with r|d
  .rw[r];exact HT
  .exact Hs b d
 .cases z:X.s₀.heap.get? a with
  |none=>rfl
  |some o=>exact absurd rfl (R a o z).2.1
noncomputable def tZ (d:pL->Prop) (X:Cx) (E:XK):pL->S6->Prop:=λv e=>∃a f b c,Inv X a f b c/\Bo d X.prog X.w X.stack b c E v e
theorem cB{b:pL->Prop}{X:Cx}{E:XK}:Te (Bo b X.prog X.w) (X.wish (tZ b X E)) E:=λa d H s v e I c=>⟨a,d,H,s,I.Ro,c⟩
theorem qW{cc:pL->Prop}{X:Cx}{E:XK}{L:List (pA×Obj)}{σ:St}{H:Hp}{s:S6}{tg U am:Expr}{ap:List Expr}{f:Scope}{pos a7:Pos}{Q:List (Str×pA)}{xs ns:List Str}{fr:List Nat}{wi:TI}{g:TG}{tt:TT}{te:TE}
 {Qv:pL->S6->Prop}{R:VK}
 (hc:X.calm=qm)(a2:X.stack=X.env::X.outer)(bv:X.env.frame=nC X.env.locals)(bt:X.ex=[])(bM:Q0 cc X E)
 (ok:Rp X f Q xs ns fr)(hI:PI X tg U wi)(hg:∀C M N K,PG (YG X f Q (xs++ns) C M N K) tg g)(hf:∀C M N K,PF (YG X f Q (xs++ns) C M N K) ap tt)
 (he:∀C M N K,PE ((YG X f Q (xs++ns) C M N K).wish (tZ cc (YG X f Q (xs++ns) C M N K) E)) am te)(hs:∀x,jdY U X.env x=pure x)
 (I:Inv X L σ H s)(h:Kc wi xs.length fr g tt te σ H R)
 (bp:∀(C l:pA)(m:Str->Option pL)(s4:S6)(Hk:Hp),Inv X L σ Hk s4->s4.heap.Ns C m->Hk C=su->C≠X.env.locals->(∀z c,X.env.cells.lookup z=nC c->c≠C)->X.s₀.heap.objs.size<=C->(∀p∈X.pn++L,p.1≠C)->
  R (.ref l) Hk->compPost (model X.prog X.w) X.A X.xe su Qv (.ref l) C (.ok .next) s4):
 jcH (model X.prog X.w) X.A (comprehension (.ListComp am [⟨tg,U,ap,0⟩] f pos) f X.env a7 (newList []) vh (eval U X.env) su) Qv X.xe s:=by
 refine jho (use:=su) rfl hs ok.clos ok.kind ok.names ?_
 refine XD (hI L s σ H _ I h) λv s1 h1=>XD h1 λbX D h2=>?_
 obtain⟨it,K,tn,J,N,rfl,t,T,av,Z,rd⟩:=h2
 refine jei (wpAny_newFunctionEnv ok.nocell (by intro y hy;simp at hy) (λaa P F=>?_) ok.kind)
 dsimp only at P F|-
 generalize hG:D.heap.push {cls:=.type "list",dict:=su,data:=.seq ([]:List pL).toArray}=G at P F|-
 have hC:G.objs.size=D.heap.objs.size+1:=by rw[<-hG,jet]
 have O:∀b,b<D.heap.objs.size->b≠G.objs.size/\b≠D.heap.objs.size:=λb i=>⟨by rw[hC];exact jcO (jfw i),jcO i⟩
 have ab:∀b o,D.heap.get? b=nC o->aa.get? b=nC o:=λb o e=>F.extBut b o (O b (jbH e)).1 (U4 _ (hG▸U4 _ e))
 have aI:aa.get? D.heap.objs.size=nC {cls:=.type "list",data:=.seq ([]:List pL).toArray}:=
  F.extBut _ _ (by rw[hC];exact jcO (jdr _)) (U4 _ (hG▸jcK _ rfl))
 have ae:N D.heap.objs.size=su:=t.hok.fresh (U6 _)
 have ad:∀b∈K,b<D.heap.objs.size:=λb i=>by
  obtain⟨o,e,_⟩:=T.obj 0 _ av b i
  exact jbH e
 have a9:∀b∈frs X.stack,b∈X.env.locals::X.fs:=t.LQ
 have bg:∀z c,Q.lookup z=nC c->c<D.heap.objs.size:=λz c e=>by
  obtain⟨v,q⟩:=t.cell z c (ok.sub z c e)
  exact q.lt
 have a5:(YG X f Q (xs++ns) G.objs.size D N K).Ok:=by
  refine⟨t.ok.mod,ok.kind,t.ok.glob,t.ok.blt,?_,λa b c h1 h2=>t.ok.inj a b c (ok.sub a c h1) (ok.sub b c h2),λz hz=>ok.has z hz,λz c hf=>?_,λ_=>t.ok.hd hc,t.ok.frames,.inl rfl,λb i=>⟨(O b (ad b i)).1,λz c e=>?_⟩,t.bs,jc9 t.ok.bsz t.sz,λb o e i=>?_,λb i=>?_,t.stack,t.Pk⟩
  .show D.heap.objs.size<=G.objs.size
   rw[hC];exact jdI _
  .exact absurd (show vh=qm from hf) jbJ
  .exact(Z b i).2.2.2.2.1 z c (ok.sub z c e)
  .rcases(Z b i).2.2.2.1 with z|z
   .exact t.ok.noex b o e z
   .exact absurd (jcW (jbH e) (jc9 t.ok.bsz z)) (jef _)
  .intro z
   rcases jbK.mp (a9 b z)with q|q
   .exact(Z b i).2.1 q
   .exact(Z b i).2.2.1 q
 have an:∀{H':Hp},(∀b∈K,H' b=su)->∀b∈K,G9 (YG X f Q (xs++ns) G.objs.size D N K) [] H' b:=λhn b i=>
  ⟨hn b i,(O b (ad b i)).1,a5.exfs b i,.inl i,λz c e=>(Z b i).2.2.2.2.1 z c (ok.sub z c e),λp hp=>absurd (show p∈([]:List (pA×Obj))from hp) (by simp)⟩
 have I4:Inv (YG X f Q (xs++ns) G.objs.size D N K) [] (jcU xs.length su++inner σ fr) (upd N D.heap.objs.size (.lst [])) {D with heap:=aa,toks:=D.toks+([]:List (Str×pL)).length}:=by
  refine⟨a5,rfl,t.bare,Un.laid ab (U6 _) ae,⟨_,P,λj z u e1 e2 e3=>?_⟩,λz c e=>?_,?_,λz c e=>?_,λp hp=>absurd (show p∈([]:List (pA×Obj))from hp) (by simp),t.hok.laid ab (U6 _) ⟨jcY _,[],0,.nil,aI⟩,?_⟩
  .by_cases hj:j<xs.length
   .rw[jdQ (by rw[jdf];exact hj),jfd,if_pos hj]at e2
    have bl:(su:Option V)=nC u:=jc8 e2
    cases bl
   .have a0:xs.length<=j:=jep.mp hj
    rw[jdv (by rw[jdf];exact a0),jdf]at e2
    have bi:ns[j-xs.length]?=nC z:=by
     have ai:(xs++ns)[j]?=nC z:=e1
     rw[jdv a0]at ai;exact ai
    obtain⟨i',q1,q2,q3,q4⟩:=ok.out _ z bi
    have bm:σ[i']?=nC (nC u):=by
     unfold inner at e2
     rw[jcF,q1]at e2
     have e4:(σ[i']?).join=nC u:=jc8 e2
     cases q:σ[i']? with
     |none=>rw[q]at e4;cases e4
     |some o=>rw[q]at e4;cases o with
      |none=>cases e4
      |some o=>cases e4;rfl
    obtain⟨m,hn,hl⟩:=t.loc
    obtain⟨val,r,l⟩:=hl i' z u q2 bm (.inr (.inl q3))
    refine⟨val,r,.inr ⟨.inl q4,?_⟩⟩
    obtain⟨c',aS⟩:=ok.has z (.inl q4)
    rcases l with⟨k1,_⟩|⟨_,c,aT,Y⟩
    .have a4:X.env.scope.names.lookup z=nC .local:=k1
     rw[q3]at a4;cases a4
    .rw[ok.sub z c' aS]at aT
     cases aT
     obtain⟨ob,ho,hd⟩:=Y
     exact⟨c',aS,ob,ab _ _ ho,hd⟩
  .obtain⟨v',ob,ho,hd⟩:=t.cell z c (ok.sub z c e)
   exact⟨v',ob,ab _ _ ho,hd⟩
  .show upd N D.heap.objs.size (.lst []) G.objs.size=su
   rw[ZX (by rw[hC];exact jeA (jdr _))]
   exact t.hok.fresh (by rw[hC];exact jdI _)
  .rw[ZX (jcO (bg z c e))]
   exact t.freeC z c (ok.sub z c e)
  .show(jcU xs.length su++inner σ fr).length=(xs++ns).length
   unfold inner
   rw[O1,O1,rz,ok.len,jdf]
 obtain⟨W,⟨m0,w0⟩,ax⟩:=rd _ ae
 have al:je9 (model X.prog X.w) X.A (.compLoop (.ListComp am [⟨tg,U,ap,0⟩] f pos) 0 (.ref it) (.ref D.heap.objs.size) (ji2 f Q G.objs.size X.env))
  (compPost (model X.prog X.w) X.A X.xe su Qv (.ref D.heap.objs.size) G.objs.size) {D with heap:=aa,toks:=D.toks+([]:List (Str×pL)).length}:=by
  refine Dd (λn s'=>∃k Hk ac,Inv (YG X f Q (xs++ns) G.objs.size D N K) [] ac Hk s'/\(∃os:St,os.length=xs.length/\ac=os++inner σ fr)/\tn k s'.heap/\(∀b∈K,Hk b=su)/\W k n Hk) ?_ m0
   ⟨0,_,_,I4,⟨_,jdf,rfl⟩,T.keep _ _ _ av λb _ o e=>ab b o e,λb i=>by rw[ZX (O b (ad b i)).2];exact(Z b i).1,w0⟩
  rintro n s3 ⟨k,Hk,ac,I3,⟨os,bL,bN⟩,a8,aE,w3⟩
  subst bN
  rcases ax k n Hk w3 with⟨ba,qn⟩|⟨go,step⟩
  .refine XD (T.done (YG X f Q (xs++ns) G.objs.size D N K) rfl rfl rfl rfl k [] s3 _ Hk _ I3 (an aE) a8 ba) λr s4 S=>?_
   obtain⟨hr,I5⟩:=S
   subst hr
   have J5:Inv X L σ Hk s4:=t.call' I5.os I5.base I5.hok I5.bare λb i=>⟨(Z b i).2.2.2.1,(Z b i).2.1,(Z b i).2.2.2.2.1,(Z b i).2.2.2.2.2⟩
   obtain⟨mC,bB,_⟩:=I5.loc
   have ar:G.objs.size≠X.env.locals:=jeA (jhR t.lt (by rw[hC];exact jdr _))
   have af:∀z c,X.env.cells.lookup z=nC c->c≠G.objs.size:=λz c e q=>by
    obtain⟨v',Y⟩:=t.cell z c e
    have:=Y.lt
    rw[q,hC]at this
    exact absurd this (jep.mpr (jdI _))
   exact bp G.objs.size D.heap.objs.size mC s4 Hk J5 bB I5.free ar af (jc9 t.sz (by rw[hC];exact jdI _)) (λp hp q=>by
    have:=jbH (t.pin p hp).1
    rw[q,hC]at this
    exact absurd this (jep.mpr (jdI _))) qn
  .refine XD (T.item (YG X f Q (xs++ns) G.objs.size D N K) rfl rfl rfl rfl k [] s3 _ Hk _ I3 (an aE) a8 go) λr s4 S=>?_
   obtain⟨u,hr,h4⟩:=S
   subst hr
   refine XD h4 λ_ s5 S=>?_
   obtain⟨val,H5,I5,r5,y5,aw,bq⟩:=S
   have bd:=I5.pinned (an bq) (T.obj _ _ aw)
   refine jc1 (hg _ _ _ _ _ s5 _ H5 val u _ bd r5 (step val H5 y5 os bL)) (λ_ s6 S=>?_) λ_ _ z=>z.elim
   obtain⟨b0,H6,I6,⟨a6,a1,a3⟩,q6⟩:=S
   subst a3
   have ah:∀{H8:Hp}{s8:S6}{m':Nat},Inv (YG X f Q (xs++ns) G.objs.size D N K) ([]++Gh K s5.heap) (a6++inner σ fr) H8 s8->m'<n->W (k+1) m' H8->
    ∃m,m<n/\∃k Hk ac,Inv (YG X f Q (xs++ns) G.objs.size D N K) [] ac Hk s8/\(∃os:St,os.length=xs.length/\ac=os++inner σ fr)/\tn k s8.heap/\(∀b∈K,Hk b=su)/\W k m Hk:=λ{H8 s8 m'}I8 hm w8=>by
    refine⟨m',hm,k+1,_,_,I8.Kd,⟨a6,a1,rfl⟩,T.keep _ _ _ aw λb i o e=>(I8.pin (b,o) (jcZ _ (jcZ _ (Ra i e)))).1,λb i=>?_,w8⟩
    obtain⟨ob,e,d⟩:=T.obj _ _ aw b i
    exact(I8.pin (b,ob) (jcZ _ (jcZ _ (Ra i e)))).2.1
   refine jc1 (hf _ _ _ _ _ s6 _ H6 _ I6 q6) (λb bS S=>?_) λ_ _ z=>z.elim
   obtain⟨bb,ay,ag⟩:=S
   cases b with
   |false=>
    rw[if_neg (by decide)]at ag|-
    obtain⟨m',hm,w7⟩:=ag
    exact ah ay hm w7
   |true=>
    rw[if_pos rfl]at ag|-
    refine jc1 (he _ _ _ _ _ bS _ bb _ (ay.wish _) ag) (λyv s7 S=>?_) λv s' aB=>?_
    .obtain⟨yy,H7,be,r7,zs,m',hz,hl,hm,w7⟩:=S
     have I7:=be.Ro
     refine jc1 (HH (X:=YG X f Q (xs++ns) G.objs.size D N K) _ s7 _ H7 (.ref D.heap.objs.size) [yy] (.ref D.heap.objs.size) [yv] (λ_ H8=>H8=upd H7 D.heap.objs.size (.lst (zs++[yy]))) I7 rfl (.cons r7 .nil) ⟨_,zs,yy,rfl,rfl,hz,hl,rfl⟩) (λ_ s8 S=>?_) λ_ _ z=>z.elim
     obtain⟨_,H8,I8,_,e8⟩:=S
     subst e8
     exact ah I8 hm w7
    .obtain⟨pn,b1,H9,s9,J9,H',a,C0,B,rfl,fl,q9⟩:=aB
     have ar:G.objs.size≠X.env.locals:=jeA (jhR t.lt (by rw[hC];exact jdr _))
     have J:Inv X L σ H9 s9:=t.call' J9.os J9.base J9.hok J9.bare λb i=>⟨(Z b i).2.2.2.1,(Z b i).2.1,(Z b i).2.2.2.2.1,(Z b i).2.2.2.2.2⟩
     obtain⟨mC,⟨oC,bo,bn,bE,rC⟩,_⟩:=J9.loc
     have br:G.objs.size∉frs X.stack:=λz=>by
      rcases jbK.mp (a9 _ z)with r|r
      .exact ar r
      .obtain⟨_,o',e,_⟩:=t.Mu.mem r
       have:=jbH e
       rw[hC]at this
       exact absurd this (jep.mpr (jdI _))
     show jcH _ X.A (jfL (.ref a) (ji2 f Q G.objs.size X.env)) _ _ s'
     rw[DK (env:=X.env) (env':=ji2 f Q G.objs.size X.env) rfl]
     refine jc1 (bW a2 bv bt bM J (jc9 t.sz (by rw[hC];exact jdI _)) bE J9.free br fl q9) (λ_ bP S=>?_) λbY bP S=>S
     exact⟨mC,⟨oC,bo,bn,S.1,rC⟩,λh' sb aC _=>S.2 h' sb _ aC⟩
 exact jhV al (T.self _ 0 _ _ _ (T.keep _ _ _ av λb _ o e=>ab b o e) al)
theorem jw{A:pL->Prop}{X:Cx}{E:XK}{z d p:Expr}{t:List Expr}{a:Scope}{pos:Pos}{n:List (Str×pA)}{xs ns:List Str}{B:List Nat}{J:TI}{g:TG}{G:TT}{F:TE}
 (P:X.calm=qm)(r:X.stack=X.env::X.outer)(v:X.env.frame=nC X.env.locals)(u:X.ex=[])(w:Q0 A X E)
 (ok:Rp X a n xs ns B)(N:PI X z d J)(T:∀C c i j,PG (YG X a n (xs++ns) C c i j) z g)(S:∀C c i j,PF (YG X a n (xs++ns) C c i j) t G)
 (R:∀C c i j,PE ((YG X a n (xs++ns) C c i j).wish (tZ A (YG X a n (xs++ns) C c i j) E)) p F)(Y:∀x,jdY d X.env x=pure x:=by intro _;rfl):
 PE X (.ListComp p [⟨z,d,t,0⟩] a pos) (Kc J xs.length B g G F):=by
 intro D s σ H Q I h
 rw[eval_ListComp]
 refine qW P r v u w ok N T S R Y I h λC l m Z K L U M y f sz W q=>?_
 exact⟨m,U,λh' sb=>⟨.ref l,K,L.turned (t':=Z.toks) (it:=C) (λb o O e=>sb.extBut b o O e) M y (.inr sz) f W,rfl,q⟩⟩
section
variable{prog:jcz}{w:jcS}{A:jdc}{E:pL->S6->Prop}{s:S6}{env:Env}
variable{nm q:Str}{C N:pA}{bs bm:List pL}{hdct:Bool}{sn:List Str}{sub:List pL}{ab:Bool}{col:Option Bool}{dd:Option pA}{k0 k1 k2 k3 k5:Option pL}{newId:String}
noncomputable def Ef (C t:pA) (c:pL) (b:Bool):Obj:={cls:=.ref C,data:=.fields #[.ref t,.none,c,.none,.bool b,.none]}
theorem Br:entryFor table "proto.unchain"=nC Builtin.«proto.unchain»:=entryFor_of_tree (by kernel_rfl)
theorem iz{e h0:pA}{a:Obj}{b:Array pL}{Q:pL->S6->Prop}(f:s.heap.get? h0=nC a)(d:a.data=.fields b)(c:b[2]?=nC .none)(k:Q .none s):
 jcH (model prog w) A (runValue (.builtin "proto.unchain" ⟨[.ref e,.ref h0,.ref h0,.bool vh],[]⟩)) Q E s:=by
 refine wpAny_runValue (jfY Br ?_)
 unfold Builtin.«proto.unchain»
 refine xT (jeF f d c ?_)
 rw[if_pos (show(jdL==jdL)=qm from by decide)]
 repeat wp_step
 exact k
theorem u0{x I:Sem pL}{h0:pA}{Q:Flow->S6->Prop}(f:bm.contains (.type "BaseException")=qm)(M:A.handled=nC (.ref h0))
 (B:∀(s:S6)(Q:pL->S6->Prop),Q .none s->jcH (model prog w) A I Q E s)
 (k:jcH (model prog w) A x (λv h=>∃e t,v=.ref e/\h.heap.get? C=nC (jgA nm q C N bs bm hdct sn sub ab col dd k0 k1 k2 k3 k5 newId)/\h.heap.get? e=nC (Ef C t .none vh)/\e≠h0/\
  (∃G H,h.heap.get? h0=nC G/\G.data=.fields H/\H[2]?=nC .none)/\∀h',h'.get? e=nC (Ef C t (.ref h0) qm)->(∀b o,b≠e->h.heap.get? b=nC o->h'.get? b=nC o)->E (.ref e) {h with heap:=h'}) E s):
 jcH (model prog w) A (jjj env (nC x) (nC I)) Q E s:=by
 have K:(jcI C::bm).contains (.type "BaseException")=qm:=by rw[jiO,f,ji6]
 unfold jjj
 refine xT (jc1 k (λv h z=>?_) λ_ _ z=>z)
 obtain⟨e,t,rfl,n,p,P,⟨G,H,F,D,J⟩,L⟩:=z
 refine xT (jeG (B _ _ (xT (jcC ?_))))
 obtain⟨r,g,d,T,S⟩:=h
 unfold Ef at p
 repeat(first|with_reducible refine jc6 p ?_|with_reducible refine jc6 n ?_|(with_reducible refine jgQ n ?_;rw[K])|wp_step)
 have O:C≠e:=λz=>by
  have y:=p.symm.trans (z▸n)
  cases y
 have m:h0≠e:=λz=>P z.symm
 have u:∀b o,b≠e->r.get? b=nC o->((r.update e (jdN λx=>x.setIfInBounds 3 jdL)).update e (jdN λx=>x.setIfInBounds 4 (jdR qm))).get? b=nC o:=λb o f q=>by
  rw[jcQ _ _ (jdh f),jcQ _ _ (jdh f)];exact q
 have j:=jdm (jdN λx=>x.setIfInBounds 3 jdL) p rfl
 have l:=jdm (jdN λx=>x.setIfInBounds 4 (jdR qm)) j rfl
 have a:((r.update e (jdN λx=>x.setIfInBounds 3 jdL)).update e (jdN λx=>x.setIfInBounds 4 (jdR qm))).get? e=nC {cls:=.ref C,data:=.fields #[.ref t,.none,.none,.none,.bool qm,.none]}:=l
 have i:=u _ _ O n
 have c:=u _ _ m F
 generalize((r.update e (jdN λx=>x.setIfInBounds 3 jdL)).update e (jdN λx=>x.setIfInBounds 4 (jdR qm)))=R at u a i c|-
 clear j l
 repeat(first|with_reducible refine jc6 a ?_|with_reducible refine jc6 i ?_|wp_step)
 unfold raiseNew
 refine xT (wpAny_handled ?_)
 rw[M]
 show jcH _ A (if(jcI h0 !=jcI e)=qm then do
  let _<-holding [jcI e] (runValue (.builtin "proto.unchain" ⟨[.ref e,.ref h0,.ref h0,.bool vh],[]⟩))
  updateField e 2 (.ref h0)
  throw (jcI e)
  else throw (jcI e)) _ _ _
 rw[if_pos (show(jcI h0 !=jcI e)=qm from by simp[m])]
 refine xT (jeG (iz c D J (xT ?_)))
 unfold updateField
 refine xT (wpAny_load a ?_)
 refine wpAny_update a (wpAny_throw (L _ ?_ λb o f y=>?_))
 .exact jdm (jdN λx=>x.setIfInBounds 2 (jcI h0)) a rfl
 .rw[jcQ _ _ (jdh f)];exact u b o f y
theorem pB{B r:String}{D:List pL}(F:jfm B newId r D){U:Str->Option pL}{x:Str}{W j pos kp:Pos}{kd:Nat}{i:List Expr}{h0:pA}{Q:Flow->S6->Prop}
 (y:bm.contains (.type "BaseException")=qm)(hh:A.handled=nC (.ref h0))(p:(jeh j (jc0 i env)).any (·.1)=vh)(P:U "__init__"=su)
 (h:jcH (model prog w) A (eval (.Name x W) env) (λf u=>f=.ref C/\jcH (model prog w) A (evalArgs (.ref C) qm (jeh j (jc0 i env)) [])
  (λa c=>a.kw=[]/\a.pos.length<=qd/\c.heap.get? C=nC (jgA nm q C N bs bm hdct sn sub ab col dd k0 k1 k2 k3 k5 newId)/\c.heap.Ns N U/\OwnTail c.heap D bm/\
   (∃J K,c.heap.get? h0=nC J/\J.data=.fields K/\K[2]?=nC .none)/\
   ∀h' l e t,jij c.heap h' e (.ref C) a.pos->l.get? e=nC (Ef C t (.ref h0) qm)->(∀b o,b≠e->h'.get? b=nC o->l.get? b=nC o)->E (.ref e) {c with heap:=l}) E u) E s):
 jcH (model prog w) A (exec (.Raise (nC (.Call (.Name x W) i [] j)) (nC (.Constant .none kd kp)) pos) env) Q E s:=by
 rw[arm_exec_Raise]
 refine xT (je6 (u0 (C:=C) (nm:=nm) (q:=q) (N:=N) (bs:=bs) (bm:=bm) (hdct:=hdct) (sn:=sn) (sub:=sub) (ab:=ab) (col:=col) (dd:=dd) (k0:=k0) (k1:=k1) (k2:=k2) (k3:=k3) (k5:=k5) (newId:=newId) y hh ?_ ?_))
 .intro s Q hq
  exact xT (Constant_none (xT (je6 (jcC hq))))
 refine xT (jc1 (wpAny_Call_ofName (jc1 h (λf u m=>?_) λ_ _ x=>x)) (λv X I=>xT (je6 (jcC I))) λ_ _ x=>x)
 obtain⟨rfl,m⟩:=m
 unfold jgz
 refine xT (jeG (jc1 m (λa c n=>xT (je6 ?_)) λ_ _ x=>x))
 obtain⟨S,L⟩:=a
 obtain⟨O,G,M,hn,T,⟨J,K,R,o2,o3⟩,n⟩:=n
 obtain rfl:L=[]:=O
 obtain⟨hp,g,d,tk,os⟩:=c
 simp only[p]
 refine xT (wpAny_keeperOf_exc M ?_)
 refine xT (wpAny_call_exc_subT (hrest:=G) F T M hn P λh' e H=>xT (jeG (wpAny_point (jcC ?_))))
 obtain⟨t,ht,_,_⟩:=H.there
 exact⟨e,t,rfl,H.keeps _ _ M,ht,(λz=>by subst z;rw[H.new]at R;cases R),⟨J,K,H.keeps _ _ R,o2,o3⟩,λl Y Z=>n h' l e t H Y Z⟩
end
noncomputable def t6 (a C:pA) (h:jcX):Prop:=∃o b,h.get? a=nC o/\o.cls=.ref C/\o.data=.fields b/\b[2]?=nC .none
noncomputable abbrev Df (a C:pA):HO:=.ext (t6 a C)
theorem sU{P:jcz}{w:jcS}{H:Hp}{h:jcX}{a C:pA}(x:t6 a C h):Xx P w H h a (Df a C):=by
 obtain⟨o,b,g,i,j,l⟩:=x
 exact⟨⟨o,b,g,i,j,l⟩,⟨o,g⟩,λ_ _⟨o,b,e,c,d,f⟩k=>⟨o,b,k o e,c,d,f⟩⟩
noncomputable abbrev cN:pL->Prop:=λv=>v=jdL
noncomputable abbrev cT:pL->Prop:=λ_=>True
theorem FZ{c:pL->Prop}{X:Cx}{C a:pA}{o:HO}{f:List (pA×Obj)}{D:St}{p g:Hp}{l j:S6}{B h6:jcX}(E:Inv X f D p l)(d:iT c X.prog X.w X.stack p l g a C B j)(M:j.heap.UpToSlots h6)
 (A:B.StaysIn h6)(G:∀H,Xx X.prog X.w H h6 a o):Inv X f D (upd g a o) {j with heap:=h6}:=by
 obtain⟨I,O,N,P,K⟩:=j
 have e:=d.un h6 A M
 have h:Q3 X.prog X.w g h6:=d.hok.kept A
 have r:∀b o,l.heap.get? b=nC o->b≠a:=λb o q z=>by subst z;rw[d.fresh]at q;cases q
 have F:Un (frs X.stack) [] p (upd g a o) l.heap h6:=⟨e.keep,e.slot,λb o q n J=>by rw[ZX (r b o q)];exact e.free b o q n J,e.there,
  λb t q=>by rw[ZX (Yd (e.tups b t q) d.new)];exact e.tups b t q,λb o u q=>by rw[ZX (Yd (e.frzs b o u q) d.new)];exact e.frzs b o u q,
  λb L q=>by obtain⟨m,x⟩:=e.tbls b L q;exact⟨m,by rw[ZX (Yd x d.new)];exact x⟩⟩
 have i:Q3 X.prog X.w (upd g a o) h6:=λb u q=>by
  by_cases y:b=a
  .subst y;rw[Zj]at q;cases q;exact G _
  .rw[ZX y]at q
   exact(h b u q).stay (λc v _ z=>z) (λc z=>by rw[ZX (Yd z d.new)];exact z) λc t z=>by rw[ZX (Yd z d.new)];exact z
 exact E.call' (ch:=[]) d.os F i d.bare (λ_ z=>nomatch z)
theorem VM.ctx{B h:jcX}{l:List Env}{e C:pA}{m:Option pL}(x:VM cN B l e (.ref C) m h):t6 e C h:=by
 obtain⟨_,_,_,f,g,a,b,c,_,_,_,y,d,rfl⟩:=x
 exact⟨f,g,a,b,c,d⟩
theorem VM.is{c:pL->Prop}{B h:jcX}{l:List Env}{e C:pA}{m:Option pL}(x:VM c B l e (.ref C) m h):t7 e C h:=by
 obtain⟨d,a,b⟩:=x.there
 exact⟨d,a,b⟩
section
variable{M:jiU}{A:jdc}{E:pL->S6->Prop}{h:jcX}{g:Array jfz}{d:jjt}{t:Nat}{os:ji3}{a C D:pA}{o:Obj}{K:oh}{dD:Option pA}{cD:jhx}{sD:Array (Option pL)}
theorem J3{b:Bool}{Q:Bool->S6->Prop}(X:K.In h)(l:h.get? a=nC o)(j:o.cls=.ref C)(n:K.lookup D=nC ⟨.type "type",dD,.cls cD,sD⟩)(p:jcJ K D (.type "BaseException")=nC qm)(q:jcJ K C (.ref D)=nC b)
 (m:Q b ⟨h,g,d,t,os⟩):jcH M A (jiN (.ref a) (.ref D)) Q E ⟨h,g,d,t,os⟩:=by
 have f:=tc_notTuple
 have e:=jf4 (M:=M) X p
 have i:=jf4 (M:=M) X q
 have c:=X _ _ n
 unfold jiN
 cases b
 .repeat(first|(with_reducible refine jc6 l ?_;rw[j])|with_reducible refine jc6 c ?_|with_reducible refine e.at ?_|with_reducible refine i.at ?_|wp_step)
  exact m
 .repeat(first|(with_reducible refine jc6 l ?_;rw[j])|with_reducible refine jc6 c ?_|with_reducible refine e.at ?_|with_reducible refine i.at ?_|wp_step)
  exact m
theorem qU{c:pL->Prop}{s:S6}{B:jcX}{l:List Env}{e:pA}{C m:pL}{env:Env}(x:VM c B l e C (nC m) s.heap)(k:∀h' h,VM c B l e C (nC h) h'->s.heap.UpToSlots h'->E (.ref e) {s with heap:=h'}):cameBackBy M A env E (.ref e) s:=by
 obtain⟨p,q,i,t,w,f,n,d,o,g,_,j⟩:=id x
 obtain⟨T,r,v,b,_⟩:=g _ rfl
 show jcH M A (do
  if(<-field (.ref e) 1)==.none then unsupported "frame.own-activation:exception-without-traceback"
  jiv (.ref e) env.frame) _ _ s
 refine xT (jeF f d b ?_)
 rw[if_neg (show¬((jcI T==jdL)=qm)from by simp)]
 exact cu x λh' a u=>k h' _ a u
end
noncomputable def hits (K:oh) (C:pA):List pA->Option Bool
 |[]=>nC vh
 |D::Ds=>match jcJ K C (.ref D)with
  |some qm=>nC qm
  |some vh=>hits K C Ds
  |none=>su
inductive jaG(X:Cx)(x:Str):List pA->List jeg->Prop
 |nil:jaG X x [] []
 |cons {y:Str}{np xp cp cpos kp rp hp:Pos}{t:Str}{kd kd2:Nat}{D:pA}{Ds:List pA}{hs:List jeg} (hg:Gl X y) (hm:X.mg y=nC (.ref D)) (Z:nP X.K D) (r:jaG X x Ds hs) (hd:(y==("__debug__":Str))=vh:=by decide):
  jaG X x (D::Ds) (.ExceptHandler (nC (.Name y np)) su [.Raise (nC (.Call (.Name x xp) [.Constant (.str t) kd cp] [] cpos)) (nC (.Constant .none kd2 kp)) rp] hp::hs)
theorem gG{X:Cx}{E:XK}{x:Str}{CT:pA}{v:List pL}{Bn newId l:String}{f:List (pA×Obj)}{Y:St}{H1 j:Hp}{s1 W:S6}{a C:pA}{B h5:jcX}{Q:Flow->S6->Prop}(F:jfm Bn newId l v)(O:jf1 x CT v newId X.mg X.base)(G:v.contains (.type "BaseException")=qm)
 (hg:Gl X x)(aa:(x==("__debug__":Str))=vh)(g:X.stack=X.env::X.outer)(hf:X.env.frame=nC X.env.locals)(R:X.ex=[])(U:Q0 cT X E)(I1:Inv X f Y H1 s1)(m:iT cN X.prog X.w X.stack H1 s1 j a C B W)(sm:W.heap.UpToSlots h5)(L:VM cN B X.stack a (.ref C) (nC .none) h5):
 ∀{Ds:List pA}{hs:List jeg},jaG X x Ds hs->((hits X.K C Ds=nC qm/\∀a',upd j a (Df a C) a'=su->E (.ref a') (nC CT) (upd j a (Df a C)))\/(hits X.K C Ds=nC vh/\E (.ref a) (nC C) j))->
  jcH (model X.prog X.w) X.A (handleBy (.ref a) X.env hs) Q X.xe {W with heap:=h5}:=by
 intro Ds hs hh
 induction hh with
 |nil=>
  intro d
  rcases d with⟨z,_⟩|⟨_,q⟩
  .cases z
  refine wpAny_handleBy_nil (rO L λh6 m6 a6 u6=>?_)
  exact um (c:=cT) g hf R U I1 m.os m.bare (λh' k u=>m.un h' k ((sm.trans u6).trans u)) m.hok (a6.imp λ_ _=>trivial) m.new m.fresh q
 |@cons y np xp cp cpos kp rp hp t kd kd2 D Ds hs hgD hmD Z r hd ih=>
  intro d
  have I5:Inv X f Y (upd j a (Df a C)) {W with heap:=h5}:=FZ I1 m sm L.keep λH=>sU L.ctx
  refine wpAny_handleBy_cons (codeAny_handlers_test (Uk (X:=X.handling (.ref a)) (I5.handling _) hgD hmD ?_ hd)) (by intro q;cases q)
  obtain⟨ob,S,p⟩:=L.there
  obtain⟨dD,cD,sD,lD⟩:=Z.ex
  cases hm:jcJ X.K C (.ref D)with
  |none=>
   have e:hits X.K C (D::Ds)=su:=by unfold hits;rw[hm]
   rw[e]at d
   rcases d with⟨z,_⟩|⟨z,_⟩<;>cases z
  |some b=>
  cases b with
  |false=>
   have e:hits X.K C (D::Ds)=hits X.K C Ds:=by conv=>lhs;unfold hits;rw[hm]
   rw[e]at d
   exact J3 I5.QR S p lD Z.exc hm (ih d)
  |true=>
   have e:hits X.K C (D::Ds)=nC qm:=by unfold hits;rw[hm]
   rw[e]at d
   rcases d with⟨_,q⟩|⟨z,_⟩
   .refine J3 I5.QR S p lD Z.exc hm (codeAny_handlers_suite (zb L λh6 a6 u6=>?_))
    have I6:Inv X f Y (upd j a (Df a C)) {W with heap:=h6}:=FZ I1 m (sm.trans u6) a6.keep λH=>sU a6.ctx
    obtain⟨bm,N,nm,qn,bs,hdct,sn,sub,ab,col,dd,k0,k1,k2,k3,k5,mN,hC,hN,ad,TL⟩:=O.obj
    refine jfJ (pB (nm:=nm) (q:=qn) (N:=N) (bs:=bs) (bm:=bm) (hdct:=hdct) (sn:=sn) (sub:=sub) (ab:=ab) (col:=col) (dd:=dd) (k0:=k0) (k1:=k1) (k2:=k2) (k3:=k3) (k5:=k5) (h0:=a) F (TL.hasType G) rfl (Vj rfl) ad (Uk (X:=X.handling (.ref a)) (I6.handling _) hg O.bound ⟨rfl,?_⟩ aa))
    have ha:PA (X.handling (.ref a)) [.Constant (.str t) kd cp] (Uu (tC (.str t)) JK):=Gg jF Lb rfl
    have P:=ha cpos f _ Y _ (λvs H=>vs=[.str t]/\H=upd j a (Df a C)) (I6.handling (.ref a)) ⟨rfl,rfl⟩
    rw[Yi (env:=X.env) (by rfl)]at P|-
    refine jdP ?_
    refine jc1 P (λus s7 zz=>?_) λ_ _ z=>z.elim
    obtain⟨vs,H7,J,r7,rfl,rfl⟩:=zz
    have i:Inv X f Y (upd j a (Df a C)) s7:=J.bH I1.ok
    obtain⟨o9,v9,c1,c2,c3,c4⟩:t6 a C s7.heap:=(i.hok a _ Zj).1
    refine⟨rfl,by show us.length<=_;rw[<-r7.length];show 1<=qd;rw[jcD];decide,i.bk _ _ hC,hN.keeps i.bk,TL.keeps i.bk,⟨o9,v9,c1,c3,c4⟩,λh' h'' e9 t9 T e1 e2=>?_⟩
    have ac:∀env∈(X.env::X.outer),∀b,env.frame=nC b->b∈frs X.stack:=λenv he b h=>by rw[g];exact jeJ.mpr ⟨env,he,h⟩
    have M:=i.stack
    rw[g]at M
    have I:∀b o,s7.heap.get? b=nC o->h''.get? b=nC o:=λb o q=>e2 b o (λz=>by rw[z,T.new]at q;cases q) (T.keeps b o q)
    have ai:VM cT (jgi s7.heap (frs X.stack)) (X.env::X.outer) e9 (.ref CT) su h'':=by
     refine⟨λb o q=>I b o (jfZ _ q),?_,(jin M ac).of_keeps λb o h _=>⟨o,I b o h,rfl⟩,_,_,e1,rfl,rfl,(by show 1<6;decide),(λx q=>nomatch q),λ_=>rfl,_,rfl,trivial⟩
     cases z:(jgi s7.heap (frs X.stack)).get? e9 with
     |none=>rfl
     |some o=>have:=jfZ _ z;rw[T.new]at this;cases this
    have ae:s7.heap.UpToSlots h'':=jhB I
    refine jc (by rw[<-g];exact J.ok.frames) hf ai λh8 a8 u8=>qU a8 λh9 m9 a9 u9=>?_
    rw[<-g]at a9
    have nn:=i.hok.none_of T.new
    have no:∀b:pA,b∉([]:List pA):=λ_ z=>nomatch z
    refine um (c:=cT) (s:=s7) (H:=upd j a (Df a C)) (H':=upd j a (Df a C)) g hf R U i rfl i.bare (λh3 k3 u3=>?_) (i.hok.hide i.Pk) a9 nn T.new (q e9 nn)
    have sl:∀b o,s7.heap.get? b=nC o->b∈frs X.stack->∃sl,h3.get? b=nC {o with slots:=sl}:=λb o q h=>by
     obtain⟨_,o',e3,nf⟩:=i.stack.mem h
     rw[q]at e3;cases e3
     exact(((ae.trans u8).trans u9).trans u3) b _ q nf
    refine⟨λb o q _ h _=>k3 b o (jev _ q h),λb o q _ h _=>sl b o q h,λb o q n _=>n,λb o q _=>?_,λb xs q=>q,λb o u q=>q,λb ps q=>⟨#[],by rw[Array.append_empty];exact q⟩⟩
    by_cases h:b∈frs X.stack
    .obtain⟨s3,e3⟩:=sl b o q h
     exact⟨_,e3⟩
    .exact⟨o,k3 b o (jev _ q h)⟩
   .cases z
section
variable{X:Cx}{k j:Nat}{sp:Sp}{ps:List Str}{x:Str}{p cpos rpos pos:Pos}{e:Expr}{es:List Expr}{ta:TA}
theorem vd{c:pL->Prop}{a:List (pA×Obj)}{s:S6}{l:St}{H:Hp}{Q:VK}{E:XK}(D:X3 c X.prog X.w X.K X.mg X.base k x ps sp)(M:Wi j X.A)(G:k<=j)(C:Gl X x)(B:PA X.pZ (e::es) ta)(I:Inv X a l H s)
 (h:ta l H λvs b=>sp vs b Q E)(o:(e::es).all noStar=qm:=by rfl)(n:(x==("__debug__":Str))=vh:=by decide):
 jcH (model X.prog X.w) X.A (eval (.Call (.Name x p) (e::es) [] cpos) X.env) (EP X a l Q) (λv t=>∃b i,Inv X a l b i/\Bo c X.prog X.w X.stack b i E v t) s:=by
 obtain⟨f,F,J,L⟩:=D.ex
 refine jdG (Uk I C L ?_ n)
 refine jed (h₀:=X.base) I.ok.mod.kin J (jc1 (B cpos a s l H _ (I.wish _) h) (λN i⟨vs,b,d,r,q⟩=>⟨d.Ro.QR,?_⟩) λ_ _ z=>z.elim) (Yi (Y4 o).1) (Vj (Y4 o).2)
 have m:=d.Ro
 refine jfD (jeR (F.run X.A X.stack i b N vs _ _ (M.mono G) m.env0 r q) λr t g=>?_)
 cases r with
 |error O=>exact⟨b,i,m,g⟩
 |ok y=>
  cases y with
  |ret u=>exact m.after g
  |next=>exact jdi g
  |brk=>exact jdi g
  |cont=>exact jdi g
noncomputable def cY (K:oh) (c:List pA) (e:pA) (sp:Sp) (E:XK) (i:TA):TS:=λf l H=>i l H λj g=>sp j g f.rt λv h b=>∃a C,v=.ref a/\h=nC C/\
 ((hits K C c=nC qm/\∀d,upd b a (Df a C) d=su->E (.ref d) (nC e) (upd b a (Df a C)))\/(hits K C c=nC vh/\E (.ref a) (nC C) b))
theorem eQ{E:XK}{i:Str}{z:pA}{d:List pL}{S newId c:String}{G:List pA}{h₀:jeg}{Q:List jeg}(D:X3 cN X.prog X.w X.K X.mg X.base k x ps sp)(hr:Wi j X.A)(hj:k<=j)(Z:Gl X x)(F:jfm S newId c d)(O:jf1 i z d newId X.mg X.base)
 (f:d.contains (.type "BaseException")=qm)(o:Gl X i)(b:X.stack=X.env::X.outer)(P:X.env.frame=nC X.env.locals)(n:X.ex=[])(q:Q0 cT X E)(hh:jaG X i G (h₀::Q))(Y:PA X.pZ (e::es) ta)
 (hs:(e::es).all noStar=qm:=by rfl)(m:(x==("__debug__":Str))=vh:=by decide)(l:(i==("__debug__":Str))=vh:=by decide):
 PS X (.Try [.Return (nC (.Call (.Name x p) (e::es) [] cpos)) rpos] (h₀::Q) [] [] pos) (cY X.K G z sp E ta):=by
 intro R s σ H De I h
 refine jhz ?_
 refine jfJ (wpAny_Return_some ?_)
 refine jc1 (vd D hr hj Z Y I h hs m) (λu s1 t=>?_) λv s' t=>?_
 .obtain⟨y,J,g,r1,q1⟩:=t
  exact⟨y,σ,J,g,r1,q1⟩
 obtain⟨J,s1,g,H2,a,C,B,rfl,N,a',C',U,W,r⟩:=t
 cases U;cases W
 have M:=N.fly
 rw[b]at M
 refine rH (by rw[<-b];exact g.ok.frames) P M λh4 T u4=>zb T λh5 L u5=>?_
 rw[<-b]at L
 exact gG F O f o l b P n q g N (u4.trans u5) L hh r
noncomputable def cZ (K:oh) (D:pA) (sp:Sp) (i:Nat) (g:TA) (h:pL->TS):TS:=λd c H=>g c H λj e=>sp j e (λ_ b=>d.nx c b)
 λv f b=>∃a C,v=.ref a/\f=nC C/\jcJ K C (.ref D)=nC qm/\h (.ref a) {nx:=λ_ _=>False,rt:=d.rt} (c.set i (nC (.ref a))) (upd b a (J2 a C))
theorem eU{D:pA}{y n:Str}{i:Nat}{o np E:Pos}{d:jde}{c:List jde}{th:pL->TS}(DA:X3 cT X.prog X.w X.K X.mg X.base k x ps sp)(hr:Wi j X.A)(hj:k<=j)(hg:Gl X x)
 (M:Gl X y)(P:X.mg y=nC (.ref D))(ZD:nP X.K D)(hN:X.N.Nodup)(hi:X.N[i]?=nC n)(O:X.env.kindOf n=nC .local)
 (f:X.stack=X.env::X.outer)(hf:X.env.frame=nC X.env.locals)(ha:PA X.pZ (e::es) ta)(R:∀v,vQ (X.handling v) (d::c) (th v))
 (hs:(e::es).all noStar=qm:=by rfl)(G:(x==("__debug__":Str))=vh:=by decide)(L:(y==("__debug__":Str))=vh:=by decide):
 PS X (.Try [.Expr (.Call (.Name x p) (e::es) [] cpos) o] [.ExceptHandler (nC (.Name y np)) (nC n) (d::c) E] [] [] pos) (cZ X.K D sp i ta th):=by
 intro b s Z H De I h
 refine jhz ?_
 refine jfJ (wpAny_Expr_any ?_ I.quiet (Oh rfl))
 refine jc1 (vd DA hr hj hg ha I h hs G) (λu s1 Y=>?_) λv s' Y=>?_
 .obtain⟨y,H1,g,r1,q1⟩:=Y
  exact jeP (jeP ⟨Z,H1,g,q1⟩)
 obtain⟨H1,s1,g,H2,a,C,B,rfl,F,a',C',ea,ec,r,S⟩:=Y
 cases ea;cases ec
 have f1:=F.fly
 rw[f]at f1
 refine rH (by rw[<-f];exact g.ok.frames) hf f1 λh4 a4 u4=>zb a4 λh5 l u5=>?_
 rw[<-f]at l
 have I5:Inv X b Z (upd H2 a (J2 a C)) {s' with heap:=h5}:=FZ g F (u4.trans u5) l.keep λH=>rn l.is
 refine wpAny_handleBy_cons (codeAny_handlers_test (Uk (X:=X.handling (.ref a)) (I5.handling _) M P ?_ L)) (by intro q;cases q)
 obtain⟨ob,Q,t⟩:=l.there
 obtain⟨dD,cD,sD,lD⟩:=ZD.ex
 obtain⟨aa,g',d',t',U⟩:=s'
 refine xY I5.QR Q t lD ZD.exc r (codeAny_handlers_suite_as (zb l λh6 a6 u6=>?_))
 have I6:Inv X b Z (upd H2 a (J2 a C)) ⟨h6,g',d',t',U⟩:=FZ g F ((u4.trans u5).trans u6) a6.keep λH=>rn a6.is
 refine Bh (X:=X.handling (.ref a)) (v:=V.ref a) (I6.handling (.ref a)) hN hi (jbI O) rfl (λs7 I7=>?_) (.inr O)
 refine jc1 (R (.ref a) b s7 _ _ _ I7 S) (λf8 s8 q=>?_) λ_ _ z=>z.elim
 cases f8 with
 |ret u=>
  obtain⟨v,ab,H',J,rv,q⟩:=q
  obtain⟨m,hn,_⟩:=id J.loc
  exact wpAny_nameGoes O hn (by rw[I.ok.kind];rfl) λh9 m9 T W=>⟨v,_,H',J.forget I.ok T W,rv,q⟩
 |next=>obtain⟨_,_,_,q⟩:=q;exact q.elim
 |brk=>obtain⟨_,_,_,q⟩:=q;exact q.elim
 |cont=>obtain⟨_,_,_,q⟩:=q;exact q.elim
end
section
variable{X:Cx}{k j:Nat}{sp:Sp}{ps:List Str}{x:Str}{p cpos rpos pos:Pos}{e:Expr}{es:List Expr}{ta:TA}
theorem qM{E:XK}{d:Str}{o:pA}{b:List pL}{t newId a:String}{q:List pA}{h₀:jeg}{r:List jeg}(D:X3 cN X.prog X.w X.K X.mg X.base k x ps sp)(C:Wi j X.A)(B:k<=j)(y:Gl X x)(F:jfm t newId a b)(O:jf1 d o b newId X.mg X.base)
 (c:b.contains (.type "BaseException")=qm)(l:Gl X d)(m:X.stack=X.env::X.outer)(v:X.env.frame=nC X.env.locals)(i:X.ex=[])(n:Q0 cT X E)(z:jaG X d q (h₀::r))(u:QA X.pZ (e::es) ta)
 (G:(e::es).all noStar=qm:=by rfl)(g:(x==("__debug__":Str))=vh:=by decide)(f:(d==("__debug__":Str))=vh:=by decide):
 QS X (.Try [.Return (nC (.Call (.Name x p) (e::es) [] cpos)) rpos] (h₀::r) [] [] pos) (cY X.K q o sp E ta):=⟨L2.eQ D C B y F O c l m v i n z u.h G g f⟩
theorem qN{D:pA}{y n:Str}{i:Nat}{c L d:Pos}{b:jde}{a:List jde}{r:pL->TS}(t:X3 cT X.prog X.w X.K X.mg X.base k x ps sp)(I:Wi j X.A)(G:k<=j)(E:Gl X x)
 (l:Gl X y)(m:X.mg y=nC (.ref D))(u:nP X.K D)(z:X.N.Nodup)(F:X.N[i]?=nC n)(H:X.env.kindOf n=nC .local)
 (o:X.stack=X.env::X.outer)(C:X.env.frame=nC X.env.locals)(B:QA X.pZ (e::es) ta)(q:∀v,sG (X.handling v) (b::a) (r v))
 (J:(e::es).all noStar=qm:=by rfl)(f:(x==("__debug__":Str))=vh:=by decide)(g:(y==("__debug__":Str))=vh:=by decide):
 QS X (.Try [.Expr (.Call (.Name x p) (e::es) [] cpos) c] [.ExceptHandler (nC (.Name y L)) (nC n) (b::a) d] [] [] pos) (cZ X.K D sp i ta r):=⟨L2.eU t I G E l m u z F H o C B.h (λv=>(q v).h) J f g⟩
theorem Xe{c:pL->Prop}{C:pA}{b:List pL}{B newId a:String}{E:XK}{r:Pos}(f:c .none)(F:jfm B newId a b)(O:jf1 x C b newId X.mg X.base)
 (d:b.contains (.type "BaseException")=qm)(n:X.calm=qm)(p:Gl X x)(m:QA X (e::es) ta)(j:X.stack=X.env::X.outer)(o:X.env.frame=nC X.env.locals)(i:X.ex=[])(l:Q0 c X E)
 (q:(e::es).all noStar=qm:=by rfl)(g:(x==("__debug__":Str))=vh:=by decide):
 QS X (.Raise (nC (.Call (.Name x r) (e::es) [] cpos)) su pos) (j8 C E ta):=⟨L2.oX f F O d n p m.h j o i l q g⟩
theorem JW{c:pL->Prop}{f:Str}{C:pA}{E:XK}{t:Pos}(a:c .none)(Z:nQ X.prog X.w X.K X.mg X.base k x C f)(q:Wi j X.A)(p:k+1<=j)(m:X.calm=qm)(o:Gl X x)(l:QA X [e] ta)
 (g:X.stack=X.env::X.outer)(n:X.env.frame=nC X.env.locals)(d:X.ex=[])(i:Q0 c X E)(r:noStar e=qm:=by rfl)(b:(x==("__debug__":Str))=vh:=by decide):
 QS X (.Raise (nC (.Call (.Name x t) [e] [] cpos)) su pos) (IW C E f ta):=⟨L2.uX a Z q p m o l.h g n d i r b⟩
end
variable{X:Cx}{elt:Expr}{pos:Pos}{te:TE}
theorem Ek{c:pL->Prop}{E:XK}{u d:Expr}{l:List Expr}{a:Scope}{z:TI}{g:TG}{y:TT}(w:Scope)(N xs ns:List Str)(v:List Nat)(F:X.calm=qm)(r:X.env.scope=w)(D:X.N=N)(o:∃n,X.env.cells=jgX n X.env.scope.names [])(K:X.env.scope.kind=.function)(m:a.kind=.function)(A:xR w.names a.names N ns v=qm)
 (j:X.stack=X.env::X.outer)(q:X.env.frame=nC X.env.locals)(p:X.ex=[])(t:Q0 c X E)
 (B:QI X u d z)(J:∀C b e i,QG (YG X a (RK X.env.cells a.names []) (xs++ns) C b e i) u g)(I:∀C b e i,QC (YG X a (RK X.env.cells a.names []) (xs++ns) C b e i) l y)
 (G:∀C b e i,QE ((YG X a (RK X.env.cells a.names []) (xs++ns) C b e i).wish (tZ c (YG X a (RK X.env.cells a.names []) (xs++ns) C b e i) E)) elt te)(L:∀x,jdY d X.env x=pure x:=by intro _;rfl):
 QE X (.ListComp elt [⟨u,d,l,0⟩] a pos) (Kc z xs.length v g y te):=
 ⟨L2.jw F j q p t (Rp.of r D o K m A) B.h (λC s H f=>(J C s H f).h) (λC s H f=>(I C s H f).h) (λC s H f=>(G C s H f).h) L⟩
end L2
namespace L2
open PySem PySem.Spec PyProof.Rows PySem.W
noncomputable abbrev Io (a b:Sp):Sp:=λc H Q E=>a c H Q E\/b c H Q E
section
variable{c:pL->Prop}{P:jcz}{w:jcS}{K:oh}{mg:Str->Option pL}{base:jcX}{k:Nat}{ps:List Str}{sp sp2:Sp}
theorem X3.both{x:Str}(D:Z3 P w K mg base k x ps [] sp)(a:X3 c P w K mg base k x ps sp2):X3 c P w K mg base k x ps (Io sp sp2):=D.jcv.or a
theorem Ut.both{C:pA}{m:Str}{f:pA}{j:Nat}(D:Ut P w K mg base j C m ps sp)(d:j<=k)(a:Hi c P w K mg base k f ps sp2)(h:Meth K C m f):Ej c P w K mg base k C m ps (Io sp sp2):=by
 obtain⟨g,i,F,b,M,L⟩:=D.ex
 have e:=M.at_.symm.trans h.at_
 cases e
 exact⟨f,((Hi.of0 F b).mono d).or a,h,L⟩
theorem Sy.both{x:Str}{C f:pA}(D:Sy P w K mg base k x C ps sp)(a:Hi c P w K mg base k f ps sp2)(h:jcy K (.ref C) "__init__"=nC (nC (.ref f))):Nu c P w K mg base k x C ps (Io sp sp2):=by
 obtain⟨d,g,F,b,M,m⟩:=D.ex
 have e:=M.init.symm.trans h
 cases e
 exact⟨f,(Hi.of0 F b).or a,M,m⟩
end
end L2
namespace L2
open PySem PySem.Spec PyProof.Rows PySem.W Builtin Builtin.Str
noncomputable def isF (c:Nat):Bool:=decide (48<=c)&&decide (c<=57)
noncomputable def isA (c:Nat):Bool:=decide (97<=c)&&decide (c<=122)
theorem Kr{c:Nat}:isF c=qm↔48<=c/\c<=57:=by unfold isF;simp
theorem Eb{c:Nat}:isA c=qm↔97<=c/\c<=122:=by unfold isA;simp
noncomputable def Qp (p:Nat->Bool):List Nat->Prop
 |[]=>True
 |c::_=>p c=vh
theorem LK{p:Nat->Bool}:∀{a b:List Nat},(∀c∈a,p c=qm)->Qp p b->(a++b).takeWhile p=a/\(a++b).dropWhile p=b
 |[],[],_,_=>⟨rfl,rfl⟩
 |[],c::b,_,h=>by
  have h:p c=vh:=h
  simp[jfc,jiA,h]
 |c::a,b,ha,hb=>by
  have f:=ha c (U7 ..)
  obtain⟨d,e⟩:=LK (a:=a) (b:=b) (λx g=>ha x (jcx _ g)) hb
  simp[jfc,jiA,f,d,e]
theorem IV(p:Nat->Bool)(s:List Nat):s=s.takeWhile p++s.dropWhile p:=List.takeWhile_append_dropWhile.symm
theorem vB{p:Nat->Bool}{s:List Nat}:∀c∈s.takeWhile p,p c=qm:=by
 induction s with
 |nil=>intro c a;simp at a
 |cons x s b=>
  intro c a
  rw[jfc]at a
  split at a
  .rcases jbK.mp a with rfl|a
   .assumption
   .exact b c a
  .simp at a
noncomputable def Th (f:List Nat):Nat:=f.foldl (λa c=>10*a+(c-48)) 0
theorem HQ(g:List Nat)(c:Nat):Th (g++[c])=10*Th g+(c-48):=by unfold Th;rw[jhi];rfl
theorem zF{P:List Nat->Prop}(h0:P [])(b:∀g c,P g->P (g++[c])):∀f,P f:=by
 intro f
 have:∀n(f:List Nat),f.length=n->P f:=by
  intro n
  induction n with
  |zero=>intro f e;rw[jdl.mp e];exact h0
  |succ n d=>
   intro f e
   have a:f≠[]:=λz=>by rw[z]at e;cases e
   rw[<-List.dropLast_concat_getLast a]
   exact b _ _ (d _ (by rw[List.length_dropLast,e];rfl))
 exact this _ f rfl
theorem sZ:∀c,48<=c->c<=57->(je7 (c-48)).toNat=c:=by
 have a:∀k<10,(je7 k).toNat=k+48:=by decide
 intro c b d
 rw[a (c-48) (by omega)];omega
theorem gn:∀f:List Nat,(∀c∈f,48<=c/\c<=57)->f≠[]->¬f.take 1=[48]->1<=Th f/\(jdZ 10 (Th f)).map jg8=f:=by
 refine zF (λ_ h=>absurd rfl h) λg c j d _ b=>?_
 have a:=d c (by simp)
 rw[HQ]
 cases g with
 |nil=>
  have l:c≠48:=λz=>b (by rw[z];rfl)
  show 1<=10*0+(c-48)/\_
  refine⟨by omega,?_⟩
  rw[show 10*Th []+(c-48)=c-48 by show 10*0+_=_;omega,jee (by omega)]
  show[(je7 (c-48)).toNat]=_
  rw[sZ c a.1 a.2];rfl
 |cons x g=>
  obtain⟨m,i⟩:=j (λy e=>d y (by simp at e|-;rcases e with h|h;exact .inl h;exact .inr (.inl h))) (by simp) (λz=>b (by simpa using z))
  refine⟨by omega,?_⟩
  have t:jdZ 10 (Th (x::g))++jdZ 10 (c-48)=jdZ 10 (10*Th (x::g)+(c-48)):=jfr (by decide) (by omega) (by omega)
  rw[<-t,jcA,i,jee (show c-48<10 by omega)]
  show _++[(je7 (c-48)).toNat]=_
  rw[sZ c a.1 a.2]
theorem gU:∀f:List Nat,(∀c∈f,48<=c/\c<=57)->Th f<10^f.length:=by
 refine zF (λ_=>by decide) λg c d a=>?_
 have e:=a c (by simp)
 have:=d λy b=>a y (by simp[b])
 rw[HQ,O1]
 show _<10^(g.length+1)
 rw[Nat.pow_succ];omega
noncomputable def Nx (f:List Nat):Bool:=decide (1<=f.length)&&decide (f.length<=10)&&(decide (f.length=1)||!decide (f.take 1=[48]))
theorem Kq{f:List Nat}:Nx f=qm↔1<=f.length/\f.length<=10/\(f.length=1\/¬f.take 1=[48]):=by unfold Nx;simp[and_assoc]
theorem wO(n:Nat):Xd (n:Int)=(jdZ 10 n).map jg8:=jiE n
theorem yj{f:List Nat}(b:∀c∈f,48<=c/\c<=57)(g:Nx f=qm):f=Xd (Th f:Nat)/\Th f<10^10:=by
 obtain⟨d,e,h⟩:=Kq.mp g
 refine⟨?_,jcW (gU f b) (je0 (by decide) e)⟩
 rw[wO]
 by_cases a:f.take 1=[48]
 .have i:=h.resolve_right (λz=>z a)
  have:f=[48]:=by
   rw[<-a,jdp (by omega)]
  subst this
  decide
 .exact(gn f b (λz=>by subst z;simp at d) a).2.symm
theorem p6:∀n:Nat,Th ((jdZ 10 n).map jg8)=n:=by
 intro n
 induction n using Nat.strongRecOn with
 |_ n c=>
  have b:∀k<10,(je7 k).toNat=k+48:=by decide
  by_cases h:n<10
  .rw[jee h]
   show 10*0+((je7 n).toNat-48)=n
   rw[b n h];omega
  .have a:n %10<10:=jjD n (by decide)
   have t:jdZ 10 (n/10)++jdZ 10 (n %10)=jdZ 10 (10*(n/10)+n %10):=jfr (by decide) (by omega) a
   rw[Nat.div_add_mod]at t
   rw[<-t,jcA,jee a]
   show Th (_++[(je7 (n %10)).toNat])=n
   rw[HQ,c (n/10) (by omega),b _ a];omega
theorem jd(n:Nat):Th (Xd (n:Int))=n:=by rw[wO];exact p6 n
noncomputable def Gp (lo a:Nat) (s:List Nat):Option (Nat×List Nat):=if Nx (s.takeWhile isF)=qm/\lo<=Th (s.takeWhile isF)/\Th (s.takeWhile isF)<=a then nC (Th (s.takeWhile isF),s.dropWhile isF)else su
theorem rY{lo d m:Nat}{B:List Nat}(l:lo<=m)(n:m<=d)(r:m<10^10)(o:Qp isF B):Gp lo d (Xd (m:Int)++B)=nC (m,B):=by
 obtain⟨g,h,i,j⟩:=O7 (m:=(m:Int)) (by omega) (by omega)
 obtain⟨e,f⟩:=LK (p:=isF) (a:=Xd (m:Int)) (b:=B) (λc q=>Kr.mpr (i c q)) o
 unfold Gp
 rw[e,f,jd,if_pos ⟨Kq.mpr ⟨g,h,j⟩,l,n⟩]
theorem vo{lo a m:Nat}{s r:List Nat}(h:Gp lo a s=nC (m,r)):s=Xd (m:Int)++r/\lo<=m/\m<=a/\m<10^10:=by
 unfold Gp at h
 split at h
 .rename_i g
  cases h
  obtain⟨b,d⟩:=yj (λc e=>Kr.mp (vB c e)) g.1
  refine⟨?_,g.2.1,g.2.2,d⟩
  rw[<-b];exact IV isF s
 .cases h
noncomputable def RX (ns:List (List Nat)):Nat->Nat->List Nat->Option (Nat×List Nat)
 |0,_,_=>su
 |n+1,b,s=>if s.takeWhile isA∈ns/\b.testBit (ns.idxOf (s.takeWhile isA))=vh then
  (if(s.dropWhile isA).take 1=[43]then RX ns n (b+2^ns.idxOf (s.takeWhile isA)) ((s.dropWhile isA).drop 1)
   else nC (b+2^ns.idxOf (s.takeWhile isA),s.dropWhile isA))else su
theorem FP:∀b<64,∀k<6,b.testBit k=vh->b+2^k=b|||2^k/\¬b&&&2^k=2^k/\b|||2^k<64:=by decide+kernel
theorem kZ:∀b<64,∀k<6,¬b&&&2^k=2^k->b.testBit k=vh:=by decide+kernel
theorem mD:∀b<64,∀k<6,b.testBit k=vh->(things (b|||2^k)).length=(things b).length+1:=by decide+kernel
theorem Il:∀(a:List Nat)(b:Nat),b<64->once b a=qm->(things b).length+a.length<=6/\Ew b a<64
 |[],b,hb,_=>⟨Nt b,hb⟩
 |k::a,b,hb,h=>by
  simp only[once,jbE,jeV,decide_eq_true_eq,decide_eq_false_iff_not]at h
  obtain⟨⟨c,i⟩,j⟩:=h
  have d:=kZ b hb k c i
  obtain⟨_,_,e⟩:=FP b hb k c d
  obtain⟨f,g⟩:=Il a (b|||2^k) e j
  rw[mD b hb k c d]at f
  exact⟨by rw[jc7];omega,g⟩
section
variable{ns:List (List Nat)}
theorem lZ(a:ns.Nodup){j:Nat}(b:j<ns.length):ns.idxOf (ns.getD j [])=j:=by
 rw[jbG,sH b]
 exact a.idxOf_getElem j b
theorem O3{x:List Nat}(h:x∈ns):ns.idxOf x<ns.length/\ns.getD (ns.idxOf x) []=x:=by
 have a:ns.idxOf x<ns.length:=List.idxOf_lt_length_of_mem h
 refine⟨a,?_⟩
 rw[jbG,sH a]
 show ns[ns.idxOf x]=x
 exact jiR a
noncomputable def Ja (c:Nat):Bool:=isA c||decide (c=43)
theorem zx(hn:∀n∈ns,W8 n)(d:ns.Nodup){B:List Nat}(o:Qp Ja B):∀(f:List Nat)(n b:Nat),f≠[]->f.length<=n->b<64->(∀j∈f,j<ns.length)->once b f=qm->RX ns n b (Z2 [43] (f.map λj=>ns.getD j [])++B)=nC (Ew b f,B)
 |[],_,_,h,_,_,_,_=>absurd rfl h
 |j::r,0,_,_,h,_,_,_=>absurd h (by simp)
 |j::r,n+1,b,_,hl,hb,hj,ho=>by
  simp only[once,jbE,jeV,decide_eq_true_eq,decide_eq_false_iff_not]at ho
  obtain⟨⟨w,A⟩,C⟩:=ho
  have g:=hj j (U7 ..)
  have F:=hn _ (getD_mem g)
  have u:=kZ b hb j w A
  obtain⟨v,_,y⟩:=FP b hb j w u
  have x:∀c∈ns.getD j [],isA c=qm:=λc D=>Eb.mpr (F.2.2 c D)
  cases r with
  |nil=>
   have q:Qp isA B:=by
    cases B with
    |nil=>trivial
    |cons c B=>have:Ja c=vh:=o;unfold Ja at this;rw[jfF]at this;exact this.1
   have t:¬B.take 1=[43]:=by
    cases B with
    |nil=>simp
    |cons c B=>
     have:Ja c=vh:=o
     unfold Ja at this
     rw[jfF,decide_eq_false_iff_not]at this
     intro z;exact this.2 (jdb z).1
   obtain⟨l,m⟩:=LK (p:=isA) (a:=ns.getD j []) (b:=B) x q
   show RX ns (n+1) b (ns.getD j []++B)=_
   unfold RX
   rw[l,m,lZ d g,if_pos ⟨getD_mem g,u⟩,if_neg t,v];rfl
  |cons k r=>
   obtain⟨l,m⟩:=LK (p:=isA) (a:=ns.getD j []) (b:=43::(Z2 [43] ((k::r).map λj=>ns.getD j [])++B)) x (show isA 43=vh by decide)
   have e:Z2 [43] ((j::k::r).map λj=>ns.getD j [])++B=ns.getD j []++43::(Z2 [43] ((k::r).map λj=>ns.getD j [])++B):=by
    show(ns.getD j []++[43]++Z2 [43] ((k::r).map λj=>ns.getD j []))++B=_
    simp
   rw[e]
   unfold RX
   rw[l,m,lZ d g,if_pos ⟨getD_mem g,u⟩,v]
   refine jgg (if_pos rfl) ?_
   exact zx hn d o (k::r) n (b|||2^j) (by simp) (by simp at hl|-;omega) y (λi E=>hj i (jcx _ E)) C
theorem Cp(f:ns.length<=6):∀(n b:Nat)(s:List Nat)(b':Nat)(r:List Nat),b<64->RX ns n b s=nC (b',r)->∃a:List Nat,a≠[]/\(∀j∈a,j<ns.length)/\once b a=qm/\Ew b a=b'/\s=Z2 [43] (a.map λj=>ns.getD j [])++r
 |0,_,_,_,_,_,h=>by cases h
 |n+1,b,s,b',r,hb,h=>by
  unfold RX at h
  split at h
  .rename_i g
   obtain⟨o,p⟩:=O3 g.1
   have u:ns.idxOf (s.takeWhile isA)<6:=by omega
   obtain⟨m,x,y⟩:=FP b hb _ u g.2
   have w:=IV isA s
   generalize ns.idxOf (s.takeWhile isA)=j at*
   have v:∀a,once (b|||2^j) a=qm->once b (j::a)=qm:=λa z=>by
    simp only[once,jbE,jeV,decide_eq_true_eq,decide_eq_false_iff_not]
    exact⟨⟨u,x⟩,z⟩
   split at h
   .rename_i l
    rw[m]at h
    obtain⟨a,A,B,C,D,E⟩:=Cp f n (b|||2^j) _ b' r y h
    refine⟨j::a,by simp,λi d=>?_,v a C,D,?_⟩
    .rcases jbK.mp d with rfl|d
     .exact o
     .exact B i d
    .have e:s.dropWhile isA=43::(s.dropWhile isA).drop 1:=by
      cases q:s.dropWhile isA with
      |nil=>rw[q]at l;simp at l
      |cons c t=>rw[q]at l;rw[(jdb (show c::[]=[43]from l)).1];rfl
     cases a with
     |nil=>exact absurd rfl A
     |cons k a=>
      conv=>lhs;rw[w,e,E,<-p]
      show _=(ns.getD j []++[43]++Z2 [43] ((k::a).map λj=>ns.getD j []))++r
      simp
   .cases h
    refine⟨[j],by simp,λi d=>by rw[jc5.mp d];exact o,v [] rfl,?_,?_⟩
    .show b|||2^j=_;rw[m]
    .show s=ns.getD j []++_
     rw[p];exact w
  .cases h
end
structure KindsOk(kd:List Nat->Nat->Prop)(km:List Nat->Nat):Prop where
 iff:∀k b,kd k b↔0<km k/\b=km k
 name:∀k,0<km k->W8 k
 le:∀k,km k<=63
noncomputable def Rf (ns:List (List Nat)) (a:List Nat->Nat) (s:List Nat):Option (Nat×List Nat):=
 if s.take 1=[61]then(if 0<a ((s.drop 1).takeWhile isA)then nC (a ((s.drop 1).takeWhile isA),(s.drop 1).dropWhile isA)else su)else RX ns (s.length+1) 0 s
noncomputable def O9 (ns:List (List Nat)) (a:List Nat->Nat) (s:List Nat):Option (Nat×Nat×List Nat):=
 match Rf ns a s with
 |none=>su
 |some (b,r)=>if r.take 5=[32,102,111,114,32]then(match Gp 0 (10^9) (r.drop 5)with|none=>su|some (m,q)=>nC (b,m,q))else su
noncomputable def Li (ns:List (List Nat)) (a:List Nat->Nat) (s:List Nat):Option (Nat×Nat×Nat×List Nat):=
 match Gp 1 6 s with
 |none=>su
 |some (c,r)=>if r.take 4=[32,111,102,32]then(match O9 ns a (r.drop 4)with|none=>su|some (b,m,q)=>nC (c,b,m,q))else su
noncomputable def Fe (s:List Nat):Prop:=s.take 1=[]\/s.take 1=[59]\/s.take 1=[41]
instance(s:List Nat):Decidable (Fe s):=by unfold Fe;exact inferInstance
noncomputable def jaH:List Nat->Bool
 |[]=>vh
 |c::_=>isF c
noncomputable def RN (ns:List (List Nat)) (a:List Nat->Nat) (s:List Nat):Option (Form×List Nat):=
 if s.take 7=Vk/\Fe (s.drop 7)then nC (.none,s.drop 7)
 else if s.take 6=[117,112,32,116,111,32]then
  (match Li ns a (s.drop 6)with|none=>su|some (c,b,m,r)=>if r.take 5=[32,101,97,99,104]then nC (.most b c (m:Int),r.drop 5)else su)
 else if jaH s=qm then(match Li ns a s with|none=>su|some (c,b,m,r)=>nC (.some b c (m:Int),r))
 else(match O9 ns a s with|none=>su|some (b,m,r)=>nC (.only b (m:Int),r))
noncomputable def SN (g:List Nat->Option (Tr×List Nat)):Nat->List Tr->List Nat->Option (List Tr×List Nat)
 |0,_,_=>su
 |n+1,acc,s=>match g s with
  |none=>su
  |some (t,r)=>if r.take 1=[41]then nC (acc++[t],r.drop 1)else if r.take 2=[59,32]then SN g n (acc++[t]) (r.drop 2)else su
noncomputable def w3 (any:Bool):List Nat:=if any=qm then[97,110,121]else[111,110,101]
noncomputable def Rc (ns:List (List Nat)) (a:List Nat->Nat):Nat->List Nat->Option (Tr×List Nat)
 |0,_=>su
 |d+1,s=>if(s.drop 3).take 1=[40]/\(s.take 3=w3 qm\/s.take 3=w3 vh)then
  (if(s.drop 4).take 1=[41]then nC (.node (decide (s.take 3=w3 qm)) [],s.drop 5)
   else match SN (Rc ns a d) (s.length+1) [] (s.drop 4)with|none=>su|some (ts,r)=>nC (.node (decide (s.take 3=w3 qm)) ts,r))
  else(match RN ns a s with|none=>su|some (f,r)=>nC (.leaf f,r))
section
variable{ns:List (List Nat)}{kd:List Nat->Nat->Prop}{km:List Nat->Nat}
theorem ja9{p:Nat->Bool}{c:Nat}{r:List Nat}(h:p c=vh):Qp p (c::r):=h
theorem W5{s w:List Nat}{n:Nat}(h:s.take n=w)(hw:w.length=n):s=w++s.drop n:=by
 conv=>lhs;rw[<-jfu n s,h]
theorem Ca(hn:∀n∈ns,W8 n){b:Nat}{pl:List Nat}(h:Wm ns kd b pl):∃c r,pl=c::r/\(isA c=qm\/c=61):=by
 rcases h with⟨a,f,_,g,_,_,rfl⟩|⟨k,_,_,rfl⟩
 .cases a with
  |nil=>exact absurd rfl f
  |cons j a=>
   have d:=hn _ (getD_mem (g j (U7 ..)))
   cases q:ns.getD j []with
   |nil=>rw[q]at d;exact absurd d.1 (by simp)
   |cons c r=>
    have e:isA c=qm:=Eb.mpr (d.2.2 c (by rw[q];exact U7 ..))
    cases a with
    |nil=>exact⟨c,r,by show ns.getD j []=_;exact q,.inl e⟩
    |cons k a=>
     refine⟨c,r++[43]++Z2 [43] ((k::a).map λj=>ns.getD j []),?_,.inl e⟩
     show ns.getD j []++[43]++Z2 [43] ((k::a).map λj=>ns.getD j [])=_
     rw[q];rfl
 .exact⟨61,k,rfl,.inr rfl⟩
theorem mH:∀(a:List Nat)(b:Nat),b<=Ew b a
 |[],b=>U6 b
 |k::a,b=>by
  have:=mH a (b|||2^k)
  show b<=Ew (b|||2^k) a
  exact jc9 Nat.left_le_or this
theorem Q8(Z:KindsOk kd km){b:Nat}{pl:List Nat}(h:Wm ns kd b pl):1<=b/\b<=63:=by
 rcases h with⟨c,d,_,_,f,rfl,_⟩|⟨k,e,_,_⟩
 .have:=(Il c 0 (by decide) f).2
  refine⟨?_,by omega⟩
  cases c with
  |nil=>exact absurd rfl d
  |cons j c=>
   have:=mH c (0|||2^j)
   rw[jhj]at this
   show 1<=Ew (0|||2^j) c
   rw[jhj]
   exact jc9 (jfs j) this
 .obtain⟨a,rfl⟩:=(Z.iff k b).mp e
  exact⟨a,Z.le k⟩
theorem aH{B:List Nat}(h:Qp Ja B):Qp isA B:=by
 cases B with
 |nil=>trivial
 |cons c B=>have:Ja c=vh:=h;unfold Ja at this;rw[jfF]at this;exact this.1
theorem oY(hn:∀n∈ns,W8 n)(l:ns.Nodup)(Z:KindsOk kd km){b:Nat}{pl B:List Nat}(h:Wm ns kd b pl)(o:Qp Ja B):Rf ns km (pl++B)=nC (b,B):=by
 have y:=Ca hn h
 rcases h with⟨d,v,G,q,C,x,rfl⟩|⟨k,A,w,rfl⟩
 .obtain⟨c,r,e,f⟩:=y
  have F:¬(Z2 [43] (d.map λj=>ns.getD j [])++B).take 1=[61]:=by
   rw[e]
   intro z
   have z:c=61:=(jdb (show[c]=[61]from z)).1
   have E:∀c∈Z2 [43] (d.map λj=>ns.getD j []),c≠61:=λc f=>by
    rcases Qk f with⟨p,D,g⟩|f
    .obtain⟨j,i,rfl⟩:=jdT.mp D
     have:=(hn _ (getD_mem (q j i))).2.2 c g
     omega
    .rw[jc5.mp f];decide
   exact E c (by rw[e];exact U7 ..) z
  unfold Rf
  rw[if_neg F]
  have:=zx hn l o d ((Z2 [43] (d.map λj=>ns.getD j [])++B).length+1) 0 v ?_ (by decide) q C
  .rw[x]at this;exact this
  .have m:∀d:List Nat,d.length<=(Z2 [43] (d.map λj=>ns.getD j [])).length+1:=by
    intro d
    induction d with
    |nil=>exact jcY _
    |cons j d H=>
     cases d with
     |nil=>exact jh7 1 _
     |cons k d=>
      show(k::d).length+1<=(ns.getD j []++[43]++Z2 [43] ((k::d).map λj=>ns.getD j [])).length+1
      rw[O1,O1]
      have:[43].length=1:=rfl
      omega
   have:=m d
   rw[O1];omega
 .obtain⟨a,rfl⟩:=(Z.iff k b).mp A
  obtain⟨t,u⟩:=LK (p:=isA) (a:=k) (b:=B) (λc f=>Eb.mpr (w.2.2 c f)) (aH o)
  unfold Rf
  refine jgg (if_pos rfl) ?_
  rw[show(61::k++B).drop 1=k++B from rfl,t,u,if_pos a]
theorem uZ(a:ns.length<=6)(Z:KindsOk kd km){b:Nat}{s r:List Nat}(h:Rf ns km s=nC (b,r)):∃pl,Wm ns kd b pl/\s=pl++r:=by
 unfold Rf at h
 split at h
 .rename_i g
  split at h
  .rename_i c
   cases h
   refine⟨61::(s.drop 1).takeWhile isA,.inr ⟨_,(Z.iff _ _).mpr ⟨c,rfl⟩,Z.name _ c,rfl⟩,?_⟩
   conv=>lhs;rw[W5 g rfl,IV isA (s.drop 1)]
   rfl
  .cases h
 .obtain⟨d,f,i,e,j,l⟩:=Cp a _ _ _ _ _ (by decide) h
  have:=(Il d 0 (by decide) e).1
  exact⟨_,.inl ⟨d,f,by omega,i,e,j,rfl⟩,l⟩
theorem rR(hn:∀n∈ns,W8 n)(a:ns.Nodup)(Z:KindsOk kd km){b m:Nat}{pl B:List Nat}(h:Wm ns kd b pl)(d:m<=10^9)(c:Qp isF B):O9 ns km (pl++32::102::111::114::32::(Xd (m:Int)++B))=nC (b,m,B):=by
 unfold O9
 rw[oY hn a Z h (ja9 (show Ja 32=vh by decide))]
 refine jgg (if_pos rfl) ?_
 show(match Gp 0 (10^9) (Xd (m:Int)++B)with|none=>su|some (m,q)=>nC (b,m,q))=_
 rw[rY (jcY _) d (by omega) c]
theorem vf(a:ns.length<=6)(Z:KindsOk kd km){b m:Nat}{s r:List Nat}(h:O9 ns km s=nC (b,m,r)):∃pl,Wm ns kd b pl/\m<=10^9/\s=pl++32::102::111::114::32::(Xd (m:Int)++r):=by
 unfold O9 at h
 split at h
 .cases h
 .rename_i l q e
  split at h
  .rename_i g
   split at h
   .cases h
   .rename_i n t c
    cases h
    obtain⟨pl,f,d⟩:=uZ a Z e
    obtain⟨i,o,j,p⟩:=vo c
    refine⟨pl,f,j,?_⟩
    rw[d,W5 g rfl,i];rfl
  .cases h
theorem rW(hn:∀n∈ns,W8 n)(a:ns.Nodup)(Z:KindsOk kd km){c b m:Nat}{pl B:List Nat}(d:1<=c)(e:c<=6)(h:Wm ns kd b pl)(g:m<=10^9)(f:Qp isF B):
 Li ns km (Xd (c:Int)++32::111::102::32::(pl++32::102::111::114::32::(Xd (m:Int)++B)))=nC (c,b,m,B):=by
 unfold Li
 rw[rY d e (by omega) (ja9 (show isF 32=vh by decide))]
 refine jgg (if_pos rfl) ?_
 show(match O9 ns km (pl++32::102::111::114::32::(Xd (m:Int)++B))with|none=>su|some (b,m,q)=>nC (c,b,m,q))=_
 rw[rR hn a Z h g f]
theorem vg(a:ns.length<=6)(Z:KindsOk kd km){c b m:Nat}{s r:List Nat}(h:Li ns km s=nC (c,b,m,r)):∃pl,Wm ns kd b pl/\1<=c/\c<=6/\m<=10^9/\s=Xd (c:Int)++32::111::102::32::(pl++32::102::111::114::32::(Xd (m:Int)++r)):=by
 unfold Li at h
 split at h
 .cases h
 .rename_i t q e
  split at h
  .rename_i g
   split at h
   .cases h
   .rename_i p u w d
    cases h
    obtain⟨pl,j,i,f⟩:=vf a Z d
    obtain⟨l,n,o,v⟩:=vo e
    refine⟨pl,j,n,o,i,?_⟩
    rw[l,W5 g rfl,f];rfl
  .cases h
theorem lq{B:List Nat}(h:Fe B):Qp isF B:=by
 cases B with
 |nil=>trivial
 |cons c B=>
  rcases h with h|h|h
  .simp at h
  .have:c=59:=(jdb (show[c]=[59]from h)).1
   subst this;exact ja9 (by decide)
  .have:c=41:=(jdb (show[c]=[41]from h)).1
   subst this;exact ja9 (by decide)
theorem wN{pl R:List Nat}(f:∀c∈pl,c≠59/\c≠41):¬((pl++32::R).take 7=Vk/\Fe ((pl++32::R).drop 7)):=by
 rintro⟨d,b⟩
 by_cases g:pl.length<=6
 .have:(32:Nat)∈(pl++32::R).take 7:=by
   rw[List.take_append,jdo]
   right
   rw[show 7-pl.length=(6-pl.length)+1 by omega]
   exact U7 ..
  rw[d]at this
  exact absurd this (by decide)
 .rw[jfi (by omega)]at b
  have a:∀c∈pl.drop 7,c≠59/\c≠41:=λc e=>f c (jeu e)
  generalize pl.drop 7=z at b a
  cases z with
  |nil=>
   rcases b with h|h|h
   .simp at h
   .exact absurd (jdb (show[32]=[59]from h)).1 (by decide)
   .exact absurd (jdb (show[32]=[41]from h)).1 (by decide)
  |cons c z=>
   have:=a c (U7 ..)
   rcases b with h|h|h
   .simp at h
   .exact this.1 (jdb (show[c]=[59]from h)).1
   .exact this.2 (jdb (show[c]=[41]from h)).1
theorem je{m:Nat}(h:m<10^10)(B:List Nat):∃c r,Xd (m:Int)++B=c::r/\48<=c/\c<=57:=by
 obtain⟨a,_,b,_⟩:=O7 (m:=(m:Int)) (by omega) (by omega)
 cases q:Xd (m:Int)with
 |nil=>rw[q]at a;simp at a
 |cons c r=>exact⟨c,r++B,rfl,b c (by rw[q];exact U7 ..)⟩
theorem zW{m:Int}(h:GD m):∃n:Nat,m=(n:Int)/\n<=10^9:=by
 obtain⟨n,rfl⟩:=jhA h.lo
 exact⟨n,rfl,by have:=h.hi;omega⟩
theorem jR(hn:∀n∈ns,W8 n)(g:ns.Nodup)(Z:KindsOk kd km){f:Form}{p:List (List Nat)}{B:List Nat}(ok:Wf f)(h:UW ns kd f p)(t:Fe B):RN ns km (Z2 [32] p++B)=nC (f,B):=by
 have u:=lq t
 cases f with
 |none=>
  have h:p=[Vk]:=h
  subst h
  unfold RN
  rw[if_pos ⟨rfl,t⟩];rfl
 |only b m=>
  obtain⟨pl,i,rfl⟩:=h
  obtain⟨n,rfl,o⟩:=zW ok.2.2
  have e:Z2 [32] [pl,PB,Xd (n:Int)]++B=pl++32::102::111::114::32::(Xd (n:Int)++B):=by simp[Z2]
  rw[e]
  have v:=(Lf hn i).1
  have y:=wN (pl:=pl) (R:=102::111::114::32::(Xd (n:Int)++B)) λc j=>by have:=v c j;unfold nO at this;omega
  have A:¬(pl++32::102::111::114::32::(Xd (n:Int)++B)).take 6=[117,112,32,116,111,32]:=λz=>by
   have c:=W5 z rfl
   obtain⟨_,q⟩:=Dl (c:=32) (a:=pl) (a':=[117,112]) (b':=116::111::32::(pl++32::102::111::114::32::(Xd (n:Int)++B)).drop 6) (λz=>by have:=v 32 z;unfold nO at this;omega) (by decide) c
   exact absurd (jdb q).1 (by decide)
  obtain⟨c,r,x,j⟩:=Ca hn i
  have C:¬jaH (pl++32::102::111::114::32::(Xd (n:Int)++B))=qm:=by
   rw[x]
   show¬isF c=qm
   rw[Kr]
   rcases j with j|j
   .have:=Eb.mp j;omega
   .omega
  unfold RN
  rw[if_neg y,if_neg A,if_neg C,rR hn g Z i o u]
 |some b l m=>
  obtain⟨pl,i,rfl⟩:=h
  obtain⟨n,rfl,o⟩:=zW ok.2.2.2.2
  have e:Z2 [32] [Xd (l:Nat),tV,pl,PB,Xd (n:Int)]++B=Xd (l:Int)++32::111::102::32::(pl++32::102::111::114::32::(Xd (n:Int)++B)):=by simp[Z2]
  rw[e]
  have F:=ok.2.2.2.1
  obtain⟨c,r,w,D,E⟩:=je (m:=l) (by omega) (32::111::102::32::(pl++32::102::111::114::32::(Xd (n:Int)++B)))
  have d:=rW (B:=B) hn g Z ok.2.2.1 F i o u
  rw[w]at d|-
  unfold RN
  rw[if_neg (λz=>by have:c=110:=(jdb z.1).1;omega),if_neg (λz=>by have:c=117:=(jdb z).1;omega),if_pos (show jaH (c::r)=qm from Kr.mpr ⟨D,E⟩),d]
 |most b l m=>
  obtain⟨pl,i,rfl⟩:=h
  obtain⟨n,rfl,o⟩:=zW ok.2.2.2.2
  have e:Z2 [32] [bh,bf,Xd (l:Nat),tV,pl,PB,Xd (n:Int),G8]++B=117::112::32::116::111::32::(Xd (l:Int)++32::111::102::32::(pl++32::102::111::114::32::(Xd (n:Int)++32::101::97::99::104::B))):=by simp[Z2]
  rw[e]
  have d:=rW (B:=32::101::97::99::104::B) hn g Z ok.2.2.1 ok.2.2.2.1 i o (ja9 (show isF 32=vh by decide))
  unfold RN
  rw[if_neg (λz=>absurd (jdb z.1).1 (by decide))]
  refine jgg (if_pos rfl) ?_
  show(match Li ns km (Xd (l:Int)++32::111::102::32::(pl++32::102::111::114::32::(Xd (n:Int)++32::101::97::99::104::B)))with|none=>su|some (c,b,m,r)=>if r.take 5=[32,101,97,99,104]then nC (Form.most b c (m:Int),r.drop 5)else su)=_
  rw[d]
  exact jgg (if_pos rfl) rfl
theorem zy(a:ns.length<=6)(Z:KindsOk kd km){f:Form}{s r:List Nat}(h:RN ns km s=nC (f,r)):Wf f/\∃u,UW ns kd f u/\s=Z2 [32] u++r:=by
 unfold RN at h
 split at h
 .rename_i g
  cases h
  exact⟨trivial,_,rfl,W5 g.1 rfl⟩
 split at h
 .rename_i g
  split at h
  .cases h
  .rename_i c b m q e
   split at h
   .rename_i v
    cases h
    obtain⟨n,d,o,p,t,l⟩:=vg a Z e
    obtain⟨i,j⟩:=Q8 Z d
    refine⟨⟨i,j,o,p,by omega,by omega⟩,_,⟨n,d,rfl⟩,?_⟩
    conv=>lhs;rw[W5 g rfl,l,W5 v rfl]
    simp[Z2]
   .cases h
 split at h
 .split at h
  .cases h
  .rename_i c b m q e
   cases h
   obtain⟨n,d,o,p,t,l⟩:=vg a Z e
   obtain⟨i,j⟩:=Q8 Z d
   refine⟨⟨i,j,o,p,by omega,by omega⟩,_,⟨n,d,rfl⟩,?_⟩
   rw[l]
   simp[Z2]
 .split at h
  .cases h
  .rename_i b m q e
   cases h
   obtain⟨n,d,t,l⟩:=vf a Z e
   obtain⟨i,j⟩:=Q8 Z d
   refine⟨⟨i,j,by omega,by omega⟩,_,⟨n,d,rfl⟩,?_⟩
   rw[l]
   simp[Z2]
theorem Ks(hn:∀n∈ns,W8 n){f:Form}{a:List (List Nat)}(h:UW ns kd f a):5<=(Z2 [32] a).length:=by
 cases f with
 |none=>
  have h:a=[Vk]:=h
  subst h;decide
 |only b m=>obtain⟨d,c,rfl⟩:=h;simp[Z2]<;>omega
 |some k l m=>obtain⟨d,c,rfl⟩:=h;simp[Z2]<;>omega
 |most k l m=>obtain⟨d,c,rfl⟩:=h;simp[Z2]<;>omega
theorem qz(any:Bool):WQ any=w3 any++[40]:=by cases any<;>rfl
theorem pR(hn:∀n∈ns,W8 n){f:Form}{ws:List (List Nat)}(ok:Wf f)(h:UW ns kd f ws):¬(Z2 [32] ws).take 1=[41]:=by
 intro z
 have l:=Ks hn h
 have:(41:Nat)∈Z2 [32] ws:=jd1 (by rw[z];exact U7 ..)
 exact(O4 (Kf hn ok h).1 41 this).2.1 rfl
theorem zN(hn:∀n∈ns,W8 n){d:Nat}{t:Tr}{x:List Nat}(h:YS ns kd d t x)(B:List Nat):¬(x++B).take 1=[41]:=by
 cases d with
 |zero=>exact h.elim
 |succ d=>
  cases t with
  |leaf f=>
   obtain⟨ok,b,hw,rfl⟩:=h
   have:=pR hn ok hw
   have l:=Ks hn hw
   rw[jgD (by omega)];exact this
  |node any a=>
   obtain⟨c,_,rfl⟩:=h
   cases any<;>(intro z;exact absurd (jdb z).1 (by decide))
theorem vm{g:List Nat->Option (Tr×List Nat)}{d:Nat}(b:∀t x B,YS ns kd d t x->Fe B->g (x++B)=nC (t,B))(B:List Nat):∀(ts:List Tr)(xs:List (List Nat))(n:Nat)(a:List Tr),Xb (λy t=>YS ns kd d t y) xs ts->xs≠[]->xs.length<=n->
 SN g n a (Z2 [59,32] xs++41::B)=nC (a++ts,B)
 |[],xs,_,_,h,h0,_=>absurd (jdl.mp h.1) h0
 |t::ts,[],_,_,_,h0,_=>absurd rfl h0
 |t::ts,x::xs,0,_,_,_,h=>absurd h (by simp)
 |t::ts,x::xs,n+1,a,h,_,hl=>by
  have c:=h.2 0 x t rfl rfl
  have f:Xb (λy t=>YS ns kd d t y) xs ts:=⟨jeW h.1,λi y u j l=>h.2 (i+1) y u j l⟩
  cases xs with
  |nil=>
   have:ts=[]:=jdl.mp f.1.symm
   subst this
   show SN g (n+1) a (x++41::B)=_
   unfold SN
   rw[b t x (41::B) c (.inr (.inr rfl))]
   exact jgg (if_pos rfl) rfl
  |cons y xs=>
   have e:Z2 [59,32] (x::y::xs)++41::B=x++59::32::(Z2 [59,32] (y::xs)++41::B):=by
    show(x++[59,32]++Z2 [59,32] (y::xs))++41::B=_
    simp
   rw[e]
   unfold SN
   rw[b t x _ c (.inr (.inl rfl))]
   refine jgg (if_neg (λz=>absurd (jdb z).1 (by decide))) ?_
   refine jgg (if_pos rfl) ?_
   have:=vm b B ts (y::xs) n (a++[t]) f (by simp) (by simp at hl|-;omega)
   rw[jdu]at this
   exact this
theorem zu{g:List Nat->Option (Tr×List Nat)}{d:Nat}(c:∀t s r,g s=nC (t,r)->∃x,YS ns kd d t x/\s=x++r):∀(n:Nat)(a:List Tr)(s:List Nat)(ts:List Tr)(r:List Nat),SN g n a s=nC (ts,r)->
 ∃(us:List Tr)(xs:List (List Nat)),ts=a++us/\xs≠[]/\Xb (λy t=>YS ns kd d t y) xs us/\s=Z2 [59,32] xs++41::r
 |0,_,_,_,_,h=>by cases h
 |n+1,a,s,ts,r,h=>by
  unfold SN at h
  split at h
  .cases h
  .rename_i t q e
   obtain⟨x,f,b⟩:=c t s q e
   split at h
   .rename_i l
    cases h
    refine⟨[t],[x],rfl,by simp,Xb.one f,?_⟩
    conv=>lhs;rw[b,W5 l rfl]
    rfl
   .split at h
    .rename_i m
     obtain⟨us,xs,i,o,p,j⟩:=zu c n _ _ _ _ h
     refine⟨[t]++us,[x]++xs,by rw[i,jdu],by simp,Xb.append (R:=λy t=>YS ns kd d t y) (Xb.one f) p,?_⟩
     cases xs with
     |nil=>exact absurd rfl o
     |cons y xs=>
      conv=>lhs;rw[b,W5 m rfl,j]
      show _=(x++[59,32]++Z2 [59,32] (y::xs))++41::r
      simp
    .cases h
theorem rT(hn:∀n∈ns,W8 n)(g:ns.Nodup)(Z:KindsOk kd km):∀(d:Nat)(t:Tr)(x B:List Nat),YS ns kd d t x->Fe B->Rc ns km d (x++B)=nC (t,B)
 |0,_,_,_,h,_=>h.elim
 |d+1,.leaf f,x,B,h,i=>by
  obtain⟨ok,p,hw,rfl⟩:=h
  have l:=Ks hn hw
  have G:=O4 (Kf hn ok hw).1
  have o:¬(((Z2 [32] p++B).drop 3).take 1=[40]/\((Z2 [32] p++B).take 3=w3 qm\/(Z2 [32] p++B).take 3=w3 vh)):=λz=>by
   have z:=z.1
   rw[jfi (by omega),jgD (by rw[jcG];omega)]at z
   exact(G 40 (jeu (jd1 (by rw[z];exact U7 ..)))).1 rfl
  unfold Rc
  rw[if_neg o,jR hn g Z ok hw i]
 |d+1,.node any j,x,B,h,i=>by
  obtain⟨b,c,rfl⟩:=h
  have e:WQ any++Z2 [59,32] b++[41]++B=w3 any++40::(Z2 [59,32] b++41::B):=by rw[qz];simp
  have A:(w3 any).length=3:=by cases any<;>rfl
  have H:(w3 any++40::(Z2 [59,32] b++41::B)).take 3=w3 any:=by rw[<-A,jg7]
  have q:(w3 any++40::(Z2 [59,32] b++41::B)).drop 3=40::(Z2 [59,32] b++41::B):=by rw[<-A,jff]
  have v:(w3 any++40::(Z2 [59,32] b++41::B)).drop 4=Z2 [59,32] b++41::B:=by
   rw[show(4:Nat)=3+1 from rfl,<-jcR,q];rfl
  have C:(w3 any++40::(Z2 [59,32] b++41::B)).drop 5=(Z2 [59,32] b++41::B).drop 1:=by
   rw[show(5:Nat)=4+1 from rfl,<-jcR,v]
  have D:decide (w3 any=w3 qm)=any:=by cases any<;>decide
  rw[e]
  unfold Rc
  rw[q,v,C,H,if_pos ⟨rfl,by cases any<;>simp⟩,D]
  cases b with
  |nil=>
   have:j=[]:=jdl.mp c.1.symm
   subst this
   exact jgg (if_pos rfl) rfl
  |cons y b=>
   have o:¬(Z2 [59,32] (y::b)++41::B).take 1=[41]:=by
    cases j with
    |nil=>exact absurd c.1 (by simp)
    |cons u j=>
     have w:=c.2 0 y u rfl rfl
     cases b with
     |nil=>exact zN hn w _
     |cons z b=>
      have:Z2 [59,32] (y::z::b)++41::B=y++(59::32::(Z2 [59,32] (z::b)++41::B)):=by
       show(y++[59,32]++Z2 [59,32] (z::b))++41::B=_
       simp
      rw[this];exact zN hn w _
   rw[if_neg o]
   have E:(y::b).length<=(Z2 [59,32] (y::b)).length+1:=by
    have m:∀(r:List (List Nat))(y:List Nat),(y::r).length<=(Z2 [59,32] (y::r)).length+1:=by
     intro r
     induction r with
     |nil=>intro y;exact jh7 1 _
     |cons z r F=>
      intro y
      have:=F z
      show(z::r).length+1<=(y++[59,32]++Z2 [59,32] (z::r)).length+1
      rw[O1,O1]
      have I:([59,32]:List Nat).length=2:=rfl
      omega
    exact m b y
   rw[vm (λt x B c i=>rT hn g Z d t x B c i) B j (y::b) _ [] c (by simp) (by
    rw[O1,jc7 (a:=40),O1 (as:=Z2 [59,32] (y::b))];omega)]
   rfl
theorem Cm(a:ns.length<=6)(Z:KindsOk kd km):∀(d:Nat)(t:Tr)(s r:List Nat),Rc ns km d s=nC (t,r)->∃x,YS ns kd d t x/\s=x++r
 |0,_,_,_,h=>by cases h
 |d+1,t,s,r,h=>by
  unfold Rc at h
  split at h
  .rename_i g
   have i:s=WQ (decide (s.take 3=w3 qm))++s.drop 4:=by
    have m:s.take 3=w3 (decide (s.take 3=w3 qm)):=by
     rcases g.2 with q|q<;>rw[q]<;>rfl
    have v:∀any,(w3 any).length=3:=λany=>by cases any<;>rfl
    have j:=W5 m (v _)
    have b:=W5 g.1 rfl
    rw[jcR]at b
    conv=>lhs;rw[j,b]
    rw[qz];simp
   generalize decide (s.take 3=w3 qm)=any at h i
   split at h
   .rename_i o
    cases h
    refine⟨_,⟨[],Xb.nil,rfl⟩,?_⟩
    have b:=W5 o rfl
    rw[jcR]at b
    conv=>lhs;rw[i,b]
    show _=WQ any++[]++[41]++s.drop 5
    simp
   .split at h
    .cases h
    .rename_i w q e
     cases h
     obtain⟨us,z,c,A,p,l⟩:=zu (λt s r u=>Cm a Z d t s r u) _ _ _ _ _ e
     have c:w=us:=by rw[c];rfl
     subst c
     refine⟨_,⟨z,p,rfl⟩,?_⟩
     conv=>lhs;rw[i,l]
     simp
  .split at h
   .cases h
   .rename_i f q e
    cases h
    obtain⟨ok,y,hw,n⟩:=zy a Z e
    exact⟨_,⟨ok,y,hw,rfl⟩,n⟩
theorem Lh(hn:∀n∈ns,W8 n)(b:ns.Nodup)(a:ns.length<=6)(Z:KindsOk kd km){d:Nat}{t:Tr}{x:List Nat}:Rc ns km d x=nC (t,[])↔YS ns kd d t x:=by
 constructor
 .intro h
  obtain⟨y,c,e⟩:=Cm a Z d t x [] h
  rw[jdA]at e
  rw[e];exact c
 .intro h
  have:=rT hn b Z d t x [] h (.inl rfl)
  rw[jdA]at this
  exact this
end
end L2
namespace My
open PySem PySem.Spec PyProof.Rows L2 GM
noncomputable def yh (w:List Nat):Bool:=Nx w&&w.all isF
noncomputable def Vo (Zt ZG Zo Zu:pA) (H:Hp) (E:XK):Prop:=Throws Zt H E/\Throws ZG H E/\Throws Zo H E/\Throws Zu H E
theorem Vo.same{Zt ZG Zo Zu:pA}{H H':Hp}{E:XK}(S:Z5 H H')(h:Vo Zt ZG Zo Zu H E):Vo Zt ZG Zo Zu H' E:=⟨h.1.same S,h.2.1.same S,h.2.2.1.same S,h.2.2.2.same S⟩
noncomputable def Rk (d:oh):Sp:=λb H Q _=>∃l:List Nat,b=[.str (tx l)]/\(∀c∈l,c<128)/\l.length<=2000/\∀a,Z5 H a->Q (.bl (yh l)) a
noncomputable def Sq (b:oh) (Zt ZG Zo Zu:pA):Sp:=λa H Q E=>∃l:List Nat,a=[.str (tx l)]/\(∀c∈l,c<128)/\l.length<=2000/\yh l=vh/\Vo Zt ZG Zo Zu H E
noncomputable def Vy (b:oh) (Zt ZG Zo Zu:pA):Sp:=λa H Q E=>∃i:Int,a=[.int i]/\¬(0<=i/\i<=10^9)/\Vo Zt ZG Zo Zu H E
noncomputable def Ux (b:oh) (Zt ZG Zo Zu:pA):Sp:=λa H Q E=>∃i:Int,a=[.int i]/\¬(1<=i/\i<=6)/\Vo Zt ZG Zo Zu H E
noncomputable def Bb (e:oh) (c Zt ZG Zo Zu:pA):Sp:=λd H Q E=>∃(a:pA)(b:Nat)(m:Int),d=[.ref a,nv b,.int m]/\1<=b/\b<=63/\¬(0<=m/\m<=10^9)/\Vo Zt ZG Zo Zu H E
noncomputable def Nk (e:oh) (c Zt ZG Zo Zu:pA):Sp:=λd H Q E=>∃(a:pA)(b:Nat)(l m:Int),d=[.ref a,nv b,.int l,.int m]/\1<=b/\b<=63/\¬((1<=l/\l<=6)/\0<=m/\m<=10^9)/\Vo Zt ZG Zo Zu H E
noncomputable def VN (f:oh) (c Zt ZG Zo Zu:pA):Sp:=λe H Q E=>∃(a:pA)(b d:List (List Nat))(l:List Nat),e=[.ref a,sv l]/\Yu c H a b d/\asc l=qm/\l.length<=3000/\l∉b/\Vo Zt ZG Zo Zu H E
noncomputable def Uw (f:oh) (c Zt ZG Zo Zu:pA):Sp:=λe H Q E=>∃(a:pA)(d b:List (List Nat))(l:List Nat),e=[.ref a,sv l]/\Yu c H a d b/\asc l=qm/\l.length<=3000/\l∉b/\Vo Zt ZG Zo Zu H E
noncomputable def NT (K:oh) (Zt ZG Zo Zu:pA):Sp:=λb H Q E=>∃(p:pA)(a:List Nat),b=[.ref p]/\Yy K H p (a.map nv)/\(∀j∈a,j<6)/\once 0 a=vh/\Vo Zt ZG Zo Zu H E
theorem cA{lo b i:Int}(h:¬(lo<=i/\i<=b)):(decide (lo<=i)&&decide (i<=b))=vh:=by
 rw[Bool.and_eq_false_iff,decide_eq_false_iff_not,decide_eq_false_iff_not]
 by_cases a:lo<=i
 .exact .inr λz=>h ⟨a,z⟩
 .exact .inl a
section
variable{P:jcz}{w:jcS}{K:oh}{mg:Str->Option pL}{base:jcX}
variable{Zz Zw Zi Zv Zm Zq Zr Zn Zt ZG Zo Zu:pA}
theorem HS{f:pA}{M:jaF}(F:Xl K "is_figures" "is_figures" Sh f M)(B:mg "is_figures"=nC (.ref f))(y:mg "all"=su)(o:mg "len"=su):Z3 P w K mg base 1 "is_figures" ["word"] [] (Rk K):=by
 refine F.Yp B (RV F λ_ _ _ _ _ _ _=>rfl) Fv (λU H Q E h=>?_) (λD A n s H U Q E X h=>?_)
 .obtain⟨l,rfl,_⟩:=h;rfl
 obtain⟨l,rfl,O,W,q⟩:=h
 refine⟨_,(Zd (ZR (Tg (XN (YF (Ep zj zj Zc (Yw YL rfl o jcN (Za (Ze 0) Zb)) Zc)) (Xn (YF (Yg (Yw (Hq rfl) rfl y (boot_all) (Za (XH (ZJ Sh) ["word"] ["sign"] [] [] rfl rfl rfl ⟨s.heap.objs.size+1,rfl⟩ rfl rfl (by decide+kernel) (xH (Ze 0)) (λC a H2 r=>(Ym (i:=0) (show jdM (["sign"]:List Str)from by decide+kernel) rfl (jbI rfl))) (λC a H2 r=>Wu) (λC a H2 r=>(Ji Ky Ky Zf (Ze 0) Zf))) Zb))))))) (Zh (ZC TQ)) ZF)
  (Zh (ZC (sI (PP Xv (Yw YL rfl o jcN (Za (Ze 0) Zb)) Zc (Yb _)) (RJ (JT (V8 (Ze 0) Zf))))))),?_⟩
 have G:((tx l).length:Int)=(l.length:Int):=by rw[Yo]
 have d:Nx l=vh->∀H',Z5 H H'->Q (.bl vh) H':=λz H' s=>by have:=q H' s;unfold yh at this;rw[z]at this;exact this
 refine⟨_,rfl,tx l,rfl,uD (by omega),1,_,rfl,rfl,_,rfl,?_⟩
 by_cases u:1<=l.length
 .rw[decide_eq_true (show(1:Int)<=((tx l).length:Int)by omega)]
  refine Ys ⟨_,_,rfl,rfl,_,rfl,?_⟩
  by_cases v:l.length<=10
  .rw[decide_eq_true (show((tx l).length:Int)<=10 by omega)]
   refine Yn ?_
   refine⟨_,rfl,l,rfl,jcV.mpr λc R=>decide_eq_true (O c R),λp S=>?_⟩
   refine J0 l (λ_=>qm) (λc=>.bl (isF c)) (by omega) S (λx T H2 a C k=>k H2 (Z5.refl _)) (λx T _ H2 a C k=>?_) (λH2 a I=>?_)
   .have m:(jh "0").cps.toList=[48]:=by decide
    have L:(jh "9").cps.toList=[57]:=by decide
    refine⟨_,rfl,_,_,rfl,rfl,_,rfl,?_⟩
    rw[Wd,m,yE]
    have z:=k H2 (Z5.refl _)
    unfold isF at z
    by_cases t:48<=x
    .rw[decide_eq_false (show¬x<48 by omega)]
     refine Ys ⟨_,_,rfl,rfl,?_⟩
     rw[Wd,L,yE]
     rw[decide_eq_true t,jea]at z
     rw[show(!decide (57<x))=decide (x<=57)by by_cases N:x<=57<;>simp[N]<;>omega]
     exact z
    .rw[decide_eq_true (show x<48 by omega)]
     rw[decide_eq_false t,jeI]at z
     exact Yn z
   .have J:H2 p=nC (.lst ((l.map isF).map V.bl)):=by rw[I,jfb.mpr (λ_ _=>rfl),jdq];rfl
    refine⟨p,_,rfl,Yy.of J,?_⟩
    have m:(l.map isF).all id=l.all isF:=by rw[jjc];rfl
    rw[m]
    cases hf:l.all isF with
    |false=>
     refine⟨_,rfl,Ys ?_⟩
     have:=q H2 a
     unfold yh at this
     rw[hf,Bool.and_false]at this
     exact this
    |true=>
     refine⟨_,rfl,Yn ?_⟩
     have g:∀b,b=(decide (l.length=1)||!decide (l.take 1=[48]))->Q (.bl b) H2:=λb e=>by
      have:=q H2 a
      unfold yh Nx at this
      rw[hf,Bool.and_true,decide_eq_true u,decide_eq_true v,jea,jea,<-e]at this
      exact this
     refine⟨_,rfl,tx l,rfl,uD (by omega),rfl,_,rfl,QQ (λc=>?_) (λc=>?_)⟩
     .have j:l.length=1:=by have:=V.int.inj (of_decide_eq_true c);omega
      exact g qm (by rw[decide_eq_true j];rfl)
     .have j:¬l.length=1:=λz=>c (decide_eq_true (by rw[G,z];rfl))
      refine⟨_,rfl,_,rfl,_,rfl,?_⟩
      rw[show jh "0"=tx [48]from rfl,Ql]
      refine⟨_,rfl,g _ ?_⟩
      rw[decide_eq_false j,Bool.false_or]
      exact congrArg (λb=>!b) (by rw[jeb];simp)
  .rw[decide_eq_false (show¬((tx l).length:Int)<=10 by omega)]
   refine Ys ?_
   exact d (by unfold Nx;rw[decide_eq_false v];simp) H (Z5.refl _)
 .rw[decide_eq_false (show¬(1:Int)<=((tx l).length:Int)by omega)]
  refine Yn ⟨_,rfl,Ys ?_⟩
  exact d (by unfold Nx;rw[decide_eq_false u];simp) H (Z5.refl _)
theorem bU(D:Z3 P w K mg base 1 "is_figures" ["word"] [] (Rk K)):Z3 P w K mg base 1 "is_figures" ["word"] [] (N7 K):=by
 obtain⟨f,n,g,F,r⟩:=D.ex
 refine⟨f,n,g,F.imp λt H Q E h=>?_,r⟩
 obtain⟨m,rfl,o,p,q⟩:=h
 obtain⟨i,j,b,l⟩:=O7 o p
 refine⟨Xd m,by rw[T6],λc a=>by have:=b c a;omega,by omega,λd s=>?_⟩
 have e:yh (Xd m)=qm:=by
  unfold yh isF
  rw[Kq.mpr ⟨i,j,l⟩,jea,jcV]
  exactλc a=>by rw[decide_eq_true (b c a).1,decide_eq_true (b c a).2];rfl
 rw[e];exact q d s
theorem Ih{f:pA}{n:jaF}(F:Xl K "number_told" "number_told" U5 f n)(j:mg "number_told"=nC (.ref f))(g:mg "int"=su)(i:Z3 P w K mg base 1 "is_figures" ["word"] [] (Rk K))(b:jf1 "NoText" Zt Bp "ValueError.__new__" mg base):
 X3 cN P w K mg base 2 "number_told" ["word"] (Sq K Zt ZG Zo Zu):=by
 refine F.Nv j (RV F λ_ _ _ _ _ _ _=>rfl) Od (λx H Q E h=>?_) (λm A d s H x Q E t h=>?_)
 .obtain⟨l,rfl,_⟩:=h;rfl
 obtain⟨l,rfl,o,r,q,v⟩:=h
 refine⟨_,(Zd (ZR (YF (Yg (Zx i t (by first|decide|omega) rfl (Za (Ze 0) Zb)))) (Zh (Xe (c:=cN) (E:=E) rfl jcL b rfl rfl rfl (Za Zf Zb) rfl rfl rfl (λ_ _ z=>z))) ZF)
  (Zh (ZC (Vf T3 rfl g (jig) (Za (Ze 0) Zb))))),?_⟩
 refine⟨_,rfl,l,rfl,o,r,λe u=>⟨_,rfl,?_⟩⟩
 rw[q]
 exact Ys ⟨(by show 1<=qd;decide),λa p=>v.1 e a u p⟩
theorem Js{f:pA}{l:jaF}(F:Xl K "check_amount" "check_amount" Up f l)(g:mg "check_amount"=nC (.ref f))(e:Z3 P w K mg base 2 "is_within" ["thing","least","most"] [] (X6 K))(b:jf1 "NoBid" ZG Bp "ValueError.__new__" mg base):
 X3 cN P w K mg base 3 "check_amount" ["amount"] (Vy K Zt ZG Zo Zu):=by
 refine F.Nv g (RV F λ_ _ _ _ _ _ _=>rfl) Pg (λq H Q E h=>?_) (λj A d s H q Q E o h=>?_)
 .obtain⟨i,rfl,_⟩:=h;rfl
 obtain⟨i,rfl,n,p⟩:=h
 refine⟨_,(Zh (ZR (YF (Yg (Zx e o (by first|decide|omega) rfl (Za (Ze 0) (Za Zc (Za (Zg Gf Zc Zc) Zb)))))) (Zh (Xe (c:=cN) (E:=E) rfl jcL b rfl rfl rfl (Za Zf Zb) rfl rfl rfl (λ_ _ z=>z))) ZF)),?_⟩
 refine⟨_,rfl,_,_,rfl,rfl,⟨by decide,by decide,by decide⟩,_,0,10^9,rfl,.inr ⟨_,rfl,_,rfl,?_⟩⟩
 rw[cA n]
 exact Ys ⟨(by show 1<=qd;decide),λa m=>p.2.1 H a (Z5.refl _) m⟩
theorem KZ{f:pA}{l:jaF}(F:Xl K "check_so_many" "check_so_many" V4 f l)(g:mg "check_so_many"=nC (.ref f))(e:Z3 P w K mg base 2 "is_within" ["thing","least","most"] [] (X6 K))(b:jf1 "NoBid" ZG Bp "ValueError.__new__" mg base):
 X3 cN P w K mg base 3 "check_so_many" ["number"] (Ux K Zt ZG Zo Zu):=by
 refine F.Nv g (RV F λ_ _ _ _ _ _ _=>rfl) QH (λq H Q E h=>?_) (λj A d s H q Q E o h=>?_)
 .obtain⟨i,rfl,_⟩:=h;rfl
 obtain⟨i,rfl,n,p⟩:=h
 refine⟨_,(Zh (ZR (YF (Yg (Zx e o (by first|decide|omega) rfl (Za (Ze 0) (Za Zc (Za Zc Zb)))))) (Zh (Xe (c:=cN) (E:=E) rfl jcL b rfl rfl rfl (Za Zf Zb) rfl rfl rfl (λ_ _ z=>z))) ZF)),?_⟩
 refine⟨_,rfl,_,1,6,rfl,.inr ⟨_,rfl,_,rfl,?_⟩⟩
 rw[cA n]
 exact Ys ⟨(by show 1<=qd;decide),λa m=>p.2.1 H a (Z5.refl _) m⟩
theorem KQ{f:pA}{l:jaF}(F:Xl K "__init__" "Only.__init__" VV f l)(i:Z3 P w K mg base 3 "check_bundle" ["bundle"] [] (Xp K))
 (d:X3 cN P w K mg base 3 "check_amount" ["amount"] (Vy K Zt ZG Zo Zu)):Hi cN P w K mg base 4 f ["self","bundle","amount"] (Bb K Zw Zt ZG Zo Zu):=by
 refine F.uM (Bq F λ_ _ _ _ _ _ _ _ _=>rfl) Qx (λp H Q E h=>?_) (λj A e s H p Q E g h=>?_)
 .obtain⟨a,b,m,rfl,_⟩:=h;rfl
 obtain⟨a,b,m,rfl,q,r,n,o⟩:=h
 refine⟨_,(Zd (Yx (Zx i g (by first|decide|omega) rfl (Za (Ze 1) Zb)))
  (Zd (Yx (YB (c:=cN) (E:=E) d g (by first|decide|omega) rfl (Za (Ze 2) Zb) (WY rfl rfl rfl (λ_ _ z=>z))))
  (Zd (Xj (Ze 0) (Ze 1))
  (Zh (Xj (Ze 0) (Ze 2)))))),?_⟩
 exact⟨_,rfl,b,rfl,by omega,by omega,_,rfl,m,rfl,n,o⟩
theorem Mh{f:pA}{t:jaF}(F:Xl K "number_of" "Stock.number_of" Vc f t)(p:Z3 P w K mg base 1 "is_name" ["thing"] [] (Uq K))
 (O:Own K mg "Bid" Zz [])
 (U:Own K mg "Only" Zw ["bundle","amount"])
 (W:Own K mg "SoMany" Zi ["kind","least","amount"])
 (T:Own K mg "UpTo" Zv ["kind","most","each"])
 (X:Own K mg "Several" Zm ["bids"])
 (R:Own K mg "AnyOf" Zq ["bids"])
 (S:Own K mg "OneOf" Zr ["bids"])
 (n:Own K mg "Stock" Zn ["numbers","kinds"])(d:nQ P w K mg base 1 "NoName" Zu "name"):
 Hi cN P w K mg base 3 f ["self","name"] (VN K Zn Zt ZG Zo Zu):=by
 refine F.uM (VF F λ_ _ _ _ _ _ _ _=>rfl) RQ (λN H Q E h=>?_) (λq A m s H N Q E g h=>?_)
 .obtain⟨a,j,G,l,rfl,_⟩:=h;rfl
 obtain⟨a,j,G,l,rfl,⟨o,i,r,kk,u,v,Y,Z,hl,y⟩,x,D,B,M⟩:=h
 refine⟨_,(Zd (ZR (Tg (XN (YF (Yg (Zx p g (by first|decide|omega) rfl (Za (Ze 1) Zb)))) (Xn (ZK (Kv g.units) (Ze 1) (Y7 K (Ze 0)) (by with_unfolding_all rfl))))) (Zh (JW (c:=cN) (E:=E) rfl d g (by first|decide|omega) rfl rfl (Za (Ze 1) Zb) rfl rfl rfl (λ_ _ z=>z))) ZF)
  (Zh (ZC (Kh g.units (Y7 K (Ze 0)) (Ze 1))))),?_⟩
 have go:∀H1,Z5 H H1->IW Zu E "name" (Uu (dG 1) JK) {nx:=λ_ _=>False,rt:=λ_ _=>False} [nC (.ref a),nC (sv l)] H1:=λH1 e=>⟨_,rfl,sv l,rfl,λb o I J L=>M.2.2.2 _ b (e.trans (Zk J _)) (by rw[ZX (jdh L)];exact I)⟩
 refine⟨_,rfl,_,rfl,.inl ⟨l,rfl,x,D,λH1 e=>?_⟩⟩
 cases hno:YX l with
 |false=>exact⟨_,rfl,Ys (go H1 e)⟩
 |true=>
  have C:UV (numsOf j) (QJ l)=su:=HR j l y.2.2.1 B
  refine⟨_,rfl,Yn ?_⟩
  refine⟨_,rfl,_,rfl,a,Zn,o,_,.ref i,rfl,e _ _ u,n.cls,n.no _ (by simp),Qt i r,⟨i,_,rfl,Om.k (k:=QJ l) (e _ _ v),?_⟩⟩
  rw[C]
  exact⟨_,rfl,Ys (go H1 e)⟩
theorem KR{f:pA}{r:jaF}(F:Xl K "kind_of" "Stock.kind_of" V2 f r)(o:Z3 P w K mg base 1 "is_name" ["thing"] [] (Uq K))
 (R:Own K mg "Bid" Zz [])
 (W:Own K mg "Only" Zw ["bundle","amount"])
 (X:Own K mg "SoMany" Zi ["kind","least","amount"])
 (U:Own K mg "UpTo" Zv ["kind","most","each"])
 (Y:Own K mg "Several" Zm ["bids"])
 (S:Own K mg "AnyOf" Zq ["bids"])
 (T:Own K mg "OneOf" Zr ["bids"])
 (m:Own K mg "Stock" Zn ["numbers","kinds"])(d:nQ P w K mg base 1 "NoName" Zu "name"):
 Hi cN P w K mg base 3 f ["self","kind"] (Uw K Zn Zt ZG Zo Zu):=by
 refine F.uM (VF F λ_ _ _ _ _ _ _ _=>rfl) QB (λO H Q E h=>?_) (λp A j s H O Q E g h=>?_)
 .obtain⟨a,M,G,l,rfl,_⟩:=h;rfl
 obtain⟨a,M,G,l,rfl,⟨n,q,i,D,t,Z,u,x,hl,hg⟩,v,C,y,N⟩:=h
 refine⟨_,(Zd (ZR (Tg (XN (YF (Yg (Zx o g (by first|decide|omega) rfl (Za (Ze 1) Zb)))) (Xn (ZK (Kv g.units) (Ze 1) (Y7 K (Ze 0)) (by with_unfolding_all rfl))))) (Zh (JW (c:=cN) (E:=E) rfl d g (by first|decide|omega) rfl rfl (Za (Ze 1) Zb) rfl rfl rfl (λ_ _ z=>z))) ZF)
  (Zh (ZC (Kh g.units (Y7 K (Ze 0)) (Ze 1))))),?_⟩
 have go:∀H1,Z5 H H1->IW Zu E "name" (Uu (dG 1) JK) {nx:=λ_ _=>False,rt:=λ_ _=>False} [nC (.ref a),nC (sv l)] H1:=λH1 e=>⟨_,rfl,sv l,rfl,λb n I J L=>N.2.2.2 _ b (e.trans (Zk J _)) (by rw[ZX (jdh L)];exact I)⟩
 refine⟨_,rfl,_,rfl,.inl ⟨l,rfl,v,C,λH1 e=>?_⟩⟩
 cases hno:YX l with
 |false=>exact⟨_,rfl,Ys (go H1 e)⟩
 |true=>
  have B:UV D (QJ l)=su:=by
   rw[x.2 l,if_neg]
   rw[jc2]
   exact y
  refine⟨_,rfl,Yn ?_⟩
  refine⟨_,rfl,_,rfl,a,Zn,n,_,.ref i,rfl,e _ _ t,m.cls,m.no _ (by simp),Mt q i,⟨i,_,rfl,Om.k (k:=QJ l) (e _ _ u),?_⟩⟩
  rw[B]
  exact⟨_,rfl,Ys (go H1 e)⟩
theorem Fj{f:pA}{J:jaF}(F:Xl K "bundle_of" "bundle_of" Rx f J)(D:mg "bundle_of"=nC (.ref f))(C:Z3 P w K mg base 2 "is_within" ["thing","least","most"] [] (X6 K))(B:Z3 P w K mg base 1 "holds" ["one","other"] [] (Np K))(b:jf1 "NoBundle" Zo Bp "ValueError.__new__" mg base):
 X3 cN P w K mg base 3 "bundle_of" ["numbers"] (NT K Zt ZG Zo Zu):=by
 refine F.Nv D (RV F λ_ _ _ _ _ _ _=>rfl) X4 (λS H Q E h=>?_) (λG A n s H S Q E t h=>?_)
 .obtain⟨p,T,rfl,_⟩:=h;rfl
 obtain⟨p,d,rfl,q,M,O,R⟩:=h
 refine⟨_,(Zd (ZL (i:=1) X4.nd rfl (jbI rfl) Zc)
  (Zd (Uz GZ rfl (Ws (Ze 0)) (Ym (i:=2) X4.nd rfl (jbI rfl)) (Zd (ZR (YF (Yg (Zx C t (by first|decide|omega) rfl (Za (Ze 2) (Za Zc (Za Zc Zb)))))) (Zh (Xe (c:=cN) (E:=E) rfl jcL b rfl rfl rfl (Za Zf Zb) rfl rfl rfl (λ_ _ z=>z))) ZF)
   (Zd (ZR (Yg (Zx B t (by first|decide|omega) rfl (Za (Ze 1) (Za (Zg Qe Zc (Ze 2)) Zb)))) (Zh (Xe (c:=cN) (E:=E) rfl jcL b rfl rfl rfl (Za Zf Zb) rfl rfl rfl (λ_ _ z=>z))) ZF)
   (Zh (ZL (i:=1) X4.nd rfl (jbI rfl) (Zg uT (Ze 1) (Zg Qe Zc (Ze 2))))))))
  (Zh (ZC (Ze 1))))),?_⟩
 refine⟨_,rfl,p,rfl,⟨_,q⟩,?_⟩
 refine J6 (xs:=d.map nv) (λi l e=>e=H/\once (Ew 0 (d.take i)) (d.drop i)=vh/\∃x,l=[nC (.ref p),nC (nv (Ew 0 (d.take i))),x]) ?_ ?_ ?_ ?_
 .exact⟨rfl,O,su,rfl⟩
 .rintro i l e _ ⟨rfl,_⟩;exact q
 .rintro i v l e u ⟨rfl,g,x,rfl⟩
  rw[jcF]at u
  obtain⟨k,j,rfl⟩:=jcT.mp u
  have r:=(jcP.mp j).1
  have y:=M k (jcE j)
  have I:d.drop i=k::d.drop (i+1):=by
   rw[jfO r]
   congr 1
   exact jc8 ((sH r).symm.trans j)
  have o:Ew 0 (d.take (i+1))=Ew 0 (d.take i)|||2^k:=by
   unfold Ew
   rw[jdE,j,jhi];rfl
  rw[I]at g
  refine⟨_,rfl,_,0,5,rfl,.inr ⟨_,rfl,_,rfl,?_⟩⟩
  rw[jaZ y]
  refine Yn ?_
  refine⟨_,rfl,_,rfl,k,rfl,rfl,by omega,_,_,rfl,_,rfl,?_⟩
  by_cases m:Ew 0 (d.take i)&&&2^k=2^k
  .rw[decide_eq_true m]
   exact Ys ⟨(by show 1<=qd;decide),λa N=>R.2.2.1 _ a (Z5.refl _) N⟩
  rw[decide_eq_false m]
  refine Yn ?_
  have L:once (Ew 0 (d.take i)|||2^k) (d.drop (i+1))=vh:=by
   simp only[once,decide_eq_true y,decide_eq_false m,jea,Bool.not_false]at g
   exact g
  refine⟨_,rfl,_,rfl,k,rfl,rfl,by omega,_,_,rfl,rfl,rfl,?_,nC (nv k),?_⟩
  .rw[o];exact L
  .rw[o];rfl
 .rintro l e ⟨rfl,g,x,rfl⟩
  rw[rz,List.drop_length]at g
  cases g
end
end My
namespace L2
open PySem PySem.Spec PyProof.Rows PySem.W Builtin Builtin.Str
theorem split_list(l:List Nat)(c:Nat):∃ps:List (List Nat),jd8 (tx l) (tx [c])=ps.map tx/\ps≠[]/\(∀p∈ps,c∉p)/\Z2 [c] ps=l:=by
 have a:jd8 (tx l) (tx [c])=((jd8 (tx l) (tx [c])).map λq=>q.cps.toList).map tx:=by
  rw[jdq]
  conv=>lhs;rw[<-jjp (jd8 (tx l) (tx [c]))]
  exact jfS λq _=>Ha q
 refine⟨_,a,?_,?_,?_⟩
 .intro e
  exact vC _ _ (jez.mp e)
 .intro p b
  obtain⟨q,d,rfl⟩:=jdT.mp b
  exact jiP (tx l) c q d
 .refine QM ?_
  rw[<-Pn,<-a]
  exact jiQ _ _
noncomputable def pieces (l:List Nat):List (List Nat):=(XJ l l.length).1++[l.drop (XJ l l.length).2.1]
theorem Dq(sep y z:List Nat):∀ps:List (List Nat),Z2 sep (ps++[y++z])=Z2 sep (ps++[y])++z
 |[]=>rfl
 |[x]=>by show x++sep++(y++z)=x++sep++y++z;simp
 |x::x2::ps=>by
  have a:=Dq sep y z (x2::ps)
  show x++sep++Z2 sep ((x2::ps)++[y++z])=x++sep++Z2 sep ((x2::ps)++[y])++z
  rw[a];simp
theorem Ax(sep:List Nat):∀ps:List (List Nat),ps≠[]->Z2 sep (ps++[[]])=Z2 sep ps++sep
 |[],h=>absurd rfl h
 |[x],_=>by show x++sep++[]=x++sep;simp
 |x::x2::ps,_=>by
  have a:=Ax sep (x2::ps) (by simp)
  show x++sep++Z2 sep ((x2::ps)++[[]])=x++sep++Z2 sep (x2::ps)++sep
  rw[a];simp
theorem w5(l:List Nat):∀i,i<=l.length->((XJ l i).2.1<=i/\Z2 [59,32] ((XJ l i).1++[(l.take i).drop (XJ l i).2.1])=l.take i)\/((XJ l i).2.1=i+1/\i<l.length/\l.getD i 0=32/\Z2 [59,32] ((XJ l i).1++[[]])=l.take (i+1))
 |0,_=>.inl ⟨U6 0,rfl⟩
 |i+1,h=>by
  have n:=w5 l i (by omega)
  have v:i<l.length:=by omega
  have m:l[i]?=nC (l.getD i 0):=by rw[jbG,sH v];rfl
  have r:l.take (i+1)=l.take i++[l.getD i 0]:=by rw[jeY,m];rfl
  have step:XJ l (i+1)=VH l i (l.getD i 0) (XJ l i):=rfl
  generalize l.getD i 0=c at m r step n
  generalize XJ l i=y at step n
  obtain⟨a,b,w⟩:=y
  have same:∀t,XJ l (i+1)=(a,b,t)->(b<=i/\Z2 [59,32] (a++[(l.take i).drop b])=l.take i)->((XJ l (i+1)).2.1<=i+1/\Z2 [59,32] ((XJ l (i+1)).1++[(l.take (i+1)).drop (XJ l (i+1)).2.1])=l.take (i+1)):=λt e z=>by
   rw[e]
   refine⟨by show b<=i+1;have:=z.1;omega,?_⟩
   show Z2 [59,32] (a++[(l.take (i+1)).drop b])=_
   rw[r,jfi (by rw[jcB];have:=z.1;omega),Dq,z.2]
  rcases n with z|⟨o,B,u,p⟩
  .by_cases f:c=40
   .exact .inl (same _ (by rw[step];unfold VH;rw[if_pos f]) z)
   by_cases g:c=41
   .exact .inl (same _ (by rw[step];unfold VH;rw[if_neg f,if_pos g]) z)
   by_cases j:w=0/\semi l i=qm
   .have e:XJ l (i+1)=(a++[(l.drop b).take (i-b)],i+2,w):=by rw[step];unfold VH;rw[if_neg f,if_neg g,if_pos j]
    have d:=j.2
    unfold semi at d
    rw[jbE,beq_iff_eq,decide_eq_true_eq]at d
    have A:l.take (i+2)=l.take i++[59,32]:=by
     rw[<-d.1,<-List.take_add]
    right
    rw[e]
    refine⟨rfl,by omega,?_,?_⟩
    .have:(l.drop i)[1]?=nC 32:=by
      have:=congrArg (λz=>z[1]?) d.1
      simp only[jiS]at this
      simpa using this
     rw[jf2]at this
     rw[jbG,this];rfl
    .show Z2 [59,32] ((a++[(l.drop b).take (i-b)])++[[]])=l.take (i+1+1)
     rw[Ax _ _ (by simp),<-List.drop_take,z.2]
     exact A.symm
   .exact .inl (same _ (by rw[step];unfold VH;rw[if_neg f,if_neg g,if_neg j]) z)
  .have o:b=i+1:=o
   have p:Z2 [59,32] (a++[[]])=l.take (i+1):=p
   left
   have x:¬(w=0/\semi l i=qm):=λq=>by
    have d:=q.2
    unfold semi at d
    rw[jbE,beq_iff_eq]at d
    have:=congrArg (λz=>z[0]?) d.1
    simp only[jiS,jf2]at this
    rw[show i+0=i from rfl,m,u]at this
    simp at this
   have e:XJ l (i+1)=(a,b,w):=by rw[step];unfold VH;rw[u,if_neg (by decide),if_neg (by decide),if_neg x]
   rw[e]
   refine⟨by show b<=i+1;omega,?_⟩
   show Z2 [59,32] (a++[(l.take (i+1)).drop b])=_
   rw[o,List.drop_eq_nil_of_le (by rw[jcB];omega)]
   exact p
theorem Ld(l:List Nat):Z2 [59,32] (pieces l)=l/\(XJ l l.length).2.1<=l.length:=by
 rcases w5 l l.length (U6 _)with⟨b,a⟩|⟨_,z,_⟩
 .rw[jc2]at a
  exact⟨a,b⟩
 .omega
theorem oU{xs:List (List Nat)}(h0:xs≠[])(h:∀x∈xs,Piece x):pieces (Z2 [59,32] xs)=xs:=(wX h0 h).2
theorem UG(sep:List Nat):∀(ps:List (List Nat)),∀p∈ps,p.length<=(Z2 sep ps).length
 |[],_,h=>by cases h
 |[x],p,h=>by rw[jc5.mp h];exact U6 _
 |x::y::r,p,h=>by
  show p.length<=(x++sep++Z2 sep (y::r)).length
  rw[O1,O1]
  rcases jbK.mp h with rfl|h
  .omega
  .have:=UG sep (y::r) p h;omega
theorem mem_join{sep:List Nat}{c:Nat}:∀{ps:List (List Nat)}{p:List Nat},p∈ps->c∈p->c∈Z2 sep ps
 |[],_,h,_=>by cases h
 |[x],p,h,hc=>by rw[jc5.mp h]at hc;exact hc
 |x::y::r,p,h,hc=>by
  show c∈x++sep++Z2 sep (y::r)
  rcases jbK.mp h with rfl|h
  .exact jfA _ (jfA _ hc)
  .exact jcZ _ (mem_join h hc)
theorem Jp(sep:List Nat)(a:1<=sep.length):∀ps:List (List Nat),ps.length<=(Z2 sep ps).length+1
 |[]=>jcY _
 |[x]=>jh7 1 _
 |x::y::r=>by
  have b:=Jp sep a (y::r)
  show(y::r).length+1<=(x++sep++Z2 sep (y::r)).length+1
  rw[O1,O1];omega
section
variable{ns:List (List Nat)}{kd:List Nat->Nat->Prop}
theorem Oi(hn:∀n∈ns,W8 n):∀(d:Nat)(t:Tr)(x:List Nat),YS ns kd d t x->5*Yj t<=x.length
 |0,_,_,h=>h.elim
 |d+1,.leaf f,x,h=>by
  obtain⟨ok,p,hw,rfl⟩:=h
  exact Ks hn hw
 |d+1,.node any c,x,h=>by
  obtain⟨e,m,rfl⟩:=h
  have g:∀(c:List Tr)(e:List (List Nat)),Xb (λy t=>YS ns kd d t y) e c->5*Z8 c<=(Z2 [59,32] e).length:=by
   intro c
   induction c with
   |nil=>intro e _;exact jcY _
   |cons t c o=>
    intro e h
    cases e with
    |nil=>exact absurd h.1 (by simp)
    |cons x r=>
     have a:=Oi hn d t x (h.2 0 x t rfl rfl)
     have b:=o r ⟨jeW h.1,λi y u j l=>h.2 (i+1) y u j l⟩
     show 5*(Yj t+Z8 c)<=_
     cases r with
     |nil=>
      have:c=[]:=jdl.mp (jeW h.1).symm
      subst this
      show 5*(Yj t+0)<=x.length
      omega
     |cons y r=>
      show _<=(x++[59,32]++Z2 [59,32] (y::r)).length
      rw[O1,O1];omega
  have:=g c e m
  rw[O1,O1,VJ]
  show 5*(1+Z8 c)<=_
  simp only[jc7,jec]
  omega
end
end L2
namespace My
open PySem PySem.Spec PyProof.Rows L2 GM
theorem mz{l:List Nat}(h:∀c∈l,c<128):asc l=qm:=by unfold asc;exact jcV.mpr λc a=>decide_eq_true (h c a)
noncomputable def Rm (h:oh) (Zz Zw Zi Zv Zm Zq Zr Zn Zt ZG Zo Zu:pA):Sp:=λg H Q E=>∃(d:List Nat)(a:pA)(f e:List (List Nat)),g=[.str (tx d),.ref a]/\Yu Zn H a f e/\(∀c∈d,c<128)/\d.length<=2000/\(¬∃b,Wm f (kdOf e) b d)/\Vo Zt ZG Zo Zu H E
section
variable{P:jcz}{w:jcS}{K:oh}{mg:Str->Option pL}{base:jcX}
variable{Zz Zw Zi Zv Zm Zq Zr Zn Zt ZG Zo Zu:pA}
theorem Mg{f:pA}{q:jaF}(F:Xl K "__init__" "SoMany.__init__" Vb f q)(o:Z3 P w K mg base 3 "check_bundle" ["bundle"] [] (Xp K))
 (d:X3 cN P w K mg base 3 "check_so_many" ["number"] (Io (WF K) (Ux K Zt ZG Zo Zu)))(e:X3 cN P w K mg base 3 "check_amount" ["amount"] (Io (Wc K) (Vy K Zt ZG Zo Zu))):Hi cN P w K mg base 4 f ["self","kind","least","amount"] (Nk K Zi Zt ZG Zo Zu):=by
 refine F.uM (zZ F λ_ _ _ _ _ _ _ _ _ _=>rfl) RP (λt H Q E h=>?_) (λp A j s H t Q E i h=>?_)
 .obtain⟨a,b,l,m,rfl,_⟩:=h;rfl
 obtain⟨a,b,l,m,rfl,u,v,r,n⟩:=h
 refine⟨_,(Zd (Yx (Zx o i (by first|decide|omega) rfl (Za (Ze 1) Zb)))
  (Zd (Yx (YB (c:=cN) (E:=E) d i (by first|decide|omega) rfl (Za (Ze 2) Zb) (WY rfl rfl rfl (λ_ _ z=>z))))
  (Zd (Yx (YB (c:=cN) (E:=E) e i (by first|decide|omega) rfl (Za (Ze 3) Zb) (WY rfl rfl rfl (λ_ _ z=>z))))
  (Zd (Xj (Ze 0) (Ze 1))
  (Zd (Xj (Ze 0) (Ze 2))
  (Zh (Xj (Ze 0) (Ze 3)))))))),?_⟩
 refine⟨_,rfl,b,rfl,by omega,by omega,_,rfl,?_⟩
 by_cases g:1<=l/\l<=6
 .exact .inl ⟨l,rfl,g.1,g.2,_,rfl,.inr ⟨m,rfl,λz=>r ⟨g,z⟩,n⟩⟩
 .exact .inr ⟨l,rfl,g,n⟩
theorem KY{f:pA}{q:jaF}(F:Xl K "__init__" "UpTo.__init__" V3 f q)(o:Z3 P w K mg base 3 "check_bundle" ["bundle"] [] (Xp K))
 (d:X3 cN P w K mg base 3 "check_so_many" ["number"] (Io (WF K) (Ux K Zt ZG Zo Zu)))(e:X3 cN P w K mg base 3 "check_amount" ["amount"] (Io (Wc K) (Vy K Zt ZG Zo Zu))):Hi cN P w K mg base 4 f ["self","kind","most","each"] (Nk K Zv Zt ZG Zo Zu):=by
 refine F.uM (zZ F λ_ _ _ _ _ _ _ _ _ _=>rfl) QD (λt H Q E h=>?_) (λp A j s H t Q E i h=>?_)
 .obtain⟨a,b,l,m,rfl,_⟩:=h;rfl
 obtain⟨a,b,l,m,rfl,u,v,r,n⟩:=h
 refine⟨_,(Zd (Yx (Zx o i (by first|decide|omega) rfl (Za (Ze 1) Zb)))
  (Zd (Yx (YB (c:=cN) (E:=E) d i (by first|decide|omega) rfl (Za (Ze 2) Zb) (WY rfl rfl rfl (λ_ _ z=>z))))
  (Zd (Yx (YB (c:=cN) (E:=E) e i (by first|decide|omega) rfl (Za (Ze 3) Zb) (WY rfl rfl rfl (λ_ _ z=>z))))
  (Zd (Xj (Ze 0) (Ze 1))
  (Zd (Xj (Ze 0) (Ze 2))
  (Zh (Xj (Ze 0) (Ze 3)))))))),?_⟩
 refine⟨_,rfl,b,rfl,by omega,by omega,_,rfl,?_⟩
 by_cases g:1<=l/\l<=6
 .exact .inl ⟨l,rfl,g.1,g.2,_,rfl,.inr ⟨m,rfl,λz=>r ⟨g,z⟩,n⟩⟩
 .exact .inr ⟨l,rfl,g,n⟩
theorem HX{f:pA}{fd:jaF}(F:Xl K "place_told" "place_told" Vi f fd)(ZZ:mg "place_told"=nC (.ref f))(d:Ej cN P w K mg base 3 Zn "number_of" ["self","name"] (Io (X5 K Zn) (VN K Zn Zt ZG Zo Zu)))(e:Ej cN P w K mg base 3 Zn "kind_of" ["self","kind"] (Io (WD K Zn) (Uw K Zn Zt ZG Zo Zu)))(b:X3 cN P w K mg base 3 "bundle_of" ["numbers"] (Io (QK K) (NT K Zt ZG Zo Zu))):
 X3 cN P w K mg base 4 "place_told" ["place","stock"] (Rm K Zz Zw Zi Zv Zm Zq Zr Zn Zt ZG Zo Zu):=by
 refine F.Nv ZZ (VF F λ_ _ _ _ _ _ _ _=>rfl) NQ (λvs H Q E h=>?_) (λab A Y s H vs Q E W h=>?_)
 .obtain⟨o,a,g,L,rfl,_⟩:=h;rfl
 obtain⟨o,a,g,L,rfl,t,hA,hz,no,th⟩:=h
 have hG:=t
 obtain⟨dx,d1,d2,kk,e1,e2,e3,e4,e5,g6,ae,ad,R⟩:=hG
 refine⟨_,(Zd (ZR (Yg (V8 (Ze 0) Zf)) (Zh (ZC (En (c:=cN) (E:=E) (Ze 1) e W (by first|decide|omega) (WY rfl rfl rfl (λ_ _ z=>z)) (Za (Yc YM (Ze 0) (ZW Zc) X7) Zb)))) ZF)
  (Zh (ZC (YB (c:=cN) (E:=E) b W (by first|decide|omega) rfl (Za (Ek (E:=E) (ZJ Vi) ["place","stock"] ["name"] ["stock"] [1] rfl rfl rfl ⟨s.heap.objs.size+1,rfl⟩ rfl rfl (by decide+kernel) rfl rfl rfl (λ_ _ z=>z) (Ws (Ow (Ze 0) Zf)) (λC y I fp=>(Ym (i:=0) (show jdM (["name","stock"]:List Str)from by decide+kernel) rfl (jbI rfl))) (λC y I fp=>Wu) (λC y I fp=>(En (c:=cN) (E:=E) (Ze 1) d W (by first|decide|omega) cB (Za (Ze 0) Zb)))) Zb) (WY rfl rfl rfl (λ_ _ z=>z)))))),?_⟩
 refine⟨_,rfl,_,rfl,_,rfl,_,rfl,?_⟩
 rw[show jh "="=tx [61]from rfl,Ql]
 by_cases X:o.take 1=[61]
 .rw[show(o.take [61].length==[61])=qm from beq_iff_eq.mpr X]
  have B:=W5 X rfl
  have T:1<=o.length:=by rw[B];simp
  refine Ys ?_
  refine⟨_,rfl,a,dx,_,rfl,e1,rfl,_,rfl,_,rfl,_,rfl,by rw[jcD];omega,.inr ⟨a,g,L,o.drop 1,?_,t,mz λc B=>hA c (jeu B),by rw[jcG];omega,λhk=>no ⟨_,.inr ⟨o.drop 1,⟨hk,rfl⟩,Q6 (R _ hk),B⟩⟩,th⟩⟩
  rw[show Vp o (nC 1) su=o.drop 1 from J1 o 1 T]
 .rw[show(o.take [61].length==[61])=vh from beq_eq_false_iff_ne.mpr X]
  refine Yn ?_
  obtain⟨ps,O,p0,pf,M⟩:=split_list o 43
  have U:∀p∈ps,p.length<=2000:=λp n=>by have:=UG [43] ps p n;rw[M]at this;omega
  have aa:ps.length<=2001:=by have:=Jp [43] (by decide) ps;rw[M]at this;omega
  refine⟨_,rfl,_,rfl,by rw[Yo];omega,_,rfl,rfl,λl hl=>⟨l,rfl,⟨_,Yy.of Zj⟩,λl2 J=>?_⟩⟩
  rw[Du,O]at J|-
  have Z:=Zk hl (.lst ((ps.map tx).map V.str))
  have el:upd H l (.lst ((ps.map tx).map V.str)) l=nC (.lst ((ps.map tx).map V.str)):=Zj
  generalize upd H l (.lst ((ps.map tx).map V.str))=H1 at Z el J|-
  refine Uj (xs:=(ps.map tx).map V.str) (λk N=>Z5 H1 N/\(∀p∈ps.take k,p∈g)/\N l2=nC (.lst ((ps.take k).map λp=>nv (g.idxOf p)))) ⟨Zk J _,(λp n=>by simp at n),Zj⟩ (λk N _ z=>Yy.of (z.1 _ _ el)) ?_ ?_
  .rintro k v I hv ⟨y,m,r⟩ K1 K0 k1 k0
   rw[jdq,jcF]at hv
   obtain⟨p,n,rfl⟩:=jcT.mp hv
   have G:=jcE n
   have u:=Z.trans y
   refine⟨_,rfl,a,dx,_,rfl,u _ _ e1,rfl,_,rfl,?_⟩
   by_cases x:p∈g
   .obtain⟨i1,i2⟩:=O3 x
    refine .inl ⟨a,g,L,p,g.idxOf p,rfl,Yu.same u t,?_,λH3 s3=>k1 _ _ _ (s3 _ _ r) ?_ ⟨(y.trans s3).upd J _,?_,?_⟩⟩
    .rw[sH i1];congr 1;exact jiR i1
    .rw[rz,jcB,jcD];omega
    .intro q D
     rw[jdE,n]at D
     rcases jdo.mp D with D|D
     .exact m q D
     .rw[jc5.mp D];exact x
    .rw[Zj,jdE,n,jcA];rfl
   .exact .inr ⟨a,g,L,p,rfl,Yu.same u t,mz λc B=>hA c (by rw[<-M];exact mem_join G B),by have:=U p G;omega,x,th.same u⟩
  .rintro I ⟨y,m,r⟩
   rw[rz,rz,jc2]at m r
   refine .inr ⟨l2,ps.map λp=>g.idxOf p,rfl,Yy.of (by rw[r,jdq];rfl),?_,?_,th.same (Z.trans y)⟩
   .intro j S
    obtain⟨p,n,rfl⟩:=jdT.mp S
    have:=(O3 (m p n)).1;omega
   .cases ho:once 0 (ps.map λp=>g.idxOf p)with
    |false=>rfl
    |true=>
     have ac:=(Il _ 0 (by decide) ho).1
     refine absurd ⟨Ew 0 (ps.map λp=>g.idxOf p),.inl ⟨ps.map λp=>g.idxOf p,λz=>p0 (jez.mp z),by omega,?_,ho,rfl,?_⟩⟩ no
     .intro j S
      obtain⟨p,n,rfl⟩:=jdT.mp S
      exact(O3 (m p n)).1
     .rw[jdq]
      have:ps.map ((λj=>g.getD j [])∘λp=>g.idxOf p)=ps:=by
       conv=>rhs;rw[<-jjp ps]
       exact jfS λp n=>(O3 (m p n)).2
      rw[this];exact M.symm
end
theorem wI{a:List (List Nat)}{k:List Nat}:∀{n:Nat}{j:Nat},j<n->a[j]?=nC k->1<=Wb a k n
 |0,j,h,_=>by omega
 |n+1,j,h,e=>by
  rw[pX]
  by_cases hn:j=n
  .subst hn;rw[if_pos e];have:=jfs j;omega
  .have:=wI (n:=n) (show j<n by omega) e
   split
   .exact jc9 this (jfM _ _)
   .exact this
theorem kinds_ok{ks:List (List Nat)}(g:ks.length<=6)(d:∀k∈ks,YX k=qm):KindsOk (kdOf ks) (λk=>Wb ks k ks.length):=by
 have a:∀k,0<Wb ks k ks.length↔k∈ks:=λk=>by
  constructor
  .intro h
   by_cases c:k∈ks
   .exact c
   .rw[Dz (by rw[jc2];exact c)]at h;omega
  .intro h
   obtain⟨i,f,e⟩:=jfT h
   exact wI f (by rw[sH f,e])
 refine⟨λk b=>⟨λz=>⟨(a k).mpr z.1,z.2⟩,λz=>⟨(a k).mp z.1,z.2⟩⟩,λk c=>Q6 (d k ((a k).mp c)),λk=>?_⟩
 have:=Mz ks k ks.length
 have:=je0 (show 0<2 by decide) g
 omega
theorem Yu.kinds{c a:pA}{H:Hp}{ns b:List (List Nat)}(h:Yu c H a ns b):KindsOk (kdOf b) (λk=>Wb b k b.length):=by
 obtain⟨j,g,i,r,l,m,n,o,p,q,f,e,d⟩:=h
 exact kinds_ok (by omega) d
theorem DN{K:oh}{Zt ZG Zo Zu:pA}{n:List Nat}{H:Hp}{Q:VK}{E:XK}(d:∀c∈n,c<128)(f:n.length<=2000)(g:Vo Zt ZG Zo Zu H E)(q:∀m:Nat,n=Xd (m:Int)->m<10^10->∀H',Z5 H H'->Q (.int (m:Int)) H'):Io (Ur K) (Sq K Zt ZG Zo Zu) [.str (tx n)] H Q E:=by
 cases hn:yh n with
 |false=>exact .inr ⟨n,rfl,d,f,hn,g⟩
 |true=>
  unfold yh at hn
  rw[jbE]at hn
  obtain⟨a,b⟩:=yj (λc e=>Kr.mp (jcV.mp hn.2 c e)) hn.1
  refine .inl ⟨((Th n:Nat):Int),?_,by omega,by omega,λH' s=>q _ a b H' s⟩
  rw[T6,<-a]
theorem Cd{K:oh}{Zz Zw Zi Zv Zm Zq Zr Zn Zt ZG Zo Zu:pA}{p:List Nat}{a:pA}{ns f:List (List Nat)}{H:Hp}{Q:VK}{E:XK}(d:Yu Zn H a ns f)(i:∀c∈p,c<128)(j:p.length<=2000)(l:Vo Zt ZG Zo Zu H E)(q:∀b,Wm ns (kdOf f) b p->1<=b->b<=63->∀H',Z5 H H'->Q (nv b) H'):Io (Td K Zz Zw Zi Zv Zm Zq Zr Zn) (Rm K Zz Zw Zi Zv Zm Zq Zr Zn Zt ZG Zo Zu) [.str (tx p),.ref a] H Q E:=by
 by_cases e:∃b,Wm ns (kdOf f) b p
 .obtain⟨b,e⟩:=e
  obtain⟨g,h⟩:=Q8 d.kinds e
  exact .inl ⟨p,a,ns,f,b,rfl,d,e,λH' s=>q b e g h H' s⟩
 .exact .inr ⟨p,a,ns,f,rfl,d,i,j,e,l⟩
theorem aA{e:Type}:∀{d:List e},d.length=3->∃a b c,d=[a,b,c]
 |[a,b,c],_=>⟨a,b,c,rfl⟩
theorem jbX{g:Type}:∀{f:List g},f.length=5->∃a b c d e,f=[a,b,c,d,e]
 |[a,b,c,d,e],_=>⟨a,b,c,d,e,rfl⟩
theorem ja1{j:Type}:∀{i:List j},i.length=8->∃a b c d e f g h,i=[a,b,c,d,e,f,g,h]
 |[a,b,c,d,e,f,g,h],_=>⟨a,b,c,d,e,f,g,h,rfl⟩
theorem Tp{s:Str}{l w:List Nat}(e:s=tx l)(h:rA (nC s) (tx w)=qm):w=l:=by
 have:=of_decide_eq_true (show decide (s=tx w)=qm from h)
 rw[e]at this
 exact(QM this).symm
theorem jaU{e:List (List Nat)}(h:Mf (e.map tx) [su,nC (jh "for"),su]=qm):∃p n,e=[p,PB,n]:=by
 unfold Mf at h
 rw[jbE,decide_eq_true_eq,rz]at h
 obtain⟨a,b,c,rfl⟩:=aA h.1
 have d:=h.2
 simp only[jdy,jgb,jha,jhb,jd2,jje,jbE]at d
 rw[Tp (show jh "for"=tx PB from rfl) d.2.1]
 exact⟨_,_,rfl⟩
theorem jaV{g:List (List Nat)}(h:Mf (g.map tx) [su,nC (jh "of"),su,nC (jh "for"),su]=qm):∃l p n,g=[l,tV,p,PB,n]:=by
 unfold Mf at h
 rw[jbE,decide_eq_true_eq,rz]at h
 obtain⟨a,b,c,d,e,rfl⟩:=jbX h.1
 have f:=h.2
 simp only[jdy,jgb,jha,jhb,jd2,jje,jbE]at f
 rw[Tp (show jh "of"=tx tV from rfl) f.2.1,Tp (show jh "for"=tx PB from rfl) f.2.2.2.1]
 exact⟨_,_,_,rfl⟩
theorem jaW{j:List (List Nat)}(h:Mf (j.map tx) [nC (jh "up"),nC (jh "to"),su,nC (jh "of"),su,nC (jh "for"),su,nC (jh "each")]=qm):∃l p n,j=[bh,bf,l,tV,p,PB,n,G8]:=by
 unfold Mf at h
 rw[jbE,decide_eq_true_eq,rz]at h
 obtain⟨a,b,c,d,e,f,g,k,rfl⟩:=ja1 h.1
 have i:=h.2
 simp only[jdy,jgb,jha,jhb,jd2,jje,jbE]at i
 rw[Tp (show jh "up"=tx bh from rfl) i.1,Tp (show jh "to"=tx bf from rfl) i.2.1,Tp (show jh "of"=tx tV from rfl) i.2.2.2.1,Tp (show jh "for"=tx PB from rfl) i.2.2.2.2.2.1,Tp (show jh "each"=tx G8 from rfl) i.2.2.2.2.2.2.2.1]
 exact⟨_,_,_,rfl⟩
noncomputable def W3 (K:oh) (Zz Zw Zi Zv Zm Zq Zr Zn Zt ZG Zo Zu:pA):Sp:=λh H Q E=>∃(g a:pA)(e d b:List (List Nat)),h=[.ref g,.ref a]/\Yy K H g ((b.map tx).map V.str)/\Yu Zn H a e d/\(∀x∈b,(∀c∈x,c<128)/\x.length<=2000)/\(¬∃f,Wf f/\UW e (kdOf d) f b)/\Vo Zt ZG Zo Zu H E
section
variable{P:jcz}{w:jcS}{K:oh}{mg:Str->Option pL}{base:jcX}
variable{Zz Zw Zi Zv Zm Zq Zr Zn Zt ZG Zo Zu:pA}
theorem MK{f:pA}{fd:jaF}(F:Xl K "plain_bid_told" "plain_bid_told" Vw f fd)(ZZ:mg "plain_bid_told"=nC (.ref f))(XM:Z3 P w K mg base 1 "has_form" ["words","form"] [] (Pz K))(e:X3 cN P w K mg base 4 "place_told" ["place","stock"] (Io (Td K Zz Zw Zi Zv Zm Zq Zr Zn) (Rm K Zz Zw Zi Zv Zm Zq Zr Zn Zt ZG Zo Zu)))(d:X3 cN P w K mg base 2 "number_told" ["word"] (Io (Ur K) (Sq K Zt ZG Zo Zu)))(r:Nu cN P w K mg base 4 "Only" Zw ["self","bundle","amount"] (Io (Vz K Zw) (Bb K Zw Zt ZG Zo Zu)))(g:Nu cN P w K mg base 4 "SoMany" Zi ["self","kind","least","amount"] (Io (W4 K Zi) (Nk K Zi Zt ZG Zo Zu)))(t:Nu cN P w K mg base 4 "UpTo" Zv ["self","kind","most","each"] (Io (VB K Zv) (Nk K Zv Zt ZG Zo Zu)))(Hj:BR K mg "Bid" Zz)(i:jf1 "NoText" Zt Bp "ValueError.__new__" mg base):
 X3 cN P w K mg base 6 "plain_bid_told" ["words","stock"] (W3 K Zz Zw Zi Zv Zm Zq Zr Zn Zt ZG Zo Zu):=by
 refine F.Nv ZZ (VF F λ_ _ _ _ _ _ _ _=>rfl) R7 (λvs H Q E h=>?_) (λab A aa s H vs Q E j h=>?_)
 .obtain⟨o,a,ns,ks,G,rfl,_⟩:=h;rfl
 obtain⟨o,a,ns,ks,G,rfl,hw,D,B,no,q⟩:=h
 refine⟨_,(Zd (ZR (ZK (jm j.Rn) (Ze 0) (ZV (Za Zf Zb)) (Yb _)) (Zh (ZC (xG Hj rfl))) ZF)
  (Zd (ZR (Yg (Zx XM j (by first|decide|omega) rfl (Za (Ze 0) (Za (ZV (Za Xy (Za Zf (Za Xy Zb)))) Zb)))) (Zh (ZC (Tf (c:=cN) (E:=E) r j (by first|decide|omega) rfl (Za (YB (c:=cN) (E:=E) e j (by first|decide|omega) rfl (Za (Z4 (YH K) (Ze 0) Zc (λ_ _=>rfl)) (Za (Ze 1) Zb)) (WY rfl rfl rfl (λ_ _ z=>z))) (Za (YB (c:=cN) (E:=E) d j (by first|decide|omega) rfl (Za (Z4 (YH K) (Ze 0) Zc (λ_ _=>rfl)) Zb) (WY rfl rfl rfl (λ_ _ z=>z))) Zb)) (WY rfl rfl rfl (λ_ _ z=>z))))) ZF)
  (Zd (ZR (Yg (Zx XM j (by first|decide|omega) rfl (Za (Ze 0) (Za (ZV (Za Xy (Za Zf (Za Xy (Za Zf (Za Xy Zb)))))) Zb)))) (Zh (ZC (Tf (c:=cN) (E:=E) g j (by first|decide|omega) rfl (Za (YB (c:=cN) (E:=E) e j (by first|decide|omega) rfl (Za (Z4 (YH K) (Ze 0) Zc (λ_ _=>rfl)) (Za (Ze 1) Zb)) (WY rfl rfl rfl (λ_ _ z=>z))) (Za (YB (c:=cN) (E:=E) d j (by first|decide|omega) rfl (Za (Z4 (YH K) (Ze 0) Zc (λ_ _=>rfl)) Zb) (WY rfl rfl rfl (λ_ _ z=>z))) (Za (YB (c:=cN) (E:=E) d j (by first|decide|omega) rfl (Za (Z4 (YH K) (Ze 0) Zc (λ_ _=>rfl)) Zb) (WY rfl rfl rfl (λ_ _ z=>z))) Zb))) (WY rfl rfl rfl (λ_ _ z=>z))))) ZF)
  (Zd (ZR (Yg (Zx XM j (by first|decide|omega) rfl (Za (Ze 0) (Za (ZV (Za Zf (Za Zf (Za Xy (Za Zf (Za Xy (Za Zf (Za Xy (Za Zf Zb))))))))) Zb)))) (Zh (ZC (Tf (c:=cN) (E:=E) t j (by first|decide|omega) rfl (Za (YB (c:=cN) (E:=E) e j (by first|decide|omega) rfl (Za (Z4 (YH K) (Ze 0) Zc (λ_ _=>rfl)) (Za (Ze 1) Zb)) (WY rfl rfl rfl (λ_ _ z=>z))) (Za (YB (c:=cN) (E:=E) d j (by first|decide|omega) rfl (Za (Z4 (YH K) (Ze 0) Zc (λ_ _=>rfl)) Zb) (WY rfl rfl rfl (λ_ _ z=>z))) (Za (YB (c:=cN) (E:=E) d j (by first|decide|omega) rfl (Za (Z4 (YH K) (Ze 0) Zc (λ_ _=>rfl)) Zb) (WY rfl rfl rfl (λ_ _ z=>z))) Zb))) (WY rfl rfl rfl (λ_ _ z=>z))))) ZF)
  (Zh (Xe (c:=cN) (E:=E) rfl jcL i rfl rfl rfl (Za Zf Zb) rfl rfl rfl (λ_ _ z=>z))))))),?_⟩
 refine⟨_,rfl,(by show 1<=qd;decide),λl0 h0=>?_⟩
 have s0:=Zk h0 (.lst [V.str (jh "nothing")])
 have e0:upd H l0 (.lst [V.str (jh "nothing")]) l0=nC (.lst [V.str (jh "nothing")]):=Zj
 generalize upd H l0 (.lst [V.str (jh "nothing")])=H0 at s0 e0|-
 refine⟨o,l0,G.map tx,[jh "nothing"],rfl,rfl,s0.seq hw,Yy.of e0,_,rfl,?_⟩
 rw[if_neg jbJ]
 rw[show decide (G.map tx=[jh "nothing"])=vh from decide_eq_false λz=>by
  match G,z with
  |[x],z=>
   have:x=Vk:=QM (jdb z).1
   exact no ⟨.none,trivial,by rw[this];rfl⟩]
 refine Yn ?_
 refine⟨_,rfl,(by show 3<=qd;decide),λl1 h1=>?_⟩
 have s1:=s0.trans (Zk h1 (.lst [V.non,.str (jh "for"),.non]))
 have e1:upd H0 l1 (.lst [V.non,.str (jh "for"),.non]) l1=nC (.lst [V.non,.str (jh "for"),.non]):=Zj
 generalize upd H0 l1 (.lst [V.non,.str (jh "for"),.non])=H1 at s1 e1|-
 refine⟨o,l1,_,[su,nC (jh "for"),su],rfl,s1.seq hw,Yy.of e1,(by decide),λH2 s2=>⟨_,rfl,?_⟩⟩
 have I:=s1.trans s2
 cases hf3:Mf (G.map tx) [su,nC (jh "for"),su]with
 |true=>
  obtain⟨p,n,rfl⟩:=jaU hf3
  obtain⟨U,W⟩:=B p (by simp)
  obtain⟨O,R⟩:=B n (by simp)
  refine Ys ?_
  refine⟨_,rfl,o,_,_,_,rfl,rfl,I.seq hw,rfl,_,rfl,Cd (Yu.same I D) U W (q.same I) λb N v y H3 X=>?_⟩
  have S3:=I.trans X
  refine⟨_,rfl,o,_,_,_,rfl,rfl,S3.seq hw,rfl,DN O R (q.same S3) λm M lm Z s4=>λx L T S _=>?_⟩
  have C:=(S3.trans s4).trans (((Z5.refl Z).upd S (.own x)).upd T (.ins Zw L []))
  exact .inr ⟨x,b,_,rfl,v,y,λz=>no ⟨.only b (m:Int),⟨v,y,z.1,z.2⟩,p,N,by rw[<-M]⟩,q.same C⟩
 |false=>
 refine Yn ?_
 refine⟨_,rfl,(by show 5<=qd;decide),λl2 h2=>?_⟩
 have X:=I.trans (Zk h2 (.lst [V.non,.str (jh "of"),.non,.str (jh "for"),.non]))
 have e3:upd H2 l2 (.lst [V.non,.str (jh "of"),.non,.str (jh "for"),.non]) l2=nC (.lst [V.non,.str (jh "of"),.non,.str (jh "for"),.non]):=Zj
 generalize upd H2 l2 (.lst [V.non,.str (jh "of"),.non,.str (jh "for"),.non])=H3 at X e3|-
 refine⟨o,l2,_,[su,nC (jh "of"),su,nC (jh "for"),su],rfl,X.seq hw,Yy.of e3,(by decide),λZ s4=>⟨_,rfl,?_⟩⟩
 have C:=X.trans s4
 cases hf5:Mf (G.map tx) [su,nC (jh "of"),su,nC (jh "for"),su]with
 |true=>
  obtain⟨l,p,n,rfl⟩:=jaV hf5
  obtain⟨lA,lL⟩:=B l (by simp)
  obtain⟨U,W⟩:=B p (by simp)
  obtain⟨O,R⟩:=B n (by simp)
  refine Ys ?_
  refine⟨_,rfl,o,_,_,_,rfl,rfl,C.seq hw,rfl,_,rfl,Cd (Yu.same C D) U W (q.same C) λb N v y H5 Y=>?_⟩
  have S5:=C.trans Y
  refine⟨_,rfl,o,_,_,_,rfl,rfl,S5.seq hw,rfl,DN lA lL (q.same S5) λk ek lk H6 s6=>?_⟩
  have u:=S5.trans s6
  refine⟨_,rfl,o,_,_,_,rfl,rfl,u.seq hw,rfl,DN O R (q.same u) λm M lm H7 s7=>λx L T S _=>?_⟩
  have J:=(u.trans s7).trans (((Z5.refl H7).upd S (.own x)).upd T (.ins Zi L []))
  exact .inr ⟨x,b,_,_,rfl,v,y,λz=>no ⟨.some b k (m:Int),⟨v,y,by have:=z.1.1;omega,by have:=z.1.2;omega,z.2.1,z.2.2⟩,p,N,by rw[<-M,<-ek]⟩,q.same J⟩
 |false=>
 refine Yn ?_
 refine⟨_,rfl,(by show 8<=qd;decide),λl3 h3=>?_⟩
 have Y:=C.trans (Zk h3 (.lst [V.str (jh "up"),.str (jh "to"),.non,.str (jh "of"),.non,.str (jh "for"),.non,.str (jh "each")]))
 have e5:upd Z l3 (.lst [V.str (jh "up"),.str (jh "to"),.non,.str (jh "of"),.non,.str (jh "for"),.non,.str (jh "each")]) l3=nC (.lst [V.str (jh "up"),.str (jh "to"),.non,.str (jh "of"),.non,.str (jh "for"),.non,.str (jh "each")]):=Zj
 generalize upd Z l3 (.lst [V.str (jh "up"),.str (jh "to"),.non,.str (jh "of"),.non,.str (jh "for"),.non,.str (jh "each")])=H5 at Y e5|-
 refine⟨o,l3,_,[nC (jh "up"),nC (jh "to"),su,nC (jh "of"),su,nC (jh "for"),su,nC (jh "each")],rfl,Y.seq hw,Yy.of e5,(by decide),λH6 s6=>⟨_,rfl,?_⟩⟩
 have u:=Y.trans s6
 cases hf8:Mf (G.map tx) [nC (jh "up"),nC (jh "to"),su,nC (jh "of"),su,nC (jh "for"),su,nC (jh "each")]with
 |true=>
  obtain⟨l,p,n,rfl⟩:=jaW hf8
  obtain⟨lA,lL⟩:=B l (by simp)
  obtain⟨U,W⟩:=B p (by simp)
  obtain⟨O,R⟩:=B n (by simp)
  refine Ys ?_
  refine⟨_,rfl,o,_,_,_,rfl,rfl,u.seq hw,rfl,_,rfl,Cd (Yu.same u D) U W (q.same u) λb N v y H7 s7=>?_⟩
  have J:=u.trans s7
  refine⟨_,rfl,o,_,_,_,rfl,rfl,J.seq hw,rfl,DN lA lL (q.same J) λk ek lk H8 s8=>?_⟩
  have S8:=J.trans s8
  refine⟨_,rfl,o,_,_,_,rfl,rfl,S8.seq hw,rfl,DN O R (q.same S8) λm M lm H9 s9=>λx L T S _=>?_⟩
  have S9:=(S8.trans s9).trans (((Z5.refl H9).upd S (.own x)).upd T (.ins Zv L []))
  exact .inr ⟨x,b,_,_,rfl,v,y,λz=>no ⟨.most b k (m:Int),⟨v,y,by have:=z.1.1;omega,by have:=z.1.2;omega,z.2.1,z.2.2⟩,p,N,by rw[<-M,<-ek]⟩,q.same S9⟩
 |false=>
 exact Yn ⟨(by show 1<=qd;decide),λa ha=>q.1 H6 a u ha⟩
end
end My
namespace L2
open PySem PySem.Spec PyProof.Rows PySem.W Builtin Builtin.Str
noncomputable def iQ (l:List Nat):List (List Nat):=if l=[]then[]else pieces l
theorem wY(l:List Nat):Z2 [59,32] (iQ l)=l:=by
 unfold iQ
 split
 .next h=>rw[h];rfl
 .exact(Ld l).1
noncomputable def brk (any:Bool) (x:List Nat):Bool:=(x.take 4==WQ any)&&je1 (tx x) (tx [41])
theorem z7{any:Bool}{x:List Nat}:brk any x=qm↔∃L,x=WQ any++L++[41]:=by
 unfold brk
 rw[jbE,beq_iff_eq,rm,jbE,decide_eq_true_eq,beq_iff_eq]
 constructor
 .rintro⟨f,h,d⟩
  have a:=W5 f (VJ any)
  have i:x.length=4+(x.drop 4).length:=by
   have:=congrArg jd7 a
   rw[O1,VJ]at this;exact this
  have b:x.drop (x.length-1)=[41]:=by
   rw[jdp (by rw[jcG];simp;omega)]at d;exact d
  have g:x=x.take (x.length-1)++[41]:=by
   conv=>lhs;rw[<-jfu (x.length-1) x,b]
  by_cases c:(x.drop 4).length=0
  .have c:=jdl.mp c
   rw[c,jdA]at a
   rw[a]at b
   cases any<;>exact absurd b (by decide)
  .refine⟨(x.drop 4).take ((x.drop 4).length-1),?_⟩
   have e:(x.drop 4).drop ((x.drop 4).length-1)=[41]:=by
    rw[jcR,<-b];congr 1;omega
   conv=>lhs;rw[a,<-jfu ((x.drop 4).length-1) (x.drop 4),e]
   rw[jdu]
 .rintro⟨L,rfl⟩
  refine⟨?_,by simp;omega,?_⟩
  .rw[jdu,<-VJ any,jg7]
  .rw[O1 (bs:=[41])]
   rw[show((WQ any++L).length+[41].length-[41].length)=(WQ any++L).length by omega,jff];rfl
theorem lV{a b:Bool}{L M:List Nat}(h:WQ a++L++[41]=WQ b++M++[41]):a=b/\L=M:=by
 rw[jdu,jdu]at h
 obtain⟨c,d⟩:=jh6 h (by rw[VJ,VJ])
 refine⟨?_,(jhC d rfl).1⟩
 cases a<;>cases b<;>first|rfl|exact absurd c (by decide)
section
variable{ns:List (List Nat)}{kd:List Nat->Nat->Prop}
theorem kJ(hn:∀n∈ns,W8 n){f:Form}{a:List (List Nat)}(ok:Wf f)(h:UW ns kd f a){any:Bool}{L:List Nat}:Z2 [32] a≠WQ any++L++[41]:=λe=>by
 have:=(O4 (Kf hn ok h).1 41 (by rw[e];simp)).2.1
 exact this rfl
theorem rG(hn:∀n∈ns,W8 n){d:Nat}{any:Bool}{L:List Nat}{t:Tr}(h:YS ns kd (d+1) t (WQ any++L++[41])):∃ts,t=.node any ts/\Xb (λy t=>YS ns kd d t y) (iQ L) ts:=by
 cases t with
 |leaf f=>obtain⟨ok,u,hw,e⟩:=h;exact absurd e.symm (kJ hn ok hw)
 |node a ts=>
  obtain⟨xs,g,e⟩:=h
  obtain⟨rfl,rfl⟩:=lV e
  refine⟨ts,rfl,?_⟩
  have j:∀x∈xs,∃t,YS ns kd d t x:=λx b=>by
   obtain⟨i,m,rfl⟩:=jfT b
   exact⟨_,g.2 i _ _ (sH m) (sH (by rw[<-g.1];exact m))⟩
  have:iQ (Z2 [59,32] xs)=xs:=by
   unfold iQ
   by_cases c:xs=[]
   .rw[c];rfl
   .rw[if_neg,oU c λx b=>(Ud hn d _ _ (j x b).choose_spec).1]
    intro z
    cases xs with
    |nil=>exact c rfl
    |cons x r=>
     obtain⟨t,o⟩:=j x (U7 ..)
     have l:=Oi hn d t x o
     have p:1<=Yj t:=by cases t with|leaf f=>exact U6 _|node a q=>show 1<=1+Z8 q;omega
     have:=UG [59,32] (x::r) x (U7 ..)
     rw[z]at this
     simp at this
     rw[this]at l
     simp at l
     omega
  rw[this];exact g
theorem gM{d:Nat}{t:Tr}{x:List Nat}(h:YS ns kd (d+1) t x)(b:brk qm x=vh)(c:brk vh x=vh):∃f,t=.leaf f/\Wf f/\∃ws,UW ns kd f ws/\x=Z2 [32] ws:=by
 cases t with
 |leaf f=>obtain⟨ok,ws,hw,e⟩:=h;exact⟨f,rfl,ok,ws,hw,e⟩
 |node a i=>
  obtain⟨j,g,e⟩:=h
  have:=z7.mpr ⟨_,e⟩
  cases a
  .rw[c]at this;cases this
  .rw[b]at this;cases this
theorem QL:∀(d:Nat)(t:Tr)(x:List Nat),YS ns kd d t x->Xa t<=d
 |0,_,_,h=>h.elim
 |d+1,.leaf f,x,h=>Nat.succ_le_succ (jcY d)
 |d+1,.node any ts,x,h=>by
  obtain⟨xs,g,_⟩:=h
  have b:∀a:List Tr,(∀u∈a,Xa u<=d)->Yr a<=d:=by
   intro a
   induction a with
   |nil=>intro _;exact jcY _
   |cons u a j=>
    intro h
    exact Nat.max_le.mpr ⟨h u (U7 ..),j λv e=>h v (jcx _ e)⟩
  have:=b ts λu c=>by
   obtain⟨y,i⟩:=g.mem c
   exact QL d u y i
  show 1+Yr ts<=d+1
  omega
theorem I9{e:List Nat->Nat}(hn:∀n∈ns,W8 n)(c:ns.Nodup)(b:ns.length<=6)(Z:KindsOk kd e){d:Nat}{t u:Tr}{x:List Nat}(h:YS ns kd d t x)(h':YS ns kd d u x):t=u:=by
 have a:=(Lh hn c b Z).mpr h
 rw[(Lh hn c b Z).mpr h']at a
 cases a;rfl
end
end L2
namespace My
open PySem PySem.Spec PyProof.Rows L2 GM
theorem bc{Y G:Prop}(f:Y->G)(y:Y):G:=f y
noncomputable def Nj (d:oh):Sp:=λb H Q _=>∃L:List Nat,b=[.str (tx L)]/\(∀c∈L,c<128)/\L.length<=2000/\∀l a,Z5 H a->H l=su->a l=nC (.lst (((pieces L).map tx).map V.str))->Q (.ref l) a
noncomputable def Oe (c:oh) (Zz Zw Zi Zv Zm Zq Zr Zn Zt ZG Zo Zu:pA):Sp:=λb H Q E=>∃(l:pA)(bs:List pA)(a:List Tr)(A:pA->Prop)(d:Nat),b=[.ref l]/\H l=nC (.lst (bs.map V.ref))/\Xb (XF Zz Zw Zi Zv Zq Zr A H d) bs a/\Yr a<=3/\23<Z8 a/\Z8 a<=800/\Vo Zt ZG Zo Zu H E
noncomputable def W7 (e:oh) (Zz Zw Zi Zv Zm Zq Zr Zn Zt ZG Zo Zu:pA):Sp:=λc H Q E=>∃(a l:pA)(bs:List pA)(b:List Tr)(A:pA->Prop)(d:Nat),c=[.ref a,.ref l]/\H l=nC (.lst (bs.map V.ref))/\Xb (XF Zz Zw Zi Zv Zq Zr A H d) bs b/\Yr b<=3/\23<Z8 b/\Z8 b<=800/\Vo Zt ZG Zo Zu H E
noncomputable def qe (j:oh) (Zz Zw Zi Zv Zm Zq Zr Zn Zt ZG Zo Zu:pA) (d:Nat):Sp:=λi H Q E=>∃(L:List Nat)(a:pA)(h f:List (List Nat))(g:Nat),i=[.str (tx L),.ref a,nv g]/\Yu Zn H a h f/\(∀c∈L,c<128)/\L.length<=2000/\g+d=5/\1<=g/\
 (∀e:List Tr,Xb (λy t=>YS h (kdOf f) d t y/\Yj t<=24) (iQ L) e->∀l b(bs:List pA),Z5 H b->H l=su->b l=nC (.lst (bs.map V.ref))->Xb (XF Zz Zw Zi Zv Zq Zr (λx=>H x=su/\x≠l) b d) bs e->Q (.ref l) b)/\
 ((¬∃e:List Tr,Xb (λy t=>YS h (kdOf f) d t y/\Yj t<=24) (iQ L) e)->Vo Zt ZG Zo Zu H E)
noncomputable def Gv (j:oh) (Zz Zw Zi Zv Zm Zq Zr Zn Zt ZG Zo Zu:pA) (d:Nat):Sp:=λi H Q E=>∃(x:List Nat)(a:pA)(h f:List (List Nat))(g:Nat),i=[.str (tx x),.ref a,nv g]/\Yu Zn H a h f/\(∀c∈x,c<128)/\x.length<=2000/\g+d=5/\1<=g/\
 (∀t:Tr,YS h (kdOf f) d t x->Yj t<=24->∀b e,Z5 H e->(XF Zz Zw Zi Zv Zq Zr (λl=>H l=su) e d b t)->Q (.ref b) e)/\
 ((¬∃t:Tr,YS h (kdOf f) d t x/\Yj t<=24)->Vo Zt ZG Zo Zu H E)
section
variable{P:jcz}{w:jcS}{K:oh}{mg:Str->Option pL}{base:jcX}
variable{Zz Zw Zi Zv Zm Zq Zr Zn Zt ZG Zo Zu:pA}
theorem yr{f:pA}{Y:jaF}(F:Xl K "parted" "parted" JG f Y)(W:mg "parted"=nC (.ref f))(U:mg "enumerate"=su):Z3 P w K mg base 1 "parted" ["inner"] [] (Nj K):=by
 refine F.Yp W (RV F λ_ _ _ _ _ _ _=>rfl) W2 (λvs H Q E h=>?_) (λX A J s H vs Q E hr h=>?_)
 .obtain⟨L,rfl,_⟩:=h;rfl
 obtain⟨L,rfl,Z,hz,q⟩:=h
 have pb:=(Ld L).2
 have r:L.length<=qd:=by rw[jcD];omega
 refine⟨_,(Zd (ZL (i:=1) W2.nd rfl (jbI rfl) (ZV Zb))
  (Zd (ZL (i:=2) W2.nd rfl (jbI rfl) Zc)
  (Zd (ZL (i:=3) W2.nd rfl (jbI rfl) Zc)
  (Zd (Uz jdK rfl (v5 rfl U (Za (Ze 0) Zb)) (PQ K 2 rfl (Wg (Ym (i:=4) W2.nd rfl (jbI rfl)) (Wg (Ym (i:=5) W2.nd rfl (jbI rfl)) Qj))) (Zh (ZR (ZK Xv (Ze 5) Zf (Yb _)) (Zh (ZL (i:=3) W2.nd rfl (jbI rfl) (Zg Yh (Ze 3) Zc))) (Zh (ZR (ZK Xv (Ze 5) Zf (Yb _)) (Zh (ZL (i:=3) W2.nd rfl (jbI rfl) (Zg DY (Ze 3) Zc))) (Zh (ZR (Tg (VD (ZK Xv (Ze 3) Zc (Yb _)) (WM (Yg (zV (Ze 0) Zf (Ze 4)))))) (Zd (Yx (WP (Ze 1) (Za (Yc YM (Ze 0) (ZW (Ze 2)) (ZW (Ze 4))) Zb)))
   (Zh (ZL (i:=2) W2.nd rfl (jbI rfl) (Zg (Xc Yh) (Ze 4) Zc)))) ZF)))))))
  (Zd (Yx (WP (Ze 1) (Za (Yc YM (Ze 0) (ZW (Ze 2)) X7) Zb)))
  (Zh (ZC (Ze 1)))))))),?_⟩
 refine⟨(by show 0<=qd;decide),λd C=>?_⟩
 refine⟨_,rfl,L,rfl,jcV.mpr λc B=>decide_eq_true (Z c B),?_⟩
 refine pH (λi N O=>i<=L.length/\Z5 H O/\O d=nC (.lst (((XJ L i).1.map tx).map V.str))/\∃t u,N=[nC (.str (tx L)),nC (.ref d),nC (nv (XJ L i).2.1),nC (.int (XJ L i).2.2),t,u]) ?_ ?_ ?_
 .exact⟨jcY _,Zk C _,Zj,su,su,rfl⟩
 .rintro i c p N G B ⟨hi,M,y,t,u,rfl⟩ n
  have a:i<L.length:=(jcP.mp B).1
  have I:L.getD i 0=c:=by rw[jbG,B];rfl
  have o:=M.trans (Zk n (.tup [V.int (i:Int),.str (tx [c])]))
  have g:=Zk n (.tup [V.int (i:Int),.str (tx [c])]) _ _ y
  have S:upd G p (.tup [V.int (i:Int),.str (tx [c])]) p=nC (.tup [V.int (i:Int),.str (tx [c])]):=Zj
  generalize upd G p (.tup [V.int (i:Int),.str (tx [c])])=R at o g S|-
  have step:XJ L (i+1)=VH L i c (XJ L i):=by rw[<-I];rfl
  have m:=(Ce L i).1
  generalize XJ L i=st at g step m|-
  obtain⟨D,b,w⟩:=st
  refine⟨p,_,rfl,Su.of S,rfl,_,_,rfl,_,_,rfl,rfl,?_⟩
  refine⟨_,rfl,rfl,_,rfl,?_⟩
  rw[show jh "("=tx [40]from rfl,yQ]
  by_cases j:c=40
  .rw[decide_eq_true j]
   refine Ys ⟨_,rfl,_,_,rfl,rfl,?_⟩
   have e:XJ L (i+1)=(D,b,w+1):=by rw[step];unfold VH;rw[if_pos j]
   exact⟨a,o,by rw[e];exact g,_,_,by rw[e];rfl⟩
  rw[decide_eq_false j]
  refine Yn ⟨_,rfl,rfl,_,rfl,?_⟩
  rw[show jh ")"=tx [41]from rfl,yQ]
  by_cases l:c=41
  .rw[decide_eq_true l]
   refine Ys ⟨_,rfl,_,_,rfl,rfl,?_⟩
   have e:XJ L (i+1)=(D,b,w-1):=by rw[step];unfold VH;rw[if_neg j,if_pos l]
   exact⟨a,o,by rw[e];exact g,_,_,by rw[e];rfl⟩
  rw[decide_eq_false l]
  refine Yn ⟨_,rfl,rfl,_,rfl,?_⟩
  have T:(¬(w=0/\semi L i=qm))->i+1<=L.length/\Z5 H R/\R d=nC (.lst (((XJ L (i+1)).1.map tx).map V.str))/\∃t u,([nC (.str (tx L)),nC (.ref d),nC (nv b),nC (.int w),nC (V.int (i:Int)),nC (.str (tx [c]))]:L2.St)=[nC (.str (tx L)),nC (.ref d),nC (nv (XJ L (i+1)).2.1),nC (.int (XJ L (i+1)).2.2),t,u]:=λz=>by
   have e:XJ L (i+1)=(D,b,w):=by rw[step];unfold VH;rw[if_neg j,if_neg l,if_neg z]
   exact⟨a,o,by rw[e];exact g,_,_,by rw[e]⟩
  by_cases v:w=0
  .rw[show decide (V.int w=V.int 0)=qm from decide_eq_true (by rw[v])]
   refine Ys ⟨_,rfl,_,rfl,_,rfl,_,rfl,_,rfl,_,rfl,?_⟩
   rw[Dv,tO]
   show if semi L i=qm then _ else _
   by_cases x:semi L i=qm
   .rw[if_pos x]
    have e:XJ L (i+1)=(D++[(L.drop b).take (i-b)],i+2,w):=by rw[step];unfold VH;rw[if_neg j,if_neg l,if_pos ⟨v,x⟩]
    refine⟨_,rfl,.inl ⟨rfl,_,Yy.of g⟩,_,rfl,_,rfl,_,rfl,_,rfl,_,rfl,_,rfl,r,d,_,_,rfl,rfl,g,?_,?_⟩
    .rw[rz,rz];rw[jcD];omega
    rw[yc L b i hi]
    refine⟨_,rfl,_,_,nv (i+2),rfl,rfl,rfl,a,o.upd C _,?_,nC (V.int (i:Int)),nC (.str (tx [c])),?_⟩
    .rw[e,Zj,jcA,jcA];rfl
    .rw[e];rfl
   .rw[if_neg x]
    exact T λz=>x z.2
  .rw[show decide (V.int w=V.int 0)=vh from decide_eq_false (λz=>v (V.int.inj z))]
   exact Yn (T λz=>v z.1)
 .rintro N G ⟨_,M,y,t,u,rfl⟩
  have m:=(Ce L L.length).1
  refine⟨_,rfl,.inl ⟨rfl,_,Yy.of y⟩,_,rfl,_,rfl,_,rfl,_,rfl,r,d,_,_,rfl,rfl,y,?_,?_⟩
  .rw[rz,rz];rw[jcD];omega
  rw[J1 L _ pb]
  refine⟨_,rfl,q d _ (M.upd C _) C ?_⟩
  rw[Zj]
  unfold pieces
  rw[jcA,jcA];rfl
theorem HW{f:pA}{fd:jaF}(F:Xl K "check_bids" "check_bids" Sg f fd)(ZZ:mg "check_bids"=nC (.ref f))(B:mg "isinstance"=su)(L:mg "list"=su)
 (T:Z3 P w K mg base 10 "depth_over" ["bids"] [] (N6 K Zz Zw Zi Zv Zm Zq Zr Zn))
 (U:Z3 P w K mg base 10 "tally_over" ["bids"] [] (N8 K Zz Zw Zi Zv Zm Zq Zr Zn))
 (C:Own K mg "Bid" Zz [])
 (Z7:Own K mg "Only" Zw ["bundle","amount"])
 (ZM:Own K mg "SoMany" Zi ["kind","least","amount"])
 (Z6:Own K mg "UpTo" Zv ["kind","most","each"])
 (ZP:Own K mg "Several" Zm ["bids"])
 (Y:Own K mg "AnyOf" Zq ["bids"])
 (Z:Own K mg "OneOf" Zr ["bids"])
 (ZQ:Own K mg "Stock" Zn ["numbers","kinds"])
 (M:jaE K (.ref Zz) (.ref Zz)=nC qm)
 (N:jaE K (.ref Zw) (.ref Zz)=nC qm)
 (X:jaE K (.ref Zi) (.ref Zz)=nC qm)
 (O:jaE K (.ref Zv) (.ref Zz)=nC qm)
 (WN:jaE K (.ref Zm) (.ref Zz)=nC qm)
 (R:jaE K (.ref Zq) (.ref Zz)=nC qm)
 (S:jaE K (.ref Zr) (.ref Zz)=nC qm)
 (VL:jaE K (.ref Zn) (.ref Zz)=nC vh)(g:jf1 "NoBid" ZG Bp "ValueError.__new__" mg base):
 X3 cN P w K mg base 11 "check_bids" ["bids"] (Oe K Zz Zw Zi Zv Zm Zq Zr Zn Zt ZG Zo Zu):=by
 have q:∀{H:Hp}{b:pA}{d:Nat}{A:pA->Prop}{t:Tr},XF Zz Zw Zi Zv Zq Zr A H d b t->∃t,TY K H (.ref b) t/\jaE K t (.ref Zz)=nC qm:=λ{H b d A t}j=>by
  cases d with
  |zero=>exact j.elim
  |succ d=>
   cases t with
   |leaf f=>
    obtain⟨_,j⟩:=j
    cases f<;>obtain⟨dx,e⟩:=j
    .exact⟨_,C.ty e,M⟩
    .exact⟨_,Z7.ty e,N⟩
    .exact⟨_,ZM.ty e,X⟩
    .exact⟨_,Z6.ty e,O⟩
   |node any ts=>
    obtain⟨dx,l,bs,e,_⟩:=j
    cases any
    .exact⟨_,Z.ty e,S⟩
    .exact⟨_,Y.ty e,R⟩
 refine F.Nv ZZ (RV F λ_ _ _ _ _ _ _=>rfl) Tc (λvs H Q E h=>?_) (λaa A r s H vs Q E G h=>?_)
 .obtain⟨l,bs,ts,A,d,rfl,_⟩:=h;rfl
 obtain⟨l,bs,ts,A,d,rfl,o,D,hd,J,ab,th⟩:=h
 refine⟨_,(Zd (ZR (YF (Yg (RD .lst rfl B rfl L (Ze 0)))) (Zh (Xe (c:=cN) (E:=E) rfl jcL g rfl rfl rfl (Za Zf Zb) rfl rfl rfl (λ_ _ z=>z))) ZF)
  (Zd (Uz GZ rfl (Ws (Ze 0)) (Ym (i:=1) Tc.nd rfl (jbI rfl)) (Zh (ZR (YF (Yg (Jj rfl B rfl C.at_ (Ze 1)))) (Zh (Xe (c:=cN) (E:=E) rfl jcL g rfl rfl rfl (Za Zf Zb) rfl rfl rfl (λ_ _ z=>z))) ZF)))
  (Zd (ZR (ZK R6 (Zx T G (by first|decide|omega) rfl (Za (Ze 0) Zb)) Zc (Yb _)) (Zh (Xe (c:=cN) (E:=E) rfl jcL g rfl rfl rfl (Za Zf Zb) rfl rfl rfl (λ_ _ z=>z))) ZF)
  (Zh (ZR (ZK R6 (Zx U G (by first|decide|omega) rfl (Za (Ze 0) Zb)) Zc (Yb _)) (Zh (Xe (c:=cN) (E:=E) rfl jcL g rfl rfl rfl (Za Zf Zb) rfl rfl rfl (λ_ _ z=>z))) ZF))))),?_⟩
 refine⟨_,rfl,_,.lst,rfl,TY.lst o,_,rfl,Yn ?_⟩
 refine⟨_,rfl,l,rfl,⟨_,Yy.of o⟩,?_⟩
 refine J6 (xs:=bs.map V.ref) (λi p m=>m=H/\∃y,p=[nC (.ref l),y]) ?_ ?_ ?_ ?_
 .exact⟨rfl,_,rfl⟩
 .rintro i p m _ ⟨rfl,_⟩;exact Yy.of o
 .rintro i v p m hv ⟨rfl,y,rfl⟩
  obtain⟨b,t,rfl,j,I,ib⟩:=D.at hv
  obtain⟨t,I,hk⟩:=q ib
  exact⟨_,rfl,_,t,qm,rfl,I,hk,_,rfl,Yn ⟨rfl,_,rfl⟩⟩
 .rintro p m ⟨rfl,y,rfl⟩
  have n:Xb (XF Zz Zw Zi Zv Zq Zr A m 4) bs ts:=D.imp λx y J z=>XF.to d 4 z (by have:=Tn J;omega)
  refine⟨_,rfl,l,bs,ts,A,rfl,o,n,by omega,λH1 u=>⟨_,_,rfl,rfl,_,rfl,?_⟩⟩
  rw[decide_eq_false (show¬(4:Int)<((1+Yr ts:Nat):Int)by omega)]
  refine Yn ?_
  refine⟨_,rfl,l,bs,ts,A,rfl,u _ _ o,n.imp λx y _ z=>z.same u,by omega,λH2 s2=>⟨_,_,rfl,rfl,_,rfl,?_⟩⟩
  rw[decide_eq_true (show(24:Int)<((1+Z8 ts:Nat):Int)by omega)]
  exact Ys ⟨(by show 1<=qd;decide),λa ha=>th.2.1 _ a (u.trans s2) ha⟩
theorem T7{f:pA}{n:jaF}(F:Xl K "__init__" "Several.__init__" W0 f n)(j:mg "list"=su)(b:X3 cN P w K mg base 11 "check_bids" ["bids"] (Io (R1 K Zz Zw Zi Zv Zm Zq Zr Zn) (Oe K Zz Zw Zi Zv Zm Zq Zr Zn Zt ZG Zo Zu))):Hi cN P w K mg base 12 f ["self","bids"] (W7 K Zz Zw Zi Zv Zm Zq Zr Zn Zt ZG Zo Zu):=by
 refine F.uM (VF F λ_ _ _ _ _ _ _ _=>rfl) SQ (λv H Q E h=>?_) (λm A g s H v Q E r h=>?_)
 .obtain⟨a,l,bs,i,A,d,rfl,_⟩:=h;rfl
 obtain⟨a,l,bs,i,A,d,rfl,q,o,p,t,e,u⟩:=h
 refine⟨_,(Zd (Yx (YB (c:=cN) (E:=E) b r (by first|decide|omega) rfl (Za (Ze 1) Zb) (WY rfl rfl rfl (λ_ _ z=>z))))
  (Zh (Xj (Ze 0) (Vf OD rfl j (jit) (Za (Ze 1) Zb))))),?_⟩
 exact⟨_,rfl,.inr ⟨l,bs,i,A,d,rfl,q,o,p,t,e,u⟩⟩
theorem Fi(d:Nat){f:pA}{fd:jaF}(F:Xl K "bids_told" "bids_told" UL f fd)(ZZ:mg "bids_told"=nC (.ref f))
 (e:X3 cN P w K mg base (14+2*d) "bid_told" ["text","stock","level"] (Gv K Zz Zw Zi Zv Zm Zq Zr Zn Zt ZG Zo Zu d))(Je:Z3 P w K mg base 1 "parted" ["inner"] [] (Nj K)):
 X3 cN P w K mg base (14+2*d+1) "bids_told" ["inner","stock","level"] (qe K Zz Zw Zi Zv Zm Zq Zr Zn Zt ZG Zo Zu d):=by
 refine F.Nv ZZ (Bq F λ_ _ _ _ _ _ _ _ _=>rfl) Lw (λvs H Q E h=>?_) (λab A Z s H vs Q E hr h=>?_)
 .obtain⟨L,a,Y,W,lv,rfl,_⟩:=h;rfl
 obtain⟨L,a,Y,W,lv,rfl,S,hA,hz,U,T,q,th⟩:=h
 refine⟨_,(Zd (ZR (ZK Xv (Ze 0) Zf (Yb _)) (Zh (ZC (ZV Zb))) ZF)
  (Zh (ZC (Ek (E:=E) (ZJ UL) ["inner","stock","level"] ["text"] ["stock","level"] [1,2] rfl rfl rfl ⟨s.heap.objs.size+1,rfl⟩ rfl rfl (by decide+kernel) rfl rfl rfl (λ_ _ z=>z) (Ws (Zx Je hr (by first|decide|omega) rfl (Za (Ze 0) Zb))) (λC j r fp=>(Ym (i:=0) (show jdM (["text","stock","level"]:List Str)from by decide+kernel) rfl (jbI rfl))) (λC j r fp=>Wu) (λC j r fp=>(YB (c:=cN) (E:=E) e hr (by first|decide|omega) rfl (Za (Ze 0) (Za (Ze 1) (Za (Ze 2) Zb))) cB)))))),?_⟩
 refine⟨_,rfl,rfl,_,rfl,?_⟩
 by_cases O:L=[]
 .subst O
  rw[show decide (V.str (tx [])=V.str (jh ""))=qm from decide_eq_true rfl]
  refine Ys ⟨(by show 0<=qd;decide),λl hl=>?_⟩
  exact q [] (by show Xb _ [] [];exact Xb.nil) l _ [] (Zk hl _) hl Zj Xb.nil
 .rw[show decide (V.str (tx L)=V.str (jh ""))=vh from decide_eq_false (λz=>O (QM (m:=[]) (V.str.inj z)))]
  have hp:iQ L=pieces L:=if_neg O
  rw[hp]at q th
  have pj:=(Ld L).1
  have pc:=Jp [59,32] (by decide) (pieces L)
  rw[pj]at pc
  refine Yn ⟨_,rfl,L,rfl,hA,hz,λX N G ac ex=>?_⟩
  refine⟨X,rfl,⟨_,Yy.of ex⟩,λo R=>?_⟩
  refine Uj (xs:=((pieces L).map tx).map V.str) (λk J=>Z5 N J/\∃(bs:List pA)(p:List Tr),J o=nC (.lst (bs.map V.ref))/\Xb (λy t=>YS Y (kdOf W) d t y/\Yj t<=24) ((pieces L).take k) p/\Xb (XF Zz Zw Zi Zv Zq Zr (λx=>N x=su/\x≠o) J d) bs p) ⟨Zk R _,[],[],Zj,Xb.nil,Xb.nil⟩ (λk J _⟨s',_⟩=>Yy.of (s' _ _ ex)) ?_ ?_
  .rintro k v r hv ⟨j,bs,p,n,B,M⟩ K1 K0 k1 k0
   rw[jdq,jcF]at hv
   obtain⟨x,g,rfl⟩:=jcT.mp hv
   have D:=jcE g
   have tk:(pieces L).take (k+1)=(pieces L).take k++[x]:=by rw[jdE,g];rfl
   have X:=UG [59,32] (pieces L) x D
   rw[pj]at X
   refine⟨_,rfl,_,rfl,_,rfl,x,a,Y,W,lv,rfl,Yu.same (G.trans j) S,λc hc=>hA c (by rw[<-pj];exact mem_join D hc),by omega,U,T,λt ht ty b H3 I it=>k1 _ _ _ (I _ _ n) ?_ ⟨(j.trans I).upd R _,bs++[b],p++[t],by rw[Zj,jcA];rfl,by rw[tk];exact B.snoc ⟨ht,ty⟩,?_⟩,λno=>(th ?_).same (G.trans j)⟩
   .rw[rz,M.1,<-B.1,jcB,jcD];omega
   .have n2:¬(N o=su/\o≠o):=λz=>z.2 rfl
    exact(M.imp λx y _ z=>(XF.same I z).put (I _ _ n) n2).snoc ((it.imp λx zs g _=>⟨j.free g,λz=>by rw[z,n]at g;cases g⟩).put (I _ _ n) n2)
   .rintro⟨aa,u⟩
    have hk:k<aa.length:=by rw[<-u.1];exact(jcP.mp g).1
    exact no ⟨_,u.2 k _ _ g (sH hk)⟩
  .rintro r ⟨j,bs,p,n,B,M⟩
   rw[rz,rz,jc2]at B
   exact q p B o r bs (G.trans j) (G.free R) n (M.imp λ_ _ _ z=>z.imp λx zs g _=>⟨G.free g.1,g.2⟩)
theorem Fg{f:pA}{p:jaF}(F:Xl K "bid_told" "bid_told" Sd f p)(n:mg "bid_told"=nC (.ref f))(b:X3 cN P w K mg base 13 "bids_told" ["inner","stock","level"] (λ_ _ _ _=>False))(d:X3 cN P w K mg base 6 "plain_bid_told" ["words","stock"] (Io (Vd K Zz Zw Zi Zv Zm Zq Zr Zn) (W3 K Zz Zw Zi Zv Zm Zq Zr Zn Zt ZG Zo Zu)))(g:Nu cN P w K mg base 12 "AnyOf" Zq ["self","bids"] (Io (YC K Zq Zz Zw Zi Zv Zm Zq Zr Zn) (W7 K Zz Zw Zi Zv Zm Zq Zr Zn Zt ZG Zo Zu)))(i:Nu cN P w K mg base 12 "OneOf" Zr ["self","bids"] (Io (YC K Zr Zz Zw Zi Zv Zm Zq Zr Zn) (W7 K Zz Zw Zi Zv Zm Zq Zr Zn Zt ZG Zo Zu)))(e:jf1 "NoText" Zt Bp "ValueError.__new__" mg base):
 X3 cN P w K mg base 14 "bid_told" ["text","stock","level"] (Gv K Zz Zw Zi Zv Zm Zq Zr Zn Zt ZG Zo Zu 0):=by
 refine F.Nv n (Bq F λ_ _ _ _ _ _ _ _ _=>rfl) K6 (λG H Q E h=>?_) (λo A l s H G Q E j h=>?_)
 .obtain⟨x,a,C,B,m,rfl,_⟩:=h;rfl
 obtain⟨x,a,C,B,m,rfl,r,I,J,y,v,q,D⟩:=h
 refine⟨_,(Zd (ZR (ZK R6 (Ze 2) Zc (Yb _)) (Zh (Xe (c:=cN) (E:=E) rfl jcL e rfl rfl rfl (Za Zf Zb) rfl rfl rfl (λ_ _ z=>z))) ZF)
  (Zd (ZR (Tg (VD (Yg (V8 (Ze 0) Zf)) (WM (Yg (Kl (Ze 0) Zf))))) (Zh (ZC (Tf (c:=cN) (E:=E) g j (by first|decide|omega) rfl (Za (YB (c:=cN) (E:=E) b j (by first|decide|omega) rfl (Za (Yc YM (Ze 0) (ZW Zc) (ZW (FN xn Zc))) (Za (Ze 1) (Za (Zg (Xc Yh) (Ze 2) Zc) Zb))) (WY rfl rfl rfl (λ_ _ z=>z))) Zb) (WY rfl rfl rfl (λ_ _ z=>z))))) ZF)
  (Zd (ZR (Tg (VD (Yg (V8 (Ze 0) Zf)) (WM (Yg (Kl (Ze 0) Zf))))) (Zh (ZC (Tf (c:=cN) (E:=E) i j (by first|decide|omega) rfl (Za (YB (c:=cN) (E:=E) b j (by first|decide|omega) rfl (Za (Yc YM (Ze 0) (ZW Zc) (ZW (FN xn Zc))) (Za (Ze 1) (Za (Zg (Xc Yh) (Ze 2) Zc) Zb))) (WY rfl rfl rfl (λ_ _ z=>z))) Zb) (WY rfl rfl rfl (λ_ _ z=>z))))) ZF)
  (Zh (ZC (YB (c:=cN) (E:=E) d j (by first|decide|omega) rfl (Za (Ow (Ze 0) Zf) (Za (Ze 1) Zb)) (WY rfl rfl rfl (λ_ _ z=>z)))))))),?_⟩
 refine⟨_,rfl,_,_,rfl,rfl,_,rfl,?_⟩
 rw[decide_eq_true (show((4:Int)<(m:Int))by omega)]
 exact Ys ⟨(by show 1<=qd;decide),λa u=>(D λ⟨t,z,_⟩=>z).1 _ a (Z5.refl _) u⟩
theorem DP(d:Nat){f:pA}{fd:jaF}(F:Xl K "bid_told" "bid_told" Sd f fd)(ZZ:mg "bid_told"=nC (.ref f))
 (g:X3 cN P w K mg base (14+2*d+1) "bids_told" ["inner","stock","level"] (qe K Zz Zw Zi Zv Zm Zq Zr Zn Zt ZG Zo Zu d))(i:X3 cN P w K mg base 6 "plain_bid_told" ["words","stock"] (Io (Vd K Zz Zw Zi Zv Zm Zq Zr Zn) (W3 K Zz Zw Zi Zv Zm Zq Zr Zn Zt ZG Zo Zu)))(r:Nu cN P w K mg base 12 "AnyOf" Zq ["self","bids"] (Io (YC K Zq Zz Zw Zi Zv Zm Zq Zr Zn) (W7 K Zz Zw Zi Zv Zm Zq Zr Zn Zt ZG Zo Zu)))(v:Nu cN P w K mg base 12 "OneOf" Zr ["self","bids"] (Io (YC K Zr Zz Zw Zi Zv Zm Zq Zr Zn) (W7 K Zz Zw Zi Zv Zm Zq Zr Zn Zt ZG Zo Zu)))(n:jf1 "NoText" Zt Bp "ValueError.__new__" mg base):
 X3 cN P w K mg base (14+2*d+2) "bid_told" ["text","stock","level"] (Gv K Zz Zw Zi Zv Zm Zq Zr Zn Zt ZG Zo Zu (d+1)):=by
 refine F.Nv ZZ (Bq F λ_ _ _ _ _ _ _ _ _=>rfl) K6 (λvs H Q E h=>?_) (λah A ag s H vs Q E hr h=>?_)
 .obtain⟨x,a,I,J,Y,rfl,_⟩:=h;rfl
 obtain⟨x,a,I,J,Y,rfl,m,hA,hz,av,ar,q,th⟩:=h
 have U:=LR m
 have hG:=m
 obtain⟨am,ai,al,aw,_,_,_,_,_,g6,ap,ab,an⟩:=hG
 have D:I.length<=6:=g6
 refine⟨_,(Zd (ZR (ZK R6 (Ze 2) Zc (Yb _)) (Zh (Xe (c:=cN) (E:=E) rfl jcL n rfl rfl rfl (Za Zf Zb) rfl rfl rfl (λ_ _ z=>z))) ZF)
  (Zd (ZR (Tg (VD (Yg (V8 (Ze 0) Zf)) (WM (Yg (Kl (Ze 0) Zf))))) (Zh (ZC (Tf (c:=cN) (E:=E) r hr (by first|decide|omega) rfl (Za (YB (c:=cN) (E:=E) g hr (by first|decide|omega) rfl (Za (Yc YM (Ze 0) (ZW Zc) (ZW (FN xn Zc))) (Za (Ze 1) (Za (Zg (Xc Yh) (Ze 2) Zc) Zb))) (WY rfl rfl rfl (λ_ _ z=>z))) Zb) (WY rfl rfl rfl (λ_ _ z=>z))))) ZF)
  (Zd (ZR (Tg (VD (Yg (V8 (Ze 0) Zf)) (WM (Yg (Kl (Ze 0) Zf))))) (Zh (ZC (Tf (c:=cN) (E:=E) v hr (by first|decide|omega) rfl (Za (YB (c:=cN) (E:=E) g hr (by first|decide|omega) rfl (Za (Yc YM (Ze 0) (ZW Zc) (ZW (FN xn Zc))) (Za (Ze 1) (Za (Zg (Xc Yh) (Ze 2) Zc) Zb))) (WY rfl rfl rfl (λ_ _ z=>z))) Zb) (WY rfl rfl rfl (λ_ _ z=>z))))) ZF)
  (Zh (ZC (YB (c:=cN) (E:=E) i hr (by first|decide|omega) rfl (Za (Ow (Ze 0) Zf) (Za (Ze 1) Zb)) (WY rfl rfl rfl (λ_ _ z=>z)))))))),?_⟩
 refine⟨_,rfl,_,_,rfl,rfl,_,rfl,?_⟩
 rw[decide_eq_false (show¬((4:Int)<(Y:Int))by omega)]
 refine Yn ?_
 have af:(tx x).length<=100000:=by rw[Yo];omega
 have ac:x.length<=qd:=by rw[jcD];omega
 have ea:jh "any("=tx nD:=rfl
 have eo:jh "one("=tx nF:=rfl
 refine⟨_,rfl,_,rfl,_,rfl,_,rfl,?_⟩
 rw[ea,Ql]
 cases hb1:brk qm x with
 |true=>
  obtain⟨L,rfl⟩:=z7.mp hb1
  have N:=mU (WQ qm) L 41 (VJ _)
  have W:je1 (tx (WQ qm++L++[41])) (jh ")")=qm:=Aj _ 41
  have C:L.length<=2000:=by rw[O1,O1]at hz;omega
  rw[show(List.take (nD:List Nat).length (WQ qm++L++[41])==(nD:List Nat))=qm from beq_iff_eq.mpr rfl]
  refine Ys ⟨_,rfl,_,rfl,_,rfl,_,rfl,?_⟩
  rw[W]
  refine Ys ?_
  refine⟨_,rfl,_,rfl,_,rfl,_,rfl,_,rfl,ac,_,rfl,_,rfl,_,_,nv (Y+1),rfl,rfl,rfl,?_⟩
  rw[N]
  refine⟨L,a,I,J,Y+1,rfl,m,λc hc=>hA c (by simp[hc]),C,by omega,by omega,λj T l M bs B hl Z R=>?_,λno=>th ?_⟩
  .refineλx O nx nd _=>?_
   have G:Z5 M (upd (upd M O (.own x)) x (.ins Zq O [])):=((Z5.refl M).upd nd _).upd nx _
   have o:YS I (kdOf J) (d+1) (.node qm j) (WQ qm++L++[41]):=⟨iQ L,T.imp λ_ _ _ z=>z.1,by rw[wY]⟩
   have h5:5*(1+Z8 j)<=_:=Oi U _ _ _ o
   have h6:1+Yr j<=d+1:=QL _ _ _ o
   by_cases hy:Z8 j<=23
   .refine .inl ⟨x,O,l,bs,j,_,d,rfl,Zj,.inl rfl,G _ _ Z,R.imp λ_ _ _ z=>z.same G,by omega,by omega,λH3 lb s3 h3=>⟨rfl,?_⟩⟩
    obtain⟨S3,nb,it⟩:=rF (Zm:=Zm) (any:=qm) nx nd s3 h3 R rfl
    exact q _ o (show 1+Z8 j<=24 by omega) x _ (B.trans S3) (it.imp λy zs hy _=>hy.elim (λz=>z.1) (λz=>by rw[z];exact B.free nb))
   .refine .inr ⟨x,l,bs,j,_,d,rfl,G _ _ Z,R.imp λ_ _ _ z=>z.same G,by omega,by omega,by omega,(th ?_).same (B.trans G)⟩
    rintro⟨t2,S,ty⟩
    have:=I9 U ab D m.kinds o S
    subst this
    have:1+Z8 j<=24:=ty
    omega
  .rintro⟨t,o,ty⟩
   obtain⟨j,rfl,T⟩:=rG U o
   have:1+Z8 j<=24:=ty
   exact no ⟨j,T.imp λy u hu z=>⟨z,by have:=Tu hu;omega⟩⟩
 |false=>
 apply bc
 .intro y
  cases hs:(x.take nD.length==nD)with
  |false=>exact Yn y
  |true=>
   refine Ys ⟨_,rfl,_,rfl,_,rfl,_,rfl,?_⟩
   have W:je1 (tx x) (jh ")")=vh:=by
    unfold brk at hb1
    rw[show(x.take 4==WQ qm)=qm from hs,jea]at hb1
    exact hb1
   rw[W]
   exact Yn y
 refine⟨_,rfl,_,rfl,_,rfl,_,rfl,?_⟩
 rw[eo,Ql]
 cases hb2:brk vh x with
 |true=>
  obtain⟨L,rfl⟩:=z7.mp hb2
  have N:=mU (WQ vh) L 41 (VJ _)
  have W:je1 (tx (WQ vh++L++[41])) (jh ")")=qm:=Aj _ 41
  have C:L.length<=2000:=by rw[O1,O1]at hz;omega
  rw[show(List.take (nF:List Nat).length (WQ vh++L++[41])==(nF:List Nat))=qm from beq_iff_eq.mpr rfl]
  refine Ys ⟨_,rfl,_,rfl,_,rfl,_,rfl,?_⟩
  rw[W]
  refine Ys ?_
  refine⟨_,rfl,_,rfl,_,rfl,_,rfl,_,rfl,ac,_,rfl,_,rfl,_,_,nv (Y+1),rfl,rfl,rfl,?_⟩
  rw[N]
  refine⟨L,a,I,J,Y+1,rfl,m,λc hc=>hA c (by simp[hc]),C,by omega,by omega,λj T l M bs B hl Z R=>?_,λno=>th ?_⟩
  .refineλx O nx nd _=>?_
   have G:Z5 M (upd (upd M O (.own x)) x (.ins Zr O [])):=((Z5.refl M).upd nd _).upd nx _
   have o:YS I (kdOf J) (d+1) (.node vh j) (WQ vh++L++[41]):=⟨iQ L,T.imp λ_ _ _ z=>z.1,by rw[wY]⟩
   have h5:5*(1+Z8 j)<=_:=Oi U _ _ _ o
   have h6:1+Yr j<=d+1:=QL _ _ _ o
   by_cases hy:Z8 j<=23
   .refine .inl ⟨x,O,l,bs,j,_,d,rfl,Zj,.inr rfl,G _ _ Z,R.imp λ_ _ _ z=>z.same G,by omega,by omega,λH3 lb s3 h3=>⟨rfl,?_⟩⟩
    obtain⟨S3,nb,it⟩:=rF (Zm:=Zm) (any:=vh) nx nd s3 h3 R rfl
    exact q _ o (show 1+Z8 j<=24 by omega) x _ (B.trans S3) (it.imp λy zs hy _=>hy.elim (λz=>z.1) (λz=>by rw[z];exact B.free nb))
   .refine .inr ⟨x,l,bs,j,_,d,rfl,G _ _ Z,R.imp λ_ _ _ z=>z.same G,by omega,by omega,by omega,(th ?_).same (B.trans G)⟩
    rintro⟨t2,S,ty⟩
    have:=I9 U ab D m.kinds o S
    subst this
    have:1+Z8 j<=24:=ty
    omega
  .rintro⟨t,o,ty⟩
   obtain⟨j,rfl,T⟩:=rG U o
   have:1+Z8 j<=24:=ty
   exact no ⟨j,T.imp λy u hu z=>⟨z,by have:=Tu hu;omega⟩⟩
 |false=>
 apply bc
 .intro y
  cases hs:(x.take nF.length==nF)with
  |false=>exact Yn y
  |true=>
   refine Ys ⟨_,rfl,_,rfl,_,rfl,_,rfl,?_⟩
   have W:je1 (tx x) (jh ")")=vh:=by
    unfold brk at hb2
    rw[show(x.take 4==WQ vh)=qm from hs,jea]at hb2
    exact hb2
   rw[W]
   exact Yn y
 obtain⟨ws,aa,w0,wf,wj⟩:=split_list x 32
 refine⟨_,rfl,_,rfl,af,_,rfl,rfl,λwl ae=>?_⟩
 rw[show jh " "=tx [32]from rfl,aa]
 have B:=Zk ae (.lst ((ws.map tx).map V.str))
 refine⟨_,rfl,?_⟩
 by_cases hf:∃f,Wf f/\UW I (kdOf J) f ws
 .obtain⟨f,X,hW⟩:=hf
  exact .inl ⟨wl,a,I,J,ws,f,rfl,Yy.of Zj,Yu.same B m,X,hW,λb H' s' hb=>q (.leaf f) ⟨X,ws,hW,wj.symm⟩ (show 1<=24 by decide) b H' (B.trans s') ⟨X,hb⟩⟩
 .refine .inr ⟨wl,a,I,J,ws,rfl,Yy.of Zj,Yu.same B m,λp hp=>⟨λc hc=>hA c (by rw[<-wj];exact mem_join hp hc),by have:=UG [32] ws p hp;rw[wj]at this;omega⟩,hf,(th ?_).same B⟩
  rintro⟨t,o,_⟩
  obtain⟨f,rfl,ok,ad,hW,e⟩:=gM o hb1 hb2
  obtain⟨w1,_,w3⟩:=Kf U ok hW
  have e2:ad.map tx=ws.map tx:=by rw[<-uC w1 w3,<-e,aa]
  have e3:ad=ws:=List.map_inj_right (λ_ _ z=>QM z)|>.mp e2
  exact hf ⟨f,ok,by rw[<-e3];exact hW⟩
end
noncomputable def Lx (K:oh) (Zz Zw Zi Zv Zm Zq Zr Zn Zt ZG Zo Zu:pA):Sp:=λe H Q E=>∃(a:pA)(d b:List (List Nat)),Yu Zn H a d b/\Throws Zt H E/\
 ((∃v n,e=[v,.ref a]/\Mm K H v n/\kh n .str=vh)\/∃x:List Nat,e=[.str (tx x),.ref a]/\(∀c∈x,c<128)/\x.length<=3000/\¬(x.length<=2000/\∃t,YS d (kdOf b) 4 t x/\Yj t<=24))
section
variable{P:jcz}{w:jcS}{K:oh}{mg:Str->Option pL}{base:jcX}
variable{Zz Zw Zi Zv Zm Zq Zr Zn Zt ZG Zo Zu:pA}
theorem pC{m n:pA}{g i:jaF}(l:Xl K "bid_told" "bid_told" Sd m g)(o:mg "bid_told"=nC (.ref m))(f:Xl K "bids_told" "bids_told" UL n i)(p:mg "bids_told"=nC (.ref n))
 (q:Z3 P w K mg base 1 "parted" ["inner"] [] (Nj K))(a:X3 cN P w K mg base 6 "plain_bid_told" ["words","stock"] (Io (Vd K Zz Zw Zi Zv Zm Zq Zr Zn) (W3 K Zz Zw Zi Zv Zm Zq Zr Zn Zt ZG Zo Zu)))(c:Nu cN P w K mg base 12 "AnyOf" Zq ["self","bids"] (Io (YC K Zq Zz Zw Zi Zv Zm Zq Zr Zn) (W7 K Zz Zw Zi Zv Zm Zq Zr Zn Zt ZG Zo Zu)))(e:Nu cN P w K mg base 12 "OneOf" Zr ["self","bids"] (Io (YC K Zr Zz Zw Zi Zv Zm Zq Zr Zn) (W7 K Zz Zw Zi Zv Zm Zq Zr Zn Zt ZG Zo Zu)))(b:jf1 "NoText" Zt Bp "ValueError.__new__" mg base):∀d,X3 cN P w K mg base (14+2*d) "bid_told" ["text","stock","level"] (Gv K Zz Zw Zi Zv Zm Zq Zr Zn Zt ZG Zo Zu d):=by
 intro d
 induction d with
 |zero=>exact Fg l o (f.Nv p (Bq f λ_ _ _ _ _ _ _ _ _=>rfl) Lw (λu H Q E h=>h.elim) (λr A j s H u Q E v h=>h.elim)) a c e b
 |succ d t=>exact DP d l o (Fi d f p t q) a c e b
theorem jbc{c:pL->Prop}{X:Cx}:Te (Bo c X.prog X.w) X (λ_ _ _=>False):=by
 intro b h H s v g I d
 obtain⟨e,a,C,B,rfl,f,q⟩:=d
 exact q.elim
theorem Bx{f:pA}{D:jaF}(F:Xl K "read_bid" "read_bid" Qg f D)(B:mg "read_bid"=nC (.ref f))(y:mg "isinstance"=su)(v:mg "str"=su)(z:mg "len"=su)
 (d:X3 cN P w K mg base 22 "bid_told" ["text","stock","level"] (Gv K Zz Zw Zi Zv Zm Zq Zr Zn Zt ZG Zo Zu 4)):Z3 P w K mg base 23 "read_bid" ["text","stock"] [] (K9 K Zz Zw Zi Zv Zm Zq Zr Zn):=by
 refine F.Yp B (VF F λ_ _ _ _ _ _ _ _=>rfl) K7 (λS H Q E h=>?_) (λC A m s H S Q E L h=>?_)
 .obtain⟨x,a,p,o,t,rfl,_⟩:=h;rfl
 obtain⟨x,a,p,o,t,rfl,e,g,T,n,q⟩:=h
 have i:=LR e
 have N:=Bk i g n
 have l:(tx x).length<=qd:=by rw[Yo,jcD];omega
 have I:=e
 obtain⟨_,_,_,_,_,_,_,_,_,G,_,j,_⟩:=I
 refine⟨_,(Zd (ZR (YF (Yg (RD .str rfl y rfl v (Ze 0)))) (Zh Y6) ZF)
  (Zd (ZR (ZK R6 (Yw YL rfl z jcN (Za (Ze 0) Zb)) Zc (Yb _)) (Zh Y6) ZF)
  (Zh (BZ (Zh (ZC (YB (c:=cN) (E:=λ_ _ _=>False) d L (by first|decide|omega) rfl (Za (Ze 0) (Za (Ze 1) (Za Zc Zb))) jbc))))))),?_⟩
 refine⟨_,rfl,_,.str,rfl,TY.str _,_,rfl,Yn ?_⟩
 refine⟨_,rfl,tx x,rfl,l,_,_,rfl,rfl,_,rfl,?_⟩
 rw[decide_eq_false (show¬((2000:Int)<((tx x).length:Int))by rw[Yo];omega)]
 refine Yn ?_
 exact⟨_,rfl,_,rfl,x,a,p,o,1,rfl,e,(Ud i _ _ _ g).2.1,N,rfl,by omega,λu M _ b r R J=>q b r R (by rw[I9 i j G e.kinds g M];exact J),λO=>(O ⟨t,g,n⟩).elim⟩
theorem DQ{f:pA}{U:jaF}(F:Xl K "read_bid" "read_bid" Qg f U)(S:mg "read_bid"=nC (.ref f))(O:mg "isinstance"=su)(N:mg "str"=su)(R:mg "len"=su)
 (d:X3 cN P w K mg base 22 "bid_told" ["text","stock","level"] (Gv K Zz Zw Zi Zv Zm Zq Zr Zn Zt ZG Zo Zu 4))(b:jf1 "NoText" Zt Bp "ValueError.__new__" mg base)(L:mg "NoName"=nC (.ref Zu))(g:nP K Zu)(M:mg "NoBundle"=nC (.ref Zo))(e:nP K Zo)(J:mg "NoBid"=nC (.ref ZG))(i:nP K ZG)(WX:jcJ K Zt (.ref Zu)=nC vh)(Wk:jcJ K Zt (.ref Zo)=nC vh)(Vh:jcJ K Zt (.ref ZG)=nC vh)(Vg:jcJ K ZG (.ref Zu)=nC vh)(Ww:jcJ K ZG (.ref Zo)=nC vh)(VG:jcJ K ZG (.ref ZG)=nC qm)(Wj:jcJ K Zo (.ref Zu)=nC vh)(XC:jcJ K Zo (.ref Zo)=nC qm)(Vu:jcJ K Zo (.ref ZG)=nC vh)(WW:jcJ K Zu (.ref Zu)=nC qm)(W9:jcJ K Zu (.ref Zo)=nC vh)(Ul:jcJ K Zu (.ref ZG)=nC vh):X3 cT P w K mg base 23 "read_bid" ["text","stock"] (Lx K Zz Zw Zi Zv Zm Zq Zr Zn Zt ZG Zo Zu):=by
 refine F.Nv S (VF F λ_ _ _ _ _ _ _ _=>rfl) K7 (λvs H Q E h=>?_) (λT A C s H vs Q E hr h=>?_)
 .obtain⟨a,I,G,_,_,⟨v,n,rfl,_⟩|⟨x,rfl,_⟩⟩:=h<;>rfl
 have p:hits K Zt [Zu,Zo,ZG]=nC vh:=by simp only[hits,WX,Wk,Vh]
 have o:hits K Zu [Zu,Zo,ZG]=nC qm:=by simp only[hits,WW]
 have q:hits K Zo [Zu,Zo,ZG]=nC qm:=by simp only[hits,Wj,XC]
 have m:hits K ZG [Zu,Zo,ZG]=nC qm:=by simp only[hits,Vg,Ww,VG]
 obtain⟨a,I,G,y,j,h⟩:=h
 refine⟨_,(Zd (ZR (YF (Yg (RD .str rfl O rfl N (Ze 0)))) (Zh (Xe (c:=cT) (E:=E) trivial jcL b rfl rfl rfl (Za Zf Zb) rfl rfl rfl (λ_ _ z=>z))) ZF)
  (Zd (ZR (ZK R6 (Yw YL rfl R jcN (Za (Ze 0) Zb)) Zc (Yb _)) (Zh (Xe (c:=cT) (E:=E) trivial jcL b rfl rfl rfl (Za Zf Zb) rfl rfl rfl (λ_ _ z=>z))) ZF)
  (Zh (qM (E:=E) d hr (by omega) rfl jcL b rfl rfl rfl rfl rfl (λ_ _ z=>z) (.cons rfl L g (.cons rfl M e (.cons rfl J i .nil))) (Za (Ze 0) (Za (Ze 1) (Za Zc Zb))))))),?_⟩
 rcases h with⟨v,n,rfl,Z,hn⟩|⟨x,rfl,X,hz,no⟩
 .refine⟨_,rfl,v,n,rfl,Z,_,rfl,?_⟩
  rw[hn]
  exact Ys ⟨(by show 1<=qd;decide),λa B=>j H a (Z5.refl _) B⟩
 refine⟨_,rfl,_,.str,rfl,TY.str _,_,rfl,Yn ?_⟩
 refine⟨_,rfl,tx x,rfl,by rw[Yo,jcD];omega,_,_,rfl,rfl,_,rfl,?_⟩
 by_cases D:x.length<=2000
 .rw[decide_eq_false (show¬((2000:Int)<((tx x).length:Int))by rw[Yo];omega)]
  refine Yn ?_
  exact⟨_,rfl,_,rfl,x,a,I,G,1,rfl,y,X,D,rfl,by omega,λt Y ty=>absurd ⟨D,t,Y,ty⟩ no,λ_=>
   ⟨λu a s n=>⟨a,_,rfl,rfl,.inr ⟨p,j u a s n⟩⟩,
    λu a s n=>⟨a,_,rfl,rfl,.inl ⟨m,λl r=>j _ l (s.trans (Zk n _)) r⟩⟩,
    λu a s n=>⟨a,_,rfl,rfl,.inl ⟨q,λl r=>j _ l (s.trans (Zk n _)) r⟩⟩,
    λu a s n=>⟨a,_,rfl,rfl,.inl ⟨o,λl r=>j _ l (s.trans (Zk n _)) r⟩⟩⟩⟩
 .rw[decide_eq_true (show((2000:Int)<((tx x).length:Int))by rw[Yo];omega)]
  exact Ys ⟨(by show 1<=qd;decide),λa B=>j H a (Z5.refl _) B⟩
end
end My
namespace L2
open PySem PySem.Spec PyProof.Rows PySem.W
section
variable{X:Cx}
noncomputable def jbp (K:oh):V->List V->Hp->VK->Prop:=λx b H Q=>∃(p:pA)(a:List (List Nat))(n:List Nat),x=.ref p/\b=[.str (tx n)]/\Yy K H p ((a.map tx).map V.str)/\n∈a/\a.length<=1000/\Q (.int ((a.idxOf n:Nat):Int)) H
theorem ug(a b:List Nat):nM (.str (tx a)) (.str (tx b))=decide (a=b):=by
 show decide (tx a=tx b)=_
 rw[decide_eq_decide]
 exact⟨λh=>QM h,λh=>by rw[h]⟩
theorem wg(ns:List (List Nat)):(((ns.map tx).map V.str).all J4)=qm:=by
 rw[jcV]
 intro v a
 obtain⟨z,_,rfl⟩:=jdT.mp a
 rfl
theorem iC{xs:List V}{us:List pL}(r:Vals xs us){j:Nat}{y:V}(h:xs[j]?=nC y)(a:j<us.length):RelV y us[j]:=by
 induction r generalizing j with
 |nil=>cases a
 |cons r t b=>
  cases j with
  |zero=>cases h;exact r
  |succ j=>exact b h _
theorem kY:jbR X "list.index" (jbp X.K):=by
 intro B s S H x xs v R Q I N M h
 obtain⟨p,b,n,rfl,rfl,E,w,P,q⟩:=h
 cases N
 obtain⟨u,rfl,L⟩:=M.one
 obtain⟨a,r,J,_⟩:=I.list E
 obtain⟨⟨cls,C,l,O⟩,A,o,m,t⟩:=id J.isList
 simp only at o t
 subst o t
 have d:a.length=b.length:=by rw[<-r.length,rz,rz]
 have D:b.idxOf n<b.length:=List.idxOf_lt_length_iff.mpr w
 have c:∀k(f:k<a.length),ye (.str (tx n)) a[k]=decide (b.getD k []=n):=λk f=>by
  have e:((b.map tx).map V.str)[k]?=nC (.str (tx (b.getD k []))):=by
   rw[jcF,jcF,sH (by omega),jbG,sH (by omega)];rfl
  rw[uf (iC r e f) rfl,ug]
 refine jgo jhD ⟨_,A,rfl⟩ PySem.F.entry_list_index (PySem.F.args_list_index_2 _ _)
  (SeqAt.list_indexAt p a.toArray m C O u (ye (.str (tx n))) (b.idxOf n) (by simpa[d]using D) (by omega) ?_ ?_) ⟨A,λy G=>Oa L rfl r (wg b) y (by simpa using G),⟨.int ((b.idxOf n:Nat):Int),H,I.tok _,⟨_,rfl⟩,q⟩⟩
 .show ye _ a[b.idxOf n]=qm
  rw[c _ (by omega)]
  exact decide_eq_true (O3 w).2
 .intro k f j
  show ye _ a[k]=vh
  have g:k<a.length:=by simpa using f
  rw[c k g]
  refine decide_eq_false λz=>?_
  have i:k<b.length:=by omega
  have:=List.not_of_lt_findIdx (p:=λy=>y==n) (xs:=b) (show k<b.findIdx (λy=>y==n)from j)
  rw[jbG,sH i]at z
  rw[show b[k]=n from z]at this
  simp at this
theorem uA(n:List Nat)(ns:List (List Nat)):inV (.str (tx n)) ((ns.map tx).map V.str)=decide (n∈ns):=by
 unfold inV
 rw[List.any_map,List.any_map,jeb,decide_eq_true_eq,List.any_eq_true]
 constructor
 .rintro⟨y,a,e⟩
  have:nM (.str (tx y)) (.str (tx n))=qm:=e
  rw[ug,decide_eq_true_eq]at this
  rw[<-this];exact a
 .intro h
  refine⟨n,h,?_⟩
  show nM (.str (tx n)) (.str (tx n))=qm
  rw[ug];exact decide_eq_true rfl
end
section
variable{X:Cx}{e o:Expr}{to:TE}{t:TA}{pos apos cpos:Pos}
theorem Em(f:QE X o to)(d:QA X [e] t)(c:noStar e=qm:=by rfl)(a:jdz o "index" X.env (eval o X.env)=eval o X.env:=by rfl)(b:(apos.endLine==cpos.line)=qm:=by rfl):
 QE X (.Call (.Attribute o "index" apos) [e] [] cpos) (jbN X.K "list" (jbp X.K) to t):=⟨L2.cC jhw jhD PySem.F.type_list_index kY f.h d.h a (pF c) b (Yi c) rfl⟩
end
end L2
namespace L2
open PySem PySem.Spec PyProof.Rows PySem.W Builtin Builtin.Str
theorem xj{p:Nat->Bool}:∀{s:List Nat}{k c:Nat},k<=(s.takeWhile p).length->s[k]?=nC c->if p c=qm then k+1<=(s.takeWhile p).length else k=(s.takeWhile p).length
 |[],k,c,_,h=>by simp at h
 |a::s,0,c,_,h=>by
  cases h
  rw[jfc]
  cases hp:p a<;>simp
 |a::s,k+1,c,hk,h=>by
  rw[jfc]at hk|-
  cases hp:p a with
  |false=>rw[hp]at hk;simp at hk
  |true=>
   rw[hp]at hk
   simp only[if_true,jc7]at hk|-
   have:=xj (p:=p) (s:=s) (k:=k) (c:=c) (by omega) h
   split<;>split at this<;>first|omega|contradiction
theorem qy{p:Nat->Bool}(s:List Nat):(s.takeWhile p).length<=s.length:=(List.takeWhile_sublist _).length_le
theorem xm{p:Nat->Bool}(s:List Nat):s.take (s.takeWhile p).length=s.takeWhile p:=(List.prefix_iff_eq_take.mp (List.takeWhile_prefix p)).symm
theorem xg{p:Nat->Bool}(s:List Nat):s.drop (s.takeWhile p).length=s.dropWhile p:=by
 have a:=jfu (s.takeWhile p).length s
 rw[xm]at a
 exact List.append_cancel_left (a.trans (IV p s))
theorem mW:∀c,c<128->(jdw (jh "0123456789") (tx [c]) 0 10 1).isEmpty=!isF c:=by decide+kernel
theorem gP:∀c,c<128->(jdw (jh "abcdefghijklmnopqrstuvwxyz") (tx [c]) 0 26 1).isEmpty=!isA c:=by decide+kernel
theorem Vq(l:List Nat)(a n:Nat):Vp l (nC (a:Int)) (nC ((a+n:Nat):Int))=(l.drop a).take n:=by
 unfold Vp
 rw[Um,Um]
 by_cases h:a+n<=l.length
 .rw[jdJ h,jdJ (by omega),jfe]
 .rw[jfg (show l.length<=a+n by omega)]
  by_cases b:a<=l.length
  .rw[jdJ b,jdp (by rw[jcG];exact U6 _),jdp (by rw[jcG];omega)]
  .rw[jfg (by omega),jej (U6 _),jej (by omega)];simp
theorem gb:∀b<64,∀k<6,decide (b/2^k&&&1=1)=b.testBit k:=by decide+kernel
theorem R3(a b:List Nat):decide (V.str (tx a)=V.str (tx b))=decide (a=b):=by
 rw[decide_eq_decide]
 exact⟨λh=>QM (V.str.inj h),λh=>by rw[h]⟩
end L2
namespace My
open PySem PySem.Spec PyProof.Rows L2 GM
theorem qx(C:Prop){Y G:Prop}(f:(C->Y)->G)(y:C->Y):G:=f y
theorem R8{a:Type}{x:List a}{i:Nat}{v:a}(h:x[i]?=nC v):Ac x (i:Int)=nC v:=by
 have:=(jcP.mp h).1
 unfold Ac cj
 rw[if_pos (by omega),if_pos (by omega)]
 simp[h]
theorem Es{x:List Nat}{i:Nat}(h:i<x.length):Ac x (i:Int)=nC x[i]:=by
 unfold Ac cj
 rw[if_pos (by omega),if_pos (by omega)]
 simp[h]
noncomputable def Ly (f:oh):Sp:=λe H Q _=>∃(x:List Nat)(i d b:Nat),e=[.str (tx x),nv i,nv d,nv b]/\(∀c∈x,c<128)/\x.length<=3000/\i<=x.length/\
 (Gp d b (x.drop i)=su->∀l a,Z5 H a->H l=su->a l=nC (.lst [])->Q (.ref l) a)/\(∀m j,j<=x.length->Gp d b (x.drop i)=nC (m,x.drop j)->∀l a,Z5 H a->H l=su->a l=nC (.lst [nv m,nv j])->Q (.ref l) a)
noncomputable def Iz (b:oh):Sp:=λa H Q _=>∃(x:List Nat)(i:Nat),a=[.str (tx x),nv i]/\(∀c∈x,c<128)/\x.length<=3000/\i<=x.length/\Q (.str (tx ((x.drop i).takeWhile isA))) H
section
variable{P:jcz}{w:jcS}{K:oh}{mg:Str->Option pL}{base:jcX}
theorem yx{f:pA}{B:jaF}(F:Xl K "_law_letters" "_law_letters" Lp f B)(t:mg "_law_letters"=nC (.ref f))(r:mg "len"=su):Z3 P w K mg base 1 "_law_letters" ["_law_text_here","_law_at"] [] (Iz K):=by
 refine F.Yp t (VF F λ_ _ _ _ _ _ _ _=>rfl) Ni (λM H Q E h=>?_) (λu A j s H M Q E R h=>?_)
 .obtain⟨x,i,rfl,_⟩:=h;rfl
 obtain⟨x,i,rfl,C,S,O,q⟩:=h
 refine⟨_,(Zd (ZL (i:=2) Ni.nd rfl (jbI rfl) (Ze 1))
  (Zd (Qs jdK (Tg (VD (ZK La (Ze 1) (Yw YL rfl r jcN (Za (Ze 0) Zb)) (Yb _)) (WM (ZK Kw (Z4 Jo (Ze 0) (Ze 1) (λ_ _=>rfl)) Zf (by with_unfolding_all rfl))))) (Zh (ZL (i:=1) Ni.nd rfl (jbI rfl) (Zg (Xc Yh) (Ze 1) Zc))))
  (Zh (ZC (Yc YM (Ze 0) (ZW (Ze 2)) (ZW (Ze 1))))))),?_⟩
 refine⟨_,rfl,?_⟩
 have c:(tx x).length<=qd:=by rw[Yo,jcD];omega
 have G:((x.drop i).takeWhile isA).length<=x.length-i:=by have:=qy (p:=isA) (x.drop i);rw[jcG]at this;exact this
 refine⟨λm n l=>l=H/\∃k,k<=((x.drop i).takeWhile isA).length/\m=x.length-(i+k)/\n=[nC (.str (tx x)),nC (nv (i+k)),nC (nv i)],⟨_,rfl,0,jcY _,rfl,rfl⟩,?_⟩
 rintro m n l ⟨rfl,k,I,rfl,rfl⟩
 refine⟨_,rfl,_,rfl,tx x,rfl,c,_,_,rfl,rfl,_,rfl,?_⟩
 have g:i+k<x.length->decide (((i+k:Nat):Int)<((tx x).length:Int))=qm:=λz=>decide_eq_true (by rw[Yo];omega)
 have b:¬i+k<x.length->decide (((i+k:Nat):Int)<((tx x).length:Int))=vh/\k=((x.drop i).takeWhile isA).length:=λz=>⟨decide_eq_false (by rw[Yo];omega),by omega⟩
 have J:i+k<x.length->x.length-(i+(k+1))<x.length-(i+k):=λz=>by omega
 apply qx (k=((x.drop i).takeWhile isA).length)
 .intro y
  by_cases a:i+k<x.length
  .rw[g a]
   have v:(x.drop i)[k]?=nC x[i+k]:=by rw[jf2];exact sH a
   have d:=xj I v
   have D:=C _ (jds a)
   refine Ys ⟨_,rfl,_,rfl,tx x,_,x[i+k],rfl,rfl,c,?_,_,_,rfl,rfl,_,rfl,?_⟩
   .rw[Wd];exact Es a
   show if(!(jdw (jh "abcdefghijklmnopqrstuvwxyz") (tx [x[i+k]]) 0 26 1).isEmpty)=qm then _ else _
   rw[gP _ D,jhY]
   cases hf:isA x[i+k]with
   |true=>
    rw[if_pos hf]at d
    refine Ys ⟨λN o=>∃L,L<x.length-(i+k)/\_,λ_ _ z=>z,?_⟩
    exact⟨_,rfl,_,_,nv (i+(k+1)),rfl,rfl,rfl,_,J a,rfl,k+1,d,rfl,rfl⟩
   |false=>
    rw[if_neg (by rw[hf];exact jbJ)]at d
    exact Yn (y d)
  .rw[(b a).1]
   exact Yn (Yn (y (b a).2))
 intro e
 subst e
 refine⟨_,rfl,_,rfl,_,rfl,_,rfl,_,rfl,_,rfl,by rw[jcD];omega,?_⟩
 rw[yc x i _ (by omega)]
 rw[show i+((x.drop i).takeWhile isA).length-i=((x.drop i).takeWhile isA).length by omega,xm]
 exact q
theorem wU{f:pA}{fd:jaF}(F:Xl K "_law_number" "_law_number" JD f fd)(ZZ:mg "_law_number"=nC (.ref f))(J:mg "int"=su)(L:mg "len"=su):Z3 P w K mg base 1 "_law_number" ["_law_text_here","_law_at","_law_low","_law_high"] [] (Ly K):=by
 refine F.Yp ZZ (zZ F λ_ _ _ _ _ _ _ _ _ _=>rfl) Pb (λvs H Q E h=>?_) (λab A X s H vs Q E hr h=>?_)
 .obtain⟨x,i,q,hi,rfl,_⟩:=h;rfl
 obtain⟨x,i,q,g,rfl,hA,hz,hi,q0,q1⟩:=h
 refine⟨_,(Zd (ZL (i:=4) Pb.nd rfl (jbI rfl) (Ze 1))
  (Zd (Qs jdK (Tg (VD (ZK La (Ze 1) (Yw YL rfl L jcN (Za (Ze 0) Zb)) (Yb _)) (WM (ZK Kw (Z4 Jo (Ze 0) (Ze 1) (λ_ _=>rfl)) Zf (by with_unfolding_all rfl))))) (Zh (ZL (i:=1) Pb.nd rfl (jbI rfl) (Zg (Xc Yh) (Ze 1) Zc))))
  (Zd (ZL (i:=5) Pb.nd rfl (jbI rfl) (Yc YM (Ze 0) (ZW (Ze 4)) (ZW (Ze 1))))
  (Zd (ZR (Tg (XN (ZK Xv (Ze 5) Zf (Yb _)) (XN (ZK R6 (Yw YL rfl L jcN (Za (Ze 5) Zb)) Zc (Yb _)) (Xn (Tg (VD (ZK R6 (Yw YL rfl L jcN (Za (Ze 5) Zb)) Zc (Yb _)) (WM (ZK Xv (Z4 Jo (Ze 5) Zc (λ_ _=>rfl)) Zf (Yb _))))))))) (Zh (ZC (ZV Zb))) ZF)
  (Zd (ZR (Tg (XN (ZK La (Vf T3 rfl J (jig) (Za (Ze 5) Zb)) (Ze 2) (Yb _)) (Xn (ZK R6 (Vf T3 rfl J (jig) (Za (Ze 5) Zb)) (Ze 3) (Yb _))))) (Zh (ZC (ZV Zb))) ZF)
  (Zh (ZC (ZV (Za (Vf T3 rfl J (jig) (Za (Ze 5) Zb)) (Za (Ze 1) Zb)))))))))),?_⟩
 refine⟨_,rfl,?_⟩
 have C:(tx x).length<=qd:=by rw[Yo,jcD];omega
 have S:((x.drop i).takeWhile isF).length<=x.length-i:=by have:=qy (p:=isF) (x.drop i);rw[jcG]at this;exact this
 refine⟨λm σ D=>D=H/\∃k,k<=((x.drop i).takeWhile isF).length/\m=x.length-(i+k)/\σ=[nC (.str (tx x)),nC (nv (i+k)),nC (nv q),nC (nv g),nC (nv i),su],⟨_,rfl,0,jcY _,rfl,rfl⟩,?_⟩
 rintro m σ D ⟨rfl,k,hk,rfl,rfl⟩
 refine⟨_,rfl,_,rfl,tx x,rfl,C,_,_,rfl,rfl,_,rfl,?_⟩
 have U:i+k<x.length->decide (((i+k:Nat):Int)<((tx x).length:Int))=qm:=λz=>decide_eq_true (by rw[Yo];omega)
 have v:¬i+k<x.length->decide (((i+k:Nat):Int)<((tx x).length:Int))=vh/\k=((x.drop i).takeWhile isF).length:=λz=>⟨decide_eq_false (by rw[Yo];omega),by omega⟩
 have lm:i+k<x.length->x.length-(i+(k+1))<x.length-(i+k):=λz=>by omega
 apply qx (k=((x.drop i).takeWhile isF).length)
 .intro y
  by_cases n:i+k<x.length
  .rw[U n]
   have ek:(x.drop i)[k]?=nC x[i+k]:=by rw[jf2];exact sH n
   have I:=xj hk ek
   have R:=hA _ (jds n)
   refine Ys ⟨_,rfl,_,rfl,tx x,_,x[i+k],rfl,rfl,C,?_,_,_,rfl,rfl,_,rfl,?_⟩
   .rw[Wd];exact Es n
   show if(!(jdw (jh "0123456789") (tx [x[i+k]]) 0 10 1).isEmpty)=qm then _ else _
   rw[mW _ R,jhY]
   cases hf:isF x[i+k]with
   |true=>
    rw[if_pos hf]at I
    refine Ys ⟨λac aa=>∃m',m'<x.length-(i+k)/\_,λ_ _ z=>z,?_⟩
    exact⟨_,rfl,_,_,nv (i+(k+1)),rfl,rfl,rfl,_,lm n,rfl,k+1,I,rfl,rfl⟩
   |false=>
    rw[if_neg (by rw[hf];exact jbJ)]at I
    exact Yn (y I)
  .rw[(v n).1]
   exact Yn (Yn (y (v n).2))
 intro T
 subst T
 refine⟨_,rfl,_,rfl,_,rfl,_,rfl,_,rfl,_,rfl,by rw[jcD];omega,?_⟩
 rw[yc x i _ (by omega)]
 rw[show i+((x.drop i).takeWhile isF).length-i=((x.drop i).takeWhile isF).length by omega,xm]
 have hd:=xg (p:=isF) (x.drop i)
 have ha:=vB (p:=isF) (s:=x.drop i)
 have W:Gp q g (x.drop i)=if Nx ((x.drop i).takeWhile isF)=qm/\q<=Th ((x.drop i).takeWhile isF)/\Th ((x.drop i).takeWhile isF)<=g then nC (Th ((x.drop i).takeWhile isF),x.drop (i+((x.drop i).takeWhile isF).length))else su:=by
  unfold Gp;rw[<-hd,jcR]
 generalize hf:(x.drop i).takeWhile isF=d at W ha S|-
 have B:¬(Nx d=qm/\q<=Th d/\Th d<=g)->∀l,D l=su->Q (.ref l) (upd D l (.lst [])):=λz l j=>q0 (by rw[W,if_neg z]) l _ (Zk j _) j Zj
 have r:(tx d).length<=qd:=by rw[Yo,jcD];omega
 have u:=Kq (f:=d)
 have t0:decide (V.str (tx d)=V.str (jh ""))=decide (d=[]):=by
  rw[decide_eq_decide]
  exact⟨λz=>QM (m:=[]) (V.str.inj z),λz=>by rw[z];rfl⟩
 have t1:decide ((10:Int)<((tx d).length:Int))=decide (10<d.length):=by rw[Yo,decide_eq_decide];omega
 have t2:decide ((1:Int)<((tx d).length:Int))=decide (1<d.length):=by rw[Yo,decide_eq_decide];omega
 have nz:¬d=[]->1<=d.length:=λz=>by cases d with|nil=>exact absurd rfl z|cons a b=>simp
 refine⟨_,rfl,rfl,_,rfl,?_⟩
 rw[t0]
 by_cases t:d=[]
 .rw[decide_eq_true t]
  exact Ys (Ys ⟨(by show 0<=qd;decide),λl j=>B (λz=>by have:=(u.mp z.1).1;rw[t]at this;exact absurd this (by decide)) l j⟩)
 rw[decide_eq_false t]
 refine Yn ⟨_,rfl,tx d,rfl,r,_,_,rfl,rfl,_,rfl,?_⟩
 rw[t1]
 by_cases Y:10<d.length
 .rw[decide_eq_true Y]
  exact Ys (Ys ⟨(by show 0<=qd;decide),λl j=>B (λz=>by have:=(u.mp z.1).2.1;omega) l j⟩)
 rw[decide_eq_false Y]
 refine Yn ⟨_,rfl,tx d,rfl,r,_,_,rfl,rfl,_,rfl,?_⟩
 rw[t2]
 have O:=nz t
 apply qx (Nx d=qm)
 .intro y
  by_cases Z:1<d.length
  .rw[decide_eq_true Z]
   refine Ys ⟨_,rfl,tx d,0,d[0],rfl,rfl,r,by rw[Wd];exact Es (i:=0) O,rfl,_,rfl,?_⟩
   have M:decide (V.str ⟨#[d[0]]⟩=V.str (jh "0"))=decide (d.take 1=[48]):=by
    cases d with
    |nil=>exact absurd rfl t
    |cons a b=>show decide (V.str (tx [a])=V.str (tx [48]))=_;rw[yQ,decide_eq_decide];simp
   rw[M]
   by_cases G:d.take 1=[48]
   .rw[decide_eq_true G]
    exact Ys ⟨(by show 0<=qd;decide),λl j=>B (λz=>by rcases(u.mp z.1).2.2 with e|e;(·exact absurd e (by clear y;omega));exact e G) l j⟩
   .rw[decide_eq_false G]
    exact Yn (y (u.mpr ⟨O,by clear y;omega,.inr G⟩))
  .rw[decide_eq_false Z]
   exact Yn (Yn (y (u.mpr ⟨O,by clear y;omega,.inl (by clear y;omega)⟩)))
 intro o
 obtain⟨e1,e2⟩:=yj (λc R=>Kr.mp (ha c R)) o
 have N:([V.str (tx d)]:List V)=[.str (jh (jda ((Th d:Nat):Int)))]:=by rw[T6,<-e1]
 refine⟨_,rfl,_,N,by omega,by omega,_,rfl,_,_,rfl,rfl,_,rfl,?_⟩
 by_cases c4:Th d<q
 .rw[decide_eq_true (show((Th d:Nat):Int)<(q:Int)by omega)]
  exact Ys (Ys ⟨(by show 0<=qd;decide),λl j=>B (λz=>by omega) l j⟩)
 rw[decide_eq_false (show¬((Th d:Nat):Int)<(q:Int)by omega)]
 refine Yn ⟨_,rfl,_,N,by omega,by omega,_,rfl,_,_,rfl,rfl,_,rfl,?_⟩
 by_cases c5:g<Th d
 .rw[decide_eq_true (show(g:Int)<((Th d:Nat):Int)by omega)]
  exact Ys ⟨(by show 0<=qd;decide),λl j=>B (λz=>by omega) l j⟩
 rw[decide_eq_false (show¬(g:Int)<((Th d:Nat):Int)by omega)]
 refine Yn ⟨_,rfl,_,N,by omega,by omega,_,rfl,(by show 2<=qd;decide),λl j=>?_⟩
 exact q1 (Th d) (i+d.length) (by omega) (by rw[W,if_pos ⟨o,by omega,by omega⟩]) l _ (Zk j _) j Zj
end
noncomputable abbrev Vl (a:List (List Nat)):List Nat->Nat:=λk=>Wb a k a.length
noncomputable def G7 (K:oh):Sp:=λf H Q _=>∃(x:List Nat)(i:Nat)(p r:pA)(e d:List (List Nat)),f=[.str (tx x),nv i,.ref p,.ref r]/\Yy K H p (e.map sv)/\Yy K H r (d.map sv)/\e.length<=6/\d.length<=6/\(∀c∈x,c<128)/\x.length<=3000/\i<=x.length/\
 (Rf e (Vl d) (x.drop i)=su->∀l a,Z5 H a->H l=su->a l=nC (.lst [])->Q (.ref l) a)/\(∀b j,j<=x.length->Rf e (Vl d) (x.drop i)=nC (b,x.drop j)->∀l a,Z5 H a->H l=su->a l=nC (.lst [nv b,nv j])->Q (.ref l) a)
theorem jce(ns:List (List Nat)):ns.map sv=(ns.map tx).map V.str:=by rw[jdq];rfl
theorem wJ(a:List (List Nat))(k:List Nat):∀n,(((jc4 n).filter λi=>decide (a[i]?=nC k)).map λi=>((2^i:Nat):Int)).sum=((Wb a k n:Nat):Int)
 |0=>rfl
 |n+1=>by
  rw[jfq,jeK,jcA,List.sum_append,wJ a k n]
  have c:=Mz a k n
  show _=((if a[n]?=nC k then Wb a k n|||2^n else Wb a k n:Nat):Int)
  by_cases h:a[n]?=nC k
  .rw[if_pos h,jhE (by rw[h];exact decide_eq_true rfl)]
   have:Wb a k n|||2^n=Wb a k n+2^n:=by
    have b:=jgW c 1
    rw[Nat.mul_one]at b
    rw[Nat.or_comm,<-b,Nat.add_comm]
   rw[this];simp
  .rw[if_neg h,jhF (by rw[decide_eq_false h];exact jbJ)];simp
section
variable{P:jcz}{w:jcS}{K:oh}{mg:Str->Option pL}{base:jcX}
theorem wR{f:pA}{fd:jaF}(F:Xl K "_law_bundle" "_law_bundle" Nf f fd)(ZZ:mg "_law_bundle"=nC (.ref f))(Qu:mg "sum"=su)(R:mg "len"=su)(Y9:mg "range"=su)
 (QZ:Z3 P w K mg base 1 "_law_letters" ["_law_text_here","_law_at"] [] (Iz K)):Z3 P w K mg base 2 "_law_bundle" ["_law_text_here","_law_at","_law_names_here","_law_kinds_here"] [] (G7 K):=by
 refine F.Yp ZZ (zZ F λ_ _ _ _ _ _ _ _ _ _=>rfl) Vn (λvs H Q E h=>?_) (λac A Y s H vs Q E O h=>?_)
 .obtain⟨x,i,p,r,a,d,rfl,_⟩:=h;rfl
 obtain⟨x,i,p,r,a,d,rfl,M,hR,n6,k6,hA,hz,hi,q0,q1⟩:=h
 refine⟨_,(Zd (ZR (ZK Xv (Yc YM (Ze 0) (ZW (Ze 1)) (ZW (Zg (Xc Yh) (Ze 1) Zc))) Zf (Yb _)) (Zd (ZL (i:=4) Vn.nd rfl (jjB rfl) (Zx QZ O (by first|decide|omega) rfl (Za (Ze 0) (Za (Zg (Xc Yh) (Ze 1) Zc) Zb))))
  (Zd (ZL (i:=5) Vn.nd rfl (jbI rfl) (Yw (Hr rfl) rfl Qu (boot_sum) (Za (XH (ZJ Nf) ["_law_text_here","_law_at","_law_names_here","_law_kinds_here","_law_kind","_law_found","_law_name"] ["_law_k"] ["_law_kinds_here","_law_kind"] [3,4] rfl rfl rfl ⟨s.heap.objs.size+1,rfl⟩ rfl rfl (by decide+kernel) (Wr rfl Y9 (Za (Yw YK rfl R jcN (Za (Ze 3) Zb)) Zb)) (λC s2 Z fp=>(Ym (i:=0) (show jdM (["_law_k","_law_kinds_here","_law_kind"]:List Str)from by decide+kernel) rfl (jbI rfl))) (λC s2 Z fp=>(JV (ZK Xv (Z4 (YH K) (Ze 1) (Ze 0) (λ_ _=>rfl)) (Ze 2) (Yb _)))) (λC s2 Z fp=>(Zg Qe Zc (Ze 0)))) Zb)))
  (Zh (ZC (v4 (ZK R6 (Ze 5) Zc (Yb _)) (ZV (Za (Ze 5) (Za (Zg (Xc Yh) (Zg (Xc Yh) (Ze 1) Zc) (Yw YL rfl R jcN (Za (Ze 4) Zb))) Zb))) (ZV Zb)))))) ZF)
  (Zd (ZL (i:=5) Vn.nd rfl (jbI rfl) Zc)
  (Zh (Qs jdK (Yg TQ) (Zd (ZL (i:=6) Vn.nd rfl (jbI rfl) (Zx QZ O (by first|decide|omega) rfl (Za (Ze 0) (Za (Ze 1) Zb))))
   (Zd (ZR (Tg (XN (ZK Qd (Ze 6) (Ze 2) (by with_unfolding_all rfl)) (Xn (ZK Xv (Zg yF (Zg rM (Ze 5) (Em (Ze 2) (Za (Ze 6) Zb))) Zc) Zc (Yb _))))) (Zh (ZC (ZV Zb))) ZF)
   (Zd (ZL (i:=5) Vn.nd rfl (jbI rfl) (Zg (Xc Yh) (Ze 5) (Zg Qe Zc (Em (Ze 2) (Za (Ze 6) Zb)))))
   (Zd (ZL (i:=1) Vn.nd rfl (jbI rfl) (Zg (Xc Yh) (Ze 1) (Yw YL rfl R jcN (Za (Ze 6) Zb))))
   (Zd (ZR (ZK Im (Yc YM (Ze 0) (ZW (Ze 1)) (ZW (Zg (Xc Yh) (Ze 1) Zc))) Zf (Yb _)) (Zh (ZC (ZV (Za (Ze 5) (Za (Ze 1) Zb))))) ZF)
   (Zh (ZL (i:=1) Vn.nd rfl (jbI rfl) (Zg (Xc Yh) (Ze 1) Zc)))))))))))),?_⟩
 have I:x.length<=qd:=by rw[jcD];omega
 refine⟨_,rfl,_,rfl,_,rfl,_,rfl,_,_,nv (i+1),rfl,rfl,rfl,_,rfl,_,rfl,I,rfl,_,rfl,?_⟩
 rw[Vq x i 1,show jh "="=tx [61]from rfl,R3]
 by_cases j:(x.drop i).take 1=[61]
 .rw[decide_eq_true j]
  refine Ys ?_
  have T:i+1<=x.length:=by
   have:=congrArg jd7 j
   rw[jcB,jcG]at this
   simp at this;omega
  refine⟨_,rfl,_,rfl,_,_,nv (i+1),rfl,rfl,rfl,x,i+1,rfl,hA,hz,T,?_⟩
  have S:=xg (p:=isA) (x.drop (i+1))
  have t:((x.drop (i+1)).takeWhile isA).length<=x.length-(i+1):=by have:=qy (p:=isA) (x.drop (i+1));rw[jcG]at this;exact this
  have v:Rf a (Vl d) (x.drop i)=if 0<Vl d ((x.drop (i+1)).takeWhile isA)then nC (Vl d ((x.drop (i+1)).takeWhile isA),x.drop (i+1+((x.drop (i+1)).takeWhile isA).length))else su:=by
   unfold Rf
   rw[if_pos j,jcR,<-S,jcR]
  generalize(x.drop (i+1)).takeWhile isA=o at v t|-
  refine⟨_,rfl,r,_,rfl,.inl hR,_,rfl,by rw[rz];omega,by rw[rz];omega,λp2 W=>?_⟩
  have en:(((d.map sv).length:Nat):Int).toNat=d.length:=by rw[rz];simp
  rw[en]
  refine T5 (λk=>decide (d[k]?=nC o)) (λk=>nv (2^k)) (by omega) W (λk J N B C X=>?_) (λk J N _ B C X=>?_) (λJ B e5=>?_)
  .rw[jeE]
   have ek:d[k]?=nC d[k]:=sH N
   refine⟨_,rfl,_,rfl,r,_,_,sv d[k],rfl,rfl,B.seq hR,R8 (by rw[jcF,ek];rfl),_,rfl,rfl,_,rfl,?_⟩
   rw[R3]
   have z:=X J (Z5.refl _)
   rw[ek]at z
   rw[show decide (d[k]=o)=decide (nC d[k]=nC o)by rw[decide_eq_decide];exact⟨λh=>by rw[h],λh=>jc8 h⟩]
   exact z
  .rw[jeE]
   exact⟨_,rfl,k,rfl,rfl,by omega,X _ (Z5.refl _)⟩
  .have e6:J p2=nC (.lst ((((jc4 d.length).filter λk=>decide (d[k]?=nC o)).map λk=>((2^k:Nat):Int)).map V.int)):=by rw[e5,jdq];rfl
   refine⟨p2,_,rfl,Yy.of e6,?_⟩
   rw[wJ]
   refine⟨_,rfl,_,_,rfl,rfl,_,rfl,?_⟩
   by_cases L:0<Vl d o
   .rw[decide_eq_true (show(0:Int)<((Wb d o d.length:Nat):Int)by have:0<Wb d o d.length:=L;omega)]
    rw[if_pos L]at v
    refine Ys ⟨_,rfl,_,rfl,_,_,nv (i+1),rfl,rfl,rfl,_,rfl,tx o,rfl,by rw[Yo,jcD];omega,_,_,nv (i+1+o.length),rfl,rfl,by rw[Yo];rfl,(by show 2<=qd;decide),λl e=>?_⟩
    exact q1 _ _ (by omega) v l _ (B.trans (Zk e _)) (B.free e) Zj
   .rw[decide_eq_false (show¬(0:Int)<((Wb d o d.length:Nat):Int)by have:¬0<Wb d o d.length:=L;omega)]
    rw[if_neg L]at v
    exact Yn ⟨(by show 0<=qd;decide),λl e=>q0 v l _ (B.trans (Zk e _)) (B.free e) Zj⟩
 .rw[decide_eq_false j]
  refine Yn ?_
  have v:Rf a (Vl d) (x.drop i)=RX a ((x.drop i).length+1) 0 (x.drop i):=by unfold Rf;rw[if_neg j]
  refine⟨λm σ D=>D=H/\∃(k b n:Nat)(y:Option V),σ=[nC (.str (tx x)),nC (nv k),nC (.ref p),nC (.ref r),su,nC (nv b),y]/\b<64/\k<=x.length/\m=x.length-k/\x.length-k<n/\Rf a (Vl d) (x.drop i)=RX a n b (x.drop k),⟨_,rfl,i,0,_,su,rfl,by omega,hi,rfl,by rw[jcG];omega,v⟩,?_⟩
  rintro m σ D ⟨rfl,k,b,n,y,rfl,hb,N,rfl,hn,O⟩
  obtain⟨n,rfl⟩:∃n',n=n'+1:=⟨n-1,by omega⟩
  refine⟨_,rfl,?_⟩
  refine Ys ⟨λad aa=>∃m',m'<x.length-k/\_,λ_ _ z=>z,?_⟩
  refine⟨_,rfl,_,rfl,x,k,rfl,hA,hz,N,?_⟩
  have S:=xg (p:=isA) (x.drop k)
  have t:((x.drop k).takeWhile isA).length<=x.length-k:=by have:=qy (p:=isA) (x.drop k);rw[jcG]at this;exact this
  have q:RX a (n+1) b (x.drop k)=if(x.drop k).takeWhile isA∈a/\b.testBit (a.idxOf ((x.drop k).takeWhile isA))=vh then
   (if(x.drop (k+((x.drop k).takeWhile isA).length)).take 1=[43]then RX a n (b+2^a.idxOf ((x.drop k).takeWhile isA)) (x.drop (k+((x.drop k).takeWhile isA).length+1))else nC (b+2^a.idxOf ((x.drop k).takeWhile isA),x.drop (k+((x.drop k).takeWhile isA).length)))else su:=by
   rw[<-jcR (i:=1),<-jcR (l:=x),S];rfl
  rw[<-O]at q
  generalize(x.drop k).takeWhile isA=c at q t|-
  have no:¬(c∈a/\b.testBit (a.idxOf c)=vh)->∀l,D l=su->Q (.ref l) (upd D l (.lst [])):=λz l e=>q0 (by rw[q,if_neg z]) l _ (Zk e _) e Zj
  refine⟨_,rfl,_,rfl,p,_,rfl,.inl M,rfl,by rw[jce];exact wg a,_,rfl,?_⟩
  rw[show(if qm=qm then !inV (V.str (tx c)) (a.map sv)else inV (V.str (tx c)) (a.map sv))=!decide (c∈a)by rw[if_pos rfl,jce,uA]]
  by_cases u:c∈a
  .obtain⟨i1,i2⟩:=O3 u
   rw[if_neg (by rw[decide_eq_true u];exact jbJ)]
   have G:Yy K D p ((a.map tx).map V.str):=by rw[<-jce];exact M
   refine⟨_,rfl,_,rfl,.inl ⟨rfl,_,M⟩,_,rfl,p,a,c,rfl,rfl,G,u,by omega,b,a.idxOf c,rfl,rfl,b/2^a.idxOf c,1,rfl,rfl,rfl,_,rfl,?_⟩
   have bo:=gb b hb (a.idxOf c) (by omega)
   rw[show decide (V.int ((b/2^a.idxOf c&&&1:Nat):Int)=V.int 1)=b.testBit (a.idxOf c)by rw[<-bo,decide_eq_decide];exact⟨λz=>by have:=V.int.inj z;omega,λz=>by rw[z];rfl⟩]
   cases hb2:b.testBit (a.idxOf c)with
   |true=>exact Ys ⟨(by show 0<=qd;decide),λl e=>no (λz=>by rw[hb2]at z;cases z.2) l e⟩
   |false=>
    rw[if_pos ⟨u,hb2⟩]at q
    have ab:=FP b hb (a.idxOf c) (by omega) hb2
    refine Yn ⟨_,rfl,_,rfl,.inl ⟨rfl,_,M⟩,_,rfl,p,a,c,rfl,rfl,G,u,by omega,a.idxOf c,rfl,rfl,by omega,_,_,nv (b+2^a.idxOf c),rfl,rfl,rfl,?_⟩
    refine⟨_,rfl,_,rfl,tx c,rfl,by rw[Yo,jcD];omega,_,_,nv (k+c.length),rfl,rfl,by rw[Yo];rfl,?_⟩
    refine⟨_,rfl,_,rfl,_,rfl,_,rfl,_,_,nv (k+c.length+1),rfl,rfl,rfl,_,rfl,_,rfl,I,rfl,_,rfl,?_⟩
    rw[Vq x (k+c.length) 1,show jh "+"=tx [43]from rfl,R3]
    by_cases g:(x.drop (k+c.length)).take 1=[43]
    .rw[decide_eq_true g]
     rw[if_pos g]at q
     have U:k+c.length+1<=x.length:=by
      have:=congrArg jd7 g
      rw[jcB,jcG]at this
      simp at this;omega
     refine Yn ⟨_,rfl,_,_,nv (k+c.length+1),rfl,rfl,rfl,?_⟩
     exact⟨_,by omega,rfl,k+c.length+1,b+2^a.idxOf c,n,nC (.str (tx c)),rfl,by rw[ab.1];exact ab.2.2,U,rfl,by omega,q⟩
    .rw[decide_eq_false g]
     rw[if_neg g]at q
     refine Ys ⟨_,rfl,_,rfl,(by show 2<=qd;decide),λl e=>?_⟩
     exact q1 _ _ (by omega) q l _ (Zk e _) e Zj
  .rw[decide_eq_false u]
   exact Ys (Ys ⟨(by show 0<=qd;decide),λl e=>no (λz=>u z.1) l e⟩)
end
end My
namespace L2
open PySem PySem.Spec PyProof.Rows PySem.W
noncomputable def jb8:R2:=λx y H Q=>∃a b c,x=.ref a/\y=.ref b/\H a=nC (.lst c)/\H b=nC (.lst [])/\Q (.bl c.isEmpty) H
theorem O8{X:Cx}(i:X.A.units<jf9):SJ X (jdj .Eq) jb8:=by
 intro d s C H x y v u Q I j l h
 obtain⟨a,b,w,rfl,rfl,f,g,q⟩:=h
 cases w with
 |nil=>exact jk i d s C H _ _ v u Q I j l ⟨a,b,[],[],rfl,rfl,Yy.of f,Yy.of g,q⟩
 |cons z B=>
  cases j;cases l
  obtain⟨e,r,o,_⟩:=I.list (Yy.of f)
  obtain⟨c,t,p,_⟩:=I.list (Yy.of g)
  have m:B.length+1=e.length:=r.length
  have n:0=c.length:=t.length
  refine jhp o.isList p.isList (by rw[jbF,jbF,<-m,<-n];simp) i _ _ _ _ ?_
  exact⟨.bl vh,H,I,rfl,q⟩
theorem bI(l:List Nat)(a:Nat):Vp l su (nC (a:Int))=l.take a:=by
 unfold Vp
 rw[Um]
 show(l.drop 0).take (min a l.length-0)=_
 rw[jfE,Nat.sub_zero]
 by_cases h:a<=l.length
 .rw[jdJ h]
 .rw[jfg (by omega),jc2,jdp (by omega)]
theorem qX(l:List Nat)(a:Nat):Vp l (nC (a:Int)) su=l.drop a:=by
 by_cases h:a<=l.length
 .exact J1 l a h
 .unfold Vp
  rw[Um,jfg (by omega),jej (U6 _),jej (by omega)];simp
theorem dz:∀c,c<128->(jdw (jh " +;()=") (tx [c]) 0 6 1).isEmpty=!decide (c∈[32,43,59,40,41,61]):=by decide+kernel
end L2
namespace My
open PySem PySem.Spec PyProof.Rows L2 GM
theorem jb1{P:List pL->Prop}:∀{us:List pL},us.length=5->(∀a b c d e,P [a,b,c,d,e])->P us
 |[a,b,c,d,e],_,h=>h a b c d e
theorem mG{K:oh}{x g:Str}{st:jde}{f:pA}{v:jaF}{o p q r t:Str}(F:Xl K x g st f v)(h:∀(kV j n:pL)(l:Option pA)(i m:pL)(a b c d e:pL),jfC (jdx x g (Wa st) (Xi st) (ZJ st) .none kV j n l i m) ⟨[a,b,c,d,e],[]⟩=pure ([o,p,q,r,t].zip [a,b,c,d,e])):Binds K v [o,p,q,r,t] []:=
 F.binds λkV j n l i m u w=>jb1 (P:=λu=>jfC (jdx x g (Wa st) (Xi st) (ZJ st) .none kV j n l i m) ⟨u,[]⟩=pure ([o,p,q,r,t].zip u)) w (h kV j n l i m)
noncomputable def bx (K:oh) (H:Hp) (x:List Nat) (p r:pA) (ns a:List (List Nat)):Prop:=Yy K H p (ns.map sv)/\Yy K H r (a.map sv)/\ns.length<=6/\a.length<=6/\(∀c∈x,c<128)/\x.length<=3000
theorem bx.same{K:oh}{H H':Hp}{x:List Nat}{p r:pA}{ns ks:List (List Nat)}(S:Z5 H H')(h:bx K H x p r ns ks):bx K H' x p r ns ks:=⟨S.seq h.1,S.seq h.2.1,h.2.2⟩
noncomputable def Py (K:oh):Sp:=λf H Q _=>∃(c:Nat)(x:List Nat)(i:Nat)(p r:pA)(e d:List (List Nat)),f=[.str (tx x),nv i,nv c,.ref p,.ref r]/\bx K H x p r e d/\i<=x.length/\
 (O9 e (Vl d) (x.drop i)=su->∀l a,Z5 H a->H l=su->a l=nC (.lst [])->Q (.ref l) a)/\
 (∀b m j,j<=x.length->O9 e (Vl d) (x.drop i)=nC (b,m,x.drop j)->∀l t a,Z5 H a->H l=su->a l=nC (.lst [.ref t,nv j])->a t=nC (.tup [.str "only",nv b,nv c,nv m])->Q (.ref l) a)
noncomputable def Iv (K:oh):Sp:=λg H Q _=>∃(f:Str)(x:List Nat)(i:Nat)(p r:pA)(e d:List (List Nat)),g=[.str (tx x),nv i,.str f,.ref p,.ref r]/\bx K H x p r e d/\i<=x.length/\
 (Li e (Vl d) (x.drop i)=su->∀l a,Z5 H a->H l=su->a l=nC (.lst [])->Q (.ref l) a)/\
 (∀c b m j,j<=x.length->Li e (Vl d) (x.drop i)=nC (c,b,m,x.drop j)->∀l t a,Z5 H a->H l=su->a l=nC (.lst [.ref t,nv j])->a t=nC (.tup [.str f,nv b,nv c,nv m])->Q (.ref l) a)
theorem RT{x w:List Nat}{i n:Nat}(h:(x.drop i).take n=w)(hw:w.length=n)(a:i<=x.length):i+n<=x.length:=by
 have:=congrArg jd7 h
 rw[jcB,jcG]at this
 omega
section
variable{P:jcz}{w:jcS}{K:oh}{mg:Str->Option pL}{base:jcX}
theorem Bu{f:pA}{fd:jaF}(F:Xl K "_law_amounted" "_law_amounted" Nb f fd)(ZZ:mg "_law_amounted"=nC (.ref f))
 (Jd:Z3 P w K mg base 2 "_law_bundle" ["_law_text_here","_law_at","_law_names_here","_law_kinds_here"] [] (G7 K))
 (SX:Z3 P w K mg base 1 "_law_number" ["_law_text_here","_law_at","_law_low","_law_high"] [] (Ly K)):Z3 P w K mg base 3 "_law_amounted" ["_law_text_here","_law_at","_law_count","_law_names_here","_law_kinds_here"] [] (Py K):=by
 refine F.Yp ZZ (mG F λ_ _ _ _ _ _ _ _ _ _ _=>rfl) Px (λvs H Q E h=>?_) (λad A Z s H vs Q E M h=>?_)
 .obtain⟨c,x,i,p,r,G,D,rfl,_⟩:=h;rfl
 obtain⟨c,x,i,p,r,G,D,rfl,hL,hi,q0,q1⟩:=h
 have W:=hL
 obtain⟨hP,hR,n6,k6,hA,hz⟩:=W
 have ac:x.length<=qd:=by rw[jcD];omega
 refine⟨_,(Zd (ZL (i:=5) Px.nd rfl (jbI rfl) (Zx Jd M (by first|decide|omega) rfl (Za (Ze 0) (Za (Ze 1) (Za (Ze 3) (Za (Ze 4) Zb))))))
  (Zd (ZR (Tg (XN (ZK (O8 M.Rn) (Ze 5) (ZV Zb) (Yb _)) (Xn (ZK Im (Yc YM (Ze 0) (ZW (Z4 (YH K) (Ze 5) Zc (λ_ _=>rfl))) (ZW (Zg (Xc Yh) (Z4 (YH K) (Ze 5) Zc (λ_ _=>rfl)) Zc))) Zf (Yb _))))) (Zh (ZC (ZV Zb))) ZF)
  (Zd (ZL (i:=6) Px.nd rfl (jbI rfl) (Zx SX M (by first|decide|omega) rfl (Za (Ze 0) (Za (Zg (Xc Yh) (Z4 (YH K) (Ze 5) Zc (λ_ _=>rfl)) Zc) (Za Zc (Za (Zg (Fp Gf) Zc Zc) Zb))))))
  (Zd (ZR (ZK (O8 M.Rn) (Ze 6) (ZV Zb) (Yb _)) (Zh (ZC (ZV Zb))) ZF)
  (Zh (ZC (ZV (Za (Xf (Za Zf (Za (Z4 (YH K) (Ze 5) Zc (λ_ _=>rfl)) (Za (Ze 2) (Za (Z4 (YH K) (Ze 6) Zc (λ_ _=>rfl)) Zb))))) (Za (Z4 (YH K) (Ze 6) Zc (λ_ _=>rfl)) Zb))))))))),?_⟩
 refine⟨_,rfl,_,rfl,_,rfl,_,rfl,x,i,p,r,G,D,rfl,hP,hR,n6,k6,hA,hz,hi,λe l H1 R hl L=>?_,λb j hj e l H1 R hl L=>?_⟩
 .refine⟨_,rfl,(by show 0<=qd;decide),λN t=>⟨l,N,[],rfl,rfl,Zk t _ _ _ L,Zj,_,rfl,?_⟩⟩
  exact Ys (Ys ⟨(by show 0<=qd;decide),λg C=>q0 (by unfold O9;rw[e]) g _ ((R.trans (Zk t _)).trans (Zk C _)) (R.free ((Zk t _).free C)) Zj⟩)
 .refine⟨_,rfl,(by show 0<=qd;decide),λN t=>⟨l,N,[nv b,nv j],rfl,rfl,Zk t _ _ _ L,Zj,_,rfl,?_⟩⟩
  have v:=R.trans (Zk t (.lst []))
  have a:=Zk t (.lst []) _ _ L
  generalize upd H1 N (.lst [])=H2 at v a|-
  refine Yn ?_
  refine⟨_,rfl,_,rfl,l,_,1,nv j,rfl,rfl,Yy.of a,rfl,_,rfl,_,rfl,l,_,1,nv j,rfl,rfl,Yy.of a,rfl,_,_,nv (j+5),rfl,rfl,rfl,_,rfl,_,rfl,ac,rfl,_,rfl,?_⟩
  rw[Vq x j 5,Ec,R3]
  by_cases u:(x.drop j).take 5=[32,102,111,114,32]
  .rw[decide_eq_true u]
   have X:=RT u rfl hj
   have aa:Gp 0 (10^9) (x.drop (j+5))=su->O9 G (Vl D) (x.drop i)=su:=λz=>by
    unfold O9;rw[e];simp only[u,if_true,jcR,z]
   have ab:∀m q,Gp 0 (10^9) (x.drop (j+5))=nC (m,q)->O9 G (Vl D) (x.drop i)=nC (b,m,q):=λm q z=>by
    unfold O9;rw[e];simp only[u,if_true,jcR,z]
   refine Yn ?_
   refine⟨_,rfl,_,rfl,l,_,1,nv j,rfl,rfl,Yy.of a,rfl,_,_,nv (j+5),rfl,rfl,rfl,_,_,nv (10^9),rfl,rfl,⟨by decide,by decide,by decide⟩,rfl,x,j+5,0,10^9,rfl,hA,hz,X,λT g H3 J Y d=>?_,λm k hk T g H3 J Y d=>?_⟩
   .have I:=aa T
    refine⟨_,rfl,(by show 0<=qd;decide),λO n=>⟨g,O,[],rfl,rfl,Zk n _ _ _ d,Zj,_,rfl,?_⟩⟩
    exact Ys ⟨(by show 0<=qd;decide),λl5 h5=>q0 I l5 _ (((v.trans J).trans (Zk n _)).trans (Zk h5 _)) ((v.trans J).free ((Zk n _).free h5)) Zj⟩
   .have I:=ab _ _ T
    refine⟨_,rfl,(by show 0<=qd;decide),λO n=>⟨g,O,[nv m,nv k],rfl,rfl,Zk n _ _ _ d,Zj,_,rfl,?_⟩⟩
    have s4:=(v.trans J).trans (Zk n (.lst []))
    have o:=Zk n (.lst []) _ _ d
    have B:=Zk n (.lst []) _ _ (J _ _ a)
    generalize upd H3 O (.lst [])=H4 at s4 o B|-
    refine Yn ?_
    refine⟨_,rfl,l,_,0,nv b,rfl,rfl,Yy.of B,rfl,_,rfl,_,rfl,g,_,0,nv m,rfl,rfl,Yy.of o,rfl,(by show 4<=qd;decide),λS ht=>?_⟩
    have s5:=s4.trans (Zk ht (.tup [.str "only",nv b,nv c,nv m]))
    have y:=Zk ht (.tup [.str "only",nv b,nv c,nv m]) _ _ o
    have et:upd H4 S (.tup [.str "only",nv b,nv c,nv m]) S=nC (.tup [.str "only",nv b,nv c,nv m]):=Zj
    generalize upd H4 S (.tup [.str "only",nv b,nv c,nv m])=H5 at s5 y et|-
    refine⟨_,rfl,g,_,1,nv k,rfl,rfl,Yy.of y,rfl,(by show 2<=qd;decide),λl6 U=>?_⟩
    exact q1 b m k hk I l6 S _ (s5.trans (Zk U _)) (s5.free U) Zj (Zk U _ _ _ et)
  .rw[decide_eq_false u]
   have I:O9 G (Vl D) (x.drop i)=su:=by unfold O9;rw[e];simp only[u,if_false]
   exact Ys ⟨(by show 0<=qd;decide),λg C=>q0 I g _ (v.trans (Zk C _)) (v.free C) Zj⟩
theorem yu{f:pA}{fd:jaF}(F:Xl K "_law_counted" "_law_counted" Lk f fd)(ZZ:mg "_law_counted"=nC (.ref f))
 (SX:Z3 P w K mg base 1 "_law_number" ["_law_text_here","_law_at","_law_low","_law_high"] [] (Ly K))
 (Uh:Z3 P w K mg base 3 "_law_amounted" ["_law_text_here","_law_at","_law_count","_law_names_here","_law_kinds_here"] [] (Py K)):Z3 P w K mg base 4 "_law_counted" ["_law_text_here","_law_at","_law_word_here","_law_names_here","_law_kinds_here"] [] (Iv K):=by
 refine F.Yp ZZ (mG F λ_ _ _ _ _ _ _ _ _ _ _=>rfl) Nh (λvs H Q E h=>?_) (λan A ah s H vs Q E R h=>?_)
 .obtain⟨a,x,i,p,r,C,B,rfl,_⟩:=h;rfl
 obtain⟨a,x,i,p,r,C,B,rfl,hL,hi,q0,q1⟩:=h
 have ae:=hL
 obtain⟨hP,hR,n6,k6,hA,hz⟩:=ae
 have am:x.length<=qd:=by rw[jcD];omega
 refine⟨_,(Zd (ZL (i:=5) Nh.nd rfl (jbI rfl) (Zx SX R (by first|decide|omega) rfl (Za (Ze 0) (Za (Ze 1) (Za Zc (Za Zc Zb))))))
  (Zd (ZR (Tg (XN (ZK (O8 R.Rn) (Ze 5) (ZV Zb) (Yb _)) (Xn (ZK Im (Yc YM (Ze 0) (ZW (Z4 (YH K) (Ze 5) Zc (λ_ _=>rfl))) (ZW (Zg (Xc Yh) (Z4 (YH K) (Ze 5) Zc (λ_ _=>rfl)) Zc))) Zf (Yb _))))) (Zh (ZC (ZV Zb))) ZF)
  (Zd (ZL (i:=6) Nh.nd rfl (jbI rfl) (Zx Uh R (by first|decide|omega) rfl (Za (Ze 0) (Za (Zg (Xc Yh) (Z4 (YH K) (Ze 5) Zc (λ_ _=>rfl)) Zc) (Za (Z4 (YH K) (Ze 5) Zc (λ_ _=>rfl)) (Za (Ze 3) (Za (Ze 4) Zb)))))))
  (Zd (ZR (ZK (O8 R.Rn) (Ze 6) (ZV Zb) (Yb _)) (Zh (ZC (ZV Zb))) ZF)
  (Zh (ZC (ZV (Za (Zg fc (Xf (Za (Ze 2) Zb)) (Yc jaz (Z4 (YH K) (Ze 6) Zc (λ_ _=>rfl)) (ZW Zc) X7)) (Za (Z4 (YH K) (Ze 6) Zc (λ_ _=>rfl)) Zb))))))))),?_⟩
 refine⟨_,rfl,_,rfl,x,i,1,6,rfl,hA,hz,hi,λe l H1 U hl O=>?_,λc j hj e l H1 U hl O=>?_⟩
 .refine⟨_,rfl,(by show 0<=qd;decide),λS v=>⟨l,S,[],rfl,rfl,Zk v _ _ _ O,Zj,_,rfl,?_⟩⟩
  exact Ys (Ys ⟨(by show 0<=qd;decide),λn o=>q0 (by unfold Li;rw[e]) n _ ((U.trans (Zk v _)).trans (Zk o _)) (U.free ((Zk v _).free o)) Zj⟩)
 .refine⟨_,rfl,(by show 0<=qd;decide),λS v=>⟨l,S,[nv c,nv j],rfl,rfl,Zk v _ _ _ O,Zj,_,rfl,?_⟩⟩
  have D:=U.trans (Zk v (.lst []))
  have d:=Zk v (.lst []) _ _ O
  generalize upd H1 S (.lst [])=H2 at D d|-
  refine Yn ?_
  refine⟨_,rfl,_,rfl,l,_,1,nv j,rfl,rfl,Yy.of d,rfl,_,rfl,_,rfl,l,_,1,nv j,rfl,rfl,Yy.of d,rfl,_,_,nv (j+4),rfl,rfl,rfl,_,rfl,_,rfl,am,rfl,_,rfl,?_⟩
  rw[Vq x j 4,uE,R3]
  by_cases G:(x.drop j).take 4=[32,111,102,32]
  .rw[decide_eq_true G]
   have af:=RT G rfl hj
   have ai:O9 C (Vl B) (x.drop (j+4))=su->Li C (Vl B) (x.drop i)=su:=λz=>by
    unfold Li;rw[e];simp only[G,if_true,jcR,z]
   have al:∀b m q,O9 C (Vl B) (x.drop (j+4))=nC (b,m,q)->Li C (Vl B) (x.drop i)=nC (c,b,m,q):=λb m q z=>by
    unfold Li;rw[e];simp only[G,if_true,jcR,z]
   refine Yn ?_
   refine⟨_,rfl,_,rfl,l,_,1,nv j,rfl,rfl,Yy.of d,rfl,_,_,nv (j+4),rfl,rfl,rfl,_,rfl,l,_,0,nv c,rfl,rfl,Yy.of d,rfl,_,rfl,_,rfl,c,x,j+4,p,r,C,B,rfl,hL.same D,af,λe2 n H3 W ag g=>?_,λb m k hk e2 n tp H3 W ag g et=>?_⟩
   .have N:=ai e2
    refine⟨_,rfl,(by show 0<=qd;decide),λT t=>⟨n,T,[],rfl,rfl,Zk t _ _ _ g,Zj,_,rfl,?_⟩⟩
    exact Ys ⟨(by show 0<=qd;decide),λl5 h5=>q0 N l5 _ (((D.trans W).trans (Zk t _)).trans (Zk h5 _)) ((D.trans W).free ((Zk t _).free h5)) Zj⟩
   .have N:=al _ _ _ e2
    refine⟨_,rfl,(by show 0<=qd;decide),λT t=>⟨n,T,[.ref tp,nv k],rfl,rfl,Zk t _ _ _ g,Zj,_,rfl,?_⟩⟩
    have s4:=(D.trans W).trans (Zk t (.lst []))
    have J:=Zk t (.lst []) _ _ g
    have L:=Zk t (.lst []) _ _ et
    generalize upd H3 T (.lst [])=H4 at s4 J L|-
    refine Yn ?_
    refine⟨_,rfl,(by show 1<=qd;decide),λX h1=>?_⟩
    have s5:=s4.trans (Zk h1 (.tup [.str a]))
    have u:=Zk h1 (.tup [.str a]) _ _ J
    have M:=Zk h1 (.tup [.str a]) _ _ L
    have I:upd H4 X (.tup [.str a]) X=nC (.tup [.str a]):=Zj
    generalize upd H4 X (.tup [.str a])=H5 at s5 u M I|-
    refine⟨_,rfl,n,_,0,.ref tp,rfl,rfl,Yy.of u,rfl,_,rfl,tp,_,rfl,Su.of M,(show¬(HT.VR 4 0 (nC 1)=0/\HT.VR 4 4 su=4)by decide),λY y=>?_⟩
    have s6:=s5.trans (Zk y (.tup [nv b,nv c,nv m]))
    have ac:=Zk y (.tup [nv b,nv c,nv m]) _ _ u
    have Z:=Zk y (.tup [nv b,nv c,nv m]) _ _ I
    have aa:upd H5 Y (.tup [nv b,nv c,nv m]) Y=nC (.tup [nv b,nv c,nv m]):=Zj
    show _
    refine⟨X,Y,[.str a],[nv b,nv c,nv m],rfl,rfl,Su.of Z,Su.of aa,by simp,by show 4<=qd;decide,(λz=>by cases z),λ_ t3 o=>?_⟩
    have s7:=s6.trans (Zk o (.tup [.str a,nv b,nv c,nv m]))
    have ad:=Zk o (.tup [.str a,nv b,nv c,nv m]) _ _ ac
    have ab:upd (upd H5 Y (.tup [nv b,nv c,nv m])) t3 (.tup [.str a,nv b,nv c,nv m]) t3=nC (.tup [.str a,nv b,nv c,nv m]):=Zj
    refine⟨_,rfl,n,_,1,nv k,rfl,rfl,Yy.of ad,rfl,(by show 2<=qd;decide),λl6 h6=>?_⟩
    exact q1 c b m k hk N l6 t3 _ (s7.trans (Zk h6 _)) (s7.free h6) Zj (Zk h6 _ _ _ ab)
  .rw[decide_eq_false G]
   have N:Li C (Vl B) (x.drop i)=su:=by unfold Li;rw[e];simp only[G,if_false]
   exact Ys ⟨(by show 0<=qd;decide),λn o=>q0 N n _ (D.trans (Zk o _)) (D.free o) Zj⟩
theorem CV{c:TT}{t u:TS}{D:Ends}{b:L2.St}{H:Hp}(M:L2.St->Hp->Prop)(h:(∀a H',M a H'->u D a H')->dF c t qp {D with nx:=u D} b H)(d:∀a H',M a H'->u D a H'):j9 (dF c t qp) u D b H:=h d
theorem b8(s:List Nat):inV (.str (tx s)) [.str "",.str ";",.str ")"]=decide (s=[]\/s=[59]\/s=[41]):=by
 have:=uA s [[],[59],[41]]
 have e:(([[],[59],[41]]:List (List Nat)).map tx).map V.str=[.str "",.str ";",.str ")"]:=rfl
 rw[e]at this
 rw[this,decide_eq_decide]
 simp
noncomputable def Ph (K:oh):Sp:=λd H Q _=>∃(x:List Nat)(i:Nat)(p r:pA)(c b:List (List Nat)),d=[.str (tx x),nv i,.ref p,.ref r]/\bx K H x p r c b/\(∀k∈b,YX k=qm)/\i<=x.length/\
 (RN c (Vl b) (x.drop i)=su->∀l a,Z5 H a->H l=su->a l=nC (.lst [])->Q (.ref l) a)/\
 (∀f j,j<=x.length->RN c (Vl b) (x.drop i)=nC (f,x.drop j)->∀l t a,Z5 H a->H l=su->a l=nC (.lst [.ref t,nv j])->Wf f->vR a t f->Q (.ref l) a)
theorem wV{f:pA}{fd:jaF}(F:Xl K "_law_single" "_law_single" JF f fd)(ZZ:mg "_law_single"=nC (.ref f))(Yz:mg "len"=su)
 (Uh:Z3 P w K mg base 3 "_law_amounted" ["_law_text_here","_law_at","_law_count","_law_names_here","_law_kinds_here"] [] (Py K))
 (QV:Z3 P w K mg base 4 "_law_counted" ["_law_text_here","_law_at","_law_word_here","_law_names_here","_law_kinds_here"] [] (Iv K)):Z3 P w K mg base 5 "_law_single" ["_law_text_here","_law_at","_law_names_here","_law_kinds_here"] [] (Ph K):=by
 refine F.Yp ZZ (zZ F λ_ _ _ _ _ _ _ _ _ _=>rfl) G5 (λvs H Q E h=>?_) (λai A ag s H vs Q E hr h=>?_)
 .obtain⟨x,i,p,r,J,I,rfl,_⟩:=h;rfl
 obtain⟨x,i,p,r,J,I,rfl,hL,ab,hi,q0,ah⟩:=h
 have ac:=hL
 obtain⟨hP,hR,n6,k6,hA,hz⟩:=ac
 have v:x.length<=qd:=by rw[jcD];omega
 have q1:∀f j,j<=x.length->RN J (Vl I) (x.drop i)=nC (f,x.drop j)->∀l t H',Z5 H H'->H l=su->H' l=nC (.lst [.ref t,nv j])->(Wf f->vR H' t f)->Q (.ref l) H':=λf j R e l t H' s g o ft=>by
  have ok:=(zy n6 (kinds_ok k6 ab) e).1
  exact ah f j R e l t H' s g o ok (ft ok)
 refine⟨_,(Zd (ZR (Tg (VD (ZK Xv (Yc YM (Ze 0) (ZW (Ze 1)) (ZW (Zg (Xc Yh) (Ze 1) Zc))) Zf (Yb _)) (WM (ZK zg (Yc YM (Ze 0) (ZW (Zg (Xc Yh) (Ze 1) Zc)) (ZW (Zg (Xc Yh) (Ze 1) Zc))) (Xf (Za Zf (Za Zf (Za Zf Zb)))) (by with_unfolding_all rfl))))) (Zh (ZC (ZV (Za (Xf (Za Zf (Za Zc (Za Zc (Za Zc Zb))))) (Za (Zg (Xc Yh) (Ze 1) Zc) Zb))))) ZF)
  (Zd (ZR (ZK Xv (Yc YM (Ze 0) (ZW (Ze 1)) (ZW (Zg (Xc Yh) (Ze 1) Zc))) Zf (Yb _)) (Zd (ZL (i:=4) G5.nd rfl (jbI rfl) (Zx QV hr (by first|decide|omega) rfl (Za (Ze 0) (Za (Zg (Xc Yh) (Ze 1) Zc) (Za Zf (Za (Ze 2) (Za (Ze 3) Zb)))))))
   (Zd (ZR (Tg (XN (ZK (O8 hr.Rn) (Ze 4) (ZV Zb) (Yb _)) (Xn (ZK Im (Yc YM (Ze 0) (ZW (Z4 (YH K) (Ze 4) Zc (λ_ _=>rfl))) (ZW (Zg (Xc Yh) (Z4 (YH K) (Ze 4) Zc (λ_ _=>rfl)) Zc))) Zf (Yb _))))) (Zh (ZC (ZV Zb))) ZF)
   (Zh (ZC (ZV (Za (Z4 (YH K) (Ze 4) Zc (λ_ _=>rfl)) (Za (Zg (Xc Yh) (Z4 (YH K) (Ze 4) Zc (λ_ _=>rfl)) Zc) Zb))))))) ZF)
  (Zd (ZR (Tg (VD (ZK La (Ze 1) (Yw YL rfl Yz jcN (Za (Ze 0) Zb)) (Yb _)) (WM (ZK Kw (Z4 Jo (Ze 0) (Ze 1) (λ_ _=>rfl)) Zf (by with_unfolding_all rfl))))) (Zh (ZC (Zx QV hr (by first|decide|omega) rfl (Za (Ze 0) (Za (Ze 1) (Za Zf (Za (Ze 2) (Za (Ze 3) Zb)))))))) ZF)
  (Zh (ZC (Zx Uh hr (by first|decide|omega) rfl (Za (Ze 0) (Za (Ze 1) (Za Zc (Za (Ze 2) (Za (Ze 3) Zb))))))))))),?_⟩
 refine CV (λaa H'=>Z5 H H'/\aa=[nC (.str (tx x)),nC (nv i),nC (.ref p),nC (.ref r),su]/\¬((x.drop i).take 7=Vk/\Fe ((x.drop i).drop 7))) (λy=>?_) (λaa H' z=>?_)
 .refine⟨_,rfl,_,rfl,_,rfl,_,rfl,_,_,nv (i+7),rfl,rfl,rfl,_,rfl,_,rfl,v,rfl,_,rfl,?_⟩
  rw[Vq x i 7,wF,R3]
  by_cases B:(x.drop i).take 7=Vk
  .rw[decide_eq_true B]
   have ae:=RT B rfl hi
   refine Ys ⟨_,rfl,_,rfl,_,_,nv (i+7),rfl,rfl,rfl,_,rfl,_,rfl,_,_,nv (i+7+1),rfl,rfl,rfl,_,rfl,_,rfl,v,(by show 3<=qd;decide),λt1 af=>⟨t1,_,rfl,.inr (Su.of Zj),rfl,rfl,_,rfl,?_⟩⟩
   rw[Vq x (i+7) 1,b8]
   have n:=Zk af (.tup [.str "",.str ";",.str ")"])
   have ee:Fe ((x.drop i).drop 7)=((x.drop (i+7)).take 1=[]\/(x.drop (i+7)).take 1=[59]\/(x.drop (i+7)).take 1=[41]):=by unfold Fe;rw[jcR]
   by_cases he:Fe ((x.drop i).drop 7)
   .rw[if_neg jbJ,decide_eq_true (ee▸he)]
    refine Ys ⟨(by show 4<=qd;decide),λt2 Z=>?_⟩
    refine⟨_,rfl,_,_,nv (i+7),rfl,rfl,rfl,(by show 2<=qd;decide),λl g=>?_⟩
    refine q1 .none (i+7) ae (by unfold RN;rw[if_pos ⟨B,he⟩,jcR]) l t2 _ ((n.trans (Zk Z _)).trans (Zk g _)) (n.free ((Zk Z _).free g)) Zj λ_=>⟨0,1,0,Zk g _ _ _ Zj,by decide,trivial⟩
   .rw[if_neg jbJ,decide_eq_false (λz=>he (ee.symm▸z))]
    exact Yn (y _ _ ⟨n,rfl,λz=>he z.2⟩)
  .rw[decide_eq_false B]
   exact Yn (Yn (y _ _ ⟨Z5.refl _,rfl,λz=>B z.1⟩))
 obtain⟨u,rfl,B⟩:=z
 have O:=hL.same u
 refine⟨_,rfl,_,rfl,_,rfl,_,rfl,_,_,nv (i+6),rfl,rfl,rfl,_,rfl,_,rfl,v,rfl,_,rfl,?_⟩
 rw[Vq x i 6,kW,R3]
 by_cases N:(x.drop i).take 6=[117,112,32,116,111,32]
 .rw[decide_eq_true N]
  have ad:=RT N rfl hi
  refine Ys ?_
  refine⟨_,rfl,_,rfl,_,_,nv (i+6),rfl,rfl,rfl,_,rfl,_,rfl,_,x,i+6,p,r,J,I,rfl,O,ad,λe l U n g o=>?_,λc b m j R e l T U n g o W=>?_⟩
  .refine⟨_,rfl,(by show 0<=qd;decide),λl2 D=>⟨l,l2,[],rfl,rfl,Zk D _ _ _ o,Zj,_,rfl,?_⟩⟩
   have L:=u.trans n
   exact Ys (Ys ⟨(by show 0<=qd;decide),λl3 C=>q0 (by unfold RN;rw[if_neg B,if_pos N,jcR,e]) l3 _ ((L.trans (Zk D _)).trans (Zk C _)) (L.free ((Zk D _).free C)) Zj⟩)
  .refine⟨_,rfl,(by show 0<=qd;decide),λl2 D=>⟨l,l2,[.ref T,nv j],rfl,rfl,Zk D _ _ _ o,Zj,_,rfl,?_⟩⟩
   have L:=(u.trans n).trans (Zk D (.lst []))
   have q:=Zk D (.lst []) _ _ o
   have X:=Zk D (.lst []) _ _ W
   generalize upd U l2 (.lst [])=H2 at L q X|-
   refine Yn ?_
   refine⟨_,rfl,_,rfl,l,_,1,nv j,rfl,rfl,Yy.of q,rfl,_,rfl,_,rfl,l,_,1,nv j,rfl,rfl,Yy.of q,rfl,_,_,nv (j+5),rfl,rfl,rfl,_,rfl,_,rfl,v,rfl,_,rfl,?_⟩
   rw[Vq x j 5,wD,R3]
   by_cases G:(x.drop j).take 5=[32,101,97,99,104]
   .rw[decide_eq_true G]
    refine Yn ⟨_,rfl,l,_,0,.ref T,rfl,rfl,Yy.of q,rfl,_,rfl,l,_,1,nv j,rfl,rfl,Yy.of q,rfl,_,_,nv (j+5),rfl,rfl,rfl,(by show 2<=qd;decide),λl3 C=>?_⟩
    exact q1 (.most b c (m:Int)) (j+5) (RT G rfl R) (by unfold RN;rw[if_neg B,if_pos N,jcR,e];simp only[G,if_true,jcR]) l3 T _ (L.trans (Zk C _)) (L.free C) Zj λok=>⟨b,c,m,Zk C _ _ _ X,ok.2.1,rfl,rfl,rfl⟩
   .rw[decide_eq_false G]
    exact Ys ⟨(by show 0<=qd;decide),λl3 C=>q0 (by unfold RN;rw[if_neg B,if_pos N,jcR,e];simp only[G,if_false]) l3 _ (L.trans (Zk C _)) (L.free C) Zj⟩
 .rw[decide_eq_false N]
  refine Yn ?_
  have rs:∀d,jaH (x.drop i)=d->RN J (Vl I) (x.drop i)=if d=qm then(match Li J (Vl I) (x.drop i)with|none=>su|some (c,b,m,r)=>nC (.some b c (m:Int),r))else(match O9 J (Vl I) (x.drop i)with|none=>su|some (b,m,r)=>nC (.only b (m:Int),r)):=λd z=>by
   unfold RN;rw[if_neg B,if_neg N,z]<;>rfl
  have M:(tx x).length<=qd:=by rw[Yo];exact v
  refine⟨_,rfl,_,rfl,tx x,rfl,M,_,_,rfl,rfl,_,rfl,?_⟩
  apply qx (jaH (x.drop i)=vh)
  .intro y
   by_cases S:i<x.length
   .rw[decide_eq_true (show((i:Nat):Int)<((tx x).length:Int)by clear y;rw[Yo];omega)]
    have ed:x.drop i=x[i]::x.drop (i+1):=jfO S
    have hc:=hA _ (jds S)
    refine Ys ⟨_,rfl,_,rfl,tx x,_,x[i],rfl,rfl,M,(by rw[Wd];exact Es S),_,_,rfl,rfl,_,rfl,?_⟩
    show if(!(jdw (jh "0123456789") (tx [x[i]]) 0 10 1).isEmpty)=qm then _ else _
    rw[mW _ hc,jhY]
    have Y:jaH (x.drop i)=isF x[i]:=by rw[ed];rfl
    cases G:isF x[i]with
    |true=>
     rw[G]at Y
     have a:=rs _ Y
     rw[if_pos rfl]at a
     refine Ys ?_
     refine⟨_,rfl,_,rfl,_,rfl,_,rfl,_,x,i,p,r,J,I,rfl,O,hi,λe l U n g o=>?_,λc b m j R e l T U n g o W=>?_⟩
     .rw[e]at a
      exact q0 a l _ (u.trans n) (u.free g) o
     .rw[e]at a
      exact q1 _ j R a l T _ (u.trans n) (u.free g) o λok=>⟨b,c,m,W,ok.2.1,rfl,rfl,rfl⟩
    |false=>exact Yn (y (Y.trans G))
   .rw[decide_eq_false (show¬((i:Nat):Int)<((tx x).length:Int)by clear y;rw[Yo];omega)]
    exact Yn (Yn (y (by rw[jej (by clear y;omega)];rfl)))
  intro Y
  have a:=rs _ Y
  rw[if_neg jbJ]at a
  refine⟨_,rfl,_,rfl,_,rfl,_,rfl,1,x,i,p,r,J,I,rfl,O,hi,λe l U n g o=>?_,λb m j R e l T U n g o W=>?_⟩
  .rw[e]at a
   exact q0 a l _ (u.trans n) (u.free g) o
  .rw[e]at a
   exact q1 _ j R a l T _ (u.trans n) (u.free g) o λok=>⟨b,1,m,W,ok.2.1,rfl,rfl⟩
end
noncomputable def jW (K:oh) (d:Nat):Sp:=λg H Q _=>∃(x:List Nat)(i:Nat)(p r:pA)(e c:List (List Nat)),g=[.str (tx x),nv i,nv d,.ref p,.ref r]/\bx K H x p r e c/\(∀k∈c,YX k=qm)/\i<=x.length/\
 (Rc e (Vl c) d (x.drop i)=su->∀l b,Z5 H b->H l=su->b l=nC (.lst [])->Q (.ref l) b)/\
 (∀t j,j<=x.length->Rc e (Vl c) d (x.drop i)=nC (t,x.drop j)->∀l f b,Z5 H b->H l=su->b l=nC (.lst [.ref f,nv j])->FT (λa=>H a=su) b d f t->Q (.ref l) b)
noncomputable def jX (K:oh):Sp:=jW K 4
theorem ja0(s:List Nat):inV (.str (tx s)) [.str "any",.str "one"]=decide (s=w3 qm\/s=w3 vh):=by
 have:=uA s [w3 qm,w3 vh]
 have e:(([w3 qm,w3 vh]:List (List Nat)).map tx).map V.str=[.str "any",.str "one"]:=rfl
 rw[e]at this
 rw[this,decide_eq_decide]
 simp
theorem dI{s:List Nat}(h:s=w3 qm\/s=w3 vh):tx s=WK (decide (s=w3 qm)):=by
 rcases h with rfl|rfl<;>rfl
section
variable{P:jcz}{w:jcS}{K:oh}{mg:Str->Option pL}{base:jcX}
theorem p8{f:pA}{n:jaF}(F:Xl K "_law_bid" "_law_bid" Ip f n)(j:mg "_law_bid"=nC (.ref f))(g:Z3 P w K mg base 5 "_law_single" ["_law_text_here","_law_at","_law_names_here","_law_kinds_here"] [] (Ph K))(e:Z3 P w K mg base 5 "_law_bid" ["_law_text_here","_law_at","_law_deep","_law_names_here","_law_kinds_here"] [] (λ_ _ _ _=>False)):Z3 P w K mg base 6 "_law_bid" ["_law_text_here","_law_at","_law_deep","_law_names_here","_law_kinds_here"] [] (jW K 0):=by
 refine F.Yp j (mG F λ_ _ _ _ _ _ _ _ _ _ _=>rfl) Wz (λy H Q E h=>?_) (λm A b s H y Q E a h=>?_)
 .obtain⟨x,i,p,r,u,t,rfl,_⟩:=h;rfl
 obtain⟨x,i,p,r,u,t,rfl,q,o,z,v,B⟩:=h
 refine⟨_,(Zd (ZL (i:=5) Wz.nd rfl (jbI rfl) (Yc YM (Ze 0) (ZW (Ze 1)) (ZW (Zg (Xc Yh) (Ze 1) Zc))))
  (Zd (ZR (ZK Xv (Ze 2) Zc (Yb _)) (Zh (ZC (ZV Zb))) ZF)
  (Zd (ZR (Tg (XN (ZK Im (Yc YM (Ze 0) (ZW (Zg (Xc Yh) (Ze 1) Zc)) (ZW (Zg (Xc Yh) (Ze 1) Zc))) Zf (Yb _)) (Xn (ZK Qd (Ze 5) (Xf (Za Zf (Za Zf Zb))) (by with_unfolding_all rfl))))) (Zh (ZC (Zx g a (by first|decide|omega) rfl (Za (Ze 0) (Za (Ze 1) (Za (Ze 3) (Za (Ze 4) Zb))))))) ZF)
  (Zd (ZL (i:=6) Wz.nd rfl (jbI rfl) (ZV Zb))
  (Zd (ZL (i:=1) Wz.nd rfl (jbI rfl) (Zg (Xc Yh) (Ze 1) Zc))
  (Zd (ZR (ZK Xv (Yc YM (Ze 0) (ZW (Ze 1)) (ZW (Zg (Xc Yh) (Ze 1) Zc))) Zf (Yb _)) (Zh (ZC (ZV (Za (Xf (Za (Ze 5) (Za (Ze 6) Zb))) (Za (Zg (Xc Yh) (Ze 1) Zc) Zb))))) ZF)
  (Zh (Qs jdK (Yg TQ) (Zd (ZL (i:=7) Wz.nd rfl (jbI rfl) (Zx e a (by first|decide|omega) rfl (Za (Ze 0) (Za (Ze 1) (Za (Zg (Xc DY) (Ze 2) Zc) (Za (Ze 3) (Za (Ze 4) Zb)))))))
   (Zd (ZR (ZK (O8 a.Rn) (Ze 7) (ZV Zb) (Yb _)) (Zh (ZC (ZV Zb))) ZF)
   (Zd (Yx (WP (Ze 6) (Za (Z4 (YH K) (Ze 7) Zc (λ_ _=>rfl)) Zb)))
   (Zd (ZL (i:=1) Wz.nd rfl (jbI rfl) (Z4 (YH K) (Ze 7) Zc (λ_ _=>rfl)))
   (Zd (ZR (ZK Xv (Yc YM (Ze 0) (ZW (Ze 1)) (ZW (Zg (Xc Yh) (Ze 1) Zc))) Zf (Yb _)) (Zh (ZC (ZV (Za (Xf (Za (Ze 5) (Za (Ze 6) Zb))) (Za (Zg (Xc Yh) (Ze 1) Zc) Zb))))) ZF)
   (Zd (ZR (ZK Im (Yc YM (Ze 0) (ZW (Ze 1)) (ZW (Zg (Xc Yh) (Ze 1) Zc))) Zf (Yb _)) (Zh (ZC (ZV Zb))) ZF)
   (Zh (ZL (i:=1) Wz.nd rfl (jbI rfl) (Zg (Xc Yh) (Ze 1) Zc))))))))))))))))),?_⟩
 have c:x.length<=qd:=by have:=q.2.2.2.2.2;rw[jcD];omega
 refine⟨_,rfl,_,rfl,_,rfl,_,rfl,_,_,nv (i+3),rfl,rfl,rfl,_,rfl,_,rfl,c,?_⟩
 refine⟨_,rfl,rfl,_,rfl,Ys ⟨(by show 0<=qd;decide),λl d=>v rfl l _ (Zk d _) d Zj⟩⟩
theorem jg(d:Nat){f:pA}{fd:jaF}(F:Xl K "_law_bid" "_law_bid" Ip f fd)(ZZ:mg "_law_bid"=nC (.ref f))(V6:Z3 P w K mg base 5 "_law_single" ["_law_text_here","_law_at","_law_names_here","_law_kinds_here"] [] (Ph K))(Oo:Z3 P w K mg base (6+d) "_law_bid" ["_law_text_here","_law_at","_law_deep","_law_names_here","_law_kinds_here"] [] (jW K d)):Z3 P w K mg base (6+d+1) "_law_bid" ["_law_text_here","_law_at","_law_deep","_law_names_here","_law_kinds_here"] [] (jW K (d+1)):=by
 refine F.Yp ZZ (mG F λ_ _ _ _ _ _ _ _ _ _ _=>rfl) Wz (λvs H Q E h=>?_) (λar A al s H vs Q E hr h=>?_)
 .obtain⟨x,i,p,r,q,o,rfl,_⟩:=h;rfl
 obtain⟨x,i,p,r,q,o,rfl,hL,O,hi,q0,q1⟩:=h
 have af:=hL
 obtain⟨hP,hR,n6,k6,hA,hz⟩:=af
 have M:x.length<=qd:=by rw[jcD];omega
 refine⟨_,(Zd (ZL (i:=5) Wz.nd rfl (jbI rfl) (Yc YM (Ze 0) (ZW (Ze 1)) (ZW (Zg (Xc Yh) (Ze 1) Zc))))
  (Zd (ZR (ZK Xv (Ze 2) Zc (Yb _)) (Zh (ZC (ZV Zb))) ZF)
  (Zd (ZR (Tg (XN (ZK Im (Yc YM (Ze 0) (ZW (Zg (Xc Yh) (Ze 1) Zc)) (ZW (Zg (Xc Yh) (Ze 1) Zc))) Zf (Yb _)) (Xn (ZK Qd (Ze 5) (Xf (Za Zf (Za Zf Zb))) (by with_unfolding_all rfl))))) (Zh (ZC (Zx V6 hr (by first|decide|omega) rfl (Za (Ze 0) (Za (Ze 1) (Za (Ze 3) (Za (Ze 4) Zb))))))) ZF)
  (Zd (ZL (i:=6) Wz.nd rfl (jbI rfl) (ZV Zb))
  (Zd (ZL (i:=1) Wz.nd rfl (jbI rfl) (Zg (Xc Yh) (Ze 1) Zc))
  (Zd (ZR (ZK Xv (Yc YM (Ze 0) (ZW (Ze 1)) (ZW (Zg (Xc Yh) (Ze 1) Zc))) Zf (Yb _)) (Zh (ZC (ZV (Za (Xf (Za (Ze 5) (Za (Ze 6) Zb))) (Za (Zg (Xc Yh) (Ze 1) Zc) Zb))))) ZF)
  (Zh (Qs jdK (Yg TQ) (Zd (ZL (i:=7) Wz.nd rfl (jbI rfl) (Zx Oo hr (by first|decide|omega) rfl (Za (Ze 0) (Za (Ze 1) (Za (Zg (Xc DY) (Ze 2) Zc) (Za (Ze 3) (Za (Ze 4) Zb)))))))
   (Zd (ZR (ZK (O8 hr.Rn) (Ze 7) (ZV Zb) (Yb _)) (Zh (ZC (ZV Zb))) ZF)
   (Zd (Yx (WP (Ze 6) (Za (Z4 (YH K) (Ze 7) Zc (λ_ _=>rfl)) Zb)))
   (Zd (ZL (i:=1) Wz.nd rfl (jbI rfl) (Z4 (YH K) (Ze 7) Zc (λ_ _=>rfl)))
   (Zd (ZR (ZK Xv (Yc YM (Ze 0) (ZW (Ze 1)) (ZW (Zg (Xc Yh) (Ze 1) Zc))) Zf (Yb _)) (Zh (ZC (ZV (Za (Xf (Za (Ze 5) (Za (Ze 6) Zb))) (Za (Zg (Xc Yh) (Ze 1) Zc) Zb))))) ZF)
   (Zd (ZR (ZK Im (Yc YM (Ze 0) (ZW (Ze 1)) (ZW (Zg (Xc Yh) (Ze 1) Zc))) Zf (Yb _)) (Zh (ZC (ZV Zb))) ZF)
   (Zh (ZL (i:=1) Wz.nd rfl (jbI rfl) (Zg (Xc Yh) (Ze 1) Zc))))))))))))))))),?_⟩
 refine⟨_,rfl,_,rfl,_,rfl,_,rfl,_,_,nv (i+3),rfl,rfl,rfl,_,rfl,_,rfl,M,?_⟩
 rw[Vq x i 3]
 refine⟨_,rfl,rfl,_,rfl,?_⟩
 rw[show decide (V.int ((d+1:Nat):Int)=V.int 0)=vh from decide_eq_false (λz=>by have:=V.int.inj z;omega)]
 refine Yn ?_
 refine⟨_,rfl,_,rfl,_,_,nv (i+3),rfl,rfl,rfl,_,rfl,_,rfl,_,_,nv (i+3+1),rfl,rfl,rfl,_,rfl,_,rfl,M,rfl,_,rfl,?_⟩
 rw[Vq x (i+3) 1,show jh "("=tx [40]from rfl,R3]
 by_cases J:(x.drop (i+3)).take 1=[40]
 .rw[decide_eq_true J]
  refine Yn ⟨_,rfl,(by show 2<=qd;decide),λt1 ai=>⟨t1,_,rfl,.inr (Su.of Zj),rfl,rfl,_,rfl,?_⟩⟩
  rw[if_pos rfl,ja0]
  have g:=Zk ai (.tup [.str "any",.str "one"])
  generalize upd H t1 (.tup [.str "any",.str "one"])=H0 at g|-
  by_cases hw:(x.drop i).take 3=w3 qm\/(x.drop i).take 3=w3 vh
  .rw[decide_eq_true hw]
   refine Yn ?_
   have hb:((x.drop i).drop 3).take 1=[40]/\((x.drop i).take 3=w3 qm\/(x.drop i).take 3=w3 vh):=⟨by rw[jcR];exact J,hw⟩
   have ac:i+4<=x.length:=by
    have:=congrArg jd7 J
    rw[jcB,jcG]at this
    simp at this;omega
   have ew:=dI hw
   generalize han:decide ((x.drop i).take 3=w3 qm)=any at ew
   refine⟨(by show 0<=qd;decide),λlp ad=>?_⟩
   have L:=g.free ad
   have s2:=g.trans (Zk ad (.lst []))
   have X:upd H0 lp (.lst []) lp=nC (.lst []):=Zj
   generalize upd H0 lp (.lst [])=H2 at s2 X|-
   refine⟨_,rfl,_,_,nv (i+4),rfl,rfl,rfl,?_⟩
   refine⟨_,rfl,_,rfl,_,rfl,_,rfl,_,_,nv (i+4+1),rfl,rfl,rfl,_,rfl,_,rfl,M,rfl,_,rfl,?_⟩
   rw[Vq x (i+4) 1,zc,R3]
   by_cases v:(x.drop (i+4)).take 1=[41]
   .rw[decide_eq_true v]
    refine Ys ⟨_,rfl,_,rfl,(by show 2<=qd;decide),λc Z=>?_⟩
    refine⟨_,rfl,_,_,nv (i+4+1),rfl,rfl,rfl,(by show 2<=qd;decide),λl n=>?_⟩
    refine q1 (.node any []) (i+4+1) (RT v rfl ac) ?_ l c _ ((s2.trans (Zk Z _)).trans (Zk n _)) (s2.free ((Zk Z _).free n)) Zj ⟨lp,[],?_,L,Zk n _ _ _ (Zk Z _ _ _ X),Xb.nil⟩
    .unfold Rc;rw[if_pos hb,if_pos (by rw[jcR];exact v),jcR,han]
    .rw[<-ew];exact Zk n _ _ _ Zj
   rw[decide_eq_false v]
   refine Yn ?_
   have am:SN (Rc q (Vl o) d) ((x.drop i).length+1) [] (x.drop (i+4))=su->Rc q (Vl o) (d+1) (x.drop i)=su:=λz=>by
    unfold Rc;rw[if_pos hb,if_neg (by rw[jcR];exact v),jcR,z]
   have an:∀C r',SN (Rc q (Vl o) d) ((x.drop i).length+1) [] (x.drop (i+4))=nC (C,r')->Rc q (Vl o) (d+1) (x.drop i)=nC (.node any C,r'):=λC r' z=>by
    unfold Rc;rw[if_pos hb,if_neg (by rw[jcR];exact v),jcR,z,han]
   refine⟨λm σ H'=>∃(k:Nat)(B:List pA)(S:List Tr)(y:Option V),σ=[nC (.str (tx x)),nC (nv k),nC (nv (d+1)),nC (.ref p),nC (.ref r),nC (.str (tx ((x.drop i).take 3))),nC (.ref lp),y]/\Z5 H H'/\H' lp=nC (.lst (B.map V.ref))/\Xb (FT (λa=>H a=su/\a≠lp) H' d) B S/\k<=x.length/\x.length-k<m/\B.length+m<=x.length+1/\
    (SN (Rc q (Vl o) d) m S (x.drop k)=su->Rc q (Vl o) (d+1) (x.drop i)=su)/\(∀C r',SN (Rc q (Vl o) d) m S (x.drop k)=nC (C,r')->Rc q (Vl o) (d+1) (x.drop i)=nC (.node any C,r')),
    ⟨_,i+4,[],[],su,rfl,s2,X,Xb.nil,ac,by rw[jcG];omega,by rw[jcG];show 0+(x.length-i+1)<=x.length+1;omega,am,an⟩,?_⟩
   rintro m σ H' ⟨k,B,S,y,rfl,s3,e3,hB,hk,hm,aw,n0,n1⟩
   obtain⟨m,rfl⟩:∃m',m=m'+1:=⟨m-1,by omega⟩
   refine⟨_,rfl,?_⟩
   refine Ys ⟨λay ap=>∃m',m'<m+1/\_,λ_ _ z=>z,?_⟩
   refine⟨_,rfl,_,rfl,_,rfl,_,_,nv d,rfl,rfl,?_,_,rfl,_,rfl,x,k,p,r,q,o,rfl,hL.same s3,O,hk,λe l H1 s4 n D=>?_,λt j hj e l c H1 s4 n D ft=>?_⟩
   .show V.int (((d+1:Nat):Int)-1)=V.int (d:Int)
    congr 1;omega
   .refine⟨_,rfl,(by show 0<=qd;decide),λl2 T=>⟨l,l2,[],rfl,rfl,Zk T _ _ _ D,Zj,_,rfl,?_⟩⟩
    have s5:=s3.trans s4
    exact Ys ⟨(by show 0<=qd;decide),λl3 h3=>q0 (n0 (by unfold SN;rw[e])) l3 _ ((s5.trans (Zk T _)).trans (Zk h3 _)) (s5.free ((Zk T _).free h3)) Zj⟩
   .refine⟨_,rfl,(by show 0<=qd;decide),λl2 T=>⟨l,l2,[.ref c,nv j],rfl,rfl,Zk T _ _ _ D,Zj,_,rfl,?_⟩⟩
    have ah:l≠lp:=λz=>by rw[z,e3]at n;cases n
    have R:=s4.trans (Zk T (.lst []))
    have W:=Zk T (.lst []) _ _ D
    have ab:=FT.same (Zk T (.lst [])) ft
    generalize upd H1 l2 (.lst [])=G at R W ab|-
    have N:=R _ _ e3
    have s5:=s3.trans R
    obtain⟨ax,_,et⟩:=Cm n6 (kinds_ok k6 O) d t _ _ e
    have av:k<=j:=by
     have:=congrArg jd7 et
     rw[O1,jcG,jcG]at this
     omega
    refine Yn ?_
    refine⟨_,rfl,.inl ⟨rfl,_,Yy.of N⟩,_,rfl,l,_,0,.ref c,rfl,rfl,Yy.of W,rfl,lp,_,_,rfl,rfl,N,?_,?_⟩
    .rw[rz,jcD];omega
    have aa:upd G lp (.lst (B.map V.ref++[.ref c])) l=nC (.lst [.ref c,nv j]):=by rw[ZX ah];exact W
    have U:upd G lp (.lst (B.map V.ref++[.ref c])) lp=nC (.lst ((B++[c]).map V.ref)):=by rw[Zj,jcA];rfl
    have n2:¬(H lp=su/\lp≠lp):=λz=>z.2 rfl
    have Y:Xb (FT (λa=>H a=su/\a≠lp) (upd G lp (.lst (B.map V.ref++[.ref c]))) d) (B++[c]) (S++[t]):=
     (hB.imp λa b _ z=>(FT.same R z).put N n2).snoc ((ab.imp λa zs ha _=>⟨s3.free ha,λz=>by rw[z,e3]at ha;cases ha⟩).put N n2)
    have s6:Z5 H (upd G lp (.lst (B.map V.ref++[.ref c]))):=s5.upd L _
    generalize upd G lp (.lst (B.map V.ref++[.ref c]))=H3 at aa U Y s6|-
    refine⟨_,rfl,l,_,1,nv j,rfl,rfl,Yy.of aa,rfl,?_⟩
    refine⟨_,rfl,_,rfl,_,rfl,_,rfl,_,_,nv (j+1),rfl,rfl,rfl,_,rfl,_,rfl,M,rfl,_,rfl,?_⟩
    rw[Vq x j 1,R3]
    by_cases u:(x.drop j).take 1=[41]
    .rw[decide_eq_true u]
     refine Ys ⟨_,rfl,_,rfl,(by show 2<=qd;decide),λtq ae=>?_⟩
     refine⟨_,rfl,_,_,nv (j+1),rfl,rfl,rfl,(by show 2<=qd;decide),λl4 h4=>?_⟩
     have s7:=(Zk ae (.tup [.str (tx ((x.drop i).take 3)),.ref lp])).trans (Zk h4 (.lst [.ref tq,nv (j+1)]))
     refine q1 (.node any (S++[t])) (j+1) (RT u rfl hj) (n1 _ _ (by unfold SN;rw[e];simp only[u,if_true,jcR])) l4 tq _ (s6.trans s7) (s6.free ((Zk ae _).free h4)) Zj ⟨lp,B++[c],?_,L,s7 _ _ U,Y.imp λa b _ z=>(FT.same s7 z).imp λa zs ha _=>ha.1⟩
     rw[<-ew];exact Zk h4 _ _ _ Zj
    rw[decide_eq_false u]
    refine Yn ?_
    refine⟨_,rfl,_,rfl,_,rfl,_,rfl,_,_,nv (j+2),rfl,rfl,rfl,_,rfl,_,rfl,M,rfl,_,rfl,?_⟩
    rw[Vq x j 2,Dv,R3]
    by_cases I:(x.drop j).take 2=[59,32]
    .rw[decide_eq_true I]
     have ag:=RT I rfl hj
     refine Yn ⟨_,rfl,_,_,nv (j+2),rfl,rfl,rfl,?_⟩
     have st:SN (Rc q (Vl o) d) (m+1) S (x.drop k)=SN (Rc q (Vl o) d) m (S++[t]) (x.drop (j+2)):=by
      conv=>lhs;unfold SN
      rw[e];simp only[u,I,if_true,if_false,jcR]
     rw[st]at n0 n1
     exact⟨m,by omega,j+2,B++[c],S++[t],nC (.ref l),rfl,s6,U,Y,ag,by omega,by rw[O1];simp;omega,n0,n1⟩
    .rw[decide_eq_false I]
     exact Ys ⟨(by show 0<=qd;decide),λl4 h4=>q0 (n0 (by unfold SN;rw[e];simp only[u,I,if_false])) l4 _ (s6.trans (Zk h4 _)) (s6.free h4) Zj⟩
  .rw[decide_eq_false hw]
   have nb:¬(((x.drop i).drop 3).take 1=[40]/\((x.drop i).take 3=w3 qm\/(x.drop i).take 3=w3 vh)):=λz=>hw z.2
   exact Ys ⟨_,rfl,_,rfl,_,rfl,_,rfl,x,i,p,r,q,o,rfl,hL.same g,O,hi,λe l H1 s1 n D=>q0 (by unfold Rc;rw[if_neg nb,e]) l _ (Z5.trans g s1) (Z5.free g n) D,λf j hj e l c H1 s1 n D ok ft=>q1 (.leaf f) j hj (by unfold Rc;rw[if_neg nb,e]) l c _ (Z5.trans g s1) (Z5.free g n) D ⟨ok,ft⟩⟩
 .rw[decide_eq_false J]
  have nb:¬(((x.drop i).drop 3).take 1=[40]/\((x.drop i).take 3=w3 qm\/(x.drop i).take 3=w3 vh)):=λz=>J (by rw[<-jcR];exact z.1)
  exact Ys (Ys ⟨_,rfl,_,rfl,_,rfl,_,rfl,x,i,p,r,q,o,rfl,hL.same (Z5.refl H),O,hi,λe l H1 s1 n D=>q0 (by unfold Rc;rw[if_neg nb,e]) l _ (Z5.trans (Z5.refl H) s1) (Z5.free (Z5.refl H) n) D,λf j hj e l c H1 s1 n D ok ft=>q1 (.leaf f) j hj (by unfold Rc;rw[if_neg nb,e]) l c _ (Z5.trans (Z5.refl H) s1) (Z5.free (Z5.refl H) n) D ⟨ok,ft⟩⟩)
theorem pD{f:pA}{g:jaF}(F:Xl K "_law_bid" "_law_bid" Ip f g)(a:mg "_law_bid"=nC (.ref f))(c:Z3 P w K mg base 5 "_law_single" ["_law_text_here","_law_at","_law_names_here","_law_kinds_here"] [] (Ph K)):∀d,Z3 P w K mg base (6+d) "_law_bid" ["_law_text_here","_law_at","_law_deep","_law_names_here","_law_kinds_here"] [] (jW K d):=by
 intro d
 induction d with
 |zero=>exact p8 F a c (F.Yp a (mG F λ_ _ _ _ _ _ _ _ _ _ _=>rfl) Wz (λj H Q E h=>h.elim) (λe A b s H j Q E l h=>h.elim))
 |succ d i=>exact jg d F a c i
end
noncomputable def qi (val:Tr->Nat) (d:Nat):Sp:=λb H Q _=>∃(p:pA)(t:Tr)(A:pA->Prop),b=[.ref p]/\FT A H d p t/\Yj t<=900/\∀a,Z5 H a->Q (nv (val t)) a
noncomputable def tM (a:oh):Sp:=qi Yj 5
theorem uG:∀m<7,∀x<64,x<2^m->x|||(2^m-1)=2^m-1:=by decide+kernel
theorem mJ{m:Nat}:∀(a:List Nat)(b:Nat),b<2^m->(∀j∈a,j<m)->Ew b a<2^m
 |[],b,hb,_=>hb
 |j::a,b,hb,h=>mJ a (b|||2^j) (Nat.or_lt_two_pow hb (Nat.pow_lt_pow_right (by decide) (h j (U7 ..)))) λk c=>h k (jcx _ c)
theorem Gi{ns a:List (List Nat)}(c:ns.length<=6)(f:a.length=ns.length){b:Nat}{pl:List Nat}(h:Wm ns (kdOf a) b pl):L2.Sub b ns.length:=by
 have d:b<2^ns.length:=by
  rcases h with⟨g,_,_,e,_,rfl,_⟩|⟨k,⟨_,rfl⟩,_⟩
  .exact mJ g 0 (jfs _) e
  .have:=Mz a k a.length;rw[f]at this|-;exact this
 have:=je0 (show 0<2 by decide) c
 exact uG _ (by omega) b (by omega) d
theorem Bl{ns l:List (List Nat)}(g:ns.length<=6)(i:l.length=ns.length):∀(d:Nat)(t:Tr)(x:List Nat),YS ns (kdOf l) d t x->L2.Sub (Xw t) ns.length
 |0,_,_,h=>h.elim
 |d+1,.leaf f,x,h=>by
  obtain⟨ok,z,hw,_⟩:=h
  cases f with
  |none=>exact uG _ (by omega) 0 (by decide) (jfs _)
  |only b m=>obtain⟨n,a,_⟩:=hw;exact Gi g i a
  |some b c m=>obtain⟨n,a,_⟩:=hw;exact Gi g i a
  |most b c m=>obtain⟨n,a,_⟩:=hw;exact Gi g i a
 |d+1,.node any ts,x,h=>by
  obtain⟨A,q,_⟩:=h
  have j:∀e:List Tr,(∀u∈e,L2.Sub (Xw u) ns.length)->L2.Sub (YQ e) ns.length:=by
   intro e
   induction e with
   |nil=>intro _;exact uG _ (by omega) 0 (by decide) (jfs _)
   |cons u e w=>intro h;exact Sub.jcj (h u (U7 ..)) (w λv p=>h v (jcx _ p))
  exact j ts λu o=>by
   obtain⟨y,r⟩:=q.mem o
   exact Bl g i d u y r
noncomputable def vz (K:oh):Sp:=λe H Q _=>∃(p r:pA)(b d:List (List Nat)),Yy K H p (b.map sv)/\Yy K H r (d.map sv)/\b.length<=6/\d.length=b.length/\b.Nodup/\(∀k∈d,YX k=qm)/\(∀n∈b,YX n=qm)/\JQ K H p (b.map tx)/\
 ((∃v n,e=[v,.ref p,.ref r]/\Mm K H v n/\kh n .str=vh/\∀l a,Z5 H a->H l=su->a l=nC (.lst [])->Q (.ref l) a)\/
  ∃x:List Nat,e=[.str (tx x),.ref p,.ref r]/\(∀c∈x,c<128)/\x.length<=3000/\(¬(x.length<=2000/\∃t,YS b (kdOf d) 4 t x/\Yj t<=24)->∀l a,Z5 H a->H l=su->a l=nC (.lst [])->Q (.ref l) a)/\
   (∀t,x.length<=2000->YS b (kdOf d) 4 t x->Yj t<=24->∀l a,Z5 H a->H l=su->a l=nC (.lst [.str (W6 (b.map tx) t)])->Q (.ref l) a))
section
variable{P:jcz}{w:jcS}{K:oh}{mg:Str->Option pL}{base:jcX}
theorem uQ(d:Nat){f:pA}{U:jaF}(F:Xl K "_law_tally" "_law_tally" Ob f U)(S:mg "_law_tally"=nC (.ref f))(R:mg "sum"=su)(O:Z3 P w K mg base (d+1) "_law_tally" ["_law_form_here"] [] (qi Yj d)):Z3 P w K mg base (d+2) "_law_tally" ["_law_form_here"] [] (qi Yj (d+1)):=by
 refine F.Yp S (RV F λ_ _ _ _ _ _ _=>rfl) CG (λvs H Q E h=>?_) (λT A u s H vs Q E Y h=>?_)
 .obtain⟨p,t,A,rfl,_⟩:=h;rfl
 obtain⟨p,t,A,rfl,G,r,q⟩:=h
 refine⟨_,(Zd (ZR (ZK Qd (Z4 uB (Ze 0) Zc (λ_ _=>rfl)) (Xf (Za Zf (Za Zf Zb))) (by with_unfolding_all rfl)) (Zh (ZC Zc)) ZF)
  (Zh (ZC (Zg (Xc Yh) Zc (Yw (Hr rfl) rfl R (boot_sum) (Za (XH (ZJ Ob) ["_law_form_here"] ["_law_part"] [] [] rfl rfl rfl ⟨s.heap.objs.size+1,rfl⟩ rfl rfl (by decide+kernel) (Ws (Z4 uB (Ze 0) Zc (λ_ _=>rfl))) (λC M y B=>(Ym (i:=0) (show jdM (["_law_part"]:List Str)from by decide+kernel) rfl (jbI rfl))) (λC M y B=>Wu) (λC M y B=>(Zx O Y (by first|decide|omega) rfl (Za (Ze 0) Zb)))) Zb)))))),?_⟩
 cases t with
 |leaf f=>
  obtain⟨aa,k0,l0,z0,m,X,W⟩:=G
  cases f<;>(refine⟨_,rfl,p,_,_,_,rfl,rfl,Su.of m,rfl,(by show 2<=qd;decide),λpt a=>⟨pt,_,rfl,.inr (Su.of Zj),rfl,rfl,_,rfl,Ys ?_⟩⟩)<;>exact q _ (Zk a _)
 |node any c=>
  obtain⟨l,ps,m,hA,I,e⟩:=G
  have z:1+Z8 c<=900:=r
  have tl:=Qm c
  cases any<;>(refine⟨_,rfl,p,_,_,_,rfl,rfl,Su.of m,rfl,(by show 2<=qd;decide),λpt a=>⟨pt,_,rfl,.inr (Su.of Zj),rfl,rfl,_,rfl,Yn ?_⟩⟩)
  all_goals
   have g:=Zk a (.tup [V.str "any",V.str "one"])
   refine⟨_,rfl,p,_,_,_,rfl,rfl,Su.of (g _ _ m),rfl,l,rfl,⟨_,Yy.of (g _ _ I)⟩,λL D=>?_⟩
   refine Uj (xs:=ps.map V.ref) (λk o=>Z5 (upd H pt (.tup [V.str "any",V.str "one"])) o/\o L=nC (.lst (((c.take k).map λt=>((Yj t:Nat):Int)).map V.int))) ⟨Zk D _,Zj⟩ (λk o _⟨s',_⟩=>Yy.of (s' _ _ (g _ _ I))) (λk v x Z=>?_) (λx=>?_)
   rintro⟨n,j⟩ K1 K0 k1 k0
   obtain⟨b,t,rfl,hb,J,ib⟩:=e.at Z
   have mt:=Tu (jcE J)
   refine⟨_,rfl,b,t,A,rfl,(ib.same g).same n,by omega,λH3 N=>k1 _ _ _ (N _ _ j) ?_ ⟨(n.trans N).upd D _,?_⟩⟩
   rw[rz,rz,jcB];exact Xr (by omega)
   rw[Zj,jdE,J,jcA,jcA];rfl
   rintro⟨n,j⟩
   rw[rz,e.1,jc2]at j
   refine⟨L,_,rfl,Yy.of j,_,_,nv (1+Z8 c),rfl,rfl,?_,q x (g.trans n)⟩
   rw[<-JL];show V.int (1+((Z8 c:Nat):Int))=V.int ((1+Z8 c:Nat):Int)
   congr 1
theorem xZ{f:pA}{g:jaF}(F:Xl K "_law_tally" "_law_tally" Ob f g)(b:mg "_law_tally"=nC (.ref f))(c:mg "sum"=su):∀d,Z3 P w K mg base (d+1) "_law_tally" ["_law_form_here"] [] (qi Yj d):=by
 intro d
 induction d with
 |zero=>
  refine F.Yp b (RV F λ_ _ _ _ _ _ _=>rfl) CG (λl H Q E h=>?_) (λe A a s H l Q E m h=>?_)
  .obtain⟨p,t,A,rfl,_⟩:=h;rfl
  .obtain⟨p,t,A,rfl,i,_⟩:=h;exact i.elim
 |succ d j=>exact uQ d F b c j
theorem ji{f:pA}{fd:jaF}(F:Xl K "_law_due" "_law_due" yN f fd)(ZZ:mg "_law_due"=nC (.ref f))(Ye:mg "isinstance"=su)(UJ:mg "str"=su)(Yz:mg "len"=su)
 (Oo:Z3 P w K mg base 10 "_law_bid" ["_law_text_here","_law_at","_law_deep","_law_names_here","_law_kinds_here"] [] (jX K))
 (RB:Z3 P w K mg base 12 "_law_text" ["_law_form_here","_law_names_here"] [] (zK K))
 (PK:Z3 P w K mg base 6 "_law_tally" ["_law_form_here"] [] (tM K)):Z3 P w K mg base 13 "_law_due" ["_law_text_here","_law_names_here","_law_kinds_here"] [] (vz K):=by
 refine F.Yp ZZ (Bq F λ_ _ _ _ _ _ _ _ _=>rfl) vq (λvs H Q E h=>?_) (λab A aa s H vs Q E O h=>?_)
 .obtain⟨p,r,C,J,_,_,_,_,_,_,_,_,⟨v,n,rfl,_⟩|⟨x,rfl,_⟩⟩:=h<;>rfl
 obtain⟨p,r,C,J,hP,hR,y,kl,g,G,U,hN,h⟩:=h
 refine⟨_,(Zd (ZR (Tg (XN (YF (Yg (RD .str rfl Ye rfl UJ (Ze 0)))) (Xn (ZK R6 (Yw YL rfl Yz jcN (Za (Ze 0) Zb)) Zc (Yb _))))) (Zh (ZC (ZV Zb))) ZF)
  (Zd (ZL (i:=3) vq.nd rfl (jbI rfl) (Zx Oo O (by first|decide|omega) rfl (Za (Ze 0) (Za Zc (Za Zc (Za (Ze 1) (Za (Ze 2) Zb)))))))
  (Zd (ZR (Tg (XN (ZK (O8 O.Rn) (Ze 3) (ZV Zb) (Yb _)) (XN (ZK La (Z4 (YH K) (Ze 3) Zc (λ_ _=>rfl)) (Yw YL rfl Yz jcN (Za (Ze 0) Zb)) (Yb _)) (Xn (ZK R6 (Zx PK O (by first|decide|omega) rfl (Za (Z4 (YH K) (Ze 3) Zc (λ_ _=>rfl)) Zb)) Zc (Yb _)))))) (Zh (ZC (ZV Zb))) ZF)
  (Zh (ZC (ZV (Za (Zx RB O (by first|decide|omega) rfl (Za (Z4 (YH K) (Ze 3) Zc (λ_ _=>rfl)) (Za (Ze 1) Zb))) Zb))))))),?_⟩
 rcases h with⟨v,n,rfl,hk,X,q⟩|⟨x,rfl,hA,hz,S,q1⟩
 .refine⟨_,rfl,v,n,rfl,hk,_,rfl,?_⟩
  rw[X]
  exact Ys (Ys ⟨(by show 0<=qd;decide),λl u=>q l _ (Zk u _) u Zj⟩)
 have Z:KindsOk (kdOf J) (Vl J):=kinds_ok (by omega) G
 have c:∀n∈C,W8 n:=λn X=>Q6 (U n X)
 refine⟨_,rfl,_,.str,rfl,TY.str _,_,rfl,Yn ?_⟩
 have L:(tx x).length<=qd:=by rw[Yo,jcD];omega
 refine⟨_,rfl,tx x,rfl,L,_,_,rfl,rfl,_,rfl,?_⟩
 by_cases h2:x.length<=2000
 .rw[decide_eq_false (show¬((2000:Int)<((tx x).length:Int))by rw[Yo];omega)]
  refine Yn ?_
  refine⟨_,rfl,_,rfl,_,rfl,x,0,p,r,C,J,rfl,⟨hP,hR,y,by omega,hA,hz⟩,G,jcY _,λe l H1 T u N=>?_,λt j hj e l M H1 T u N ft=>?_⟩
  .refine⟨_,rfl,(by show 0<=qd;decide),λR a=>⟨l,R,[],rfl,rfl,Zk a _ _ _ N,Zj,_,rfl,?_⟩⟩
   exact Ys (Ys ⟨(by show 0<=qd;decide),λY I=>S (λ⟨_,t,m,_⟩=>by have:=(Lh c g y Z).mpr m;rw[jfE]at e;rw[e]at this;cases this) Y _ ((T.trans (Zk a _)).trans (Zk I _)) (T.free ((Zk a _).free I)) Zj⟩)
  .rw[jfE]at e
   refine⟨_,rfl,(by show 0<=qd;decide),λR a=>⟨l,R,[.ref M,nv j],rfl,rfl,Zk a _ _ _ N,Zj,_,rfl,?_⟩⟩
   have B:=T.trans (Zk a (.lst []))
   have d:=Zk a (.lst []) _ _ N
   have o:=FT.same (Zk a (.lst [])) ft
   generalize upd H1 R (.lst [])=H2 at B d o|-
   refine Yn ⟨_,rfl,l,_,1,nv j,rfl,rfl,Yy.of d,rfl,_,rfl,tx x,rfl,L,_,_,rfl,rfl,_,rfl,?_⟩
   by_cases ac:j<x.length
   .rw[decide_eq_true (show((j:Nat):Int)<((tx x).length:Int)by rw[Yo];omega)]
    refine Ys (Ys ⟨(by show 0<=qd;decide),λY I=>S (λ⟨_,t2,m,_⟩=>?_) Y _ (B.trans (Zk I _)) (B.free I) Zj⟩)
    have:=(Lh c g y Z).mpr m
    rw[e]at this
    have:=congrArg jd7 (Prod.mk.inj (jc8 this)).2
    rw[jcG]at this
    simp at this;omega
   .rw[decide_eq_false (show¬((j:Nat):Int)<((tx x).length:Int)by rw[Yo];omega)]
    have e2:Rc C (Vl J) 4 x=nC (t,[]):=by rw[e,jej (by omega)]
    have m:=(Lh c g y Z).mp e2
    have h5:=Oi c _ _ _ m
    refine Yn ⟨_,rfl,l,_,0,.ref M,rfl,rfl,Yy.of d,rfl,M,t,_,rfl,FT.up 4 o,by omega,λH3 D=>?_⟩
    refine⟨_,_,rfl,rfl,_,rfl,?_⟩
    by_cases hy:Yj t<=24
    .rw[decide_eq_false (show¬((24:Int)<((Yj t:Nat):Int))by omega)]
     refine Yn ⟨_,rfl,l,_,0,.ref M,rfl,rfl,Yy.of (D _ _ d),rfl,_,rfl,M,t,_,p,C.map tx,C.length,rfl,o.same D,by omega,hN.same (B.trans D),y,by rw[rz];exact U6 _,Bl y kl _ _ _ m,λH4 s4=>⟨(by show 1<=qd;decide),λl5 b=>?_⟩⟩
     have S4:=(B.trans D).trans s4
     exact q1 t h2 m hy l5 _ (S4.trans (Zk b _)) (S4.free b) Zj
    .rw[decide_eq_true (show((24:Int)<((Yj t:Nat):Int))by omega)]
     exact Ys ⟨(by show 0<=qd;decide),λl5 b=>S (λ⟨_,t2,W,ty⟩=>hy (by rw[I9 c g y Z m W];exact ty)) l5 _ ((B.trans D).trans (Zk b _)) ((B.trans D).free b) Zj⟩
 .rw[decide_eq_true (show((2000:Int)<((tx x).length:Int))by rw[Yo];omega)]
  exact Ys ⟨(by show 0<=qd;decide),λl u=>S (λz=>h2 z.1) l _ (Zk u _) u Zj⟩
end
structure jcg(K:oh)(mg:Str->Option pL)(C:pA):Prop where
 self:mg "NoText"=nC (.ref C)
 exd:nP K C
 exk:bj K C
 slf:jcJ K C (.ref C)=nC qm
 val:jaE K (.ref C) (.type "ValueError")=nC qm
 HallError:∃d,mg "HallError"=nC (.ref d)/\jaE K (.ref C) (.ref d)=nC qm
 NoBid:∃d,mg "NoBid"=nC (.ref d)/\jaE K (.ref C) (.ref d)=nC vh
 NoBundle:∃d,mg "NoBundle"=nC (.ref d)/\jaE K (.ref C) (.ref d)=nC vh
 NoName:∃d,mg "NoName"=nC (.ref d)/\jaE K (.ref C) (.ref d)=nC vh
 NoNumber:∃d,mg "NoNumber"=nC (.ref d)/\jaE K (.ref C) (.ref d)=nC vh
 NoPaper:∃d,mg "NoPaper"=nC (.ref d)/\jaE K (.ref C) (.ref d)=nC vh
 NoRow:∃d,mg "NoRow"=nC (.ref d)/\jaE K (.ref C) (.ref d)=nC vh
 BadStep:∃d,mg "BadStep"=nC (.ref d)/\jaE K (.ref C) (.ref d)=nC vh
 TooLate:∃d,mg "TooLate"=nC (.ref d)/\jaE K (.ref C) (.ref d)=nC vh
 TooMany:∃d,mg "TooMany"=nC (.ref d)/\jaE K (.ref C) (.ref d)=nC vh
theorem Fd:jd5 "ValueError"=nC (.type "ValueError"):=PyProof.Rows.Boot.«ValueError»
noncomputable def bA (K:oh) (H:Hp) (ns a:List (List Nat)) (v:V):Prop:=(∃n,Mm K H v n/\kh n .str=vh)\/∃x:List Nat,v=.str (tx x)/\(∀c∈x,c<128)/\x.length<=3000/\¬(x.length<=2000/\∃t,YS ns (kdOf a) 4 t x/\Yj t<=24)
noncomputable def IK (K:oh) (Zz Zw Zi Zv Zm Zq Zr Zn:pA):Sp:=λe H Q _=>∃(v:V)(a:pA)(d c:List (List Nat)),e=[v,.ref a]/\Yu Zn H a d c/\bA K H d c v/\∀b,Z5 H b->Q (.bl qm) b
noncomputable def zJ (K:oh) (Zz Zw Zi Zv Zm Zq Zr Zn:pA):Sp:=λe H Q _=>∃(x:List Nat)(a p:pA)(b d:List (List Nat))(t:Tr),e=[.str (tx x),.ref a,.ref p,.str (W6 (b.map tx) t)]/\Yu Zn H a b d/\H p=nC (.lst (b.map sv))/\YS b (kdOf d) 4 t x/\Yj t<=24/\∀c,Z5 H c->Q (.bl qm) c
section
variable{P:jcz}{w:jcS}{K:oh}{mg:Str->Option pL}{base:jcX}
variable{Zz Zw Zi Zv Zm Zq Zr Zn Zt ZG Zo Zu:pA}
theorem yz{f:pA}{fd:jaF}(F:Xl K "_law_refused" "_law_refused" Lq f fd)(ZZ:mg "_law_refused"=nC (.ref f))(Ye:mg "isinstance"=su)(O6:mg "ValueError"=su)
 (d:X3 cT P w K mg base 23 "read_bid" ["text","stock"] (Lx K Zz Zw Zi Zv Zm Zq Zr Zn Zt ZG Zo Zu))(Z:jcg K mg Zt):Z3 P w K mg base 24 "_law_refused" ["_law_text_here","_law_stock"] [] (IK K Zz Zw Zi Zv Zm Zq Zr Zn):=by
 obtain⟨ac,l,m⟩:=Z.HallError
 obtain⟨r,X,aa⟩:=Z.NoBid
 obtain⟨b,o,u⟩:=Z.NoBundle
 obtain⟨j,R,U⟩:=Z.NoName
 obtain⟨c,p,y⟩:=Z.NoNumber
 obtain⟨g,B,M⟩:=Z.NoPaper
 obtain⟨t,Y,ab⟩:=Z.NoRow
 obtain⟨G,z,L⟩:=Z.BadStep
 obtain⟨I,C,N⟩:=Z.TooLate
 obtain⟨J,D,O⟩:=Z.TooMany
 have S:=Z.self
 have T:=Z.exd
 have kA:jgL K (.ref Zt) ([r,b,j,c,g,t].map jcI)=nC vh:=by simp only[List.map,jgL,aa,u,U,y,M,ab]
 have kB:jgL K (.ref Zt) ([G,I,J].map jcI)=nC vh:=by simp only[List.map,jgL,L,N,O]
 refine F.Yp ZZ (VF F λ_ _ _ _ _ _ _ _=>rfl) Qh (λvs H Q E h=>?_) (λaf A ae s H vs Q E hr h=>?_)
 .obtain⟨v,a,ns,ks,rfl,_⟩:=h;rfl
 obtain⟨v,a,ns,ks,rfl,ad,hc,q⟩:=h
 refine⟨_,(Zd (qN (i:=2) d hr (by omega) rfl rfl S T Qh.nd rfl rfl rfl rfl (Za (Ze 0) (Za (Ze 1) Zb)) (λv=>(Zd (ZL (i:=3) Qh.nd rfl (jbI rfl) (PN (qH rfl Ye rfl l (Ze 2)) (RJ (qI rfl Ye rfl O6 Fd (Ze 2)))))
  (Zd (ZL (i:=3) Qh.nd rfl (jbI rfl) (PN (Ze 3) (RJ (JT (BW rfl Ye (Ze 2) (Xf (Za (TV rfl X) (Za (TV rfl o) (Za (TV rfl R) (Za (TV rfl p) (Za (TV rfl B) (Za (TV rfl Y) Zb))))))))))))
  (Zh (ZC (PN (Ze 3) (RJ (JT (BW rfl Ye (Ze 2) (Xf (Za (TV rfl z) (Za (TV rfl C) (Za (TV rfl D) Zb))))))))))))))
  (Zh (ZC TQ))),?_⟩
 refine⟨_,rfl,_,rfl,a,ns,ks,ad,λH1 e s1 he=>⟨e,Zt,rfl,rfl,Z.slf,?_⟩,?_⟩
 .have s2:=s1.trans (Zk he (J2 e Zt))
  have ex:upd H1 e (J2 e Zt) e=nC (J2 e Zt):=Zj
  generalize upd H1 e (J2 e Zt)=H2 at s2 ex|-
  refine⟨_,rfl,e,Zt,qm,rfl,ex,Z.exk,m,_,rfl,Ys ?_⟩
  refine⟨_,rfl,e,Zt,qm,rfl,ex,Z.exk,Z.val,?_⟩
  refine⟨_,rfl,_,rfl,Ys ⟨_,rfl,(by show 6<=qd;decide),λt1 h1=>⟨e,t1,Zt,_,vh,rfl,Zk h1 _ _ _ ex,Zj,Z.exk,kA,_,rfl,?_⟩⟩⟩
  have s3:=Zk h1 (.tup ([r,b,j,c,g,t].map V.ref))
  refine⟨_,rfl,_,rfl,Ys ⟨_,rfl,(by show 3<=qd;decide),λt2 h2=>⟨e,t2,Zt,_,vh,rfl,Zk h2 _ _ _ (s3 _ _ ex),Zj,Z.exk,kB,_,rfl,?_⟩⟩⟩
  exact q _ ((s2.trans s3).trans (Zk h2 _))
 .rcases hc with⟨n,hk,hn⟩|⟨x,rfl,hx⟩
  .exact .inl ⟨v,n,rfl,hk,hn⟩
  .exact .inr ⟨x,rfl,hx⟩
theorem oF{f:pA}{fd:jaF}(F:Xl K "_law_read" "_law_read" Cv f fd)(ZZ:mg "_law_read"=nC (.ref f))(Ye:mg "isinstance"=su)(U:mg "list"=su)
 (T:Z3 P w K mg base 23 "read_bid" ["text","stock"] [] (K9 K Zz Zw Zi Zv Zm Zq Zr Zn))
 (J:Own K mg "Bid" Zz [])
 (Z7:Own K mg "Only" Zw ["bundle","amount"])
 (ZM:Own K mg "SoMany" Zi ["kind","least","amount"])
 (Z6:Own K mg "UpTo" Zv ["kind","most","each"])
 (ZP:Own K mg "Several" Zm ["bids"])
 (Z0:Own K mg "AnyOf" Zq ["bids"])
 (Z1:Own K mg "OneOf" Zr ["bids"])
 (ZQ:Own K mg "Stock" Zn ["numbers","kinds"])
 (S:∀C sp,iW K Zz Zw Zi Zv Zm Zq Zr Zn C sp->∃ps,Ut P w K mg base 14 C "words" ps sp)
 (X:jaE K (.ref Zz) (.ref Zz)=nC qm)
 (Y:jaE K (.ref Zw) (.ref Zz)=nC qm)
 (Xo:jaE K (.ref Zi) (.ref Zz)=nC qm)
 (Z:jaE K (.ref Zv) (.ref Zz)=nC qm)
 (WN:jaE K (.ref Zm) (.ref Zz)=nC qm)
 (XQ:jaE K (.ref Zq) (.ref Zz)=nC qm)
 (XR:jaE K (.ref Zr) (.ref Zz)=nC qm)
 (VL:jaE K (.ref Zn) (.ref Zz)=nC vh):Z3 P w K mg base 24 "_law_read" ["_law_text_here","_law_stock","_law_names_here","_law_due_here"] [] (zJ K Zz Zw Zi Zv Zm Zq Zr Zn):=by
 have B:∀{H:Hp}{b:pA}{d:Nat}{A:pA->Prop}{t:Tr},XF Zz Zw Zi Zv Zq Zr A H d b t->∃t,TY K H (.ref b) t/\jaE K t (.ref Zz)=nC qm:=λ{H b d A t}j=>by
  cases d with
  |zero=>exact j.elim
  |succ d=>
   cases t with
   |leaf f=>
    obtain⟨_,j⟩:=j
    cases f<;>obtain⟨r,e⟩:=j
    .exact⟨_,J.ty e,X⟩
    .exact⟨_,Z7.ty e,Y⟩
    .exact⟨_,ZM.ty e,Xo⟩
    .exact⟨_,Z6.ty e,Z⟩
   |node any ts=>
    obtain⟨r,l,bs,e,_⟩:=j
    cases any
    .exact⟨_,Z1.ty e,XR⟩
    .exact⟨_,Z0.ty e,XQ⟩
 refine F.Yp ZZ (zZ F λ_ _ _ _ _ _ _ _ _ _=>rfl) zB (λvs H Q E h=>?_) (λaa A D s H vs Q E M h=>?_)
 .obtain⟨x,a,p,m,N,t,rfl,_⟩:=h;rfl
 obtain⟨x,a,p,m,N,t,rfl,g,hp,o,ty,q⟩:=h
 have hG:=g
 obtain⟨ad,ab,ac,ag,_,_,_,_,e5,u,v,af,ae⟩:=hG
 have hN:JQ K H p (m.map tx):=DG hp v u
 have hs:=Bl u e5 _ _ _ o
 refine⟨_,(Zd (BZ (Zh (ZL (i:=4) zB.nd rfl (jbI rfl) (Zx T M (by first|decide|omega) rfl (Za (Ze 0) (Za (Ze 1) Zb))))))
  (Zh (ZC (PN (Jj rfl Ye rfl J.at_ (Ze 4)) (RJ (PP Xv (Ov (Ze 4) S M (by first|decide|omega) (Za (Vf OD rfl U (jit) (Za (Ze 2) Zb)) Zb)) (Ze 3) (Yb _))))))),?_⟩
 refine⟨_,rfl,_,rfl,x,a,m,N,t,rfl,g,o,QL _ _ _ o,ty,λb H1 O L=>?_⟩
 obtain⟨I,z,hk⟩:=B L
 refine⟨_,rfl,_,I,qm,rfl,z,hk,_,rfl,Ys ?_⟩
 have y:=XF.to 4 5 L (by have:=QL _ _ _ o;omega)
 obtain⟨C,r,ff,sp,g1,g2,g3,g4⟩:=Ab K (Zm:=Zm) (Zn:=Zn) y (by omega) u hs
 have c:=hN.same O
 refine⟨_,rfl,b,C,r,ff,sp,rfl,g1,g2,g3,_,rfl,p,_,rfl,.inl c.1,λlh hh=>?_⟩
 have n:=Zk hh (.lst ((m.map tx).map V.str))
 refine g4 _ lh (m.map tx) n ⟨Yy.of Zj,c.2⟩ (by rw[rz];exact U6 _) _ λR G=>?_
 refine⟨_,rfl,rfl,?_⟩
 rw[decide_eq_true rfl]
 exact q _ ((O.trans n).trans G)
end
noncomputable def Iu (d:oh):Sp:=λb H Q _=>∃(x:List Nat)(c o:Int),b=[.str (tx x),.int c,.int o]/\(∀c∈x,c<128)/\x.length<=2900/\∀y a,Z5 H a->(∀c∈y,c<128)->y.length<=x.length+1->Q (.str (tx y)) a
theorem jay:∀v<19,∃c<128,(jh " +;()=0129afortn_\n\t").cps.toList[v]?=nC c:=by decide
section
variable{P:jcz}{w:jcS}{K:oh}{mg:Str->Option pL}{base:jcX}
theorem yt{f:pA}{fd:jaF}(F:Xl K "_law_changed" "_law_changed" Q9 f fd)(ZZ:mg "_law_changed"=nC (.ref f))(Yz:mg "len"=su)(Y9:mg "range"=su):Z3 P w K mg base 1 "_law_changed" ["_law_text_here","_law_cell_here","_law_other"] [] (Iu K):=by
 refine F.Yp ZZ (Bq F λ_ _ _ _ _ _ _ _ _=>rfl) Vx (λvs H Q E h=>?_) (λaf A ae s H vs Q E hr h=>?_)
 .obtain⟨x,c,o,rfl,_⟩:=h;rfl
 obtain⟨x,c,o,rfl,M,hz,q⟩:=h
 have D:(tx x).length<=qd:=by rw[Yo,jcD];omega
 have b:x.length<=qd:=by rw[jcD];omega
 refine⟨_,(Zd (ZL (i:=3) Vx.nd rfl (jbI rfl) (Z4 Jo Zf (Zg (Fp YZ) (Ze 2) Zc) (λ_ _=>rfl)))
  (Zd (ZL (i:=4) Vx.nd rfl (jbI rfl) (Zg (Fp YZ) (Zg Va (Ze 1) Zc) (Zg (Xc Yh) (Yw YL rfl Yz jcN (Za (Ze 0) Zb)) Zc)))
  (Zd (Eo (i:=5) (ZJ Q9) ["_law_text_here","_law_cell_here","_law_other","_law_sign","_law_at","_law_spots","_law_way","_law_turned"] ["_law_k"] ["_law_text_here"] [0] Vx.nd rfl (jbI rfl) rfl rfl rfl rfl rfl ⟨s.heap.objs.size+1,rfl⟩ rfl rfl (by decide+kernel) (Wr rfl Y9 (Za (Yw YL rfl Yz jcN (Za (Ze 0) Zb)) Zb)) (λC s2 H2 fp=>(Ym (i:=0) (show jdM (["_law_k","_law_text_here"]:List Str)from by decide+kernel) rfl (jbI rfl))) (λC s2 H2 fp=>(JV (ZK Kw (Z4 Jo (Ze 1) (Ze 0) (λ_ _=>rfl)) Zf (by with_unfolding_all rfl)))) (λC s2 H2 fp=>(Ze 0)))
  (Zd (ZR (Tg (VD (ZK Xv (Zg (Fp YZ) (Zg Va (Ze 2) Zc) Zc) Zc (Yb _)) (WM (ZK (aO hr.Rn) (Ze 5) (ZV Zb) (Yb _))))) (Zh (ZL (i:=4) Vx.nd rfl (jbI rfl) (Z4 (YH K) (Ze 5) (Zg (Fp YZ) (Zg Va (Ze 1) Zc) (Yw YK rfl Yz jcN (Za (Ze 5) Zb))) (λ_ _=>rfl)))) ZF)
  (Zd (ZL (i:=6) Vx.nd rfl (jbI rfl) (Zg (Fp YZ) (Ze 1) Zc))
  (Zd (ZR (ZK La (Ze 6) Zc (Yb _)) (Zh (ZC (Zg Zy (Zg Zy (Yc YM (Ze 0) X7 (ZW (Ze 4))) (Ze 3)) (Yc YM (Ze 0) (ZW (Ze 4)) X7)))) ZF)
  (Zd (ZR (ZK La (Ze 6) Zc (Yb _)) (Zh (ZC (Zg Zy (Yc YM (Ze 0) X7 (ZW (Ze 4))) (Yc YM (Ze 0) (ZW (Zg (Xc Yh) (Ze 4) Zc)) X7)))) ZF)
  (Zd (ZR (ZK La (Ze 6) Zc (Yb _)) (Zh (ZC (Zg Zy (Zg Zy (Yc YM (Ze 0) X7 (ZW (Ze 4))) (Ze 3)) (Yc YM (Ze 0) (ZW (Zg (Xc Yh) (Ze 4) Zc)) X7)))) ZF)
  (Zd (ZR (ZK Xv (Ze 6) Zc (Yb _)) (Zd (ZL (i:=7) Vx.nd rfl (jbI rfl) (Zg Zy (Yc YM (Ze 0) (ZW (Zg (Xc Yh) (Ze 4) Zc)) (ZW (Zg (Xc Yh) (Ze 4) Zc))) (Yc YM (Ze 0) (ZW (Ze 4)) (ZW (Zg (Xc Yh) (Ze 4) Zc)))))
   (Zh (ZC (Zg Zy (Zg Zy (Yc YM (Ze 0) X7 (ZW (Ze 4))) (Ze 7)) (Yc YM (Ze 0) (ZW (Zg (Xc Yh) (Ze 4) Zc)) X7))))) ZF)
  (Zh (ZC (Ze 0)))))))))))),?_⟩
 obtain⟨v,ev,hv⟩:=modn o 19 (by decide)
 obtain⟨Z,ac,aa⟩:=jay v hv
 refine⟨_,rfl,_,_,nv v,rfl,rfl,(by show(0:Int)<19;decide),congrArg V.int ev,_,_,Z,rfl,rfl,(by decide),R8 aa,?_⟩
 obtain⟨a0,ea,ha⟩:=modn (c/8) (x.length+1) (by omega)
 refine⟨_,rfl,_,_,rfl,rfl,⟨by decide,by decide⟩,_,rfl,tx x,rfl,D,_,_,nv (x.length+1),rfl,rfl,by rw[Yo];rfl,_,_,nv a0,rfl,rfl,(by show(0:Int)<((x.length+1:Nat):Int);omega),congrArg V.int ea,?_⟩
 refine⟨_,rfl,tx x,rfl,D,_,rfl,by rw[Yo];omega,by rw[Yo];omega,λG O=>?_⟩
 rw[show(((tx x).length:Nat):Int).toNat=x.length by rw[Yo];simp]
 refine Ah (λk H'=>Z5 H H'/\H' G=nC (.lst (((jc4 k).filter λk=>decide (x.getD k 0∈[32,43,59,40,41,61])).map nv))) ⟨Zk O _,Zj⟩ (λk H5 N z K1 K0 k1 k0=>?_) (λH5 z=>?_)
 .rw[jeE]
  obtain⟨U,L⟩:=z
  have d:=M _ (jds N)
  refine⟨_,rfl,_,rfl,tx x,_,x[k],rfl,rfl,D,(by rw[Wd];exact Es N),_,_,rfl,rfl,_,rfl,?_⟩
  show if(!(jdw (jh " +;()=") (tx [x[k]]) 0 6 1).isEmpty)=qm then _ else _
  rw[dz _ d,jhY]
  have eg:x.getD k 0=x[k]:=by rw[jbG,sH N];rfl
  cases hd:decide (x[k]∈[32,43,59,40,41,61])with
  |true=>
   refine Ys ⟨_,rfl,k1 _ _ _ L ?_ ⟨U.upd O _,?_⟩⟩
   .rw[rz]
    have:=jen (λk=>decide (x.getD k 0∈[32,43,59,40,41,61])) (jc4 k)
    rw[jeX]at this
    rw[jcD];omega
   .rw[Zj,jfq,jeK,jcA,jhE (by rw[eg];exact hd)];rfl
  |false=>
   refine Yn (k0 _ ⟨U,?_⟩)
   rw[L,jfq,jeK,jhF (by rw[eg,hd];exact jbJ)];simp
 obtain⟨U,L⟩:=z
 have S:∀k∈(jc4 x.length).filter (λk=>decide (x.getD k 0∈[32,43,59,40,41,61])),k<x.length:=λk N=>jd0.mp (jgE.mp N).1
 have T:((jc4 x.length).filter (λk=>decide (x.getD k 0∈[32,43,59,40,41,61]))).length<=x.length:=by have:=jen (λk=>decide (x.getD k 0∈[32,43,59,40,41,61])) (jc4 x.length);rw[jeX]at this;exact this
 generalize(jc4 x.length).filter (λk=>decide (x.getD k 0∈[32,43,59,40,41,61]))=sp at L S T
 have e6:H5 G=nC (.lst ((sp.map λk=>((k:Nat):Int)).map V.int)):=by rw[L,jdq];rfl
 obtain⟨v2,ab,ai⟩:=modn (o/19) 2 (by decide)
 dsimp only[Xz]
 refine CV (λW H'=>Z5 H H'/\∃a,a<=x.length/\W=[nC (.str (tx x)),nC (.int c),nC (.int o),nC (.str (tx [Z])),nC (nv a),nC (.ref G),su,su]) (λy=>?_) (λW H' z=>?_)
 .refine⟨_,rfl,_,_,rfl,rfl,⟨by decide,by decide⟩,_,_,nv v2,rfl,rfl,(by show(0:Int)<2;decide),congrArg V.int ab,rfl,_,rfl,?_⟩
  by_cases X:v2=1
  .rw[show decide (V.int (v2:Int)=V.int 1)=qm from decide_eq_true (by rw[X];rfl)]
   refine Ys ⟨_,rfl,(by show 0<=qd;decide),λle B=>⟨G,le,_,[],rfl,rfl,Yy.of (Zk B _ _ _ e6),Yy.of Zj,_,rfl,?_⟩⟩
   have I:=U.trans (Zk B (.lst []))
   have e7:=Zk B (.lst []) _ _ e6
   generalize upd H5 le (.lst [])=H7 at I e7|-
   cases sp with
   |nil=>
    rw[if_pos rfl]
    exact Yn (y _ _ ⟨I,a0,by omega,rfl⟩)
   |cons Y sr=>
    rw[if_pos rfl]
    obtain⟨u,eu,hu⟩:=modn (c/8) (Y::sr).length (by simp)
    have ad:(((Y::sr).map λk=>((k:Nat):Int)).map V.int)[u]?=nC (nv ((Y::sr)[u])):=by rw[jdq,jcF,sH hu];rfl
    refine Ys ⟨_,rfl,_,rfl,_,_,rfl,rfl,⟨by decide,by decide⟩,_,rfl,G,_,rfl,.inl (Yy.of e7),_,_,nv u,rfl,rfl,?_,?_,G,_,_,nv ((Y::sr)[u]),rfl,rfl,Yy.of e7,R8 ad,?_⟩
    .show(0:Int)<_;simp
    .rw[rz,rz];exact congrArg V.int eu
    .exact y _ _ ⟨I,_,jer (S _ (jds hu)),rfl⟩
  .rw[show decide (V.int (v2:Int)=V.int 1)=vh from decide_eq_false (λz=>X (by have:=V.int.inj z;omega))]
   exact Yn (Yn (y _ _ ⟨U,a0,by omega,rfl⟩))
 obtain⟨I,a,ag,rfl⟩:=z
 obtain⟨j,ew,hw⟩:=modn c 8 (by decide)
 have e:∀k,∀c∈x.take k,c<128:=λk c d=>M c (jd1 d)
 have g:∀k,∀c∈x.drop k,c<128:=λk c d=>M c (jeu d)
 have p:∀l m r:List Nat,(∀c∈l,c<128)->(∀c∈m,c<128)->(∀c∈r,c<128)->l.length+m.length+r.length<=x.length+1->Q (.str (tx l++tx m++tx r)) H':=λl m r X h2 h3 hl=>by
  rw[Xq,Xq]
  refine q _ _ I (λc d=>?_) (by rw[O1,O1];exact hl)
  rcases jdo.mp d with d|d
  .rcases jdo.mp d with d|d
   .exact X c d
   .exact h2 c d
  .exact h3 c d
 refine⟨_,rfl,_,_,nv j,rfl,rfl,(by show(0:Int)<8;decide),congrArg V.int ew,?_⟩
 have n:Vp x su (nC (a:Int))=x.take a:=bI x a
 have t:∀k:Nat,Vp x (nC (k:Int)) su=x.drop k:=λk=>qX x k
 have lt:(x.take a).length=a:=by rw[jcB];omega
 have J:∀l m:List Nat,l.length+m.length<=x.length+1->(tx l).length+(tx m).length<=qd:=λl m h=>by rw[Yo,Yo,jcD];omega
 have z3:∀l m r:List Nat,l.length+m.length+r.length<=x.length+1->(tx l++tx m).length+(tx r).length<=qd:=λl m r h=>by rw[Xq];exact J _ _ (by rw[O1];exact h)
 have ah:([Z]:List Nat).length=1:=rfl
 have R:∀c∈[Z],c<128:=λc d=>by rw[jc5.mp d];exact ac
 refine⟨_,rfl,_,_,rfl,rfl,_,rfl,?_⟩
 by_cases h2:j<2
 .rw[decide_eq_true (show(j:Int)<2 by omega)]
  have ld:(x.drop a).length=x.length-a:=jcG
  refine Ys ⟨_,rfl,_,rfl,_,rfl,_,rfl,b,_,rfl,_,_,rfl,rfl,?_,_,rfl,_,rfl,_,rfl,_,rfl,b,_,_,rfl,rfl,?_,?_⟩
  .rw[n];exact J _ _ (by omega)
  .rw[n,t];exact z3 _ _ _ (by omega)
  .rw[n,t];exact p _ _ _ (e a) R (g a) (by omega)
 rw[decide_eq_false (show¬(j:Int)<2 by omega)]
 refine Yn ⟨_,rfl,_,_,rfl,rfl,_,rfl,?_⟩
 have ld:(x.drop (a+1)).length=x.length-(a+1):=jcG
 by_cases h4:j<4
 .rw[decide_eq_true (show(j:Int)<4 by omega)]
  refine Ys ⟨_,rfl,_,rfl,_,rfl,_,rfl,b,_,rfl,_,rfl,_,_,nv (a+1),rfl,rfl,rfl,_,rfl,_,rfl,b,_,_,rfl,rfl,?_,?_⟩
  .rw[n,t];exact J _ _ (by omega)
  .rw[n,t]
   have:=p (x.take a) [] (x.drop (a+1)) (e a) (by simp) (g _) (by simp;omega)
   rw[show tx (x.take a)++tx []=tx (x.take a)by rw[Xq,jdA]]at this
   exact this
 rw[decide_eq_false (show¬(j:Int)<4 by omega)]
 refine Yn ⟨_,rfl,_,_,rfl,rfl,_,rfl,?_⟩
 by_cases h6:j<6
 .rw[decide_eq_true (show(j:Int)<6 by omega)]
  refine Ys ⟨_,rfl,_,rfl,_,rfl,_,rfl,b,_,rfl,_,_,rfl,rfl,?_,_,rfl,_,rfl,_,_,nv (a+1),rfl,rfl,rfl,_,rfl,_,rfl,b,_,_,rfl,rfl,?_,?_⟩
  .rw[n];exact J _ _ (by omega)
  .rw[n,t];exact z3 _ _ _ (by omega)
  .rw[n,t];exact p _ _ _ (e a) R (g _) (by omega)
 rw[decide_eq_false (show¬(j:Int)<6 by omega)]
 refine Yn ⟨_,rfl,rfl,_,rfl,?_⟩
 by_cases h7:j=6
 .rw[show decide (V.int (j:Int)=V.int 6)=qm from decide_eq_true (by rw[h7];rfl)]
  have c1:Vp x (nC ((a+1:Nat):Int)) (nC ((a+1+1:Nat):Int))=(x.drop (a+1)).take 1:=Vq x (a+1) 1
  have c2:Vp x (nC ((a:Nat):Int)) (nC ((a+1:Nat):Int))=(x.drop a).take 1:=Vq x a 1
  have l1:((x.drop (a+1)).take 1).length=min 1 (x.length-(a+1)):=by rw[jcB,jcG]
  have l2:((x.drop a).take 1).length=min 1 (x.length-a):=by rw[jcB,jcG]
  have l3:(x.drop (a+2)).length=x.length-(a+2):=jcG
  refine Ys ⟨_,rfl,_,rfl,_,_,nv (a+1),rfl,rfl,rfl,_,rfl,_,rfl,_,_,nv (a+1+1),rfl,rfl,rfl,_,rfl,_,rfl,b,_,rfl,_,rfl,_,rfl,_,rfl,_,_,nv (a+1),rfl,rfl,rfl,_,rfl,_,rfl,b,_,_,rfl,rfl,?_,?_⟩
  .rw[c1,c2];exact J _ _ (by omega)
  rw[c1,c2,Xq]
  refine⟨_,rfl,_,rfl,_,rfl,_,rfl,b,_,rfl,_,_,rfl,rfl,?_,_,rfl,_,rfl,_,_,nv (a+2),rfl,rfl,rfl,_,rfl,_,rfl,b,_,_,rfl,rfl,?_,?_⟩
  .rw[n];exact J _ _ (by rw[O1];omega)
  .rw[n,t];exact z3 _ _ _ (by rw[O1];omega)
  .rw[n,t];exact p _ _ _ (e a) (λc d=>by rcases jdo.mp d with d|d<;>exact M c (jeu (jd1 d))) (g _) (by rw[O1];omega)
 rw[show decide (V.int (j:Int)=V.int 6)=vh from decide_eq_false (λz=>h7 (by have:=V.int.inj z;omega))]
 refine Yn ⟨_,rfl,q x _ I M (by omega)⟩
end
noncomputable def vW (n:Nat) (s:Str):Prop:=∃y,s=tx y/\(∀c∈y,c<128)/\y.length<=n
noncomputable def xF (l t:pA) (v:V):Prop:=v=.non\/(∃i,v=.int i)\/(∃b,v=.bl b)\/v=.ref l\/v=.ref t\/∃y,v=.str (tx y)/\(∀c∈y,c<128)/\y.length<=3000
theorem Yt{n:Nat}{s:Str}(h:(s.cps.toList.all (λc=>decide (c<128))&&decide (s.cps.toList.length<=n))=qm):vW n s:=by
 rw[jbE,jcV,decide_eq_true_eq]at h
 exact⟨_,Ha s,λc a=>of_decide_eq_true (h.1 c a),h.2⟩
theorem Xh{n m:Nat}{s u:Str}(b:vW n s)(d:vW m u):vW (n+m) (s++u):=by
 obtain⟨y,rfl,e,g⟩:=b
 obtain⟨z,rfl,f,h⟩:=d
 refine⟨y++z,Xq y z,λc a=>?_,by rw[O1];omega⟩
 rcases jdo.mp a with a|a
 .exact e c a
 .exact f c a
theorem uL{n:Nat}{k:Int}{z:Str}(h:(z.cps.toList.all (λc=>decide (c<128))&&decide (z.cps.toList.length<=n))=qm):vW (n*k.toNat) ⟨(jcU k.toNat z.cps).foldl (·++·) #[]⟩:=by
 rw[jbE,jcV,decide_eq_true_eq]at h
 have f:∀(k:Nat)(a:Array Nat)(b:Nat),(∀c∈a.toList,c<128)->a.toList.length<=b->(∀c∈((jcU k z.cps).foldl (·++·) a).toList,c<128)/\((jcU k z.cps).foldl (·++·) a).toList.length<=b+n*k:=by
  intro k
  induction k with
  |zero=>intro a b e g;exact⟨e,by show a.toList.length<=_;omega⟩
  |succ k i=>
   intro a b e g
   rw[jek,jh1]
   have:=i (a++z.cps) (b+n) (λc d=>by
    rw[jfQ]at d
    rcases jdo.mp d with d|d
    .exact e c d
    .exact of_decide_eq_true (h.1 c d)) (by rw[jfQ,O1];omega)
   exact⟨this.1,by have:=this.2;rw[Nat.mul_succ];omega⟩
 have:=f k.toNat #[] 0 (by simp) (by simp)
 exact⟨_,Ha _,this.1,by have:=this.2;rw[ji9]at this;exact this⟩
theorem Vm{n m:Nat}{s u:Str}(a:vW n s)(b:vW m u)(h:n+m<=10000):s.length+u.length<=qd:=by
 obtain⟨y,rfl,c,d⟩:=a
 obtain⟨z,rfl,e,f⟩:=b
 rw[Yo,Yo,jcD];omega
theorem Y8{n:Nat}{s:Str}{l t:pA}(h:vW n s)(hn:n<=3000):xF l t (.str s):=by
 obtain⟨y,rfl,a,b⟩:=h
 exact .inr (.inr (.inr (.inr (.inr ⟨y,rfl,a,by omega⟩))))
theorem Ox{P:V->Prop}:∀v∈([]:List V),P v:=λv h=>by cases h
theorem YT{P:V->Prop}{a:V}{xs:List V}(h:P a)(r:∀v∈xs,P v):∀v∈a::xs,P v:=λv b=>by
 rcases jbK.mp b with rfl|b
 .exact h
 .exact r v b
theorem SM{l t b c:pA}{n k:Nat}{xs ys:List V}{H a:Hp}(o:∀v∈xs,xF l t v)(p:∀v∈ys,xF l t v)(j:xs.length=n)(i:ys.length=k)(s:Z5 H a)(g:a b=su)(h:upd a b (.lst ys) c=su)(e:a l=nC (.lst [.str "nothing"]))(f:a t=nC (.tup [.str "nothing"])):
 ∃d H',H'=upd (upd a b (.lst ys)) c (.lst (xs++ys))/\(∀v∈d,xF l t v)/\d.length=n+k/\Z5 H H'/\H' l=nC (.lst [.str "nothing"])/\H' t=nC (.tup [.str "nothing"])/\H' c=nC (.lst d):=by
 have S:=(Zk g (.lst ys)).trans (Zk h (.lst (xs++ys)))
 exact⟨xs++ys,_,rfl,λv m=>(jdo.mp m).elim (o v) (p v),by rw[O1,j,i],s.trans S,S _ _ e,S _ _ f,Zj⟩
noncomputable def vA (f:oh):Sp:=λe H Q _=>∃(c:Int)(a b k:List Nat),e=[.int c,sv a,sv b,sv k]/\vW 8 (tx a)/\vW 8 (tx b)/\vW 8 (tx k)/\∀v l t d,Z5 H d->d l=nC (.lst [.str "nothing"])->d t=nC (.tup [.str "nothing"])->xF l t v->Q v d
section
variable{P:jcz}{w:jcS}{K:oh}{mg:Str->Option pL}{base:jcX}
theorem jj{f:pA}{fd:jaF}(F:Xl K "_law_odd" "_law_odd" yO f fd)(ZZ:mg "_law_odd"=nC (.ref f))(Yz:mg "len"=su):Z3 P w K mg base 1 "_law_odd" ["_law_cell_here","_law_a","_law_other","_law_kind"] [] (vA K):=by
 refine F.Yp ZZ (zZ F λ_ _ _ _ _ _ _ _ _ _=>rfl) Xk (λvs H Q E h=>?_) (λam A al s H vs Q E hr h=>?_)
 .obtain⟨c,a,b,k,rfl,_⟩:=h;rfl
 obtain⟨c,a,b,k,rfl,e,I,D,q⟩:=h
 refine⟨_,(Zd (ZL (i:=4) Xk.nd rfl (jbI rfl) (ZV (Za Xy (Za Zc (Za TQ (Za (ZV (Za Zf Zb)) (Za (Xf (Za Zf Zb)) (Za Zf (Za Zf (Za Zf (Za Zf (Za Zf (Za Zf (Za Zf Zb))))))))))))))
  (Zd (ZL (i:=4) Xk.nd rfl (jbI rfl) (Zg Vv (Ze 4) (ZV (Za Zf (Za Zf (Za Zf (Za Zf (Za Zf Zb))))))))
  (Zd (ZL (i:=4) Xk.nd rfl (jbI rfl) (Zg Vv (Ze 4) (ZV (Za Zf (Za Zf (Za Zf (Za Zf Zb)))))))
  (Zd (ZL (i:=4) Xk.nd rfl (jbI rfl) (Zg Vv (Ze 4) (ZV (Za Zf (Za Zf (Za Zf (Za Zf Zb)))))))
  (Zd (ZL (i:=4) Xk.nd rfl (jbI rfl) (Zg Vv (Ze 4) (ZV (Za Zf (Za Zf (Za Zf (Za Zf Zb)))))))
  (Zd (ZL (i:=4) Xk.nd rfl (jbI rfl) (Zg Vv (Ze 4) (ZV (Za Zf (Za Zf (Za (Zg Zy (Zg Ti Zf Zc) (Zg Ti Zf Zc)) Zb))))))
  (Zd (ZL (i:=4) Xk.nd rfl (jbI rfl) (Zg Vv (Ze 4) (ZV (Za (Zg Ti Zf Zc) (Za (Zg Zy (Zg Zy Zf (Zg Ti Zf Zc)) Zf) Zb)))))
  (Zd (ZL (i:=4) Xk.nd rfl (jbI rfl) (Zg Vv (Ze 4) (ZV (Za (Zg Zy (Zg Zy Zf (Zg Ti Zf Zc)) Zf) (Za (Zg Zy (Zg Zy Zf (Zg Ti Zf Zc)) Zf) (Za (Zg Ti Zf Zc) Zb))))))
  (Zd (ZL (i:=4) Xk.nd rfl (jbI rfl) (Zg Vv (Ze 4) (ZV (Za (Zg Zy (Ze 1) Zf) (Za (Zg Zy (Ze 1) Zf) (Za (Zg Zy (Ze 1) Zf) (Za (Zg Zy (Ze 1) Zf) Zb)))))))
  (Zd (ZL (i:=4) Xk.nd rfl (jbI rfl) (Zg Vv (Ze 4) (ZV (Za (Zg Zy (Ze 1) Zf) (Za (Zg Zy (Ze 1) Zf) (Za (Zg Zy (Ze 1) Zf) (Za (Zg Zy (Ze 1) Zf) (Za (Zg Zy (Ze 1) Zf) Zb))))))))
  (Zd (ZL (i:=4) Xk.nd rfl (jbI rfl) (Zg Vv (Ze 4) (ZV (Za (Zg Zy (Ze 1) Zf) (Za (Zg Zy (Ze 1) Zf) Zb)))))
  (Zd (ZL (i:=4) Xk.nd rfl (jbI rfl) (Zg Vv (Ze 4) (ZV (Za (Zg Zy (Zg Zy Zf (Ze 1)) Zf) (Za (Zg Zy (Zg Zy Zf (Ze 1)) Zf) (Za (Zg Zy (Zg Zy Zf (Ze 1)) Zf) (Za (Zg Zy (Zg Zy Zf (Ze 1)) Zf) Zb)))))))
  (Zd (ZL (i:=4) Xk.nd rfl (jbI rfl) (Zg Vv (Ze 4) (ZV (Za (Zg Zy (Zg Zy Zf (Ze 1)) Zf) (Za (Zg Zy (Zg Zy Zf (Ze 1)) Zf) (Za (Zg Zy (Zg Zy Zf (Ze 1)) Zf) Zb))))))
  (Zd (ZL (i:=4) Xk.nd rfl (jbI rfl) (Zg Vv (Ze 4) (ZV (Za (Zg Zy (Zg Zy Zf (Ze 1)) Zf) (Za (Zg Zy (Zg Zy Zf (Ze 1)) Zf) (Za (Zg Zy (Zg Zy Zf (Ze 1)) Zf) Zb))))))
  (Zd (ZL (i:=4) Xk.nd rfl (jbI rfl) (Zg Vv (Ze 4) (ZV (Za (Zg Zy (Zg Zy (Zg Zy (Ze 1) Zf) (Ze 1)) Zf) (Za (Zg Zy (Zg Zy Zf (Ze 1)) Zf) (Za (Zg Zy (Zg Zy Zf (Ze 1)) Zf) (Za (Zg Zy (Ze 1) Zf) Zb)))))))
  (Zd (ZL (i:=4) Xk.nd rfl (jbI rfl) (Zg Vv (Ze 4) (ZV (Za Zf (Za (Zg Zy (Ze 1) Zf) (Za (Zg Zy (Ze 1) Zf) (Za (Zg Zy (Ze 1) Zf) (Za (Zg Zy (Ze 1) Zf) (Za (Zg Zy (Ze 1) Zf) (Za Zf Zb))))))))))
  (Zd (ZL (i:=4) Xk.nd rfl (jbI rfl) (Zg Vv (Ze 4) (ZV (Za Zf (Za (Zg Zy (Ze 3) Zf) (Za (Zg Zy (Zg Zy Zf (Ze 3)) Zf) (Za (Zg Zy (Zg Zy (Zg Zy (Zg Zy Zf (Ze 3)) Zf) (Ze 1)) Zf) Zb)))))))
  (Zd (ZL (i:=4) Xk.nd rfl (jbI rfl) (Zg Vv (Ze 4) (ZV (Za (Zg Zy (Zg Zy (Zg Zy (Ze 1) Zf) (Ze 3)) Zf) (Za (Zg Zy (Zg Zy (Zg Zy (Zg Zy Zf (Ze 3)) Zf) (Ze 3)) Zf) (Za (Zg Zy (Zg Zy Zf (Ze 3)) Zf) Zb))))))
  (Zd (ZL (i:=4) Xk.nd rfl (jbI rfl) (Zg Vv (Ze 4) (ZV (Za (Zg Zy (Zg Zy (Zg Zy (Zg Zy (Zg Zy (Ze 1) Zf) (Ze 2)) Zf) (Ze 1)) Zf) (Za (Zg Zy (Zg Zy (Zg Zy (Ze 1) Zf) (Ze 2)) Zf) (Za (Zg Zy (Zg Zy (Zg Zy (Ze 1) Zf) (Ze 2)) Zf) Zb))))))
  (Zh (ZC (Z4 (YH K) (Ze 4) (Zg (Fp YZ) (Ze 0) (Yw YK rfl Yz jcN (Za (Ze 4) Zb))) (λ_ _=>rfl))))))))))))))))))))))),?_⟩
 refine⟨(by show 1<=qd;decide),λB h1=>⟨(by show 1<=qd;decide),λC h2=>⟨(by show 12<=qd;decide),λL J=>?_⟩⟩⟩
 have Z:=Zk h2 (.tup [.str "nothing"]) _ _ (show upd H B (.lst [.str "nothing"]) B=nC (.lst [.str "nothing"])from Zj)
 have e2:upd (upd H B (.lst [.str "nothing"])) C (.tup [.str "nothing"]) C=nC (.tup [.str "nothing"]):=Zj
 have s1:=(Zk h1 (.lst [.str "nothing"])).trans (Zk h2 (.tup [.str "nothing"]))
 generalize upd (upd H B (.lst [.str "nothing"])) C (.tup [.str "nothing"])=H1 at Z e2 s1 J|-
 have hx:∀v∈[V.non,.int 5,.bl qm,.ref B,.ref C,.str (jh ""),.str (jh " "),.str (jh "nothing "),.str (jh " nothing"),.str (jh "Nothing"),.str (jh "any"),.str (jh "any(")],xF B C v:=YT (.inl rfl) (YT (.inr (.inl ⟨5,rfl⟩)) (YT (.inr (.inr (.inl ⟨qm,rfl⟩))) (YT (.inr (.inr (.inr (.inl rfl)))) (YT (.inr (.inr (.inr (.inr (.inl rfl))))) (YT (Y8 (Yt (n:=0) (by decide)) (by decide)) (YT (Y8 (Yt (n:=1) (by decide)) (by decide)) (YT (Y8 (Yt (n:=8) (by decide)) (by decide)) (YT (Y8 (Yt (n:=8) (by decide)) (by decide)) (YT (Y8 (Yt (n:=7) (by decide)) (by decide)) (YT (Y8 (Yt (n:=3) (by decide)) (by decide)) (YT (Y8 (Yt (n:=4) (by decide)) (by decide)) (Ox))))))))))))
 obtain⟨o,ex,d,g⟩:∃o:List V,o=[V.non,.int 5,.bl qm,.ref B,.ref C,.str (jh ""),.str (jh " "),.str (jh "nothing "),.str (jh " nothing"),.str (jh "Nothing"),.str (jh "any"),.str (jh "any(")]/\o.length=12/\∀v∈o,xF B C v:=⟨_,rfl,rfl,hx⟩
 have x:=s1.trans (Zk J (.lst o))
 have r:=Zk J (.lst o) _ _ Z
 have u:=Zk J (.lst o) _ _ e2
 have p:upd H1 L (.lst o) L=nC (.lst o):=Zj
 rw[<-ex]
 generalize upd H1 L (.lst o)=G at x r u p|-
 clear hx ex J s1 Z e2 h1 h2
 rw[show L2.start (["_law_cell_here","_law_a","_law_other","_law_kind","_law_some"]:List Str) [V.int c,sv a,sv b,sv k]=[nC (.int c),nC (sv a),nC (sv b),nC (sv k),su]from rfl]
 dsimp only[Xz,jeo]
 refine⟨_,rfl,(by show 5<=qd;decide),λz m=>?_⟩
 refine⟨L,z,o,_,rfl,rfl,Zk m _ _ _ p,Zj,by rw[d];show 12+5<=qd;decide,λaa y=>?_⟩
 obtain⟨o,G,j,g,d,x,r,u,p⟩:=SM (t:=C) (l:=B) (n:=12) (k:=5) g (YT (Y8 (Yt (n:=4) (by decide)) (by decide)) (YT (Y8 (Yt (n:=6) (by decide)) (by decide)) (YT (Y8 (Yt (n:=20) (by decide)) (by decide)) (YT (Y8 (Yt (n:=14) (by decide)) (by decide)) (YT (Y8 (Yt (n:=14) (by decide)) (by decide)) (Ox)))))) d rfl x m y r u
 rw[<-j]
 clear j
 dsimp only[Xz,jeo]
 refine⟨_,rfl,(by show 4<=qd;decide),λz m=>?_⟩
 refine⟨aa,z,o,_,rfl,rfl,Zk m _ _ _ p,Zj,by rw[d];show 17+4<=qd;decide,λab y=>?_⟩
 obtain⟨o,G,j,g,d,x,r,u,p⟩:=SM (t:=C) (l:=B) (n:=17) (k:=4) g (YT (Y8 (Yt (n:=21) (by decide)) (by decide)) (YT (Y8 (Yt (n:=21) (by decide)) (by decide)) (YT (Y8 (Yt (n:=12) (by decide)) (by decide)) (YT (Y8 (Yt (n:=12) (by decide)) (by decide)) (Ox))))) d rfl x m y r u
 rw[<-j]
 clear j
 dsimp only[Xz,jeo]
 refine⟨_,rfl,(by show 4<=qd;decide),λz m=>?_⟩
 refine⟨ab,z,o,_,rfl,rfl,Zk m _ _ _ p,Zj,by rw[d];show 21+4<=qd;decide,λac y=>?_⟩
 obtain⟨o,G,j,g,d,x,r,u,p⟩:=SM (t:=C) (l:=B) (n:=21) (k:=4) g (YT (Y8 (Yt (n:=22) (by decide)) (by decide)) (YT (Y8 (Yt (n:=16) (by decide)) (by decide)) (YT (Y8 (Yt (n:=21) (by decide)) (by decide)) (YT (Y8 (Yt (n:=13) (by decide)) (by decide)) (Ox))))) d rfl x m y r u
 rw[<-j]
 clear j
 dsimp only[Xz,jeo]
 refine⟨_,rfl,(by show 4<=qd;decide),λz m=>?_⟩
 refine⟨ac,z,o,_,rfl,rfl,Zk m _ _ _ p,Zj,by rw[d];show 25+4<=qd;decide,λad y=>?_⟩
 obtain⟨o,G,j,g,d,x,r,u,p⟩:=SM (t:=C) (l:=B) (n:=25) (k:=4) g (YT (Y8 (Yt (n:=21) (by decide)) (by decide)) (YT (Y8 (Yt (n:=9) (by decide)) (by decide)) (YT (Y8 (Yt (n:=27) (by decide)) (by decide)) (YT (Y8 (Yt (n:=22) (by decide)) (by decide)) (Ox))))) d rfl x m y r u
 rw[<-j]
 clear j
 dsimp only[Xz,jeo]
 refine⟨_,rfl,_,200,rfl,rfl,by decide,by decide,by decide,by decide,_,200,rfl,rfl,by decide,by decide,by decide,by decide,_,_,rfl,rfl,Vm (uL (n:=4) (k:=200) (by decide)) (uL (n:=1) (k:=200) (by decide)) (by decide),(by show 3<=qd;decide),λz m=>?_⟩
 refine⟨ad,z,o,_,rfl,rfl,Zk m _ _ _ p,Zj,by rw[d];show 29+3<=qd;decide,λae y=>?_⟩
 obtain⟨o,G,j,g,d,x,r,u,p⟩:=SM (t:=C) (l:=B) (n:=29) (k:=3) g (YT (Y8 (Yt (n:=20) (by decide)) (by decide)) (YT (Y8 (Yt (n:=25) (by decide)) (by decide)) (YT (Y8 (Xh (uL (n:=4) (k:=200) (by decide)) (uL (n:=1) (k:=200) (by decide))) (by decide)) (Ox)))) d rfl x m y r u
 rw[<-j]
 clear j
 dsimp only[Xz,jeo]
 refine⟨_,rfl,_,400,rfl,rfl,by decide,by decide,by decide,by decide,_,22,rfl,rfl,by decide,by decide,by decide,by decide,_,_,rfl,rfl,Vm (Yt (n:=11) (by decide)) (uL (n:=9) (k:=22) (by decide)) (by decide),_,_,rfl,rfl,Vm (Xh (Yt (n:=11) (by decide)) (uL (n:=9) (k:=22) (by decide))) (Yt (n:=1) (by decide)) (by decide),(by show 2<=qd;decide),λz m=>?_⟩
 refine⟨ae,z,o,_,rfl,rfl,Zk m _ _ _ p,Zj,by rw[d];show 32+2<=qd;decide,λaf y=>?_⟩
 obtain⟨o,G,j,g,d,x,r,u,p⟩:=SM (t:=C) (l:=B) (n:=32) (k:=2) g (YT (Y8 (uL (n:=4) (k:=400) (by decide)) (by decide)) (YT (Y8 (Xh (Xh (Yt (n:=11) (by decide)) (uL (n:=9) (k:=22) (by decide))) (Yt (n:=1) (by decide))) (by decide)) (Ox))) d rfl x m y r u
 rw[<-j]
 clear j
 dsimp only[Xz,jeo]
 refine⟨_,rfl,_,23,rfl,rfl,by decide,by decide,by decide,by decide,_,_,rfl,rfl,Vm (Yt (n:=11) (by decide)) (uL (n:=9) (k:=23) (by decide)) (by decide),_,_,rfl,rfl,Vm (Xh (Yt (n:=11) (by decide)) (uL (n:=9) (k:=23) (by decide))) (Yt (n:=1) (by decide)) (by decide),_,300,rfl,rfl,by decide,by decide,by decide,by decide,_,_,rfl,rfl,Vm (Yt (n:=11) (by decide)) (uL (n:=9) (k:=300) (by decide)) (by decide),_,_,rfl,rfl,Vm (Xh (Yt (n:=11) (by decide)) (uL (n:=9) (k:=300) (by decide))) (Yt (n:=1) (by decide)) (by decide),_,300,rfl,rfl,by decide,by decide,by decide,by decide,(by show 3<=qd;decide),λz m=>?_⟩
 refine⟨af,z,o,_,rfl,rfl,Zk m _ _ _ p,Zj,by rw[d];show 34+3<=qd;decide,λag y=>?_⟩
 obtain⟨o,G,j,g,d,x,r,u,p⟩:=SM (t:=C) (l:=B) (n:=34) (k:=3) g (YT (Y8 (Xh (Xh (Yt (n:=11) (by decide)) (uL (n:=9) (k:=23) (by decide))) (Yt (n:=1) (by decide))) (by decide)) (YT (Y8 (Xh (Xh (Yt (n:=11) (by decide)) (uL (n:=9) (k:=300) (by decide))) (Yt (n:=1) (by decide))) (by decide)) (YT (Y8 (uL (n:=7) (k:=300) (by decide)) (by decide)) (Ox)))) d rfl x m y r u
 rw[<-j]
 clear j
 dsimp only[Xz,jeo]
 refine⟨_,rfl,_,rfl,_,_,rfl,rfl,Vm e (Yt (n:=15) (by decide)) (by decide),_,rfl,_,_,rfl,rfl,Vm e (Yt (n:=15) (by decide)) (by decide),_,rfl,_,_,rfl,rfl,Vm e (Yt (n:=15) (by decide)) (by decide),_,rfl,_,_,rfl,rfl,Vm e (Yt (n:=16) (by decide)) (by decide),(by show 4<=qd;decide),λz m=>?_⟩
 refine⟨ag,z,o,_,rfl,rfl,Zk m _ _ _ p,Zj,by rw[d];show 37+4<=qd;decide,λah y=>?_⟩
 obtain⟨o,G,j,g,d,x,r,u,p⟩:=SM (t:=C) (l:=B) (n:=37) (k:=4) g (YT (Y8 (Xh e (Yt (n:=15) (by decide))) (by decide)) (YT (Y8 (Xh e (Yt (n:=15) (by decide))) (by decide)) (YT (Y8 (Xh e (Yt (n:=15) (by decide))) (by decide)) (YT (Y8 (Xh e (Yt (n:=16) (by decide))) (by decide)) (Ox))))) d rfl x m y r u
 rw[<-j]
 clear j
 dsimp only[Xz,jeo]
 refine⟨_,rfl,_,rfl,_,_,rfl,rfl,Vm e (Yt (n:=7) (by decide)) (by decide),_,rfl,_,_,rfl,rfl,Vm e (Yt (n:=7) (by decide)) (by decide),_,rfl,_,_,rfl,rfl,Vm e (Yt (n:=7) (by decide)) (by decide),_,rfl,_,_,rfl,rfl,Vm e (Yt (n:=7) (by decide)) (by decide),_,rfl,_,_,rfl,rfl,Vm e (Yt (n:=5) (by decide)) (by decide),(by show 5<=qd;decide),λz m=>?_⟩
 refine⟨ah,z,o,_,rfl,rfl,Zk m _ _ _ p,Zj,by rw[d];show 41+5<=qd;decide,λai y=>?_⟩
 obtain⟨o,G,j,g,d,x,r,u,p⟩:=SM (t:=C) (l:=B) (n:=41) (k:=5) g (YT (Y8 (Xh e (Yt (n:=7) (by decide))) (by decide)) (YT (Y8 (Xh e (Yt (n:=7) (by decide))) (by decide)) (YT (Y8 (Xh e (Yt (n:=7) (by decide))) (by decide)) (YT (Y8 (Xh e (Yt (n:=7) (by decide))) (by decide)) (YT (Y8 (Xh e (Yt (n:=5) (by decide))) (by decide)) (Ox)))))) d rfl x m y r u
 rw[<-j]
 clear j
 dsimp only[Xz,jeo]
 refine⟨_,rfl,_,rfl,_,_,rfl,rfl,Vm e (Yt (n:=7) (by decide)) (by decide),_,rfl,_,_,rfl,rfl,Vm e (Yt (n:=7) (by decide)) (by decide),(by show 2<=qd;decide),λz m=>?_⟩
 refine⟨ai,z,o,_,rfl,rfl,Zk m _ _ _ p,Zj,by rw[d];show 46+2<=qd;decide,λO y=>?_⟩
 obtain⟨o,G,j,g,d,x,r,u,p⟩:=SM (t:=C) (l:=B) (n:=46) (k:=2) g (YT (Y8 (Xh e (Yt (n:=7) (by decide))) (by decide)) (YT (Y8 (Xh e (Yt (n:=7) (by decide))) (by decide)) (Ox))) d rfl x m y r u
 rw[<-j]
 clear j
 dsimp only[Xz,jeo]
 refine⟨_,rfl,_,rfl,_,_,rfl,rfl,Vm (Yt (n:=5) (by decide)) e (by decide),_,_,rfl,rfl,Vm (Xh (Yt (n:=5) (by decide)) e) (Yt (n:=6) (by decide)) (by decide),_,rfl,_,_,rfl,rfl,Vm (Yt (n:=5) (by decide)) e (by decide),_,_,rfl,rfl,Vm (Xh (Yt (n:=5) (by decide)) e) (Yt (n:=6) (by decide)) (by decide),_,rfl,_,_,rfl,rfl,Vm (Yt (n:=5) (by decide)) e (by decide),_,_,rfl,rfl,Vm (Xh (Yt (n:=5) (by decide)) e) (Yt (n:=6) (by decide)) (by decide),_,rfl,_,_,rfl,rfl,Vm (Yt (n:=5) (by decide)) e (by decide),_,_,rfl,rfl,Vm (Xh (Yt (n:=5) (by decide)) e) (Yt (n:=6) (by decide)) (by decide),(by show 4<=qd;decide),λz m=>?_⟩
 refine⟨O,z,o,_,rfl,rfl,Zk m _ _ _ p,Zj,by rw[d];show 48+4<=qd;decide,λR y=>?_⟩
 obtain⟨o,G,j,g,d,x,r,u,p⟩:=SM (t:=C) (l:=B) (n:=48) (k:=4) g (YT (Y8 (Xh (Xh (Yt (n:=5) (by decide)) e) (Yt (n:=6) (by decide))) (by decide)) (YT (Y8 (Xh (Xh (Yt (n:=5) (by decide)) e) (Yt (n:=6) (by decide))) (by decide)) (YT (Y8 (Xh (Xh (Yt (n:=5) (by decide)) e) (Yt (n:=6) (by decide))) (by decide)) (YT (Y8 (Xh (Xh (Yt (n:=5) (by decide)) e) (Yt (n:=6) (by decide))) (by decide)) (Ox))))) d rfl x m y r u
 rw[<-j]
 clear j
 dsimp only[Xz,jeo]
 refine⟨_,rfl,_,rfl,_,_,rfl,rfl,Vm (Yt (n:=6) (by decide)) e (by decide),_,_,rfl,rfl,Vm (Xh (Yt (n:=6) (by decide)) e) (Yt (n:=6) (by decide)) (by decide),_,rfl,_,_,rfl,rfl,Vm (Yt (n:=11) (by decide)) e (by decide),_,_,rfl,rfl,Vm (Xh (Yt (n:=11) (by decide)) e) (Yt (n:=11) (by decide)) (by decide),_,rfl,_,_,rfl,rfl,Vm (Yt (n:=11) (by decide)) e (by decide),_,_,rfl,rfl,Vm (Xh (Yt (n:=11) (by decide)) e) (Yt (n:=11) (by decide)) (by decide),(by show 3<=qd;decide),λz m=>?_⟩
 refine⟨R,z,o,_,rfl,rfl,Zk m _ _ _ p,Zj,by rw[d];show 52+3<=qd;decide,λS y=>?_⟩
 obtain⟨o,G,j,g,d,x,r,u,p⟩:=SM (t:=C) (l:=B) (n:=52) (k:=3) g (YT (Y8 (Xh (Xh (Yt (n:=6) (by decide)) e) (Yt (n:=6) (by decide))) (by decide)) (YT (Y8 (Xh (Xh (Yt (n:=11) (by decide)) e) (Yt (n:=11) (by decide))) (by decide)) (YT (Y8 (Xh (Xh (Yt (n:=11) (by decide)) e) (Yt (n:=11) (by decide))) (by decide)) (Ox)))) d rfl x m y r u
 rw[<-j]
 clear j
 dsimp only[Xz,jeo]
 refine⟨_,rfl,_,rfl,_,_,rfl,rfl,Vm (Yt (n:=11) (by decide)) e (by decide),_,_,rfl,rfl,Vm (Xh (Yt (n:=11) (by decide)) e) (Yt (n:=11) (by decide)) (by decide),_,rfl,_,_,rfl,rfl,Vm (Yt (n:=11) (by decide)) e (by decide),_,_,rfl,rfl,Vm (Xh (Yt (n:=11) (by decide)) e) (Yt (n:=6) (by decide)) (by decide),_,rfl,_,_,rfl,rfl,Vm (Yt (n:=11) (by decide)) e (by decide),_,_,rfl,rfl,Vm (Xh (Yt (n:=11) (by decide)) e) (Yt (n:=12) (by decide)) (by decide),(by show 3<=qd;decide),λz m=>?_⟩
 refine⟨S,z,o,_,rfl,rfl,Zk m _ _ _ p,Zj,by rw[d];show 55+3<=qd;decide,λT y=>?_⟩
 obtain⟨o,G,j,g,d,x,r,u,p⟩:=SM (t:=C) (l:=B) (n:=55) (k:=3) g (YT (Y8 (Xh (Xh (Yt (n:=11) (by decide)) e) (Yt (n:=11) (by decide))) (by decide)) (YT (Y8 (Xh (Xh (Yt (n:=11) (by decide)) e) (Yt (n:=6) (by decide))) (by decide)) (YT (Y8 (Xh (Xh (Yt (n:=11) (by decide)) e) (Yt (n:=12) (by decide))) (by decide)) (Ox)))) d rfl x m y r u
 rw[<-j]
 clear j
 dsimp only[Xz,jeo]
 refine⟨_,rfl,_,rfl,_,_,rfl,rfl,Vm e (Yt (n:=1) (by decide)) (by decide),_,rfl,_,_,rfl,rfl,Vm (Xh e (Yt (n:=1) (by decide))) e (by decide),_,_,rfl,rfl,Vm (Xh (Xh e (Yt (n:=1) (by decide))) e) (Yt (n:=6) (by decide)) (by decide),_,rfl,_,_,rfl,rfl,Vm (Yt (n:=1) (by decide)) e (by decide),_,_,rfl,rfl,Vm (Xh (Yt (n:=1) (by decide)) e) (Yt (n:=6) (by decide)) (by decide),_,rfl,_,_,rfl,rfl,Vm (Yt (n:=1) (by decide)) e (by decide),_,_,rfl,rfl,Vm (Xh (Yt (n:=1) (by decide)) e) (Yt (n:=6) (by decide)) (by decide),_,rfl,_,_,rfl,rfl,Vm e (Yt (n:=7) (by decide)) (by decide),(by show 4<=qd;decide),λz m=>?_⟩
 refine⟨T,z,o,_,rfl,rfl,Zk m _ _ _ p,Zj,by rw[d];show 58+4<=qd;decide,λU y=>?_⟩
 obtain⟨o,G,j,g,d,x,r,u,p⟩:=SM (t:=C) (l:=B) (n:=58) (k:=4) g (YT (Y8 (Xh (Xh (Xh e (Yt (n:=1) (by decide))) e) (Yt (n:=6) (by decide))) (by decide)) (YT (Y8 (Xh (Xh (Yt (n:=1) (by decide)) e) (Yt (n:=6) (by decide))) (by decide)) (YT (Y8 (Xh (Xh (Yt (n:=1) (by decide)) e) (Yt (n:=6) (by decide))) (by decide)) (YT (Y8 (Xh e (Yt (n:=7) (by decide))) (by decide)) (Ox))))) d rfl x m y r u
 rw[<-j]
 clear j
 dsimp only[Xz,jeo]
 refine⟨_,rfl,_,rfl,_,_,rfl,rfl,Vm e (Yt (n:=7) (by decide)) (by decide),_,rfl,_,_,rfl,rfl,Vm e (Yt (n:=6) (by decide)) (by decide),_,rfl,_,_,rfl,rfl,Vm e (Yt (n:=7) (by decide)) (by decide),_,rfl,_,_,rfl,rfl,Vm e (Yt (n:=8) (by decide)) (by decide),_,rfl,_,_,rfl,rfl,Vm e (Yt (n:=7) (by decide)) (by decide),(by show 7<=qd;decide),λz m=>?_⟩
 refine⟨U,z,o,_,rfl,rfl,Zk m _ _ _ p,Zj,by rw[d];show 62+7<=qd;decide,λW y=>?_⟩
 obtain⟨o,G,j,g,d,x,r,u,p⟩:=SM (t:=C) (l:=B) (n:=62) (k:=7) g (YT (Y8 (Yt (n:=7) (by decide)) (by decide)) (YT (Y8 (Xh e (Yt (n:=7) (by decide))) (by decide)) (YT (Y8 (Xh e (Yt (n:=6) (by decide))) (by decide)) (YT (Y8 (Xh e (Yt (n:=7) (by decide))) (by decide)) (YT (Y8 (Xh e (Yt (n:=8) (by decide))) (by decide)) (YT (Y8 (Xh e (Yt (n:=7) (by decide))) (by decide)) (YT (Y8 (Yt (n:=8) (by decide)) (by decide)) (Ox)))))))) d rfl x m y r u
 rw[<-j]
 clear j
 dsimp only[Xz,jeo]
 refine⟨_,rfl,_,rfl,_,_,rfl,rfl,Vm D (Yt (n:=6) (by decide)) (by decide),_,rfl,_,_,rfl,rfl,Vm (Yt (n:=1) (by decide)) D (by decide),_,_,rfl,rfl,Vm (Xh (Yt (n:=1) (by decide)) D) (Yt (n:=6) (by decide)) (by decide),_,rfl,_,_,rfl,rfl,Vm (Yt (n:=1) (by decide)) D (by decide),_,_,rfl,rfl,Vm (Xh (Yt (n:=1) (by decide)) D) (Yt (n:=1) (by decide)) (by decide),_,rfl,_,_,rfl,rfl,Vm (Xh (Xh (Yt (n:=1) (by decide)) D) (Yt (n:=1) (by decide))) e (by decide),_,_,rfl,rfl,Vm (Xh (Xh (Xh (Yt (n:=1) (by decide)) D) (Yt (n:=1) (by decide))) e) (Yt (n:=6) (by decide)) (by decide),(by show 4<=qd;decide),λz m=>?_⟩
 refine⟨W,z,o,_,rfl,rfl,Zk m _ _ _ p,Zj,by rw[d];show 69+4<=qd;decide,λX y=>?_⟩
 obtain⟨o,G,j,g,d,x,r,u,p⟩:=SM (t:=C) (l:=B) (n:=69) (k:=4) g (YT (Y8 (Yt (n:=22) (by decide)) (by decide)) (YT (Y8 (Xh D (Yt (n:=6) (by decide))) (by decide)) (YT (Y8 (Xh (Xh (Yt (n:=1) (by decide)) D) (Yt (n:=6) (by decide))) (by decide)) (YT (Y8 (Xh (Xh (Xh (Xh (Yt (n:=1) (by decide)) D) (Yt (n:=1) (by decide))) e) (Yt (n:=6) (by decide))) (by decide)) (Ox))))) d rfl x m y r u
 rw[<-j]
 clear j
 dsimp only[Xz,jeo]
 refine⟨_,rfl,_,rfl,_,_,rfl,rfl,Vm e (Yt (n:=2) (by decide)) (by decide),_,rfl,_,_,rfl,rfl,Vm (Xh e (Yt (n:=2) (by decide))) D (by decide),_,_,rfl,rfl,Vm (Xh (Xh e (Yt (n:=2) (by decide))) D) (Yt (n:=6) (by decide)) (by decide),_,rfl,_,_,rfl,rfl,Vm (Yt (n:=1) (by decide)) D (by decide),_,_,rfl,rfl,Vm (Xh (Yt (n:=1) (by decide)) D) (Yt (n:=2) (by decide)) (by decide),_,rfl,_,_,rfl,rfl,Vm (Xh (Xh (Yt (n:=1) (by decide)) D) (Yt (n:=2) (by decide))) D (by decide),_,_,rfl,rfl,Vm (Xh (Xh (Xh (Yt (n:=1) (by decide)) D) (Yt (n:=2) (by decide))) D) (Yt (n:=6) (by decide)) (by decide),_,rfl,_,_,rfl,rfl,Vm (Yt (n:=2) (by decide)) D (by decide),_,_,rfl,rfl,Vm (Xh (Yt (n:=2) (by decide)) D) (Yt (n:=6) (by decide)) (by decide),(by show 3<=qd;decide),λz m=>?_⟩
 refine⟨X,z,o,_,rfl,rfl,Zk m _ _ _ p,Zj,by rw[d];show 73+3<=qd;decide,λY y=>?_⟩
 obtain⟨o,G,j,g,d,x,r,u,p⟩:=SM (t:=C) (l:=B) (n:=73) (k:=3) g (YT (Y8 (Xh (Xh (Xh e (Yt (n:=2) (by decide))) D) (Yt (n:=6) (by decide))) (by decide)) (YT (Y8 (Xh (Xh (Xh (Xh (Yt (n:=1) (by decide)) D) (Yt (n:=2) (by decide))) D) (Yt (n:=6) (by decide))) (by decide)) (YT (Y8 (Xh (Xh (Yt (n:=2) (by decide)) D) (Yt (n:=6) (by decide))) (by decide)) (Ox)))) d rfl x m y r u
 rw[<-j]
 clear j
 dsimp only[Xz,jeo]
 refine⟨_,rfl,_,rfl,_,_,rfl,rfl,Vm e (Yt (n:=1) (by decide)) (by decide),_,rfl,_,_,rfl,rfl,Vm (Xh e (Yt (n:=1) (by decide))) I (by decide),_,_,rfl,rfl,Vm (Xh (Xh e (Yt (n:=1) (by decide))) I) (Yt (n:=1) (by decide)) (by decide),_,rfl,_,_,rfl,rfl,Vm (Xh (Xh (Xh e (Yt (n:=1) (by decide))) I) (Yt (n:=1) (by decide))) e (by decide),_,_,rfl,rfl,Vm (Xh (Xh (Xh (Xh e (Yt (n:=1) (by decide))) I) (Yt (n:=1) (by decide))) e) (Yt (n:=6) (by decide)) (by decide),_,rfl,_,_,rfl,rfl,Vm e (Yt (n:=1) (by decide)) (by decide),_,rfl,_,_,rfl,rfl,Vm (Xh e (Yt (n:=1) (by decide))) I (by decide),_,_,rfl,rfl,Vm (Xh (Xh e (Yt (n:=1) (by decide))) I) (Yt (n:=6) (by decide)) (by decide),_,rfl,_,_,rfl,rfl,Vm e (Yt (n:=2) (by decide)) (by decide),_,rfl,_,_,rfl,rfl,Vm (Xh e (Yt (n:=2) (by decide))) I (by decide),_,_,rfl,rfl,Vm (Xh (Xh e (Yt (n:=2) (by decide))) I) (Yt (n:=6) (by decide)) (by decide),(by show 3<=qd;decide),λz m=>?_⟩
 refine⟨Y,z,o,_,rfl,rfl,Zk m _ _ _ p,Zj,by rw[d];show 76+3<=qd;decide,λM y=>?_⟩
 obtain⟨o,G,j,g,d,x,r,u,p⟩:=SM (t:=C) (l:=B) (n:=76) (k:=3) g (YT (Y8 (Xh (Xh (Xh (Xh (Xh e (Yt (n:=1) (by decide))) I) (Yt (n:=1) (by decide))) e) (Yt (n:=6) (by decide))) (by decide)) (YT (Y8 (Xh (Xh (Xh e (Yt (n:=1) (by decide))) I) (Yt (n:=6) (by decide))) (by decide)) (YT (Y8 (Xh (Xh (Xh e (Yt (n:=2) (by decide))) I) (Yt (n:=6) (by decide))) (by decide)) (Ox)))) d rfl x m y r u
 rw[<-j]
 clear j
 dsimp only[Xz,jeo]
 obtain⟨v,ev,hv⟩:=modn c 79 (by decide)
 have N:v<o.length:=by rw[d];exact hv
 exact⟨_,rfl,_,rfl,_,rfl,M,_,rfl,.inl (Yy.of p),_,_,nv v,rfl,rfl,by rw[d];show(0:Int)<79;decide,by rw[d];exact congrArg V.int ev,M,_,_,o[v],rfl,rfl,Yy.of p,R8 (sH N),q _ B C G x r u (g _ (jds N))⟩
end
theorem Bg{c a d:pA}{H H':Hp}(g:H a=su)(h:H d=su)(i:vP a (L2.upd (L2.upd H d (.own a)) a (.ins c d [])) H'):Z5 H H':=λb o e=>by
 have f:=Yd e g
 have j:=Yd e h
 exact i b o f (by rw[ZX f,ZX j];exact e)
theorem jcd{t u w:TS}{D:Ends}{b:L2.St}{H:Hp}(M:L2.St->Hp->Prop)(h:(∀a H',M a H'->w D a H')->t {D with nx:=u {D with nx:=w D}} b H)(c:∀a H',M a H'->w D a H'):j9 t (j9 u w) D b H:=h c
theorem sO{d:Nat}{t:Tr}{y:List Nat}(h:YS [] (kdOf []) (d+1) t (y++[49])):False:=by
 have pl:∀b pl,¬Wm [] (kdOf []) b pl:=λb pl a=>by
  rcases a with⟨n,g,_,i,_⟩|⟨k,⟨l,_⟩,_⟩
  .cases n with
   |nil=>exact g rfl
   |cons j r=>exact absurd (i j (U7 ..)) (by simp)
  .cases l
 cases t with
 |node any q=>
  obtain⟨u,_,e⟩:=h
  have:=(jhC e rfl).2
  cases this
 |leaf f=>
  obtain⟨_,o,hw,e⟩:=h
  cases f with
  |none=>
   have hw:o=[Vk]:=hw
   rw[hw]at e
   have e:y++[49]=[110,111,116,104,105,110]++[103]:=e
   cases(jhC e rfl).2
  |only b m=>obtain⟨p,a,_⟩:=hw;exact pl _ _ a
  |some b c m=>obtain⟨p,a,_⟩:=hw;exact pl _ _ a
  |most b c m=>obtain⟨p,a,_⟩:=hw;exact pl _ _ a
noncomputable def yU (K:oh):Sp:=λd H Q _=>∃(a:pA)(b:List Int),d=[.ref a]/\Yy K H a (b.map V.int)/\b.length<=63/\∀c,Q (.bl qm) c
noncomputable def jcs (H:Hp) (v:V):Prop:=∃l t,H l=nC (.lst [.str "nothing"])/\H t=nC (.tup [.str "nothing"])/\xF l t v
section
variable{P:jcz}{w:jcS}{K:oh}{mg:Str->Option pL}{base:jcX}
theorem aJ{f:pA}{fd:jaF}(F:Xl K "law" "law" K5 f fd)(ZZ:mg "law"=nC (.ref f))(zf:mg "zip"=su)(Yz:mg "len"=su)
 (Hh:Z3 P w K mg base 2 "_law_names" ["_law_script","_law_many"] [] (Bd K))
 (Hg:Z3 P w K mg base 2 "_law_kinds" ["_law_script","_law_names_here"] [] (Bc K))
 (Eh:Z3 P w K mg base 3 "_law_form" ["_law_script","_law_last"] [] (zG K))
 (RB:Z3 P w K mg base 12 "_law_text" ["_law_form_here","_law_names_here"] [] (zK K))
 (Mj:Z3 P w K mg base 1 "_law_changed" ["_law_text_here","_law_cell_here","_law_other"] [] (Iu K))
 (zR:Z3 P w K mg base 13 "_law_due" ["_law_text_here","_law_names_here","_law_kinds_here"] [] (vz K))
 (JN:Z3 P w K mg base 24 "_law_read" ["_law_text_here","_law_stock","_law_names_here","_law_due_here"] [] (zJ K Zz Zw Zi Zv Zm Zq Zr Zn))
 (YW:Z3 P w K mg base 1 "_law_cell" ["_law_script","_law_k"] [] (Og K))
 (zT:Z3 P w K mg base 1 "_law_odd" ["_law_cell_here","_law_a","_law_other","_law_kind"] [] (vA K))
 (Rz:Z3 P w K mg base 24 "_law_refused" ["_law_text_here","_law_stock"] [] (IK K Zz Zw Zi Zv Zm Zq Zr Zn))
 (Yk:Own K mg "Bid" Zz [])
 (Z7:Own K mg "Only" Zw ["bundle","amount"])
 (ZM:Own K mg "SoMany" Zi ["kind","least","amount"])
 (Z6:Own K mg "UpTo" Zv ["kind","most","each"])
 (ZP:Own K mg "Several" Zm ["bids"])
 (Z0:Own K mg "AnyOf" Zq ["bids"])
 (Z1:Own K mg "OneOf" Zr ["bids"])
 (ZQ:Own K mg "Stock" Zn ["numbers","kinds"])
 (JP:Sy P w K mg base 4 "Stock" Zn ["self","rows"] (Uy K Zn)):We P w K mg base Ol 25 f fd ["_law_script"] (yU K):=by
 refine F.Eg R0 (λvs H Q E h=>?_) (λc4 A cr s H vs Q E o h=>?_)
 .obtain⟨a,J,rfl,_⟩:=h;rfl
 obtain⟨a,J,rfl,hS,_,q⟩:=h
 refine⟨_,(Zd (ZL (i:=1) R0.nd rfl (jbI rfl) (Zx Hh o (by first|decide|omega) rfl (Za (Ze 0) (Za (Zg (Xc Yh) Zc (Zg (Fp YZ) (Zx YW o (by first|decide|omega) rfl (Za (Ze 0) (Za Zc Zb))) Zc)) Zb))))
  (Zd (ZL (i:=2) R0.nd rfl (jbI rfl) (Zx Hg o (by first|decide|omega) rfl (Za (Ze 0) (Za (Ze 1) Zb))))
  (Zd (ZL (i:=3) R0.nd rfl (jbI rfl) (Qq JP o (by first|decide|omega) rfl (Za (XH (ZJ K5) ["_law_script","_law_names_here","_law_kinds_here","_law_stock","_law_form_here","_law_whole","_law_text_here","_law_at","_law_other","_law_due_here","_law_bare"] ["_law_name","_law_kind"] [] [] rfl rfl rfl ⟨s.heap.objs.size+1,rfl⟩ rfl rfl (by decide+kernel) (xJ rfl zf (Za (Ze 1) (Za (Ze 2) Zb))) (λC s2 H2 fp=>(PQ K 2 rfl (Wg (Ym (i:=0) (show jdM (["_law_name","_law_kind"]:List Str)from by decide+kernel) rfl (jbI rfl)) (Wg (Ym (i:=1) (show jdM (["_law_name","_law_kind"]:List Str)from by decide+kernel) rfl (jbI rfl)) Qj)))) (λC s2 H2 fp=>Wu) (λC s2 H2 fp=>(Xf (Za (Ze 0) (Za (Ze 1) Zb))))) Zb)))
  (Zd (ZL (i:=4) R0.nd rfl (jbI rfl) (Zx Eh o (by first|decide|omega) rfl (Za (Ze 0) (Za (Zg (Xc DY) (Zg Qe Zc (Yw YK rfl Yz jcN (Za (Ze 1) Zb))) Zc) Zb))))
  (Zd (ZL (i:=5) R0.nd rfl (jbI rfl) (Zx RB o (by first|decide|omega) rfl (Za (Ze 4) (Za (Ze 1) Zb))))
  (Zd (ZL (i:=6) R0.nd rfl (jbI rfl) (Zx Mj o (by first|decide|omega) rfl (Za (Ze 5) (Za (Zx YW o (by first|decide|omega) rfl (Za (Ze 0) (Za Zc Zb))) (Za (Zx YW o (by first|decide|omega) rfl (Za (Ze 0) (Za Zc Zb))) Zb)))))
  (Zd (ZR (ZK Xv (Zg (Fp YZ) (Zg Va (Zx YW o (by first|decide|omega) rfl (Za (Ze 0) (Za Zc Zb))) Zc) Zc) Zc (Yb _)) (Zd (ZL (i:=7) R0.nd rfl (jbI rfl) (Zx YW o (by first|decide|omega) rfl (Za (Ze 0) (Za Zc Zb))))
   (Zd (ZL (i:=8) R0.nd rfl (jbI rfl) (Z4 (YH K) (Ze 1) (Zg (Fp YZ) (Zg Va (Ze 7) Zc) (Yw YK rfl Yz jcN (Za (Ze 1) Zb))) (λ_ _=>rfl)))
   (Zh (ZL (i:=6) R0.nd rfl (jbI rfl) (Zx zT o (by first|decide|omega) rfl (Za (Zx YW o (by first|decide|omega) rfl (Za (Ze 0) (Za Zc Zb))) (Za (Z4 (YH K) (Ze 1) (Zg (Fp YZ) (Ze 7) (Yw YK rfl Yz jcN (Za (Ze 1) Zb))) (λ_ _=>rfl)) (Za (Ze 8) (Za (Z4 (YH K) (Ze 2) (Zg (Fp YZ) (Zg Va (Ze 7) Zc) (Yw YK rfl Yz jcN (Za (Ze 1) Zb))) (λ_ _=>rfl)) Zb))))))))) ZF)
  (Zd (ZL (i:=9) R0.nd rfl (jbI rfl) (Zx zR o (by first|decide|omega) rfl (Za (Ze 6) (Za (Ze 1) (Za (Ze 2) Zb)))))
  (Zd (ZR (ZK (O8 o.Rn) (Ze 9) (ZV Zb) (Yb _)) (Zh (ZR (YF (Yg (Zx Rz o (by first|decide|omega) rfl (Za (Ze 6) (Za (Ze 3) Zb))))) (Zh (ZC TQ)) ZF)) (Zh (ZR (YF (Yg (Zx JN o (by first|decide|omega) rfl (Za (Ze 6) (Za (Ze 3) (Za (Ze 1) (Za (Z4 (YH K) (Ze 9) Zc (λ_ _=>rfl)) Zb))))))) (Zh (ZC TQ)) ZF)))
  (Zd (ZL (i:=10) R0.nd rfl (jbI rfl) (Qq JP o (by first|decide|omega) rfl (Za (ZV Zb) Zb)))
  (Zd (ZR (Tg (XN (YF (Yg (Zx Rz o (by first|decide|omega) rfl (Za (Zg Zy (Z4 (YH K) (Ze 1) Zc (λ_ _=>rfl)) Zf) (Za (Ze 10) Zb))))) (Xn (YF (Yg (Zx Rz o (by first|decide|omega) rfl (Za (Zg Zy (Zg Zy Zf (Z4 (YH K) (Ze 2) Zc (λ_ _=>rfl))) Zf) (Za (Ze 10) Zb)))))))) (Zh (ZC TQ)) ZF)
  (Zh (ZC (Zx JN o (by first|decide|omega) rfl (Za (Ze 5) (Za (Ze 3) (Za (Ze 1) (Za (Ze 5) Zb)))))))))))))))))),?_⟩
 obtain⟨z6,cc,dc⟩:=modn (VP J 0) 6 (by decide)
 refine⟨_,rfl,_,rfl,a,J,0,rfl,hS,by decide,λH1 s1=>⟨_,_,nv z6,rfl,rfl,(by show(0:Int)<6;decide),congrArg V.int cc,_,_,nv (1+z6),rfl,rfl,(by show V.int (1+(z6:Int))=V.int ((1+z6:Nat):Int);push_cast;rfl),a,J,1+z6,rfl,s1.seq hS,by omega,λl H2 ns s2 c6 hl hg=>?_⟩⟩
 have bL:=s1.trans s2
 obtain⟨m,em⟩:∃m,m=1+z6:=⟨_,rfl⟩
 rw[<-em]at hg
 have aS:m<=6:=by omega
 have ba:=hg.1
 refine⟨_,rfl,_,rfl,a,l,J,ns,rfl,bL.seq hS,hl,by omega,hg.2.1,λp H3 ks s3 c8 hp aE R=>?_⟩
 have aI:=s3 _ _ hl
 have ct:=bL.trans s3
 have hG:Good ns ks:=⟨by omega,hg.2.1,hg.2.2,R⟩
 refine⟨_,rfl,_,rfl,l,p,rfl,⟨_,Yy.of aI⟩,⟨_,Yy.of hp⟩,λr bo=>?_⟩
 refine Ai (by rw[rz,rz];exact aE.symm) (λi Hc=>Z5 H3 Hc/\∃ps:List pA,Hc r=nC (.lst (ps.map V.ref))/\ps.length=i/\∀(j:Nat)(b:pA),ps[j]?=nC b->∃n k,ns[j]?=nC n/\ks[j]?=nC k/\Hc b=nC (.tup [sv n,sv k]))
  ⟨Zk bo _,[],Zj,rfl,λj b e=>by simp at e⟩ (λi Hc _ h=>⟨Yy.of (h.1 _ _ aI),Yy.of (h.1 _ _ hp)⟩) (λi x y b Hc hx hy hP hb=>?_) (λH4 h4=>?_)
 .rw[jcF]at hx hy
  obtain⟨n,M,rfl⟩:=jcT.mp hx
  obtain⟨k,hk,rfl⟩:=jcT.mp hy
  obtain⟨sP,ps,e1,e2,e3⟩:=hP
  have sb:=Zk hb (.tup [sv n,sv k])
  intro K1 K0 g1 g0
  unfold bR
  dsimp only
  rw[if_pos rfl]
  refine⟨_,rfl,_,rfl,(by show 2<=qd;decide),λb2 cf=>?_⟩
  have a4:=Zk cf (.tup [sv n,sv k])
  have e4:=(sb.trans a4) _ _ e1
  have hi:i<ns.length:=(jcP.mp M).1
  refine g1 (.ref b2) _ _ e4 (by rw[rz,e2,jcD];omega) ⟨((sP.trans sb).trans a4).upd bo _,ps++[b2],?_,by rw[O1,e2];rfl,λj c g=>?_⟩
  .rw[Zj,jcA];rfl
  .have nr:∀d u,upd (upd Hc b (.tup [sv n,sv k])) b2 (.tup [sv n,sv k]) d=nC (.tup u)->d≠r:=λd u e z=>by subst z;rw[e4]at e;cases e
   by_cases hj:j<ps.length
   .rw[jdQ hj]at g
    obtain⟨n',k',f1,f2,f3⟩:=e3 j c g
    have f4:=(sb.trans a4) _ _ f3
    exact⟨n',k',f1,f2,by rw[ZX (nr _ _ f4)];exact f4⟩
   .have ch:j=ps.length:=by
     have:=(jcP.mp g).1
     simp at this;omega
    subst ch
    simp at g
    subst g
    rw[e2]
    exact⟨n,k,M,hk,by rw[ZX (nr _ _ Zj)];exact Zj⟩
 obtain⟨s4,ps,aT,bn,bq⟩:=h4
 rw[rz]at bn
 have ci:=s4 _ _ aI
 have cv:=ct.trans s4
 refineλst dx a0 aC c7=>⟨st,dx,r,ns,ks,rfl,Zj,⟨ps,?_,bn,aE,λj b e=>?_⟩,hG,λH5 hB hI=>⟨rfl,?_⟩⟩
 .have n1:=Yd aT a0
  have n2:=Yd aT aC
  rw[ZX n1,ZX n2];exact aT
 .obtain⟨n,k,f1,f2,f3⟩:=bq j b e
  have n1:=Yd f3 a0
  have n2:=Yd f3 aC
  exact⟨n,k,f1,f2,by rw[ZX n1,ZX n2];exact f3⟩
 have s5:=Bg a0 aC hB
 have bP:=cv.trans s5
 have bd:=s5 _ _ ci
 have ck:(ns.map sv).length=m:=by rw[rz];exact ba
 obtain⟨c5,cy⟩:=jbk aS
 refine⟨_,rfl,_,rfl,l,_,rfl,.inl (Yy.of bd),(ns.map sv).length,rfl,rfl,by omega,_,_,nv (2^m-1),rfl,rfl,?_,a,J,m,rfl,bP.seq hS,aS,λpf H6 t s6 hF hd hy br=>?_⟩
 .rw[ck]
  show V.int (((2^m:Nat):Int)-1)=V.int ((2^m-1:Nat):Int)
  congr 1;omega
 have be:=FT.ok _ hF
 have ce:=Yu.same s6 hI
 have ag:=s6 _ _ bd
 have bm:H6 p=nC (.lst (ks.map sv)):=s6 _ _ (s5 _ _ (s4 _ _ hp))
 have a2:=bP.trans s6
 have cl:L2.Sub (Xw t) ns.length:=by rw[ba];exact br
 obtain⟨x,hX,ex⟩:=text_canon (kd:=kdOf ks) (ns:=ns) (by omega) 4 t hd be cl
 have U:∀n∈ns,W8 n:=λn M=>Q6 (hg.2.1 n M)
 have da:=Bk U hX hy
 have cn:=(Ud U 4 t x hX).2.1
 have cm:m<=(ns.map tx).length:=by rw[rz];omega
 refine⟨_,rfl,_,rfl,pf,t,_,l,ns.map tx,m,rfl,hF,by omega,DG ag hg.2.1 (by omega),aS,cm,br,λH7 s7=>?_⟩
 rw[ex]
 have bY:=a2.trans s7
 refine⟨_,rfl,_,rfl,a,J,6,rfl,bY.seq hS,by decide,λH8 s8=>⟨_,rfl,a,J,7,rfl,(bY.trans s8).seq hS,by decide,λH9 s9=>⟨x,_,_,rfl,cn,by omega,λy cD cs ah a1=>?_⟩⟩⟩
 have ab:=((s7.trans s8).trans s9).trans cs
 have ay:=a2.trans ab
 obtain⟨z3,cb,db⟩:=modn (VP J 0/6) 3 (by decide)
 dsimp only[Xz]
 refine CV (λaf N=>∃v y7 y8,af=[nC (.ref a),nC (.ref l),nC (.ref p),nC (.ref st),nC (.ref pf),nC (.str (tx x)),nC v,y7,y8,su,su]/\Z5 H6 N/\((∃y,v=.str (tx y)/\(∀c∈y,c<128)/\y.length<=3000)\/jcs N v)) (λB=>?_) (λaf a7 hM=>?_)
 .refine⟨_,rfl,a,J,0,rfl,ay.seq hS,by decide,λcE Z=>⟨_,_,rfl,rfl,⟨by decide,by decide⟩,_,_,nv z3,rfl,rfl,(by show(0:Int)<3;decide),congrArg V.int cb,rfl,_,rfl,QQ (λc=>?_) (λc=>?_)⟩⟩
  .have bE:=ay.trans Z
   refine⟨_,rfl,a,J,7,rfl,bE.seq hS,by decide,λcK bM=>?_⟩
   have ad:=(ab.trans Z).trans bM
   have al:=ad _ _ ag
   have D:0<ns.length:=by omega
   have bv:∀n∈ns,vW 8 (tx n):=λn M=>⟨n,rfl,λc g=>by have:=(U n M).2.2 c g;omega,(U n M).2.1⟩
   have cp:∀n∈ks,vW 8 (tx n):=λn M=>⟨n,rfl,λc g=>by have:=(Q6 (R n M)).2.2 c g;omega,(Q6 (R n M)).2.1⟩
   obtain⟨u,eu,hu⟩:=modn (VP J 7/64) ns.length D
   obtain⟨u2,b6,bt⟩:=modn (VP J 7) ns.length D
   obtain⟨u3,b7,c9⟩:=modn (VP J 7/8) ns.length D
   have ap:u3<ks.length:=by omega
   have lz:(0:Int)<(((ns.map sv).length:Nat):Int):=by rw[rz];omega
   have le:(((ns.map sv).length:Nat):Int)=(ns.length:Int):=by rw[rz]
   have ax:∀(j:Nat)(hj:j<ns.length),(ns.map sv)[j]?=nC (sv ns[j]):=λj hj=>by rw[jcF,sH hj];rfl
   refine⟨_,rfl,_,rfl,_,_,rfl,rfl,⟨by decide,by decide⟩,_,rfl,l,_,rfl,.inl (Yy.of al),_,_,nv u,rfl,rfl,lz,by rw[le];exact congrArg V.int eu,l,_,_,sv ns[u],rfl,rfl,Yy.of al,R8 (ax u hu),?_⟩
   refine⟨_,rfl,a,J,8,rfl,(a2.trans ad).seq hS,by decide,λcS bN=>?_⟩
   have ae:=ad.trans bN
   have T:=ae _ _ ag
   have bg:=ae _ _ bm
   exact⟨_,rfl,_,rfl,_,rfl,l,_,rfl,.inl (Yy.of T),_,_,nv u2,rfl,rfl,lz,by rw[le];exact congrArg V.int b6,l,_,_,sv ns[u2],rfl,rfl,Yy.of T,R8 (ax u2 bt),_,rfl,_,rfl,_,rfl,_,_,rfl,rfl,⟨by decide,by decide⟩,_,rfl,l,_,rfl,.inl (Yy.of T),_,_,nv u3,rfl,rfl,lz,by rw[le];exact congrArg V.int b7,p,_,_,sv ks[u3],rfl,rfl,Yy.of bg,R8 (by rw[jcF,sH ap];rfl),_,ns[u2],ns[u],ks[u3],rfl,bv _ (jds bt),bv _ (jds hu),cp _ (jds ap),λv l1 t1 c0 bS e1 e2 hO=>B _ _ ⟨v,_,_,rfl,ae.trans bS,.inr ⟨l1,t1,e1,e2,hO⟩⟩⟩
  .exact B _ _ ⟨.str (tx y),su,su,rfl,ab.trans Z,.inl ⟨y,rfl,ah,by omega⟩⟩
 obtain⟨v,y7,y8,rfl,ac,hv⟩:=hM
 have co:(∃n,(∀N,Z5 a7 N->Mm K N v n)/\kh n .str=vh)\/∃y,v=.str (tx y)/\(∀c∈y,c<128)/\y.length<=3000:=by
  rcases hv with hv|⟨l1,t1,e1,e2,rfl|⟨i,rfl⟩|⟨b,rfl⟩|rfl|rfl|hv⟩
  .exact .inr hv
  .exact .inl ⟨.non,λ_ _=>TY.non,rfl⟩
  .exact .inl ⟨.int,λ_ _=>TY.int _,rfl⟩
  .exact .inl ⟨.bl,λ_ _=>TY.bl _,rfl⟩
  .exact .inl ⟨.lst,λ_ S=>TY.lst (S _ _ e1),rfl⟩
  .exact .inl ⟨.tup,λ_ S=>TY.tup (S _ _ e2),rfl⟩
  .exact .inr hv
 have I:=ac _ _ ag
 have am:=ac _ _ bm
 have L:=Yu.same ac ce
 refine jcd (λaf N=>Z5 a7 N/\∃yd,af=[nC (.ref a),nC (.ref l),nC (.ref p),nC (.ref st),nC (.ref pf),nC (.str (tx x)),nC v,y7,y8,yd,su]) (λB=>?_) (λaf b0 hM=>?_)
 .refine⟨_,rfl,_,rfl,_,rfl,l,p,ns,ks,Yy.of I,Yy.of am,by omega,aE,hg.2.2,R,hg.2.1,DG I hg.2.1 (by omega),?_⟩
  rcases co with⟨n,hk,M⟩|⟨y,rfl,ah,a1⟩
  .refine .inl ⟨v,n,rfl,hk _ (Z5.refl _),M,λd N s' a9 ed=>?_⟩
   refine⟨_,rfl,(by show 0<=qd;decide),λle G=>⟨d,le,[],rfl,rfl,Zk G _ _ _ ed,Zj,_,rfl,Ys ?_⟩⟩
   have S:=s'.trans (Zk G (.lst []))
   exact⟨_,rfl,_,rfl,v,st,ns,ks,rfl,Yu.same S L,.inl ⟨n,hk _ S,M⟩,λa6 Y=>⟨_,rfl,Yn (B _ _ ⟨S.trans Y,_,rfl⟩)⟩⟩
  .refine .inr ⟨y,rfl,ah,a1,λno d N s' a9 ed=>?_,λt2 h2 O cx d N s' a9 ed=>?_⟩
   .refine⟨_,rfl,(by show 0<=qd;decide),λle G=>⟨d,le,[],rfl,rfl,Zk G _ _ _ ed,Zj,_,rfl,Ys ?_⟩⟩
    have S:=s'.trans (Zk G (.lst []))
    exact⟨_,rfl,_,rfl,_,st,ns,ks,rfl,Yu.same S L,.inr ⟨y,rfl,ah,a1,no⟩,λa6 Y=>⟨_,rfl,Yn (B _ _ ⟨S.trans Y,_,rfl⟩)⟩⟩
   .refine⟨_,rfl,(by show 0<=qd;decide),λle G=>⟨d,le,_,rfl,rfl,Zk G _ _ _ ed,Zj,_,rfl,Yn ?_⟩⟩
    have S:=s'.trans (Zk G (.lst []))
    have b5:=Zk G (.lst []) _ _ ed
    exact⟨_,rfl,_,rfl,_,rfl,_,rfl,d,_,0,_,rfl,rfl,Yy.of b5,rfl,y,st,l,ns,ks,t2,rfl,Yu.same S L,S _ _ I,O,cx,λa6 Y=>⟨_,rfl,Yn (B _ _ ⟨S.trans Y,_,rfl⟩)⟩⟩
 obtain⟨bX,yd,rfl⟩:=hM
 refine⟨(by show 0<=qd;decide),λr0 bp=>?_⟩
 refineλa5 b4 an ai cz=>⟨a5,b4,r0,[],[],rfl,Zj,⟨[],?_,rfl,rfl,λj b e=>by simp at e⟩,⟨by decide,by simp,List.nodup_nil,by simp⟩,λc1 cd a8=>⟨rfl,?_⟩⟩
 .have er:upd b0 r0 (.lst []) r0=nC (.lst []):=Zj
  rw[ZX (Yd er an),ZX (Yd er ai)];exact er
 have aa:=bX.trans ((Zk bp (.lst [])).trans (Bg an ai cd))
 have bb:=aa _ _ I
 have bi:=aa _ _ am
 have D:0<ns.length:=by omega
 have av:0<ks.length:=by omega
 have X:=U _ (jds D)
 have W:=Q6 (R _ (jds av))
 have aw:(ns.map sv)[0]?=nC (sv ns[0]):=by rw[jcF,sH D];rfl
 have ar:(ks.map sv)[0]?=nC (sv ks[0]):=by rw[jcF,sH av];rfl
 generalize ns[0]=n0 at X aw
 generalize ks[0]=k0 at W ar
 have cq:vW 8 (tx n0):=⟨n0,rfl,λc g=>by have:=X.2.2 c g;omega,X.2.1⟩
 have bB:vW 8 (tx k0):=⟨k0,rfl,λc g=>by have:=W.2.2 c g;omega,W.2.1⟩
 have es:jh " for 1"=tx ([32,102,111,114,32]++[49]):=rfl
 have eo:jh "1 of ="=tx [49,32,111,102,32,61]:=rfl
 have b9:tx n0++jh " for 1"=tx ((n0++[32,102,111,114,32])++[49]):=by rw[es,Xq,jdu]
 have ca:jh "1 of ="++tx k0++jh " for 1"=tx (([49,32,111,102,32,61]++k0++[32,102,111,114,32])++[49]):=by rw[es,eo,Xq,Xq,jdu _ _ [49]]
 have b1:∀c∈(n0++[32,102,111,114,32])++[49],c<128:=λc g=>by
  simp only[jdo,jbK,jdk,or_false]at g
  rcases g with(g|g)|g
  .have:=X.2.2 c g;omega
  .omega
  .omega
 have b3:∀c∈([49,32,111,102,32,61]++k0++[32,102,111,114,32])++[49],c<128:=λc g=>by
  simp only[jdo,jbK,jdk,or_false]at g
  rcases g with((g|g)|g)|g
  .omega
  .have:=W.2.2 c g;omega
  .omega
  .omega
 refine⟨_,rfl,l,_,0,sv n0,rfl,rfl,Yy.of bb,R8 (i:=0) aw,_,_,rfl,rfl,Vm cq (Yt (n:=6) (by decide)) (by decide),_,rfl,_,a5,[],[],rfl,a8,.inr ⟨_,congrArg V.str b9,b1,by have:=X.2.1;simp;omega,λ⟨_,t2,O,_⟩=>sO O⟩,λc2 a3=>⟨_,rfl,Yn ?_⟩⟩
 refine⟨_,rfl,p,_,0,sv k0,rfl,rfl,Yy.of (a3 _ _ bi),R8 (i:=0) ar,_,_,rfl,rfl,Vm (Yt (n:=6) (by decide)) bB (by decide),_,_,rfl,rfl,Vm (Xh (Yt (n:=6) (by decide)) bB) (Yt (n:=6) (by decide)) (by decide),_,rfl,_,a5,[],[],rfl,Yu.same a3 a8,.inr ⟨_,congrArg V.str ca,b3,by have:=W.2.1;simp;omega,λ⟨_,t2,O,_⟩=>sO O⟩,λc3 cw=>⟨_,rfl,Yn ?_⟩⟩
 have aB:=(aa.trans a3).trans cw
 exact⟨_,rfl,_,rfl,_,rfl,_,rfl,x,st,l,ns,ks,t,(by rw[ex];rfl),Yu.same aB L,aB _ _ I,hX,hy,λN _=>q N⟩
end
end My
namespace L2
open PySem PySem.Spec PyProof.Rows PySem.W
structure qF(K:oh)(f:pA)(x q:Str)(st:jde):Prop where
 ex:∃oc od kV dc pm an cd ct sl,K.lookup f=nC ⟨oc,od,.func (jdx x q (Wa st) (Xi st) (ZJ st) .none kV dc pm an cd ct),sl⟩/\jf0 K cd q=qm
 kp:jdO K (.ref f)=qm
 fn:jhK K (.ref f)=qm
theorem qF.of{K:oh}{f:pA}{x q:Str}{st:jde}{g kV e i a d:pL}{h b:Option pA}{j:Array (Option pL)}(l:K.lookup f=nC ⟨g,h,.func (jdx x q (Wa st) (Xi st) (ZJ st) .none kV e i b a d),j⟩)(c:jf0 K a q=qm)(k:jdO K (.ref f)=qm)(n:jhK K (.ref f)=qm):qF K f x q st:=⟨⟨g,h,kV,e,i,b,a,d,j,l,c⟩,k,n⟩
theorem qF.go{K:oh}{f:pA}{x q:Str}{st:jde}(h:qF K f x q st):∃fd,Xl K x q st f fd:=by
 obtain⟨⟨_,_,_,_,_,_,_,_,_,l,c⟩,k,_⟩:=h
 exact⟨_,lK l c k⟩
structure R4(K:oh)(f:pA)(x:Str)(st:jde):Prop where
 at_:jc3 K jcM x=nC (nC (.ref f))
 fn:qF K f x x st
structure Fy(K:oh)(C:pA)(m:Str)(f:pA)(q:Str)(st:jde):Prop where
 at_:jcy K (.ref C) m=nC (nC (.ref f))
 fn:qF K f m q st
section
variable{K:oh}{h:jcX}{mg:Str->Option pL}{f C:pA}{x q:Str}{st:jde}
theorem R4.go(g:R4 K f x st)(X:K.In h)(G:h.Ns jcM mg):(∃a,Xl K x x st f a)/\mg x=nC (.ref f):=⟨g.fn.go,jdC X G g.at_⟩
theorem Fy.go(g:Fy K C x f q st):(∃a,Xl K x q st f a)/\jcy K (.ref C) x=nC (nC (.ref f))/\jhK K (.ref f)=qm/\jdO K (.ref f)=qm:=⟨g.fn.go,g.at_,g.fn.fn,g.fn.kp⟩
end
noncomputable def BV (K:oh) (C:pA):List Str->Prop
 |[]=>True
 |f::fs=>jcy K (.ref C) f=nC su/\BV K C fs
structure Sw(K:oh)(x:Str)(C:pA)(fs:List Str):Prop where
 at_:jc3 K jcM x=nC (nC (.ref C))
 pg:jfP K C jdV=qm
 hd:jgh K C=qm
 po:jhl K C=qm
 sa:jcy K (.ref C) "__setattr__"=nC (nC (.builtin "object.__setattr__"))
 mks:jfv K C=qm
 kp:jdO K (.ref C)=qm
 no:BV K C fs
 t1:jcy K (.ref C) "__class__"=nC (nC (.builtin "object.__class__"))
 t2:jfV K (.builtin "object.__class__") "__get__"=nC (nC (.builtin "getset_descriptor.__get__"))
 t3:jid K (.builtin "object.__class__")=nC qm
 t4:jcJ K C (.type "object")=nC qm
theorem BV.mem{K:oh}{C:pA}:∀{fs:List Str},BV K C fs->∀f∈fs,jcy K (.ref C) f=nC su
 |[],_,_,h=>by cases h
 |g::fs,n,f,h=>by
  rcases jbK.mp h with rfl|h
  .exact n.1
  .exact BV.mem n.2 f h
theorem Sw.own{K:oh}{h:jcX}{mg:Str->Option pL}{x:Str}{C:pA}{fs:List Str}(c:Sw K x C fs)(X:K.In h)(G:h.Ns jcM mg):Own K mg x C fs:=
 ⟨jdC X G c.at_,⟨c.pg,c.hd,c.po,c.sa⟩,c.mks,c.kp,λf a=>BV.mem c.no f a,c.t1,c.t2,c.t3,c.t4⟩
theorem R4.of{K:oh}{f:pA}{x:Str}{st:jde}{h kV g j b e:pL}{i d:Option pA}{m:Array (Option pL)}(a:jc3 K jcM x=nC (nC (.ref f)))(l:K.lookup f=nC ⟨h,i,.func (jdx x x (Wa st) (Xi st) (ZJ st) .none kV g j d b e),m⟩)(c:jf0 K b x=qm)(k:jdO K (.ref f)=qm)(n:jhK K (.ref f)=qm):R4 K f x st:=⟨a,.of l c k n⟩
theorem Fy.of{K:oh}{C f:pA}{m q:Str}{st:jde}{h kV g j b e:pL}{i d:Option pA}{o:Array (Option pL)}(a:jcy K (.ref C) m=nC (nC (.ref f)))(l:K.lookup f=nC ⟨h,i,.func (jdx m q (Wa st) (Xi st) (ZJ st) .none kV g j d b e),o⟩)(c:jf0 K b q=qm)(k:jdO K (.ref f)=qm)(n:jhK K (.ref f)=qm):Fy K C m f q st:=⟨a,.of l c k n⟩
section
variable{K:oh}{x:Str}{C:pA}{f1 f2 f3:Str}(a1:jc3 K jcM x=nC (nC (.ref C)))(a2:jfP K C jdV=qm)(a3:jgh K C=qm)(a4:jhl K C=qm)(a5:jcy K (.ref C) "__setattr__"=nC (nC (.builtin "object.__setattr__")))(a6:jfv K C=qm)(a7:jdO K (.ref C)=qm)
 (t1:jcy K (.ref C) "__class__"=nC (nC (.builtin "object.__class__")))(t2:jfV K (.builtin "object.__class__") "__get__"=nC (nC (.builtin "getset_descriptor.__get__")))(t3:jid K (.builtin "object.__class__")=nC qm)(t4:jcJ K C (.type "object")=nC qm)
include a1 a2 a3 a4 a5 a6 a7 t1 t2 t3 t4
theorem Sw.of0:Sw K x C []:=⟨a1,a2,a3,a4,a5,a6,a7,trivial,t1,t2,t3,t4⟩
theorem Sw.jb4(a:jcy K (.ref C) f1=nC su):Sw K x C [f1]:=⟨a1,a2,a3,a4,a5,a6,a7,⟨a,trivial⟩,t1,t2,t3,t4⟩
theorem Sw.of2(a:jcy K (.ref C) f1=nC su)(b:jcy K (.ref C) f2=nC su):Sw K x C [f1,f2]:=⟨a1,a2,a3,a4,a5,a6,a7,⟨a,b,trivial⟩,t1,t2,t3,t4⟩
theorem Sw.jci(a:jcy K (.ref C) f1=nC su)(b:jcy K (.ref C) f2=nC su)(c:jcy K (.ref C) f3=nC su):Sw K x C [f1,f2,f3]:=⟨a1,a2,a3,a4,a5,a6,a7,⟨a,b,c,trivial⟩,t1,t2,t3,t4⟩
end
end L2
namespace My
open PySem PySem.Spec PyProof.Rows L2 GM
noncomputable def aG (K:oh) (C D:pA):Bool:=match jjr K C with
 |some a=>decide (a.mro=.ref C::.ref D::Bp)&&a.hasDict
 |none=>vh
theorem di{K:oh}{C D:pA}{f:Str}(c:jcy K (.ref C) "__setattr__"=nC (nC (.builtin "object.__setattr__")))(d:jcy K (.ref C) f=nC su)(a:aG K C D=qm):qO K C f:=by
 refine⟨c,d,?_⟩
 unfold aG at a
 split at a
 .rename_i b e
  rw[jbE,decide_eq_true_eq]at a
  exact⟨b,D,e,a.1,a.2⟩
 .cases a
section
variable{P:jcz}{w:jcS}{K:oh}{mg:Str->Option pL}{base:jcX}
variable{Zz Zw Zi Zv Zm Zq Zr Zn Zt ZG Zo Zu:pA}
variable{DH:pA}
theorem M7{f:pA}{d:jaF}(F:Xl K "__init__" "NoName.__init__" Uv f d)
 (n:Own K mg "Bid" Zz [])
 (t:Own K mg "Only" Zw ["bundle","amount"])
 (u:Own K mg "SoMany" Zi ["kind","least","amount"])
 (r:Own K mg "UpTo" Zv ["kind","most","each"])
 (x:Own K mg "Several" Zm ["bids"])
 (o:Own K mg "AnyOf" Zq ["bids"])
 (p:Own K mg "OneOf" Zr ["bids"])
 (y:Own K mg "Stock" Zn ["numbers","kinds"])(i:sy K DH)(g:vX Zu Bp "ValueError.__new__" base)(b:mg "HallError"=nC (.ref DH))(j:qO K Zu "name"):We P w K mg base Ol 1 f d ["self","name"] (cJ Zu "name"):=by
 refine F.Eg Ls (λm H Q E h=>?_) (λl A c s H m Q E z h=>?_)
 .obtain⟨a,v,rfl,_⟩:=h;rfl
 obtain⟨a,v,rfl,e,q⟩:=h
 refine⟨_,(Zd (Yx (vY i g rfl b (Za (Ze 0) (Za Zf Zb))))
  (Zh (qL j (Ze 0) (Ze 1)))),?_⟩
 exact⟨_,rfl,a,_,rfl,e,_,rfl,_,rfl,a,rfl,e,q⟩
end
theorem bC{l:jgv}{w:jcS}{K:oh}{h:jcX}{mg:Str->Option pL}{fa:pA}(X:K.In h)(G:h.Ns jcM mg)(hd:mg "law"=nC (.ref fa))
 {Zz Zw Zi Zv Zm Zq Zr Zn:pA}
 {Zt ZG Zo Zu DH d r M q t u:pA}{aT:Option pA}{aI:jhx}{a3:Array (Option pL)}{bd:Option pA}{bb:jhx}{be:Array (Option pL)}{ai:Option pA}{ah:jhx}{an:Array (Option pL)}{aS:Option pA}{aE:jhx}{a2:Array (Option pL)}
 (a0:Sw K "Bid" Zz [])
 (al:Sw K "Only" Zw ["bundle","amount"])
 (A:Sw K "SoMany" Zi ["kind","least","amount"])
 (am:Sw K "UpTo" Zv ["kind","most","each"])
 (a1:Sw K "Several" Zm ["bids"])
 (U:Sw K "AnyOf" Zq ["bids"])
 (Y:Sw K "OneOf" Zr ["bids"])
 (Z:Sw K "Stock" Zn ["numbers","kinds"])
 (b7:jcy K (.ref Zz) "__init__"=nC (nC (.builtin "object.__init__")))
 (WT:jaE K (.ref Zz) (.ref Zz)=nC qm)
 (Wn:jaE K (.ref Zw) (.ref Zz)=nC qm)
 (Xo:jaE K (.ref Zi) (.ref Zz)=nC qm)
 (Wo:jaE K (.ref Zv) (.ref Zz)=nC qm)
 (WN:jaE K (.ref Zm) (.ref Zz)=nC qm)
 (XQ:jaE K (.ref Zq) (.ref Zz)=nC qm)
 (XR:jaE K (.ref Zr) (.ref Zz)=nC qm)
 (VL:jaE K (.ref Zn) (.ref Zz)=nC vh)
 {f0 f1 f2 f3 f4 f5 f6 f7 f8 f9 eL eM eP eR eS eT eW e0 e3 e4 e5 e6 e7 e8 e9 fb fe ff fg fh fi fk fl fm fn fo fp fq fr ft fu fv fw fx fy fz br bt de df fA dk fB dl fE bo cl cm fF fI dn fN fO cn co dp:pA}
 (q0:R4 K f0 "is_whole" Ng)
 (q1:R4 K f1 "is_within" Pu)
 (q2:R4 K f2 "bundle_of" Rx)
 (q3:R4 K f3 "things_in" Ry)
 (q4:R4 K f4 "holds" Gq)
 (q5:R4 K f5 "check_bundle" Rg)
 (q6:R4 K f6 "check_so_many" V4)
 (q7:R4 K f7 "check_amount" Up)
 (q8:R4 K f8 "check_bids" Sg)
 (q9:R4 K f9 "depth_over" V9)
 (hu:R4 K eL "tally_over" Ub)
 (hv:R4 K eM "place_words" U8)
 (hw:R4 K eP "list_words" Ua)
 (hx:R4 K eR "read_bid" Qg)
 (hy:R4 K eS "bid_told" Sd)
 (hz:R4 K eT "bids_told" UL)
 (hA:R4 K eW "parted" JG)
 (hB:R4 K e0 "plain_bid_told" Vw)
 (hC:R4 K e3 "has_form" Qf)
 (hD:R4 K e4 "place_told" Vi)
 (hE:R4 K e5 "number_told" U5)
 (hF:R4 K e6 "is_figures" Sh)
 (hG:R4 K e7 "is_name" Pa)
 (hH:R4 K e8 "_law_cell" Cq)
 (hI:R4 K e9 "_law_word" Cw)
 (hJ:R4 K fb "_law_names" KC)
 (hK:R4 K fe "_law_kinds" Kz)
 (hL:R4 K ff "_law_amount" JC)
 (hM:R4 K fg "_law_leaf" Cu)
 (hN:R4 K fh "_law_grouped" Ln)
 (hO:R4 K fi "_law_place" KD)
 (hP:R4 K fk "_law_text" Lr)
 (hQ:R4 K fl "_law_form" Cr)
 (hR:R4 K fm "_law_number" JD)
 (hS:R4 K fn "_law_letters" Lp)
 (hT:R4 K fo "_law_bundle" Nf)
 (hU:R4 K fp "_law_amounted" Nb)
 (hV:R4 K fq "_law_counted" Lk)
 (hW:R4 K fr "_law_single" JF)
 (hX:R4 K ft "_law_bid" Ip)
 (hY:R4 K fu "_law_tally" Ob)
 (hZ:R4 K fv "_law_due" yN)
 (h0:R4 K fw "_law_odd" yO)
 (h1:R4 K fx "_law_changed" Q9)
 (h2:R4 K fy "_law_refused" Lq)
 (h3:R4 K fz "_law_read" Cv)
 {ck:pA}{dT bX:Option pA}{dV:Array (Option pL)}{dS b1 b0 b2 bn bY:pL}
 (c2:jc3 K jcM "law"=nC (nC (.ref ck)))(ho:K.lookup ck=nC ⟨dS,dT,.func (jdx "law" "law" (Wa K5) (Xi K5) (ZJ K5) .none b1 b0 b2 bX bn bY),dV⟩)(eK:jf0 K bn "law"=qm)(hn:jdO K (.ref ck)=qm)
 (h4:Fy K Zz "depth" br "Bid.depth" Ru)
 (ac:jcy K (.ref Zw) "depth"=nC (nC (.ref br)))
 (E:jcy K (.ref Zi) "depth"=nC (nC (.ref br)))
 (ad:jcy K (.ref Zv) "depth"=nC (nC (.ref br)))
 (h5:Fy K Zz "tally" bt "Bid.tally" Rv)
 (ae:jcy K (.ref Zw) "tally"=nC (nC (.ref bt)))
 (F:jcy K (.ref Zi) "tally"=nC (nC (.ref bt)))
 (af:jcy K (.ref Zv) "tally"=nC (nC (.ref bt)))
 (h6:Fy K Zz "words" de "Bid.words" Rw)
 (bv:jcy K (.ref Zm) "words"=nC (nC (.ref de)))
 (h7:Fy K Zw "__init__" df "Only.__init__" VV)
 (h8:Fy K Zw "words" fA "Only.words" T8)
 (h9:Fy K Zi "__init__" dk "SoMany.__init__" Vb)
 (ia:Fy K Zi "words" fB "SoMany.words" Uo)
 (ib:Fy K Zv "__init__" dl "UpTo.__init__" V3)
 (ic:Fy K Zv "words" fE "UpTo.words" T9)
 (id:Fy K Zm "__init__" bo "Several.__init__" W0)
 (N:jcy K (.ref Zq) "__init__"=nC (nC (.ref bo)))
 (O:jcy K (.ref Zr) "__init__"=nC (nC (.ref bo)))
 (ih:Fy K Zm "depth" cl "Several.depth" V0)
 (Q:jcy K (.ref Zq) "depth"=nC (nC (.ref cl)))
 (R:jcy K (.ref Zr) "depth"=nC (nC (.ref cl)))
 (ii:Fy K Zm "tally" cm "Several.tally" V1)
 (S:jcy K (.ref Zq) "tally"=nC (nC (.ref cm)))
 (T:jcy K (.ref Zr) "tally"=nC (nC (.ref cm)))
 (ij:Fy K Zq "words" fF "AnyOf.words" U0)
 (im:Fy K Zr "words" fI "OneOf.words" U3)
 (io:Fy K Zn "__init__" dn "Stock.__init__" Tj)
 (ip:Fy K Zn "many" fN "Stock.many" Cy)
 (iq:Fy K Zn "names" fO "Stock.names" Fq)
 (it:Fy K Zn "number_of" cn "Stock.number_of" Vc)
 (iv:Fy K Zn "kind_of" co "Stock.kind_of" V2)
 (ix:Fy K Zu "__init__" dp "NoName.__init__" Uv)
 (xu:jc3 K jcM "isinstance"=nC su)
 (hh:jc3 K jcM "int"=nC su)
 (he:jc3 K jcM "bool"=nC su)
 (dM:jc3 K jcM "range"=nC su)
 (hf:jc3 K jcM "list"=nC su)
 (hj:jc3 K jcM "max"=nC su)
 (hl:jc3 K jcM "sum"=nC su)
 (hk:jc3 K jcM "str"=nC su)
 (hi:jc3 K jcM "len"=nC su)
 (vO:jc3 K jcM "enumerate"=nC su)
 (hg:jc3 K jcM "all"=nC su)
 (hm:jc3 K jcM "zip"=nC su)
 (iJ:jc3 K jcM "divmod"=nC su)
 (tX:jc3 K jcM "reversed"=nC su)
 (xr:jc3 K jcM "ValueError"=nC su)
 (Eu:jc3 K jcM "NoText"=nC (nC (.ref Zt)))
 (FW:jc3 K jcM "NoBid"=nC (nC (.ref ZG)))
 (Oz:jc3 K jcM "NoBundle"=nC (nC (.ref Zo)))
 (JZ:jc3 K jcM "NoName"=nC (nC (.ref Zu)))
 (Jk:jc3 K jcM "NoNumber"=nC (nC (.ref d)))
 (Hm:jc3 K jcM "NoPaper"=nC (nC (.ref r)))
 (zY:jc3 K jcM "NoRow"=nC (nC (.ref M)))
 (Hl:jc3 K jcM "BadStep"=nC (nC (.ref q)))
 (Hn:jc3 K jcM "TooLate"=nC (nC (.ref t)))
 (Ho:jc3 K jcM "TooMany"=nC (nC (.ref u)))
 (Mq:jc3 K jcM "HallError"=nC (nC (.ref DH)))
 (Bm:jh3 K Zt Bp "ValueError.__new__"=qm)
 (xq:jh3 K ZG Bp "ValueError.__new__"=qm)
 (JM:jh3 K Zo Bp "ValueError.__new__"=qm)
 (HD:K.lookup Zt=nC ⟨.type "type",aT,.cls aI,a3⟩)
 (Ko:jcJ K Zt (.type "BaseException")=nC qm)
 (Dw:K.lookup ZG=nC ⟨.type "type",bd,.cls bb,be⟩)
 (Dj:jcJ K ZG (.type "BaseException")=nC qm)
 (Mx:K.lookup Zo=nC ⟨.type "type",ai,.cls ah,an⟩)
 (Mr:jcJ K Zo (.type "BaseException")=nC qm)
 (HB:K.lookup Zu=nC ⟨.type "type",aS,.cls aE,a2⟩)
 (Hv:jcJ K Zu (.type "BaseException")=nC qm)
 (WX:jcJ K Zt (.ref Zu)=nC vh)
 (Wk:jcJ K Zt (.ref Zo)=nC vh)
 (Vh:jcJ K Zt (.ref ZG)=nC vh)
 (Vg:jcJ K ZG (.ref Zu)=nC vh)
 (Ww:jcJ K ZG (.ref Zo)=nC vh)
 (VG:jcJ K ZG (.ref ZG)=nC qm)
 (Wj:jcJ K Zo (.ref Zu)=nC vh)
 (XC:jcJ K Zo (.ref Zo)=nC qm)
 (Vu:jcJ K Zo (.ref ZG)=nC vh)
 (WW:jcJ K Zu (.ref Zu)=nC qm)
 (W9:jcJ K Zu (.ref Zo)=nC vh)
 (Ul:jcJ K Zu (.ref ZG)=nC vh)
 (il:jcJ K Zt (.type "object")=nC qm)
 (ik:jcy K (.ref Zt) "__class__"=nC (nC (.builtin "object.__class__")))
 (jaA:jcy K (.ref Zt) "__getattribute__"=nC (nC (.builtin "BaseException.__getattribute__")))
 (jaB:jcy K (.ref Zt) "__getattr__"=nC su)
 (ir:jcJ K Zt (.ref Zt)=nC qm)
 (jP:jaE K (.ref Zt) (.type "ValueError")=nC qm)
 (uY:jaE K (.ref Zt) (.ref DH)=nC qm)
 (yJ:jaE K (.ref Zt) (.ref ZG)=nC vh)
 (Jz:jaE K (.ref Zt) (.ref Zo)=nC vh)
 (Ci:jaE K (.ref Zt) (.ref Zu)=nC vh)
 (JB:jaE K (.ref Zt) (.ref d)=nC vh)
 (Gk:jaE K (.ref Zt) (.ref r)=nC vh)
 (yK:jaE K (.ref Zt) (.ref M)=nC vh)
 (Gj:jaE K (.ref Zt) (.ref q)=nC vh)
 (Gm:jaE K (.ref Zt) (.ref t)=nC vh)
 (Gn:jaE K (.ref Zt) (.ref u)=nC vh)
 (lg:lF K Zu Bp "ValueError.__new__"=qm)
 (m8:aG K Zu DH=qm)
 (bN:jcy K (.ref Zu) "__setattr__"=nC (nC (.builtin "object.__setattr__")))
 (bM:jcy K (.ref Zu) "name"=nC su)
 (bL:jdO K (.ref Zu)=qm)
 (mZ:jfV K (.ref DH) "__getattribute__"=nC (nC (.builtin "type.__getattribute__")))
 (m7:PySem.W.readsIn K DH (.type "type")=qm)
 (mY:PySem.W.findCls K (.ref DH) (.type "type") "__init__"=nC (.val (.builtin "ValueError.__init__")))
 :∃fd:jaF,(∀(s:S6)(v:pL),ji0 s fd ⟨[v],[]⟩ [("_law_script",v)])/\∀base:jcX,K.In base->base.Ns jcM mg->We l.prog w K mg base Ol 25 fa fd ["_law_script"] (yU K):=by
 have e:=hd.symm.trans (jdC X G c2)
 cases e
 obtain⟨⟨d0,F0⟩,g0⟩:=q0.go X G
 obtain⟨⟨d1,F1⟩,g1⟩:=q1.go X G
 obtain⟨⟨d2,F2⟩,g2⟩:=q2.go X G
 obtain⟨⟨d3,F3⟩,g3⟩:=q3.go X G
 obtain⟨⟨d4,F4⟩,g4⟩:=q4.go X G
 obtain⟨⟨d5,F5⟩,g5⟩:=q5.go X G
 obtain⟨⟨d6,F6⟩,g6⟩:=q6.go X G
 obtain⟨⟨d7,F7⟩,g7⟩:=q7.go X G
 obtain⟨⟨d8,F8⟩,g8⟩:=q8.go X G
 obtain⟨⟨d9,F9⟩,g9⟩:=q9.go X G
 obtain⟨⟨iS,b3⟩,cp⟩:=hu.go X G
 obtain⟨⟨iX,ea⟩,fR⟩:=hv.go X G
 obtain⟨⟨i0,b4⟩,cq⟩:=hw.go X G
 obtain⟨⟨i1,cw⟩,dr⟩:=hx.go X G
 obtain⟨⟨i2,eb⟩,fS⟩:=hy.go X G
 obtain⟨⟨i3,ec⟩,fT⟩:=hz.go X G
 obtain⟨⟨i4,ed⟩,ga⟩:=hA.go X G
 obtain⟨⟨i5,cx⟩,ds⟩:=hB.go X G
 obtain⟨⟨i6,ee⟩,gc⟩:=hC.go X G
 obtain⟨⟨i7,cy⟩,dt⟩:=hD.go X G
 obtain⟨⟨i8,cz⟩,du⟩:=hE.go X G
 obtain⟨⟨i9,ef⟩,gd⟩:=hF.go X G
 obtain⟨⟨ka,eg⟩,ge⟩:=hG.go X G
 obtain⟨⟨kb,eh⟩,gg⟩:=hH.go X G
 obtain⟨⟨kc,ei⟩,gi⟩:=hI.go X G
 obtain⟨⟨kd,ej⟩,gl⟩:=hJ.go X G
 obtain⟨⟨ke,ek⟩,gp⟩:=hK.go X G
 obtain⟨⟨kf,el⟩,gs⟩:=hL.go X G
 obtain⟨⟨kg,em⟩,gt⟩:=hM.go X G
 obtain⟨⟨ki,en⟩,gu⟩:=hN.go X G
 obtain⟨⟨kk,eo⟩,gv⟩:=hO.go X G
 obtain⟨⟨kl,ep⟩,gx⟩:=hP.go X G
 obtain⟨⟨km,eq⟩,gy⟩:=hQ.go X G
 obtain⟨⟨kn,er⟩,gz⟩:=hR.go X G
 obtain⟨⟨ko,es⟩,gB⟩:=hS.go X G
 obtain⟨⟨kq,et⟩,gE⟩:=hT.go X G
 obtain⟨⟨kr,eu⟩,gI⟩:=hU.go X G
 obtain⟨⟨ks,ev⟩,gL⟩:=hV.go X G
 obtain⟨⟨kt,ew⟩,gN⟩:=hW.go X G
 obtain⟨⟨ku,ex⟩,gO⟩:=hX.go X G
 obtain⟨⟨kv,ey⟩,gS⟩:=hY.go X G
 obtain⟨⟨kw,ez⟩,gT⟩:=hZ.go X G
 obtain⟨⟨kx,eA⟩,gV⟩:=h0.go X G
 obtain⟨⟨ky,eB⟩,gX⟩:=h1.go X G
 obtain⟨⟨kz,eC⟩,ha⟩:=h2.go X G
 obtain⟨⟨kA,eD⟩,hb⟩:=h3.go X G
 have eH:=lK (st:=K5) ho eK hn
 have hc:=jdC X G c2
 obtain⟨⟨kB,b5⟩,c3,ax,av⟩:=h4.go
 obtain⟨⟨kC,b6⟩,c4,ay,aw⟩:=h5.go
 obtain⟨⟨kD,b9⟩,c5,dD,dv⟩:=h6.go
 obtain⟨⟨kF,ca⟩,c6,hp,k3⟩:=h7.go
 obtain⟨⟨kG,cb⟩,c7,dE,dw⟩:=h8.go
 obtain⟨⟨kH,cc⟩,c8,hq,k4⟩:=h9.go
 obtain⟨⟨kK,cd⟩,c9,dK,dx⟩:=ia.go
 obtain⟨⟨kL,ce⟩,da,hr,k5⟩:=ib.go
 obtain⟨⟨kM,cf⟩,db,dL,dy⟩:=ic.go
 obtain⟨⟨kN,bg⟩,iF,dO,k6⟩:=id.go
 obtain⟨⟨kP,cD⟩,iL,bP,bB⟩:=ih.go
 obtain⟨⟨kQ,cE⟩,iN,bS,bE⟩:=ii.go
 obtain⟨⟨kR,cK⟩,dc,dP,dA⟩:=ij.go
 obtain⟨⟨kS,cS⟩,dd,dQ,dB⟩:=im.go
 obtain⟨⟨kT,c0⟩,eI,hs,k7⟩:=io.go
 obtain⟨⟨kU,iA⟩,iO,lb,k8⟩:=ip.go
 obtain⟨⟨kX,iE⟩,iP,lc,k9⟩:=iq.go
 obtain⟨⟨k0,bp⟩,ch,ct,cr⟩:=it.go
 obtain⟨⟨k1,bq⟩,ci,cv,cs⟩:=iv.go
 obtain⟨⟨k2,c1⟩,eJ,ht,la⟩:=ix.go
 have Ye:=jdd X G xu
 have Q5:=jdd X G hh
 have uH:=jdd X G he
 have Y9:=jdd X G dM
 have Vs:=jdd X G hf
 have Dy:=jdd X G hj
 have Qu:=jdd X G hl
 have UJ:=jdd X G hk
 have Yz:=jdd X G hi
 have Tq:=jdd X G vO
 have Ig:=jdd X G hg
 have zf:=jdd X G hm
 have P0:=jdd X G iJ
 have Jq:=jdd X G tX
 have O6:=jdd X G xr
 refine⟨jdx "law" "law" (Wa K5) (Xi K5) (ZJ K5) .none b1 b0 b2 bX bn bY,λs v=>.of_eq rfl,λbase KB _=>?_⟩
 have f:=a0.own X G
 have n:=al.own X G
 have o:=A.own X G
 have m:=am.own X G
 have p:=a1.own X G
 have g:=U.own X G
 have i:=Y.own X G
 have b:=Z.own X G
 have x:=jdC X G Mq
 have wG:=jdC X G Eu
 have ba:nP K Zt:=⟨⟨_,_,_,HD⟩,Ko⟩
 have Ed:=jdC X G FW
 have bm:nP K ZG:=⟨⟨_,_,_,Dw⟩,Dj⟩
 have O5:=jdC X G Oz
 have ar:nP K Zo:=⟨⟨_,_,_,Mx⟩,Mr⟩
 have Ie:=jdC X G JZ
 have a9:nP K Zu:=⟨⟨_,_,_,HB⟩,Hv⟩
 have a:=yG KB wG Bm
 have z:=yG KB Ed xq
 have ag:=yG KB O5 JM
 have OI:vX Zu Bp "ValueError.__new__" base:=fj KB lg
 have ZI:sy K DH:=⟨mZ,m7,_,mY,rfl⟩
 have ZS:qO K Zu "name":=di bN bM m8
 have L:nQ l.prog w K mg base 1 "NoName" Zu "name":=⟨Ie,OI,bL,dp,_,["self","name"],eJ,beq_iff_eq.mp ht,M7 (P:=l.prog) (w:=w) (base:=base) c1 f n o m p g i b ZI OI x ZS,VF c1 λ_ _ _ _ _ _ _ _=>rfl⟩
 have ZT:jcg K mg Zt:=⟨wG,ba,⟨il,Ko,ik,jaA,jaB⟩,ir,jP,⟨DH,x,uY⟩,⟨ZG,jdC X G FW,yJ⟩,⟨Zo,jdC X G Oz,Jz⟩,⟨Zu,jdC X G JZ,Ci⟩,⟨d,jdC X G Jk,JB⟩,⟨r,jdC X G Hm,Gk⟩,⟨M,jdC X G zY,yK⟩,⟨q,jdC X G Hl,Gj⟩,⟨t,jdC X G Hn,Gm⟩,⟨u,jdC X G Ho,Gn⟩⟩
 have Oq:=Bw (P:=l.prog) (w:=w) (base:=base) F0 g0 Ye Q5 uH
 have Yq:=DW (P:=l.prog) (w:=w) (base:=base) F1 g1 Oq
 have Ui:=uR (P:=l.prog) (w:=w) (base:=base) F4 g4
 have Rq:=DR (P:=l.prog) (w:=w) (base:=base) F2 g2 Ui Yq
 have Pq:=DX (P:=l.prog) (w:=w) (base:=base) F3 g3 Y9 Ui
 have Yl:=Ij (P:=l.prog) (w:=w) (base:=base) F5 g5 Yq
 have Xm:=Jy (P:=l.prog) (w:=w) (base:=base) F6 g6 Yq
 have Y0:=Ii (P:=l.prog) (w:=w) (base:=base) F7 g7 Yq
 have nR:=MN (P:=l.prog) (w:=w) (base:=base) b5 f n o m p g i b
 have wz:=Al (P:=l.prog) (w:=w) (base:=base) b5 cD F9 g9 Dy f n o m p g i b ⟨c3,ax,av⟩ ⟨ac,ax,av⟩ ⟨E,ax,av⟩ ⟨ad,ax,av⟩ ⟨Q,bP,bB⟩ ⟨R,bP,bB⟩ 5
 have XS:=NB (P:=l.prog) (w:=w) (base:=base) 4 F9 g9 Dy f n o m p g i b (Al (P:=l.prog) (w:=w) (base:=base) b5 cD F9 g9 Dy f n o m p g i b ⟨c3,ax,av⟩ ⟨ac,ax,av⟩ ⟨E,ax,av⟩ ⟨ad,ax,av⟩ ⟨Q,bP,bB⟩ ⟨R,bP,bB⟩ 4)
 have nU:=MP (P:=l.prog) (w:=w) (base:=base) b6 f n o m p g i b
 have wA:=Am (P:=l.prog) (w:=w) (base:=base) b6 cE b3 cp Qu f n o m p g i b ⟨c4,ay,aw⟩ ⟨ae,ay,aw⟩ ⟨F,ay,aw⟩ ⟨af,ay,aw⟩ ⟨S,bS,bE⟩ ⟨T,bS,bE⟩ 5
 have XX:=NP (P:=l.prog) (w:=w) (base:=base) 4 b3 cp Qu f n o m p g i b (Am (P:=l.prog) (w:=w) (base:=base) b6 cE b3 cp Qu f n o m p g i b ⟨c4,ay,aw⟩ ⟨ae,ay,aw⟩ ⟨F,ay,aw⟩ ⟨af,ay,aw⟩ ⟨S,bS,bE⟩ ⟨T,bS,bE⟩ 4)
 have TF:=Fl (P:=l.prog) (w:=w) (base:=base) F8 g8 Ye Vs XS XX f n o m p g i b WT Wn Xo Wo WN XQ XR VL
 have Yv:=Gd (P:=l.prog) (w:=w) (base:=base) ea fR Pq
 have nW:=MT (P:=l.prog) (w:=w) (base:=base) b9 f n o m p g i b
 have nH:=Ny (P:=l.prog) (w:=w) (base:=base) cb Yv f n o m p g i b
 have t8:=Q7 (P:=l.prog) (w:=w) (base:=base) cd Yv f n o m p g i b
 have nJ:=Nz (P:=l.prog) (w:=w) (base:=base) cf Yv f n o m p g i b
 have Mv:=An (P:=l.prog) (w:=w) (base:=base) b9 cb cd cf cK cS b4 cq Yv f n o m p g i b ⟨c5,dD,dv⟩ ⟨c7,dE,dw⟩ ⟨c9,dK,dx⟩ ⟨db,dL,dy⟩ ⟨dc,dP,dA⟩ ⟨dd,dQ,dB⟩ 5
 have TJ:=NK (P:=l.prog) (w:=w) (base:=base) 4 b4 cq f n o m p g i b (An (P:=l.prog) (w:=w) (base:=base) b9 cb cd cf cK cS b4 cq Yv f n o m p g i b ⟨c5,dD,dv⟩ ⟨c7,dE,dw⟩ ⟨c9,dK,dx⟩ ⟨db,dL,dy⟩ ⟨dc,dP,dA⟩ ⟨dd,dQ,dB⟩ 4)
 have XM:=Bv (P:=l.prog) (w:=w) (base:=base) ee gc Ig Yz zf
 have Y5:=yC (P:=l.prog) (w:=w) (base:=base) eg ge Ig Ye UJ Yz
 have Qo:=Jw (P:=l.prog) (w:=w) (base:=base) bq Y5 f n o m p g i b
 have RC:=M9 (P:=l.prog) (w:=w) (base:=base) bp Y5 f n o m p g i b
 have Jm:∀C sp,Aa K Zz Zw Zi Zv Zm Zq Zr Zn C sp->∃ps,Ut l.prog w K mg base 2 C "kind_of" ps sp:=by
  rintro C sp (⟨e1,e2⟩)
  .subst e2;rw[e1];exact⟨_,co,_,(Qo).mono (by decide),VF bq λ_ _ _ _ _ _ _ _=>rfl,⟨ci,cv,cs⟩,b.cls⟩
 have O2:∀C sp,GK K Zz Zw Zi Zv Zm Zq Zr Zn C sp->∃ps,Ut l.prog w K mg base 2 C "number_of" ps sp:=by
  rintro C sp (⟨e1,e2⟩)
  .subst e2;rw[e1];exact⟨_,cn,_,(RC).mono (by decide),VF bp λ_ _ _ _ _ _ _ _=>rfl,⟨ch,ct,cr⟩,b.cls⟩
 have Ve:=Fo (P:=l.prog) (w:=w) (base:=base) cy dt Rq f n o m p g i b Jm O2
 have B:=HS (P:=l.prog) (w:=w) (base:=base) ef gd Ig Yz
 have V7:=bU B
 have Xu:=Gb (P:=l.prog) (w:=w) (base:=base) cz du Q5 V7
 have Jg:=Jt (P:=l.prog) (w:=w) (base:=base) ca Yl Y0 f n o m p g i b
 have Ml:=M8 (P:=l.prog) (w:=w) (base:=base) cc Yl Xm Y0 f n o m p g i b
 have Jh:=Jx (P:=l.prog) (w:=w) (base:=base) ce Yl Xm Y0 f n o m p g i b
 have Hj:BR K mg "Bid" Zz:=⟨a0.mks,b7,a0.kp,f.at_⟩
 have Fz:Sy l.prog w K mg base 4 "Only" Zw ["self","bundle","amount"] (Vz K Zw):=⟨df,_,Jg,Bq ca λ_ _ _ _ _ _ _ _ _=>rfl,⟨al.mks,c6,hp,al.kp⟩,n.at_⟩
 have Kg:Sy l.prog w K mg base 4 "SoMany" Zi ["self","kind","least","amount"] (W4 K Zi):=⟨dk,_,Ml,zZ cc λ_ _ _ _ _ _ _ _ _ _=>rfl,⟨A.mks,c8,hq,A.kp⟩,o.at_⟩
 have FJ:Sy l.prog w K mg base 4 "UpTo" Zv ["self","kind","most","each"] (VB K Zv):=⟨dl,_,Jh,zZ ce λ_ _ _ _ _ _ _ _ _ _=>rfl,⟨am.mks,da,hr,am.kp⟩,m.at_⟩
 have Jf:=K4 (P:=l.prog) (w:=w) (base:=base) cx ds XM Ve Xu f n o m p g i b Hj Fz Kg FJ
 have Sx:=λc=>Mi (P:=l.prog) (w:=w) (base:=base) c bg Vs TF f n o m p g i b
 have nZ:Sy l.prog w K mg base 12 "AnyOf" Zq ["self","bids"] (YC K Zq Zz Zw Zi Zv Zm Zq Zr Zn):=⟨bo,_,Sx Zq,VF bg λ_ _ _ _ _ _ _ _=>rfl,⟨U.mks,N,dO,U.kp⟩,g.at_⟩
 have mj:Sy l.prog w K mg base 12 "OneOf" Zr ["self","bids"] (YC K Zr Zz Zw Zi Zv Zm Zq Zr Zn):=⟨bo,_,Sx Zr,VF bg λ_ _ _ _ _ _ _ _=>rfl,⟨Y.mks,O,dO,Y.kp⟩,i.at_⟩
 have YW:=ou (P:=l.prog) (w:=w) (base:=base) eh gg Yz
 have Qn:=oH (P:=l.prog) (w:=w) (base:=base) ei gi Y9 P0
 have Hh:=uO (P:=l.prog) (w:=w) (base:=base) ej gl Y9 Vs Jq YW Qn
 have Hg:=uN (P:=l.prog) (w:=w) (base:=base) ek gp Y9 Yz Qn YW
 have Jc:=wQ (P:=l.prog) (w:=w) (base:=base) el gs
 have Ei:=oE (P:=l.prog) (w:=w) (base:=base) em gt Jc
 have QX:=yw (P:=l.prog) (w:=w) (base:=base) en gu Y9 Yz P0
 have PJ:=uP (P:=l.prog) (w:=w) (base:=base) eo gv Y9
 have RB:=ul (P:=l.prog) (w:=w) (base:=base) ep gx UJ PJ 4
 have Eh:=oA (P:=l.prog) (w:=w) (base:=base) eq gy Y9 YW QX Ei
 have SX:=wU (P:=l.prog) (w:=w) (base:=base) er gz Q5 Yz
 have QZ:=yx (P:=l.prog) (w:=w) (base:=base) es gB Yz
 have Jd:=wR (P:=l.prog) (w:=w) (base:=base) et gE Qu Yz Y9 QZ
 have Uh:=Bu (P:=l.prog) (w:=w) (base:=base) eu gI Jd SX
 have QV:=yu (P:=l.prog) (w:=w) (base:=base) ev gL SX Uh
 have V6:=wV (P:=l.prog) (w:=w) (base:=base) ew gN Yz Uh QV
 have Oo:=pD (P:=l.prog) (w:=w) (base:=base) ex gO V6 4
 have PK:=xZ (P:=l.prog) (w:=w) (base:=base) ey gS Qu 5
 have zR:=ji (P:=l.prog) (w:=w) (base:=base) ez gT Ye UJ Yz Oo RB PK
 have zT:=jj (P:=l.prog) (w:=w) (base:=base) eA gV Yz
 have Mj:=yt (P:=l.prog) (w:=w) (base:=base) eB gX Yz Y9
 have y:=X3.both (c:=cN) Xu (Ih (Zt:=Zt) (ZG:=ZG) (Zo:=Zo) (Zu:=Zu) cz du Q5 B a)
 have J:=Js (Zt:=Zt) (ZG:=ZG) (Zo:=Zo) (Zu:=Zu) F7 g7 Yq z
 have I:=X3.both Y0 J
 have D:=X3.both Xm (KZ (Zt:=Zt) (ZG:=ZG) (Zo:=Zo) (Zu:=Zu) F6 g6 Yq z)
 have bi:=Sy.both Fz (KQ (Zt:=Zt) (ZG:=ZG) (Zo:=Zo) (Zu:=Zu) (Zw:=Zw) ca Yl J) c6
 have aC:=Sy.both Kg (Mg (Zt:=Zt) (ZG:=ZG) (Zo:=Zo) (Zu:=Zu) (Zi:=Zi) cc Yl D I) c8
 have bl:=Sy.both FJ (KY (Zt:=Zt) (ZG:=ZG) (Zo:=Zo) (Zu:=Zu) (Zv:=Zv) ce Yl D I) da
 have aB:=X3.both Rq (Fj (Zt:=Zt) (ZG:=ZG) (Zo:=Zo) (Zu:=Zu) F2 g2 Yq Ui ag)
 have aa:Ej cN l.prog w K mg base 3 Zn "number_of" ["self","name"] (Io (X5 K Zn) (VN K Zn Zt ZG Zo Zu)):=Ut.both (j:=2) ⟨cn,_,(RC).mono (by decide),VF bp λ_ _ _ _ _ _ _ _=>rfl,⟨ch,ct,cr⟩,b.cls⟩ (by decide) (Mh (Zt:=Zt) (ZG:=ZG) (Zo:=Zo) (Zu:=Zu) bp Y5 f n o m p g i b L) ⟨ch,ct,cr⟩
 have ap:Ej cN l.prog w K mg base 3 Zn "kind_of" ["self","kind"] (Io (WD K Zn) (Uw K Zn Zt ZG Zo Zu)):=Ut.both (j:=2) ⟨co,_,(Qo).mono (by decide),VF bq λ_ _ _ _ _ _ _ _=>rfl,⟨ci,cv,cs⟩,b.cls⟩ (by decide) (KR (Zt:=Zt) (ZG:=ZG) (Zo:=Zo) (Zu:=Zu) bq Y5 f n o m p g i b L) ⟨ci,cv,cs⟩
 have a5:=X3.both Ve (HX (Zz:=Zz) (Zw:=Zw) (Zi:=Zi) (Zv:=Zv) (Zm:=Zm) (Zq:=Zq) (Zr:=Zr) (Zn:=Zn) cy dt aa ap aB)
 have a6:=X3.both Jf (MK (Zz:=Zz) (Zw:=Zw) (Zi:=Zi) (Zv:=Zv) (Zm:=Zm) (Zq:=Zq) (Zr:=Zr) (Zn:=Zn) cx ds XM a5 y bi aC bl Hj a)
 have ab:=X3.both TF (HW (Zt:=Zt) (ZG:=ZG) (Zo:=Zo) (Zu:=Zu) F8 g8 Ye Vs XS XX f n o m p g i b WT Wn Xo Wo WN XQ XR VL z)
 have a7:=Sy.both nZ (T7 bg Vs ab) N
 have a8:=Sy.both mj (T7 bg Vs ab) O
 have a4:=pC eb fS ec fT (yr (P:=l.prog) (w:=w) (base:=base) ed ga Tq) a6 a7 a8 a 4
 have Ot:=Bx cw dr Ye UJ Yz a4
 have H:=DQ cw dr Ye UJ Yz a4 a Ie a9 O5 ar Ed bm WX Wk Vh Vg Ww VG Wj XC Vu WW W9 Ul
 have Rz:=yz (P:=l.prog) (w:=w) (base:=base) eC ha Ye O6 H ZT
 have JN:=oF (P:=l.prog) (w:=w) (base:=base) eD hb Ye Vs Ot f n o m p g i b Mv WT Wn Xo Wo WN XQ XR VL
 have KN:=K3 (P:=l.prog) (w:=w) (base:=base) c0 Tq Yz Y5 f n o m p g i b
 have JP:Sy l.prog w K mg base 4 "Stock" Zn ["self","rows"] (Uy K Zn):=⟨dn,_,KN,VF c0 λ_ _ _ _ _ _ _ _=>rfl,⟨Z.mks,eI,hs,Z.kp⟩,b.at_⟩
 exact aJ (P:=l.prog) (w:=w) (base:=base) eH hc zf Yz Hh Hg Eh RB Mj zR JN YW zT Rz f n o m p g i b JP
theorem walk{l:jgv}{q:jcz}{b:List Str}{j:(Str->Option pL)->jcX->Prop}{e:jcS->jcX->Prop}{d:DefRec}{K:Params->oh}(hn:l.most=nC 63)(c:d.params.defaults=[])
 (o:∀(w:jcS)(h:jcX),e w h->(K w.params).In h)
 (F:∀(w:jcS)(mg:Str->Option pL)(g:pA)(h:jcX),(K w.params).In h->h.Ns jcM mg->mg d.name=nC (.ref g)->
  ∃i:jaF,(∀(s:S6)(u:pL),ji0 s i ⟨[u],[]⟩ [("_law_script",u)])/\∀base:jcX,(K w.params).In base->base.Ns jcM mg->We l.prog w (K w.params) mg base Ol 25 g i ["_law_script"] (yU (K w.params))):
 jif q b j e l.row.toRowW d [] (λf vs=>jjA f vs):=
 L2.dJ (n:=63) (k:=25) (x:="_law_script") (CX:=λ_=>Ol) (sp:=λw=>yU (K w.params)) hn (by decide) c ⟨rfl,by decide,by decide,rfl⟩ o F (λ_ _ a r p _ m=>⟨a,r,rfl,m,p,λ_=>rfl⟩) λ_ _ _ _ _ z=>z
theorem iD{q:jcz}{b:List Str}{u:(Str->Option pL)->jcX->Prop}{K:Params->oh}{as:List pA}{n t:Nat}{r:PySem.W.RowW}{d:DefRec}{f:List (Str×Expr)}{run:pL->List pL->Sem pL}(e:∀P,as=(K P).map (·.1))
 (h:jif q b u (PySem.W.InK K) r d f run):PySem.W.WalkX q b u (PySem.W.X.obsZ as) (PySem.W.X.valZ K n t) r d f run:=
 λw g i M J G y a o N v m x kV z A B C D E c j l L H F I hw p=>h w g i M J G (PySem.W.InK.keeps w _ _ (PySem.W.X.z_facts e y).2.1 L.keeps) a o N v m x kV z A B C D E c j l H F I hw p
end My
namespace PySem.W.Fast
def tw17307816550623871643:=Nat
def tw10745856279893345151:=Nat
def tw4493987706998058942:=Nat
def tw1366600474955252050:=Nat
def tw8097776022490310542:=Nat
def tw14797450696048924669:=Nat
def tw18222339820462556681:=Nat
def tw5369428877257817682:=Nat
def tw7860551362307921367:=Nat
def tw17566898676976942122:=Nat
def tw8970474533243002234:=Nat
def tw9694548163103661395:=Nat
def tw11987789472146494975:=Nat
def tw9978707193596365533:=Nat
def tw2379318486952269895:=Nat
def tw9292467316563719706:=Nat
def tw16514195037380188748:=Nat
def tw17295444975727660346:=Nat
def tw6347993429169459666:=Nat
def tw5102079186716861270:=Nat
def tw9326971840158514525:=Nat
def tw12742302424473913345:=Nat
def tw8677065424612012456:=Nat
def tw18261640641409153:=Nat
def tw15860970669949173864:=Nat
def tw5973450466002648216:=Nat
def tw10206091491727263451:=Nat
def tw3357088544484135766:=Nat
def tw15035574900548046699:=Nat
def tw11065300803085339519:=Nat
def tw9729665374970247366:=Nat
def tw16293229663506971414:=Nat
def tw15204041197266191258:=Nat
def tw8204800760508478331:=Nat
def tw6465493475855358576:=Nat
def tw2954494794498794863:=Nat
def tw13490772835134835570:=Nat
def tw43450394571491708:=Nat
def tw7694085170878176916:=Nat
def tw8978216267345554354:=Nat
def tw8125063497424392628:=Nat
def tw13086619268839862586:=Nat
def tw7514288348381585457:=Nat
def tw18008524282401894990:=Nat
def tw15260241376557318542:=Nat
def tw6109348352615313549:=Nat
def tw12243605916091518987:=Nat
def tw12055481295901200681:=Nat
def tw9255442669719356089:=Nat
def tw11199583249427763908:=Nat
def tw3996281801059093331:=Nat
def tw4485452446457707013:=Nat
def tw3224172821930364958:=Nat
def tw8358450183131460606:=Nat
def tw4762030903863107644:=Nat
def tw1222331577493402887:=Nat
def tw16297588379839267181:=Nat
def tw16512371909765164359:=Nat
def tw14172362805425623688:=Nat
def tw15894910742593379726:=Nat
def tw15031446400541638974:=Nat
def tw16837123922535206971:=Nat
def tw17765843020528812593:=Nat
def tw15942008137585757215:=Nat
def tw15559694118760594997:=Nat
def tw4846007571133065176:=Nat
def tw18442015356262092603:=Nat
def tw1457011016926599672:=Nat
def tw802858115785402553:=Nat
def tw11864229156368338442:=Nat
def tw12087673807840924353:=Nat
def tw18413065893127921836:=Nat
def tw6262212269671970691:=Nat
def tw17183595235616122692:=Nat
def tw3185322732779785435:=Nat
def tw1443084289417305385:=Nat
def tw17568603690919891961:=Nat
def tw14019413213399119904:=Nat
def tw8340227397091265752:=Nat
def tw9766903125412218091:=Nat
def tw5096013230369094060:=Nat
def tw12693239537856353478:=Nat
def tw6855652656105129162:=Nat
def tw7807780463731299951:=Nat
def tw8379317806642792012:=Nat
def tw13412086731953318920:=Nat
def tw16770652988992426813:=Nat
def tw3519990623803919980:=Nat
def tw141377138969215189:=Nat
def tw13452352417950682132:=Nat
def tw16459265492724070545:=Nat
def tw5370376696034061854:=Nat
def tw520590257968010192:=Nat
def tw9183981147503492754:=Nat
def tw8999620870012959844:=Nat
def tw8226342863881766300:=Nat
def tw15529370635738603421:=Nat
def tw17455976427047382384:=Nat
def tw2094354778017164471:=Nat
def tw7871195559919052614:=Nat
def tw6142544104124301052:=Nat
def tw8889351549677796553:=Nat
def tw3661974771110035574:=Nat
def tw5134428708829864145:=Nat
def tw1925790212823855716:=Nat
def tw3311741830191415004:=Nat
def tw13911672265512852699:=Nat
def tw5509473372961895028:=Nat
def tw16564509233025618690:=Nat
def tw4437134533235393612:=Nat
def tw71707413322634215:=Nat
def tw10485935451572336312:=Nat
def tw5152751395899739884:=Nat
def tw5243710411752538966:=Nat
def tw1686289835287830241:=Nat
def tw6103604059004020855:=Nat
def tw7025479451602602163:=Nat
def tw1427003068085598018:=Nat
def tw11565769911532271041:=Nat
def tw4023121483041087893:=Nat
def tw11164533083961485285:=Nat
def tw13384252608424102241:=Nat
def tw3854839418924777924:=Nat
def tw2671648899905607549:=Nat
def tw1588802074502867453:=Nat
def tw9967379452658032681:=Nat
def tw12146251092703347597:=Nat
def tw10187752876549508106:=Nat
def tw1108604516780226525:=Nat
def tw17094362520333118230:=Nat
def tw13342357820862917877:=Nat
def tw17219751754722624190:=Nat
def tw3514078046815294996:=Nat
def tw10308732402241435226:=Nat
def tw9367994174325937175:=Nat
def tw5020522700948910052:=Nat
def tw8564715325706575668:=Nat
def tw212435126406764920:=Nat
def tw9846261252543806399:=Nat
def tw4245157456644202316:=Nat
def tw5945391583229760663:=Nat
def tw18015521178175691631:=Nat
def tw16861290439926717781:=Nat
def tw2526966330869421910:=Nat
def tw14139870490168542023:=Nat
def tw18364742978428627239:=Nat
def tw13006111732845231724:=Nat
def tw13774714203543186649:=Nat
def tw3202994639061396633:=Nat
def tw10822141189497461699:=Nat
def tw3925226906413157484:=Nat
def tw15077099998182030615:=Nat
def tw8111652994864530032:=Nat
def tw9301177576432674062:=Nat
def tw2547213133066406649:=Nat
def tw17470580399201939169:=Nat
def tw12579443848484484098:=Nat
def tw6127794018518144536:=Nat
def tw600934547781016038:=Nat
def tw14537426161515614795:=Nat
def tw17009509599794043441:=Nat
def tw8804084644560048938:=Nat
def tw12864351849708937045:=Nat
def tw158159250289460688:=Nat
def tw13155167478077105139:=Nat
def tw4932259512779487842:=Nat
def tw15374477338882757601:=Nat
def tw16430611491650972294:=Nat
def tw8500250075673027596:=Nat
def tw12400981507656925106:=Nat
def tw625954045759162827:=Nat
def tw12891041458290463708:=Nat
def tw9176686453091766685:=Nat
def tw1063688060575016969:=Nat
def tw6634418815274413970:=Nat
def tw8518113466178824132:=Nat
def tw4116974010842126903:=Nat
def tw5934928491187211382:=Nat
def tw12826407728107854009:=Nat
def tw14970850332010369933:=Nat
def tw7122244432366677221:=Nat
def tw16873789915695419258:=Nat
def tw6070736078049344225:=Nat
def tw5464796194125297027:=Nat
def tw14702557692521251143:=Nat
def tw12258088756985786800:=Nat
def tw4584850762443690788:=Nat
def tw15376945934616102360:=Nat
def tw17588149859879555386:=Nat
def tw17403274045770597058:=Nat
def tw17922013079474741516:=Nat
def tw8580057496664830019:=Nat
def tw2239499209600780169:=Nat
def tw9979401188797987119:=Nat
def tw4243972145747897563:=Nat
def tw8000343699755900078:=Nat
def tw14874589892274161129:=Nat
def tw7769062566542857265:=Nat
def tw4797860353294381248:=Nat
def tw9454484617390651617:=Nat
def tw12336731191982362173:=Nat
def tw12307946579027914102:=Nat
def tw17678556870344985917:=Nat
def tw13493382924355061245:=Nat
def tw6012038778514005575:=Nat
def tw9491501145509906549:=Nat
def tw15612026212273429033:=Nat
def tw10728655193129939400:=Nat
def tw13060774821397886681:=Nat
def tw16105606519050825399:=Nat
def tw10019890450794353429:=Nat
def tw15285869043867736383:=Nat
def tw3152681891726951519:=Nat
def tw2920006538850401486:=Nat
def tw4596784676641080971:=Nat
def tw4170082664844206868:=Nat
def tw17169652397189027838:=Nat
def tw5173200126866095726:=Nat
def tw5357526502446732169:=Nat
def tw11314306073042477342:=Nat
def tw2322386847562751146:=Nat
def tw13729022361833867052:=Nat
def tw1673719201932481456:=Nat
def tw15566227926951225585:=Nat
def tw12982308475720762824:=Nat
def tw2911613120587416717:=Nat
def tw6259899390054901641:=Nat
def tw12628653190199289853:=Nat
def tw4092404245255026472:=Nat
def tw2437111443367284567:=Nat
def tw12109518701329542405:=Nat
def tw14353667106395280862:=Nat
def tw1056240925078959481:=Nat
def tw12822862137851799721:=Nat
def tw8092271924155600961:=Nat
def tw1190998540906605042:=Nat
def tw4335969052067163821:=Nat
def tw13459908318587388662:=Nat
def tw461679287207528106:=Nat
def tw6909560899115480595:=Nat
def tw11629701707404185548:=Nat
def tw14129838179426004481:=Nat
def tw6133321089139647209:=Nat
def tw1510286683824559096:=Nat
def tw12902180602453922189:=Nat
def tw7024382356414809994:=Nat
def tw18344184697868347459:=Nat
def tw6202510820092539559:=Nat
def tw3474763083396009693:=Nat
def tw5220850534233466282:=Nat
def tw14161548255231271409:=Nat
def tw4681336284222050456:=Nat
def tw5685271832077456602:=Nat
def tw7371821150430843137:=Nat
def tw3310465897430403958:=Nat
def tw2383958736609332341:=Nat
def tw12255907913272690289:=Nat
def tw2610032481014698887:=Nat
def tw14007493328290126296:=Nat
def tw3386244843793494163:=Nat
def tw14936981593705235329:=Nat
def tw15460791923751169136:=Nat
def tw1227438206087542416:=Nat
def tw2988600412810896041:=Nat
def tw7139951255586393114:=Nat
def tw5437557203428579835:=Nat
def tw13467716135418014612:=Nat
def tw2433252656855946470:=Nat
def tw9964341315360055062:=Nat
def tw8071386205141215060:=Nat
def tw2660872517946054799:=Nat
def tw10051126304050868519:=Nat
def tw7330934839849420848:=Nat
def tw747242839199123983:=Nat
def tw2181170262297449695:=Nat
def tw11725327380355798163:=Nat
def tw620803762706088261:=Nat
def tw14275255162950342462:=Nat
def tw13138000935103621010:=Nat
def tw14185012259267697724:=Nat
def tw759956316977602802:=Nat
def tw16399229541210065538:=Nat
def tw15623306340979491179:=Nat
def tw2320888983593592526:=Nat
def tw5449019125758696166:=Nat
def tw3549511574206473612:=Nat
def tw13705772940523544757:=Nat
def tw7004526644667045317:=Nat
def tw14272357641936460768:=Nat
def tw5596017209288669417:=Nat
def tw4122075527481857046:=Nat
def tw14518423858299014590:=Nat
def tw9582938035156192114:=Nat
def tw8302477900681371380:=Nat
def tw3234864298649596409:=Nat
def tw1980465926407164886:=Nat
def tw14519977816409948210:=Nat
def tw10246183151086952989:=Nat
def tw11584553838998524155:=Nat
def tw11938755336929135064:=Nat
def tw13940930818094935205:=Nat
def tw9939644484724723014:=Nat
def tw10314301420794135723:=Nat
def tw14500560351283692163:=Nat
def tw15671497040472663745:=Nat
def tw1887382165876260800:=Nat
def tw3910972529559919219:=Nat
def tw4662851164950957012:=Nat
def tw5949607771531091066:=Nat
def tw11565466403091130814:=Nat
def tw2796034637568714249:=Nat
def tw10664311956507331470:=Nat
def tw29673652835586778:=Nat
def tw9272454765308732357:=Nat
def tw6968278899020051180:=Nat
def tw3358808959898944515:=Nat
def tw7487661414515825488:=Nat
def tw13338170974111344454:=Nat
def tw11136332844478577354:=Nat
def tw6695900096684274970:=Nat
def tw12622424812991036429:=Nat
def tw18367997570445087822:=Nat
def tw6502402730488274366:=Nat
def tw16833078425317639224:=Nat
def tw14062278077823480806:=Nat
def tw15310027567738165364:=Nat
def tw8036927013558942965:=Nat
def tw2358165301304012263:=Nat
def tw17433391070230246203:=Nat
def tw731727612217687006:=Nat
def tw4928099092114845128:=Nat
def tw16141211128004383346:=Nat
def tw531629736709334661:=Nat
def tw10629900967047831828:=Nat
def tw7484697513932335620:=Nat
def tw9114676475159207524:=Nat
def tw16295189035586254406:=Nat
def tw9236931839229969813:=Nat
def tw2855696007539961975:=Nat
def tw11970915314890542980:=Nat
def tw4947690625071706187:=Nat
def tw4088539811816050737:=Nat
def tw16086131698598696959:=Nat
def tw3173890054537165842:=Nat
def tw1334413082601850238:=Nat
def tw15895838560728899457:=Nat
def tw7971848510280319499:=Nat
def tw4161109733281234126:=Nat
def tw15997026144686217142:=Nat
def tw3695494496376144319:=Nat
def tw187852230882569533:=Nat
def tw17352816717260478838:=Nat
def tw4944259011988202862:=Nat
def tw6745286812839781833:=Nat
def tw10939595838893195660:=Nat
def tw15047003811311606863:=Nat
def tw5255805238849487616:=Nat
def tw17250469260724563840:=Nat
def tw11355643254540455173:=Nat
def tw5120286415754620616:=Nat
def tw3149281211058474193:=Nat
def tw7459905667424602219:=Nat
def tw7964908655879630071:=Nat
def tw9352598076775118675:=Nat
def tw14164463541213912514:=Nat
def tw14838484367639532895:=Nat
def tw8109028214136717907:=Nat
def tw17485525634964597394:=Nat
def tw12251023485842609197:=Nat
def tw13038249136115671150:=Nat
def tw5691381352612942323:=Nat
def tw2777498087810307840:=Nat
def tw12881252540438441140:=Nat
def tw3313276857489462664:=Nat
def tw10352352885000670994:=Nat
def tw11013688179976774867:=Nat
def tw10122809313028621307:=Nat
def tw11431864990040660436:=Nat
def tw3001988244962201809:=Nat
def tw2469846396974871532:=Nat
def tw4145327213187105904:=Nat
def tw16702269909136575563:=Nat
def tw11095862358113764279:=Nat
def tw13103968668216293203:=Nat
def tw5916550241560968713:=Nat
def tw570621111036461160:=Nat
def tw9503640439407130254:=Nat
def tw6184789716058201666:=Nat
def tw8576600433839917235:=Nat
def tw14523393176208195164:=Nat
def tw999436236657635812:=Nat
def tw11177406601073005690:=Nat
def tw11390890014133726605:=Nat
def tw63774486454280202:=Nat
def tw10126938538813298715:=Nat
def tw15414822325614300758:=Nat
def tw1063273130482940894:=Nat
def tw11918607539739667902:=Nat
def tw1752913571436721653:=Nat
def tw9699290582132511888:=Nat
def tw13501704510042187452:=Nat
def tw10939884737463870210:=Nat
def tw12303564328759807434:=Nat
def tw17113035754339600805:=Nat
def tw12635078334896693274:=Nat
def tw3928812281934589460:=Nat
def tw14222950715940461432:=Nat
def tw14751185294863390969:=Nat
def tw18421788106301298795:=Nat
def tw18272563585843622617:=Nat
def tw15889754249419542834:=Nat
def tw14101588135729011858:=Nat
def tw5479119052205267080:=Nat
def tw17605904636886272476:=Nat
def tw14577334847515502556:=Nat
def tw7147226818304595087:=Nat
def tw15359713435736045201:=Nat
def tw12703801346312800342:=Nat
def tw9972017686185137384:=Nat
def tw15436489285156729148:=Nat
def tw12941542014128468632:=Nat
def tw5074068290129712658:=Nat
def tw4400478154540726171:=Nat
def tw5770235548308685084:=Nat
def tw1714077817184504360:=Nat
def tw8631717635558301493:=Nat
def tw3484084215988377094:=Nat
def tw3411698473214194408:=Nat
def tw13701446421196045668:=Nat
def tw12997436250554161391:=Nat
def tw17777773214627863352:=Nat
def tw14439159654455518907:=Nat
def tw16261378888494267149:=Nat
def tw17956198301421733642:=Nat
def tw6579621225213774330:=Nat
def tw1529636871528277029:=Nat
def tw13709470978756421177:=Nat
def tw6626347041025334853:=Nat
def tw9674521255900766194:=Nat
def tw3362885420006574122:=Nat
def tw7835191949473889341:=Nat
def tw6579723017994591224:=Nat
def tw6141739628249556465:=Nat
def tw4222425946539809827:=Nat
def tw9077567630924877357:=Nat
def tw18089157965682570826:=Nat
def tw278994996930984804:=Nat
def tw14640337981128922755:=Nat
def tw6106298913442668114:=Nat
def tw11064032753118886256:=Nat
def tw7406447836269115243:=Nat
def tw7716072292090968668:=Nat
def tw2078216898832082047:=Nat
def tw12966182237896966785:=Nat
def tw11131273919024807609:=Nat
def tw15901176987430285191:=Nat
def tw10465928743350415017:=Nat
def tw3915388994603437943:=Nat
def tw2077293069446001662:=Nat
def tw5313660872464637349:=Nat
def tw10953257276219509088:=Nat
def tw17257378460652853:=Nat
def tw10087589477986698186:=Nat
def tw8049617620406247244:=Nat
def tw3852114146966153174:=Nat
def tw1043231257228927261:=Nat
def tw3181615318235246998:=Nat
def tw14026932634874071854:=Nat
def tw15135402576147853213:=Nat
def tw13747589179161456856:=Nat
def tw18405573455938456144:=Nat
def tw11312198946749947502:=Nat
def tw13424143513454415925:=Nat
def tw12616274220489905432:=Nat
def tw16198456373259565313:=Nat
def tw1314700406322895873:=Nat
def tw16338701901824939835:=Nat
def tw14421432493137907622:=Nat
def tw3518350310243670664:=Nat
def tw17479044716202006007:=Nat
def tw8329251842663832678:=Nat
def tw10210042769981499326:=Nat
def tw6735492435785534252:=Nat
def tw18209264492996597813:=Nat
def tw13880225486929313578:=Nat
def tw15793620845261807582:=Nat
def tw16018045795324209207:=Nat
def tw14516043215587870911:=Nat
def tw6140222467552476529:=Nat
def tw17589853280687799358:=Nat
def tw14588438905472075072:=Nat
def tw5475165094528349363:=Nat
def tw16407940005799482549:=Nat
def tw5652175505654028548:=Nat
def tw4589433417000944381:=Nat
def tw15255587542267965991:=Nat
def tw339920448954015837:=Nat
def tw11733561598590833936:=Nat
def tw14908994980277261084:=Nat
def tw9447282099051004049:=Nat
def tw3357840003594596649:=Nat
def tw17228832212077856771:=Nat
def tw18414844245506687489:=Nat
def tw9877885593806295360:=Nat
def tw6439963400480675395:=Nat
def tw2996140170521003747:=Nat
def tw8003119414762344601:=Nat
def tw11301989920240249030:=Nat
def tw2862754468025537269:=Nat
def tw11852398390779393359:=Nat
def tw3225456494662176189:=Nat
def tw10626169766969181098:=Nat
def tw16753708815614994225:=Nat
def tw3823164012912797217:=Nat
def tw12516248957569182278:=Nat
def tw6904254279777236848:=Nat
def tw10618180339885973681:=Nat
def tw11926221585862794783:=Nat
def tw8658327698836972960:=Nat
def tw7896521003296016174:=Nat
def tw4582477780038211286:=Nat
def tw1809165078569908973:=Nat
def tw11435281256375412254:=Nat
def tw14098835490676651460:=Nat
def tw17045010631620366626:=Nat
def tw7444632634484899170:=Nat
def tw11283696387208590184:=Nat
def tw129917169148409912:=Nat
def tw16778244530764675908:=Nat
def tw16732999722377495475:=Nat
def tw12351100567191961302:=Nat
def tw10802479776332801569:=Nat
def tw4229329003648369073:=Nat
def tw5012821213520214911:=Nat
def tw10538209430951754435:=Nat
def tw17813227454827865473:=Nat
def tw10280756018134352366:=Nat
def tw18023687200781188075:=Nat
def tw12025206007398081047:=Nat
def tw13489099240649625251:=Nat
def tw16092388513349631110:=Nat
def tw1301407990002619897:=Nat
def tw578107318603077367:=Nat
def tw8666581291363300757:=Nat
def tw12876473931108445383:=Nat
def tw12859623074386614641:=Nat
def tw8958207134315334447:=Nat
def tw2527740631504351380:=Nat
def tw1328172959752403808:=Nat
def tw16286107241700692640:=Nat
def tw4209139884413687419:=Nat
def tw834262437302509307:=Nat
def tw16544652626556437715:=Nat
def tw10401428185452138819:=Nat
def tw723326545693390544:=Nat
def tw1254677028903352496:=Nat
def tw3841893755591135333:=Nat
def tw2395271240677260465:=Nat
def tw8323111304542968241:=Nat
def tw17393615333547255536:=Nat
def tw17418782408004339306:=Nat
def tw996911930397852044:=Nat
def tw551219765208161005:=Nat
def tw14544054899392988789:=Nat
def tw1973909179586785627:=Nat
def tw16592176200892191990:=Nat
def tw15749551424299351939:=Nat
def tw18218097935765567172:=Nat
def tw1297280577152944615:=Nat
def tw9681801395038255752:=Nat
def tw15347528757039905863:=Nat
def tw12113385747966326008:=Nat
def tw16303103864056399579:=Nat
def tw14399927767998591846:=Nat
def tw16295417341189035933:=Nat
def tw353544871723369700:=Nat
def tw12938023578344254764:=Nat
def tw7438711490420962635:=Nat
def tw15281006572802598626:=Nat
def tw9461559618372987959:=Nat
def tw11610062571195046284:=Nat
def tw13853831679445285058:=Nat
def tw12722840588739158281:=Nat
def tw12584055806090867119:=Nat
def tw15169708849862209297:=Nat
def tw5155005923353360328:=Nat
def tw17737601691013834848:=Nat
def tw3322712264218228544:=Nat
def tw2535195952729700038:=Nat
def tw10589019755675969085:=Nat
def tw14071752031029060694:=Nat
def tw14977320560599903374:=Nat
def tw15762321845567038094:=Nat
def tw11759923119799648200:=Nat
def tw18248004130860326407:=Nat
def tw10203508940592523390:=Nat
def tw13090917081110647846:=Nat
def tw6425837133391400010:=Nat
def tw16643549296099061232:=Nat
def tw9779651616567321367:=Nat
def tw3519167320430278926:=Nat
def tw6999467421553038700:=Nat
def tw18230231775671590921:=Nat
def tw16291487751360934347:=Nat
def tw2082432011566845562:=Nat
def tw12286621225094718781:=Nat
def tw10750666562049066752:=Nat
def tw4589873532100330957:=Nat
def tw6549276099123153255:=Nat
def tw8209835728944917134:=Nat
def tw4968786137872271946:=Nat
def tw1145946469447997845:=Nat
def tw16518537477234964600:=Nat
def tw17109775627505084387:=Nat
def tw1099000632232954340:=Nat
def tw16306219178937775956:=Nat
def tw6697685896997424669:=Nat
def tw4886668033497706346:=Nat
def tw15490640955706237650:=Nat
def tw3245573997910033823:=Nat
def tw12115706682386860760:=Nat
def tw3886167952565360460:=Nat
def tw14848979020397336696:=Nat
def tw5365496413561308072:=Nat
def tw17808348427610082958:=Nat
def tw14798420576472038872:=Nat
def tw14084942506985984971:=Nat
def tw10604265771421535974:=Nat
def tw11536472104603455383:=Nat
def tw8741668931933393806:=Nat
def tw9289921155105751524:=Nat
def tw6613930199474488606:=Nat
def tw6949543012193365976:=Nat
def tw9740726486495319278:=Nat
def tw18424256872187167065:=Nat
def tw15068367812031997344:=Nat
def tw17221471393000884390:=Nat
def tw17843414943091321080:=Nat
def tw7569472323827452452:=Nat
def tw17962268453498428583:=Nat
def tw8281454758372151501:=Nat
def tw11517560901777437611:=Nat
def tw14210486395028666480:=Nat
def tw14468142222378868107:=Nat
def tw17053801373893699424:=Nat
def tw7500342321142811170:=Nat
def tw1900450688841067014:=Nat
def tw5765249943852213819:=Nat
def tw8488918095538851492:=Nat
def tw12750266236313918018:=Nat
def tw17953124025568354278:=Nat
def tw2577380076521990928:=Nat
def tw17298524500737217503:=Nat
def tw9140951756522786262:=Nat
def tw2274074927117661953:=Nat
def tw9294476996487872214:=Nat
def tw11613611540204084889:=Nat
def tw3610435772681501339:=Nat
def tw14237538789546599451:=Nat
def tw2912228691435339020:=Nat
def tw12734180547437865612:=Nat
def tw4647934781414445449:=Nat
def tw17473515999524481542:=Nat
def tw9772036947608385987:=Nat
def tw4279384352605745493:=Nat
def tw8988012161996192691:=Nat
def tw13707300636571697575:=Nat
def tw10741158265586940464:=Nat
def tw12420293920183947401:=Nat
def tw9814517138453041733:=Nat
def tw14593320815371251950:=Nat
def tw14427400350673053682:=Nat
def tw8546025069536769084:=Nat
def tw12425667196022816943:=Nat
def tw4316100045502471097:=Nat
def tw18048999385665100815:=Nat
def tw743021853556246139:=Nat
def tw11929249092314245009:=Nat
def tw4823390822932854443:=Nat
def tw8268607865576977726:=Nat
def tw13246113643610021527:=Nat
def tw4487214934628033207:=Nat
def tw598966202475526721:=Nat
def tw5831432010057126136:=Nat
def tw16684885846191871226:=Nat
def tw1972143568025348242:=Nat
def tw13407639467690450730:=Nat
def tw3044853957406889648:=Nat
def tw6398873364082217736:=Nat
def tw812485010517112347:=Nat
def tw9931083250599818721:=Nat
def tw9994243913662691561:=Nat
def tw8209601941769742029:=Nat
def tw9334351240013752067:=Nat
def tw4630636297049234364:=Nat
def tw2300319725263762111:=Nat
def tw6181397332574465214:=Nat
def tw14184445278530186276:=Nat
def tw9109215896152818985:=Nat
def tw11608226771643173770:=Nat
def tw3038818853497411686:=Nat
def tw4570125098959909170:=Nat
def tw9044328030265092457:=Nat
def tw15307929445523494348:=Nat
def tw1045188032743765493:=Nat
def tw12977229730139483026:=Nat
def tw4897188743267790235:=Nat
def tw4415291808218074674:=Nat
def tw1767032157646915200:=Nat
def tw2580559549336433325:=Nat
def tw16071726965800411769:=Nat
def tw10688400155011995178:=Nat
def tw12055613744549105037:=Nat
def tw17627063494339620758:=Nat
def tw1583678594212652866:=Nat
def tw6875489539585155370:=Nat
def tw17985180554842559502:=Nat
def tw3436785685833635613:=Nat
def tw15541483027615277442:=Nat
def tw13237759830356090913:=Nat
def tw2145742669564913330:=Nat
def tw7881686532383471487:=Nat
def tw8841054278333725629:=Nat
def tw16454485794210089952:=Nat
def tw16609361069529102088:=Nat
def tw1768940152300050684:=Nat
def tw9655358184585363189:=Nat
def tw2719474422870201166:=Nat
def tw10651687937609952916:=Nat
def tw9417322451213991837:=Nat
def tw5597604771940823438:=Nat
def tw9279629542572681206:=Nat
def tw10410033381390044932:=Nat
def tw4588570087758240569:=Nat
def tw13328748257621004125:=Nat
def tw3272819758125910020:=Nat
def tw15937620526191981146:=Nat
def tw3387901734479767167:=Nat
def tw2415415762418146103:=Nat
def tw10392915728644752251:=Nat
def tw14024722086662047969:=Nat
def tw4340506423487984157:=Nat
def tw14985167102227801404:=Nat
def tw4354829159461231616:=Nat
def tw1992311478498845029:=Nat
def tw14187097515639794736:=Nat
def tw11856640221990241907:=Nat
def tw12043569889766127914:=Nat
def tw14702043077383253475:=Nat
def tw9944474491954197598:=Nat
def tw8497933287945034322:=Nat
def tw10623667589096942729:=Nat
def tw6600660075518761968:=Nat
def tw8616209801063871535:=Nat
def tw14718505680659506240:=Nat
def tw9510580013140669342:=Nat
def tw11139533213890017630:=Nat
def tw1396348025368198337:=Nat
def tw13327877091726203197:=Nat
end PySem.W.Fast
open PySem PySem.W PyProof.Rows
set_option maxRecDepth 100000 in
set_option maxHeartbeats 0 in
theorem PySem.Challenge.cw_gavelhall_k35_odd_texts_holds : PySem.Challenge.rw_gavelhall_k35_odd_texts.Holds := by
 w_on;o_law;z_head;(case hw=>w_witness2)
 k_fill
 refine My.iD (λ_=>by kernel_rfl) (My.walk (l:=PySem.Challenge.rw_gavelhall_k35_odd_texts) rfl rfl (λw h Y=>Y) ?F)
 case F=>
  intro w mg fa h KX G hmg
  refine' My.bC KX G hmg (.of0 ?_ ?_ ?_ ?_ ?_ ?_ ?_ ?_ ?_ ?_ ?_) (.of2 ?_ ?_ ?_ ?_ ?_ ?_ ?_ ?_ ?_ ?_ ?_ ?_ ?_) (.jci ?_ ?_ ?_ ?_ ?_ ?_ ?_ ?_ ?_ ?_ ?_ ?_ ?_ ?_) (.jci ?_ ?_ ?_ ?_ ?_ ?_ ?_ ?_ ?_ ?_ ?_ ?_ ?_ ?_) (.jb4 ?_ ?_ ?_ ?_ ?_ ?_ ?_ ?_ ?_ ?_ ?_ ?_) (.jb4 ?_ ?_ ?_ ?_ ?_ ?_ ?_ ?_ ?_ ?_ ?_ ?_) (.jb4 ?_ ?_ ?_ ?_ ?_ ?_ ?_ ?_ ?_ ?_ ?_ ?_) (.of2 ?_ ?_ ?_ ?_ ?_ ?_ ?_ ?_ ?_ ?_ ?_ ?_ ?_) ?_ ?_ ?_ ?_ ?_ ?_ ?_ ?_ ?_ (.of ?_ ?_ ?_ ?_ ?_) (.of ?_ ?_ ?_ ?_ ?_) (.of ?_ ?_ ?_ ?_ ?_) (.of ?_ ?_ ?_ ?_ ?_) (.of ?_ ?_ ?_ ?_ ?_) (.of ?_ ?_ ?_ ?_ ?_) (.of ?_ ?_ ?_ ?_ ?_) (.of ?_ ?_ ?_ ?_ ?_) (.of ?_ ?_ ?_ ?_ ?_) (.of ?_ ?_ ?_ ?_ ?_) (.of ?_ ?_ ?_ ?_ ?_) (.of ?_ ?_ ?_ ?_ ?_) (.of ?_ ?_ ?_ ?_ ?_) (.of ?_ ?_ ?_ ?_ ?_) (.of ?_ ?_ ?_ ?_ ?_) (.of ?_ ?_ ?_ ?_ ?_) (.of ?_ ?_ ?_ ?_ ?_) (.of ?_ ?_ ?_ ?_ ?_) (.of ?_ ?_ ?_ ?_ ?_) (.of ?_ ?_ ?_ ?_ ?_) (.of ?_ ?_ ?_ ?_ ?_) (.of ?_ ?_ ?_ ?_ ?_) (.of ?_ ?_ ?_ ?_ ?_) (.of ?_ ?_ ?_ ?_ ?_) (.of ?_ ?_ ?_ ?_ ?_) (.of ?_ ?_ ?_ ?_ ?_) (.of ?_ ?_ ?_ ?_ ?_) (.of ?_ ?_ ?_ ?_ ?_) (.of ?_ ?_ ?_ ?_ ?_) (.of ?_ ?_ ?_ ?_ ?_) (.of ?_ ?_ ?_ ?_ ?_) (.of ?_ ?_ ?_ ?_ ?_) (.of ?_ ?_ ?_ ?_ ?_) (.of ?_ ?_ ?_ ?_ ?_) (.of ?_ ?_ ?_ ?_ ?_) (.of ?_ ?_ ?_ ?_ ?_) (.of ?_ ?_ ?_ ?_ ?_) (.of ?_ ?_ ?_ ?_ ?_) (.of ?_ ?_ ?_ ?_ ?_) (.of ?_ ?_ ?_ ?_ ?_) (.of ?_ ?_ ?_ ?_ ?_) (.of ?_ ?_ ?_ ?_ ?_) (.of ?_ ?_ ?_ ?_ ?_) (.of ?_ ?_ ?_ ?_ ?_) (.of ?_ ?_ ?_ ?_ ?_) (.of ?_ ?_ ?_ ?_ ?_) ?_ ?_ ?_ ?_ (.of ?_ ?_ ?_ ?_ ?_) ?_ ?_ ?_ (.of ?_ ?_ ?_ ?_ ?_) ?_ ?_ ?_ (.of ?_ ?_ ?_ ?_ ?_) ?_ (.of ?_ ?_ ?_ ?_ ?_) (.of ?_ ?_ ?_ ?_ ?_) (.of ?_ ?_ ?_ ?_ ?_) (.of ?_ ?_ ?_ ?_ ?_) (.of ?_ ?_ ?_ ?_ ?_) (.of ?_ ?_ ?_ ?_ ?_) (.of ?_ ?_ ?_ ?_ ?_) ?_ ?_ (.of ?_ ?_ ?_ ?_ ?_) ?_ ?_ (.of ?_ ?_ ?_ ?_ ?_) ?_ ?_ (.of ?_ ?_ ?_ ?_ ?_) (.of ?_ ?_ ?_ ?_ ?_) (.of ?_ ?_ ?_ ?_ ?_) (.of ?_ ?_ ?_ ?_ ?_) (.of ?_ ?_ ?_ ?_ ?_) (.of ?_ ?_ ?_ ?_ ?_) (.of ?_ ?_ ?_ ?_ ?_) (.of ?_ ?_ ?_ ?_ ?_) ?_ ?_ ?_ ?_ ?_ ?_ ?_ ?_ ?_ ?_ ?_ ?_ ?_ ?_ ?_ ?Eu ?FW ?Oz ?JZ ?Jk ?Hm ?zY ?Hl ?Hn ?Ho ?Mq ?Bm ?xq ?JM ?HD ?Ko ?Dw ?Dj ?Mx ?Mr ?HB ?Hv ?WX ?Wk ?Vh ?Vg ?Ww ?VG ?Wj ?XC ?Vu ?WW ?W9 ?Ul ?il ?ik ?jaA ?jaB ?ir ?jP ?uY ?yJ ?Jz ?Ci ?JB ?Gk ?yK ?Gj ?Gm ?Gn ?lg ?m8 ?bN ?bM ?bL ?mZ ?m7 ?mY
  (case Eu=>k_is)
  (case FW=>k_is)
  (case Oz=>k_is)
  (case JZ=>k_is)
  (case Jk=>k_is)
  (case Hm=>k_is)
  (case zY=>k_is)
  (case Hl=>k_is)
  (case Hn=>k_is)
  (case Ho=>k_is)
  (case Mq=>k_is)
  (case Bm=>k_exc)
  (case xq=>k_exc)
  (case JM=>k_exc)
  (case HD=>k_is)
  (case Ko=>k_is)
  (case Dw=>k_is)
  (case Dj=>k_is)
  (case Mx=>k_is)
  (case Mr=>k_is)
  (case HB=>k_is)
  (case Hv=>k_is)
  (case WX=>k_is)
  (case Wk=>k_is)
  (case Vh=>k_is)
  (case Vg=>k_is)
  (case Ww=>k_is)
  (case VG=>k_is)
  (case Wj=>k_is)
  (case XC=>k_is)
  (case Vu=>k_is)
  (case WW=>k_is)
  (case W9=>k_is)
  (case Ul=>k_is)
  (case il=>k_is)
  (case ik=>k_is)
  (case jaA=>k_is)
  (case jaB=>k_is)
  (case ir=>k_is)
  (case jP=>kit_is)
  (case uY=>kit_is)
  (case yJ=>kit_is)
  (case Jz=>kit_is)
  (case Ci=>kit_is)
  (case JB=>kit_is)
  (case Gk=>kit_is)
  (case yK=>kit_is)
  (case Gj=>kit_is)
  (case Gm=>kit_is)
  (case Gn=>kit_is)
  (case lg=>kernel_rfl)
  (case m8=>kernel_rfl)
  (case bN=>k_is)
  (case bM=>k_is)
  (case bL=>k_is)
  (case mZ=>k_is)
  (case m7=>k_is)
  (case mY=>k_is)
  all_goals first|k_is|kit_is|skip
