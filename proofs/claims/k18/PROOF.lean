import PyProof.Rows.All
import Wide.All
import OpenK.AllK
import Wide.FinOn
import Lean
import PyProof.EqAt
import PyProof.EqKinds
import PyProof.TupleCall
import PyProof.NeKinds
import PyProof.StrWalks
import PyProof.ListStr
import PyProof.StrOps2
import PyProof.StrLawsIn
import KE.KDictOf
import PyProof.AttrMissHeap
import PyProof.Draws
import PyProof.EnumMake
import PyProof.Rows.EnumRows
import PyProof.LongRange
import PyProof.NoPylong
import PyProof.SeqI3
import PyProof.Rows.SeqCalls
import PyProof.StrLawsChain
import PyProof.StrCalls2
import KE.KIntText
import PyProof.Rows.CallKwBuiltin
import OpenK.KOwn
import OpenK.KRaise
import PyProof.ExcBaseAll.ValueError
import PyProof.Rows.CatchOwn
import KE.KIsAll
import PyProof.ExcArgsOwn
import PyProof.ExcAttrAll.ValueError
import PyProof.Rows.SeqMore2
import PyProof.ListMulAny
import PyProof.ListMulRoad
import PyProof.ZipIter
import PyProof.Rows.FactsT2
import PyProof.ExcInit
import PyProof.InstStoreFacts
import PyProof.StrCalls
import PyProof.FactsAll.dict_1
import PyProof.FactsAll.subtypes_3
import PyProof.FactsAll.subtypes_4
import PyProof.Dict
import PyProof.MinMaxWalk
import PyProof.WalkInts
import PyProof.WalksMore
import PyProof.FactsAll.tuple_2
import KE.KSortTup
import PyProof.Rows.SortWalk
import PyProof.Rows.SetFrom
import PyProof.DictKinds
import PyProof.DictStraight
import PyProof.SetRoads
import PyProof.CollectWalk
import PyProof.CollectStr
import PyProof.DictIter
import PyProof.Rows.SortShell
import KE.KItemsList
import PyProof.Rows.SortStr
import PyProof.DictItemsLoops
import PyProof.ListNew
import PyProof.Rows.SumAny
import KE.IntBitsLaws
import KE.KLam
import KE.KDictList
import KE.KNestM
import PyProof.DictRoadsH
import PyProof.Rows.TupDisplay
import PySem.Challenge.RW_tilegrow_k18_first_rows_and_columns
open PySem renaming wpAny_bind→W0,Shared→W4,wpAny_pure→W5,wpAny→W8,sizeLine→Wd,starEach→Wf,Spec→Wi,Program→Wm,World→Wq,Around→Wu,mem_of_lookup→WD,mainGlobals→WE,cLine→WG,wpAny_callSpecial?_slot→WK,wpAny_field→WL,wpAny_call_entry→WN,compareOp→WT,wpAny_holding→WV,wpAny_setField_rec→Q1,backTo→Q5,wpAny_newObj_type→Q6,wpAny_truthy_bool→Qc,assignEach→Qd,binaryOp→Qg,wpAny_seqItems→Qj,wpAny_loadPart'→Ql,sysModules→Qm,FuncData→Qn,attributeBase→Qt,behindInMarks→QA,pyNext→QD,bootBuiltins→QH,wpAny_mono→QL,cellsFrom→QN,keywordEach→QR,wpAny_rule→QT,wpAny_typeNameOfWhole_itemiter→QV,foldedSetIterable→QW,swapsWith→QX,tupleKind_room_in1→J9,wpAny_pyIter_tuple→Jb,wpAny_passesOwn→Jf,wpAny_pyIter_enum→Jn,wpAny_typeNameOf_itemiter→Jr,codeAny→Jt,rawInt→JF,typeIs_int→JG,sizeLine_eq→JJ,backToKw→JK,wpAny_typeOf→JO,builtinLookup_eq_fast→JQ,call_meets→JS,wpAny_pyIter_zip→JU,wpAny_attempt→JV,sliceBounds→JW,pushCells→U2,getattributeRaised→U5,getItem→U8,wpAny_sequenceKey→Ua,wpAny_Call_method→Ub,wpAny_pyIter_list→Ud,wpAny_dictEntries→Uf,strIterType→Uh
open PySem.W renaming Frag→W3,mg_none_of→WP,kia_one→Qk,fnOf→QS,kitOne→J0,keepIn→U7
open List renaming getElem?_eq_some_iff→W6,mem_cons_of_mem→W7,getElem?_set_ne→W9,mem_cons_self→Wb,replicate→We,getElem?_eq_getElem→Wg,map_cons→Wk,getElem?_set_self→Wn,size_toArray→Wp,mem_cons→Wr,getElem?_map→Wv,length_map→Wx,mem_of_getElem?→Wz,length_cons→WB,nodup_cons→WO,replicate_succ→WQ,map_map→WS,length_append→WU,mem_map→WX,getElem?_eq_none→WY,map_congr_left→WZ,mem_append_right→Q2,flatten_cons→Q3,find?_cons→Q4,getElem?_set→Q7,length_set→Q8,drop_eq_getElem_cons→Qa,range→Qb,any_cons→Qf,lookup_cons→Qo,mem_of_mem_take→Qq,take_of_length_le→Qv,mem_map_of_mem→Qw,nil_append→Qx,length_take→Qz,getElem?_of_mem→QC,count_append→QE,getElem?_toArray→QO,getElem_mem→J4,all_eq_true→J5,zipWith→Jc,mem_append→Je,append_nil→Jg,forIn_cons→Jh,getD_eq_getElem?_getD→Jj,nodup_iff_pairwise_ne→Jk,any_eq_false→Jl,take_add_one→Jm,getElem?_append_left→Jp,getElem?_take_of_lt→Jw,zipWith_map→Jy,getElem?_cons_zero→JA,length_eq_zero_iff→JB,foldl_cons→JH,map_append→JI,ext_getElem?→JL,pairwise_map→JM,zipWith_self→JN,forIn_nil→JP,cons_append→JT,flatten_append→U0,length_nil→U1,mem_singleton→U3,pairwise_cons→U4,all_cons→Ui,range'_succ→Uj,count_cons→Uo
open PySem.Heap renaming get?_push_of_some→Wa,lt_size→Wj,get?_push_size→Wl,get?_update_self→Qh,size_push→Qu,SameBut→Qy,get?_update_other→QI
open Option.some renaming injEq→Wc,inj→Wy
open Nat renaming le_refl→Wh,ne_of_lt→Wo,lt_of_lt_of_le→Ww,le_trans→WA,ne_of_gt→WR,zero_add→WW,pow_succ→Q9,pow_le_pow_right→Qr,lt_irrefl→Qs,zero_le→QB,mul_comm→QJ,one_mul→QK,le_add_right→QM,pow_le_pow_left→QZ,succ_mul→J8,lt_of_le_of_lt→Ja,mul_le_mul_right→Js,le_of_lt→Ju,le_mul_of_pos_right→JD,mul_assoc→JE,pow_pos→JX,mul_div_cancel→U6,mul_le_mul→U9,lt_succ_of_lt→Uc,le_succ→Ug,sub_zero→Um
open Bool renaming and_eq_true→Ws,false_ne_true→WF,false_eq_true→Jd,eq_false_iff→Jo,eq_iff_iff→Uk
open Option renaming map_some→WC,map_eq_some_iff→WH,bind_some→Qp,isSome_iff_exists→Jv,bind_eq_some_iff→JC
open PySem.Builtin.SmallTypes renaming ownedTupleIsFree→WJ,nextOf→WM
open PyProof.Rows renaming callWith_type1→Q0,slot_tuple_getitem→QP
open Int renaming toNat_natCast→Qe,natCast_mul→Ul
open PySem.F renaming slot_dict_get→Qi,slot_zip_next→QU,slot_dict_itemiterator_next→QY,entry_dict_get→J7,slot_tuple_iterator_next→Ji,plain_extend_loop→JY,args_zip_next_1→Ue
open PySem.Builtin.Str renaming strSliceIndices→QF
open Array renaming length_toList→QG,getElem?_toList→JR
open PySem.Builtin.Slice renaming slicePlaces→Jq
open PySem.Builtin.Tuple renaming tupleExact→Jx
open PySem.Heap.SameBut renaming update→Jz
open PySem.Builtin.Int renaming intBits→JZ
set_option Elab.async false
set_option linter.all false
set_option maxRecDepth 100000
namespace L2
open PySem PySem.Spec PyProof.Rows
abbrev Key:=Sum Int Str
def ij:Key->Value->Bool
 | .inl k,v=>Value.isInt k v
 | .inr x,v=>Value.isStrOf x v
def vi(w:Wq):Key->Int
 | .inl k=>hashInt k
 | .inr x=>hashStr w x
theorem ji:∀ {k:Key} {v:Value},ij k v=true->(∃ i t,k=Sum.inl i/\v=Value.int i t)\/(∃ x t,k=Sum.inr x/\v=Value.str x t)
 | .inl i,v,h=>by
  obtain⟨t,e⟩:=Value.isInt_shape (k:=i) (v:=v) h;exact .inl ⟨i,t,rfl,e⟩
 | .inr x,v,h=>by
  obtain⟨t,e⟩:=Value.isStrOf_shape (x:=x) (v:=v) h;exact .inr ⟨x,t,rfl,e⟩
theorem HE(i:Int)(t:Tok):ij (.inl i) (.int i t)=true:=by simp[ij,Value.isInt]
theorem HF(x:Str)(t:Tok):ij (.inr x) (.str x t)=true:=by simp[ij,Value.isStrOf]
theorem HG(a b:Int):decide ((Sum.inl a:Key)=Sum.inl b)=(a == b):=by
 by_cases e:a=b
 ·subst e; simp
 ·have h:¬ (Sum.inl a:Key)=Sum.inl b:=λq=>e (Sum.inl.inj q)
  rw[decide_eq_false h];exact(beq_eq_false_iff_ne.mpr e).symm
theorem HJ(a b:Str):decide ((Sum.inr a:Key)=Sum.inr b)=decide (a=b):=by
 by_cases e:a=b
 ·subst e; simp
 ·have h:¬ (Sum.inr a:Key)=Sum.inr b:=λq=>e (Sum.inr.inj q)
  rw[decide_eq_false h,decide_eq_false e]
theorem HL(a:Int)(b:Str):decide ((Sum.inl a:Key)=Sum.inr b)=false:=decide_eq_false (λq=>nomatch q)
theorem HM(a:Str)(b:Int):decide ((Sum.inr a:Key)=Sum.inl b)=false:=decide_eq_false (λq=>nomatch q)
def eN(prog:Wm)(w:Wq):PySem.KeyKind prog w Key where
 is:=ij
 hash:=vi w
 inj:=λv a b ha hb=>by
  rcases ji ha with ⟨i,t,rfl,rfl⟩ | ⟨x,t,rfl,rfl⟩
  ·rcases ji hb with ⟨j,u,rfl,e⟩ | ⟨y,u,rfl,e⟩
   ·injection e with e1 _; rw[e1]
   ·exact nomatch e
  ·rcases ji hb with ⟨j,u,rfl,e⟩ | ⟨y,u,rfl,e⟩
   ·exact nomatch e
   ·injection e with e1 _; rw[e1]
 byValue:=λk v h=>by
  rcases ji h with ⟨i,t,rfl,rfl⟩ | ⟨x,t,rfl,rfl⟩ <;> rfl
 pyHash:=λhv h=>by
  rcases ji hv with ⟨i,t,rfl,rfl⟩ | ⟨x,t,rfl,rfl⟩
  ·exact wpAny_pyHash_int h
  ·exact wpAny_pyHash_str h
 eqBool:=λhu hv h=>by
  rcases ji hu with ⟨i,t,rfl,rfl⟩ | ⟨x,t,rfl,rfl⟩
  ·rcases ji hv with ⟨j,u,rfl,rfl⟩ | ⟨y,u,rfl,rfl⟩
   ·rw[HG] at h; exact wpAny_eqBool_int h
   ·rw[HL] at h; exact SeqAt.EqAt.int_str i t y u _ _ _ _ h
  ·rcases ji hv with ⟨j,u,rfl,rfl⟩ | ⟨y,u,rfl,rfl⟩
   ·rw[HM] at h; exact SeqAt.EqAt.str_int x t j u _ _ _ _ h
   ·rw[HJ] at h; exact wpAny_eqBool_str h
 «strs»:=λk x t v h=>by
  rcases ji h with ⟨i,u,rfl,e⟩ | ⟨y,u,rfl,e⟩
  ·exact nomatch e
  ·injection e with e1 _
   subst e1
   cases v <;> rfl
theorem HP(prog:Wm)(w:Wq)(k:Key)(v:Value):(eN prog w).is k v=ij k v:=rfl
theorem HQ(prog:Wm)(w:Wq)(i:Int)(t:Tok):(eN prog w).is (.inl i) (.int i t)=true:=HE i t
theorem HR(prog:Wm)(w:Wq)(x:Str)(t:Tok):(eN prog w).is (.inr x) (.str x t)=true:=HF x t
inductive V where
 | bf | bl (b:Bool) | int (i:Int) | str (x:Str) | byt (b:Array UInt8) | flt (b:UInt64) | ref (a:Addr) | ty (n:String)
 deriving DecidableEq
def RelV:V->Value->Prop
 | .bf,u=>u=Value.none
 | .bl b,u=>u=Value.bool b
 | .int i,u=>∃ t,u=Value.int i t
 | .str x,u=>∃ t,u=Value.str x t
 | .byt b,u=>∃ t,u=Value.bytes b t
 | .flt b,u=>∃ t,u=Value.float b t
 | .ref a,u=>u=Value.ref a
 | .ty n,u=>u=Value.type n
abbrev Vals:List V->List Value->Prop:=Paired RelV
theorem Vals.length(r:Vals xs us):xs.length=us.length:=Paired.length r
theorem Vals.get:∀ {xs:List V} {us:List Value} {i:Nat} {x:V},Vals xs us->xs[i]? = some x->∃ u,us[i]? = some u/\RelV x u
 | _,_,_,_,.nil,e=>by simp at e
 | _,_,0,_,.cons r _,e=>by simp at e; subst e; exact⟨_,rfl,r⟩
 | _,_,i + 1,x,.cons _ t,e=>by
  obtain⟨u,h1,h2⟩:=Vals.get (i:=i) (x:=x) t (by simpa using e);exact⟨u,by simpa using h1,h2⟩
theorem Vals.set(r:RelV x u):∀ {xs:List V} {us:List Value} (i:Nat),Vals xs us->Vals (xs.set i x) (us.set i u)
 | _,_,_,.nil=>.nil
 | _,_,0,.cons _ t=>.cons r t
 | _,_,i + 1,.cons q t=>.cons q (Vals.set r i t)
theorem Vals.append:∀ {xs ys:List V} {us ws:List Value},Vals xs us->Vals ys ws->Vals (xs ++ ys) (us ++ ws)
 | _,_,_,_,.nil,s=>s
 | _,_,_,_,.cons r t,s=>.cons r (Vals.append t s)
theorem Vals.take:∀ {xs:List V} {us:List Value} (n:Nat),Vals xs us->Vals (xs.take n) (us.take n)
 | _,_,0,_=>.nil
 | _,_,_ + 1,.nil=>.nil
 | _,_,n + 1,.cons r t=>.cons r (Vals.take n t)
theorem Vals.drop:∀ {xs:List V} {us:List Value} (n:Nat),Vals xs us->Vals (xs.drop n) (us.drop n)
 | _,_,0,r=>r
 | _,_,_ + 1,.nil=>.nil
 | _,_,n + 1,.cons _ t=>Vals.drop n t
def eO:Option V->Option Value->Prop
 | some v,some u=>RelV v u
 | none,none=>True
 | _,_=>False
def KV{κ:Type}:List (κ×V)->List (κ×Value)->Prop:=Paired λ(p:κ×V) (q:κ×Value)=>p.1=q.1/\RelV p.2 q.2
def kV:Key->V
 | .inl i=>.int i
 | .inr x=>.str x
inductive NK where
 | i (z:Int) | s (x:Str) | t (ks:List NK)
noncomputable instance nkDec:DecidableEq NK:=λa b=>Classical.propDecidable (a=b)
mutual
def f_(w:Wq):NK->Int
 | .i z=>vi w (.inl z)
 | .s x=>vi w (.inr x)
 | .t ks=>reduceHash (Builtin.Tuple.tupleHashOf (sx w ks))
def sx(w:Wq):List NK->List Int
 | []=>[]
 | k :: ks=>f_ w k :: sx w ks
end
inductive HO where
  | lst (xs:List V)
  | tup (xs:List V)
  | dK (ae:List (Key×V)) | dT (ae:List (List Key×V))
  | set (S:Int->Bool) (n:Nat)
  | ins (C dx:Addr) (fs:List (Str×V))
  | own (x:Addr)
  | xd (fs:List (Str×V))
  | met (f x:Addr)
  | kG (lo hi:Int)
  | frz (o:Obj) (u:HO)
  | tbl (ps:Array Value)
  | ctab (pos:Pos) (q:Str)
  | dN (ep:Nat) (ae:List (NK×V×V))
  | ext (φ:Heap->Prop)
abbrev Hp:=Addr->Option HO
def upd(H:Hp)(a:Addr)(o:HO):Hp:=λb=>if b=a then some o else H b
theorem cZ:upd H a o a=some o:=by unfold upd; rw[if_pos rfl]
theorem aL(h:b≠a):upd H a o b=H b:=by unfold upd; rw[if_neg h]
theorem HS:upd (upd H a o) a u=upd H a u:=by
 funext b; unfold upd; split <;> rfl
theorem HU{H:Hp}{a b:Addr}{o u:HO}(h:H a=some o)(h':H b=some u)(d:o≠u):a≠b:=by
 intro e; subst e; rw[h] at h'; exact d (Wy h')
theorem fP{H:Hp}{a b:Addr}{o:HO}(h:H a=some o)(h':H b=none):a≠b:=by
 intro e; subst e; rw[h] at h'; cases h'
def ik (h:Heap) (a:Addr) (ah:Array Value):Prop:=∃ n,h.get? a=some { cls:=.type "tuple",dict:=none,data:=.seq ah n,slots:=#[] }
theorem ik.tup(x:ik h a ah):IsTup h a ah:=let ⟨n,e⟩:=x; ⟨_,e,rfl,n,rfl⟩
theorem ik.new (h:Heap) (ah:Array Value):ik (h.push { cls:=.type "tuple",data:=.seq ah }) h.objs.size ah:=⟨_,Wl _ rfl⟩
theorem ik.lt(x:ik h a ah):a < h.objs.size:=let ⟨_,e⟩:=x; Wj e
section
variable (P:Wm) (w:Wq)
def cj(H:Hp)(h:Heap)(a:Addr):HO->Prop
 | .lst xs=>xs.length<=Wd/\∃ (ah:List Value) (n:Nat),Vals xs ah/\h.get? a=some { cls:=.type "list",data:=.seq ah.toArray n }
 | .tup xs=>xs.length<=Wd/\∃ ah:List Value,Vals xs ah/\ik h a ah.toArray
 | .dK ae=>ae.length<=Wd/\(a == Qm)=false/\∃ vs,KV ae vs/\h.DictOf (eN P w) a vs
 | .dT ae=>ae.length<=Wd/\(a == Qm)=false/\∃ xs:List (List Key×Addr×Value),
   Paired (λ(p:List Key×V) (q:List Key×Addr×Value)=>p.1=q.1/\H q.2.1=some (.tup (p.1.map kV))/\RelV p.2 q.2.2) ae xs /\
   ∃ o es ep,h.get? a=some o/\o.ExactDict/\o.data = .dict es ep/\es.toList=xs.map (entryOfKey (tupleKind (eN P w)))/\(xs.map (·.1)).Nodup
 | .set S n=>h.SetOf (intKind P w) a S n
 | .ins C dx fs=>H dx=some (.own a)/\fs.length<=1000/\dx≠a/\h.get? a=some (PySem.W.instObj C dx) /\
   ∃ mA,h.Ns1 dx mA/\(∀ f,eO (fs.lookup f) (mA f))/\PySem.Within mA (fs.map (·.1))
 | .own _=>∃ o,h.get? a=some o
 | .xd fs=>∃ mA,h.Ns1 a mA/\∀ f,eO (fs.lookup f) (mA f)
 | .kG lo hi=>∃ t u v,h.get? a=some { cls:=.type "range",data:=.fields #[.int lo t,.int hi u,.int 1 v] }
 | .frz o u=>h.get? a=some o/\cj H h a u
 | .tbl ps=>h.get? a=some { cls:=.none,data:=.fields ps }
 | .dN ep ae=>ae.length<=Wd/\(a == Qm)=false/\∃ o es,h.get? a=some o/\o.ExactDict/\o.data = .dict es ep/\Paired (λ(p:NK×V×V) (e:DictEntry)=>e.hash=f_ w p.1/\RelV p.2.1 e.key/\RelV p.2.2 e.val) ae es.toList/\(ae.map (·.1)).Nodup
 | .ctab pos q=>∃ ps,h.get? a=some { cls:=.none,data:=.fields ps }/\TriplesOk ps.toList/\∀ cv,codeAmong pos ps.toList=some cv->∃ c' oc,cv = .ref c'/\H c'=some (.frz oc (.ext λ_=>True))/\∃ vs tq,oc.data = .fields vs/\vs[1]? = some (.str q tq)
 | .met f x=>h.get? a=some (PySem.W.methodObj (.ref f) (.ref x))
 | .ext φ=>φ h/\(∃ o,h.get? a=some o)/\∀ h1 h2:Heap,φ h1->(∀ o,h1.get? a=some o->h2.get? a=some o)->φ h2
def cG(H:Hp)(h:Heap):Prop:=∀ a o,H a=some o->cj P w H h a o
end
section
variable {P:Wm} {w:Wq} {H H':Hp} {h h':Heap} {a:Addr} {o:HO}
theorem cj.lt(x:cj P w H h a o):a < h.objs.size:=by
 cases o with
 | lst xs=>obtain⟨_,_,_,_,e⟩:=x; exact Wj e
 | tup xs=>obtain⟨_,_,_,p⟩:=x; exact p.lt
 | dK ae=>obtain⟨_,_,_,_,o,_,_,e,_⟩:=x; exact Wj e
 | dT ae=>obtain⟨_,_,_,_,o,_,_,e,_⟩:=x; exact Wj e
 | set S n=>obtain⟨o,_,_,_,e,_⟩:=x; exact Wj e
 | ins C dx fs=>obtain⟨_,_,_,e,_⟩:=x; exact Wj e
 | own y=>obtain⟨_,e⟩:=x; exact Wj e
 | xd fs=>obtain⟨_,⟨_,_,_,e,_⟩,_⟩:=x; exact Wj e
 | kG lo hi=>obtain⟨_,_,_,e⟩:=x; exact Wj e
 | frz ob u=>obtain⟨e,_⟩:=x; exact Wj e
 | tbl ps=>exact Wj (show h.get? a=some _ from x)
 | ctab pos q=>obtain⟨_,e,_⟩:=x; exact Wj e
 | dN ep ae=>obtain⟨_,_,_,_,e,_⟩:=x; exact Wj e
 | met f y=>exact Wj (show h.get? a=some _ from x)
 | ext φ=>obtain⟨_,⟨_,e⟩,_⟩:=x; exact Wj e
theorem Paired.vj:∀ {l₁:List α} {l₂:List β},Paired F l₁ l₂->(∀ a b,F a b->G a b)->Paired G l₁ l₂
 | _,_,.nil,_=>.nil
 | _,_,.cons r t,f=>.cons (f _ _ r) (Paired.vj t f)
theorem cj.mY(x:cj P w H h a o)(k:∀ b u,(b=a\/H b=some (.own a))->h.get? b=some u->h'.get? b=some u)
  (ho:∀ b,H b=some (.own a)->H' b=some (.own a)) (ht:∀ b xs,H b=some (.tup xs)->H' b=some (.tup xs)) (hf:∀ b o u,H b=some (.frz o u)->H' b=some (.frz o u)):cj P w H' h' a o:=by
 induction o with
 | lst xs=>obtain⟨z,ah,n,r,e⟩:=x; exact⟨z,ah,n,r,k _ _ (.inl rfl) e⟩
 | tup xs=>obtain⟨z,ah,r,n,e⟩:=x; exact⟨z,ah,r,n,k _ _ (.inl rfl) e⟩
 | dK ae=>obtain⟨z,y,vs,r,ob,es,ep,e,c⟩:=x; exact⟨z,y,vs,r,ob,es,ep,k _ _ (.inl rfl) e,c⟩
 | dT ae =>
  obtain⟨z,y,xs,r,ob,es,ep,e,c⟩:=x;exact⟨z,y,xs,Paired.vj r λp q z=>⟨z.1,ht _ _ z.2.1,z.2.2⟩,ob,es,ep,k _ _ (.inl rfl) e,c⟩
 | set S n=>obtain⟨ob,es,ep,t,e,c⟩:=x; exact⟨ob,es,ep,t,k _ _ (.inl rfl) e,c⟩
 | ins C dx fs =>
  obtain⟨d,z,ne,e,mA,⟨od,es,ep,e2,c⟩,r⟩:=x;exact⟨ho _ d,z,ne,k _ _ (.inl rfl) e,mA,⟨od,es,ep,k _ _ (.inr d) e2,c⟩,r⟩
 | own y=>obtain⟨ob,e⟩:=x; exact⟨ob,k _ _ (.inl rfl) e⟩
 | xd fs=>obtain⟨mA,⟨od,es,ep,e,c⟩,r⟩:=x; exact⟨mA,⟨od,es,ep,k _ _ (.inl rfl) e,c⟩,r⟩
 | kG lo hi=>obtain⟨t,u,v,e⟩:=x; exact⟨t,u,v,k _ _ (.inl rfl) e⟩
 | frz ob u ih=>obtain⟨e,q⟩:=x; exact⟨k _ _ (.inl rfl) e,ih q⟩
 | dN ep ae=>obtain⟨z,y,ob,es,e,c⟩:=x; exact⟨z,y,ob,es,k _ _ (.inl rfl) e,c⟩
 | ctab pos q=>obtain⟨ps,e,t,r⟩:=x; exact⟨ps,k _ _ (.inl rfl) e,t,λcv z=>let ⟨c',oc,z1,z2,z3⟩:=r cv z; ⟨c',oc,z1,hf _ _ _ z2,z3⟩⟩
 | tbl ps =>
  have e:h.get? a=some { cls:=.none,data:=.fields ps }:=x;show h'.get? a=some { cls:=.none,data:=.fields ps };exact k a _ (.inl rfl) e
 | met f y =>
  have e:h.get? a=some (PySem.W.methodObj (.ref f) (.ref y)):=x;show h'.get? a=some (PySem.W.methodObj (.ref f) (.ref y));exact k a _ (.inl rfl) e
 | ext φ=>obtain⟨p,⟨o,e⟩,st⟩:=x; exact⟨st _ _ p λo q=>k _ _ (.inl rfl) q,⟨o,k _ _ (.inl rfl) e⟩,st⟩
theorem cG.lt(x:cG P w H h)(e:H a=some o):a < h.objs.size:=(x a o e).lt
theorem cG.fresh(x:cG P w H h)(e:h.objs.size<=a):H a=none:=by
 cases q:H a with
 | none=>rfl
 | some u=>exact absurd (Ww (x.lt q) e) (Qs _)
theorem cG.kept(x:cG P w H h)(k:∀ b u,h.get? b=some u->h'.get? b=some u):cG P w H h':=λa o e =>
 (x a o e).mY (λb u _ q=>k b u q) (λ_ q=>q) (λ_ _ q=>q) λ_ _ _ q=>q
theorem cG.laid(x:cG P w H h)(k:∀ b u,h.get? b=some u->h'.get? b=some u)(hp:h.objs.size<=a)(new:cj P w (upd H a o) h' a o):cG P w (upd H a o) h':=λb u e=>by
 have hn:=x.fresh hp;by_cases hb:b=a
 ·subst hb; rw[cZ] at e; cases e; exact new
 ·rw[aL hb] at e;exact(x b u e).mY (λc v _ q=>k c v q) (λc q=>by rw[aL (fP q hn)]; exact q) (λc xs q=>by rw[aL (fP q hn)]; exact q) λc o u q=>by rw[aL (fP q hn)]; exact q
end
def Rd(H:Hp)(a:Addr)(u:HO):Prop:=H a=some u\/∃ o,H a=some (.frz o u)
theorem Rd.ok(r:Rd H a u)(x:cG P w H h):cj P w H h a u:=by
 rcases r with r | ⟨o,r⟩
 ·exact x a u r
 ·obtain⟨_,q⟩:=x a _ r;exact q
def pV:Option HO->Prop
 | some (.lst _)=>True
 | some (.dK _)=>True
 | some (.dT _)=>True
 | some (.dN _ _)=>True
 | some (.set _ _)=>True
 | some (.ins _ _ _)=>True
 | some (.ext _)=>True
 | _=>False
section
variable {P:Wm} {w:Wq} {H:Hp} {h h':Heap} {x e:Addr} {o':HO}
theorem cG.write(ok:cG P w H h)(mu:pV (H x))(he:e=x\/H e=some (.own x))(k:∀ b u,b≠e->h.get? b=some u->h'.get? b=some u)(oD:∃ u,h'.get? e=some u)
  (new:cj P w (upd H x o') h' x o'):cG P w (upd H x o') h':=λb u q=>by
 have pW:∀ c y,H c=some (.own y)->c≠x:=λc y r z=>by subst z; rw[r] at mu; exact mu
 have HW:∀ c xs,H c=some (.tup xs)->c≠x:=λc xs r z=>by subst z; rw[r] at mu; exact mu
 have HX:∀ c o u,H c=some (.frz o u)->c≠x:=λc o u r z=>by subst z; rw[r] at mu; exact mu
 by_cases hb:b=x
 ·subst hb; rw[cZ] at q; cases q; exact new
 ·rw[aL hb] at q;by_cases hbe:b=e
  ·have q':H b=some (.own x):=by
    rcases he with z | z
    ·exact absurd (hbe.trans z) hb
    ·rw[hbe]; exact z
   rw[q] at q'; cases q'
   obtain⟨v,hv⟩:=oD;exact⟨v,by rw[hbe]; exact hv⟩
  ·refine(ok b u q).mY (λc v hc r=>k c v ?_ r) (λc r=>by rw[aL (pW c b r)]; exact r) (λc xs r=>by rw[aL (HW c xs r)]; exact r) λc o u r=>by rw[aL (HX c o u r)]; exact r
   rcases hc with rfl | hc
   ·exact hbe
   ·rintro rfl;rcases he with z | z
    ·exact pW c b hc z
    ·rw[hc] at z; cases z; exact hb rfl
end
structure Un(fs ex:List Addr)(H H':Hp)(h h':Heap):Prop where
 keep:∀ b o,h.get? b=some o->H b=none->b ∉ fs->b ∉ ex->h'.get? b=some o
 slot:∀ b o,h.get? b=some o->H b=none->b ∈ fs->b ∉ ex->∃ sl,h'.get? b=some { o with slots:=sl }
 free:∀ b o,h.get? b=some o->H b=none->b ∉ ex->H' b=none
 there:∀ b o,h.get? b=some o->b ∉ ex->∃ o',h'.get? b=some o'
 lH:∀ b xs,H b=some (.tup xs)->H' b=some (.tup xs)
 kH:∀ b o u,H b=some (.frz o u)->H' b=some (.frz o u)
 lI:∀ b ps,H b=some (.tbl ps)->∃ more,H' b=some (.tbl (ps ++ more))
section
variable {fs HY ex VZ:List Addr} {H H1 H2:Hp} {h h1 h2 h':Heap} {a x e:Addr} {o:HO}
theorem Un.any(u:Un fs ex H H1 h h1)(q:h.get? b=some ob)(n:H b=none)(hx:b ∉ ex):∃ sl,h1.get? b=some { ob with slots:=sl }:=by
 by_cases hb:b ∈ fs
 ·exact u.slot b ob q n hb hx
 ·exact⟨ob.slots,u.keep b ob q n hb hx⟩
theorem Un.kept(k:∀ b u,h.get? b=some u->h'.get? b=some u):Un fs ex H H h h' :=
 ⟨λb ob q _ _ _=>k b ob q,λb ob q _ _ _=>⟨ob.slots,k b ob q⟩,λ_ _ _ n _=>n,λb ob q _=>⟨ob,k b ob q⟩,λ_ _ q=>q,λ_ _ _ q=>q,λ_ ps q=>⟨#[],by rw[q]; simp⟩⟩
theorem Un.refl:Un fs ex H H h h:=Un.kept λ_ _ q=>q
theorem Un.laid(k:∀ b u,h.get? b=some u->h'.get? b=some u)(hp:h.objs.size<=a)(hn:H a=none):Un fs ex H (upd H a o) h h' where
 keep:=λb u q _ _ _=>k b u q
 slot:=λb u q _ _ _=>⟨u.slots,k b u q⟩
 free:=λb u q n _=>by rw[aL (Wo (Ww (Wj q) hp))]; exact n
 there:=λb u q _=>⟨u,k b u q⟩
 lH:=λb xs q=>by rw[aL (fP q hn)]; exact q
 kH:=λb u xs q=>by rw[aL (fP q hn)]; exact q
 lI:=λb ps q=>⟨#[],by rw[aL (fP q hn),q]; simp⟩
theorem Un.write(mu:pV (H x))(he:e=x\/H e=some (.own x))(k:∀ b u,b≠e->h.get? b=some u->h'.get? b=some u)(oD:∃ u,h'.get? e=some u):Un fs ex H (upd H x o) h h':=by
 have hx:∀ b,H b=none->b≠x:=λb n z=>by subst z; rw[n] at mu; exact mu
 have hb:∀ b,H b=none->b≠e:=λb n z=>by
  subst z;rcases he with r | r
  ·exact hx b n r
  ·rw[n] at r; cases r
 have hm:∀ b u,H b=some u->¬ pV (some u)->b≠x:=λb u q nm z=>by subst z; rw[q] at mu; exact nm mu
 refine⟨λb u q n _ _=>k b u (hb b n) q,λb u q n _ _=>⟨u.slots,k b u (hb b n) q⟩,λb u q n _=>by rw[aL (hx b n)]; exact n,λb u q _=>?_,
  λb xs q=>by rw[aL (hm b _ q λz=>z)]; exact q,λb u xs q=>by rw[aL (hm b _ q λz=>z)]; exact q,λb ps q=>⟨#[],by rw[aL (hm b _ q λz=>z),q]; simp⟩⟩
 by_cases hbe:b=e
 ·subst hbe; exact oD
 ·exact⟨u,k b u hbe q⟩
end
def sy(h:Heap)(H:Hp):List Addr:=(Qb h.objs.size).filter λa=>(H a).isSome
def kI(h:Heap)(H:Hp):Heap:=PySem.W.hideAll h (sy h H)
theorem HZ(h:Heap)(H:Hp):(kI h H).objs.size=h.objs.size:=PySem.W.hideAll_size _ _
theorem H_(e:h.get? b=some o)(n:H b=none):(kI h H).get? b=some o :=
 PySem.W.hideAll_get _ e λhm=>by
  have q:(H b).isSome=true:=(List.mem_filter.mp hm).2;rw[n] at q; simp at q
theorem Ia(e:(kI h H).get? b=some o):h.get? b=some o/\H b=none:=by
 have e':h.get? b=some o:=PySem.W.of_hideAll (sy h H) e;refine⟨e',?_⟩
 cases q:H b with
 | none=>rfl
 | some x =>
  have hm:b ∈ sy h H:=List.mem_filter.mpr ⟨List.mem_range.mpr (Wj e'),by simp[q]⟩;have z:(kI h H).get? b=none:=PySem.W.hideAll_none (sy h H) hm;rw[z] at e; cases e
def Ib(g h:Heap)(L:Addr):List (Addr×Obj):=(Qb h.objs.size).filterMap λa=>if a=L\/(g.get? a).isSome=true then none else(h.get? a).map λo=>(a,o)
def rest(g h:Heap)(L d:Addr):List (Addr×Obj):=(Ib g h L).filter λp=>decide (p.1≠d)
structure Mod(K:W3)(mg:Str->Option Value)(base:Heap):Prop where
 vk:K.In base
 glob:base.Ns WE mg
 blt:∃ mb,base.Ns builtinsNs mb/\∀ x:Str,x≠"__name__"->mb x=QH x
 nolimit:base.NoLimit
structure Cx where
 prog:Wm
 w:Wq
 K:W3
 mg:Str->Option Value
 base:Heap
 A:Wu
 N:List Str
 s₀:W4
 H₀:Hp
 env:Env
 outer:List Env
 stack:List Env
 ex:List Addr
 fn:Str->Bool
 calm:Bool
 pn:List (Addr×Obj)
 xe:Value->W4->Prop
def il(l:List Env):List Addr:=l.filterMap (·.frame)
abbrev Cx.fs(X:Cx):List Addr:=il X.outer
def sA(sc:Scope)(x:Str):Prop:=sc.names.lookup x=some .local\/sc.names.lookup x=some .cell\/sc.names.lookup x=some .free
def Loc(sc:Scope)(x:Str):Prop:=sc.names.lookup x=some .local\/sc.names.lookup x=some .cell
def Look(env:Env)(h:Heap)(m:Str->Option Value)(x:Str)(u:Value):Prop :=
 (env.kindOf x=some .local/\m x=some u)\/((env.kindOf x=some .cell\/env.kindOf x=some .free)/\∃ c,env.cells.lookup x=some c/\h.IsCell c (some u))
structure Cx.Ok(X:Cx):Prop where
 mod:Mod X.K X.mg X.base
 kind:X.env.scope.kind = .function
 glob:X.env.globals=WE
 blt:X.env.builtins=builtinsNs
 above:X.s₀.heap.objs.size<=X.env.locals
 inj:∀ x y c,X.env.cells.lookup x=some c->X.env.cells.lookup y=some c->x=y
 has:∀ x,(X.env.kindOf x=some .cell\/X.env.kindOf x=some .free)->∃ c,X.env.cells.lookup x=some c
 pX:∀ x c,X.fn x=true->X.env.cells.lookup x=some c->X.s₀.heap.objs.size<=c
 hd:X.calm=true->X.A.handled=none
 frames:X.A.frames=some X.stack
 sC:X.stack=X.outer\/(X.stack=X.env :: X.outer/\X.env.frame=some X.env.locals)
 sD:∀ b ∈ X.ex,b≠X.env.locals/\∀ x c,X.env.cells.lookup x=some c->c≠b
 bs:∀ b o,X.base.get? b=some o->X.s₀.heap.get? b=some o/\X.H₀ b=none
 lJ:X.base.objs.size<=X.s₀.heap.objs.size
 pY:∀ b o,X.base.get? b=some o->b ∉ X.ex
 pZ:∀ b ∈ X.ex,b ∉ X.fs
 jk:X.s₀.heap.FunFrames X.base X.outer
 oE:∀ b ∈ X.fs,X.H₀ b=none
structure Inv(X:Cx)(pins:List (Addr×Obj))(σ:List (Option V))(H:Hp)(s:W4):Prop where
 ok:X.Ok
 os:s.os=X.s₀.os
 bare:AllBare s.gens
 base:Un X.fs X.ex X.H₀ H X.s₀.heap s.heap
 loc:∃ m,s.heap.Ns X.env.locals m/\∀ (i:Nat) (x:Str) (v:V),X.N[i]? = some x->σ[i]? = some (some v)->sA X.env.scope x->∃ u,RelV v u/\Look X.env s.heap m x u
 cell:∀ x c,X.env.cells.lookup x=some c->∃ v,s.heap.IsCell c v
 free:H X.env.locals=none
 jl:∀ x c,X.env.cells.lookup x=some c->H c=none
 pin:∀ p ∈ X.pn ++ pins,s.heap.get? p.1=some p.2/\H p.1=none/\p.1≠X.env.locals/\p.1 ∉ X.fs/\∀ v,p.2.data≠.cell v
 aB:cG X.prog X.w H s.heap
 len:σ.length=X.N.length
section
variable {X:Cx} {pins:List (Addr×Obj)} {σ:List (Option V)} {H H':Hp} {s:W4} {h':Heap}
theorem Cx.Ok.Ic(ok:X.Ok)(e:X.base.get? b=some o):b ∉ X.fs:=λhb=>by
 have:=(ok.jk.mem hb).1;rw[e] at this; cases this
theorem Inv.bs(I:Inv X pins σ H s):∀ b o,X.base.get? b=some o->s.heap.get? b=some o/\H b=none:=λb o e =>
 ⟨I.base.keep b o (I.ok.bs b o e).1 (I.ok.bs b o e).2 (I.ok.Ic e) (I.ok.pY b o e),I.base.free b o (I.ok.bs b o e).1 (I.ok.bs b o e).2 (I.ok.pY b o e)⟩
theorem Inv.bk(I:Inv X pins σ H s):∀ b o,X.base.get? b=some o->s.heap.get? b=some o:=λb o e=>(I.bs b o e).1
theorem Inv.mod(I:Inv X pins σ H s):Mod X.K X.mg X.base:=I.ok.mod
theorem Inv.gb(I:Inv X pins σ H s):X.K.In s.heap:=I.ok.mod.vk.keeps I.bk
theorem Inv.fr(I:Inv X pins σ H s):∃ m,Fr X.base X.env.locals s.heap m :=
 let ⟨m,hn,_⟩:=I.loc
 ⟨m,hn,I.bk,WA I.ok.lJ I.ok.above⟩
theorem Inv.lt(I:Inv X pins σ H s):X.env.locals < s.heap.objs.size:=let ⟨_,hn,_⟩:=I.loc; hn.lt
theorem Inv.sz(I:Inv X pins σ H s):X.s₀.heap.objs.size<=s.heap.objs.size:=WA I.ok.above (Ju I.lt)
theorem Inv.Ie(I:Inv X pins σ H s)(h:s.heap.objs.size<=a):a ∉ X.fs:=λhb=>by
 obtain⟨_,o,ho,_⟩:=I.ok.jk.mem hb;exact absurd (Ww (Wj ho) (WA I.sz h)) (Qs _)
theorem Inv.mZ(I:Inv X pins σ H s):∀ x c,X.env.cells.lookup x=some c->c≠X.env.locals:=λx c e z=>by
 obtain⟨v,o,ho,hd⟩:=I.cell x c e;obtain⟨m,⟨o',es,ep,ho',hd',_⟩,_⟩:=I.loc;rw[z,ho'] at ho; cases ho; rw[hd'] at hd; cases hd
theorem Inv.jk(I:Inv X pins σ H s):s.heap.FunFrames X.base X.outer:=by
 have all:∀ (l:List Env),(∀ b ∈ il l,b ∈ X.fs)->X.s₀.heap.FunFrames X.base l->s.heap.FunFrames X.base l:=by
  intro l;induction l with
  | nil=>intro _ _; trivial
  | cons env r ih =>
   intro hs hl;obtain⟨hk,⟨L,o,hf,hn,ho,hd⟩,hr⟩:=hl;have hL:L ∈ X.fs:=hs L (by unfold il; rw[List.filterMap_cons,hf]; exact Wb);obtain⟨sl,e⟩:=I.base.slot L o ho (I.ok.oE L hL) hL λz=>I.ok.pZ L z hL
   exact⟨hk,⟨L,_,hf,hn,e,hd⟩,ih (λb hb=>hs b (by unfold il; rw[List.filterMap_cons,hf]; exact W7 _ hb)) hr⟩
 exact all X.outer (λ_ hb=>hb) I.ok.jk
theorem Inv.stack(I:Inv X pins σ H s):s.heap.FunFrames X.base X.stack:=by
 rcases I.ok.sC with e | ⟨e,hf⟩
 ·rw[e]; exact I.jk
 ·rw[e];obtain⟨m,hn,_⟩:=I.loc;refine .cons (by rw[I.ok.kind]; decide) hf hn ?_ I.jk;exact Heap.get?_none_of_le (WA I.ok.lJ I.ok.above)
theorem Inv.vm(I:Inv X pins σ H s):∀ b ∈ il X.stack,b ∈ X.env.locals :: X.fs:=λb hb=>by
 rcases I.ok.sC with e | ⟨e,hf⟩
 ·rw[e] at hb; exact W7 _ hb
 ·rw[e] at hb;unfold il at hb;rw[List.filterMap_cons,hf] at hb;exact hb
theorem Inv.Aj(I:Inv X pins σ H s):∀ b ∈ il X.stack,H b=none:=λb hb=>by
 rcases Wr.mp (I.vm b hb) with e | hb
 ·rw[e]; exact I.free
 ·obtain⟨_,o,ho,_⟩:=I.ok.jk.mem hb;exact I.base.free b o ho (I.ok.oE b hb) λz=>I.ok.pZ b z hb
theorem Inv.step{g':Array GenState}{t':Nat}{d':Drawn}{ch:List Addr}(I:Inv X pins σ H s)
  (jZ:∀ b ∈ ch,(b ∈ X.ex\/X.s₀.heap.objs.size<=b)/\b≠X.env.locals/\(∀ x c,X.env.cells.lookup x=some c->c≠b)/\∀ p ∈ X.pn ++ pins,p.1≠b)
  (keep:∀ b o,b≠X.env.locals->b ∉ X.fs->b ∉ ch->s.heap.get? b=some o->H b=none->h'.get? b=some o)
  (slot:∀ b o,b≠X.env.locals->b ∈ X.fs->b ∉ ch->s.heap.get? b=some o->H b=none->∃ sl,h'.get? b=some { o with slots:=sl }) (free:∀ b o,b ∉ ch->s.heap.get? b=some o->H b=none->H' b=none)
  (there:∀ b o,b ∉ ch->s.heap.get? b=some o->∃ o',h'.get? b=some o')
  (lH:∀ b xs,H b=some (.tup xs)->H' b=some (.tup xs)) (kH:∀ b o u,H b=some (.frz o u)->H' b=some (.frz o u)) (lI:∀ b ps,H b=some (.tbl ps)->∃ more,H' b=some (.tbl (ps ++ more)))
  (ns:∀ m,s.heap.Ns X.env.locals m->h'.Ns X.env.locals m) (aB:cG X.prog X.w H' h') (hg:AllBare g') :
  Inv X pins σ H' { s with heap:=h',gens:=g',drawn:=d',toks:=t' }:=by
 have Al:∀ b o,X.s₀.heap.get? b=some o->b≠X.env.locals:=λb o e=>Wo (Ww (Wj e) I.ok.above)
 have sE:∀ b o,X.s₀.heap.get? b=some o->b ∉ X.ex->b ∉ ch:=λb o e hx hb=>by
  rcases (jZ b hb).1 with z | z
  ·exact hx z
  ·exact absurd (Ww (Wj e) z) (Qs _)
 have cellK:∀ x c,X.env.cells.lookup x=some c->∀ v,s.heap.IsCell c v->h'.IsCell c v:=λx c e v ⟨o,ho,hd⟩=>by
  have p_:c ∉ ch:=λz=>(jZ c z).2.2.1 x c e rfl
  by_cases hc:c ∈ X.fs
  ·obtain⟨sl,q⟩:=slot c o (I.mZ x c e) hc p_ ho (I.jl x c e);exact⟨_,q,hd⟩
  ·exact⟨o,keep c o (I.mZ x c e) hc p_ ho (I.jl x c e),hd⟩
 refine⟨I.ok,I.os,hg,⟨λb o e n hb hx=>?_,λb o e n hb hx=>?_,λb o e n hx=>?_,λb o e hx=>?_,λb xs e=>lH b xs (I.base.lH b xs e),λb o xs e=>kH b o xs (I.base.kH b o xs e),λb ps e=>?_⟩,?_,λx c e=>?_,?_,λx c e=>?_,λp hp=>?_,aB,I.len⟩
 ·exact keep b o (Al b o e) hb (sE b o e hx) (I.base.keep b o e n hb hx) (I.base.free b o e n hx)
 ·obtain⟨sl,e1⟩:=I.base.slot b o e n hb hx;obtain⟨sl',e2⟩:=slot b _ (Al b o e) hb (sE b o e hx) e1 (I.base.free b o e n hx);exact⟨sl',e2⟩
 ·obtain⟨o',e1⟩:=I.base.there b o e hx;exact free b o' (sE b o e hx) e1 (I.base.free b o e n hx)
 ·obtain⟨o',e1⟩:=I.base.there b o e hx;exact there b o' (sE b o e hx) e1
 ·obtain⟨m1,e1⟩:=I.base.lI b ps e;obtain⟨m2,e2⟩:=lI b _ e1;exact⟨m1 ++ m2,by rw[e2,Array.append_assoc]⟩
 ·obtain⟨m,hn,hl⟩:=I.loc;refine⟨m,ns m hn,λi x v e1 e2 e3=>?_⟩;obtain⟨u,r,l⟩:=hl i x v e1 e2 e3;refine⟨u,r,?_⟩;rcases l with l | ⟨k,c,e,z⟩
  ·exact .inl l
  ·exact .inr ⟨k,c,e,cellK x c e _ z⟩
 ·obtain⟨v,z⟩:=I.cell x c e;exact⟨v,cellK x c e v z⟩
 ·obtain⟨m,⟨o,_,_,ho,_⟩,_⟩:=I.loc;exact free _ o (λz=>(jZ _ z).2.1 rfl) ho I.free
 ·obtain⟨v,o,ho,hd⟩:=I.cell x c e;exact free c o (λz=>(jZ c z).2.2.1 x c e rfl) ho (I.jl x c e)
 ·obtain⟨e,n,ne,nf,d⟩:=I.pin p hp;have p_:p.1 ∉ ch:=λz=>(jZ p.1 z).2.2.2 p hp rfl
  exact⟨keep p.1 p.2 ne nf p_ e n,free p.1 p.2 p_ e n,ne,nf,d⟩
theorem Inv.un{t':Nat}(I:Inv X pins σ H s)(u:Un X.fs [] H H' s.heap h')(aB:cG X.prog X.w H' h'):Inv X pins σ H' { s with heap:=h',toks:=t' }:=by
 obtain⟨m,⟨o,es,ep,ho,r⟩,_⟩:=id I.loc;obtain⟨sl,hL⟩:=u.any ho I.free (by simp);exact I.step (g':=s.gens) (d':=s.drawn) (ch:=[]) (λ_ z=>nomatch z) (λb o _ hb _ e n=>u.keep b o e n hb (by simp)) (λb o _ hb _ e n=>u.slot b o e n hb (by simp)) (λb o _ e n=>u.free b o e n (by simp)) (λb o _ e=>u.there b o e (by simp)) u.lH u.kH u.lI (λm' hm=>by
  obtain⟨o',m_,gZ,ho',r'⟩:=hm;rw[ho] at ho'; cases ho'
  exact⟨_,m_,gZ,hL,r'⟩) aB I.bare
theorem Inv.call{g':Array GenState}{t':Nat}{d':Drawn}{ch:List Addr}(I:Inv X pins σ H s)(u:Un (il X.stack) ch H H' s.heap h')(aB:cG X.prog X.w H' h')(hg:AllBare g')
  (jZ:∀ b ∈ ch,(b ∈ X.ex\/X.s₀.heap.objs.size<=b)/\b≠X.env.locals/\(∀ x c,X.env.cells.lookup x=some c->c≠b)/\∀ p ∈ X.pn ++ pins,p.1≠b) :
  Inv X pins σ H' { s with heap:=h',gens:=g',drawn:=d',toks:=t' }:=by
 obtain⟨m,⟨o,es,ep,ho,r⟩,_⟩:=id I.loc;obtain⟨sl,hL⟩:=u.any ho I.free λz=>(jZ _ z).2.1 rfl
 exact I.step (ch:=ch) jZ (λb o hL hb hc e n=>u.keep b o e n (λz=>(Wr.mp (I.vm b z)).elim hL hb) hc) (λb o _ _ hc e n=>u.any e n hc) (λb o hc e n=>u.free b o e n hc) (λb o hc e=>u.there b o e hc) u.lH u.kH u.lI (λm' hm=>by
  obtain⟨o',m_,gZ,ho',r'⟩:=hm;rw[ho] at ho'; cases ho'
  exact⟨_,m_,gZ,hL,r'⟩) aB hg
theorem Inv.turned{t':Nat}{it:Addr}(I:Inv X pins σ H s)(k:∀ b o,b≠it->s.heap.get? b=some o->h'.get? b=some o)(hn:H it=none)(hL:it≠X.env.locals)
  (h1:it ∈ X.ex\/X.s₀.heap.objs.size<=it) (h2:∀ x c,X.env.cells.lookup x=some c->c≠it) (h3:∀ p ∈ X.pn ++ pins,p.1≠it):Inv X pins σ H { s with heap:=h',toks:=t' }:=by
 have lK:∀ b u,H b=some u->b≠it:=λb u e z=>by rw[z,hn] at e; cases e
 refine I.step (g':=s.gens) (d':=s.drawn) (ch:=[it]) (λb hb=>?_) (λb o _ _ hc e _=>k b o (λz=>hc (by simp[z])) e) (λb o _ _ hc e _=>⟨o.slots,k b o (λz=>hc (by simp[z])) e⟩) (λ_ _ _ _ n=>n)
  (λb o hc e=>⟨o,k b o (λz=>hc (by simp[z])) e⟩) (λ_ _ e=>e) (λ_ _ _ e=>e) (λb ps e=>⟨#[],by rw[e]; simp⟩) (λm hm=>?_) (λb u e=>?_) I.bare
 ·have e:b=it:=by simpa using hb
  subst e;exact⟨h1,hL,h2,h3⟩
 ·obtain⟨o,es,ep,ho,r⟩:=hm;exact⟨o,es,ep,k _ o (Ne.symm hL) ho,r⟩
 ·refine(I.aB b u e).mY (λc v hc q=>k c v ?_ q) (λ_ q=>q) (λ_ _ q=>q) λ_ _ _ q=>q
  rcases hc with z | z
  ·rw[z]; exact lK b u e
  ·exact lK c _ z
theorem Inv.tok(I:Inv X pins σ H s)(t:Nat):Inv X pins σ H { s with toks:=t }:=I.un (h':=s.heap) (t':=t) Un.refl I.aB
theorem Inv.kept(I:Inv X pins σ H s)(k:∀ b u,s.heap.get? b=some u->h'.get? b=some u):Inv X pins σ H { s with heap:=h',toks:=t' }:=I.un (Un.kept k) (I.aB.kept k)
theorem Inv.laid(I:Inv X pins σ H s)(k:∀ b u,s.heap.get? b=some u->h'.get? b=some u)(hp:s.heap.objs.size<=a)(new:cj X.prog X.w (upd H a o) h' a o) :
  Inv X pins σ (upd H a o) { s with heap:=h',toks:=t' }:=I.un (Un.laid k hp (I.aB.fresh hp)) (I.aB.laid k hp new)
theorem Inv.write(I:Inv X pins σ H s)(mu:pV (H x))(he:e=x\/H e=some (.own x))(k:∀ b u,b≠e->s.heap.get? b=some u->h'.get? b=some u)(oD:∃ u,h'.get? e=some u)
  (new:cj X.prog X.w (upd H x o) h' x o):Inv X pins σ (upd H x o) { s with heap:=h',toks:=t' }:=I.un (Un.write mu he k oD) (I.aB.write mu he k oD new)
theorem Inv.weak(I:Inv X pins σ H s)(hl:σ'.length=σ.length)(w:∀ (i:Nat) v,σ'[i]? = some (some v)->σ[i]? = some (some v)):Inv X pins σ' H s :=
 ⟨I.ok,I.os,I.bare,I.base,let ⟨m,hn,gH⟩:=I.loc; ⟨m,hn,λi x v e1 e2 e3=>gH i x v e1 (w i v e2) e3⟩,I.cell,I.free,I.jl,I.pin,I.aB,hl.trans I.len⟩
theorem Inv.Am(I:Inv X pins σ H s)(h:∀ p ∈ pins',s.heap.get? p.1=some p.2/\H p.1=none/\p.1≠X.env.locals/\p.1 ∉ X.fs/\∀ v,p.2.data≠.cell v):Inv X pins' σ H s :=
 ⟨I.ok,I.os,I.bare,I.base,I.loc,I.cell,I.free,I.jl,λp hp=>(Je.mp hp).elim (λz=>I.pin p (List.mem_append_left _ z)) (h p),I.aB,I.len⟩
theorem An{N:List Str}(hN:N.Nodup){i j:Nat}{x:Str}(a:N[i]? = some x)(b:N[j]? = some x):i=j:=by
 obtain⟨h1,e1⟩:=W6.mp a;obtain⟨h2,e2⟩:=W6.mp b;exact(List.getElem_inj hN).mp (e1.trans e2.symm)
theorem Ao{M:Model}{A:Wu}{E:Value->W4->Prop}{i:Nat}{x:Str}{v:V}{u:Value}{Q:Unit->W4->Prop}(I:Inv X pins σ H s)(hN:X.N.Nodup)(hi:X.N[i]? = some x)(hx:Loc X.env.scope x)(r:RelV v u)
  (h:∀ s',Inv X pins (σ.set i (some v)) H s'->(∃ a,Qy a s.heap s'.heap/\(a=X.env.locals\/X.env.cells.lookup x=some a))->Q () s') (hf:X.fn x=true\/X.env.scope.names.lookup x=some .local:=by first | exact .inl rfl | exact .inr rfl | assumption):W8 M A (storeName X.env x u) Q E s:=by
 obtain⟨m,hn,hl⟩:=id I.loc;have Ig:(X.env.scope.kind == .class || (X.env.scope.kind == .module && X.env.locals != X.env.globals))=false:=by rw[I.ok.kind]; rfl
 have Ap:i < σ.length:=by rw[I.len]; exact(W6.mp hi).1
 have mZ:=I.mZ;have tracked:∀ {a:Addr} {h':Heap},(∃ o,s.heap.get? a=some o/\H a=none)->Qy a s.heap h'->cG X.prog X.w H h':=λ{a h'} ha hs b ob e=>by
  obtain⟨_,_,nc⟩:=ha;refine(I.aB b ob e).mY (λc w' hc q=>(hs.2 c ?_).trans q) (λ_ q=>q) (λ_ _ q=>q) λ_ _ _ q=>q
  rintro rfl;rcases hc with rfl | hc
  ·rw[nc] at e; cases e
  ·rw[nc] at hc; cases hc
 rcases hx with hk | hk
 ·refine wpAny_storeName_local hk hn (λh' ng hs=>?_) Ig;obtain⟨oL,_,_,hoL,_⟩:=id hn;refine h _ ⟨I.ok,I.os,I.bare,⟨λb o e n hb hx=>?_,λb o e n hb hx=>?_,I.base.free,λb o e hx=>?_,I.base.lH,I.base.kH,I.base.lI⟩,⟨_,ng,λj y v' e1 e2 e3=>?_⟩,λy c e=>?_,I.free,I.jl,λp hp=>?_,tracked ⟨oL,hoL,I.free⟩ hs,by simpa using I.len⟩ ⟨_,hs,.inl rfl⟩
  ·exact(hs.2 b (Wo (Ww (Wj e) I.ok.above))).trans (I.base.keep b o e n hb hx)
  ·obtain⟨sl,e1⟩:=I.base.slot b o e n hb hx;exact⟨sl,(hs.2 b (Wo (Ww (Wj e) I.ok.above))).trans e1⟩
  ·obtain⟨o',e1⟩:=I.base.there b o e hx;exact⟨o',(hs.2 b (Wo (Ww (Wj e) I.ok.above))).trans e1⟩
  ·by_cases hj:j=i
   ·subst hj;rw[hi] at e1; cases e1
    rw[Wn Ap] at e2
    cases e2;exact⟨u,r,.inl ⟨hk,by simp⟩⟩
   ·rw[W9 (Ne.symm hj)] at e2;obtain⟨u',r',q⟩:=hl j y v' e1 e2 e3;refine⟨u',r',?_⟩;rcases q with ⟨k,e⟩ | ⟨k,c,e,z⟩
    ·refine .inl ⟨k,?_⟩;have:y≠x:=λe=>hj (An hN e1 (e ▸ hi))
     simp[this,e]
    ·exact .inr ⟨k,c,e,z.sameBut hs (mZ y c e)⟩
  ·obtain⟨w',z⟩:=I.cell y c e;exact⟨w',z.sameBut hs (mZ y c e)⟩
  ·obtain⟨e,n,ne,nf,d⟩:=I.pin p hp;exact⟨(hs.2 p.1 ne).trans e,n,ne,nf,d⟩
 ·have qa:X.fn x=true:=by
   rcases hf with z | z
   ·exact z
   ·rw[z] at hk; cases hk
  obtain⟨c,hc⟩:=I.ok.has x (.inl hk);obtain⟨w',z⟩:=I.cell x c hc;refine wpAny_storeName_cell I.ok.kind hk hc z (λh' jm hs=>?_);obtain⟨oc,hoc,hocd⟩:=id z;refine h { s with heap:=h' } ⟨I.ok,I.os,I.bare,⟨λb o e n hb hx=>?_,λb o e n hb hx=>?_,I.base.free,λb o e hx=>?_,I.base.lH,I.base.kH,I.base.lI⟩,⟨m,hn.sameBut hs (Ne.symm (mZ x c hc)),λj y v' e1 e2 e3=>?_⟩,λy c' e=>?_,I.free,I.jl,λp hp=>?_,tracked ⟨oc,hoc,I.jl x c hc⟩ hs,by simpa using I.len⟩ ⟨c,hs,.inr hc⟩
  ·exact(hs.2 b (Wo (Ww (Wj e) (I.ok.pX x c qa hc)))).trans (I.base.keep b o e n hb hx)
  ·obtain⟨sl,e1⟩:=I.base.slot b o e n hb hx;exact⟨sl,(hs.2 b (Wo (Ww (Wj e) (I.ok.pX x c qa hc)))).trans e1⟩
  ·obtain⟨o',e1⟩:=I.base.there b o e hx;exact⟨o',(hs.2 b (Wo (Ww (Wj e) (I.ok.pX x c qa hc)))).trans e1⟩
  ·by_cases hj:j=i
   ·subst hj;rw[hi] at e1; cases e1
    rw[Wn Ap] at e2
    cases e2;exact⟨u,r,.inr ⟨.inl hk,c,hc,jm⟩⟩
   ·rw[W9 (Ne.symm hj)] at e2;obtain⟨u',r',q⟩:=hl j y v' e1 e2 e3;refine⟨u',r',?_⟩;rcases q with q | ⟨k,c',e,z'⟩
    ·exact .inl q
    ·refine .inr ⟨k,c',e,z'.sameBut hs ?_⟩;rintro rfl;exact hj (An hN e1 (I.ok.inj _ _ _ e hc ▸ hi))
  ·by_cases hcc:c'=c
   ·subst hcc; exact⟨_,jm⟩
   ·obtain⟨w2,z2⟩:=I.cell y c' e;exact⟨w2,z2.sameBut hs hcc⟩
  ·obtain⟨e,n,ne,nf,d⟩:=I.pin p hp;refine⟨(hs.2 p.1 ?_).trans e,n,ne,nf,d⟩;intro q;rw[q,hoc] at e;have q':oc=p.2:=Wy e;exact d w' (by rw[<- q']; exact hocd)
theorem Aq(I:Inv X pins σ H s)(hN:X.N.Nodup)(hi:X.N[i]? = some x)(hx:Loc X.env.scope x)(r:RelV v u)
  (h:∀ s',Inv X pins (σ.set i (some v)) H s'->Q () s') (hf:X.fn x=true\/X.env.scope.names.lookup x=some .local:=by first | exact .inl rfl | exact .inr rfl | assumption):W8 M A (storeName X.env x u) Q E s :=
 Ao I hN hi hx r (λs' I' _=>h s' I') hf
theorem Inv.Ih(I:Inv X pins σ H s)(ho:s'.os=s.os)(u:Un (il X.stack) ch H H' s.heap s'.heap)(aB:cG X.prog X.w H' s'.heap)(hg:AllBare s'.gens)
  (jZ:∀ b ∈ ch,(b ∈ X.ex\/X.s₀.heap.objs.size<=b)/\b≠X.env.locals/\(∀ x c,X.env.cells.lookup x=some c->c≠b)/\∀ p ∈ X.pn ++ pins,p.1≠b):Inv X pins σ H' s':=by
 obtain⟨h',g',d',t',o'⟩:=s';have e:o'=s.os:=ho;subst e;exact I.call (g':=g') (t':=t') (d':=d') u aB hg jZ
end
abbrev XK:=Value->Option Addr->Hp->Prop
abbrev St:=List (Option V)
abbrev VK:=V->Hp->Prop
abbrev TE:=St->Hp->VK->Prop
abbrev TT:=St->Hp->(Bool->Hp->Prop)->Prop
abbrev TA:=St->Hp->(List V->Hp->Prop)->Prop
structure Ends where
 nx:St->Hp->Prop
 rt:VK
 bk:St->Hp->Prop:=λ_ _=>False
 ct:St->Hp->Prop:=λ_ _=>False
abbrev TS:=Ends->St->Hp->Prop
def EP(X:Cx)(pins:List (Addr×Obj))(σ:St)(Q:VK)(u:Value)(s':W4):Prop:=∃ v H',Inv X pins σ H' s'/\RelV v u/\Q v H'
def TP(X:Cx)(pins:List (Addr×Obj))(σ:St)(Q:Bool->Hp->Prop)(b:Bool)(s':W4):Prop:=∃ H',Inv X pins σ H' s'/\Q b H'
def AP(X:Cx)(pins:List (Addr×Obj))(σ:St)(Q:List V->Hp->Prop)(us:List Value)(s':W4):Prop:=∃ vs H',Inv X pins σ H' s'/\Vals vs us/\Q vs H'
def SP(X:Cx)(pins:List (Addr×Obj))(D:Ends)(f:Flow)(s':W4):Prop :=
 match f with
 | .next=>∃ σ' H',Inv X pins σ' H' s'/\D.nx σ' H'
 | .brk=>∃ σ' H',Inv X pins σ' H' s'/\D.bk σ' H'
 | .cont=>∃ σ' H',Inv X pins σ' H' s'/\D.ct σ' H'
 | .ret u=>∃ v σ' H',Inv X pins σ' H' s'/\RelV v u/\D.rt v H'
def PE(X:Cx)(e:Expr)(t:TE):Prop :=
 ∀ (pins:List (Addr×Obj)) (s:W4) (σ:St) (H:Hp) (Q:VK),Inv X pins σ H s->t σ H Q->W8 (model X.prog X.w) X.A (eval e X.env) (EP X pins σ Q) X.xe s
def PT(X:Cx)(e:Expr)(t:TT):Prop :=
 ∀ (pins:List (Addr×Obj)) (s:W4) (σ:St) (H:Hp) (Q:Bool->Hp->Prop),Inv X pins σ H s->t σ H Q->W8 (model X.prog X.w) X.A (isTrue e X.env (eval e X.env)) (TP X pins σ Q) X.xe s
def PW(X:Cx)(e:Expr)(t:TT):Prop :=
 ∀ (whole:Sem Value) (pins:List (Addr×Obj)) (s:W4) (σ:St) (H:Hp) (Q:Bool->Hp->Prop),Inv X pins σ H s->t σ H Q->W8 (model X.prog X.w) X.A (isTrue e X.env whole) (TP X pins σ Q) X.xe s
theorem PW.pt(h:PW X e t):PT X e t:=h _
def PA(X:Cx)(es:List Expr)(t:TA):Prop :=
 ∀ (pos:Pos) (pins:List (Addr×Obj)) (s:W4) (σ:St) (H:Hp) (Q:List V->Hp->Prop),Inv X pins σ H s->t σ H Q->W8 (model X.prog X.w) X.A (spliced (Q5 pos (Wf es X.env))) (AP X pins σ Q) X.xe s
def PS(X:Cx)(st:Stmt)(t:TS):Prop :=
 ∀ (pins:List (Addr×Obj)) (s:W4) (σ:St) (H:Hp) (D:Ends),Inv X pins σ H s->t D σ H->W8 (model X.prog X.w) X.A (exec st X.env) (SP X pins D) X.xe s
def eX(X:Cx)(st:List Stmt)(t:TS):Prop :=
 ∀ (pins:List (Addr×Obj)) (s:W4) (σ:St) (H:Hp) (D:Ends),Inv X pins σ H s->t D σ H->W8 (model X.prog X.w) X.A (execs st X.env) (SP X pins D) X.xe s
theorem aR(h:W8 M A t Q E s)(hQ:∀ a s,Q a s->Q' a s):W8 M A t Q' E s:=QL h hQ λ_ _ x=>x
section
variable {X:Cx}
theorem bin{a b:Expr}{ta tb:TE}(ha:PE X a ta)(hb:PE X b tb){pins:List (Addr×Obj)}{s:W4}{σ:St}{H:Hp}{R:V->V->Hp->Prop}(I:Inv X pins σ H s)(h:ta σ H λx H1=>tb σ H1 λy H2=>R x y H2)
  {α:Type} {Q:α->W4->Prop} {f:Value->Value->Sem α}
  (hf:∀ v u s2 x y H2,Inv X pins σ H2 s2->RelV x v->RelV y u->R x y H2->W8 (model X.prog X.w) X.A (f v u) Q X.xe s2) :
  W8 (model X.prog X.w) X.A (eval a X.env) (λv s₁=>W8 (model X.prog X.w) X.A (eval b X.env) (λu s₂=>W8 (model X.prog X.w) X.A (f v u) Q X.xe s₂) X.xe s₁) X.xe s:=by
 refine aR (ha pins s σ H _ I h) λv s1 ⟨x,H1,I1,r1,q1⟩=>?_
 refine aR (hb pins s1 σ H1 _ I1 q1) λu s2 ⟨y,H2,I2,r2,q2⟩=>?_
 exact hf v u s2 x y H2 I2 r1 r2 q2
def cz(i:Nat):TE:=λσ H Q=>∃ v,σ[i]? = some (some v)/\Q v H
def tC(v:V):TE:=λ_ H Q=>Q v H
theorem Ii (hN:X.N[i]? = some x) (hv:sA X.env.scope x) (hd:(x == ("__debug__" : Str))=false:=by decide) (jn:(x == ("__classdict__" : Str))=false:=by decide):PE X (.Name x pos) (cz i):=by
 intro pins s σ H Q I h;obtain⟨v,e,h⟩:=h;obtain⟨m,hn,hl⟩:=I.loc;obtain⟨u,r,l⟩:=hl i x v hN e hv;have fin:EP X pins σ Q u s:=⟨v,H,I,r,h⟩
 rcases l with ⟨hk,hm⟩ | ⟨hk,c,hc,hcell⟩
 ·exact wpAny_Name (wpAny_loadName_local I.ok.kind hk hn hm fin) hd
 ·rcases hk with hk | hk
  ·exact wpAny_Name (wpAny_loadName_cell I.ok.kind hk hc hcell fin) hd
  ·exact wpAny_Name (wpAny_loadName_free I.ok.kind hk hc hcell fin jn) hd
theorem Ar{i j pos}:PE X (.Constant (.int i) j pos) (tC (.int i)):=λ_ _ _ H _ I h=>wpAny_Constant_int ⟨.int i,H,I.tok _,⟨_,rfl⟩,h⟩
theorem Ij{b j pos}:PE X (.Constant (.bool b) j pos) (tC (.bl b)):=λ_ _ _ H _ I h=>Constant_bool ⟨.bl b,H,I,rfl,h⟩
theorem Ik{j pos}:PE X (.Constant .none j pos) (tC .bf):=λ_ _ _ H _ I h=>Constant_none ⟨.bf,H,I,rfl,h⟩
theorem As{x j pos}:PE X (.Constant (.str x) j pos) (tC (.str x)):=λ_ _ _ H _ I h=>Calls.Constant_str ⟨.str x,H,I.tok _,⟨_,rfl⟩,h⟩
def Gl(X:Cx)(x:Str):Prop:=X.env.kindOf x=some .globalImplicit
theorem Il(I:Inv X pins σ H s)(hg:Gl X x)(hm:X.mg x=some u)(h:Q u s)
  (hd:(x == ("__debug__" : Str))=false:=by decide):W8 (model X.prog X.w) X.A (eval (.Name x pos) X.env) Q E s :=
 Calls.Name_function_global I.ok.kind hg (Calls.loadGlobal_global (by rw[I.ok.glob]; exact I.mod.glob.keeps I.bk) hm h) hd
theorem j0(I:Inv X pins σ H s)(hg:Gl X x)(hm:X.mg x=none)(hv:QH x=some u)(h:Q u s)
  (hn:x≠"__name__":=by decide) (hd:(x == ("__debug__" : Str))=false:=by decide):W8 (model X.prog X.w) X.A (eval (.Name x pos) X.env) Q E s:=by
 obtain⟨mb,h1,h2⟩:=I.mod.blt;exact Calls.Name_function_global I.ok.kind hg (Calls.loadGlobal_builtin (by rw[I.ok.glob]; exact I.mod.glob.keeps I.bk) hm (by rw[I.ok.blt]; exact h1.keeps I.bk) ((h2 x hn).trans hv) h) hd
theorem Im (hg:Gl X x) (hm:X.mg x=none) (hv:QH x=some u) (r:RelV v u) (hn:x≠"__name__":=by decide) (hd:(x == ("__debug__" : Str))=false:=by decide):PE X (.Name x pos) (tC v) :=
 λ_ _ _ H _ I h=>j0 I hg hm hv ⟨v,H,I,r,h⟩ hn hd
variable {a b:Expr} {ta tb:TE} {pos:Pos}
def PC(X:Cx)(op:CmpOp)(a b:Expr)(t:TE):Prop :=
 ∀ (pins:List (Addr×Obj)) (s:W4) (σ:St) (H:Hp) (Q:VK),Inv X pins σ H s->t σ H Q ->
  W8 (model X.prog X.w) X.A (eval a X.env) (λv s₁=>W8 (model X.prog X.w) X.A (eval b X.env) (λu s₂=>W8 (model X.prog X.w) X.A (WT op v u) (EP X pins σ Q) X.xe s₂) X.xe s₁) X.xe s
theorem Io(b:Expr)(h:op≠.In)(h2:op≠.NotIn):QA op b=false:=by
 have e1:(op == CmpOp.In)=false:=by cases op <;> first | rfl | exact absurd rfl h
 have e2:(op == CmpOp.NotIn)=false:=by cases op <;> first | rfl | exact absurd rfl h2
 cases b <;> simp[QA,e1,e2]
def tB(t:TE):TT:=λσ H Q=>t σ H λx H1=>∃ c,x = .bl c/\Q c H1
theorem V0(h:PC X op a b t)(h1:QA op b=false:=by first | exact Io _ (by decide) (by decide) | rfl):PT X (.Compare a [op] [b] pos) (tB t):=by
 intro pins s σ H Q I hw;refine wpAny_isTrue_Compare1 (aR (h pins s σ H _ I hw) λv s1 h1=>aR h1 λu s2 h2=>aR h2 λc s3 ⟨x,H1,I1,r1,q1⟩=>?_) h1;obtain⟨d,rfl,q⟩:=q1
 cases r1;exact Qc ⟨H1,I1,q⟩
theorem Ip(h:PE X e t)(he:∀ whole,isTrue e X.env whole=(do let v <- whole; standAt e.pos; holding [v] (truthy v)):=by intro _; rfl):PT X e (tB t):=by
 intro pins s σ H Q I hw;refine isTrue_plain (aR (h pins s σ H _ I hw) λv s1 ⟨x,H1,I1,r1,q1⟩=>?_) (he _);obtain⟨d,rfl,q⟩:=q1
 cases r1;exact Qc ⟨H1,I1,q⟩
variable {tA sF:TT} {rest:List Expr}
def Iq(t u:TT):TT:=λσ H Q=>t σ H λc H1=>if c=true then u σ H1 Q else Q false H1
def Ir(t u:TT):TT:=λσ H Q=>t σ H λc H1=>if c=true then Q true H1 else u σ H1 Q
def Iu(t:TT):TT:=λσ H Q=>t σ H λc H1=>Q (!c) H1
theorem Iv(ha:PT X a tA):PW X (.BoolOp .And [a] pos) tA:=by
 intro wh pins s σ H Q I h;refine isTrue_and (aR (ha pins s σ H Q I h) λc s1 e=>?_)
 cases c with
 | true=>exact isTrue_and_nil e
 | false=>exact e
theorem Iw(ha:PT X a tA):PW X (.BoolOp .Or [a] pos) tA:=by
 intro wh pins s σ H Q I h;refine isTrue_or (aR (ha pins s σ H Q I h) λc s1 e=>?_)
 cases c with
 | false=>exact isTrue_or_nil e
 | true=>exact e
theorem Iy(ha:PT X a tA)(hb:PW X (.BoolOp .And (b :: rest) pos) sF):PW X (.BoolOp .And (a :: b :: rest) pos) (Iq tA sF):=by
 intro wh pins s σ H Q I h;refine isTrue_and (aR (ha pins s σ H _ I h) λc s1 ⟨H1,I1,q1⟩=>?_)
 cases c with
 | true=>exact hb wh pins s1 σ H1 Q I1 q1
 | false=>exact⟨H1,I1,q1⟩
theorem pw_or(ha:PT X a tA)(hb:PW X (.BoolOp .Or (b :: rest) pos) sF):PW X (.BoolOp .Or (a :: b :: rest) pos) (Ir tA sF):=by
 intro wh pins s σ H Q I h;refine isTrue_or (aR (ha pins s σ H _ I h) λc s1 ⟨H1,I1,q1⟩=>?_)
 cases c with
 | true=>exact⟨H1,I1,q1⟩
 | false=>exact hb wh pins s1 σ H1 Q I1 q1
theorem Iz(ha:PT X a tA):PT X (.UnaryOp .Not a pos) (Iu tA):=by
 intro pins s σ H Q I h;exact isTrue_not (ha pins s σ H (λc H1=>Q (!c) H1) I h)
def IA(ta tb:TE):TE:=λσ H Q=>ta σ H λx H1=>∃ c,x = .bl c/\if c=true then tb σ H1 Q else Q (.bl false) H1
def IB(ta tb:TE):TE:=λσ H Q=>ta σ H λx H1=>∃ c,x = .bl c/\if c=true then Q (.bl true) H1 else tb σ H1 Q
def IC(ta:TE):TE:=λσ H Q=>ta σ H λx H1=>∃ c,x = .bl c/\Q (.bl (!c)) H1
theorem ID{op}(h:PE X a t):PE X (.BoolOp op [a] pos) t:=λpins s σ H Q I hw=>BoolOp_one (h pins s σ H Q I hw)
theorem IE(ha:PE X a ta)(hb:PE X (.BoolOp .And (b :: rest) pos) tb):PE X (.BoolOp .And (a :: b :: rest) pos) (IA ta tb):=by
 intro pins s σ H Q I h;refine BoolOp_and (aR (ha pins s σ H _ I h) λv s1 ⟨x,H1,I1,r1,q1⟩=>?_);obtain⟨c,rfl,q1⟩:=q1
 cases r1;refine Qc ?_
 cases c with
 | true=>exact hb pins s1 σ H1 Q I1 q1
 | false=>exact⟨.bl false,H1,I1,rfl,q1⟩
theorem IF(ha:PE X a ta)(hb:PE X (.BoolOp .Or (b :: rest) pos) tb):PE X (.BoolOp .Or (a :: b :: rest) pos) (IB ta tb):=by
 intro pins s σ H Q I h;refine BoolOp_or (aR (ha pins s σ H _ I h) λv s1 ⟨x,H1,I1,r1,q1⟩=>?_);obtain⟨c,rfl,q1⟩:=q1
 cases r1;refine Qc ?_
 cases c with
 | false=>exact hb pins s1 σ H1 Q I1 q1
 | true=>exact⟨.bl true,H1,I1,rfl,q1⟩
theorem IG(ha:PE X a ta):PE X (.UnaryOp .Not a pos) (IC ta):=by
 intro pins s σ H Q I h;refine UnaryOp_ (aR (ha pins s σ H _ I h) λv s1 ⟨x,H1,I1,r1,q1⟩=>?_);obtain⟨c,rfl,q1⟩:=q1
 cases r1;exact not_of (Qc ⟨.bl (!c),H1,I1,rfl,q1⟩)
end
def bW(K:W3)(H:Hp)(a:Addr)(xs:List V):Prop :=
 Rd H a (.lst xs) \/
  ∃ (o:Obj) (ah:Array Value) (n:Nat),K.lookup a=some o/\o.cls = .type "list"/\o.dict=none/\o.data = .seq ah n/\ah.size<=Wd/\Vals xs ah.toList
def cH(K:W3)(H:Hp)(a:Addr)(xs:List V):Prop :=
 Rd H a (.tup xs) \/
  ∃ (o:Obj) (ah:Array Value) (n:Nat),K.lookup a=some o/\o.cls = .type "tuple"/\o.data = .seq ah n/\ah.size<=Wd/\Vals xs ah.toList
def IH:Value->Option V
 | .none=>some .bf
 | .bool b=>some (.bl b)
 | .int i _=>some (.int i)
 | .str x _=>some (.str x)
 | .bytes b _=>some (.byt b)
 | .float b _=>some (.flt b)
 | .ref a=>some (.ref a)
 | .type n=>some (.ty n)
 | _=>none
theorem RelV.abs(r:RelV x u):IH u=some x:=by
 cases x with
 | bf=>cases r; rfl
 | bl _=>cases r; rfl
 | int _=>obtain⟨t,rfl⟩:=r; rfl
 | str _=>obtain⟨t,rfl⟩:=r; rfl
 | byt _=>obtain⟨t,rfl⟩:=r; rfl
 | flt _=>obtain⟨t,rfl⟩:=r; rfl
 | ref _=>cases r; rfl
 | ty _=>cases r; rfl
theorem RelV.inj(r:RelV x u)(q:RelV y u):x=y:=Wy (r.abs.symm.trans q.abs)
theorem Vals.inj:∀ {xs ys:List V} {us:List Value},Vals xs us->Vals ys us->xs=ys
 | _,_,_,.nil,.nil=>rfl
 | _,_,_,.cons r t,.cons r' t'=>by rw[r.inj r',Vals.inj t t']
section
variable {X:Cx} {pins:List (Addr×Obj)} {σ:St} {H:Hp} {s:W4} {a:Addr} {xs ys:List V}
theorem bW.of{K:W3}(h:H a=some (.lst xs)):bW K H a xs:=.inl (.inl h)
theorem cH.of{K:W3}(h:H a=some (.tup xs)):cH K H a xs:=.inl (.inl h)
theorem Inv.list(I:Inv X pins σ H s)(h:bW X.K H a xs):∃ ah:List Value,Vals xs ah/\PlainL s.heap a ah.toArray/\xs.length<=Wd:=by
 rcases h with h | ⟨o,ah,n,hk,hc,hd,hs,hz,r⟩
 ·obtain⟨z,ah,n,r,e⟩:=h.ok I.aB;exact⟨ah,r,⟨_,n,e,rfl,rfl,rfl⟩,z⟩
 ·refine⟨ah.toList,r,⟨o,n,I.gb a o hk,hc,hd,by simpa using hs⟩,?_⟩;have e:=r.length;simp only[QG] at e;omega
theorem Inv.tuple(I:Inv X pins σ H s)(h:cH X.K H a xs):∃ ah:List Value,Vals xs ah/\IsTup s.heap a ah.toArray/\xs.length<=Wd:=by
 rcases h with h | ⟨o,ah,n,hk,hc,hs,hz,r⟩
 ·obtain⟨z,ah,r,p⟩:=h.ok I.aB;exact⟨ah,r,p.tup,z⟩
 ·refine⟨ah.toList,r,⟨o,I.gb a o hk,hc,n,by simpa using hs⟩,?_⟩;have e:=r.length;simp only[QG] at e;omega
theorem Inv.qb(I:Inv X pins σ H s)(h:bW X.K H a xs)(h':bW X.K H a ys):xs=ys:=by
 obtain⟨ah,r,⟨o,n,e,_,_,d⟩,_⟩:=I.list h;obtain⟨its',r',⟨o',n',e',_,_,d'⟩,_⟩:=I.list h';rw[e] at e'; cases e'
 rw[d] at d';injection d' with d1 _
 have:ah=its':=by simpa using congrArg Array.toList d1
 subst this;exact r.inj r'
theorem Inv.vn(I:Inv X pins σ H s)(h:cH X.K H a xs)(h':cH X.K H a ys):xs=ys:=by
 obtain⟨ah,r,⟨o,e,_,n,d⟩,_⟩:=I.tuple h;obtain⟨its',r',⟨o',e',_,n',d'⟩,_⟩:=I.tuple h';rw[e] at e'; cases e'
 rw[d] at d';injection d' with d1 _
 have:ah=its':=by simpa using congrArg Array.toList d1
 subst this;exact r.inj r'
end
abbrev Cx.j3(X:Cx)(E:Value->W4->Prop):Cx:={ X with xe:=E }
abbrev Cx.oF(X:Cx):Cx:=X.j3 λ_ _=>False
theorem Cx.Ok.j3{X:Cx}(ok:X.Ok)(E:Value->W4->Prop):(X.j3 E).Ok :=
 ⟨ok.mod,ok.kind,ok.glob,ok.blt,ok.above,ok.inj,ok.has,ok.pX,ok.hd,ok.frames,ok.sC,ok.sD,ok.bs,ok.lJ,ok.pY,ok.pZ,ok.jk,ok.oE⟩
theorem Cx.Ok.lL{X:Cx}{E:Value->W4->Prop}(ok:(X.j3 E).Ok):X.Ok :=
 ⟨ok.mod,ok.kind,ok.glob,ok.blt,ok.above,ok.inj,ok.has,ok.pX,ok.hd,ok.frames,ok.sC,ok.sD,ok.bs,ok.lJ,ok.pY,ok.pZ,ok.jk,ok.oE⟩
section
variable {X:Cx} {pins:List (Addr×Obj)} {σ:St} {H:Hp} {s:W4} {E:Value->W4->Prop}
theorem Inv.j3(I:Inv X pins σ H s)(E:Value->W4->Prop):Inv (X.j3 E) pins σ H s:=⟨I.ok.j3 E,I.os,I.bare,I.base,I.loc,I.cell,I.free,I.jl,I.pin,I.aB,I.len⟩
theorem Inv.lL(I:Inv (X.j3 E) pins σ H s):Inv X pins σ H s:=⟨I.ok.lL,I.os,I.bare,I.base,I.loc,I.cell,I.free,I.jl,I.pin,I.aB,I.len⟩
theorem SP.lL(h:SP (X.j3 E) pins D f s'):SP X pins D f s':=by
 cases f with
 | next=>obtain⟨σ',H',I,q⟩:=h; exact⟨σ',H',I.lL,q⟩
 | brk=>obtain⟨σ',H',I,q⟩:=h; exact⟨σ',H',I.lL,q⟩
 | cont=>obtain⟨σ',H',I,q⟩:=h; exact⟨σ',H',I.lL,q⟩
 | ret u=>obtain⟨v,σ',H',I,r,q⟩:=h; exact⟨v,σ',H',I.lL,r,q⟩
theorem eX.oF{st:List Stmt}{t:TS}(h:eX X.oF st t):eX X st t:=λpins s σ H D I hw =>
 QL (h pins s σ H D (I.j3 _) hw) (λ_ _ q=>q.lL) λ_ _ z=>False.elim z
end
section
variable {X:Cx} {st:Stmt} {rest:List Stmt} {t u:TS} {e:Expr} {te:TE} {pos:Pos}
def II:TS:=λD σ H=>D.nx σ H
def IJ(t u:TS):TS:=λD σ H=>t { D with nx:=u D } σ H
theorem IK:eX X [] II:=λ_ _ σ H _ I h=>wpAny_execs_nil ⟨σ,H,I,h⟩
theorem sG(h1:PS X st t)(h2:eX X rest u):eX X (st :: rest) (IJ t u):=by
 intro pins s σ H D I h;refine wpAny_execs_cons (aR (h1 pins s σ H { D with nx:=u D } I h) λf s1 q=>?_)
 cases f with
 | next =>
  obtain⟨σ',H',I',q⟩:=q;exact h2 pins s1 σ' H' D I' q
 | ret v=>exact q
 | brk=>exact q
 | cont=>exact q
theorem Au(h1:PS X st t):eX X [st] t:=by
 intro pins s σ H D I h;refine wpAny_execs_cons (aR (h1 pins s σ H D I h) λf s1 q=>?_)
 cases f with
 | next=>exact wpAny_execs_nil q
 | ret v=>exact q
 | brk=>exact q
 | cont=>exact q
theorem Inv.quiet(I:Inv X pins σ H s):interactive X.env=false:=by simp[interactive,I.ok.kind]
def vo(te:TE):TS:=λD σ H=>te σ H λ_ H1=>D.nx σ H1
theorem Aw(he:PE X e te)(hs:QX e none pos.line X.env=pure false:=by rfl):PS X (.Expr e pos) (vo te):=by
 intro pins s σ H D I h;exact wpAny_Expr_any (aR (he pins s σ H _ I h) λv s1 ⟨x,H1,I1,r1,q1⟩=>⟨σ,H1,I1,q1⟩) I.quiet hs
def IL(te:TE):TS:=λD σ H=>te σ H D.rt
theorem Ax(he:PE X e te):PS X (.Return (some e) pos) (IL te):=by
 intro pins s σ H D I h;exact wpAny_Return_some (aR (he pins s σ H _ I h) λv s1 ⟨x,H1,I1,r1,q1⟩=>⟨x,σ,H1,I1,r1,q1⟩)
def IM(c:TT)(t u:TS):TS:=λD σ H=>c σ H λb H1=>if b=true then t D σ H1 else u D σ H1
theorem IP(hc:PT X c tc)(ha:eX X a t)(hb:eX X b u):PS X (.If c a b pos) (IM tc t u):=by
 intro pins s σ H D I h;refine wpAny_If (aR (hc pins s σ H _ I h) λd s1 ⟨H1,I1,q1⟩=>?_)
 cases d with
 | true=>exact ha pins s1 σ H1 D I1 q1
 | false=>exact hb pins s1 σ H1 D I1 q1
def IQ:TS:=λ_ _ _=>False
theorem IS:PS X st IQ:=λ_ _ _ _ _ _ h=>h.elim
end
abbrev TG:=V->St->Hp->(St->Hp->Prop)->Prop
abbrev lM:=List V->St->Hp->(St->Hp->Prop)->Prop
def PG(X:Cx)(target:Expr)(t:TG):Prop :=
 ∀ (pins:List (Addr×Obj)) (s:W4) (σ:St) (H:Hp) (v:V) (u:Value) (Q:St->Hp->Prop),Inv X pins σ H s->RelV v u->t v σ H Q ->
  W8 (model X.prog X.w) X.A (assign target X.env u) (λ_ s'=>∃ σ' H',Inv X pins σ' H' s'/\Q σ' H') X.xe s
def ip(X:Cx)(ts:List Expr)(t:lM):Prop :=
 ∀ (pins:List (Addr×Obj)) (s:W4) (σ:St) (H:Hp) (vs:List V) (us:List Value) (Q:St->Hp->Prop),Inv X pins σ H s->Vals vs us->t vs σ H Q ->
  W8 (model X.prog X.w) X.A (assignInOrder ((Qd ts X.env).map (·.2)) us) (λ_ s'=>∃ σ' H',Inv X pins σ' H' s'/\Q σ' H') X.xe s
abbrev Ay:=V->V->V->Hp->(Hp->Prop)->Prop
def Az(X:Cx)(t:Ay):Prop :=
 ∀ (pins:List (Addr×Obj)) (s:W4) (σ:St) (H:Hp) (o i v:V) (ov iv u:Value) (Q:Hp->Prop),Inv X pins σ H s->RelV o ov->RelV i iv->RelV v u->t o i v H Q ->
  W8 (model X.prog X.w) X.A (setItem ov iv u) (λ_ s'=>∃ H',Inv X pins σ H' s'/\Q H') X.xe s
section
variable {X:Cx} {pos:Pos}
def sH(i:Nat):TG:=λv σ H Q=>Q (σ.set i (some v)) H
theorem AB(hN:X.N.Nodup)(hi:X.N[i]? = some x)(hx:Loc X.env.scope x)(hf:X.fn x=true\/X.env.scope.names.lookup x=some .local:=by first | exact .inl rfl | exact .inr rfl | assumption):PG X (.Name x pos) (sH i):=by
 intro pins s σ H v u Q I r h;exact wpAny_assign_Name (Aq I hN hi hx r (λs' I'=>⟨_,H,I',h⟩) hf)
def IU:lM:=λvs σ H Q=>vs=[]/\Q σ H
def IV(t:TG)(u:lM):lM:=λvs σ H Q=>∃ v r,vs=v :: r/\t v σ H λσ' H'=>u r σ' H' Q
theorem AF:ip X [] IU:=by
 intro pins s σ H vs us Q I r h;obtain⟨e,h⟩:=h;subst e
 cases r;exact assignInOrder_nil ⟨σ,H,I,h⟩
theorem AG(h1:PG X e t)(h2:ip X es u)
  (hs:(Qd (e :: es) X.env).map (·.2)=assign e X.env :: (Qd es X.env).map (·.2):=by rfl):ip X (e :: es) (IV t u):=by
 intro pins s σ H vs us Q I r h;obtain⟨v,vr,e1,h⟩:=h;subst e1
 cases r with
 | cons r rr =>
  rw[hs];refine assignInOrder_cons (aR (h1 pins s σ H _ _ _ I r h) λ_ s1 ⟨σ1,H1,I1,q1⟩=>?_);exact h2 pins s1 σ1 H1 _ _ Q I1 rr q1
def IW(K:W3)(n:Nat)(t:lM):TG:=λv σ H Q=>∃ a xs,v = .ref a/\cH K H a xs/\xs.length=n/\t xs σ H Q
theorem AH(hc:X.calm=true)(h:ip X es t)
  (hn:(Qd es X.env).length=n:=by rfl) (iS:(Qd es X.env).findIdx? (·.1)=none:=by rfl):PG X (.Tuple es k pos) (IW X.K n t):=by
 intro pins s σ H v u Q I r hw;obtain⟨a,xs,e1,hq,hl,hw⟩:=hw;subst e1
 cases r;obtain⟨ah,rv,ht,hz⟩:=I.tuple hq;refine assign_Tuple_tuple (I.ok.hd hc) ht (by simp[hn,<- hl,rv.length]) iS λh' hx=>?_
 have I1:Inv X pins σ H { s with heap:=h' }:=I.kept (t':=s.toks) λb o e=>hx b o (Wo (Wj e)) e
 exact h pins _ σ H xs _ Q I1 (by simpa using rv) hw
def AI(to ti:TE)(t:Ay):TG:=λv σ H Q=>to σ H λo H1=>ti σ H1 λi H2=>t o i v H2 λH3=>Q σ H3
theorem AJ(ho:PE X o to)(hi:PE X i ti)(hs:Az X t)
  (ha:∀ v,assign (.Subscript o i pos) X.env v=(do
   let ov <- holding [v] (eval o X.env)
   let iv <- holding [v,ov] (eval i X.env)
   standAt pos
   holding [v,ov,iv] (setItem ov iv v)
   release [v,ov,iv] []):=by intro _; rfl):PG X (.Subscript o i pos) (AI to ti t):=by
 intro pins s σ H v u Q I r h;rw[ha];refine W0 (WV (aR (ho pins s σ H _ I h) λov s1 ⟨x,H1,I1,r1,q1⟩=>?_));refine W0 (WV (aR (hi pins s1 σ H1 _ I1 q1) λiv s2 ⟨y,H2,I2,r2,q2⟩=>?_));refine W0 (wpAny_standAt (W0 (WV (aR (hs pins s2 σ H2 x y v ov iv u _ I2 r1 r2 r q2) λ_ s3 ⟨H3,I3,q3⟩=>?_))));exact wpAny_release ⟨σ,H3,I3,q3⟩
def qc(te:TE)(g:TG):TS:=λD σ H=>te σ H λx H1=>g x σ H1 D.nx
theorem vp(he:PE X e te)(hg:PG X tg g)(hs:swapsWithSole [tg] e pos.line X.env=pure false:=by rfl)(hw:swappedStores [tg] e X.env=pure none:=by rfl)
  (h1:(Qd [tg] X.env).map (·.2)=[assign tg X.env]:=by rfl):PS X (.Assign [tg] e pos) (qc te g):=by
 intro pins s σ H D I h;refine wpAny_Assign_stores (aR (he pins s σ H _ I h) λv s1 ⟨x,H1,I1,r1,q1⟩=>?_) hs hw;rw[h1];exact aR (hg pins s1 σ H1 x v _ I1 r1 q1) λ_ s2 q=>q
theorem IX(hN:X.N.Nodup)(hi:X.N[i]? = some x)(hx:Loc X.env.scope x)(he:PE X e te)(hs:QX e (some (.Name x pos')) pos.line X.env=pure false:=by rfl)(hf:X.fn x=true\/X.env.scope.names.lookup x=some .local:=by first | exact .inl rfl | exact .inr rfl | assumption) :
  PS X (.Assign [.Name x pos'] e pos) (qc te (sH i)):=by
 intro pins s σ H D I h;refine wpAny_Assign_Name (aR (he pins s σ H _ I h) λv s1 ⟨y,H1,I1,r1,q1⟩=>?_) hs;exact Aq I1 hN hi hx r1 (λs2 I2=>⟨_,H1,I2,q1⟩) hf
end
section
variable {X:Cx} {pos:Pos}
def AK(c:TT)(tb:TS):TS:=λD σ H=>∃ W:Nat->St->Hp->Prop,(∃ m,W m σ H)/\∀ m σ H,W m σ H ->
 c σ H λb H1=>if b=true then ∃ N:St->Hp->Prop,(∀ σ' H',N σ' H'->∃ m',m' < m/\W m' σ' H')/\tb { D with nx:=N,ct:=N,bk:=D.nx } σ H1 else D.nx σ H1
theorem IY(hp:PassesOwn (model X.prog X.w) X.A X.env X.xe)(hc:PT X c tc)(hb:eX X body tb):PS X (.While c body [] pos) (AK tc tb):=by
 intro pins s σ H D I h;obtain⟨W,⟨m0,w0⟩,turn⟩:=h;refine wpAny_While (codeAny_whileLoop (λn s'=>∃ σ' H',Inv X pins σ' H' s'/\W n σ' H') ?_ m0 ⟨σ,H,I,w0⟩);rintro n s1 ⟨σ1,H1,I1,w1⟩;refine Jf hp (aR (hc pins s1 σ1 H1 _ I1 (turn n σ1 H1 w1)) λb s2 ⟨H2,I2,q2⟩=>?_)
 cases b with
 | true =>
  obtain⟨N,hN,q2⟩:=q2;rw[if_pos rfl];refine Jf hp (aR (hb pins s2 σ1 H2 _ I2 q2) λf s3 q3=>?_)
  cases f with
  | next =>
   obtain⟨σ3,H3,I3,n3⟩:=q3;obtain⟨m',hm,w3⟩:=hN σ3 H3 n3;exact⟨m',hm,σ3,H3,I3,w3⟩
  | cont =>
   obtain⟨σ3,H3,I3,n3⟩:=q3;obtain⟨m',hm,w3⟩:=hN σ3 H3 n3;exact⟨m',hm,σ3,H3,I3,w3⟩
  | brk=>exact q3
  | ret v=>exact q3
 | false =>
  rw[if_neg WF];exact wpAny_execs_nil ⟨σ1,H2,I2,q2⟩
end
structure It where
 go:Nat->Hp->Prop
 qd:Nat->Hp->V->Hp->Prop
 stop:Nat->Hp->Prop
def fG(X:Cx)(pins:List (Addr×Obj))(H:Hp)(b:Addr):Prop :=
 H b=none/\b≠X.env.locals/\b ∉ X.fs/\(b ∈ X.ex\/X.s₀.heap.objs.size<=b)/\(∀ x c,X.env.cells.lookup x=some c->c≠b)/\∀ p ∈ X.pn ++ pins,p.1≠b
theorem Inv.g6(I:Inv X pins σ H s)(hb:s.heap.objs.size<=b)(hn:H' b=none):fG X pins H' b:=by
 refine⟨hn,WR (Ww I.lt hb),I.Ie hb,.inr (WA I.sz hb),λx c e z=>?_,λp hp z=>?_⟩
 ·obtain⟨v,q⟩:=I.cell x c e;exact absurd (Ww q.lt (by rw[z]; exact hb)) (Qs _)
 ·exact absurd (Ww (Wj (I.pin p hp).1) (by rw[z]; exact hb)) (Qs _)
structure Turn(P:Wm)(w:Wq)(K:W3)(tg:Expr)(J:It)(fp:List Addr)(it:Addr)(tn:Nat->Heap->Prop):Prop where
 mem:it ∈ fp
 obj:∀ i h,tn i h->∀ b ∈ fp,∃ o,h.get? b=some o/\∀ v,o.data≠.cell v
 keep:∀ i h h',tn i h->(∀ b ∈ fp,∀ o,h.get? b=some o->h'.get? b=some o)->tn i h'
 item:∀ (X:Cx),X.prog=P->X.w=w->X.K=K->X.calm=true->∀ (i:Nat) (pins:List (Addr×Obj)) (s:W4) (σ:St) (H:Hp) (E:Value->W4->Prop),Inv X pins σ H s->(∀ b ∈ fp,fG X pins H b)->tn i s.heap->J.go i H ->
  W8 (model P w) X.A (QD (.ref it)) (λr s1=>∃ u,r=some u /\
   W8 (model P w) X.A (letOwnedTupleGo tg (.ref it) u) (λ_ s2=>∃ x H',Inv X pins σ H' s2/\RelV x u/\J.qd i H x H'/\tn (i + 1) s2.heap/\∀ b ∈ fp,H' b=none) E s1) E s
 done:∀ (X:Cx),X.prog=P->X.w=w->X.K=K->X.calm=true->∀ (i:Nat) (pins:List (Addr×Obj)) (s:W4) (σ:St) (H:Hp) (E:Value->W4->Prop),Inv X pins σ H s->(∀ b ∈ fp,fG X pins H b)->tn i s.heap->J.stop i H ->
  W8 (model P w) X.A (QD (.ref it)) (λr s1=>r=none/\Inv X pins σ H s1) E s
 self:∀ (A:Wu) (i:Nat) (s:W4) (Q:Value->W4->Prop) (E:Value->W4->Prop),tn i s.heap->Q (.ref it) s->W8 (model P w) A (pyIter (.ref it)) Q E s
abbrev TI:=St->Hp->(It->Hp->Prop)->Prop
def AL(X:Cx)(pins:List (Addr×Obj))(σ:St)(tg:Expr)(R:It->Hp->Prop)(sI:Value)(s2:W4):Prop :=
 ∃ (it:Addr) (fp:List Addr) (tn:Nat->Heap->Prop) (J:It) (H':Hp),sI = .ref it/\Inv X pins σ H' s2/\Turn X.prog X.w X.K tg J fp it tn/\tn 0 s2.heap/\(∀ b ∈ fp,fG X pins H' b)/\R J H'
def PI(X:Cx)(tg iter:Expr)(wi:TI):Prop :=
 ∀ (pins:List (Addr×Obj)) (s:W4) (σ:St) (H:Hp) (R:It->Hp->Prop),Inv X pins σ H s->wi σ H R ->
  W8 (model X.prog X.w) X.A (eval iter X.env) (λv s1=>W8 (model X.prog X.w) X.A (pyIter v) (AL X pins σ tg R) X.xe s1) X.xe s
theorem sJ(ho:s.heap.get? it=some o)(hc:o.cls = .type n)(hd:o.data = .fields vs)
  (hn:["enumerate","zip","dict_itemiterator","dict_reverseitemiterator","odict_iterator","itertools.zip_longest","itertools.pairwise"].contains n=false) (hQ:Q () s):W8 M A (letOwnedTupleGo tg (.ref it) u) Q E s:=by
 unfold letOwnedTupleGo
 cases tg <;> first
  | exact W5 hQ
  | (cases u <;> first
    | exact W5 hQ
    | (refine W0 (wpAny_load ho ?_); rw[hc,hd]; show W8 M A (if (["enumerate","zip","dict_itemiterator","dict_reverseitemiterator","odict_iterator","itertools.zip_longest","itertools.pairwise"].contains n && vs[0]? == some (JF _))=true then _ else _) Q E s; rw[if_neg (by intro h; rw[hn,Bool.false_and] at h; cases h)]; exact W5 hQ))
def vq(K:W3)(a:Addr):It :=
 ⟨λi H=>∃ xs x,bW K H a xs/\xs[i]? = some x,λi H x H'=>H'=H/\∀ xs,bW K H a xs->xs[i]? = some x,λi H=>∃ xs,bW K H a xs/\xs.length<=i⟩
def sL(K:W3)(a:Addr):It :=
 ⟨λi H=>∃ xs x,cH K H a xs/\xs[i]? = some x,λi H x H'=>H'=H/\∀ xs,cH K H a xs->xs[i]? = some x,λi H=>∃ xs,cH K H a xs/\xs.length<=i⟩
def sM(lo:Int)(n:Nat):It:=⟨λi _=>i < n,λi H x H'=>H'=H/\x = .int (lo + i),λi _=>n<=i⟩
theorem IZ{P:Wm}{w:Wq}{K:W3}{tg:Expr}(a it:Addr):Turn P w K tg (vq K a) [it] it (λi h=>h.IsListIter it a i) where
 mem:=by simp
 obj:=λi h st b hb=>by
  have e:b=it:=by simpa using hb
  subst e;obtain⟨o,e,c,d⟩:=st;exact⟨o,e,λv z=>by rw[d] at z; cases z⟩
 keep:=λi h h' st k=>st.at λo e=>k it (by simp) o e
 item:=by
  intro X hP hw hK hc i pins s σ H E I hf st hg;subst hP hw hK;obtain⟨xs,x,hq,hx⟩:=hg;obtain⟨ah,rv,p,hz⟩:=I.list hq;obtain⟨u,hu,ru⟩:=rv.get hx;obtain⟨f0,f1,f2,f3,f4,f5⟩:=hf it (by simp);refine wpAny_pyNext_list_item st p.isList (x:=u) (by simpa using hu) λh' g7 sb=>?_
  have I1:Inv X pins σ H { s with heap:=h' }:=I.turned (t':=s.toks) (λb o hb e=>(sb.2 b hb).trans e) f0 f1 f3 f4 f5;obtain⟨o,e,c,d⟩:=id g7;exact⟨u,rfl,sJ (s:={ s with heap:=h' }) e c d (by decide) ⟨x,H,I1,ru,⟨rfl,λys hy=>by rw[I.qb hy hq]; exact hx⟩,g7,λb hb=>(hf b hb).1⟩⟩
 done:=by
  intro X hP hw hK hc i pins s σ H E I hf st hg;subst hP hw hK;obtain⟨xs,hq,hx⟩:=hg;obtain⟨ah,rv,p,hz⟩:=I.list hq;obtain⟨f0,f1,f2,f3,f4,f5⟩:=hf it (by simp);have hl:=rv.length;exact wpAny_pyNext_list_end (I.ok.hd hc) st p.isList (by simp; omega) λh' eb=>⟨rfl,I.turned (t':=s.toks) (λb o hb e=>eb b o hb e) f0 f1 f3 f4 f5⟩
 self:=λ_ _ _ _ _ st h=>wpAny_pyIter_listiter st h
theorem I0{P:Wm}{w:Wq}{K:W3}{tg:Expr}(a it:Addr):Turn P w K tg (sL K a) [it] it (λi h=>h.IsTupleIter it a i) where
 mem:=by simp
 obj:=λi h st b hb=>by
  have e:b=it:=by simpa using hb
  subst e;obtain⟨o,e,c,d⟩:=st;exact⟨o,e,λv z=>by rw[d] at z; cases z⟩
 keep:=λi h h' st k=>st.at λo e=>k it (by simp) o e
 item:=by
  intro X hP hw hK hc i pins s σ H E I hf st hg;subst hP hw hK;obtain⟨xs,x,hq,hx⟩:=hg;obtain⟨ah,rv,p,hz⟩:=I.tuple hq;obtain⟨u,hu,ru⟩:=rv.get hx;obtain⟨f0,f1,f2,f3,f4,f5⟩:=hf it (by simp);refine wpAny_pyNext_tuple_item st (show s.heap.IsTuple a ah.toArray from p) (x:=u) (by simpa using hu) λh' g7 sb=>?_
  have I1:Inv X pins σ H { s with heap:=h' }:=I.turned (t':=s.toks) (λb o hb e=>(sb.2 b hb).trans e) f0 f1 f3 f4 f5;obtain⟨o,e,c,d⟩:=id g7;exact⟨u,rfl,sJ (s:={ s with heap:=h' }) e c d (by decide) ⟨x,H,I1,ru,⟨rfl,λys hy=>by rw[I.vn hy hq]; exact hx⟩,g7,λb hb=>(hf b hb).1⟩⟩
 done:=by
  intro X hP hw hK hc i pins s σ H E I hf st hg;subst hP hw hK;obtain⟨xs,hq,hx⟩:=hg;obtain⟨ah,rv,p,hz⟩:=I.tuple hq;obtain⟨f0,f1,f2,f3,f4,f5⟩:=hf it (by simp);have hl:=rv.length;exact wpAny_pyNext_tuple_end (I.ok.hd hc) st (show s.heap.IsTuple a ah.toArray from p) (by simp; omega) λh' eb=>⟨rfl,I.turned (t':=s.toks) (λb o hb e=>eb b o hb e) f0 f1 f3 f4 f5⟩
 self:=λ_ _ _ _ _ st h=>wpAny_pyIter_tupleiter st h
theorem I_{P:Wm}{w:Wq}{K:W3}{tg:Expr}(it:Addr)(lo:Int)(n:Nat):Turn P w K tg (sM lo n) [it] it (λi h=>IsRangeIter h it (lo + (i:Nat) * 1) ((n:Int) - (i:Nat)) 1) where
 mem:=by simp
 obj:=λi h st b hb=>by
  have e:b=it:=by simpa using hb
  subst e;exact⟨_,st,λv z=>by
   have z':Data.fields _=Data.cell v:=z
   cases z'⟩
 keep:=λi h h' st k=>k it (by simp) _ st
 item:=by
  intro X hP hw hK hc i pins s σ H E I hf st hg;subst hP hw hK;obtain⟨f0,f1,f2,f3,f4,f5⟩:=hf it (by simp);have W:=Walks.range (prog:=X.prog) (w:=X.w) (I.ok.hd hc) it lo 1 n;refine W.item i s _ _ hg st λv h' tk hv g7 kk=>?_
  obtain⟨t,rfl⟩:=hv;have I1:Inv X pins σ H { s with heap:=h',toks:=tk }:=I.turned (λb o hb e=>kk b o (by simpa using hb) e) f0 f1 f3 f4 f5;refine⟨_,rfl,sJ (s:={ s with heap:=h',toks:=tk }) (n:="range_iterator") g7 rfl rfl (by decide) ⟨.int (lo + i),H,I1,⟨t,?_⟩,⟨rfl,rfl⟩,g7,λb hb=>(hf b hb).1⟩⟩;rw[Int.mul_one]
 done:=by
  intro X hP hw hK hc i pins s σ H E I hf st hg;subst hP hw hK;obtain⟨f0,f1,f2,f3,f4,f5⟩:=hf it (by simp);exact wpAny_pyNext_range_end (I.ok.hd hc) st (by have:n<=i:=hg; omega) λh' eb=>⟨rfl,I.turned (t':=s.toks) (λb o hb e=>eb b o hb e) f0 f1 f3 f4 f5⟩
 self:=λ_ _ _ _ _ st h=>wpAny_pyIter_rangeiter st h
section
variable {X:Cx} {tg:Expr}
theorem J_{pins:List (Addr×Obj)}{σ:St}{H:Hp}{s:W4}{R:It->Hp->Prop}{E:Value->W4->Prop}{lo hi:Int}{t u v:Tok}{tk:Nat}(I:Inv X pins σ H s)(h1 : -(2 ^ 62)<=lo)(h2:lo < 2 ^ 62)(h3 : -(2 ^ 62)<=hi)(h4:hi < 2 ^ 62)
  (q:R (sM lo (hi - lo).toNat) H):W8 (model X.prog X.w) X.A (pyIter (.ref s.heap.objs.size)) (AL X pins σ tg R) E { s with heap:=s.heap.push { cls:=.type "range",data:=.fields #[.int lo t,.int hi u,.int 1 v] },toks:=tk }:=by
 refine wpAny_pyIter_range (IsRange.new ..) (small_one h1 h2 h3 h4) ?_;have I1:Inv X pins σ H { s with heap:=s.heap.push { cls:=.type "range",data:=.fields #[.int lo t,.int hi u,.int 1 v] },toks:=tk }:=I.kept λb o e=>Wa _ e
 refine⟨(s.heap.push { cls:=.type "range",data:=.fields #[.int lo t,.int hi u,.int 1 v] }).objs.size,[(s.heap.push { cls:=.type "range",data:=.fields #[.int lo t,.int hi u,.int 1 v] }).objs.size],_,_,H,rfl,
  I1.kept (t':=tk) λb o e=>Wa _ e,I_ _ lo (hi - lo).toNat,?_,λb hb=>?_,q⟩
 ·have e1:lo + ((0:Nat):Int) * 1=lo:=by simp
  have e2:(((hi - lo).toNat:Nat):Int) - ((0:Nat):Int)=Builtin.Range.rangeSize lo hi 1:=by rw[rangeSize_one]; split <;> omega
  show IsRangeIter _ _ (lo + ((0:Nat):Int) * 1) ((((hi - lo).toNat:Nat):Int) - ((0:Nat):Int)) 1;rw[e1,e2];exact Wl _ rfl
 ·have e:b=(s.heap.push { cls:=.type "range",data:=.fields #[.int lo t,.int hi u,.int 1 v] }).objs.size:=by simpa using hb
  subst e;exact I1.g6 (Wh _) (I1.aB.fresh (Wh _))
def Ka(ta:TA):TI:=λσ H R=>ta σ H λvs H1=>∃ j:Int,vs=[.int j]/\-(2 ^ 62)<=j/\j < 2 ^ 62/\R (sM 0 j.toNat) H1
theorem Kb {a:Expr} {ta:TA} {p pos:Pos} (hg:Gl X "range") (hm:X.mg "range" = none) (ha:PA X [a] ta) (hs:Wf [a] X.env=[(false,eval a X.env)]:=by rfl):PI X tg (.Call (.Name "range" p) [a] [] pos) (Ka ta):=by
 intro pins s σ H R I h;refine Call_ (j0 I hg hm boot_range (Q0 (aR (ha pos pins s σ H _ I h) λus s1 ⟨vs,H1,I1,r1,q1⟩=>?_) hs rfl));obtain⟨j,e,q1,q2,q⟩:=q1;subst e
 cases r1 with
 | cons r rr =>
  cases rr;obtain⟨t,rfl⟩:=r;exact call_range_1 (J_ I1 (by omega) (by omega) q1 q2 (by simpa using q))
def Kc(wi:TI)(g:TG)(tb:TS):TS:=λD σ H=>wi σ H λJ H1=>∃ W:Nat->Nat->St->Hp->Prop,(∃ m,W 0 m σ H1)/\∀ i m σ H,W i m σ H ->
 (J.stop i H/\D.nx σ H)\/(J.go i H/\∃ N:St->Hp->Prop,(∀ σ' H',N σ' H'->∃ m',m' < m/\W (i + 1) m' σ' H')/\∀ x H',J.qd i H x H'->g x σ H' λσ2 H2=>tb { D with nx:=N,ct:=N,bk:=D.nx } σ2 H2)
def qe(fp:List Addr)(h:Heap):List (Addr×Obj):=fp.filterMap λb=>(h.get? b).map λo=>(b,o)
theorem sN(hb:b ∈ fp)(e:h.get? b=some o):(b,o) ∈ qe fp h:=List.mem_filterMap.mpr ⟨b,hb,by rw[e]; rfl⟩
theorem Kd(hp:p ∈ qe fp h):p.1 ∈ fp/\h.get? p.1=some p.2:=by
 obtain⟨b,hb,e⟩:=List.mem_filterMap.mp hp
 cases q:h.get? b with
 | none=>rw[q] at e; cases e
 | some o =>
  rw[q] at e;have e':(b,o)=p:=Wy e;subst e';exact⟨hb,q⟩
theorem Inv.pinned(I:Inv X pins σ H s)(hf:∀ b ∈ fp,fG X pins H b)(ho:∀ b ∈ fp,∃ o,s.heap.get? b=some o/\∀ v,o.data≠.cell v):Inv X (pins ++ qe fp s.heap) σ H s :=
 I.Am λp hp=>(Je.mp hp).elim (λz=>I.pin p (Q2 _ z)) λz=>by
  obtain⟨hb,e⟩:=Kd z;obtain⟨f0,f1,f2,_⟩:=hf p.1 hb;obtain⟨o,e',d⟩:=ho p.1 hb;rw[e] at e'; cases e'
  exact⟨e,f0,f1,f2,d⟩
theorem Inv.sO(I:Inv X (pins ++ pl) σ H s):Inv X pins σ H s:=I.Am λp hp=>I.pin p (Q2 _ (List.mem_append_left _ hp))
theorem AM(hp:PassesOwn (model X.prog X.w) X.A X.env X.xe)(hc:X.calm=true)(hi:PI X tg iter wi)(hg:PG X tg g)(hb:eX X body tb)
  (hs:∀ x,QW iter X.env x=pure x:=by intro _; rfl):PS X (.For tg iter body [] pos) (Kc wi g tb):=by
 intro pins s σ H D I h;refine wpAny_For (aR (hi pins s σ H _ I h) λv s1 h1=>aR h1 λsI s2 h2=>?_) hs;obtain⟨it,fp,tn,J,H2,e,I2,T,st2,f2,W,⟨m0,w0⟩,turn⟩:=h2;subst e;-- what stays true of the iterator's objects through the loop
 have vw:∀ {H':Hp},(∀ b ∈ fp,H' b=none)->∀ b ∈ fp,fG X pins H' b:=λhn b hb=>⟨hn b hb,(f2 b hb).2⟩
 refine codeAny_forLoop_any (λn s'=>∃ i σ' H',Inv X pins σ' H' s'/\tn i s'.heap/\(∀ b ∈ fp,H' b=none)/\W i n σ' H') ?_ m0 ⟨0,σ,H2,I2,st2,λb hb=>(f2 b hb).1,w0⟩;rintro n s3 ⟨i,σ3,H3,I3,lN,fr3,w3⟩;rcases turn i n σ3 H3 w3 with ⟨stop,qn⟩ | ⟨go,N,hN,step⟩
 ·refine Jf hp (aR (T.done X rfl rfl rfl hc i pins s3 σ3 H3 X.xe I3 (vw fr3) lN stop) λr s4 ⟨hr,I4⟩=>?_);subst hr;exact wpAny_execs_nil ⟨σ3,H3,I4,qn⟩
 ·refine Jf hp (aR (T.item X rfl rfl rfl hc i pins s3 σ3 H3 X.xe I3 (vw fr3) lN go) λr s4 ⟨u,hr,h4⟩=>?_);subst hr;refine Jf hp (aR h4 λ_ s5 ⟨x,H5,I5,r5,y5,st5,fr5⟩=>?_);have Ke:=I5.pinned (vw fr5) (T.obj _ _ st5);refine Jf hp (aR (hg _ s5 σ3 H5 x u _ Ke r5 (step x H5 y5)) λ_ s6 ⟨σ6,H6,I6,q6⟩=>?_);refine Jf hp (aR (hb _ s6 σ6 H6 _ I6 q6) λf s7 q7=>?_);have again:∀ {σ7:St} {H7:Hp},Inv X (pins ++ qe fp s5.heap) σ7 H7 s7->N σ7 H7->∃ m,m < n/\∃ i σ' H',Inv X pins σ' H' s7/\tn i s7.heap/\(∀ b ∈ fp,H' b=none)/\W i m σ' H':=λ{σ7 H7} I7 n7=>by
   obtain⟨m',hm,w7⟩:=hN σ7 H7 n7;refine⟨m',hm,i + 1,σ7,H7,I7.sO,T.keep _ _ _ st5 λb hb o e=>(I7.pin (b,o) (Q2 _ (Q2 _ (sN hb e)))).1,λb hb=>?_,w7⟩;obtain⟨o,e,d⟩:=T.obj _ _ st5 b hb;exact(I7.pin (b,o) (Q2 _ (Q2 _ (sN hb e)))).2.1
  cases f with
  | next=>obtain⟨σ7,H7,I7,n7⟩:=q7; exact again I7 n7
  | cont=>obtain⟨σ7,H7,I7,n7⟩:=q7; exact again I7 n7
  | brk=>obtain⟨σ7,H7,I7,q7⟩:=q7; exact⟨σ7,H7,I7.sO,q7⟩
  | ret v=>obtain⟨x7,σ7,H7,I7,r7,q7⟩:=q7; exact⟨x7,σ7,H7,I7.sO,r7,q7⟩
end
abbrev R2:=V->V->Hp->VK->Prop
def bN(X:Cx)(f:Value->Value->Sem Value)(r:R2):Prop :=
 ∀ (pins:List (Addr×Obj)) (s:W4) (σ:St) (H:Hp) (x y:V) (v u:Value) (Q:VK),Inv X pins σ H s->RelV x v->RelV y u->r x y H Q ->
  W8 (model X.prog X.w) X.A (f v u) (EP X pins σ Q) X.xe s
def fH(X:Cx)(f:Value)(r:List V->Hp->VK->Prop):Prop :=
 ∀ (pins:List (Addr×Obj)) (s:W4) (σ:St) (H:Hp) (xs:List V) (us:List Value) (Q:VK),Inv X pins σ H s->Vals xs us->r xs H Q ->
  W8 (model X.prog X.w) X.A (call f us) (EP X pins σ Q) X.xe s
def jo(r:R2)(ta tb:TE):TE:=λσ H Q=>ta σ H λx H1=>tb σ H1 λy H2=>r x y H2 Q
def Kf(r:V->Hp->VK->Prop)(ta:TE):TE:=λσ H Q=>ta σ H λx H1=>r x H1 Q
def rI(C:Int->Int->Prop)(g:Int->Int->V):R2:=λx y H Q=>∃ i j,x = .int i/\y = .int j/\C i j/\Q (g i j) H
def iq(g:Int->Int->V):R2:=λx y H Q=>∃ i j,x = .int i/\y = .int j/\Q (g i j) H
section
variable {X:Cx} {a b c:Expr} {ta tb tc:TE} {pos:Pos}
theorem vx(ha:PE X a ta)(hb:PE X b tb){pins:List (Addr×Obj)}{s:W4}{σ:St}{H:Hp}{R:V->V->Hp->Prop}(I:Inv X pins σ H s)
  (h:ta σ H λx H1=>tb σ H1 λy H2=>R x y H2) {Q:Value->W4->Prop} {f:Value->Value->Sem Value}
  (hf:∀ v u s2 x y H2,Inv X pins σ H2 s2->RelV x v->RelV y u->R x y H2->W8 (model X.prog X.w) X.A (f v u) Q X.xe s2) :
  W8 (model X.prog X.w) X.A (eval a X.env) (λv s₁=>W8 (model X.prog X.w) X.A (eval b X.env) (λu s₂=>W8 (model X.prog X.w) X.A (f v u) Q X.xe s₂) X.xe s₁) X.xe s:=by
 refine aR (ha pins s σ H _ I h) λv s1 ⟨x,H1,I1,r1,q1⟩=>?_
 refine aR (hb pins s1 σ H1 _ I1 q1) λu s2 ⟨y,H2,I2,r2,q2⟩=>?_
 exact hf v u s2 x y H2 I2 r1 r2 q2
theorem vy{op:Operator}{r:R2}(ho:bN X (Qg op) r)(ha:PE X a ta)(hb:PE X b tb):PE X (.BinOp a op b pos) (jo r ta tb):=by
 intro pins s σ H Q I h;exact wpAny_BinOp (vx ha hb I h λv u s2 x y H2 I2 rx ry q=>ho pins s2 σ H2 x y v u Q I2 rx ry q)
theorem oG{f:Value->Value->Sem Value}{C:Int->Int->Prop}{g:Int->Int->Int}
  (rule:∀ (i j:Int) (t u:Tok) (s:W4) (Q:Value->W4->Prop) (E:Value->W4->Prop),C i j->Q (.int (g i j) s.toks) { s with toks:=s.toks + 1 }->W8 (model X.prog X.w) X.A (f (.int i t) (.int j u)) Q E s) :
  bN X f (rI C λi j=>.int (g i j)):=by
 intro pins s σ H x y v u Q I rx ry h;obtain⟨i,j,rfl,rfl,hc,q⟩:=h;obtain⟨t,rfl⟩:=rx;obtain⟨t',rfl⟩:=ry;exact rule i j t t' s _ _ hc ⟨.int (g i j),H,I.tok _,⟨_,rfl⟩,q⟩
theorem AN{f:Value->Value->Sem Value}{g:Int->Int->Int}
  (rule:∀ (i j:Int) (t u:Tok) (s:W4) (Q:Value->W4->Prop) (E:Value->W4->Prop),Q (.int (g i j) s.toks) { s with toks:=s.toks + 1 }->W8 (model X.prog X.w) X.A (f (.int i t) (.int j u)) Q E s) :
  bN X f (iq λi j=>.int (g i j)):=by
 intro pins s σ H x y v u Q I rx ry h;obtain⟨i,j,rfl,rfl,q⟩:=h;obtain⟨t,rfl⟩:=rx;obtain⟨t',rfl⟩:=ry;exact rule i j t t' s _ _ ⟨.int (g i j),H,I.tok _,⟨_,rfl⟩,q⟩
theorem sP{f:Value->Value->Sem Value}{g:Int->Int->Bool}
  (rule:∀ (i j:Int) (t u:Tok) (s:W4) (Q:Value->W4->Prop) (E:Value->W4->Prop),Q (.bool (g i j)) s->W8 (model X.prog X.w) X.A (f (.int i t) (.int j u)) Q E s) :
  bN X f (iq λi j=>.bl (g i j)):=by
 intro pins s σ H x y v u Q I rx ry h;obtain⟨i,j,rfl,rfl,q⟩:=h;obtain⟨t,rfl⟩:=rx;obtain⟨t',rfl⟩:=ry;exact rule i j t t' s _ _ ⟨.bl (g i j),H,I,rfl,q⟩
def AO(i j:Int):Prop:=0 < j/\j < 1073741824
def AQ(i j:Int):Prop:=0<=j/\j<=1000000/\i.natAbs < 2 ^ 64
def qf(i j:Int):Prop:=(-(2 ^ 64) < i/\i < 2 ^ 64)\/(-(2 ^ 64) < j/\j < 2 ^ 64)
theorem qf.ok(h:qf i j):IntMulOk i j:=by
 rcases h with ⟨h1,h2⟩ | ⟨h1,h2⟩
 ·exact .of_left (intBits_le_64 h1 h2)
 ·exact .of_right (intBits_le_64 h1 h2)
theorem AS:bN X (Qg .Add) (iq λi j=>.int (i + j)):=AN λ_ _ _ _ _ _ _ q=>add_int q
theorem AU:bN X (Qg .Sub) (iq λi j=>.int (i - j)):=AN λ_ _ _ _ _ _ _ q=>sub_int q
theorem Kg:bN X (Qg .Mult) (rI qf λi j=>.int (i * j)):=oG λ_ _ _ _ _ _ _ hc q=>mul_int q hc.ok
theorem qg:bN X (Qg .FloorDiv) (rI AO λi j=>.int (i / j)):=oG λi j _ _ _ _ _ hc q=>by
 have h1:(0:Int) < j:=hc.1;have h2:j < 1073741824:=hc.2;exact floordiv_int (by omega) (by rw[Int.fdiv_eq_ediv_of_nonneg i (by omega)]; exact q) (.inl (PyProof.noPylong_small (by omega)))
theorem kJ:bN X (Qg .Mod) (rI (λ_ j=>0 < j) λi j=>.int (i % j)):=oG λi j _ _ _ _ _ hc q=>by
 have h1:(0:Int) < j:=hc;exact mod_int' (by omega) (by rw[Int.fmod_eq_emod_of_nonneg i (by omega)]; exact q)
theorem Kh:bN X (Qg .Pow) (rI AQ λi j=>.int (i ^ j.toNat)):=oG λ_ _ _ _ _ _ _ hc q=>pow_int_small hc.1 hc.2.1 hc.2.2 q
end
section
variable {X:Cx} {a b c:Expr} {ta tb tc:TE} {pos:Pos}
theorem AV(I:Inv X pins σ H s)(q:Q (.bl k) H)(e:k=k'):EP X pins σ Q (.bool k') s:=by
 subst e;exact⟨.bl k,H,I,rfl,q⟩
theorem Ki:bN X (WT .Lt) (iq λi j=>.bl (decide (i < j))):=sP λ_ _ _ _ _ _ _ q=>lt_int q
theorem Kj:bN X (WT .LtE) (iq λi j=>.bl (decide (i<=j))):=sP λ_ _ _ _ _ _ _ q=>le_int q
theorem Kk:bN X (WT .Gt) (iq λi j=>.bl (decide (j < i))):=sP λ_ _ _ _ _ _ _ q=>gt_int q
theorem Kl:bN X (WT .GtE) (iq λi j=>.bl (decide (j<=i))):=sP λ_ _ _ _ _ _ _ q=>ge_int q
theorem Km:bN X (WT .Lt) (λx y H Q=>∃ i j,x = .str i/\y = .str j/\Q (.bl (decide (i.cps.toList < j.cps.toList))) H):=by
 intro pins s σ H x y v u Q I rx ry h;obtain⟨i,j,rfl,rfl,q⟩:=h;obtain⟨t,rfl⟩:=rx;obtain⟨t',rfl⟩:=ry;exact lt_str (AV I q rfl)
theorem Kn:bN X (WT .NotIn) (λx y H Q=>∃ i j,x = .str i/\y = .str j/\Q (.bl (!(!(Builtin.Str.occurrences j i 0 j.length 1).isEmpty))) H):=by
 intro pins s σ H x y v u Q I rx ry h;obtain⟨i,j,rfl,rfl,q⟩:=h;obtain⟨t,rfl⟩:=rx;obtain⟨t',rfl⟩:=ry;exact notIn_str (AV I q rfl)
theorem bN.or(h:bN X f r)(h':bN X f r'):bN X f (λx y H Q=>r x y H Q\/r' x y H Q):=by
 intro pins s σ H x y v u Q I rx ry q;rcases q with q | q
 ·exact h pins s σ H x y v u Q I rx ry q
 ·exact h' pins s σ H x y v u Q I rx ry q
theorem eZ(b:Expr)(h:op≠.In:=by decide)(h2:op≠.NotIn:=by decide):QA op b=false:=by
 have e1:(op == CmpOp.In)=false:=by cases op <;> first | rfl | exact absurd rfl h
 have e2:(op == CmpOp.NotIn)=false:=by cases op <;> first | rfl | exact absurd rfl h2
 cases b <;> simp[QA,e1,e2]
theorem AX{op:CmpOp}{r:R2}(ho:bN X (WT op) r)(ha:PE X a ta)(hb:PE X b tb)(hm:QA op b=false):PE X (.Compare a [op] [b] pos) (jo r ta tb):=by
 intro pins s σ H Q I h;exact wpAny_Compare1 (vx ha hb I h λv u s2 x y H2 I2 rx ry q=>ho pins s2 σ H2 x y v u Q I2 rx ry q) hm
def Ko(t:TE):TT:=λσ H Q=>t σ H λx H'=>∃ k,x = .bl k/\Q k H'
theorem AY(ho:bN X (WT op) r)(ha:PE X a ta)(hb:PE X b tb)(hm:QA op b=false):PT X (.Compare a [op] [b] pos) (Ko (jo r ta tb)):=by
 intro pins s σ H Q I h;refine wpAny_isTrue_Compare1 (aR (ha pins s σ H _ I h) λv s1 ⟨x,H1,I1,r1,q1⟩=>aR (hb pins s1 σ H1 _ I1 q1) λu s2 ⟨y,H2,I2,r2,q2⟩ =>
  aR (ho pins s2 σ H2 x y v u _ I2 r1 r2 q2) λc s3 ⟨z,H3,I3,r3,k,e,q3⟩=>?_) hm
 subst e
 cases r3;exact Qc ⟨H3,I3,q3⟩
theorem oH:(Wd:Nat) < 2 ^ 63:=by rw[JJ]; decide
theorem Kp:bN X (Qg .Add) (λx y H Q=>∃ i j,x = .str i/\y = .str j/\i.length + j.length<=Wd/\Q (.str (i ++ j)) H):=by
 intro pins s σ H x y v u Q I rx ry h;obtain⟨i,j,rfl,rfl,hz,q⟩:=h;obtain⟨t,rfl⟩:=rx;obtain⟨t',rfl⟩:=ry;exact add_str (λt' tk=>⟨.str (i ++ j),H,I.tok _,⟨_,rfl⟩,q⟩) hz
theorem jq(r:Vals [x] us):∃ u,us=[u]/\RelV x u:=by
 cases r with
 | cons r1 r2=>cases r2; exact⟨_,rfl,r1⟩
theorem AZ(r:Vals [x,y] us):∃ u w',us=[u,w']/\RelV x u/\RelV y w':=by
 cases r with
 | cons r1 r2 =>
  cases r2 with
  | cons r3 r4=>cases r4; exact⟨_,_,rfl,r1,r3⟩
theorem Kq (hc:X.calm=true):fH X (.builtin "max") (λxs H Q=>∃ i j,xs=[.int i,.int j]/\Q (.int (if j > i then j else i)) H):=by
 intro pins s σ H xs us Q I r h;obtain⟨i,j,rfl,q⟩:=h;obtain⟨u,w',rfl,⟨t,rfl⟩,⟨t',rfl⟩⟩:=AZ r;refine max_two_ints (I.ok.hd hc) λh' tk k=>⟨_,H,I.kept k,?_,q⟩
 by_cases hj:j > i
 ·rw[if_pos hj,if_pos hj]; exact⟨_,rfl⟩
 ·rw[if_neg hj,if_neg hj]; exact⟨_,rfl⟩
theorem Kr:fH X (.type "int") (λxs H Q=>(∃ i,xs=[.int i]/\Q (.int i) H)\/∃ k,xs=[.bl k]/\Q (.int (if k then 1 else 0)) H):=by
 intro pins s σ H xs us Q I r h;rcases h with ⟨i,rfl,q⟩ | ⟨k,rfl,q⟩
 ·obtain⟨u,rfl,t,rfl⟩:=jq r;exact call_int_int ⟨.int i,H,I,⟨_,rfl⟩,q⟩
 ·obtain⟨u,rfl,r1⟩:=jq r
  cases r1;exact call_int_bool ⟨.int (if k then 1 else 0),H,I.tok _,⟨_,rfl⟩,q⟩
end
structure vz(h:Heap)(x dx C:Addr)(mA:Str->Option Value):Prop where
 obj:h.get? x=some (PySem.W.instObj C dx)
 ns:h.Ns1 dx mA
 ne:dx≠x
theorem Ks{h:Heap}{dx:Addr}{mA:Str->Option Value}(n:h.Ns1 dx mA):∃ od,h.get? dx=some od/\∀ name,PySem.W.lookIn name od=some (mA name):=by
 obtain⟨o,es,ep,ho,hd,hk,_,hm⟩:=n;refine⟨o,ho,λname=>?_⟩;have e:=hm name;unfold nsFind findBy at e;rw[<- Array.find?_toList] at e;unfold PySem.W.lookIn;rw[hd];dsimp only;split
 ·rename_i y q;rw[q] at e;exact congrArg some e
 ·rename_i q;rw[q] at e;have a:es.toList.any (·.refKey)=false:=by
   rw[Jl];intro y hy;obtain⟨z,t,hkey⟩:=hk y (Array.mem_toList_iff.mp hy);simp[DictEntry.refKey,hkey]
  have a':¬ es.toList.any (·.refKey)=true:=by rw[a]; exact WF
  rw[if_neg a'];exact congrArg some e
theorem vz.look(I:vz h x dx C mA):∃ od,PySem.W.InstAt h x (PySem.W.instObj C dx) C (some od)/\∀ name,PySem.W.lookIn name od=some (mA name) :=
 let ⟨od,ho,hl⟩:=Ks I.ns
 ⟨od,⟨I.obj,rfl,rfl,ho⟩,hl⟩
section
variable {prog:Wm} {w:Wq} {A:Wu} {E:Value->W4->Prop} {s:W4} {K:W3} {x dx C f:Addr} {mA:Str->Option Value} {name:Str} {v:Value}
end
theorem eO.some_of(r:eO (some v) o):∃ u,o=some u/\RelV v u:=by
 cases o with
 | none=>exact(show False from r).elim
 | some u=>exact⟨u,rfl,r⟩
theorem eO.none_of(r:eO none o):o=none:=by
 cases o with
 | none=>rfl
 | some u=>exact(show False from r).elim
section
variable {P:Wm} {w:Wq} {H H':Hp} {h h':Heap} {a C dx:Addr} {fs HY:List (Str×V)}
theorem Kt(aB:cG P w H h)(e:H a=some (.ins C dx fs)):∃ mA,vz h a dx C mA/\(∀ f,eO (fs.lookup f) (mA f))/\PySem.Within mA (fs.map (·.1))/\fs.length<=1000/\H dx=some (.own a):=by
 obtain⟨d,z,ne,ob,mA,n,r,q⟩:=(show cj P w H h a (.ins C dx fs) from aB a _ e)
 exact⟨mA,⟨ob,n,ne⟩,r,q,z,d⟩
end
structure vA(K:W3)(C:Addr):Prop where
 pg:PySem.W.plainGet K C Str.empty=true
 hd:PySem.W.hasDictIn K C=true
 po:PySem.W.plainOver K C=true
 sa:PySem.W.findIn K (.ref C) "__setattr__" = some (some (.builtin "object.__setattr__"))
theorem vA.get{K:W3}{C:Addr}(c:vA K C)(f:Str):PySem.W.plainGet K C f=true:=c.pg
section
variable {X:Cx} {pins:List (Addr×Obj)} {σ:St} {H:Hp} {s:W4} {a C dx:Addr} {fs:List (Str×V)} {f:Str} {v:V} {A:Wu} {E:Value->W4->Prop}
end
section
variable {X:Cx} {o e value:Expr} {f:Str} {pos pos' Ku:Pos} {ta tv:TE}
end
section
variable {X:Cx} {pins:List (Addr×Obj)} {σ:St} {H:Hp} {s:W4} {A:Wu} {E:Value->W4->Prop} {Q:Value->W4->Prop} {c:Value} {b:Bool}
inductive iT (K:W3) (H:Hp):V->Value->Prop where
 | bf:iT K H .bf (.type "NoneType")
 | bl (x:Bool):iT K H (.bl x) (.type "bool")
 | int (i:Int):iT K H (.int i) (.type "int")
 | str (x:Str):iT K H (.str x) (.type "str")
 | flt (x:UInt64):iT K H (.flt x) (.type "float")
 | lst {a:Addr} {xs:List V} (e:H a=some (.lst xs)):iT K H (.ref a) (.type "list")
 | frz {a:Addr} {o:Obj} {xs:List V} (e:H a=some (.frz o (.lst xs))):iT K H (.ref a) (.type "list")
 | tup {a:Addr} {xs:List V} (e:H a=some (.tup xs)):iT K H (.ref a) (.type "tuple")
 | dK {a:Addr} {ae:List (Key×V)} (e:H a=some (.dK ae)):iT K H (.ref a) (.type "dict")
 | dT {a:Addr} {ae:List (List Key×V)} (e:H a=some (.dT ae)):iT K H (.ref a) (.type "dict")
 | ins {a C dx:Addr} {fs:List (Str×V)} (e:H a=some (.ins C dx fs)) (cl:vA K C) (ha:PySem.W.findIn K (.ref C) "__class__" = some (some (.builtin "object.__class__")))
   (hn:PySem.W.specialIn K (.builtin "object.__class__") "__get__" = some (some (.builtin "getset_descriptor.__get__"))) (A0:PySem.W.takesIn K (.builtin "object.__class__")=some true)
   (hm:PySem.W.mroIn K C (.type "object")=some true):iT K H (.ref a) (.ref C)
theorem lO(I:Inv X pins σ H s)(rx:RelV x u)(ty:iT X.K H x t)(e:J0 X.K t c=some b)(h:∀ tk,Q (.bool b) { s with toks:=tk }) :
  W8 (model X.prog X.w) A (call (.builtin "isinstance") [u,c]) Q E s:=by
 cases ty with
 | bf=>cases (show u=Value.none from rx); exact Qk PySem.W.kitx_none I.gb True.intro e (λz=>nomatch z) h
 | bl y=>cases (show u=Value.bool y from rx); exact Qk PySem.W.kitx_bool I.gb True.intro e (λz=>nomatch z) h
 | int i=>obtain⟨t,q⟩:=(show ∃ t,u=Value.int i t from rx); cases q; exact Qk PySem.W.kitx_int I.gb True.intro e (λz=>nomatch z) h
 | str y=>obtain⟨t,q⟩:=(show ∃ t,u=Value.str y t from rx); cases q; exact Qk PySem.W.kitx_str I.gb True.intro e (λz=>nomatch z) h
 | flt y=>obtain⟨t,q⟩:=(show ∃ t,u=Value.float y t from rx); cases q; exact Qk PySem.W.kitx_float I.gb True.intro e (λz=>nomatch z) h
 | @lst a xs ea =>
  cases (show u=Value.ref a from rx);obtain⟨_,_,n,_,h1⟩:=(show cj X.prog X.w H s.heap a (.lst xs) from I.aB a _ ea)
  exact Qk PySem.W.kitx_list I.gb ⟨_,h1,rfl⟩ e (λz=>nomatch z) h
 | @frz a ob xs ea =>
  cases (show u=Value.ref a from rx);obtain⟨_,_,_,n,_,h1⟩:=(show cj X.prog X.w H s.heap a (.frz ob (.lst xs)) from I.aB a _ ea)
  exact Qk PySem.W.kitx_list I.gb ⟨_,h1,rfl⟩ e (λz=>nomatch z) h
 | @tup a xs ea =>
  cases (show u=Value.ref a from rx);obtain⟨_,_,_,p⟩:=(show cj X.prog X.w H s.heap a (.tup xs) from I.aB a _ ea)
  obtain⟨o,h1,h2,_⟩:=p.tup;exact Qk PySem.W.kitx_tuple I.gb ⟨o,h1,h2⟩ e (λz=>nomatch z) h
 | @dK a ae ea =>
  cases (show u=Value.ref a from rx);obtain⟨_,_,vs,_,p⟩:=(show cj X.prog X.w H s.heap a (.dK ae) from I.aB a _ ea)
  obtain⟨o,es,ep,h1,h2,_⟩:=p;exact Qk PySem.W.kitx_dict I.gb ⟨o,h1,h2.1⟩ e (λz=>nomatch z) h
 | @dT a ae ea =>
  cases (show u=Value.ref a from rx);obtain⟨_,_,xs,_,o,es,ep,h1,h2,_⟩:=(show cj X.prog X.w H s.heap a (.dT ae) from I.aB a _ ea)
  exact Qk PySem.W.kitx_dict I.gb ⟨o,h1,h2.1⟩ e (λz=>nomatch z) h
 | @ins a C dx fs ea cl ha hn A0 hm =>
  cases (show u=Value.ref a from rx);obtain⟨mA,O,_⟩:=Kt I.aB ea;obtain⟨od,J,_⟩:=O.look;exact Qk (PySem.W.kitx_own (cl.get _) cl.hd ha hn A0 hm) I.gb J e (λz=>nomatch z) h
end
structure fu(k:Nat)(A:Wu):Prop where
 hd:A.handled=none
 dp:A.depth + 3 * k + 5 < recursionLimit
 un:A.units + 16 * k + 200 < WG
theorem fu.mono(r:fu k A)(h:j<=k):fu j A:=⟨r.hd,by have:=r.dp; omega,by have:=r.un; omega⟩
theorem fu.deeper(r:fu (k + 1) A)(env:Env):fu k (A.deeper env) :=
 ⟨r.hd,by have:=r.dp; show A.depth + 1 + 3 * k + 5 < _; omega,by have:=r.un; show A.units + 3 + 16 * k + 200 < _; omega⟩
theorem fu.depth(r:fu k A):A.depth < recursionLimit:=by have:=r.dp; omega
def A2:TA:=λ_ H Q=>Q [] H
def A3(ta:TE)(tr:TA):TA:=λσ H Q=>ta σ H λx H1=>tr σ H1 λxs H2=>Q (x :: xs) H2
section
variable {X:Cx} {e:Expr} {es:List Expr} {te:TE} {t:TA} {pos:Pos}
theorem gJ:PA X [] A2:=λ_ _ _ _ H Q I h=>Calls.spliced_nil ⟨[],H,I,.nil,h⟩
theorem fw(ha:PE X e te)(hr:PA X es t)(hs:Wf (e :: es) X.env=(false,eval e X.env) :: Wf es X.env:=by rfl):PA X (e :: es) (A3 te t):=by
 intro pos pins s σ H Q I h;rw[hs];show W8 _ _ (spliced ((false,eval e X.env) :: Q5 pos (Wf es X.env))) _ _ s;refine Calls.spliced_cons (aR (ha pins s σ H _ I h) λu s1 ⟨x,H1,I1,r1,q1⟩=>?_);exact aR (hr pos pins s1 σ H1 _ I1 q1) λus s2 ⟨xs,H2,I2,r2,q2⟩=>⟨x :: xs,H2,I2,.cons r1 r2,q2⟩
def Kv(t:TA):TE:=λσ H Q=>t σ H λxs H1=>xs.length<=Wd/\∀ p,H1 p=none->Q (.ref p) (upd H1 p (.tup xs))
def Kw(t:TA):TE:=λσ H Q=>t σ H λxs H1=>xs.length<=Wd/\∀ p,H1 p=none->Q (.ref p) (upd H1 p (.lst xs))
theorem Kx{x1}(h:PA X es t):PE X (.Tuple es x1 pos) (Kv t):=by
 intro pins s σ H Q I hq;refine wpAny_Tuple_spliced (aR (h pos pins s σ H _ I hq) λus s1 ⟨xs,H1,I1,r,z,q⟩=>⟨by rw[<- r.length]; exact z,?_⟩);have hf:H1 s1.heap.objs.size=none:=I1.aB.fresh (Wh _);refine⟨.ref s1.heap.objs.size,upd H1 s1.heap.objs.size (.tup xs),I1.laid (t':=s1.toks) (λb u e=>Wa _ e) (Wh _) ?_,rfl,q _ hf⟩;exact⟨z,us,r,⟨_,Wl _ rfl⟩⟩
theorem Ky(h:PA X es t):PE X (.List es pos) (Kw t):=by
 intro pins s σ H Q I hq;refine wpAny_List_spliced (aR (h pos pins s σ H _ I hq) λus s1 ⟨xs,H1,I1,r,z,q⟩=>⟨by rw[<- r.length]; exact z,?_⟩);have hf:H1 s1.heap.objs.size=none:=I1.aB.fresh (Wh _);refine⟨.ref s1.heap.objs.size,upd H1 s1.heap.objs.size (.lst xs),I1.laid (t':=s1.toks) (λb u e=>Wa _ e) (Wh _) ?_,rfl,q _ hf⟩;exact⟨z,us,0,r,Wl _ rfl⟩
end
abbrev Sp:=List V->Hp->VK->XK->Prop
abbrev jr:=List Env->Hp->W4->XK->Value->W4->Prop
structure sQ(P:Wm)(w:Wq)(K:W3)(mg:Str->Option Value)(base:Heap)(A:Wu)(outer:List Env)(s:W4)(H:Hp):Prop where
 frames:A.frames=some outer
 mod:Mod K mg base
 bs:∀ b o,base.get? b=some o->s.heap.get? b=some o/\H b=none
 lJ:base.objs.size<=s.heap.objs.size
 jk:s.heap.FunFrames base outer
 oE:∀ b ∈ il outer,H b=none
 aB:cG P w H s.heap
 bare:AllBare s.gens
def CE(outer:List Env)(P:Wm)(w:Wq)(H:Hp)(s:W4)(Q:VK)(u:Value)(s':W4):Prop :=
 ∃ v H',s'.os=s.os/\AllBare s'.gens/\Un (il outer) [] H H' s.heap s'.heap/\cG P w H' s'.heap/\RelV v u/\Q v H'
def CR(CX:jr)(outer:List Env)(P:Wm)(w:Wq)(H:Hp)(s:W4)(Q:VK)(E:XK)(r:Result)(s':W4):Prop :=
 match r with
 | .ok (.ret u)=>CE outer P w H s Q u s'
 | .ok _=>False
 | .error e=>CX outer H s E e s'
structure jt(P:Wm)(w:Wq)(K:W3)(mg:Str->Option Value)(base:Heap)(CX:jr)(k:Nat)(f:Addr)(fd:Qn)(ps:List Str)(sp:Sp):Prop where
 len:∀ vs H Q E,sp vs H Q E->vs.length=ps.length
 run:∀ (A:Wu) (outer:List Env) (s:W4) (H:Hp) (args:Args) (us:List Value) (vs:List V) (Q:VK) (E:XK),fu k A->sQ P w K mg base A outer s H->BindsTo s fd args (ps.zip us)->Vals vs us->sp vs H Q E ->
  Jt (model P w) A (.call (.ref f) args) (CR CX outer P w H s Q E) s
section
variable {X:Cx} {pins:List (Addr×Obj)} {σ:St} {H:Hp} {s s':W4}
theorem Inv.Kz(I:Inv X pins σ H s):sQ X.prog X.w X.K X.mg X.base X.A X.stack s H :=
 ⟨I.ok.frames,I.ok.mod,I.bs,WA I.ok.lJ I.sz,I.stack,I.Aj,I.aB,I.bare⟩
theorem Inv.after(I:Inv X pins σ H s)(h:CE X.stack X.prog X.w H s Q u s'):EP X pins σ Q u s':=by
 obtain⟨v,H',os,bare,un,aB,r,q⟩:=h;obtain⟨hh,g,d,t,os'⟩:=s';obtain rfl:os'=s.os:=os;exact⟨v,H',I.call (h':=hh) (g':=g) (d':=d) (t':=t) (ch:=[]) un aB bare (λb z=>absurd z (by simp)),r,q⟩
end
def A4(sp:Sp)(lP:List V)(E:XK)(t:TA):TE:=λσ H Q=>t σ H λvs H1=>sp (vs ++ lP) H1 Q E
def Binds(K:W3)(fd:Qn)(ps:List Str)(ds:List Value):Prop :=
 ∀ (s:W4) (us:List Value),K.In s.heap->(us ++ ds).length=ps.length->BindsTo s fd ⟨us,[]⟩ (ps.zip (us ++ ds))
theorem Binds.all{K:W3}{fd:Qn}{ps:List Str}(h:∀ us:List Value,us.length=ps.length->bindArgs fd ⟨us,[]⟩=pure (ps.zip us)):Binds K fd ps []:=λs us _ hl=>by
 rw[Jg] at hl ⊢;exact .of_eq (h us hl)
def vC(CX:jr)(X:Cx)(E:XK):Prop:=∀ (pins:List (Addr×Obj)) (σ:St) (H:Hp) (s:W4) (e:Value) (s':W4),Inv X pins σ H s->CX X.stack H s E e s'->X.xe e s'
section
variable {X:Cx} {CX:jr} {k:Nat} {f C:Addr} {fd:Qn} {ps:List Str} {sp:Sp} {lP:List V} {ds:List Value} {E:XK} {x m:Str} {p pos apos:Pos} {e o:Expr} {es:List Expr} {ta:TE} {t:TA}
theorem KA(F:jt X.prog X.w X.K X.mg X.base CX k f fd ps sp)(hr:fu k X.A)(hb:Binds X.K fd ps ds)(hd:Vals lP ds)(hx:vC CX X E)
  (I:Inv X pins σ H s) (r:Vals vs us) (h:sp (vs ++ lP) H Q E):W8 (model X.prog X.w) X.A (call (.ref f) us) (EP X pins σ Q) X.xe s:=by
 have r2:Vals (vs ++ lP) (us ++ ds):=r.append hd;have hl:(us ++ ds).length=ps.length:=by rw[<- r2.length]; exact F.len _ _ _ _ h
 refine wpAny_call (codeAny_mono (F.run X.A X.stack s H ⟨us,[]⟩ (us ++ ds) (vs ++ lP) Q E hr I.Kz (hb s us I.gb hl) r2 h) λr s' hq=>?_)
 cases r with
 | error e=>exact hx pins σ H s e s' I hq
 | ok fl =>
  cases fl with
  | ret u=>exact I.after hq
  | next=>exact False.elim hq
  | brk=>exact False.elim hq
  | cont=>exact False.elim hq
theorem KC(F:jt X.prog X.w X.K X.mg X.base CX k f fd ps sp)(hr:fu k X.A)(hg:Gl X x)(hm:X.mg x=some (.ref f))(hk:U7 X.K (.ref f)=true)(hb:Binds X.K fd ps ds)(hd:Vals lP ds)(hx:vC CX X E)
  (ha:PA X (e :: es) t) (ju:(x == ("__debug__" : Str))=false:=by decide) (he:Wf (e :: es) X.env=(false,eval e X.env) :: Wf es X.env:=by rfl) (c9:(Q5 pos (Wf es X.env)).any (·.1)=false:=by rfl) :
  PE X (.Call (.Name x p) (e :: es) [] pos) (A4 sp lP E t):=by
 intro pins s σ H Q I h;refine wpAny_Call_Name_kw (Il I hg hm ?_ ju);refine PySem.W.callWith_K (h₀:=X.base) I.ok.mod.vk hk (aR (ha pos pins s σ H _ I h) λus s1 ⟨vs,H1,I1,r,q⟩=>⟨I1.gb,?_⟩) he c9;exact KA F hr hb hd hx I1 r q
end
def PK(X:Cx)(A5:List Keyword)(t:TA):Prop :=
 ∀ (pos:Pos) (pins:List (Addr×Obj)) (s:W4) (σ:St) (H:Hp) (Q:List V->Hp->Prop),Inv X pins σ H s->t σ H Q->W8 (model X.prog X.w) X.A (evalAll ((JK pos (QR A5 X.env)).map (·.2))) (AP X pins σ Q) X.xe s
section
variable {X:Cx} {CX:jr} {k:Nat} {f C:Addr} {fd:Qn} {ps ks:List Str} {sp:Sp} {E:XK} {x m:Str} {p pos apos V1:Pos} {e o:Expr} {es:List Expr} {A5:List Keyword} {te ta:TE} {t tk:TA} {nm:Option Str}
variable {g:List Value->List Value->List Value} {gV:List V->List V->List V}
end
structure cL(N P:List Str)(sc:Scope):Prop where
 kind:sc.kind = .function
 co:sc.isCoroutine=false
 gen:sc.isGenerator=false
 nd:N.Nodup
 pre:N.take P.length=P
 par:∀ x ∈ P,sc.names.lookup x=some .local\/sc.names.lookup x=some .cell
 vD:∀ y ∈ sc.names,y.2≠.free
theorem scc{N P:List Str}{sc:Scope}(kind:sc.kind = .function:=by rfl)(co:sc.isCoroutine=false:=by rfl)(gen:sc.isGenerator=false:=by rfl)(nd:N.Nodup:=by decide +kernel)(pre:N.take P.length=P:=by rfl)(par:∀ x ∈ P,sc.names.lookup x=some .local\/sc.names.lookup x=some .cell:=by decide +kernel)(vD:∀ y ∈ sc.names,y.2≠.free:=by decide +kernel):cL N P sc:=⟨kind,co,gen,nd,pre,par,vD⟩
theorem A6{kindOf:Str->Option NameKind}{x:Str}:∀ {binds:List (Str×Value)} {m:Str->Option Value},(∀ v,(x,v) ∉ binds)->bindL kindOf binds m x=m x
 | [],_,_=>rfl
 | (n,v) :: r,m,h=>by
  unfold bindL;rw[A6 λw hw=>h w (W7 _ hw)];split
  ·have:x≠n:=by rintro rfl; exact h v Wb
   simp[this]
  ·rfl
theorem A7{kindOf:Str->Option NameKind}{x:Str}:∀ {binds:List (Str×Value)} {m:Str->Option Value},(∀ v,(x,v) ∉ binds)->bindC kindOf binds m x=m x
 | [],_,_=>rfl
 | (n,v) :: r,m,h=>by
  unfold bindC;rw[A7 λw hw=>h w (W7 _ hw)];split
  ·rfl
  ·have:x≠n:=by rintro rfl; exact h v Wb
   simp[this]
theorem A8{kindOf:Str->Option NameKind}{x:Str}{v:Value}:∀ {P:List Str} {vs:List Value} {i:Nat} {m:Str->Option Value},P.Nodup->P[i]? = some x->vs[i]? = some v->kindOf x=some .local ->
  bindL kindOf (P.zip vs) m x=some v
 | [],_,_,_,_,h,_,_=>by simp at h
 | _ :: _,[],_,_,_,_,h,_=>by simp at h
 | p :: P,w :: vs,0,m,nd,h1,h2,hk=>by
  simp at h1 h2; subst h1; subst h2
  show bindL kindOf ((p,w) :: P.zip vs) m p=_;unfold bindL;rw[A6 λv hv=>(WO.mp nd).1 (List.of_mem_zip hv).1,if_pos hk];simp
 | p :: P,w :: vs,i + 1,m,nd,h1,h2,hk=>by
  show bindL kindOf ((p,w) :: P.zip vs) m x=_;unfold bindL;exact A8 (i:=i) (WO.mp nd).2 (by simpa using h1) (by simpa using h2) hk
theorem A9{kindOf:Str->Option NameKind}{x:Str}{v:Value}:∀ {P:List Str} {vs:List Value} {i:Nat} {m:Str->Option Value},P.Nodup->P[i]? = some x->vs[i]? = some v->kindOf x≠some .local ->
  bindC kindOf (P.zip vs) m x=some v
 | [],_,_,_,_,h,_,_=>by simp at h
 | _ :: _,[],_,_,_,_,h,_=>by simp at h
 | p :: P,w :: vs,0,m,nd,h1,h2,hk=>by
  simp at h1 h2; subst h1; subst h2
  show bindC kindOf ((p,w) :: P.zip vs) m p=_;unfold bindC;rw[A7 λv hv=>(WO.mp nd).1 (List.of_mem_zip hv).1,if_neg hk];simp
 | p :: P,w :: vs,i + 1,m,nd,h1,h2,hk=>by
  show bindC kindOf ((p,w) :: P.zip vs) m x=_;unfold bindC;exact A9 (i:=i) (WO.mp nd).2 (by simpa using h1) (by simpa using h2) hk
def j4(N:List Str)(vs:List V):St:=vs.map some ++ We (N.length - vs.length) none
def lQ(CX:jr)(P:Wm)(w:Wq)(K:W3)(mg:Str->Option Value)(base:Heap)(N:List Str)(qual:Str)(scope:Scope)(f:Addr)(cd:Value)(A:Wu)(outer:List Env)(s:W4)(H:Hp)(E:XK):Cx where
 prog:=P
 w:=w
 K:=K
 mg:=mg
 base:=base
 A:=A.deeper (envOfC qual scope s.heap.objs.size f cd)
 N:=N
 s₀:=s
 H₀:=H
 env:=envOfC qual scope s.heap.objs.size f cd
 outer:=outer
 stack:=envOfC qual scope s.heap.objs.size f cd :: outer
 ex:=[]
 calm:=true
 fn:=λ_=>true
 pn:=[]
 xe:=λe s'=>W8 (model P w) (A.deeper (envOfC qual scope s.heap.objs.size f cd)) (leaving (envOfC qual scope s.heap.objs.size f cd) e) (λ_ qh=>CX outer H s E e qh) (λe' qh=>CX outer H s E e' qh) s'
theorem A_{sc:Scope}{n:Nat}{x:Str}(h:sc.names.lookup x=some .cell):∃ c,(QN n sc.names []).lookup x=some c:=by
 have q:=PySem.W.cellsFrom_some sc.names n [] (.inl h);exact Jv.mp q
theorem KD{CX:jr}{P:Wm}{w:Wq}{K:W3}{mg:Str->Option Value}{base:Heap}{N ps:List Str}{qual:Str}{scope:Scope}{f:Addr}{cd:Value}{A:Wu}{outer:List Env}{s s1:W4}{H:Hp}{E:XK}{us:List Value}{vs:List V}
  (S:cL N ps scope) (hd:A.handled=none) (e0:sQ P w K mg base A outer s H) (hl:vs.length=ps.length) (r:Vals vs us)
  (x:InCallC s s.heap.objs.size (bindL (envOfC qual scope s.heap.objs.size f cd).kindOf (ps.zip us) λ_=>none) (QN (s.heap.objs.size + 1) scope.names []) (bindC (envOfC qual scope s.heap.objs.size f cd).kindOf (ps.zip us) λ_=>none) s1) :
  Inv (lQ CX P w K mg base N qual scope f cd A outer s H E) [] (j4 N vs) H s1:=by
 have c9:ps.length<=N.length:=by have:=congrArg List.length S.pre; rw[Qz] at this; omega
 obtain⟨h1,tk,rfl,hk⟩:=x.done;have qj:∀ b:Addr,b ∉ (lQ CX P w K mg base N qual scope f cd A outer s H E).ex:=λb z=>absurd (show b ∈ ([]:List Addr) from z) (by simp)
 refine⟨⟨e0.mod,S.kind,rfl,rfl,Wh _,λy z c h1 h2=>?_,λy hy=>?_,λy c _ h=>?_,λ_=>hd,Around.frames_deeper e0.frames,.inr ⟨rfl,rfl⟩,λb z=>absurd z (qj b),e0.bs,e0.lJ,λb _ _=>qj b,λb z=>absurd z (qj b),e0.jk,e0.oE⟩,
  rfl,e0.bare,Un.kept hk,⟨_,x.toInCall.ns,λi y v h1 h2 h3=>?_⟩,λy c h=>⟨_,x.cell y c h⟩,e0.aB.fresh (Wh _),λy c h=>?_,λp hp=>absurd (show p ∈ ([]:List (Addr×Obj)) from hp) (by simp),e0.aB.kept hk,?_⟩
 ·exact name_of_addr x.apart (WD h1) (WD h2)
 ·have hy:scope.names.lookup y=some .cell\/scope.names.lookup y=some .free:=hy;rcases hy with hy | hy
  ·exact A_ hy
  ·exact absurd rfl (S.vD _ (WD hy))
 ·exact Ju (x.above y c (WD h))
 ·have hi:i < vs.length:=by
   unfold j4 at h2;by_cases hi:i < vs.length
   ·exact hi
   ·rw[List.getElem?_append_right (by simpa using hi)] at h2;rw[List.getElem?_replicate] at h2;split at h2 <;> cases h2
  have ha:vs[i]? = some v:=by
   unfold j4 at h2;rw[Jp (by simpa using hi),Wv] at h2
   cases e:vs[i]? with
   | none=>rw[e] at h2; cases h2
   | some a=>rw[e] at h2; cases h2; rfl
  obtain⟨u,hu,rv⟩:=r.get ha;have hp:ps[i]? = some y:=by
   rw[<- S.pre,Jw (by omega)]; exact h1
  have Ba:ps.Nodup:=by rw[<- S.pre]; exact S.nd.sublist (List.take_sublist _ _)
  refine⟨u,rv,?_⟩;rcases S.par y (Wz hp) with k | k
  ·exact .inl ⟨k,A8 Ba hp hu k⟩
  ·obtain⟨c,e⟩:=A_ (n:=s.heap.objs.size + 1) k;refine .inr ⟨.inl k,c,e,?_⟩;have q:=x.cell y c e;rw[A9 Ba hp hu (by show scope.names.lookup y≠_; rw[k]; decide)] at q;exact q
 ·exact e0.aB.fresh (Ju (x.above y c (WD h)))
 ·unfold j4;show _=N.length;rw[WU,Wx,List.length_replicate];omega
theorem KG{CX:jr}{P:Wm}{w:Wq}{K:W3}{mg:Str->Option Value}{base:Heap}{k:Nat}{f:Addr}{name qual:Str}{params:Arguments}{body:List Stmt}{scope:Scope}{dV kV doc pm bu ct oc:Value}{an od:Option Addr}
  {lR:Array (Option Value)} {N ps:List Str} {sp:Sp} (lk:K.lookup f=some ⟨oc,od,.func (QS name qual params body scope dV kV doc pm an bu ct),lR⟩) (jn:PySem.W.codeIn K bu qual=true) (S:cL N ps scope)
  (len:∀ vs H Q E,sp vs H Q E->vs.length=ps.length)
  (nh:∀ (A:Wu) (outer:List Env) (s:W4) (H:Hp) (vs:List V) (Q:VK) (E:XK),fu k (A.deeper (envOfC qual scope s.heap.objs.size f bu))->sp vs H Q E ->
   ∃ t,eX (lQ CX P w K mg base N qual scope f bu A outer s H E) body t/\t { nx:=λ_ H'=>Q .bf H',rt:=Q } (j4 N vs) H) :
  jt P w K mg base CX (k + 1) f (QS name qual params body scope dV kV doc pm an bu ct) ps sp:=by
 refine⟨len,λA outer s H args us vs Q E hr e0 hb r lT=>?_⟩;have hl:=len _ _ _ _ lT;have KX:K.In s.heap:=e0.mod.vk.keeps λb o e=>(e0.bs b o e).1
 have lim:s.heap.NoLimit:=e0.mod.nolimit.keeps λb o e=>(e0.bs b o e).1
 have KH:∀ y ∈ ps.zip us,scope.names.lookup y.1=some .local\/(scope.names.lookup y.1=some .cell/\((QN (s.heap.objs.size + 1) scope.names []).lookup y.1).isSome=true):=λ⟨n,v⟩ hy=>by
  rcases S.par n (List.of_mem_zip hy).1 with q | q
  ·exact .inl q
  ·exact .inr ⟨q,PySem.W.cellsFrom_some _ _ _ (.inl q)⟩
 refine codeAny_call_function hr.depth (KX _ _ lk) rfl S.co S.gen rfl (PySem.W.codeRec_of KX jn) (hb _ _ _ _ ?_);refine wpAny_newFunctionEnv_cells S.kind KH λenv he s1 x=>?_
 subst he;refine⟨lim.keeps x.toInCall.keep,codeAny_func ?_⟩;obtain⟨t,ht,hq⟩:=nh A outer s H vs Q E (hr.deeper _) lT;have I:Inv (lQ CX P w K mg base N qual scope f bu A outer s H E) [] (j4 N vs) H s1:=KD S hr.hd e0 hl r x;refine QL (ht [] s1 (j4 N vs) H _ I hq) (λfl s' hs=>?_) λe s' hs=>hs
 have fin:∀ {σ':St} {H':Hp} {v:V} {u:Value},Inv (lQ CX P w K mg base N qual scope f bu A outer s H E) [] σ' H' s'->RelV v u->Q v H'->CE outer P w H s Q u s' :=
  λ{σ' H' v u} J rv q=>⟨v,H',J.os,J.bare,J.base,J.aB,rv,q⟩
 cases fl with
 | ret u =>
  obtain⟨v,σ',H',J,rv,q⟩:=hs;exact fin J rv q
 | next =>
  obtain⟨σ',H',J,q⟩:=hs;exact fin (v:=V.bf) (u:=Value.none) J rfl q
 | brk =>
  obtain⟨_,_,_,q⟩:=hs;exact False.elim q
 | cont =>
  obtain⟨_,_,_,q⟩:=hs;exact False.elim q
section
variable {X:Cx} {x:Str} {p pos:Pos} {e:Expr} {es:List Expr} {t:TA} {id T:String} {r:List V->Hp->VK->Prop}
def Bb(r:List V->Hp->VK->Prop)(t:TA):TE:=λσ H Q=>t σ H λvs H1=>r vs H1 Q
theorem vE (hc:fH X (.builtin id) r) (hg:Gl X x) (hm:X.mg x=none) (hv:QH x=some (.builtin id)) (ha:PA X (e :: es) t) (hn:x≠"__name__":=by decide) (ju:(x == ("__debug__" : Str))=false:=by decide)
  (he:Wf (e :: es) X.env=(false,eval e X.env) :: Wf es X.env:=by rfl) (c9:(Q5 pos (Wf es X.env)).any (·.1)=false:=by rfl):PE X (.Call (.Name x p) (e :: es) [] pos) (Bb r t):=by
 intro pins s σ H Q I h;refine wpAny_Call_Name_kw (j0 I hg hm hv ?_ hn ju);exact PyProof.Rows.callWith_builtin1 (aR (ha pos pins s σ H _ I h) λus s1 ⟨vs,H1,I1,r1,q1⟩=>hc pins s1 σ H1 vs us Q I1 r1 q1) he c9
theorem KI (hc:fH X (.type T) r) (hg:Gl X x) (hm:X.mg x=none) (hv:QH x=some (.type T)) (ha:PA X (e :: es) t) (hn:x≠"__name__":=by decide) (ju:(x == ("__debug__" : Str))=false:=by decide)
  (he:Wf (e :: es) X.env=(false,eval e X.env) :: Wf es X.env:=by rfl) (c9:(Q5 pos (Wf es X.env)).any (·.1)=false:=by rfl):PE X (.Call (.Name x p) (e :: es) [] pos) (Bb r t):=by
 intro pins s σ H Q I h;refine wpAny_Call_Name_kw (j0 I hg hm hv ?_ hn ju);exact Q0 (aR (ha pos pins s σ H _ I h) λus s1 ⟨vs,H1,I1,r1,q1⟩=>hc pins s1 σ H1 vs us Q I1 r1 q1) he c9
end
end L2
namespace HT
open PySem PyProof.Rows
section
open PySem.SeqAt
open PySem.AutoSeq1 (wpAny_loadPart')
open PySem.MeetsSeq PySem.MeetsSeq2 PySem.MeetsSeq3
end
section
variable {prog:Wm} {w:Wq} {A:Wu} {E:Value->W4->Prop} {s:W4}
theorem KJ(ht:IsTup s.heap t vs.toArray)(hb:IsTup s.heap b ws.toArray)(hv:vs≠[])
  (h1:ws=[]->Q (.ref t) s) (h2:ws≠[]->Q (.ref s.heap.objs.size) { s with heap:=s.heap.push { cls:=.type "tuple",data:=.seq (vs ++ ws).toArray } })
  (hsz:vs.length + ws.length<=Wd):W8 (model prog w) A (Qg .Add (.ref t) (.ref b)) Q E s:=by
 obtain⟨⟨cls,dd,data,sl⟩,ho,hc,n,hd⟩:=id ht;obtain⟨⟨cls2,ni,data2,lU⟩,kK,gL,n2,hd2⟩:=id hb;simp only at hc hd gL hd2;subst hc hd gL hd2;have e:vs.toArray ++ ws.toArray=(vs ++ ws).toArray:=by simp
 by_cases hw:ws=[]
 ·exact concat_meets ⟨_,ho,rfl⟩ ⟨_,kK,rfl⟩ noFill_tuple_add seq_tuple_add PySem.F.slot_tuple_add PySem.F.entry_tuple_add (PySem.F.args_tuple_add_2 _ _)
   (tuple_addW1 t b vs.toArray ws.toArray n n2 dd ni sl lU (by simpa using hv) (by simp[hw])) ⟨ho,kK,h1 hw⟩
 ·refine concat_meets ⟨_,ho,rfl⟩ ⟨_,kK,rfl⟩ noFill_tuple_add seq_tuple_add PySem.F.slot_tuple_add PySem.F.entry_tuple_add (PySem.F.args_tuple_add_2 _ _)
   (tuple_addW2 t b vs.toArray ws.toArray n n2 dd ni sl lU (by simpa using hv) (by simpa using hw) (by rw[Wp,Wp]; exact hsz)) ⟨ho,kK,?_⟩
  rw[e];exact h2 hw
def aY(n d:Nat):Option Int->Nat
 | none=>d
 | some v=>if v < 0 then(v + (n:Int)).toNat else min v.toNat n
theorem vF(n d:Nat)(hd:d<=n)(o:Option Int):aY n d o<=n:=by
 cases o with
 | none=>exact hd
 | some v =>
  show(if v < 0 then(v + (n:Int)).toNat else min v.toNat n)<=n;by_cases hv:v < 0
  ·rw[if_pos hv]; omega
  ·rw[if_neg hv]; exact Nat.min_le_right _ _
theorem Bc(v:Int)(n d:Nat):(if v < 0 then max (v + (n:Int)) 0 else min v (n:Int))=((aY n d (some v):Nat):Int):=by
 show(if v < 0 then max (v + (n:Int)) 0 else min v (n:Int))=(((if v < 0 then(v + (n:Int)).toNat else min v.toNat n):Nat):Int);by_cases hv:v < 0
 ·simp only[if_pos hv]; omega
 ·simp only[if_neg hv]; omega
theorem KL(lo hi:Option Int)(n:Nat):Builtin.Slice.sliceAdjust lo hi 1 (n:Int)=(((aY n 0 lo:Nat):Int),((aY n n hi:Nat):Int)):=by
 have h1:¬ ((1:Int) < 0):=by omega
 unfold Builtin.Slice.sliceAdjust;simp only[h1,if_false];refine Prod.ext ?_ ?_
 ·cases lo with
  | none=>rfl
  | some v=>exact Bc v n 0
 ·cases hi with
  | none=>rfl
  | some v=>exact Bc v n n
theorem KN(i j:Nat):Jq (i:Int) (j:Int) 1=j - i:=by
 unfold Jq;have h1:(1:Int) > 0:=by omega
 simp only[h1,if_true,Int.ediv_one];split <;> omega
theorem Be(p:IsPart v o)(h:Q o s):W8 (model prog w) A (Builtin.Slice.slicePartIndex v) Q E s:=by
 cases p with
 | none=>exact slicePart_none h
 | int i t=>exact slicePart_int h
theorem Bf{sl:Addr}{vl vu:Value}{lo hi:Option Int}{n:Nat}{Q:Int×Int×Nat->W4->Prop}(hs:s.heap.IsSliceOf sl vl vu .none)(pl:IsPart vl lo)(pu:IsPart vu hi)
  (h:Q (((aY n 0 lo:Nat):Int),1,aY n n hi - aY n 0 lo) s):W8 (model prog w) A (Builtin.Slice.sliceApplied (.ref sl) (pure (n:Int))) Q E s:=by
 obtain⟨os,hos,hcs,hds⟩:=id hs;unfold Builtin.Slice.sliceApplied Builtin.Slice.sliceFields;refine W0 (W0 (WL hos hds (x:=vl) rfl (W0 (WL hos hds (x:=vu) rfl (W0 (WL hos hds (x:=.none) rfl (W5 ?_)))))));refine W0 (slicePart_none ?_);show W8 _ _ (if ((1:Int) == 0)=true then _ else _) _ _ s;rw[if_neg (by decide)];refine W0 (Be pl (W0 (Be pu (W0 (W5 ?_)))));show W8 _ _ (match Builtin.Slice.sliceAdjust lo hi 1 (n:Int) with | (lo,hi)=>pure (lo,(1:Int),Jq lo hi 1)) _ _ s;rw[KL lo hi n];show W8 _ _ (pure (((aY n 0 lo:Nat):Int),(1:Int),Jq ((aY n 0 lo:Nat):Int) ((aY n n hi:Nat):Int) 1)) _ _ s;rw[KN];exact W5 h
theorem KO(xs:Array Value)(i k:Nat):((Qb k).filterMap λ(m:Nat)=>xs[((i:Int) + (m:Int) * 1).toNat]?).toArray=((xs.toList.drop i).take k).toArray:=by
 have e:(λ(m:Nat)=>xs[((i:Int) + (m:Int) * 1).toNat]?)=λm=>xs[i + m]?:=by
  funext m
  have:((i:Int) + (m:Int) * 1).toNat=i + m:=by omega
  rw[this]
 rw[e];have:=pick_run xs i k;rw[List.filterMap_map] at this;have e2:((λx=>xs[x]?) ∘ λx=>i + x)=λm=>xs[i + m]?:=rfl
 rw[e2] at this;rw[this]
theorem KP{t sl:Addr}{items:Array Value}{vl vu:Value}{lo hi:Option Int}{Q:Value->W4->Prop}(ht:IsTup s.heap t items)(hs:s.heap.IsSliceOf sl vl vu .none)(pl:IsPart vl lo)(pu:IsPart vu hi)
  (hw:¬ (aY items.size 0 lo=0/\aY items.size items.size hi=items.size))
  (h:Q (.ref s.heap.objs.size) { s with heap:=s.heap.push { cls:=.type "tuple",data:=.seq ((items.toList.drop (aY items.size 0 lo)).take (aY items.size items.size hi - aY items.size 0 lo)).toArray } })
  (hsz:items.size<=Wd):W8 (model prog w) A (U8 (.ref t) (.ref sl)) Q E s:=by
 have sR:sizeOk (.seq ((items.toList.drop (aY items.size 0 lo)).take (aY items.size items.size hi - aY items.size 0 lo)).toArray):=by
  show((items.toList.drop (aY items.size 0 lo)).take (aY items.size items.size hi - aY items.size 0 lo)).toArray.size<=Wd;rw[Wp,Qz,List.length_drop,QG];omega
 have hj:aY items.size items.size hi<=items.size:=vF _ _ (Wh _) hi;obtain⟨os,hos,hcs,hds⟩:=id hs;have vG:s.TypeIs (.ref sl) "slice":=⟨os,hos,hcs⟩
 unfold U8;try with_reducible refine WV ?_
 first | refine W0 (W5 ?_) | skip
 refine W0 (Ua ht.typeIs (by decide) ?_);refine W0 (WK (name:=Str.ofString "__getitem__") ht.typeIs QP
  (WN QP ht.typeIs entry_tuple_getitem ?_ (args_tuple_getitem _ _)))
 show W8 _ _ (Builtin.Tuple.tupleItemsOf (.ref t) >>= _) _ _ s;refine W0 (tupleItemsOf_ ht ?_);refine W0 (JO vG ?_);rw[if_pos (by decide)];refine W0 (Bf hs pl pu ?_);have gM:¬ ((((aY items.size 0 lo:Nat):Int) == 0 && (1:Int) == 1 && (aY items.size items.size hi - aY items.size 0 lo) == items.size)=true):=by
  intro q;rw[Ws,Ws] at q;have q1:((aY items.size 0 lo:Nat):Int)=0:=eq_of_beq q.1.1;have q2:aY items.size items.size hi - aY items.size 0 lo=items.size:=eq_of_beq q.2;exact hw ⟨by omega,by omega⟩
 show W8 _ _ (if (((aY items.size 0 lo:Nat):Int) == 0 && (1:Int) == 1 && (aY items.size items.size hi - aY items.size 0 lo) == items.size)=true then _ else _) _ _ s;rw[if_neg gM,KO];first
  | exact W0 (m:=Jx _) (Q6 (W5 ⟨_,rfl,W5 h⟩) sR)
  | exact W0 (m:=Jx _) (Q6 (W0 (W5 (W5 ⟨_,rfl,W5 h⟩))) sR)
  | exact W0 (W0 (m:=Jx _) (Q6 (W5 (W5 ⟨_,rfl,W5 h⟩)) sR))
  | exact W0 (W0 (m:=Jx _) (Q6 (W5 ⟨_,rfl,W5 h⟩) sR))
end
end HT
namespace L2
open PySem PySem.Spec PyProof.Rows
abbrev TO:=St->Hp->(Option Int->Hp->Prop)->Prop
def PO(X:Cx)(e:Option Expr)(t:TO):Prop :=
 ∀ (pins:List (Addr×Obj)) (s:W4) (σ:St) (H:Hp) (Q:Option Int->Hp->Prop),Inv X pins σ H s->t σ H Q ->
  W8 (model X.prog X.w) X.A (evalPart e X.env) (λu s'=>∃ o H',Inv X pins σ H' s'/\IsPart u o/\Q o H') X.xe s
def KQ:TO:=λ_ H Q=>Q none H
def KR(t:TE):TO:=λσ H Q=>t σ H λx H1=>∃ i,x = .int i/\Q (some i) H1
section
variable {X:Cx} {e:Expr} {te:TE} {lo hi:Option Expr} {tl th:TO} {pos p2:Pos}
theorem KS:PO X none KQ:=by
 intro pins s σ H Q I h;rw[evalPart_none];exact W5 ⟨none,H,I,.none,h⟩
theorem KU(h:PE X e te):PO X (some e) (KR te):=by
 intro pins s σ H Q I hw;rw[evalPart_some];refine aR (h pins s σ H _ I hw) λu s1 ⟨x,H1,I1,r1,q1⟩=>?_
 obtain⟨i,rfl,q⟩:=q1;obtain⟨t,rfl⟩:=r1;exact⟨some i,H1,I1,.int i t,q⟩
def j5(X:Cx)(r:V->Option Int->Option Int->Hp->VK->Prop):Prop :=
 ∀ (pins:List (Addr×Obj)) (s:W4) (σ:St) (H:Hp) (x:V) (v vl vu:Value) (lo hi:Option Int) (sl:Addr) (Q:VK),Inv X pins σ H s->RelV x v->s.heap.IsSliceOf sl vl vu .none->IsPart vl lo->IsPart vu hi->r x lo hi H Q ->
  ∃ T id,typeLookup (.type T) "__getitem__" = pure (some (.builtin id))/\s.TypeIs v T/\W8 (model X.prog X.w) X.A (U8 v (.ref sl)) (EP X pins σ Q) X.xe s
theorem j5.or(h:j5 X r)(h':j5 X r'):j5 X (λx lo hi H Q=>r x lo hi H Q\/r' x lo hi H Q):=by
 intro pins s σ H x v vl vu lo hi sl Q I rx hs pl pu q;rcases q with q | q
 ·exact h pins s σ H x v vl vu lo hi sl Q I rx hs pl pu q
 ·exact h' pins s σ H x v vl vu lo hi sl Q I rx hs pl pu q
def KW(r:V->Option Int->Option Int->Hp->VK->Prop)(te:TE)(tl th:TO):TE:=λσ H Q=>te σ H λx H1=>tl σ H1 λl H2=>th σ H2 λu H3=>r x l u H3 Q
theorem Bg(hr:j5 X r)(he:PE X e te)(hl:PO X lo tl)(hu:PO X hi th):PE X (.Subscript e (.Slice lo hi none p2) pos) (KW r te tl th):=by
 intro pins s σ H Q I h;refine Subscript_ (aR (he pins s σ H _ I h) λv s1 ⟨x,H1,I1,r1,q1⟩=>?_);refine wpAny_Slice (aR (hl pins s1 σ H1 _ I1 q1) λvl s2 ⟨l,H2,I2,pl,q2⟩=>aR (hu pins s2 σ H2 _ I2 q2) λvu s3 ⟨u,H3,I3,pu,q3⟩=>?_);rw[evalPart_none];refine W5 ?_;have I4:Inv X pins σ H3 { s3 with heap:=s3.heap.push { cls:=.type "slice",data:=.fields #[vl,vu,.none] } }:=I3.kept (t':=s3.toks) λb ob q=>Wa _ q
 obtain⟨T,id,hT,ht,hg⟩:=hr pins { s3 with heap:=s3.heap.push { cls:=.type "slice",data:=.fields #[vl,vu,.none] } } σ H3 x v vl vu l u s3.heap.objs.size Q I4 r1 (Heap.IsSliceOf.new ..) pl pu q3;show W8 (model X.prog X.w) X.A (subscriptTail e (.Slice lo hi none p2) v (.ref s3.heap.objs.size)) (EP X pins σ Q) X.xe { s3 with heap:=s3.heap.push { cls:=.type "slice",data:=.fields #[vl,vu,.none] } };exact tail_any (ops:=[.ref s3.heap.objs.size,v]) ht hT hg (by with_unfolding_all rfl)
def lV(xs:List V)(lo hi:Option Int):List V:=(xs.drop (HT.aY xs.length 0 lo)).take (HT.aY xs.length xs.length hi - HT.aY xs.length 0 lo)
theorem Bh(xs:List V)(lo hi:Option Int):(lV xs lo hi).length<=xs.length:=by
 unfold lV;rw[Qz,List.length_drop];omega
def KY(K:W3):V->Option Int->Option Int->Hp->VK->Prop:=λx lo hi H Q=>∃ a xs,x = .ref a/\cH K H a xs /\
 ¬ (HT.aY xs.length 0 lo=0/\HT.aY xs.length xs.length hi=xs.length)/\∀ p,H p=none->Q (.ref p) (upd H p (.tup (lV xs lo hi)))
theorem KZ:j5 X (KY X.K):=by
 intro pins s σ H x v vl vu lo hi sl Q I rx hs pl pu h;obtain⟨a,xs,rfl,hx,hw,q⟩:=h
 cases rx;obtain⟨ah,r,ht,hz⟩:=I.tuple hx;have hlen:ah.toArray.size=xs.length:=by rw[Wp]; exact r.length.symm
 refine⟨"tuple",_,PyProof.Rows.slot_tuple_getitem.lookup,ht.typeIs,?_⟩;refine HT.KP ht hs pl pu (by rw[hlen]; exact hw) ?_ (by rw[hlen]; exact hz);rw[hlen];refine⟨.ref s.heap.objs.size,_,I.laid (t':=s.toks) (o:=.tup (lV xs lo hi)) (λb ob q=>Wa _ q) (Wh _) ?_,rfl,q _ (I.aB.fresh (Wh _))⟩;exact⟨WA (Bh xs lo hi) hz,_,(r.drop (HT.aY xs.length 0 lo)).take (HT.aY xs.length xs.length hi - HT.aY xs.length 0 lo),ik.new _ _⟩
def Bi(K:W3):R2:=λx y H Q=>∃ a b xs ys,x = .ref a/\y = .ref b/\cH K H a xs/\cH K H b ys/\xs≠[]/\xs.length + ys.length<=Wd /\
 (ys=[]->Q (.ref a) H)/\(ys≠[]->∀ p,H p=none->Q (.ref p) (upd H p (.tup (xs ++ ys))))
theorem Vals.qk(r:Vals xs us):us=[] ↔ xs=[]:=by
 cases r with
 | nil=>simp
 | cons _ _=>simp
theorem K0:bN X (Qg .Add) (Bi X.K):=by
 intro pins s σ H x y v u Q I rx ry h;obtain⟨a,b,xs,ys,rfl,rfl,ha,hb,hx,hz,q1,q2⟩:=h
 cases rx
 cases ry;obtain⟨ah,r1,p1,_⟩:=I.tuple ha;obtain⟨its2,r2,p2,_⟩:=I.tuple hb;refine HT.KJ p1 p2 (λz=>hx (r1.qk.mp z)) (λz=>⟨.ref a,H,I,rfl,q1 (r2.qk.mp z)⟩) (λz=>?_) (by rw[<- r1.length,<- r2.length]; exact hz);refine⟨.ref s.heap.objs.size,_,I.laid (t':=s.toks) (o:=.tup (xs ++ ys)) (λb ob q=>Wa _ q) (Wh _) ?_,rfl,q2 (λw=>z (r2.qk.mpr w)) _ (I.aB.fresh (Wh _))⟩;exact⟨by rw[WU]; exact hz,_,r1.append r2,ik.new _ _⟩
end
def dO(n:Nat)(i:Int):Option Nat:=if 0<=i then(if i < n then some i.toNat else none) else if -(n:Int)<=i then some (i + n).toNat else none
def cD{α:Type}(xs:List α)(i:Int):Option α:=(dO xs.length i).bind λj=>xs[j]?
theorem Bj(h:dO n i=some j):seqIndex? i n=some j/\j < n/\-(n:Int)<=i/\i < n:=by
 unfold dO at h;by_cases h0:0<=i
 ·rw[if_pos h0] at h;by_cases h1:i < n
  ·rw[if_pos h1] at h;have e:i.toNat=j:=Wy h;exact⟨by rw[seqIndex_of h0 h1,e],by omega,by omega,h1⟩
  ·rw[if_neg h1] at h; cases h
 ·rw[if_neg h0] at h;by_cases h1 : -(n:Int)<=i
  ·rw[if_pos h1] at h;have e:(i + n).toNat=j:=Wy h;exact⟨by rw[seqIndex_neg (by omega) h1,e],by omega,h1,by omega⟩
  ·rw[if_neg h1] at h; cases h
theorem vH(h:cD xs i=some v):∃ j,seqIndex? i xs.length=some j/\xs[j]? = some v/\j < xs.length/\-(xs.length:Int)<=i/\i < xs.length:=by
 unfold cD at h
 cases e:dO xs.length i with
 | none=>rw[e] at h; cases h
 | some j =>
  rw[e] at h;obtain⟨h1,h2,h3,h4⟩:=Bj e;exact⟨j,h1,h,h2,h3,h4⟩
def oI(b:Expr):Prop:=∀ o i,subscripted b false o i=operate [o,i] (U8 o i)
def ir(X:Cx)(r:R2):Prop :=
 ∀ (value slice:Expr) (pins:List (Addr×Obj)) (s:W4) (σ:St) (H:Hp) (x y:V) (v u:Value) (Q:VK),Inv X pins σ H s->RelV x v->RelV y u->r x y H Q ->
  subscripted slice false v u=operate [v,u] (U8 v u)->W8 (model X.prog X.w) X.A (subscriptTail value slice v u) (EP X pins σ Q) X.xe s
def sS(X:Cx)(id:String)(r:V->List V->Hp->VK->Prop):Prop :=
 ∀ (pins:List (Addr×Obj)) (s:W4) (σ:St) (H:Hp) (x:V) (xs:List V) (v:Value) (us:List Value) (Q:VK),Inv X pins σ H s->RelV x v->Vals xs us->r x xs H Q ->
  W8 (model X.prog X.w) X.A (call (.builtin id) (v :: us)) (EP X pins σ Q) X.xe s
section
variable {X:Cx} {a b:Expr} {ta tb:TE} {pos:Pos}
theorem ir.or(h:ir X r)(h':ir X r'):ir X (λx y H Q=>r x y H Q\/r' x y H Q):=by
 intro value slice pins s σ H x y v u Q I rx ry q hs;rcases q with q | q
 ·exact h value slice pins s σ H x y v u Q I rx ry q hs
 ·exact h' value slice pins s σ H x y v u Q I rx ry q hs
theorem ql(hr:ir X r)(ha:PE X a ta)(hb:PE X b tb)(hs:oI b):PE X (.Subscript a b pos) (jo r ta tb):=by
 intro pins s σ H Q I h;exact Subscript_ (vx ha hb I h λv u s2 x y H2 I2 rx ry q=>hr a b pins s2 σ H2 x y v u Q I2 rx ry q (hs _ _))
def Bk(K:W3):R2:=λx y H Q=>∃ p xs i v,x = .ref p/\y = .int i/\bW K H p xs/\cD xs i=some v/\Q v H
def Bl(K:W3):R2:=λx y H Q=>∃ p xs i v,x = .ref p/\y = .int i/\cH K H p xs/\cD xs i=some v/\Q v H
def Bm:R2:=λx y H Q=>∃ z i c,x = .str z/\y = .int i/\z.length<=Wd/\cD z.cps.toList i=some c/\Q (.str ⟨#[c]⟩) H
theorem K1:ir X (Bk X.K):=by
 intro value slice pins s σ H x y v u Q I rx ry h hs;obtain⟨p,xs,i,z,rfl,rfl,hq,he,q⟩:=h
 cases rx;obtain⟨t,rfl⟩:=ry;obtain⟨ah,r,pl,hz⟩:=I.list hq;obtain⟨j,h1,h2,h3,h4,h5⟩:=vH he;obtain⟨w,ew,aK⟩:=r.get h2;have hl:=r.length;have hn:=oH;have fin:EP X pins σ Q w s:=⟨z,H,I,aK,q⟩
 by_cases h0:0<=i
 ·have hj:i.toNat=j:=by
   rw[seqIndex_of h0 h5] at h1;exact Wy h1
  exact item_listR pl.isList h0 (by omega) (by rw[hj]; simpa using ew) fin hs
 ·have hj:(i + (ah.toArray.size:Int)).toNat=j:=by
   rw[seqIndex_neg (by omega) h4] at h1;rw[Wp,<- hl];exact Wy h1
  exact subscriptTail_builtinR (x:=w) pl.isList.typeIs slot_list_getitem.lookup
   (wpAny_getItem_list_neg (Q:=λr s'=>r=w/\EP X pins σ Q r s') pl.isList (by omega) (by rw[Wp] <;> omega) (by omega) (by rw[hj]; simpa using ew) ⟨rfl,fin⟩) hs
theorem K2:ir X (Bl X.K):=by
 intro value slice pins s σ H x y v u Q I rx ry h hs;obtain⟨p,xs,i,z,rfl,rfl,hq,he,q⟩:=h
 cases rx;obtain⟨t,rfl⟩:=ry;obtain⟨ah,r,pl,hz⟩:=I.tuple hq;obtain⟨j,h1,h2,h3,h4,h5⟩:=vH he;obtain⟨w,ew,aK⟩:=r.get h2;have hl:=r.length;have hn:=oH;have fin:EP X pins σ Q w s:=⟨z,H,I,aK,q⟩
 exact subscriptTail_builtinR (x:=w) pl.typeIs slot_tuple_getitem.lookup
  (getItem_tuple (j:=j) (Q:=λr s'=>r=w/\EP X pins σ Q r s') pl (by omega) (by omega) (by rw[Wp,<- hl]; exact h1) (by simpa using ew) ⟨rfl,fin⟩) hs
theorem K3:ir X Bm:=by
 intro value slice pins s σ H x y v u Q I rx ry h hs;obtain⟨z,i,c,rfl,rfl,hz,he,q⟩:=h;obtain⟨t,rfl⟩:=rx;obtain⟨t',rfl⟩:=ry;obtain⟨j,h1,h2,h3,h4,h5⟩:=vH he;have hl:z.cps.toList.length=z.length:=by simp[Str.length]
 rw[hl] at h1 h4 h5;have hn:=oH;exact tail_any (typeIs_str s z t) slot_str_getitem.lookup (getItem_str (c:=c) (by
  have e1:decide (i < -(2 ^ 63:Int))=false:=decide_eq_false (by omega);have e2:decide (i ≥ 2 ^ 63)=false:=decide_eq_false (by omega);rw[e1,e2,Bool.or_false]) (by rw[h1]; simpa using h2) ⟨.str ⟨#[c]⟩,H,I.tok _,⟨_,rfl⟩,q⟩) hs
def qm(K:W3):R2:=λx y H Q=>Bk K x y H Q\/Bl K x y H Q\/Bm x y H Q
theorem bx:ir X (qm X.K):=K1.or (K2.or K3)
theorem K4 (ah:List Value) (n j:Nat) (u:Value):Obj.mapSeq (·.setIfInBounds j u) { cls:=.type "list",data:=.seq ah.toArray n } = { cls:=.type "list",data:=.seq (ah.set j u).toArray n }:=by
 simp[Obj.mapSeq]
theorem Inv.lst(I:Inv X pins σ H s)(h:H p=some (.lst xs)) :
  ∃ (ah:List Value) (n:Nat),Vals xs ah/\s.heap.get? p=some { cls:=.type "list",data:=.seq ah.toArray n }/\xs.length<=Wd:=by
 obtain⟨z,ah,n,r,e⟩:=I.aB p _ h;exact⟨ah,n,r,e,z⟩
theorem Inv.K5{pins:List (Addr×Obj)}{σ:St}{H:Hp}{s:W4}{p:Addr}{xs ys:List V}{ah its':List Value}{n n':Nat}{f:Obj->Obj}(I:Inv X pins σ H s)(h:H p=some (.lst xs))
  (ho:s.heap.get? p=some { cls:=.type "list",data:=.seq ah.toArray n }) (hf:f { cls:=.type "list",data:=.seq ah.toArray n } = { cls:=.type "list",data:=.seq its'.toArray n' }) (r:Vals ys its') (hz:ys.length<=Wd) (t:Nat) :
  Inv X pins σ (upd H p (.lst ys)) { s with heap:=s.heap.update p f,toks:=t }:=by
 have e:(s.heap.update p f).get? p=some { cls:=.type "list",data:=.seq its'.toArray n' }:=by
  rw[Qh f ho (by rw[hf] <;> rfl),hf]
 refine I.write (x:=p) (e:=p) (by rw[h]; trivial) (.inl rfl) (λb u hb q=>(QI _ _ (Ne.symm hb)).trans q) ⟨_,e⟩ ?_;exact⟨hz,its',n',r,e⟩
def Bn:V->V->V->Hp->(Hp->Prop)->Prop:=λo i v H Q=>∃ p xs k j,o = .ref p/\i = .int k/\H p=some (.lst xs)/\dO xs.length k=some j/\Q (upd H p (.lst (xs.set j v)))
theorem Bo:Az X Bn:=by
 intro pins s σ H o i v ov iv u Q I ro ri rv h;obtain⟨p,xs,k,j,rfl,rfl,hp,hj,q⟩:=h
 cases ro;obtain⟨t,rfl⟩:=ri;obtain⟨ah,n,r,ho,hz⟩:=I.lst hp;obtain⟨h1,h2,h3,h4⟩:=Bj hj;have hl:=r.length;have hn:=oH;have I':Inv X pins σ (upd H p (.lst (xs.set j v))) { s with heap:=s.heap.update p (Obj.mapSeq (·.setIfInBounds j u)) } :=
  I.K5 hp ho (K4 ah n j u) (r.set rv j) (by rw[Q8]; exact hz) s.toks
 by_cases h0:0<=k
 ·have hk:k.toNat=j:=by
   rw[seqIndex_of h0 h4] at h1;exact Wy h1
  exact PySem.W.ki_setAt ho h0 (by omega) (by rw[Wp,<- hl]; exact h4) (by rw[hk]; exact⟨_,I',q⟩)
 ·have hk:(k + (ah.toArray.size:Int)).toNat=j:=by
   rw[seqIndex_neg (by omega) h3] at h1;rw[Wp,<- hl];exact Wy h1
  exact PySem.W.ki_setBack ho (by omega) (by rw[Wp,<- hl]; exact h3) (by omega) (by rw[hk]; exact⟨_,I',q⟩)
theorem K6(lo hi:Option Int)(n:Nat):(JW lo hi none n).1=((HT.aY n 0 lo:Nat):Int)/\(JW lo hi none n).2.1=((HT.aY n n hi:Nat):Int)/\(JW lo hi none n).2.2=1:=by
 refine⟨?_,?_,rfl⟩
 ·cases lo with
  | none=>simp[JW,HT.aY]
  | some i =>
   simp only[JW,HT.aY,Option.getD_none,show(1:Int) > 0 by decide,if_true];by_cases h:i < 0
   ·simp only[h,if_true] <;> omega
   ·simp only[h,if_false] <;> omega
 ·cases hi with
  | none=>simp[JW,HT.aY]
  | some i =>
   simp only[JW,HT.aY,Option.getD_none,show(1:Int) > 0 by decide,if_true];by_cases h:i < 0
   ·simp only[h,if_true] <;> omega
   ·simp only[h,if_false] <;> omega
theorem K7(ah:List Value)(lo hi:Option Int):slicePick ah.toArray lo hi none=((ah.drop (HT.aY ah.length 0 lo)).take (HT.aY ah.length ah.length hi - HT.aY ah.length 0 lo)).toArray:=by
 obtain⟨h1,h2,h3⟩:=K6 lo hi ah.toArray.size;unfold slicePick;rw[h1,h2,h3];simp only[sliceRange_one,pick_run,Wp] <;> rfl
def Bp(K:W3):V->Option Int->Option Int->Hp->VK->Prop:=λx lo hi H Q=>∃ a xs,x = .ref a/\bW K H a xs/\∀ p,H p=none->Q (.ref p) (upd H p (.lst (lV xs lo hi)))
theorem K8:j5 X (Bp X.K):=by
 intro pins s σ H x v vl vu lo hi sl Q I rx hs pl pu h;obtain⟨a,xs,rfl,hx,q⟩:=h
 cases rx;obtain⟨ah,r,ht,hz⟩:=I.list hx;have hlen:=r.length;refine⟨"list",_,slot_list_getitem.lookup,ht.isList.typeIs,?_⟩;refine wpAny_getItem_list_slice ht.isList hs pl pu .none (by simp) ?_ (by rw[Wp] <;> omega);rw[K7,<- hlen];refine⟨.ref s.heap.objs.size,_,I.laid (t':=s.toks) (o:=.lst (lV xs lo hi)) (λb ob q=>Wa _ q) (Wh _) ?_,rfl,q _ (I.aB.fresh (Wh _))⟩;exact⟨WA (Bh xs lo hi) hz,_,0,(r.drop (HT.aY xs.length 0 lo)).take (HT.aY xs.length xs.length hi - HT.aY xs.length 0 lo),Wl _ rfl⟩
def kL:V->Bool
 | .bf=>true
 | .bl _=>true
 | .int _=>true
 | .str _=>true
 | _=>false
def lW:V->V->Bool
 | .bf,.bf=>true
 | .bl a,.bl b=>a == b
 | .bl a,.int b=>(if a then 1 else 0) == b
 | .int a,.bl b=>a == (if b then 1 else 0)
 | .int a,.int b=>a == b
 | .str a,.str b=>a == b
 | _,_=>false
theorem K9(ry:RelV y u)(rx:RelV x v)(fy:kL y=true)(fx:kL x=true):SeqAt.EqAt A s u v (lW y x):=by
 cases y with
 | bf =>
  cases ry
  cases x with
  | bf=>cases rx; exact SeqAt.EqAt.same _
  | bl b=>cases rx; exact SeqAt.EqAt.none_bool b
  | int b=>obtain⟨t,rfl⟩:=rx; exact SeqAt.EqAt.none_int b t
  | str b=>obtain⟨t,rfl⟩:=rx; exact SeqAt.EqAt.none_str b t
  | _=>exact absurd (show false=true from fx) WF
 | bl a =>
  cases ry
  cases x with
  | bf=>cases rx; exact SeqAt.EqAt.bool_none a
  | bl b=>cases rx; exact SeqAt.EqAt.bool_bool a b
  | int b=>obtain⟨t,rfl⟩:=rx; exact SeqAt.EqAt.bool_int a b t
  | str b=>obtain⟨t,rfl⟩:=rx; exact SeqAt.EqAt.bool_str a b t
  | _=>exact absurd (show false=true from fx) WF
 | int a =>
  obtain⟨t',rfl⟩:=ry
  cases x with
  | bf=>cases rx; exact SeqAt.EqAt.int_none a t'
  | bl b=>cases rx; exact SeqAt.EqAt.int_bool a t' b
  | int b=>obtain⟨t,rfl⟩:=rx; exact SeqAt.EqAt.int_int a t' b t
  | str b=>obtain⟨t,rfl⟩:=rx; exact SeqAt.EqAt.int_str a t' b t
  | _=>exact absurd (show false=true from fx) WF
 | str a =>
  obtain⟨t',rfl⟩:=ry
  cases x with
  | bf=>cases rx; exact SeqAt.EqAt.str_none a t'
  | bl b=>cases rx; exact SeqAt.EqAt.str_bool a t' b
  | int b=>obtain⟨t,rfl⟩:=rx; exact SeqAt.EqAt.str_int a t' b t
  | str b=>obtain⟨t,rfl⟩:=rx; exact SeqAt.EqAt.str_str a t' b t
  | _=>exact absurd (show false=true from fx) WF
 | _=>exact absurd (show false=true from fy) WF
def kM(x:V)(u:Value):Bool:=match u with
 | .none=>lW .bf x
 | .bool b=>lW (.bl b) x
 | .int i _=>lW (.int i) x
 | .str z _=>lW (.str z) x
 | _=>false
theorem Bq(r:RelV y u)(f:kL y=true):kM x u=lW y x:=by
 cases y with
 | bf=>cases r; rfl
 | bl b=>cases r; rfl
 | int i=>obtain⟨t,rfl⟩:=r; rfl
 | str z=>obtain⟨t,rfl⟩:=r; rfl
 | _=>exact absurd (show false=true from f) WF
theorem vI:∀ {xs:List V} {us:List Value},Vals xs us->xs.all kL=true->us.any (kM x)=xs.any λy=>lW y x
 | _,_,.nil,_=>rfl
 | y :: xs,u :: us,.cons r t,f=>by
  rw[Ui,Ws] at f;rw[Qf,Qf,Bq r f.1,vI t f.2]
theorem vJ(rx:RelV x v)(fx:kL x=true):∀ {xs:List V} {us:List Value},Vals xs us->xs.all kL=true->∀ u ∈ us,SeqAt.EqAt A s u v (kM x u)
 | _,_,.nil,_=>λu hu=>by cases hu
 | y :: xs,u :: us,.cons r t,f=>λu' hu=>by
  rw[Ui,Ws] at f;rcases Wr.mp hu with rfl | hu
  ·rw[Bq r f.1]; exact K9 r rx f.1 fx
  ·exact vJ rx fx t f.2 u' hu
def sU(x:V)(xs:List V):Bool:=xs.any λy=>lW y x
def Br(K:W3)(neg:Bool):R2:=λx y H Q=>∃ p xs,y = .ref p/\(bW K H p xs\/cH K H p xs)/\kL x=true/\xs.all kL=true/\Q (.bl (if neg then !sU x xs else sU x xs)) H
theorem K_:bN X (WT .NotIn) (Br X.K true):=by
 intro pins s σ H x y v u Q I rx ry h;obtain⟨p,xs,rfl,hq,fx,fs,q⟩:=h
 cases ry;rcases hq with hq | hq
 ·obtain⟨ah,r,pl,hz⟩:=I.list hq;refine SeqAt.notIn_listAt (kM x) pl.isList (λw hw=>vJ rx fx r fs w (by simpa using hw)) ⟨.bl _,H,I,rfl,?_⟩;rw[show ah.toArray.any (kM x)=ah.any (kM x) by simp,vI r fs];exact q
 ·obtain⟨ah,r,pl,hz⟩:=I.tuple hq;refine SeqAt.notIn_tupleAt (kM x) pl (λw hw=>vJ rx fx r fs w (by simpa using hw)) ⟨.bl _,H,I,rfl,?_⟩;rw[show ah.toArray.any (kM x)=ah.any (kM x) by simp,vI r fs];exact q
theorem La:fH X (.builtin "len") (λxs H Q=>∃ p ys,xs=[.ref p]/\(bW X.K H p ys\/cH X.K H p ys)/\Q (.int ys.length) H):=by
 intro pins s σ H xs us Q I r h;obtain⟨p,ys,rfl,hq,q⟩:=h;obtain⟨u,rfl,rx⟩:=jq r
 cases rx;have hn:=oH;rcases hq with hq | hq
 ·obtain⟨ah,r',pl,hz⟩:=I.list hq;have hlen:=r'.length;exact Calls.call_len_list pl.isList (by simp only[Wp] <;> omega) ⟨.int ys.length,H,I.tok _,⟨s.toks + 1,by rw[Wp,hlen]⟩,q⟩
 ·obtain⟨ah,r',pl,hz⟩:=I.tuple hq;have hlen:=r'.length;exact len_tuple pl (by simp only[Wp] <;> omega) ⟨.int ys.length,H,I.tok _,⟨s.toks + 1,by rw[Wp,hlen]⟩,q⟩
theorem Lb:fH X (.builtin "len") (λxs H Q=>∃ z,xs=[.str z]/\z.length<=Wd/\Q (.int z.length) H):=by
 intro pins s σ H xs us Q I r h;obtain⟨z,rfl,hz,q⟩:=h;obtain⟨u,rfl,t,rfl⟩:=jq r;have hn:=oH;exact len_str (by omega) ⟨.int z.length,H,I.tok _,⟨_,rfl⟩,q⟩
theorem fH.or(h:fH X f r)(h':fH X f r'):fH X f (λxs H Q=>r xs H Q\/r' xs H Q):=by
 intro pins s σ H xs us Q I rs q;rcases q with q | q
 ·exact h pins s σ H xs us Q I rs q
 ·exact h' pins s σ H xs us Q I rs q
theorem Lc:fH X (.type "tuple") (λxs H Q=>∃ p ys,xs=[.ref p]/\((bW X.K H p ys/\∀ l,H l=none->Q (.ref l) (upd H l (.tup ys)))\/(cH X.K H p ys/\Q (.ref p) H))):=by
 intro pins s σ H xs us Q I r h;obtain⟨p,ys,rfl,h⟩:=h;obtain⟨u,rfl,rx⟩:=jq r
 cases rx;rcases h with ⟨hq,q⟩ | ⟨hq,q⟩
 ·obtain⟨ah,r',pl,hz⟩:=I.list hq;have hlen:=r'.length;refine call_tuple_list pl.isList (λh' kp=>?_) (by simp only[Wp] <;> omega);have I1:Inv X pins σ H { s with heap:=h' }:=I.kept (t':=s.toks) kp;have I2:Inv X pins σ (upd H h'.objs.size (.tup ys)) { s with heap:=h'.push { cls:=.type "tuple",data:=.seq ah.toArray } } :=
   I1.laid (t':=s.toks) (λb o e=>Wa _ e) (Wh _) (show cj X.prog X.w _ _ _ (.tup ys) from⟨hz,ah,r',ik.new _ _⟩)
  exact⟨.ref h'.objs.size,_,I2,rfl,q _ (I1.aB.fresh (Wh _))⟩
 ·obtain⟨ah,r',pl,hz⟩:=I.tuple hq;exact call_tuple_same pl ⟨.ref p,H,I,rfl,q⟩
def vK(K:W3)(T:String)(x:V)(H:Hp):Prop:=match x with
 | .str _=>T = "str"
 | .int _=>T = "int"
 | .ref p=>(T = "list"/\∃ xs,bW K H p xs)\/(T = "tuple"/\∃ o,K.lookup p=some o/\o.cls = .type "tuple"/\o.dict=none) \/
   (T = "dict"/\((∃ ae,H p=some (.dK ae))\/∃ ae,H p=some (.dT ae)))\/(T = "set"/\∃ S n,H p=some (.set S n))
 | _=>False
theorem Ld(I:Inv X pins σ H s)(r:RelV x v)(ty:vK X.K T x H) :
  s.TypeIs v T/\∀ a,v = .ref a->∃ ob,s.heap.get? a=some ob/\ob.dict=none:=by
 cases x with
 | str z =>
  obtain⟨t,rfl⟩:=r
  cases (show T = "str" from ty);exact⟨typeIs_str s z t,λ_ e=>nomatch e⟩
 | int i =>
  obtain⟨t,rfl⟩:=r
  cases (show T = "int" from ty);exact⟨JG s i t,λ_ e=>nomatch e⟩
 | ref p =>
  cases r;rcases ty with ⟨rfl,xs,hq⟩ | ⟨rfl,o,hk,hc,hd⟩ | ⟨rfl,hk⟩ | ⟨rfl,S,n,hk⟩
  ·obtain⟨ah,_,pl,_⟩:=I.list hq;refine⟨pl.isList.typeIs,λa e=>?_⟩
   cases e;obtain⟨o,n,e,c,hd,_⟩:=pl;exact⟨o,e,hd⟩
  ·refine⟨⟨o,I.gb p o hk,hc⟩,λa e=>?_⟩
   cases e;exact⟨o,I.gb _ o hk,hd⟩
  ·have z:∃ o,s.heap.get? p=some o/\o.ExactDict:=by
    rcases hk with ⟨ae,hk⟩ | ⟨ae,hk⟩
    ·obtain⟨_,_,_,_,o,_,_,e,ex,_⟩:=I.aB p _ hk;exact⟨o,e,ex⟩
    ·obtain⟨_,_,_,_,o,_,_,e,ex,_⟩:=I.aB p _ hk;exact⟨o,e,ex⟩
   obtain⟨o,e,ex⟩:=z;refine⟨⟨o,e,ex.1⟩,λa e2=>?_⟩
   cases e2;exact⟨o,e,ex.2.1⟩
  ·obtain⟨o,_,_,_,e,ex,_⟩:=I.aB p _ hk;refine⟨⟨o,e,ex.1⟩,λa e2=>?_⟩
   cases e2;exact⟨o,e,ex.2.1⟩
 | _=>exact False.elim ty
def Bs(K:W3)(T:String)(r:V->List V->Hp->VK->Prop)(to:TE)(t:TA):TE:=λσ H Q=>to σ H λx H1=>vK K T x H1/\t σ H1 λxs H2=>r x xs H2 Q
variable {o e:Expr} {es:List Expr} {to:TE} {t:TA} {name:Str} {apos aZ:Pos} {T id:String} {r:V->List V->Hp->VK->Prop}
theorem sV (pa:PlainAttrs T) (slot:Slot T name id) (Lf:typeOf (.builtin id)=pure (.type "method_descriptor")) (hm:sS X id r) (ho:PE X o to) (ha:PA X (e :: es) t)
  (kO:Qt o name X.env (eval o X.env)=eval o X.env:=by rfl)
  (kP:((Q5 aZ (Wf (e :: es) X.env)).all (λx=>!x.1) && (JK aZ (QR [] X.env)).all (λx=>x.1.isSome)
   && decide ((e :: es).length + ([]:List Keyword).length + (if ([]:List Keyword).isEmpty then 0 else 1) < 30))=true:=by rfl)
  (fQ:(apos.endLine == aZ.line)=true:=by rfl) (hs:Wf (e :: es) X.env=(false,eval e X.env) :: Wf es X.env:=by rfl) (Lg:(Q5 aZ (Wf es X.env)).any (·.1)=false:=by rfl) :
  PE X (.Call (.Attribute o name apos) (e :: es) [] aZ) (Bs X.K T r to t):=by
 intro pins s σ H Q I h;refine wpAny_Call_method_late kO kP fQ rfl (aR (ho pins s σ H _ I h) λv s1 ⟨x,H1,I1,r1,ty,q1⟩=>?_);obtain⟨h1,h2⟩:=Ld I1 r1 ty;refine⟨T,id,pa,slot,Lf,h1,h2,?_⟩;have hA:=ha aZ pins s1 σ H1 _ I1 q1;rw[hs] at hA ⊢;refine Calls.callWith_builtin (by show(false || (Q5 aZ (Wf es X.env)).any (·.1))=false; rw[Lg] <;> rfl) (Calls.evalArgs_plain ?_);exact aR hA λus s2 ⟨vs,H2,I2,r2,q2⟩=>hm pins s2 σ H2 x vs v us Q I2 r1 r2 q2
end
def Lh(X:Cx)(id:String)(r:V->List V->Hp->VK->Prop):Prop :=
 ∀ (pins:List (Addr×Obj)) (s:W4) (σ:St) (H:Hp) (x:V) (xs:List V) (v:Value) (us:List Value) (Q:VK),Inv X pins σ H s->RelV x v->Vals xs us->r x xs H Q ->
  W8 (model X.prog X.w) X.A (call (.builtin id) (v :: us)) (EP X pins σ Q) X.xe s
theorem Vals.one:∀ {x:V} {us:List Value},Vals [x] us->∃ u,us=[u]/\RelV x u
 | _,_,.cons r .nil=>⟨_,rfl,r⟩
theorem Vals.two:∀ {x y:V} {us:List Value},Vals [x,y] us->∃ u v,us=[u,v]/\RelV x u/\RelV y v
 | _,_,_,.cons r (.cons q .nil)=>⟨_,_,rfl,r,q⟩
theorem Vals.rep(h:Vals xs us):∀ k:Nat,Vals (We k xs).flatten (We k us).flatten
 | 0=>.nil
 | k + 1=>by
  rw[WQ,WQ,Q3,Q3];exact Vals.append h (Vals.rep h k)
theorem vL(ah:List Value):∀ (k:Nat) (acc:List Value),
  List.foldl (λx1 x2=>x1 ++ x2) acc.toArray (We k ah.toArray)=(acc ++ (We k ah).flatten).toArray
 | 0,acc=>by simp
 | k + 1,acc=>by
  have e:acc.toArray ++ ah.toArray=(acc ++ ah).toArray:=by simp
  have e2:(acc ++ ah) ++ (We k ah).flatten=acc ++ (We (k + 1) ah).flatten:=by
   rw[WQ,Q3,List.append_assoc]
  rw[<- e2,<- vL ah k (acc ++ ah),<- e,WQ,JH]
section
variable {X:Cx} {pins:List (Addr×Obj)} {σ:St} {H:Hp} {s:W4} {l b:Addr} {xs ys zs:List V}
theorem Inv.Li{ah its':List Value}{n:Nat}{f:Array Value->Array Value}{t':Nat}(I:Inv X pins σ H s)(hH:H l=some (.lst xs))
  (e:s.heap.get? l=some { cls:=.type "list",data:=.seq ah.toArray n }) (hf:f ah.toArray=its'.toArray) (hv:Vals ys its') (hz:ys.length<=Wd) :
  Inv X pins σ (upd H l (.lst ys)) { s with heap:=s.heap.update l (Obj.mapSeq f),toks:=t' }:=by
 have q:=PySem.IsL.update e f;rw[hf] at q;refine I.write (x:=l) (e:=l) (by rw[hH]; exact trivial) (.inl rfl) (λb' u hb hu=>(QI s.heap (Obj.mapSeq f) (Ne.symm hb)).trans hu) ⟨_,q⟩ ?_;exact⟨hz,its',_,hv,q⟩
theorem Inv.Lj(I:Inv X pins σ H s)(hv:Vals ys ah)(hz:ys.length<=Wd) :
  Inv X pins σ (upd H s.heap.objs.size (.lst ys)) { s with heap:=s.heap.push { cls:=.type "list",data:=.seq ah.toArray },toks:=t' } :=
 I.laid (λ_ _ q=>Wa _ q) (Wh _) ⟨hz,ah,0,hv,Wl _ rfl⟩
theorem Inv.fresh(I:Inv X pins σ H s):H s.heap.objs.size=none:=I.aB.fresh (Wh _)
theorem Inv.Lk (I:Inv X pins σ H s) (hH:H l=some (.lst xs)):xs.length<=Wd/\∃ (ah:List Value) (n:Nat),Vals xs ah/\xs.length=ah.length/\s.heap.get? l=some { cls:=.type "list",data:=.seq ah.toArray n }:=by
 obtain⟨z,ah,n,r,e⟩:=I.aB l _ hH;exact⟨z,ah,n,r,r.length,e⟩
end
section
variable {X:Cx}
def Bt:V->List V->Hp->VK->Prop:=λx vs H Q=>∃ l xs y,x = .ref l/\vs=[y]/\H l=some (.lst xs)/\xs.length < Wd/\Q .bf (upd H l (.lst (xs ++ [y])))
theorem Bu:Lh X "list.append" Bt:=by
 intro pins s σ H x vs v us Q I rx rv h;obtain⟨l,xs,y,rfl,rfl,hH,hz,q⟩:=h
 cases rx;obtain⟨u,rfl,ru⟩:=rv.one;obtain⟨z,ah,n,r,hl,e⟩:=I.Lk hH;refine JS F.slot_list_append ⟨_,e,rfl⟩ F.entry_list_append (F.args_list_append_2 _ _) (PySem.list_append l ah.toArray n u (by rw[Wp]; omega)) ⟨e,?_⟩;refine⟨.bf,_,I.Li (its':=ah ++ [u]) hH e (by simp) (r.append (.cons ru .nil)) ?_,rfl,q⟩;rw[WU,List.length_singleton];omega
theorem sW(xs:List α)(k:Nat):(We k xs).flatten.length=k * xs.length:=by
 induction k with
 | zero=>simp
 | succ k ih=>rw[WQ,Q3,WU,ih,J8,Nat.add_comm]
end
section
variable {prog:Wm} {w:Wq} {A:Wu} {E:Value->W4->Prop} {s:W4}
set_option maxRecDepth 100000 in
end
section
variable {X:Cx}
end
section
variable {κ:Type} [DecidableEq κ]
def dB(ae:List (κ×V))(k:κ):Option V:=(ae.find? λkv=>decide (kv.1=k)).map (·.2)
def putK(ae:List (κ×V))(k:κ)(v:V):List (κ×V) :=
 if (ae.any λkv=>decide (kv.1=k))=true then ae.map (λkv=>if kv.1=k then(kv.1,v) else kv) else ae ++ [(k,v)]
theorem iU{p:κ×V}{r:List (κ×V)}{k:κ}(e:p.1=k):dB (p :: r) k=some p.2:=by simp[dB,Q4,e]
theorem iV{p:κ×V}{r:List (κ×V)}{k:κ}(e:¬ p.1=k):dB (p :: r) k=dB r k:=by simp[dB,Q4,e]
theorem sX(k:κ):∀ ae:List (κ×V),(ae.any λkv=>decide (kv.1=k))=(dB ae k).isSome
 | []=>rfl
 | p :: r=>by
  rw[Qf];by_cases e:p.1=k
  ·simp only[iU e,decide_eq_true e,Bool.true_or,Option.isSome_some]
  ·rw[iV e,decide_eq_false e,Bool.false_or]; exact sX k r
theorem Bv(k j:κ)(y:V):∀ ae:List (κ×V),dB (ae.map λkv=>if kv.1=k then(kv.1,y) else kv) j=(dB ae j).map λx=>if j=k then y else x
 | []=>rfl
 | p :: r=>by
  have ih:=Bv k j y r;rw[Wk];by_cases h:p.1=k
  ·rw[if_pos h];by_cases e:p.1=j
   ·rw[iU (p:=(p.1,y)) e,iU e,WC,if_pos (e.symm.trans h)]
   ·rw[iV (p:=(p.1,y)) e,iV e,ih]
  ·rw[if_neg h];by_cases e:p.1=j
   ·rw[iU (p:=p) e,iU e,WC,if_neg (λz=>h (e.trans z))]
   ·rw[iV (p:=p) e,iV e,ih]
theorem Bw(k j:κ)(y:V):∀ ae:List (κ×V),dB ae k=none->dB (ae ++ [(k,y)]) j=if j=k then some y else dB ae j
 | [],_=>by
  by_cases e:k=j
  ·rw[if_pos e.symm]; exact iU (p:=(k,y)) e
  ·rw[if_neg (λz=>e z.symm)]; exact iV (p:=(k,y)) e
 | p :: r,hn=>by
  rw[JT];have hk:¬ p.1=k:=λz=>by rw[iU z] at hn; cases hn
  rw[iV hk] at hn;have ih:=Bw k j y r hn;by_cases e:p.1=j
  ·rw[iU e,iU e,if_neg (λz=>hk (e.trans z))]
  ·rw[iV e,iV e,ih]
theorem Ll(ae:List (κ×V))(k j:κ)(y:V):dB (putK ae k y) j=if j=k then some y else dB ae j:=by
 unfold putK;by_cases a:(ae.any λkv=>decide (kv.1=k))=true
 ·rw[if_pos a,Bv];rw[sX] at a;by_cases e:j=k
  ·obtain⟨x,hx⟩:=Jv.mp a;rw[if_pos e,e,hx,WC,if_pos rfl]
  ·rw[if_neg e]
   cases dB ae j with
   | none=>rfl
   | some x=>rw[WC,if_neg e]
 ·rw[if_neg a];refine Bw k j y ae ?_;rw[sX] at a
  cases q:dB ae k with
  | none=>rfl
  | some x=>rw[q] at a; exact(a rfl).elim
theorem sY(ae:List (κ×V))(k:κ)(v:V):(putK ae k v).length<=ae.length + 1:=by
 unfold putK;split
 ·rw[Wx]; omega
 ·rw[WU,WB,U1]; omega
theorem eO.qo(r:eO o u):o.isSome=u.isSome:=by
 cases o with
 | none=>cases u with
  | none=>rfl
  | some _=>exact(show False from r).elim
 | some _=>cases u with
  | none=>exact(show False from r).elim
  | some _=>rfl
theorem eO.getD(r:eO o u)(rd:RelV d d'):RelV (o.getD d) (u.getD d'):=by
 cases o with
 | none=>cases u with
  | none=>exact rd
  | some _=>exact(show False from r).elim
 | some _=>cases u with
  | none=>exact(show False from r).elim
  | some _=>exact r
theorem KV.val{ae:List (κ×V)}{vs:List (κ×Value)}(r:KV ae vs)(k:κ):eO (dB ae k) (valueAt vs k):=by
 unfold KV at r;induction r with
 | nil=>exact True.intro
 | @cons p q ps qs h t ih =>
  obtain⟨h1,h2⟩:=h;by_cases e:p.1=k
  ·have e':q.1=k:=h1.symm.trans e;have b:valueAt (q :: qs) k=some q.2:=by simp[valueAt,Q4,e']
   rw[iU e,b]; exact h2
  ·have e':¬ q.1=k:=λz=>e (h1.trans z)
   have b:valueAt (q :: qs) k=valueAt qs k:=by simp[valueAt,Q4,e']
   rw[iV e,b]; exact ih
theorem KV.any(r:KV ae vs)(k:κ):(ae.any λkv=>decide (kv.1=k))=vs.any λkv=>decide (kv.1=k):=by
 unfold KV at r;induction r with
 | nil=>rfl
 | cons h t ih=>rw[Qf,Qf,ih,h.1]
theorem KV.vM(r:KV ae vs)(k:κ)(ry:RelV y u) :
  KV (ae.map λkv=>if kv.1=k then(kv.1,y) else kv) (vs.map λkv=>if kv.1=k then(kv.1,u) else kv):=by
 unfold KV at r ⊢;induction r with
 | nil=>exact .nil
 | @cons p q ps qs h t ih =>
  rw[Wk,Wk];refine .cons ?_ ih;obtain⟨h1,h2⟩:=h;by_cases e:p.1=k
  ·rw[if_pos e,if_pos (h1.symm.trans e)]; exact⟨h1,ry⟩
  ·rw[if_neg e,if_neg (λz=>e (h1.trans z))]; exact⟨h1,h2⟩
theorem KV.put(r:KV ae vs)(k:κ)(ry:RelV y u):KV (putK ae k y) (stored vs k u):=by
 unfold putK stored;rw[r.any k];by_cases e:(vs.any λkv=>decide (kv.1=k))=true
 ·rw[if_pos e,if_pos e]; exact r.vM k ry
 ·rw[if_neg e,if_neg e]; exact Paired.snoc r ⟨rfl,ry⟩
theorem KV.length(r:KV ae vs):ae.length=vs.length:=Paired.length r
end
theorem kQ(r:RelV (kV k) u):(eN P w).is k u=true:=by
 cases k with
 | inl i=>obtain⟨t,e⟩:=(show ∃ t,u=Value.int i t from r); subst e; exact HQ P w i t
 | inr x=>obtain⟨t,e⟩:=(show ∃ t,u=Value.str x t from r); subst e; exact HR P w x t
theorem Bx:∀ {ks:List Key} {us:List Value},Vals (ks.map kV) us->ItemsAre (eN P w) ks us
 | [],_,r=>by rw[List.map_nil] at r; cases r; exact .nil
 | k :: ks,_,r=>by
  rw[Wk] at r
  cases r with
  | cons h t=>exact .cons (kQ h) (Bx t)
abbrev KT(H:Hp):List (List Key×V)->List (List Key×Addr×Value)->Prop:=Paired λp q=>p.1=q.1/\H q.2.1=some (.tup (p.1.map kV))/\RelV p.2 q.2.2
theorem KT.val{H:Hp}{ae:List (List Key×V)}{xs:List (List Key×Addr×Value)}(r:KT H ae xs)(k:List Key):eO (dB ae k) ((atKey xs k).map (·.2)):=by
 induction r with
 | nil=>exact True.intro
 | @cons p q ps qs h t ih =>
  obtain⟨h1,_,h2⟩:=h;by_cases e:p.1=k
  ·have e':q.1=k:=h1.symm.trans e;have b:atKey (q :: qs) k=some q.2:=by simp[atKey,Q4,e']
   rw[iU e,b]; exact h2
  ·have e':¬ q.1=k:=λz=>e (h1.trans z)
   have b:atKey (q :: qs) k=atKey qs k:=by simp[atKey,Q4,e']
   rw[iV e,b]; exact ih
theorem KT.vM(r:KT H ae xs)(k:List Key)(ry:RelV y u) :
  KT H (ae.map λkv=>if kv.1=k then(kv.1,y) else kv) (xs.map (putAt k u)):=by
 induction r with
 | nil=>exact .nil
 | @cons p q ps qs h t ih =>
  rw[Wk,Wk];refine .cons ?_ ih;obtain⟨h1,h2,h3⟩:=h;unfold putAt;by_cases e:p.1=k
  ·rw[if_pos e,if_pos (h1.symm.trans e)]; exact⟨h1,h2,ry⟩
  ·rw[if_neg e,if_neg (λz=>e (h1.trans z))]; exact⟨h1,h2,h3⟩
theorem KT.put(r:KT H ae xs)(k:List Key)(hb:H b=some (.tup (k.map kV)))(ry:RelV y u) :
  KT H (putK ae k y) (storedH xs k b u):=by
 have e:(ae.any λkv=>decide (kv.1=k))=(atKey xs k).isSome:=by
  rw[sX,(r.val k).qo,Option.isSome_map]
 unfold putK storedH;rw[e];by_cases q:(atKey xs k).isSome=true
 ·rw[if_pos q,if_pos q]; exact r.vM k ry
 ·rw[if_neg q,if_neg q]; exact Paired.snoc r ⟨rfl,hb,ry⟩
theorem KT.keeps(r:KT H ae xs)(ht:∀ b ys,H b=some (.tup ys)->H' b=some (.tup ys)):KT H' ae xs :=
 Paired.vj r λ_ _ z=>⟨z.1,ht _ _ z.2.1,z.2.2⟩
section
variable {P:Wm} {w:Wq} {H:Hp} {h:Heap} {a:Addr}
theorem By(ok:cG P w H h)(e:Rd H a u):cj P w H h a u:=e.ok ok
theorem lX(ok:cG P w H h)(e:Rd H a (.dK ae)):ae.length<=Wd/\(a == Qm)=false/\∃ vs,KV ae vs/\h.DictOf (eN P w) a vs :=
 show cj P w H h a (.dK ae) from By ok e
theorem vN(ok:cG P w H h)(e:H a=some (.dK ae)):ae.length<=Wd/\(a == Qm)=false/\∃ vs,KV ae vs/\h.DictOf (eN P w) a vs:=lX ok (.inl e)
theorem nj(ok:cG P w H h)(e:H a=some (.tup (ks.map kV))):(tupleKind (eN P w)).is h ks a:=by
 obtain⟨_,ah,r,p⟩:=(show cj P w H h a (.tup (ks.map kV)) from ok a _ e)
 obtain⟨o,h1,h2,n,h3⟩:=p.tup;exact⟨o,ah.toArray,n,h1,h2,h3,by simpa using Bx r⟩
theorem nq(ok:cG P w H h)(e:Rd H a (.dT ae)):ae.length<=Wd/\(a == Qm)=false /\
  ∃ xs,KT H ae xs/\h.DictOfH (tupleKind (eN P w)) a xs:=by
 obtain⟨z,y,xs,r,o,es,ep,h1,h2,h3,h4,h5⟩:=(show cj P w H h a (.dT ae) from By ok e)
 refine⟨z,y,xs,r,o,es,ep,h1,h2,h3,h4,λx hx=>?_,h5⟩;have all:∀ {l:List (List Key×V)} {m:List (List Key×Addr×Value)},KT H l m->∀ x ∈ m,(tupleKind (eN P w)).is h x.1 x.2.1:=by
  intro l m q;induction q with
  | nil=>intro x hx; exact nomatch hx
  | @cons p q ps qs hq t ih =>
   intro x hx;rcases Wr.mp hx with e | hx
   ·subst e;exact nj ok (by rw[<- hq.1]; exact hq.2.1)
   ·exact ih x hx
 exact all r x hx
theorem Lm(ok:cG P w H h)(e:H a=some (.dT ae)):ae.length<=Wd/\(a == Qm)=false /\
  ∃ xs,KT H ae xs/\h.DictOfH (tupleKind (eN P w)) a xs:=nq ok (.inl e)
end
def iW(H:Hp)(a:Addr)(y:V)(r:Option V):Prop :=
 (∃ ae k,Rd H a (.dK ae)/\y=kV k/\r=dB ae k)\/∃ ae k b,Rd H a (.dT ae)/\y = .ref b/\H b=some (.tup (k.map kV))/\r=dB ae k
def oJ(H:Hp)(a:Addr)(y v:V)(H':Hp):Prop :=
 (∃ ae k,H a=some (.dK ae)/\y=kV k/\ae.length < Wd/\H'=upd H a (.dK (putK ae k v))) \/
 ∃ ae k b,H a=some (.dT ae)/\y = .ref b/\H b=some (.tup (k.map kV))/\ae.length < Wd/\H'=upd H a (.dT (putK ae k v))
theorem iW.k{H:Hp}{a:Addr}{ae:List (Key×V)}{k:Key}(e:H a=some (.dK ae)):iW H a (kV k) (dB ae k):=.inl ⟨ae,k,.inl e,rfl,rfl⟩
theorem oJ.k{H:Hp}{a:Addr}{ae:List (Key×V)}{k:Key}{v:V}(e:H a=some (.dK ae))(hl:ae.length < Wd):oJ H a (kV k) v (upd H a (.dK (putK ae k v))):=.inl ⟨ae,k,e,rfl,hl,rfl⟩
section
variable {X:Cx} {pins:List (Addr×Obj)} {σ:St} {H:Hp} {s:W4} {a:Addr} {y v:V} {u r:Value} {o:Option V} {A:Wu} {E:Value->W4->Prop}
theorem Inv.big(I:Inv X pins σ H s):Qm < s.heap.objs.size:=by
 have h:WE < s.heap.objs.size:=(I.mod.glob.keeps I.bk).lt;exact Nat.lt_trans (by decide) h
theorem Ln(hu:A.units + 1 < WG)(I:Inv X pins σ H s)(g:iW H a y (some v))(ry:RelV y u)(h:∀ w' s',Inv X pins σ H s'->RelV v w'->Q w' s') :
  W8 (model X.prog X.w) A (U8 (.ref a) u) Q E s:=by
 rcases g with ⟨ae,k,e,ey,l⟩ | ⟨ae,k,b,e,ey,eb,l⟩
 ·subst ey;obtain⟨z,hd,vs,rel,dd⟩:=lX I.aB e;obtain⟨w',hw,aK⟩:=eO.some_of (v:=v) (o:=valueAt vs k) (by rw[l]; exact rel.val k);exact wpAny_getItem_of (kQ ry) dd.mapOf hw (h w' _ (I.tok _) aK)
 ·subst ey
  cases (show u=Value.ref b from ry);obtain⟨z,hd,xs,rel,dd⟩:=nq I.aB e;obtain⟨w',hw,aK⟩:=eO.some_of (v:=v) (o:=(atKey xs k).map (·.2)) (by rw[l]; exact rel.val k);obtain⟨p,hp,hp2⟩:=Option.map_eq_some_iff.mp hw;refine wpAny_getItem_heap (J9 hu) (nj I.aB eb) dd hp ?_;rw[hp2];exact h w' _ (I.tok _) aK
theorem Lo(hu:A.units + 1 < WG)(I:Inv X pins σ H s)(g:iW H a y o)(ry:RelV y u)(h:∀ s',Inv X pins σ H s'->Q (.bool o.isSome) s') :
  W8 (model X.prog X.w) A (WT .In u (.ref a)) Q E s:=by
 rcases g with ⟨ae,k,e,ey,l⟩ | ⟨ae,k,b,e,ey,eb,l⟩
 ·subst ey;obtain⟨z,hd,vs,rel,dd⟩:=lX I.aB e;refine wpAny_in_of (kQ ry) hd dd.mapOf ?_;rw[<- (rel.val k).qo,<- l];exact h _ (I.tok _)
 ·subst ey
  cases (show u=Value.ref b from ry);obtain⟨z,hd,xs,rel,dd⟩:=nq I.aB e;refine wpAny_in_heap (J9 hu) (nj I.aB eb) hd dd ?_;have q:=(rel.val k).qo;rw[Option.isSome_map] at q;rw[<- q,<- l];exact h _ (I.tok _)
theorem Lp(hu:A.units + 1 < WG)(I:Inv X pins σ H s)(g:iW H a y o)(ry:RelV y u)(h:∀ s',Inv X pins σ H s'->Q (.bool (!o.isSome)) s') :
  W8 (model X.prog X.w) A (WT .NotIn u (.ref a)) Q E s:=by
 rcases g with ⟨ae,k,e,ey,l⟩ | ⟨ae,k,b,e,ey,eb,l⟩
 ·subst ey;obtain⟨z,hd,vs,rel,dd⟩:=lX I.aB e;refine wpAny_notIn_of (kQ ry) hd dd.mapOf ?_;rw[<- (rel.val k).qo,<- l];exact h _ (I.tok _)
 ·subst ey
  cases (show u=Value.ref b from ry);obtain⟨z,hd,xs,rel,dd⟩:=nq I.aB e;refine wpAny_notIn_heap (J9 hu) (nj I.aB eb) hd dd ?_;have q:=(rel.val k).qo;rw[Option.isSome_map] at q;rw[<- q,<- l];exact h _ (I.tok _)
theorem sZ(I:Inv X pins σ H s)(mu:pV (H a))(hs:Qy a s.heap h')(he:∃ q,h'.get? a=some q)(new:cj X.prog X.w (upd H a ob) h' a ob) :
  Inv X pins σ (upd H a ob) { s with heap:=h',toks:=t' } :=
 I.write (x:=a) (e:=a) mu (.inl rfl) (λb q hb z=>(hs.2 b hb).trans z) he new
theorem Bz(z:ae.length<=Wd)(hd:(a == Qm)=false)(rel:KV ae vs)(dd:h'.DictOf (eN P w) a vs) :
  cj P w H' h' a (.dK ae):=⟨z,hd,vs,rel,dd⟩
theorem Lq(hu:A.units + 1 < WG)(I:Inv X pins σ H s)(g:oJ H a y v H')(ry:RelV y u)(rv:RelV v r)(h:∀ s',Inv X pins σ H' s'->Q () s') :
  W8 (model X.prog X.w) A (setItem (.ref a) u r) Q E s:=by
 rcases g with ⟨ae,k,e,ey,l,eH⟩ | ⟨ae,k,b,e,ey,eb,l,eH⟩
 ·subst ey eH;obtain⟨z,hd,vs,rel,dd⟩:=vN I.aB e;have hz:vs.length<=Wd:=by rw[<- rel.length]; exact z
  have hl:(putK ae k v).length<=Wd:=by have:=sY ae k v; omega
  refine wpAny_setItem_pairs (hsz:=hz) (kQ ry) dd λh' nt hs=>h _ ?_
  have he:∃ q,h'.get? a=some q:=let ⟨q,_,_,hq,_⟩:=nt; ⟨q,hq⟩
  exact sZ I (by rw[e]; exact True.intro) hs he (Bz hl hd (rel.put k rv) nt)
 ·subst ey eH
  cases (show u=Value.ref b from ry);obtain⟨z,hd,xs,rel,dd⟩:=Lm I.aB e;have hz:xs.length<=Wd:=by rw[<- Paired.length rel]; exact z
  have hl:(putK ae k v).length<=Wd:=by have:=sY ae k v; omega
  refine wpAny_setItem_heap (hsz:=hz) (J9 hu) (nj I.aB eb) dd λh' nt hs=>h _ ?_
  obtain⟨q,es,ep,hq,h2,h3,h4,_,h5⟩:=nt;refine sZ I (by rw[e]; exact True.intro) hs ⟨q,hq⟩ ⟨hl,hd,_,(rel.put k eb rv).keeps λc ys ec=>?_,q,es,ep,hq,h2,h3,h4,h5⟩;rw[aL (HU ec e (λz=>nomatch z))];exact ec
end
section
variable {X:Cx} {pins:List (Addr×Obj)} {σ:St} {H:Hp} {s:W4} {a:Addr} {ae:List (Key×V)} {k:Key} {u:Value} {A:Wu} {E:Value->W4->Prop}
theorem Lr (I:Inv X pins σ H s) (e:Rd H a (.dK ae)) (h:∀ t s',Inv X pins σ H s'->Q (.int ae.length t) s'):W8 (model X.prog X.w) A (call (.builtin "len") [.ref a]) Q E s:=by
 obtain⟨z,hd,vs,rel,dd⟩:=lX I.aB e;refine call_len_dict hd dd (by rw[<- rel.length]; rw[JJ] at z; omega) ?_;rw[<- rel.length];exact h _ _ (I.tok _)
end
def Ls(td ty tv:TE):TS:=λD σ H=>tv σ H λv H1=>td σ H1 λx H2=>ty σ H2 λy H3=>∃ a H4,x = .ref a/\oJ H3 a y v H4/\D.nx σ H4
section
variable {X:Cx} {o i e value:Expr} {pos pos' Ku:Pos} {td ty tv:TE}
theorem BA(hu:X.A.units + 1 < WG)(ho:PE X o td)(hi:PE X i ty)(hv:PE X value tv)(hs:QX value (some (.Subscript o i pos')) pos.line X.env=pure false) :
  PS X (.Assign [.Subscript o i pos'] value pos) (Ls td ty tv):=by
 intro pins s σ H D I h;refine wpAny_Assign_Subscript (aR (hv pins s σ H _ I h) λr s1 ⟨v,H1,I1,rv,q1⟩=>aR (ho pins s1 σ H1 _ I1 q1) λu s2 ⟨x,H2,I2,rx,q2⟩=>aR (hi pins s2 σ H2 _ I2 q2) λiv s3 ⟨y,H3,I3,ry,a,H4,ex,g,q3⟩=>?_) hs;subst ex;obtain rfl:u=Value.ref a:=rx;exact Lq hu I3 g ry rv λs4 I4=>⟨σ,H4,I4,q3⟩
end
theorem BC (h:Heap) (hb:Qm < h.objs.size):cj P w H (h.push { cls:=.type "dict",data:=.dict #[] }) h.objs.size (.dK []) :=
 ⟨QB _,beq_eq_false_iff_ne.mpr (Ne.symm (Wo hb)),[],.nil,Heap.DictOf.new h⟩
def Lu:TE:=λ_ H Q=>∀ p,H p=none->Q (.ref p) (upd H p (.dK []))
section
variable {X:Cx} {pos:Pos}
theorem Lv:PE X (.Dict [] [] pos) Lu:=λpins s σ H Q I h =>
 wpAny_Dict_empty ⟨.ref s.heap.objs.size,_,I.laid (a:=s.heap.objs.size) (o:=.dK []) (t':=s.toks) (λ_ _ q=>Wa _ q) (Wh _) (BC s.heap I.big),rfl,h _ (I.aB.fresh (Wh _))⟩
end
abbrev VV:List (V×V)->List (Value×Value)->Prop:=Paired λp q=>RelV p.1 q.1/\RelV p.2 q.2
structure M1(X:Cx)(o:Expr)(m:Str)(apos:Pos)(e:Expr)(aZ:Pos):Prop where
 base:Qt o m X.env (eval o X.env)=eval o X.env
 s_:((Q5 aZ (Wf [e] X.env)).all (λx=>!x.1) && (JK aZ (QR [] X.env)).all (λx=>x.1.isSome)
  && decide (([e]:List Expr).length + ([]:List Keyword).length + (if ([]:List Keyword).isEmpty then 0 else 1) < 30))=true
 line:(apos.endLine == aZ.line)=true
 trees:Q5 aZ (Wf [e] X.env)=[(false,eval e X.env)]
structure M2(X:Cx)(o:Expr)(m:Str)(apos:Pos)(e f:Expr)(aZ:Pos):Prop where
 base:Qt o m X.env (eval o X.env)=eval o X.env
 s_:((Q5 aZ (Wf [e,f] X.env)).all (λx=>!x.1) && (JK aZ (QR [] X.env)).all (λx=>x.1.isSome)
  && decide (([e,f]:List Expr).length + ([]:List Keyword).length + (if ([]:List Keyword).isEmpty then 0 else 1) < 30))=true
 line:(apos.endLine == aZ.line)=true
 trees:Q5 aZ (Wf [e,f] X.env)=[(false,eval e X.env),(false,eval f X.env)]
def vO(H:Hp)(a:Addr):Prop:=(∃ ae,Rd H a (.dK ae))\/∃ ae,Rd H a (.dT ae)
theorem BD(I:Inv X pins σ H s)(d:vO H a) :
  s.TypeIs (.ref a) "dict"/\(∀ b,Value.ref a = .ref b->∃ ob,s.heap.get? b=some ob/\ob.dict=none)/\(a == Qm)=false:=by
 rcases d with ⟨ae,e⟩ | ⟨ae,e⟩
 ·obtain⟨_,hd,vs,_,dd⟩:=lX I.aB e;refine⟨dd.typeIs,λb q=>?_,hd⟩
  cases q;obtain⟨ob,_,_,h1,h2,_⟩:=dd;exact⟨ob,h1,h2.2.1⟩
 ·obtain⟨_,hd,xs,_,dd⟩:=nq I.aB e;refine⟨dd.typeIs,λb q=>?_,hd⟩
  cases q;obtain⟨ob,_,_,h1,h2,_⟩:=dd;exact⟨ob,h1,h2.2.1⟩
section
variable {X:Cx} {pins:List (Addr×Obj)} {σ:St} {H:Hp} {s:W4} {a:Addr} {y d:V} {u r:Value} {o:Option V} {A:Wu} {E:Value->W4->Prop}
theorem Lw(hu:A.units + 1 < WG)(I:Inv X pins σ H s)(g:iW H a y o)(ry:RelV y u)(h:∀ w' s',Inv X pins σ H s'->RelV (o.getD .bf) w'->Q w' s') :
  W8 (model X.prog X.w) A (call (.builtin "dict.get") [.ref a,u]) Q E s:=by
 rcases g with ⟨ae,k,e,ey,l⟩ | ⟨ae,k,b,e,ey,eb,l⟩
 ·subst ey;obtain⟨z,hd,vs,rel,dd⟩:=lX I.aB e;refine call_meetsIn Qi dd.typeIs J7 (PySem.F.args_dict_get_2 _ _) (meets_dict_get (eN X.prog X.w) a (kQ ry) hd) ⟨_,dd.mapOf,h _ _ (I.tok _) ?_⟩;rw[l];exact(rel.val k).getD rfl
 ·subst ey
  cases (show u=Value.ref b from ry);obtain⟨z,hd,xs,rel,dd⟩:=nq I.aB e;refine call_meetsIn Qi dd.typeIs J7 (PySem.F.args_dict_get_2 _ _) (meetsH_dict_get (tupleKind (eN X.prog X.w)) a b hd) ⟨J9 hu,k,xs,nj I.aB eb,dd,h _ _ (I.tok _) ?_⟩;rw[l];exact(rel.val k).getD rfl
theorem Lx(hu:A.units + 1 < WG)(I:Inv X pins σ H s)(g:iW H a y o)(ry:RelV y u)(rd:RelV d r)(h:∀ w' s',Inv X pins σ H s'->RelV (o.getD d) w'->Q w' s') :
  W8 (model X.prog X.w) A (call (.builtin "dict.get") [.ref a,u,r]) Q E s:=by
 rcases g with ⟨ae,k,e,ey,l⟩ | ⟨ae,k,b,e,ey,eb,l⟩
 ·subst ey;obtain⟨z,hd,vs,rel,dd⟩:=lX I.aB e;refine call_meetsIn Qi dd.typeIs J7 (PySem.F.args_dict_get_3 _ _ _) (meets_dict_get_default (eN X.prog X.w) a (kQ ry) hd r) ⟨_,dd.mapOf,h _ _ (I.tok _) ?_⟩;rw[l];exact(rel.val k).getD rd
 ·subst ey
  cases (show u=Value.ref b from ry);obtain⟨z,hd,xs,rel,dd⟩:=nq I.aB e;refine call_meetsIn Qi dd.typeIs J7 (PySem.F.args_dict_get_3 _ _ _) (meetsH_dict_get_default (tupleKind (eN X.prog X.w)) a b hd r) ⟨J9 hu,k,xs,nj I.aB eb,dd,h _ _ (I.tok _) ?_⟩;rw[l];exact(rel.val k).getD rd
end
def Ly(td ty:TE):TE:=λσ H Q=>td σ H λx H1=>∃ a,x = .ref a/\vO H1 a/\ty σ H1 λy H2=>∃ o,iW H2 a y o/\Q (o.getD .bf) H2
def Lz(td ty tx:TE):TE:=λσ H Q=>td σ H λx H1=>∃ a,x = .ref a/\vO H1 a/\ty σ H1 λy H2=>tx σ H2 λz H3=>∃ o,iW H3 a y o/\Q (o.getD z) H3
section
variable {X:Cx} {o e f:Expr} {apos aZ:Pos} {td ty tx:TE}
theorem LA (hu:X.A.units + 1 < WG) (ho:PE X o td) (he:PE X e ty) (m:M1 X o "get" apos e aZ):PE X (.Call (.Attribute o "get" apos) [e] [] aZ) (Ly td ty):=by
 intro pins s σ H Q I h;refine Ub m.base m.s_ m.line PySem.F.plainAttrs_dict Qi PySem.F.type_dict_get (aR (ho pins s σ H _ I h) λu s1 ⟨x,H1,I1,rx,a,ex,d,q1⟩=>?_);subst ex;obtain rfl:u=Value.ref a:=rx;obtain⟨t1,t2,_⟩:=BD I1 d;refine⟨t1,t2,?_⟩;rw[m.trees];refine Calls.callWith_builtin rfl (Calls.evalArgs_plain (Calls.spliced_cons (aR (he pins s1 σ H1 _ I1 q1) λiv s2 ⟨y,H2,I2,ry,ov,g,q2⟩=>Calls.spliced_nil ?_)));exact Lw hu I2 g ry λw' s3 I3 aK=>⟨_,H2,I3,aK,q2⟩
theorem LB (hu:X.A.units + 1 < WG) (ho:PE X o td) (he:PE X e ty) (hf:PE X f tx) (m:M2 X o "get" apos e f aZ):PE X (.Call (.Attribute o "get" apos) [e,f] [] aZ) (Lz td ty tx):=by
 intro pins s σ H Q I h;refine Ub m.base m.s_ m.line PySem.F.plainAttrs_dict Qi PySem.F.type_dict_get (aR (ho pins s σ H _ I h) λu s1 ⟨x,H1,I1,rx,a,ex,d,q1⟩=>?_);subst ex;obtain rfl:u=Value.ref a:=rx;obtain⟨t1,t2,_⟩:=BD I1 d;refine⟨t1,t2,?_⟩;rw[m.trees];refine Calls.callWith_builtin rfl (Calls.evalArgs_plain (Calls.spliced_cons (aR (he pins s1 σ H1 _ I1 q1) λiv s2 ⟨y,H2,I2,ry,q2⟩ =>
  Calls.spliced_cons (aR (hf pins s2 σ H2 _ I2 q2) λfv s3 ⟨z,H3,I3,rz,ov,g,q3⟩=>Calls.spliced_nil ?_))))
 exact Lx hu I3 g ry rz λw' s4 I4 aK=>⟨_,H3,I4,aK,q3⟩
end
section
variable {X:Cx} {pins:List (Addr×Obj)} {σ:St} {H:Hp} {s:W4} {a:Addr} {ae:List (Key×V)} {A:Wu} {E:Value->W4->Prop}
end
section
variable {X:Cx} {pins:List (Addr×Obj)} {σ:St} {H:Hp} {s:W4} {a:Addr} {y:V} {u:Value} {A:Wu} {E:Value->W4->Prop}
end
end L2
namespace Att
open PySem PySem.W PySem.Calls PyProof.Rows
theorem LC:∀ (ns:List Int) (vs:List Value),WellAll P h vs (ns.map WData.int)->IntsAre vs ns:=by
 intro ns;induction ns with
 | nil =>
  intro vs w;rw[List.map_nil] at w
  cases w;exact .nil
 | cons n ns ih =>
  intro vs w;rw[Wk] at w
  cases w with
  | cons a b =>
   cases a;exact .cons _ _ (ih _ b)
theorem LD{l:OpenLaw}{n:Nat}(hn:l.most=some n){P:Params}{h:Heap}{args:List WData}{vals:List Value}
  (tf:l.row.toRowW.claim.pre args=true) (qp:WellAll P h vals args) :
  ∃ a vs ns,vals=[Value.ref a]/\args=[WData.list (ns.map WData.int)]/\h.get? a=some { cls:=.type "list",data:=.seq vs.toArray }/\IntsAre vs ns/\ns.length<=n:=by
 have LF:WShape.hasAll [] args [.list .int]=true:=(pre_splitW tf).1;have hc:l.pre.holds [] { args:=args } = true:=(pre_splitW tf).2;obtain⟨d,r,rfl,h1,h2⟩:=hasAllW_cons LF;obtain rfl:=hasAllW_nil h2;obtain⟨xs,rfl,h3⟩:=hasW_list h1;obtain⟨ns,rfl⟩:=items_int h3;have hlen:ns.length<=n:=by
  unfold OpenLaw.pre at hc;have h4:(WTm.not (.lt (.lit (.int (n:Int))) (.len (.arg 0)))).holds [] { args:=[.list (ns.map .int)] } = true:=by
   have h4:=(holds_andW hc).1;rw[hn] at h4;exact h4
  have h5:=condW_of h4 (w_not (w_lt w_lit (w_len_list (w_arg rfl))));rw[Wx] at h5;refine Nat.le_of_not_lt λq=>?_
  have q':(n:Int) < ((ns.length:Nat):Int):=by omega
  first
   | (rw[decide_eq_true q'] at h5; exact absurd h5 (by decide))
   | (simp at h5; omega)
 cases qp with
 | cons w1 w2 =>
  cases w2
  cases w1 with
  | list ho hall=>exact⟨_,_,ns,rfl,rfl,ho,LC ns _ hall,hlen⟩
theorem LG(l:OpenLaw)(args:List WData):l.row.toRowW.claim.post args (.bool true) args=true :=
 postW_of (r:=l.row.toRowW) (X:=(true == true))
  (show WShape.has [] (.bool true) .bool=true by first | rfl | decide | simp[WShape.has,WShape.arms,WShape.armsAll])
  (show(WTm.eq .res (.lit (.bool true))).value [] { args:=args,res:=some (.bool true),after:=args } = some (.bool (true == true)) from w_eq_bool (w_res rfl) w_lit) rfl
theorem LH{l:OpenLaw}{n:Nat}{q:Wm}{loose:List Str}{XP:(Str->Option Value)->Heap->Prop}{YP:Wq->Heap->Prop}{d:DefRec}
  (hn:l.most=some n) (qq:d.params.defaults=[])
  (call:∀ (w:Wq) (s₀ s₁:W4) (mg mb:Str->Option Value) (fa:Addr) (o:Obj) (pm cd doc:Value) (a:Addr) (vs:List Value) (ns:List Int),
   Ground q loose [] XP w s₀ mg mb s₁.heap->YP w s₁.heap ->
   s₁.heap.get? fa=some o->o.data = .func (docDef d.name d.params d.body d.scope pm cd doc)->s₁.heap.CodeRec cd d.name->mg d.name=some (.ref fa) ->
   s₁.heap.get? a=some { cls:=.type "list",data:=.seq vs.toArray }->IntsAre vs ns->ns.length<=n->s₁.gens = #[] ->
   Jt (model l.prog w) callerA (.call (.ref fa) ⟨[.ref a],[]⟩) (λr s'=>r = .ok (.ret (.bool true))/\OldK s₁.heap s'.heap/\s'.os=s₁.os/\AllBare s'.gens) s₁) :
  WalkO q loose XP YP l.row.toRowW d [] (λf vs=>PySem.call f vs):=by
 intro w s₀ s₁ mg mb G Y fa o pm cd doc dV kV ho hd jn hD qr hg args vals as tf hlay hrd qp hlo;obtain rfl:dV = .none:=Dflts.none hD qq;obtain rfl:kV = .none:=Dflts.noKw hD;obtain⟨a,vs,ns,rfl,rfl,vP,hints,hlen⟩:=LD hn tf qp;refine enter_call (codeAny_mono (call w s₀ s₁ mg mb fa o pm cd doc a vs ns G Y ho (fd_plain hd) jn qr vP hints hlen hg) λr s' hq=>?_);obtain⟨rfl,h2,h3,h4⟩:=hq;exact⟨.inl ⟨.bool true,.bool true,[],rfl,λ_=>rfl,.bool true,LG l _,λ_=>⟨List.Pairwise.nil,λ_ hm=>(nomatch hm)⟩⟩,h2,h3,h4⟩
section
variable {prog:Wm} {w:Wq} {A:Wu} {E:Value->W4->Prop} {s:W4} {K:Frag}
end
end Att
namespace L2
open PySem PySem.Spec PyProof.Rows
theorem qt:∀ {vs:List Value} {ns:List Int},IntsAre vs ns->Vals (ns.map V.int) vs
 | _,_,.nil=>.nil
 | _,_,.cons n t h=>.cons ⟨t,rfl⟩ (qt h)
def vQ(H:Hp):Prop:=∀ b,H b=none\/∃ o xs,H b=some (.frz o (.lst xs))
theorem LI{P:Wm}{w:Wq}{K:W3}{mg mb:Str->Option Value}{CX:jr}{k:Nat}{fa a:Addr}{fd:Qn}{x:Str}{sp:Sp}{s₁:W4}{vs:List Value}{ns:List Int}
  (KX:K.In s₁.heap) (BF:s₁.heap.Ns WE mg) (hb:s₁.heap.Ns builtinsNs mb) (LJ:∀ x:Str,x≠"__name__"->mb x=QH x) (LK:s₁.heap.NoLimit) (hg:s₁.gens = #[])
  (ha:s₁.heap.get? a=some { cls:=.type "list",data:=.seq vs.toArray }) (hi:IntsAre vs ns) (hl:ns.length<=Wd) (hr:fu k callerA)
  (F:∀ base:Heap,K.In base->base.Ns WE mg->jt P w K mg base CX k fa fd [x] sp) (LM:∀ (s:W4) (u:Value),BindsTo s fd ⟨[u],[]⟩ [(x,u)])
  (lT:∀ H:Hp,vQ H->bW K H a (ns.map V.int)->sp [.ref a] H (λv _=>v = .bl true) λ_ _ _=>False)
  (vR:∀ H e s',CX [] H s₁ (λ_ _ _=>False) e s'->False) :
  Jt (model P w) callerA (.call (.ref fa) ⟨[.ref a],[]⟩) (λr s'=>r = .ok (.ret (.bool true))/\OldK s₁.heap s'.heap/\s'.os=s₁.os/\AllBare s'.gens) s₁:=by
 have rv:=qt hi;have LN:=hi.length;-- from an abstract heap in which nothing but the script may be tracked
 have core:∀ H:Hp,vQ H->bW K H a (ns.map V.int)->cG P w H s₁.heap->(∀ b,H b≠none->b=a)->(H a≠none->K.lookup a=none) ->
   Jt (model P w) callerA (.call (.ref fa) ⟨[.ref a],[]⟩) (λr s'=>r = .ok (.ret (.bool true))/\OldK s₁.heap s'.heap/\s'.os=s₁.os/\AllBare s'.gens) s₁:=by
  intro H hO hS aB hA hK;have BG:∀ {b:Addr} {o:Obj},s₁.heap.get? b=some o->H b=none->(kI s₁.heap H).get? b=some o:=λe n=>H_ e n
  have qj:∀ {b:Addr} {o:Obj} {es:Array DictEntry} {ep:Nat},s₁.heap.get? b=some o->o.data = .dict es ep->H b=none:=λ{b o es ep} e d=>by
   cases q:H b with
   | none=>rfl
   | some u =>
    have e':b=a:=hA b (by rw[q]; simp);subst e';rw[ha] at e; cases e
    have d':Data.seq vs.toArray _=Data.dict es ep:=d
    cases d'
  have tj:∀ {b:Addr} {m:Str->Option Value},s₁.heap.Ns b m->(kI s₁.heap H).Ns b m:=λ{b m} ⟨o,es,ep,e,d,r⟩=>⟨o,es,ep,BG e (qj e d),d,r⟩
  have BH:K.In (kI s₁.heap H):=λb o e=>BG (KX b o e) (by
   cases q:H b with
   | none=>rfl
   | some u =>
    have e':b=a:=hA b (by rw[q]; simp);subst e';rw[hK (by rw[q]; simp)] at e; cases e)
  have hM:Mod K mg (kI s₁.heap H):=⟨BH,tj BF,⟨mb,tj hb,LJ⟩,let ⟨mc,h1,h2⟩:=LK; ⟨mc,tj h1,h2⟩⟩
  have e0:sQ P w K mg (kI s₁.heap H) callerA [] s₁ H:=⟨rfl,hM,λb o e=>Ia e,Nat.le_of_eq (HZ _ _),trivial,λb hb=>absurd (show b ∈ ([]:List Addr) from hb) (by simp),aB,.of_eq hg⟩
  refine codeAny_mono ((F _ BH (tj BF)).run callerA [] s₁ H ⟨[.ref a],[]⟩ [.ref a] [.ref a] _ _ hr e0 (LM s₁ (.ref a)) (.cons rfl .nil) (lT H hO hS)) λr s' h=>?_
  cases r with
  | error e=>exact(vR H e s' h).elim
  | ok fl =>
   cases fl with
   | next=>exact False.elim h
   | brk=>exact False.elim h
   | cont=>exact False.elim h
   | ret u =>
    obtain⟨v,H',os,bare,un,hok',r',q⟩:=h;have q':v = .bl true:=q;subst q';obtain rfl:u=Value.bool true:=r';refine⟨rfl,OldK.of_keep λb o e=>?_,os,bare⟩
    cases q:H b with
    | none=>exact un.keep b o e q (by intro z; exact absurd (show b ∈ ([]:List Addr) from z) (by simp)) (by simp)
    | some u =>
     rcases hO b with z | ⟨ob,xs,z⟩
     ·rw[q] at z; cases z
     ·have z2:=un.kH b ob _ z;obtain⟨e1,_⟩:=aB b _ z;obtain⟨e2,_⟩:=hok' b _ z2;rw[e] at e1; cases e1
      exact e2
 cases hk:K.lookup a with
 | some o =>
  -- the script is one of the module's own objects
  have e:=KX a o hk;rw[ha] at e
  cases e;refine core (λ_=>none) (λ_=>.inl rfl) (.inr ⟨_,vs.toArray,_,hk,rfl,rfl,rfl,by rw[Wp,LN]; exact hl,by simpa using rv⟩) (λb u z=>by have z':(none:Option HO)=some u:=z; cases z') (λb z=>absurd rfl z) λz=>absurd rfl z
 | none =>
  refine core (λb=>if b=a then some (.frz { cls:=.type "list",data:=.seq vs.toArray } (.lst (ns.map V.int))) else none) (λb=>?_) (.inl (.inr ⟨{ cls:=.type "list",data:=.seq vs.toArray },if_pos rfl⟩)) (λb u z=>?_) (λb z=>?_) λ_=>hk
  ·by_cases hb:b=a
   ·exact .inr ⟨_,_,if_pos hb⟩
   ·exact .inl (if_neg hb)
  ·by_cases hb:b=a
   ·have z':=(if_pos hb).symm.trans z
    cases z';subst hb;exact⟨ha,by rw[Wx]; exact hl,vs,_,rv,ha⟩
   ·have z':=(if_neg hb).symm.trans z
    cases z'
  ·by_cases hb:b=a
   ·exact hb
   ·exact absurd (if_neg hb) z
abbrev V2{K:W3}{h:Heap}(_:K.In h):W3:=K
theorem LO{l:PySem.W.OpenLaw}{n k:Nat}{q:Wm}{loose:List Str}{XP:(Str->Option Value)->Heap->Prop}{YP:Wq->Heap->Prop}{d:DefRec}{K:Params->W3}{CX:Wq->jr}{sp:Wq->Sp}{x:Str}
  (hn:l.most=some n) (LP:n<=Wd) (qq:d.params.defaults=[]) (hr:fu k callerA)
  (hY:∀ (w:Wq) (h:Heap),YP w h->(K w.params).In h)
  (F:∀ (w:Wq) (mg:Str->Option Value) (fa:Addr) (h:Heap),(K w.params).In h->h.Ns WE mg->mg d.name=some (.ref fa) ->
   ∃ fd:Qn,(∀ (s:W4) (u:Value),BindsTo s fd ⟨[u],[]⟩ [(x,u)]) /\
    ∀ base:Heap,(K w.params).In base->base.Ns WE mg->jt l.prog w (K w.params) mg base (CX w) k fa fd [x] (sp w))
  (lT:∀ (w:Wq) (H:Hp) (a:Addr) (ns:List Int),ns.length<=n->vQ H->bW (K w.params) H a (ns.map V.int)->sp w [.ref a] H (λv _=>v = .bl true) λ_ _ _=>False)
  (vR:∀ (w:Wq) (H:Hp) (s:W4) (e:Value) (s':W4),CX w [] H s (λ_ _ _=>False) e s'->False) :
  PySem.W.WalkO q loose XP YP l.row.toRowW d [] (λf vs=>PySem.call f vs):=by
 refine Att.LH hn qq λw s₀ s₁ mg mb fa o pm cd doc a vs ns G Y ho hd jn qr vP hints hlen hg=>?_
 have KX:=hY w _ Y;obtain⟨fd,hb,hF⟩:=F w mg fa _ KX G.T.g qr;exact LI KX G.T.g G.T.b G.T.builtins G.T.nolimit hg vP hints (WA hlen LP) hr hF hb (λH hO hS=>lT w H a ns hlen hO hS) λH e s'=>vR w H s₁ e s'
def lY(s:Stmt):Arguments:=match s with
 | .FunctionDef _ a _ _ _ _ _ _ _ _=>a
 | _=>{ posonlyargs:=[],args:=[],vararg:=none,kwonlyargs:=[],kw_defaults:=[],kwarg:=none,defaults:=[] }
def jv(s:Stmt):List Stmt:=match s with
 | .FunctionDef _ _ b _ _ _ _ _ _ _=>b
 | _=>[]
def cf(s:Stmt):Scope:=match s with
 | .FunctionDef _ _ _ _ _ _ sc _ _ _=>sc
 | _=>{ kind:=.function,names:=[],isGenerator:=false,isCoroutine:=false }
abbrev jw:jr:=λ_ _ _ _ _ _=>False
abbrev E0:XK:=λ_ _ _=>False
theorem LQ:vC jw X E0:=λ_ _ _ _ _ _ _ h=>h.elim
structure cu(K:W3)(x qual:Str)(st:Stmt)(f:Addr)(fd:Qn):Prop where
 ex:∃ (oc:Value) (od:Option Addr) (kV doc pm:Value) (an:Option Addr) (bu ct:Value) (lR:Array (Option Value)),
  fd=QS x qual (lY st) (jv st) (cf st) .none kV doc pm an bu ct/\K.lookup f=some ⟨oc,od,.func fd,lR⟩/\PySem.W.codeIn K bu qual=true
 kp:U7 K (.ref f)=true
section
variable {P:Wm} {w:Wq} {K:W3} {mg:Str->Option Value} {base:Heap}
theorem cu.ok{x qual:Str}{st:Stmt}{f:Addr}{fd:Qn}{N ps:List Str}{k:Nat}{sp:Sp}(F:cu K x qual st f fd)(S:cL N ps (cf st))(len:∀ vs H Q E,sp vs H Q E->vs.length=ps.length)
  (nh:∀ (bu:Value) (A:Wu) (outer:List Env) (s:W4) (H:Hp) (vs:List V) (Q:VK) (E:XK),fu k (A.deeper (envOfC qual (cf st) s.heap.objs.size f bu))->sp vs H Q E ->
   ∃ t,eX (lQ jw P w K mg base N qual (cf st) f bu A outer s H E).oF (jv st) t/\t { nx:=λ_ H'=>Q .bf H',rt:=Q } (j4 N vs) H):jt P w K mg base jw (k + 1) f fd ps sp:=by
 obtain⟨oc,od,kV,doc,pm,an,bu,ct,lR,rfl,lk,jn⟩:=F.ex;refine KG lk jn S len λA outer s H vs Q E hr lT=>?_
 obtain⟨t,h,q⟩:=nh bu A outer s H vs Q E hr lT;exact⟨t,h.oF,q⟩
theorem cu.binds{x qual:Str}{st:Stmt}{f:Addr}{fd:Qn}{ps:List Str}(F:cu K x qual st f fd)
  (h:∀ (kV doc pm:Value) (an:Option Addr) (bu ct:Value) (us:List Value),us.length=ps.length->bindArgs (QS x qual (lY st) (jv st) (cf st) .none kV doc pm an bu ct) ⟨us,[]⟩=pure (ps.zip us)):Binds K fd ps []:=by
 obtain⟨oc,od,kV,doc,pm,an,bu,ct,lR,rfl,lk,jn⟩:=F.ex;exact .all (h kV doc pm an bu ct)
theorem BI{x qual:Str}{st:Stmt}{f:Addr}{oc:Value}{od an:Option Addr}{lR:Array (Option Value)}{kV doc pm bu ct:Value}(l:K.lookup f=some ⟨oc,od,.func (QS x qual (lY st) (jv st) (cf st) .none kV doc pm an bu ct),lR⟩)
  (c:PySem.W.codeIn K bu qual=true) (k:U7 K (.ref f)=true):cu K x qual st f (QS x qual (lY st) (jv st) (cf st) .none kV doc pm an bu ct):=⟨⟨oc,od,kV,doc,pm,an,bu,ct,lR,rfl,l,c⟩,k⟩
end
theorem LR(h:n<=1000):n < Wd:=Ja h (by decide)
section
variable {X:Cx}
theorem pv (i:Nat) (hN:X.N[i]? = some x:=by rfl) (hv:sA X.env.scope x:=by first | exact Or.inl rfl | exact Or.inr (Or.inl rfl) | exact Or.inr (Or.inr rfl)) (hd:(x == ("__debug__" : Str))=false:=by decide)
  (jn:(x == ("__classdict__" : Str))=false:=by decide):PE X (.Name x pos) (cz i):=Ii hN hv hd jn
theorem LS:fH X (.builtin "len") (λxs H Q=>∃ a ae,xs=[V.ref a]/\H a=some (.dK ae)/\Q (.int ae.length) H):=by
 intro pins s σ H xs us Q I r h;obtain⟨a,ae,rfl,ha,q⟩:=h;obtain⟨u,rfl,ru⟩:=jq r
 cases ru;exact Lr I (.inl ha) λt s' I'=>⟨.int ae.length,H,I',⟨t,rfl⟩,q⟩
end
section
variable {κ:Type} [DecidableEq κ]
end
def gc(cells:List (Str×Addr)):List (Str×NameKind)->List (Str×Addr)->List (Str×Addr)
 | [],acc=>acc
 | (n,k) :: r,acc=>gc cells r (if k == .free then(match cells.lookup n with | some a=>(n,a) :: acc | none=>acc) else acc)
theorem vS(f:Str×NameKind->List (Str×Addr)->Sem (ForInStep (List (Str×Addr))))
  (hf:∀ name kind cs,f (name,kind) cs=if kind == .free then(do let a <- cellOf env name; pure (.yield ((name,a) :: cs))) else pure (.yield cs)) :
  ∀ (names:List (Str×NameKind)) (acc:List (Str×Addr)),(∀ x ∈ names,x.2=NameKind.free->∃ c,env.cells.lookup x.1=some c)->(forIn names acc f:Sem (List (Str×Addr)))=pure (gc env.cells names acc)
 | [],acc,_=>by rw[JP]; rfl
 | (n,k) :: r,acc,h=>by
  rw[Jh,hf];unfold gc;by_cases hk:(k == NameKind.free)=true
  ·obtain⟨c,hc⟩:=h (n,k) Wb (by simpa using hk);have jm:env.cells.lookup n=some c:=hc;have e:cellOf env n=pure c:=by unfold cellOf; rw[jm]
   rw[if_pos hk,if_pos hk,e,jm];exact vS f hf r _ λx hx=>h x (W7 _ hx)
  ·rw[if_neg hk,if_neg hk];exact vS f hf r _ λx hx=>h x (W7 _ hx)
theorem BJ(h:∀ x ∈ scope.names,x.2=NameKind.free->∃ c,env.cells.lookup x.1=some c):closureFor scope env=pure (gc env.cells scope.names []):=by
 unfold closureFor;dsimp only;rw[vS (env:=env) _ (λname kind cs=>by cases hkc:kind == NameKind.free <;> simp[hkc]) scope.names [] h];rfl
theorem BK:∀ (names:List (Str×NameKind)) (acc:List (Str×Addr)),(n,c) ∈ gc cells names acc->(n,c) ∈ acc\/((n,NameKind.free) ∈ names/\cells.lookup n=some c)
 | [],acc,h=>.inl h
 | (y,k) :: r,acc,h=>by
  unfold gc at h;rcases BK r _ h with q | ⟨q,e⟩
  ·by_cases hk:(k == NameKind.free)=true
   ·rw[if_pos hk] at q;have nu:k=NameKind.free:=by simpa using hk
    cases e:cells.lookup y with
    | none=>rw[e] at q; exact .inl q
    | some a =>
     rw[e] at q;rcases Wr.mp q with z | z
     ·cases z;exact .inr ⟨by rw[nu]; exact Wb,e⟩
     ·exact .inl z
   ·rw[if_neg hk] at q; exact .inl q
  ·exact .inr ⟨W7 _ q,e⟩
theorem BL:∀ (names:List (Str×NameKind)) (acc:List (Str×Addr)),(acc.lookup n).isSome=true\/((n,NameKind.free) ∈ names/\(cells.lookup n).isSome=true)->((gc cells names acc).lookup n).isSome=true
 | [],acc,h=>h.elim id λz=>absurd z.1 (by simp)
 | (y,k) :: r,acc,h=>by
  unfold gc;apply BL r;by_cases hk:(k == NameKind.free)=true
  ·rw[if_pos hk]
   cases e:cells.lookup y with
   | none =>
    rcases h with h | ⟨h1,h2⟩
    ·exact .inl h
    ·rcases Wr.mp h1 with z | z
     ·cases z;rw[e] at h2; cases h2
     ·exact .inr ⟨z,h2⟩
   | some a =>
    by_cases hn:(n == y)=true
    ·refine .inl ?_;show(List.lookup n ((y,a) :: acc)).isSome=true;rw[Qo,hn];rfl
    ·rcases h with h | ⟨h1,h2⟩
     ·refine .inl ?_;show(List.lookup n ((y,a) :: acc)).isSome=true;have ng:(n == y)=false:=by simpa using hn
      rw[Qo,ng];exact h
     ·rcases Wr.mp h1 with z | z
      ·cases z;exact absurd (by simp) hn
      ·exact .inr ⟨z,h2⟩
  ·rw[if_neg hk];rcases h with h | ⟨h1,h2⟩
   ·exact .inl h
   ·rcases Wr.mp h1 with z | z
    ·cases z;exact absurd rfl hk
    ·exact .inr ⟨z,h2⟩
theorem vT:∀ (names:List (Str×NameKind)) (h:Heap) (acc:List (Str×Addr)),(n,c) ∈ QN h.objs.size names acc ->
  (n,c) ∈ acc\/((n,NameKind.cell) ∈ names/\h.objs.size<=c/\(U2 h names).IsCell c none)
 | [],_,_,h=>.inl h
 | (y,k) :: r,h,acc,hm=>by
  unfold QN at hm;unfold U2;by_cases hk:(k == NameKind.cell)=true
  ·rw[if_pos hk] at hm;rw[if_pos hk];have nu:k=NameKind.cell:=by simpa using hk
   have sz:(h.push { cls:=.type "cell",data:=.cell none }).objs.size=h.objs.size + 1:=Qu ..;rw[<- sz] at hm;rcases vT r _ _ hm with q | ⟨q1,q2,q3⟩
   ·rcases Wr.mp q with z | z
    ·cases z;refine .inr ⟨by rw[nu]; exact Wb,Wh _,?_⟩;exact Heap.IsCell.keeps ⟨_,Wl _ rfl,rfl⟩ (pushCells_keeps r _)
    ·exact .inl z
   ·exact .inr ⟨W7 _ q1,by rw[sz] at q2; omega,q3⟩
  ·rw[if_neg hk] at hm;rw[if_neg hk];rcases vT r _ _ hm with q | ⟨q1,q2,q3⟩
   ·exact .inl q
   ·exact .inr ⟨W7 _ q1,q2,q3⟩
theorem vU:∀ (names:List (Str×NameKind)) (k:Nat) (acc:List (Str×Addr)),(∀ n n' c,(n,c) ∈ acc->(n',c) ∈ acc->n=n')->(∀ n c,(n,c) ∈ acc->c < k) ->
  ∀ n n' c,(n,c) ∈ QN k names acc->(n',c) ∈ QN k names acc->n=n'
 | [],_,_,h,_=>h
 | (y,kd) :: r,k,acc,h,hb=>by
  unfold QN;by_cases hk:(kd == NameKind.cell)=true
  ·rw[if_pos hk];refine vU r (k + 1) _ (λn n' c h1 h2=>?_) λn c hm=>?_
   ·rcases Wr.mp h1 with e | h1 <;> rcases Wr.mp h2 with e' | h2
    ·cases e; cases e'; rfl
    ·cases e; exact absurd (hb _ _ h2) (Qs _)
    ·cases e'; exact absurd (hb _ _ h1) (Qs _)
    ·exact h n n' c h1 h2
   ·rcases Wr.mp hm with e | hm
    ·cases e; exact Nat.lt_succ_self _
    ·exact Uc (hb _ _ hm)
  ·rw[if_neg hk];exact vU r k acc h hb
theorem nv{env:Env}{x:Str}:∀ {names:List (Str×NameKind)} {k:NameKind},
  (names.map λ(y:Str×NameKind)=>if (y.2 == NameKind.free && env.scope.kind == .function && env.kindOf y.1 == some .cell) then(y.1,NameKind.cell) else(y.1,y.2)).lookup x=some k ->
  names.lookup x=some k\/(k=NameKind.cell/\names.lookup x=some .free)
 | [],_,h=>by simp at h
 | (n,kd) :: r,k,h=>by
  rw[Wk] at h;have ih:=@nv env x r k
  cases hx:x == n with
  | true =>
   by_cases hc:(kd == NameKind.free && env.scope.kind == .function && env.kindOf n == some .cell)=true
   ·rw[if_pos hc,Qo,hx] at h
    cases h;simp only[Ws] at hc;have:kd=NameKind.free:=by simpa using hc.1.1
    exact .inr ⟨rfl,by rw[Qo,hx,this]⟩
   ·rw[if_neg hc,Qo,hx] at h
    cases h;exact .inl (by rw[Qo,hx])
  | false =>
   have h':(r.map λ(y:Str×NameKind)=>if (y.2 == NameKind.free && env.scope.kind == .function && env.kindOf y.1 == some .cell) then(y.1,NameKind.cell) else(y.1,y.2)).lookup x=some k:=by
    by_cases hc:(kd == NameKind.free && env.scope.kind == .function && env.kindOf n == some .cell)=true
    ·rw[if_pos hc,Qo,hx] at h; exact h
    ·rw[if_neg hc,Qo,hx] at h; exact h
   rw[Qo,hx];exact ih h'
def fI(X:Cx)(scope:Scope)(s₀:W4)(H₀:Hp)(ex:List Addr):Cx :=
 { X with
  env:={ scope:=relabel scope X.env,locals:=s₀.heap.objs.size,globals:=X.env.globals,cells:=QN (s₀.heap.objs.size + 1) scope.names (gc X.env.cells scope.names []),qual:=X.env.qual,func:=none,code:=X.env.code,frame:=X.env.frame,builtins:=X.env.builtins }
  s₀:=s₀
  H₀:=H₀
  outer:=X.stack
  ex:=ex
  fn:=λx=>scope.names.lookup x == some .cell
  pn:=[]
  xe:=λ_ _=>False }
structure ny(X:Cx)(scope:Scope)(cs:List Nat):Prop where
 kind:scope.kind = .function
 names:∀ x ∈ scope.names,x.2 = .local->scope.names.lookup x.1=some .local
 free:∀ x ∈ scope.names,x.2 = .free->X.env.kindOf x.1=some .cell\/X.env.kindOf x.1=some .free
 nd:(scope.names.map (·.1)).Nodup
 own:∀ (i:Nat) x,X.N[i]? = some x->scope.names.lookup x=some .local\/scope.names.lookup x=some .cell->i ∈ cs
def bO(cs:List Nat)(σ:St):St:=cs.foldl (λσ i=>σ.set i none) σ
theorem tm(cs:List Nat):∀ σ:St,(bO cs σ).length=σ.length:=by
 induction cs with
 | nil=>intro σ; rfl
 | cons i r ih =>
  intro σ;show(bO r (σ.set i none)).length=_;rw[ih]; simp
theorem lZ:∀ (cs:List Nat) (σ:St) (i:Nat) (v:V),(bO cs σ)[i]? = some (some v)->σ[i]? = some (some v)/\i ∉ cs:=by
 intro cs;induction cs with
 | nil=>intro σ i v h; exact⟨h,by simp⟩
 | cons j r ih =>
  intro σ i v h;have h':(bO r (σ.set j none))[i]? = some (some v):=h;obtain⟨h1,h2⟩:=ih _ i v h';by_cases e:j=i
  ·subst e;rw[Q7] at h1;simp at h1
  ·rw[W9 e] at h1;exact⟨h1,by simp only[Wr,not_or]; exact⟨Ne.symm e,h2⟩⟩
theorem vV:∀ {l:List (Str×α)},(l.map (·.1)).Nodup->(x,k) ∈ l->(x,k') ∈ l->k=k'
 | (y,j) :: r,nd,h1,h2=>by
  rw[Wk,WO] at nd;rcases Wr.mp h1 with e | g1 <;> rcases Wr.mp h2 with e' | g2
  ·cases e; cases e'; rfl
  ·cases e; exact absurd (Qw (f:=(·.1)) g2) nd.1
  ·cases e'; exact absurd (Qw (f:=(·.1)) g1) nd.1
  ·exact vV nd.2 g1 g2
section
variable {X:Cx} {pins:List (Addr×Obj)} {σ:St} {H:Hp} {s:W4} {scope:Scope} {cs:List Nat} {fp:List Addr}
theorem LU(I:Inv X pins σ H s)(S:ny X scope cs)(hf:∀ b ∈ fp,fG X pins H b)(aS:∀ b ∈ fp,b < s.heap.objs.size) :
  Inv (fI X scope s H fp) [] (bO cs σ) H { s with heap:=U2 (s.heap.push { cls:=.type "dict",data:=.dict #[] }) scope.names }:=by
 have sz:(s.heap.push { cls:=.type "dict",data:=.dict #[] }).objs.size=s.heap.objs.size + 1:=Qu ..;have kp:∀ b o,s.heap.get? b=some o->(U2 (s.heap.push { cls:=.type "dict",data:=.dict #[] }) scope.names).get? b=some o:=λb o e=>pushCells_keeps _ _ b o (Wa _ e)
 have tw:∀ n c,(n,c) ∈ gc X.env.cells scope.names []->(n,NameKind.free) ∈ scope.names/\X.env.cells.lookup n=some c:=λn c h=>(BK _ _ h).elim (λz=>absurd z (by simp)) id
 have LV:∀ n c,(n,c) ∈ gc X.env.cells scope.names []->c < s.heap.objs.size:=λn c h=>by
  obtain⟨v,q⟩:=I.cell n c (tw n c h).2;exact q.lt
 have qu:∀ n c,(n,c) ∈ QN (s.heap.objs.size + 1) scope.names (gc X.env.cells scope.names []) ->
   ((n,NameKind.free) ∈ scope.names/\X.env.cells.lookup n=some c)\/((n,NameKind.cell) ∈ scope.names/\s.heap.objs.size + 1<=c/\(U2 (s.heap.push { cls:=.type "dict",data:=.dict #[] }) scope.names).IsCell c none):=λn c h=>by
  rw[<- sz] at h;rcases vT _ _ _ h with q | q
  ·exact .inl (tw n c q)
  ·rw[sz] at q; exact .inr q
 have LW:=vU scope.names (s.heap.objs.size + 1) (gc X.env.cells scope.names []) (λn n' c h1 h2=>I.ok.inj n n' c (tw n c h1).2 (tw n' c h2).2) (λn c h=>Uc (LV n c h));have qw:∀ x ∈ scope.names,x.2 = .free->∃ c,X.env.cells.lookup x.1=some c:=λx hx hk=>I.ok.has x.1 (S.free x hx hk)
 have LX:∀ b ∈ fp,b ∉ il X.stack:=λb hb z=>by
  obtain⟨_,f1,f2,_⟩:=hf b hb;rcases Wr.mp (I.vm b z) with e | e
  ·exact f1 e
  ·exact f2 e
 have LY:∀ x,(fI X scope s H fp).env.kindOf x=some .cell\/(fI X scope s H fp).env.kindOf x=some .free->scope.names.lookup x=some .cell\/scope.names.lookup x=some .free:=λx h=>by
  rcases h with h | h
  ·have h':(relabel scope X.env).names.lookup x=some .cell:=h;rcases nv (env:=X.env) (names:=scope.names) h' with q | ⟨_,q⟩
   ·exact .inl q
   ·exact .inr q
  ·have h':(relabel scope X.env).names.lookup x=some .free:=h;rcases nv (env:=X.env) (names:=scope.names) h' with q | ⟨q,_⟩
   ·exact .inr q
   ·cases q
 have BM:∀ x,scope.names.lookup x=some .cell\/scope.names.lookup x=some .free->∃ c,(QN (s.heap.objs.size + 1) scope.names (gc X.env.cells scope.names [])).lookup x=some c:=λx h=>by
  refine Jv.mp (PySem.W.cellsFrom_some scope.names _ _ ?_);rcases h with h | h
  ·exact .inl h
  ·refine .inr (BL _ _ (.inr ⟨WD h,?_⟩));obtain⟨c,hc⟩:=qw _ (WD h) rfl;exact Option.isSome_iff_exists.mpr ⟨c,hc⟩
 have LZ:(U2 (s.heap.push { cls:=.type "dict",data:=.dict #[] }) scope.names).Ns s.heap.objs.size λ_=>none:=(Heap.Ns.new s.heap (.type "dict")).keeps (pushCells_keeps _ _)
 refine⟨⟨I.ok.mod,S.kind,I.ok.glob,I.ok.blt,Wh _,λy z c h1 h2=>LW y z c (WD h1) (WD h2),λx hx=>BM x (LY x hx),λx c qa h=>?_,I.ok.hd,I.ok.frames,.inl rfl,
  λb hb=>⟨Wo (aS b hb),λx c h e=>?_⟩,I.bs,WA I.ok.lJ I.sz,λb o e hb=>?_,LX,I.stack,I.Aj⟩,
  rfl,I.bare,Un.kept kp,⟨λ_=>none,LZ,λi x v h1 h2 h3=>?_⟩,λx c h=>?_,I.aB.fresh (Wh _),λx c h=>?_,λp hp=>absurd (show p ∈ ([]:List (Addr×Obj)) from hp) (by simp),I.aB.kept kp,(tm cs σ).trans I.len⟩
 ·rcases qu x c (WD h) with q | q
  ·have L3:scope.names.lookup x=some .cell:=by
    have:(scope.names.lookup x == some .cell)=true:=qa;exact eq_of_beq this
   have:=vV S.nd q.1 (WD L3)
   cases this
  ·exact Nat.le_of_succ_le q.2.1
 ·subst e;rcases qu x c (WD h) with q | q
  ·exact(hf c hb).2.2.2.2.1 x c q.2 rfl
  ·exact absurd (Ww (aS c hb) (Nat.le_of_succ_le q.2.1)) (Qs _)
 ·obtain⟨_,_,_,f3,_⟩:=hf b hb;rcases f3 with z | z
  ·exact I.ok.pY b o e z
  ·exact absurd (Ww (Wj (I.ok.bs b o e).1) z) (Qs _)
 ·obtain⟨h2',hni⟩:=lZ cs σ i v h2;have BN:¬ (scope.names.lookup x=some .local\/scope.names.lookup x=some .cell):=λz=>hni (S.own i x h1 z)
  have nc:scope.names.lookup x=some .free:=by
   rcases h3 with h3 | h3 | h3
   ·rcases nv (env:=X.env) (names:=scope.names) h3 with q | ⟨q,_⟩
    ·exact absurd (.inl q) BN
    ·cases q
   ·rcases nv (env:=X.env) (names:=scope.names) h3 with q | ⟨_,q⟩
    ·exact absurd (.inr q) BN
    ·exact q
   ·rcases nv (env:=X.env) (names:=scope.names) h3 with q | ⟨q,_⟩
    ·exact q
    ·cases q
  have hk:=S.free _ (WD nc) rfl;obtain⟨m,hn,hl⟩:=I.loc;have L4:sA X.env.scope x:=by
   rcases hk with hk | hk
   ·exact .inr (.inl hk)
   ·exact .inr (.inr hk)
  obtain⟨u,r,l⟩:=hl i x v h1 h2' L4;refine⟨u,r,?_⟩;rcases l with ⟨k,_⟩ | ⟨_,c,hc,hcell⟩
  ·have k':X.env.kindOf x=some .local:=k;rcases hk with hk | hk
   ·rw[show X.env.kindOf x=some .cell from hk] at k'; cases k'
   ·rw[show X.env.kindOf x=some .free from hk] at k'; cases k'
  ·obtain⟨c',jm⟩:=BM x (.inr nc);have e:c'=c:=by
    rcases qu x c' (WD jm) with q | q
    ·have q2:=q.2;rw[hc] at q2; exact(Wy q2).symm
    ·have:=vV S.nd q.1 (WD nc)
     cases this
   subst e;refine .inr ⟨?_,c',jm,hcell.keeps kp⟩;rcases h3 with h3 | h3 | h3
   ·rcases nv (env:=X.env) (names:=scope.names) h3 with q | ⟨q,_⟩
    ·rw[nc] at q; cases q
    ·cases q
   ·exact .inl h3
   ·exact .inr h3
 ·rcases qu x c (WD h) with q | q
  ·obtain⟨v,z⟩:=I.cell x c q.2;exact⟨v,z.keeps kp⟩
  ·exact⟨none,q.2.2⟩
 ·rcases qu x c (WD h) with q | q
  ·exact I.jl x c q.2
  ·exact I.aB.fresh (Nat.le_of_succ_le q.2.1)
end
abbrev kR:Value->W4->Prop:=λ_ _=>False
def BO(ifs:List Expr)(env:Env):Sem Bool:=forIn ifs true λc r=>if r=true then do let ok <- isTrue c env (eval c env); pure (ForInStep.yield ok) else pure (ForInStep.yield r)
theorem L5(I:Nat->W4->Prop)
  (turn:∀ n s,I n s->W8 (model prog w) A (QD it) (λr s₁=>match r with
   | none=>R (.ok .next) s₁
   | some v=>W8 (model prog w) A (letOwnedTupleGo target it v) (λ_ BP=>W8 (model prog w) A (assign target env v) (λ_ s₂ =>
     W8 (model prog w) A (BO ifs env) (λok s₃ =>
      if ok=true then W8 (model prog w) A (eval elt env) (λx s₄ =>
       W8 (model prog w) A (call (.builtin "list.append") [acc,x]) (λ_ s₅=>∃ m,m < n/\I m s₅) kR s₄) kR s₃
      else ∃ m,m < n/\I m s₃) kR s₂) kR BP) kR s₁) kR s)
  (n:Nat) (h:I n s) :
  Jt (model prog w) A (.compLoop (.ListComp elt [⟨target,iter,ifs,0⟩] scope pos) 0 it acc env) R s:=by
 refine codeAny_loop rfl I (λn s hI=>?_) n h;show W8 _ A ((compTurn (.ListComp elt [⟨target,iter,ifs,0⟩] scope pos) 0 it acc env).onRaise (λx=>do noteFrame x env; theTreesLotGoes x)) _ _ s;refine wpAny_noted ?_;rw[compTurn_list];refine W0 (wpAny_standAt (W0 (QL (turn n s hI) (λr s₁ h₁=>?_) λ_ _ h'=>h'.elim)))
 cases r with
 | none=>exact W5 h₁
 | some v =>
  refine W0 (QL h₁ (λ_ BP L6=>?_) λ_ _ h'=>h'.elim);refine W0 (QL L6 (λ_ s₂ h₂=>W0 (QL h₂ (λok s₃ h₃=>?_) λ_ _ h'=>h'.elim)) λ_ _ h'=>h'.elim)
  cases ok with
  | false=>exact W5 ⟨rfl,h₃⟩
  | true =>
   exact W0 (W0 (QL h₃ (λx s₄ h₄=>W0 (QL h₄ (λ_ s₅ h₅=>W5 (W5 ⟨rfl,h₅⟩)) λ_ _ h'=>h'.elim)) λ_ _ h'=>h'.elim))
theorem L7
  (h:Q { scope,locals:=s.heap.objs.size,globals,cells:=QN (s.heap.objs.size + 1) scope.names cl,qual,func:=none,code:=env.code,frame:=env.frame,builtins:=env.builtins }
   { s with heap:=U2 (s.heap.push { cls:=.type "dict",data:=.dict #[] }) scope.names }):W8 M A (newFunctionEnv scope globals cl [] qual none .none (some env)) Q E s:=by
 simp only[newFunctionEnv,Option.isSome_some,if_true];refine W0 (wpAny_alloc ?_);refine W0 (wpAny_layCells _ (λname kind cells=>by cases hkc:kind == NameKind.cell <;> simp[hkc]) _ _ _ _ ?_);rw[show({ s with heap:=s.heap.push { cls:=.type "dict",data:=.dict #[] } }:W4).heap.objs.size=s.heap.objs.size + 1 from Qu ..];exact W0 (W5 (W5 h))
def oK(X:Cx)(ifs:List Expr)(t:TT):Prop :=
 ∀ (pins:List (Addr×Obj)) (s:W4) (σ:St) (H:Hp) (Q:Bool->Hp->Prop),Inv X pins σ H s->t σ H Q->W8 (model X.prog X.w) X.A (BO ifs X.env) (TP X pins σ Q) X.xe s
def L8:TT:=λ_ H Q=>Q true H
theorem L9:oK X [] L8:=λpins s σ H Q I h=>wpAny_tests_nil ⟨H,I,h⟩
theorem L_(h:PT X c t):oK X [c] t:=λpins s σ H Q I q=>wpAny_tests_one (h pins s σ H Q I q)
def Le(σ σ':St):Prop:=σ'.length=σ.length/\∀ (i:Nat) (v:V),σ[i]? = some (some v)->σ'[i]? = some (some v)
def BQ(cs:List Nat)(g:TG)(tt:TT)(te:TE)(σ:St)(Q:VK)(J:It)(H1:Hp):Prop :=
 ∀ l,H1 l=none->∃ W:Nat->Nat->Hp->Prop,(∃ m,W 0 m (upd H1 l (.lst [])))/\∀ i m H2,W i m H2 ->
  (J.stop i H2/\Q (.ref l) H2) \/
  (J.go i H2/\∀ x H3,J.qd i H2 x H3->g x (bO cs σ) H3 λσ4 H4=>Le (bO cs σ) σ4/\tt σ4 H4 λb H5 =>
   if b=true then te σ4 H5 λv H6=>∃ ys m',H6 l=some (.lst ys)/\ys.length < Wd/\m' < m/\W (i + 1) m' (upd H6 l (.lst (ys ++ [v]))) else ∃ m',m' < m/\W (i + 1) m' H5)
def vW(cs:List Nat)(wi:TI)(g:TG)(tt:TT)(te:TE):TE:=λσ H Q=>wi σ H λJ H1=>BQ cs g tt te σ Q J H1
section
variable {X:Cx} {pins:List (Addr×Obj)} {σ:St} {H:Hp} {s:W4} {scope:Scope} {cs:List Nat} {elt tg iter:Expr} {ifs:List Expr} {pos:Pos} {g:TG} {tt:TT} {te:TE}
theorem BR{it:Addr}{fp:List Addr}{tn:Nat->Heap->Prop}{J:It}{Q:VK}{E:Value->W4->Prop}{RR:Value->Addr->Result->W4->Prop}(hc:X.calm=true)(I:Inv X pins σ H s)(S:ny X scope cs)
  (T:Turn X.prog X.w X.K tg J fp it tn) (st:tn 0 s.heap) (hf:∀ b ∈ fp,fG X pins H b)
  (hg:∀ s₀ H₀ ex,PG (fI X scope s₀ H₀ ex) tg g) (ht:∀ s₀ H₀ ex,oK (fI X scope s₀ H₀ ex) ifs tt) (he:∀ s₀ H₀ ex,PE (fI X scope s₀ H₀ ex) elt te) (q:BQ cs g tt te σ Q J H)
  (Ma:∀ l C s' H',Inv X pins σ H' s'->fG X pins H' C->(∃ m,s'.heap.Ns C m)->Q (.ref l) H'->RR (.ref l) C (.ok .next) s') :
  W8 (model X.prog X.w) X.A (newList []) (λacc s₃=>W8 (model X.prog X.w) X.A (newFunctionEnv scope X.env.globals (gc X.env.cells scope.names []) [] X.env.qual none .none (some X.env)) (λBU s₄ =>
   Jt (model X.prog X.w) X.A (.compStart (.ListComp elt [⟨tg,iter,ifs,0⟩] scope pos) 0 (.ref it) acc { BU with scope:=relabel scope X.env }) (RR acc BU.locals) s₄) E s₃) E s:=by
 refine Q6 ?_;have jx:H s.heap.objs.size=none:=I.aB.fresh (Wh _);obtain⟨W,⟨m0,w0⟩,turn⟩:=q s.heap.objs.size jx;generalize hl:s.heap.objs.size=l at *;have I3:Inv X pins σ (upd H l (.lst [])) { s with heap:=s.heap.push { cls:=.type "list",dict:=none,data:=.seq ([]:List Value).toArray } } :=
  I.laid (t':=s.toks) (λb u e=>Wa _ e) (Nat.le_of_eq hl) ⟨QB _,[],0,.nil,by rw[<- hl]; exact Wl _ rfl⟩
 have vX:∀ b o,s.heap.get? b=some o->(s.heap.push { cls:=.type "list",dict:=none,data:=.seq ([]:List Value).toArray }).get? b=some o:=λb o e=>Wa _ e
 have nA:∀ b ∈ fp,b≠l:=λb hb e=>by
  obtain⟨o,ho,_⟩:=T.obj 0 _ st b hb;exact absurd (Wj ho) (by rw[e,hl]; exact Qs _)
 have vY:∀ b ∈ fp,fG X pins (upd H l (.lst [])) b:=λb hb=>⟨by rw[aL (nA b hb)]; exact(hf b hb).1,(hf b hb).2⟩
 have lN:tn 0 (s.heap.push { cls:=.type "list",dict:=none,data:=.seq ([]:List Value).toArray }):=T.keep 0 _ _ st λb _ o e=>vX b o e
 generalize vZ:({ s with heap:=s.heap.push { cls:=.type "list",dict:=none,data:=.seq ([]:List Value).toArray } }:W4)=s3 at I3;have BV:tn 0 s3.heap:=by rw[<- vZ]; exact lN
 have Mb:∀ b ∈ fp,b < s3.heap.objs.size:=λb hb=>by
  obtain⟨o,ho,_⟩:=T.obj 0 _ BV b hb;exact Wj ho
 refine L7 ?_;have I4:=LU I3 S vY Mb;generalize hX:fI X scope s3 (upd H l (.lst [])) fp=X' at I4;generalize hs4:({ s3 with heap:=U2 (s3.heap.push { cls:=.type "dict",data:=.dict #[] }) scope.names }:W4)=s4 at I4 ⊢;have oM:=hg s3 (upd H l (.lst [])) fp;have BW:=ht s3 (upd H l (.lst [])) fp;have BX:=he s3 (upd H l (.lst [])) fp;rw[hX] at oM BW BX;have BY:tn 0 s4.heap:=T.keep 0 _ _ BV λb _ o e=>by rw[<- hs4]; exact pushCells_keeps _ _ b o (Wa _ e)
 have hP:X'.prog=X.prog:=by rw[<- hX]; rfl
 have hw:X'.w=X.w:=by rw[<- hX]; rfl
 have hA:X'.A=X.A:=by rw[<- hX]; rfl
 have hK:X'.K=X.K:=by rw[<- hX]; rfl
 have jm:X'.calm=true:=by rw[<- hX]; exact hc
 have tE:X'.xe=kR:=by rw[<- hX]; rfl
 have BZ:X'.env.locals=s3.heap.objs.size:=by rw[<- hX]; rfl
 have Mc:({ scope:=relabel scope X.env,locals:=s3.heap.objs.size,globals:=X.env.globals,cells:=QN (s3.heap.objs.size + 1) scope.names (gc X.env.cells scope.names []),qual:=X.env.qual,func:=none,code:=X.env.code,frame:=X.env.frame,builtins:=X.env.builtins }:Env)=X'.env:=by rw[<- hX]; rfl
 have v5:∀ {H':Hp},(∀ b ∈ fp,H' b=none)->∀ b ∈ fp,fG X' [] H' b:=λ{H'} hn b hb=>by
  have ex:X'.ex=fp:=by rw[<- hX]; rfl
  have pn:X'.pn=[]:=by rw[<- hX]; rfl
  refine⟨hn b hb,(I4.ok.sD b (by rw[ex]; exact hb)).1,I4.ok.pZ b (by rw[ex]; exact hb),.inl (by rw[ex]; exact hb),(I4.ok.sD b (by rw[ex]; exact hb)).2,λp hp=>?_⟩;rw[pn] at hp;simp at hp
 show Jt (model X.prog X.w) X.A (.compStart (.ListComp elt [⟨tg,iter,ifs,0⟩] scope pos) 0 (.ref it) (.ref l) ({ scope:=relabel scope X.env,locals:=s3.heap.objs.size,globals:=X.env.globals,cells:=QN (s3.heap.objs.size + 1) scope.names (gc X.env.cells scope.names []),qual:=X.env.qual,func:=none,code:=X.env.code,frame:=X.env.frame,builtins:=X.env.builtins }:Env)) (RR (.ref l) s3.heap.objs.size) s4;rw[Mc];have loop:Jt (model X.prog X.w) X.A (.compLoop (.ListComp elt [⟨tg,iter,ifs,0⟩] scope pos) 0 (.ref it) (.ref l) X'.env) (RR (.ref l) s3.heap.objs.size) s4:=by
  refine L5 (λn s'=>∃ i H',Inv X' [] (bO cs σ) H' s'/\tn i s'.heap/\(∀ b ∈ fp,H' b=none)/\W i n H') ?_ m0 ⟨0,_,I4,BY,λb hb=>(vY b hb).1,w0⟩;rintro n s5 ⟨i,H5,I5,st5,fr5,w5⟩;rcases turn i n H5 w5 with ⟨stop,qn⟩ | ⟨go,step⟩
  ·have:=T.done X' hP hw hK jm i [] s5 (bO cs σ) H5 kR I5 (v5 fr5) st5 stop;rw[hA] at this;refine aR this λr s6 ⟨hr,I6⟩=>?_
   subst hr;have b6:=I6.base;have e1:X'.fs=il X.stack:=by rw[<- hX]; rfl
   have e2:X'.ex=fp:=by rw[<- hX]; rfl
   have e3:X'.H₀=upd H l (.lst []):=by rw[<- hX]; rfl
   have e4:X'.s₀=s3:=by rw[<- hX]; rfl
   rw[e1,e2,e3,e4] at b6;have o6:s6.os=s3.os:=by rw[<- e4]; exact I6.os
   have Md:cG X.prog X.w H5 s6.heap:=by rw[<- hP,<- hw]; exact I6.aB
   have J6:Inv X pins σ H5 s6:=I3.Ih o6 b6 Md I6.bare λb hb=>by
    obtain⟨_,f1,_,f3,f4,f5⟩:=vY b hb;exact⟨f3,f1,f4,f5⟩
   obtain⟨m6,n6,_⟩:=I6.loc;rw[BZ] at n6;refine Ma l s3.heap.objs.size s6 H5 J6 (I3.g6 (Wh _) ?_) ⟨m6,n6⟩ qn;rw[<- BZ];exact I6.free
  ·have:=T.item X' hP hw hK jm i [] s5 (bO cs σ) H5 kR I5 (v5 fr5) st5 go;rw[hA] at this;refine aR this λr s6 ⟨u,hr,h6⟩=>?_
   subst hr;refine aR h6 λ_ s7 ⟨x,H7,I7,r7,y7,st7,fr7⟩=>?_
   have Me:=I7.pinned (v5 fr7) (T.obj _ _ st7);have a8:=oM _ s7 (bO cs σ) H7 x u _ Me r7 (step x H7 y7);rw[hP,hw,hA,tE] at a8;refine aR a8 λ_ s8 ⟨σ8,H8,I8,le8,q8⟩=>?_
   have a9:=BW _ s8 σ8 H8 _ I8 q8;rw[hP,hw,hA,tE] at a9;refine aR a9 λok s9 ⟨H9,I9,q9⟩=>?_
   have back:∀ {H':Hp} {s':W4},Inv X' ([] ++ qe fp s7.heap) σ8 H' s'->Inv X' [] (bO cs σ) H' s'/\tn (i + 1) s'.heap/\∀ b ∈ fp,H' b=none:=λ{H' s'} J=>by
    refine⟨J.sO.weak (le8.1.symm) le8.2,T.keep _ _ _ st7 λb hb o e=>(J.pin (b,o) (Q2 _ (Q2 _ (sN hb e)))).1,λb hb=>?_⟩;obtain⟨o,e,d⟩:=T.obj _ _ st7 b hb;exact(J.pin (b,o) (Q2 _ (Q2 _ (sN hb e)))).2.1
   cases ok with
   | false =>
    rw[if_neg WF] at q9 ⊢;obtain⟨m',hm,w9⟩:=q9;obtain⟨b1,b2,b3⟩:=back I9;exact⟨m',hm,i + 1,H9,b1,b2,b3,w9⟩
   | true =>
    rw[if_pos rfl] at q9 ⊢;have B0:=BX _ s9 σ8 H9 _ I9 q9;rw[hP,hw,hA,tE] at B0;refine aR B0 λx10 l0 ⟨v,H10,I10,r10,ys,m',hy,hz,hm,w10⟩=>?_
    have B3:=Bu (X:=X') _ l0 σ8 H10 (.ref l) [v] (.ref l) [x10] (λ_ H'=>W (i + 1) m' H') I10 rfl (.cons r10 .nil) ⟨l,ys,v,rfl,rfl,hy,hz,w10⟩;rw[hP,hw,hA,tE] at B3;refine aR B3 λ_ s11 ⟨_,H11,I11,_,w11⟩=>?_
    obtain⟨b1,b2,b3⟩:=back I11;exact⟨m',hm,i + 1,H11,b1,b2,b3,w11⟩
 exact codeAny_compStart_list loop (T.self X.A 0 s4 _ _ BY loop)
theorem Mf(hc:X.calm=true)(S:ny X scope cs)(hi:PI X tg iter wi)(hg:∀ s₀ H₀ ex,PG (fI X scope s₀ H₀ ex) tg g)(ht:∀ s₀ H₀ ex,oK (fI X scope s₀ H₀ ex) ifs tt)(he:∀ s₀ H₀ ex,PE (fI X scope s₀ H₀ ex) elt te)
  (hs:∀ x,QW iter X.env x=pure x:=by intro _; rfl):PE X (.ListComp elt [⟨tg,iter,ifs,0⟩] scope pos) (vW cs wi g tt te):=by
 intro pins s σ H Q I h;have qw:∀ x ∈ scope.names,x.2 = .free->∃ c,X.env.cells.lookup x.1=some c:=λx hx hk=>I.ok.has x.1 (S.free x hx hk)
 rw[eval_ListComp];refine wpAny_comprehension_free (use:=none) rfl hs (BJ qw) S.kind S.names (aR (hi pins s σ H _ I h) λxv s1 h1=>aR h1 λsI s2 h2=>?_);obtain⟨it,fp,tn,J,H2,e,I2,T,st2,f2,q2⟩:=h2;subst e;refine BR (RR:=λacc C=>compPost (model X.prog X.w) X.A X.xe none (EP X pins σ Q) acc C) hc I2 S T st2 f2 hg ht he q2 ?_;intro l C s' H' I' fC ⟨m,n⟩ q;exact⟨m,n,λh' iX=>⟨.ref l,H',I'.turned (t':=s'.toks) (λb o hb e=>(iX.2 b hb).trans e) fC.1 fC.2.1 fC.2.2.2.1 fC.2.2.2.2.1 fC.2.2.2.2.2,rfl,q⟩⟩
theorem Mg(hc:X.calm=true)(S:ny X scope cs)(hN:X.N.Nodup)(gv:X.N[i]? = some y)(hy:X.env.scope.names.lookup y=some .local)
  (hi:PI X tg iter wi) (hg:∀ s₀ H₀ ex,PG (fI X scope s₀ H₀ ex) tg g) (ht:∀ s₀ H₀ ex,oK (fI X scope s₀ H₀ ex) ifs tt) (he:∀ s₀ H₀ ex,PE (fI X scope s₀ H₀ ex) elt te)
  (qx:QX (.ListComp elt [⟨tg,iter,ifs,0⟩] scope pos) (some (.Name y py)) tF.line X.env=pure true:=by rfl)
  (hs:∀ x,QW iter X.env x=pure x:=by intro _; rfl):PS X (.Assign [.Name y py] (.ListComp elt [⟨tg,iter,ifs,0⟩] scope pos) tF) (qc (vW cs wi g tt te) (sH i)):=by
 intro pins s σ H D I h;have qw:∀ x ∈ scope.names,x.2 = .free->∃ c,X.env.cells.lookup x.1=some c:=λx hx hk=>I.ok.has x.1 (S.free x hx hk)
 rw[exec_Assign_Name_used _ _ _ _ qx];refine W0 (wpAny_standAt (W0 ?_));show W8 _ X.A (do let _ <- comprehension (.ListComp elt [⟨tg,iter,ifs,0⟩] scope pos) scope X.env _ (newList []) false (eval iter X.env) (some (assign (.Name y py) X.env))) _ _ s;refine W0 (QL (wpAny_comprehension_free (use:=some (assign (.Name y py) X.env)) (Q:=λ_ s'=>SP X pins D .next s') rfl hs (BJ qw) S.kind S.names
  (aR (hi pins s σ H _ I h) λxv s1 h1=>aR h1 λsI s2 h2=>?_)) (λ_ s' hq=>W5 (W5 hq)) λ_ _ e=>e)
 obtain⟨it,fp,tn,J,H2,e,I2,T,st2,f2,q2⟩:=h2;subst e;refine BR (RR:=λacc C=>compPost (model X.prog X.w) X.A X.xe (some (assign (.Name y py) X.env)) (λ_ s'=>SP X pins D .next s') acc C) hc I2 S T st2 f2 hg ht he q2 ?_;intro l C s' H' I' fC ⟨m,n⟩ q;show W8 _ X.A (assign (.Name y py) X.env (.ref l)) _ _ _;refine wpAny_assign_Name (Ao I' hN gv (.inl hy) (v:=.ref l) rfl (λqh I'' ⟨a,hsb,ha⟩=>?_) (.inr hy));have cx:C≠a:=by
  rcases ha with rfl | ha
  ·exact fC.2.1
  ·exactλe=>fC.2.2.2.2.1 y a ha e.symm
 refine⟨m,n.sameBut hsb cx,λh' iX=>⟨_,H',I''.turned (t':=qh.toks) (λb o hb e=>(iX.2 b hb).trans e) fC.1 fC.2.1 fC.2.2.2.1 fC.2.2.2.2.1 fC.2.2.2.2.2,q⟩⟩
end
end L2
set_option maxHeartbeats 4000000
namespace DV
open PySem PySem.Spec PyProof.Rows L2
abbrev Tx:=List Nat
def toS(x:Tx):Str:=⟨x.toArray⟩
theorem tG(x:Tx):(toS x).cps.toList=x:=by simp[toS]
theorem jy(x:Tx):(toS x).length=x.length:=by simp[toS,Str.length]
theorem v7(h:toS x=toS y):x=y:=by
 have:=congrArg (λz:Str=>z.cps.toList) h;simpa[toS] using this
theorem B4(z:Str):z=toS z.cps.toList:=by simp[toS]
abbrev bB:=Sum Int Tx
def eQ:bB->Key
 | .inl i=>.inl i
 | .inr x=>.inr (toS x)
inductive D where
 | bf | bl (b:Bool) | int (i:Int) | str (x:Tx) | tup (xs:List D) | lst (xs:List D) | aJ (ae:List (bB×D)) | exc (n:Nat) (fl:D) | xd (fs:List (Tx×D)) | fn (a:Nat) | dic (ae:List (D×D))
mutual
def cQ:Nat->D->Option NK
 | _,.int i=>some (.i i)
 | _,.bl b=>some (.i (if b then 1 else 0))
 | _,.str x=>some (.s (toS x))
 | n + 1,.tup xs=>(g8 n xs).map .t
 | _,_=>none
def g8:Nat->List D->Option (List NK)
 | _,[]=>some []
 | n,x :: xs=>(cQ n x).bind λk=>(g8 n xs).map λks=>k :: ks
end
def excAt(C:Addr)(v:V)(a:Addr):Heap->Prop:=λh=>∃ o,h.get? a=some o/\o.cls = .ref C/\(∀ x,v = .ref x->o.dict=some x)/\∃ vs,o.data = .fields vs
def Mh(fs:List (Str×V))(x:Addr):Heap->Prop:=λh=>∃ mA,h.Ns1 x mA/\∀ f,eO (fs.lookup f) (mA f)
inductive S where
 | pure (d:D)
 | own (d:D)
def S.d:S->D
 | .pure d=>d
 | .own d=>d
abbrev Dl:=List (Option S)
abbrev St:=L2.St
inductive Rep (H:Hp) (O:Addr->Prop):V->D->Prop
 | bf:Rep H O .bf .bf
 | bl (b:Bool):Rep H O (.bl b) (.bl b)
 | int (i:Int):Rep H O (.int i) (.int i)
 | str (x:Tx):Rep H O (.str (toS x)) (.str x)
 | tup {a:Addr} {vs:List V} {ds:List D}:¬ O a->H a=some (.tup vs)->vs.length=ds.length->(∀ (i:Nat) v d,vs[i]? = some v->ds[i]? = some d->Rep H O v d)->Rep H O (.ref a) (.tup ds)
 | lst {a:Addr} {vs:List V} {ds:List D}:¬ O a->Rd H a (.lst vs)->vs.length=ds.length->(∀ (i:Nat) v d,vs[i]? = some v->ds[i]? = some d->Rep H O v d)->Rep H O (.ref a) (.lst ds)
 | aJ {a:Addr} {ws:List (Key×V)} {ds:List (bB×D)}:¬ O a->H a=some (.dK ws)->ws.map (·.1)=ds.map (λp=>eQ p.1)->(∀ (i:Nat) p q,ws[i]? = some p->ds[i]? = some q->Rep H O p.2 q.2)->Rep H O (.ref a) (.aJ ds)
 | exc {a:Addr} {n:Nat} {v:V} {fl:D}:¬ O a->H a=some (.ext (excAt n v a))->Rep H O v fl->Rep H O (.ref a) (.exc n fl)
 | xd {x:Addr} {fs:List (Str×V)} {ds:List (Tx×D)}:¬ O x->H x=some (.ext (Mh fs x))->fs.map (·.1)=ds.map (λp=>toS p.1)->(∀ (i:Nat) p q,fs[i]? = some p->ds[i]? = some q->Rep H O p.2 q.2)->Rep H O (.ref x) (.xd ds)
 | fn (a:Addr):Rep H O (.ref a) (.fn a)
 | dic {a:Addr} {ep:Nat} {ws:List (NK×V×V)} {ds:List (D×D)}:¬ O a->H a=some (.dN ep ws)->ws.length=ds.length->(∀ (i:Nat) p q,ws[i]? = some p->ds[i]? = some q->Rep H O p.2.1 q.1)->(∀ (i:Nat) p q,ws[i]? = some p->ds[i]? = some q->Rep H O p.2.2 q.2)->(∀ (i:Nat) p q,ws[i]? = some p->ds[i]? = some q->cQ 6 q.1=some p.1)->Rep H O (.ref a) (.dic ds)
abbrev aG(H:Hp)(O:Addr->Prop)(vs:List V)(ds:List D):Prop:=vs.length=ds.length/\∀ (i:Nat) v d,vs[i]? = some v->ds[i]? = some d->Rep H O v d
structure DN(H:Hp)(O:Addr->Prop)(ws:List (NK×V×V))(ds:List (D×D)):Prop where
 len:ws.length=ds.length
 key:∀ (i:Nat) p q,ws[i]? = some p->ds[i]? = some q->Rep H O p.2.1 q.1
 val:∀ (i:Nat) p q,ws[i]? = some p->ds[i]? = some q->Rep H O p.2.2 q.2
 nC:∀ (i:Nat) p q,ws[i]? = some p->ds[i]? = some q->cQ 6 q.1=some p.1
def gx(H:Hp)(O:Addr->Prop)(a:Addr):D->Prop
 | .lst ds=>∃ vs,H a=some (.lst vs)/\aG H O vs ds
 | .aJ ds=>∃ ws:List (Key×V),H a=some (.dK ws)/\ws.map (·.1)=ds.map (λp=>eQ p.1)/\∀ (i:Nat) p q,ws[i]? = some p->ds[i]? = some q->Rep H O p.2 q.2
 | .dic ds=>∃ (ep:Nat) (ws:List (NK×V×V)),H a=some (.dN ep ws)/\DN H O ws ds
 | _=>False
section
variable {H H':Hp} {O O':Addr->Prop} {v:V} {d:D} {vs:List V} {ds:List D} {a:Addr}
theorem Rd.keep(h:Rd H a u)(k:∀ o,H a=some o->H' a=some o):Rd H' a u:=by
 rcases h with h | ⟨o,h⟩
 ·exact .inl (k _ h)
 ·exact .inr ⟨o,k _ h⟩
theorem Rd.some(h:Rd H a u):∃ o,H a=some o:=by
 rcases h with h | ⟨o,h⟩
 ·exact⟨_,h⟩
 ·exact⟨_,h⟩
theorem Rep.keep(h:Rep H O v d)(k:∀ a o,H a=some o->¬ O a->H' a=some o):Rep H' O v d:=by
 induction h with
 | bf=>exact .bf
 | bl b=>exact .bl b
 | int i=>exact .int i
 | str x=>exact .str x
 | tup h1 h2 h3 _ ih=>exact .tup h1 (k _ _ h2 h1) h3 ih
 | lst h1 h2 h3 _ ih=>exact .lst h1 (Rd.keep h2 λo e=>k _ o e h1) h3 ih
 | aJ h1 h2 h3 _ ih=>exact .aJ h1 (k _ _ h2 h1) h3 ih
 | exc h1 h2 _ ih=>exact .exc h1 (k _ _ h2 h1) ih
 | xd h1 h2 h3 _ ih=>exact .xd h1 (k _ _ h2 h1) h3 ih
 | fn a=>exact .fn a
 | dic h1 h2 h3 _ _ h6 ih ih'=>exact .dic h1 (k _ _ h2 h1) h3 ih ih' h6
theorem Rep.aW(h:Rep H O v d)(k:∀ a,O' a->O a\/H a=none):Rep H O' v d:=by
 have no:∀ {a:Addr} {u:HO},¬ O a->Rd H a u->¬ O' a:=λ{a u} h1 h2 z=>by
  rcases k a z with q | q
  ·exact h1 q
  ·obtain⟨o,e⟩:=Rd.some h2;rw[q] at e; cases e
 induction h with
 | bf=>exact .bf
 | bl b=>exact .bl b
 | int i=>exact .int i
 | str x=>exact .str x
 | tup h1 h2 h3 _ ih=>exact .tup (no h1 (.inl h2)) h2 h3 ih
 | lst h1 h2 h3 _ ih=>exact .lst (no h1 h2) h2 h3 ih
 | aJ h1 h2 h3 _ ih=>exact .aJ (no h1 (.inl h2)) h2 h3 ih
 | exc h1 h2 _ ih=>exact .exc (no h1 (.inl h2)) h2 ih
 | xd h1 h2 h3 _ ih=>exact .xd (no h1 (.inl h2)) h2 h3 ih
 | fn a=>exact .fn a
 | dic h1 h2 h3 _ _ h6 ih ih'=>exact .dic (no h1 (.inl h2)) h2 h3 ih ih' h6
theorem DN.keep{ws:List (NK×V×V)}{ds:List (D×D)}(h:DN H O ws ds)(k:∀ a o,H a=some o->¬ O a->H' a=some o):DN H' O ws ds:=⟨h.len,λi p q e1 e2=>(h.key i p q e1 e2).keep k,λi p q e1 e2=>(h.val i p q e1 e2).keep k,h.nC⟩
theorem DN.aW{ws:List (NK×V×V)}{ds:List (D×D)}(h:DN H O ws ds)(k:∀ a,O' a->O a\/H a=none):DN H O' ws ds:=⟨h.len,λi p q e1 e2=>(h.key i p q e1 e2).aW k,λi p q e1 e2=>(h.val i p q e1 e2).aW k,h.nC⟩
theorem aG.keep(h:aG H O vs ds)(k:∀ a o,H a=some o->¬ O a->H' a=some o):aG H' O vs ds:=⟨h.1,λi v d e1 e2=>(h.2 i v d e1 e2).keep k⟩
theorem aG.aW(h:aG H O vs ds)(k:∀ a,O' a->O a\/H a=none):aG H O' vs ds:=⟨h.1,λi v d e1 e2=>(h.2 i v d e1 e2).aW k⟩
theorem aG.nil:aG H O [] []:=⟨rfl,λi v d e _=>by simp at e⟩
theorem aG.cons(h:Rep H O v d)(r:aG H O vs ds):aG H O (v :: vs) (d :: ds):=by
 refine⟨by simp[r.1],λi v' d' e1 e2=>?_⟩
 cases i with
 | zero=>simp at e1 e2; subst e1; subst e2; exact h
 | succ i=>exact r.2 i v' d' (by simpa using e1) (by simpa using e2)
theorem aG.head(r:aG H O (v :: vs) (d :: ds)):Rep H O v d:=r.2 0 v d rfl rfl
theorem aG.tail(r:aG H O (v :: vs) (d :: ds)):aG H O vs ds:=⟨by simpa using r.1,λi v' d' e1 e2=>r.2 (i + 1) v' d' (by simpa using e1) (by simpa using e2)⟩
theorem aG.append(h:aG H O vs ds)(h':aG H O gf dW):aG H O (vs ++ gf) (ds ++ dW):=by
 induction vs generalizing ds with
 | nil =>
  cases ds with
  | nil=>exact h'
  | cons d r=>have:=h.1; simp at this
 | cons v r ih =>
  cases ds with
  | nil=>have:=h.1; simp at this
  | cons d q=>exact .cons h.head (ih h.tail)
theorem aG.get{i:Nat}(h:aG H O vs ds)(e:ds[i]? = some d):∃ v,vs[i]? = some v/\Rep H O v d:=by
 have hi:i < ds.length:=(W6.mp e).1;have hv:i < vs.length:=by rw[h.1]; exact hi
 exact⟨vs[i],by simp[hv],h.2 i _ d (by simp[hv]) e⟩
theorem aG.take(n:Nat)(h:aG H O vs ds):aG H O (vs.take n) (ds.take n):=by
 refine⟨by simp[h.1],λi v d e1 e2=>?_⟩;by_cases hi:i < n
 ·rw[Jw hi] at e1 e2;exact h.2 i v d e1 e2
 ·rw[List.getElem?_take_eq_none (by omega)] at e1; cases e1
theorem aG.drop(n:Nat)(h:aG H O vs ds):aG H O (vs.drop n) (ds.drop n):=by
 refine⟨by simp[h.1],λi v d e1 e2=>?_⟩;rw[List.getElem?_drop] at e1 e2;exact h.2 (n + i) v d e1 e2
theorem aG.set(h:aG H O vs ds)(r:Rep H O v d)(j:Nat):aG H O (vs.set j v) (ds.set j d):=by
 refine⟨by simp[h.1],λi v' d' e1 e2=>?_⟩;by_cases hi:j=i
 ·subst hi;rw[Q7] at e1 e2;simp at e1 e2;obtain⟨_,rfl⟩:=e1;obtain⟨_,rfl⟩:=e2;exact r
 ·rw[W9 hi] at e1 e2;exact h.2 i v' d' e1 e2
theorem gx.keep(h:gx H O a d)(hk:∀ b o,H b=some o->¬ O b->H' b=some o)(ha:∀ o,H a=some o->H' a=some o):gx H' O a d:=by
 cases d <;> first
  | exact h.elim
  | (obtain⟨vs,e,r⟩:=h; exact⟨vs,ha _ e,aG.keep r hk⟩)
  | (obtain⟨ws,e,r,q⟩:=h; exact⟨ws,ha _ e,r,λi p p' e1 e2=>(q i p p' e1 e2).keep hk⟩)
  | (obtain⟨ep,ws,e,r⟩:=h; exact⟨ep,ws,ha _ e,r.keep hk⟩)
theorem gx.aW(h:gx H O a d)(k:∀ a,O' a->O a\/H a=none):gx H O' a d:=by
 cases d <;> first
  | exact h.elim
  | (obtain⟨vs,e,r⟩:=h; exact⟨vs,e,aG.aW r k⟩)
  | (obtain⟨ws,e,r,q⟩:=h; exact⟨ws,e,r,λi p p' e1 e2=>(q i p p' e1 e2).aW k⟩)
  | (obtain⟨ep,ws,e,r⟩:=h; exact⟨ep,ws,e,r.aW k⟩)
theorem gx.some(h:gx H O a d):∃ o,H a=some o:=by
 cases d <;> first
  | exact h.elim
  | (obtain⟨vs,e,r⟩:=h; exact⟨_,e⟩)
  | (obtain⟨ep,vs,e,r⟩:=h; exact⟨_,e⟩)
theorem gx.rep(h:gx H O a d)(ho:¬ O a):Rep H O (.ref a) d:=by
 cases d with
 | lst ds=>obtain⟨vs,e,r⟩:=h; exact .lst ho (.inl e) r.1 r.2
 | aJ ds=>obtain⟨ws,e,r,q⟩:=h; exact .aJ ho e r q
 | dic ds=>obtain⟨ep,ws,e,r⟩:=h; exact .dic ho e r.len r.key r.val r.nC
 | _=>exact h.elim
end
structure Xc where
 cls:Tx
 V3:D
structure Fc where
 H₀:Hp
 B:Addr->Prop
 pin:List (Nat×Addr)
 xc:Xc->Dl->Prop:=λ_ _=>False
def Fc.plus(c:Fc)(p:Addr):Fc:={ c with B:=λa=>c.B a\/a=p }
def Fc.I(c:Fc)(a:Addr):Prop:=∃ i,(i,a) ∈ c.pin
def Own(σ:St)(δ:Dl)(a:Addr):Prop:=∃ (i:Nat) (d:D),δ[i]? = some (some (.own d))/\σ[i]? = some (some (.ref a))
def Av(c:Fc)(σ:St)(δ:Dl)(a:Addr):Prop:=c.B a\/Own σ δ a
structure Ok(c:Fc)(σ:St)(δ:Dl)(H:Hp):Prop where
 keep:∀ a o,c.H₀ a=some o->¬ c.I a->H a=some o
 bd:∀ a,c.B a->∃ o,H a=some o
 eT:∀ a,c.I a->∃ o,H a=some o
 len:δ.length=σ.length
 slot:∀ (i:Nat) d,δ[i]? = some (some (.pure d))->∃ v,σ[i]? = some (some v)/\Rep H (Av c σ δ) v d
 own:∀ (i:Nat) d,δ[i]? = some (some (.own d))->∃ a,σ[i]? = some (some (.ref a))/\gx H (Av c σ δ) a d/\(c.I a\/c.H₀ a=none)/\¬ c.B a
 inj:∀ (i j:Nat) a d d',δ[i]? = some (some (.own d))->δ[j]? = some (some (.own d'))->σ[i]? = some (some (.ref a))->σ[j]? = some (some (.ref a))->i=j
 pinned:∀ p ∈ c.pin,σ[p.1]? = some (some (.ref p.2))
structure a7(c:Fc)(σ:St)(δ:Dl)(H:Hp)(σ':St)(δ':Dl)(H':Hp):Prop where
 ok:Ok c σ' δ' H'
 keep:∀ a o,H a=some o->¬ Own σ δ a->H' a=some o
 own:∀ a,Own σ' δ' a->Own σ δ a\/H a=none
 there:∀ a o,H a=some o->∃ o',H' a=some o'
section
variable {c:Fc} {σ σ' σ'':St} {δ δ' δ'':Dl} {H H' B5:Hp} {v:V} {d:D} {a p:Addr}
theorem Ok.Mi(k:Ok c σ δ H)(h:c.B a):∃ o,H a=some o:=k.bd a h
theorem Ok.l5(k:Ok c σ δ H)(h:Own σ δ a):∃ o,H a=some o:=by
 obtain⟨i,d,e1,e2⟩:=h;obtain⟨b,e3,q,_⟩:=k.own i d e1;rw[e2] at e3; cases e3
 exact q.some
theorem Ok.B6(k:Ok c σ δ H)(h:Av c σ δ a):∃ o,H a=some o:=h.elim k.Mi k.l5
theorem Ok.jz(k:Ok c σ δ H)(h:H a=none):¬ Av c σ δ a:=λz=>by
 obtain⟨o,e⟩:=k.B6 z;rw[h] at e; cases e
theorem a7.refl(k:Ok c σ δ H):a7 c σ δ H σ δ H:=⟨k,λ_ _ e _=>e,λ_ h=>.inl h,λ_ o e=>⟨o,e⟩⟩
theorem a7.trans(x:a7 c σ δ H σ' δ' H')(y:a7 c σ' δ' H' σ'' δ'' B5):a7 c σ δ H σ'' δ'' B5:=by
 refine⟨y.ok,λa o e n=>?_,λa h=>?_,λa o e=>?_⟩
 ·refine y.keep a o (x.keep a o e n) λz=>?_
  rcases x.own a z with q | q
  ·exact n q
  ·rw[q] at e; cases e
 ·rcases y.own a h with q | q
  ·exact x.own a q
  ·right
   cases e:H a with
   | none=>rfl
   | some o =>
    obtain⟨o',e'⟩:=x.there a o e;rw[q] at e'; cases e'
 ·obtain⟨o',e'⟩:=x.there a o e;exact y.there a o' e'
theorem a7.av(x:a7 c σ δ H σ' δ' H'):∀ a,Av c σ' δ' a->Av c σ δ a\/H a=none:=λa h=>by
 rcases h with h | h
 ·exact .inl (.inl h)
 ·rcases x.own a h with q | q
  ·exact .inl (.inr q)
  ·exact .inr q
theorem Rep.cR(h:Rep H (Av c σ δ) v d)(x:a7 c σ δ H σ' δ' H'):Rep H' (Av c σ' δ') v d:=by
 have h1:Rep H (λa=>Av c σ δ a\/Av c σ' δ' a) v d:=Rep.aW h λa z=>z.elim .inl (x.av a)
 exact(h1.keep λa o e n=>x.keep a o e λz=>n (.inl (.inr z))).aW λa z=>.inl (.inr z)
theorem aG.cR(h:aG H (Av c σ δ) vs ds)(x:a7 c σ δ H σ' δ' H'):aG H' (Av c σ' δ') vs ds:=⟨h.1,λi v d e1 e2=>Rep.cR (h.2 i v d e1 e2) x⟩
def bp(c:Fc)(σ:St)(δ:Dl)(Hs H:Hp)(v:V):S->Prop
 | .pure d=>Rep H (Av c σ δ) v d
 | .own d=>∃ a,v = .ref a/\gx H (Av (c.plus a) σ δ) a d/\¬ c.B a/\c.H₀ a=none/\Ok (c.plus a) σ δ H/\Hs a=none
theorem tH(k:Ok (c.plus a) σ δ H):¬ Own σ δ a:=λ⟨i,d,e1,e2⟩=>by
 obtain⟨b,e3,_,_,n⟩:=k.own i d e1;rw[e2] at e3; cases e3
 exact n (.inr rfl)
theorem bp.rep(h:bp c σ δ Hs H v r):Rep H (Av c σ δ) v r.d:=by
 cases r with
 | pure d=>exact h
 | own d =>
  obtain⟨a,rfl,o,n,f,k,_⟩:=h;refine(o.aW λb z=>.inl ?_).rep λz=>z.elim n (tH k)
  exact z.elim (λz=>.inl (.inl z)) .inr
theorem bp.back(h:bp c σ δ Hs H v r)(x:a7 c σ₀ δ₀ H' σ' δ' Hs):bp c σ δ H' H v r:=by
 cases r with
 | pure d=>exact h
 | own d =>
  obtain⟨a,e,o,n,f,k,hs⟩:=h;refine⟨a,e,o,n,f,k,?_⟩
  cases q:H' a with
  | none=>rfl
  | some o =>
   obtain⟨o',e'⟩:=x.there a o q;rw[hs] at e'; cases e'
theorem bp.Mj(h:bp c σ δ Hs H v r):bp c σ δ c.H₀ H v r:=by
 cases r with
 | pure d=>exact h
 | own d =>
  obtain⟨a,e,o,n,f,k,hs⟩:=h;exact⟨a,e,o,n,f,k,f⟩
theorem Ok.alloc(k:Ok c σ δ H)(hp:H p=none)(o:HO):Ok c σ δ (upd H p o):=by
 have up:∀ a w,H a=some w->upd H p o a=some w:=λa w e=>by
  rw[aL (fP e hp)]; exact e
 refine⟨λa w e n=>up a w (k.keep a w e n),λa z=>(k.bd a z).elim λw e=>⟨w,up a w e⟩,λa z=>(k.eT a z).elim λw e=>⟨w,up a w e⟩,k.len,λi d e=>?_,λi d e=>?_,k.inj,k.pinned⟩
 ·obtain⟨v,e1,r⟩:=k.slot i d e;exact⟨v,e1,r.keep λa w q _=>up a w q⟩
 ·obtain⟨a,e1,r,q⟩:=k.own i d e;exact⟨a,e1,r.keep (λb w q _=>up b w q) λw q=>up a w q,q⟩
theorem a7.alloc(k:Ok c σ δ H)(hp:H p=none)(o:HO):a7 c σ δ H σ δ (upd H p o):=by
 have up:∀ a w,H a=some w->upd H p o a=some w:=λa w e=>by
  rw[aL (fP e hp)]; exact e
 exact⟨k.alloc hp o,λa w e _=>up a w e,λa h=>.inl h,λa w e=>⟨w,up a w e⟩⟩
theorem Ok.nD(k:Ok c σ δ H)(hp:H p=none):c.H₀ p=none:=by
 cases e:c.H₀ p with
 | none=>rfl
 | some o =>
  by_cases q:c.I p
  ·obtain⟨w,e'⟩:=k.eT p q;rw[hp] at e'; cases e'
  ·have:=k.keep p o e q;rw[hp] at this; cases this
theorem Ok.plus(k:Ok c σ δ H)(hp:H p=none)(o:HO):Ok (c.plus p) σ δ (upd H p o):=by
 have k':=k.alloc hp o;have sub:∀ b,Av (c.plus p) σ δ b->Av c σ δ b\/b=p:=λb z=>by
  rcases z with (z | z) | z
  ·exact .inl (.inl z)
  ·exact .inr z
  ·exact .inl (.inr z)
 have tJ:∀ b,Av (c.plus p) σ δ b->Av c σ δ b\/H b=none:=λb z=>(sub b z).elim .inl λe=>.inr (by rw[e]; exact hp)
 have up:∀ a w,H a=some w->upd H p o a=some w:=λa w e=>by
  rw[aL (fP e hp)]; exact e
 refine⟨k'.keep,λa z=>?_,k'.eT,k.len,λi d e=>?_,λi d e=>?_,k.inj,k.pinned⟩
 ·rcases z with z | z
  ·exact k'.bd a z
  ·exact⟨o,by rw[z]; exact cZ⟩
 ·obtain⟨v,e1,r⟩:=k.slot i d e;exact⟨v,e1,(r.aW tJ).keep λa w q _=>up a w q⟩
 ·obtain⟨a,e1,r,q,nb⟩:=k.own i d e;refine⟨a,e1,(r.aW tJ).keep (λb w q _=>up b w q) (λw q=>up a w q),q,λz=>?_⟩;rcases z with z | z
  ·exact nb z
  ·obtain⟨w,ew⟩:=r.some;rw[z,hp] at ew; cases ew
theorem bp.oN(k:Ok c σ δ H)(r:aG H (Av c σ δ) vs ds)(hp:H p=none):bp c σ δ H (upd H p (.lst vs)) (.ref p) (.own (.lst ds)):=by
 have up:∀ a w,H a=some w->upd H p (.lst vs) a=some w:=λa w e=>by
  rw[aL (fP e hp)]; exact e
 refine⟨p,rfl,⟨vs,cZ,?_⟩,λz=>k.jz hp (.inl z),k.nD hp,k.plus hp _,hp⟩;have r1:aG H (Av (c.plus p) σ δ) vs ds:=aG.aW r λb z=>by
  rcases z with (z | z) | z
  ·exact .inl (.inl z)
  ·exact .inr (by rw[z]; exact hp)
  ·exact .inl (.inr z)
 exact aG.keep r1 λb w e _=>up b w e
theorem bp.nE(k:Ok c σ δ H)(r:aG H (Av c σ δ) vs ds)(hp:H p=none):bp c σ δ H (upd H p (.tup vs)) (.ref p) (.pure (.tup ds)):=by
 have up:∀ a w,H a=some w->upd H p (.tup vs) a=some w:=λa w e=>by
  rw[aL (fP e hp)]; exact e
 have r1:=aG.keep r (H':=upd H p (.tup vs)) λb w e _=>up b w e
 exact .tup (k.jz hp) cZ r1.1 r1.2
end
inductive Rs (α:Type) where
 | ok (a:α) (δ:Dl)
 | exc (x:Xc) (δ:Dl)
 | stuck
def Rs.bind{α β:Type}(r:Rs α)(f:α->Dl->Rs β):Rs β:=match r with
 | .ok a δ=>f a δ
 | .exc x δ=>.exc x δ
 | .stuck=>.stuck
abbrev DE:=Dl->Rs S
def XC(c:Fc)(x:Xc)(δ:Dl):Prop:=c.xc x δ
def post{α:Type}(c:Fc)(r:Rs α)(k:α->Dl->Prop):Prop:=match r with
 | .ok a δ=>k a δ
 | .exc x δ=>XC c x δ
 | .stuck=>False
theorem a_:post c (r.bind f) k ↔ post c r λa δ=>post c (f a δ) k:=by
 cases r <;> exact Iff.rfl
theorem aO(h:post c r k)(m:∀ a δ,k a δ->k' a δ):post c r k':=by
 cases r with
 | ok a δ=>exact m a δ h
 | exc x δ=>exact h
 | stuck=>exact h
def tD(c:Fc)(f:DE):TE:=λσ H Q=>∃ δ,Ok c σ δ H/\post c (f δ) λr δ'=>∀ v H',a7 c σ δ H σ δ' H'->bp c σ δ' H H' v r->Q v H'
abbrev SE(X:Cx)(c:Fc)(e:Expr)(f:DE):Prop:=PE X e (tD c f)
def cJ(c:Fc)(σ:St)(δ:Dl)(H:Hp)(v:V)(d:D):Prop:=Rep H (Av c σ δ) v d\/∃ a,v = .ref a/\gx H (Av c σ δ) a d
abbrev BE:=Dl->Rs D
def tB(c:Fc)(f:BE):TE:=λσ H Q=>∃ δ,Ok c σ δ H/\post c (f δ) λd δ'=>∀ v H',a7 c σ δ H σ δ' H'->cJ c σ δ' H' v d->Q v H'
abbrev SB(X:Cx)(c:Fc)(e:Expr)(f:BE):Prop:=PE X e (tB c f)
theorem PE.weak(h:PE X e t)(w:∀ σ H Q,t' σ H Q->t σ H Q):PE X e t':=λpins s σ H Q I q=>h pins s σ H Q I (w σ H Q q)
def aj(f:DE):BE:=λδ=>(f δ).bind λr δ'=>.ok r.d δ'
theorem bp.b(h:bp c σ δ Hs H v r):cJ c σ δ H v r.d:=.inl h.rep
theorem aC{X:Cx}{c:Fc}{e:Expr}{f:DE}(h:SE X c e f):SB X c e (aj f):=PE.weak h λσ H Q ⟨δ,k,p⟩=>⟨δ,k,by
 unfold aj at p;rw[a_] at p;exact aO p λr δ' q v H' a s=>q v H' a s.b⟩
def ao(i:Nat):BE:=λδ=>match δ[i]? with
 | some (some r)=>.ok r.d δ
 | _=>.stuck
def aa(i:Nat):DE:=λδ=>match δ[i]? with
 | some (some (.pure d))=>.ok (.pure d) δ
 | some (some (.own d))=>.ok (.pure d) (δ.set i (some (.pure d)))
 | _=>.stuck
def eD(d:D):DE:=λδ=>.ok (.pure d) δ
section
variable {X:Cx} {c:Fc}
theorem bK{i:Nat}{e:Expr}(h:PE X e (cz i)):SB X c e (ao i):=PE.weak h λσ H Q ⟨δ,k,p⟩=>by
 unfold ao at p
 cases e:δ[i]? with
 | none=>rw[e] at p; exact p.elim
 | some o =>
  cases o with
  | none=>rw[e] at p; exact p.elim
  | some r =>
   rw[e] at p
   cases r with
   | pure d =>
    obtain⟨v,e1,r⟩:=k.slot i d e;exact⟨v,e1,p v H (.refl k) (.inl r)⟩
   | own d =>
    obtain⟨a,e1,r,_⟩:=k.own i d e;exact⟨.ref a,e1,p _ H (.refl k) (.inr ⟨a,rfl,r⟩)⟩
theorem Own.sub(h:Own σ (δ.set i (some (.pure d))) a):Own σ δ a:=by
 obtain⟨j,d',e1,e2⟩:=h;by_cases hj:i=j
 ·subst hj;rw[Q7] at e1;simp at e1
 ·rw[W9 hj] at e1;exact⟨j,d',e1,e2⟩
theorem Ok.give(k:Ok c σ δ H)(e:δ[i]? = some (some (.own d))) :
  ∃ a,σ[i]? = some (some (.ref a))/\a7 c σ δ H σ (δ.set i (some (.pure d))) H/\Rep H (Av c σ (δ.set i (some (.pure d)))) (.ref a) d:=by
 obtain⟨a,e1,r,q,nb⟩:=k.own i d e;have hi:i < δ.length:=(W6.mp e).1;have sub:∀ b,Av c σ (δ.set i (some (.pure d))) b->Av c σ δ b:=λb z=>z.elim .inl λz=>.inr z.sub
 have na:¬ Av c σ (δ.set i (some (.pure d))) a:=by
  rintro (z | ⟨j,d',f1,f2⟩)
  ·exact nb z
  ·by_cases hj:i=j
   ·subst hj;rw[Q7] at f1;simp at f1
   ·rw[W9 hj] at f1;exact hj (k.inj i j a d d' e f1 e1 f2)
 have rep:Rep H (Av c σ (δ.set i (some (.pure d)))) (.ref a) d:=(r.aW λb z=>.inl (sub b z)).rep na;refine⟨a,e1,⟨⟨k.keep,k.bd,k.eT,by rw[Q8]; exact k.len,λj d' f=>?_,λj d' f=>?_,λj l b d1 d2 f1 f2=>?_,k.pinned⟩,λ_ _ w _=>w,λb z=>.inl z.sub,λ_ o w=>⟨o,w⟩⟩,rep⟩
 ·by_cases hj:i=j
  ·subst hj;rw[Wn hi] at f
   cases f;exact⟨.ref a,e1,rep⟩
  ·rw[W9 hj] at f;obtain⟨v,g1,g2⟩:=k.slot j d' f;exact⟨v,g1,g2.aW λb z=>.inl (sub b z)⟩
 ·by_cases hj:i=j
  ·subst hj;rw[Wn hi] at f
   cases f
  ·rw[W9 hj] at f;obtain⟨b,g1,g2,g3⟩:=k.own j d' f;exact⟨b,g1,g2.aW λb z=>.inl (sub b z),g3⟩
 ·have h1:δ[j]? = some (some (.own d1)):=by
   by_cases hj:i=j
   ·subst hj; rw[Wn hi] at f1; cases f1
   ·rw[W9 hj] at f1; exact f1
  have h2:δ[l]? = some (some (.own d2)):=by
   by_cases hj:i=l
   ·subst hj; rw[Wn hi] at f2; cases f2
   ·rw[W9 hj] at f2; exact f2
  exact k.inj j l b d1 d2 h1 h2
theorem aA{i:Nat}{e:Expr}(h:PE X e (cz i)):SE X c e (aa i):=PE.weak h λσ H Q ⟨δ,k,p⟩=>by
 unfold aa at p
 cases e:δ[i]? with
 | none=>rw[e] at p; exact p.elim
 | some o =>
  cases o with
  | none=>rw[e] at p; exact p.elim
  | some r =>
   rw[e] at p
   cases r with
   | pure d =>
    obtain⟨v,e1,r⟩:=k.slot i d e;exact⟨v,e1,p v H (.refl k) r⟩
   | own d =>
    obtain⟨a,e1,x,r⟩:=k.give e;exact⟨.ref a,e1,p _ H x r⟩
theorem aH{i j pos}:SE X c (.Constant (.int i) j pos) (eD (.int i)):=PE.weak Ar λσ H Q ⟨δ,k,p⟩=>p _ H (.refl k) (.int i)
theorem j6{b j pos}:SE X c (.Constant (.bool b) j pos) (eD (.bl b)):=PE.weak Ij λσ H Q ⟨δ,k,p⟩=>p _ H (.refl k) (.bl b)
theorem Mk{j pos}:SE X c (.Constant .none j pos) (eD .bf):=PE.weak Ik λσ H Q ⟨δ,k,p⟩=>p _ H (.refl k) .bf
theorem B7{x j pos}(y:Tx)(h:x=toS y:=by decide +kernel):SE X c (.Constant (.str x) j pos) (eD (.str y)):=by
 subst h;exact PE.weak As λσ H Q ⟨δ,k,p⟩=>p _ H (.refl k) (.str y)
end
open PySem PySem.Spec PyProof.Rows L2 PySem.SeqAt
mutual
def aD:D->D->Bool
 | .bf,.bf=>true
 | .bl a,.bl b=>a == b
 | .int a,.int b=>a == b
 | .bl a,.int b=>(if a then 1 else 0) == b
 | .int a,.bl b=>a == (if b then 1 else 0)
 | .str a,.str b=>a == b
 | .tup xs,.tup ys=>fz xs ys
 | .lst xs,.lst ys=>fz xs ys
 | _,_=>false
def fz:List D->List D->Bool
 | [],[]=>true
 | x :: xs,y :: ys=>aD x y && fz xs ys
 | _,_=>false
end
mutual
def flat:Nat->D->Bool
 | _,.bf=>true
 | _,.bl _=>true
 | _,.int _=>true
 | _,.str _=>true
 | 0,.tup _=>false
 | n + 1,.tup xs=>iY n xs
 | 0,.lst _=>false
 | n + 1,.lst xs=>iY n xs
 | _,.aJ _=>false
 | _,.exc _ _=>false
 | _,.xd _=>false
 | _,.fn _=>false
 | _,.dic _=>false
def iY:Nat->List D->Bool
 | _,[]=>true
 | n,x :: xs=>flat n x && iY n xs
end
example:aD (.tup [.int 1,.str [2]]) (.tup [.int 1,.str [2]])=true:=by decide +kernel
theorem nF:∀ {xs:List D} {x:D},iY n xs=true->x ∈ xs->flat n x=true
 | [],_,_,h=>by simp at h
 | y :: ys,x,h,hm=>by
  simp only[iY,Ws] at h;rcases Wr.mp hm with e | hm
  ·rw[e]; exact h.1
  ·exact nF h.2 hm
theorem tK:∀ {xs ys:List D} {f:Nat->Bool},xs.length=ys.length->(∀ (j:Nat) x y,xs[j]? = some x->ys[j]? = some y->f j=aD x y)->(Qb xs.length).all f=fz xs ys
 | [],[],f,_,_=>rfl
 | [],y :: ys,f,h,_=>by simp at h
 | x :: xs,[],f,h,_=>by simp at h
 | x :: xs,y :: ys,f,h,hf=>by
  simp only[fz];rw[WB,List.range_succ_eq_map,Ui,hf 0 x y rfl rfl,List.all_map];rw[<- tK (f:=λj=>f (j + 1)) (by simpa using h) (λj a b e1 e2=>hf (j + 1) a b (by simpa using e1) (by simpa using e2))];rfl
theorem tL:∀ {xs ys:List D},xs.length≠ys.length->fz xs ys=false
 | [],[],h=>absurd rfl h
 | [],y :: ys,_=>rfl
 | x :: xs,[],_=>rfl
 | x :: xs,y :: ys,h=>by
  simp only[fz];rw[tL (xs:=xs) (ys:=ys) (by intro e; exact h (by simp[e]))];simp
mutual
theorem tM:∀ {n:Nat} {d:D},flat n d=true->aD d d=true
 | _,.bf,_=>rfl
 | _,.bl b,_=>by simp[aD]
 | _,.int i,_=>by simp[aD]
 | _,.str x,_=>by simp[aD]
 | 0,.tup xs,h=>by simp[flat] at h
 | n + 1,.tup xs,h=>by simp only[aD]; exact v8 (n:=n) (by simpa[flat] using h)
 | 0,.lst xs,h=>by simp[flat] at h
 | n + 1,.lst xs,h=>by simp only[aD]; exact v8 (n:=n) (by simpa[flat] using h)
 | _,.aJ xs,h=>by simp[flat] at h
 | _,.exc n _,h=>by simp[flat] at h
 | _,.xd n,h=>by simp[flat] at h
theorem v8:∀ {n:Nat} {ds:List D},iY n ds=true->fz ds ds=true
 | _,[],_=>rfl
 | n,x :: xs,h=>by
  simp only[iY,Ws] at h;simp only[fz];rw[tM h.1,v8 h.2];rfl
end
abbrev dP:Addr->Prop:=λ_=>False
theorem Rep.un(h:Rep H O v d):Rep H dP v d:=Rep.aW h λ_ z=>z.elim
theorem cJ.un(h:cJ c σ δ H v d):Rep H dP v d:=by
 rcases h with h | ⟨a,rfl,o⟩
 ·exact Rep.un h
 ·exact(o.aW (O':=dP) λ_ z=>z.elim).rep λz=>z
section
variable {X:Cx} {pins:List (Addr×Obj)} {σ:St} {H:Hp} {s:W4}
theorem Inv.g9(I:Inv X pins σ H s)(h:Rd H a (.lst vs)):∃ ah:List Value,Vals vs ah/\s.heap.IsList a ah.toArray:=by
 obtain⟨ah,r,p,_⟩:=I.list (.inl h);exact⟨ah,r,p.isList⟩
theorem Inv.g_(I:Inv X pins σ H s)(h:H a=some (.tup vs)):∃ ah:List Value,Vals vs ah/\s.heap.IsTuple a ah.toArray:=by
 obtain⟨ah,r,p,_⟩:=I.tuple (.of h);exact⟨ah,r,p⟩
theorem oO(x y:Tx):((toS x:Str) == toS y)=(x == y):=by
 rw[Uk];simp only[beq_iff_eq];exact⟨v7,λe=>by rw[e]⟩
theorem Ml(A:Wu):A.in1.units=A.units + 1:=rfl
theorem Rd.inj(h:Rd H a u)(k:Rd H a w)(hu:∀ o z,u≠.frz o z)(hw:∀ o z,w≠.frz o z):u=w:=by
 rcases h with h | ⟨o,h⟩ <;> rcases k with k | ⟨o',k⟩
 ·rw[h] at k; exact Wy k
 ·rw[h] at k; exact absurd (Wy k) (hu _ _)
 ·rw[h] at k; exact absurd (Wy k).symm (hw _ _)
 ·rw[h] at k;have:=Wy k;injection this
theorem aG.inj{vs:List V}:∀ {ds es:List D},vs.length=ds.length->vs.length=es.length->(∀ (i:Nat) v d e,vs[i]? = some v->ds[i]? = some d->es[i]? = some e->d=e)->ds=es:=by
 intro ds es h1 h2 h;apply JL;intro i;by_cases hi:i < vs.length
 ·have a1:i < ds.length:=by omega
  have a2:i < es.length:=by omega
  rw[Wg a1,Wg a2];rw[h i vs[i] ds[i] es[i] (by simp[hi]) (by simp[a1]) (by simp[a2])]
 ·rw[WY (by omega),WY (by omega)]
theorem Rep.inj{O:Addr->Prop}{v:V}{d:D}(h:Rep H O v d):∀ {n:Nat} {e:D},flat n d=true->flat n e=true->Rep H O v e->d=e:=by
 induction h with
 | bf=>intro n e _ _ k; cases k; rfl
 | bl b=>intro n e _ _ k; cases k; rfl
 | int i=>intro n e _ _ k; cases k; rfl
 | str x =>
  intro n e _ _ k;generalize hz:V.str (toS x)=z at k
  cases k with
  | str y=>injection hz with hz; rw[v7 hz]
  | _=>cases hz
 | @tup a vs ds h1 h2 h3 h4 ih =>
  intro n e fd fe k
  cases n with
  | zero=>simp[flat] at fd
  | succ n =>
   simp only[flat] at fd
   cases k with
   | @tup _ ws es k1 k2 k3 k4 =>
    simp only[flat] at fe;have e1:=Rd.inj (.inl h2) (.inl k2) (λ_ _ z=>by cases z) (λ_ _ z=>by cases z);injection e1 with e1
    subst e1;rw[aG.inj h3 k3 λi v d e q1 q2 q3=>ih i v d q1 q2 (nF fd (Wz q2)) (nF fe (Wz q3)) (k4 i v e q1 q3)]
   | lst k1 k2=>exact absurd (Rd.inj (.inl h2) k2 (λ_ _ z=>by cases z) (λ_ _ z=>by cases z)) (λz=>by cases z)
   | aJ k1 k2=>exact absurd (Rd.inj (.inl h2) (.inl k2) (λ_ _ z=>by cases z) (λ_ _ z=>by cases z)) (λz=>by cases z)
   | exc k1 k2=>simp[flat] at fe
   | xd k1 k2=>simp[flat] at fe
   | fn _=>simp[flat] at fe
   | dic _=>simp[flat] at fe
 | @lst a vs ds h1 h2 h3 h4 ih =>
  intro n e fd fe k
  cases n with
  | zero=>simp[flat] at fd
  | succ n =>
   simp only[flat] at fd
   cases k with
   | @lst _ ws es k1 k2 k3 k4 =>
    simp only[flat] at fe;have e1:=Rd.inj h2 k2 (λ_ _ z=>by cases z) (λ_ _ z=>by cases z);injection e1 with e1
    subst e1;rw[aG.inj h3 k3 λi v d e q1 q2 q3=>ih i v d q1 q2 (nF fd (Wz q2)) (nF fe (Wz q3)) (k4 i v e q1 q3)]
   | tup k1 k2=>exact absurd (Rd.inj h2 (.inl k2) (λ_ _ z=>by cases z) (λ_ _ z=>by cases z)) (λz=>by cases z)
   | aJ k1 k2=>exact absurd (Rd.inj h2 (.inl k2) (λ_ _ z=>by cases z) (λ_ _ z=>by cases z)) (λz=>by cases z)
   | exc k1 k2=>simp[flat] at fe
   | xd k1 k2=>simp[flat] at fe
   | fn _=>simp[flat] at fe
   | dic _=>simp[flat] at fe
 | aJ h1 h2 h3 h4 ih =>
  intro n e fd _ _
  cases n <;> simp[flat] at fd
 | exc h1 h2 =>
  intro n e fd _ _
  cases n <;> simp[flat] at fd
 | xd h1 h2 =>
  intro n e fd _ _
  cases n <;> simp[flat] at fd
 | fn _ =>
  intro n e fd _ _
  cases n <;> simp[flat] at fd
 | dic h1 h2 =>
  intro n e fd _ _
  cases n <;> simp[flat] at fd
def v9(H:Hp)(s:W4)(n:Nat):Prop:=∀ (A:Wu) (x y:V) (u w:Value) (d e:D),A.units + n + 1 < WG->flat n d=true->flat n e=true->Rep H dP x d->Rep H dP y e->RelV x u->RelV y w->EqAt A s u w (aD d e)
def nG(H:Hp)(s:W4)(A:Wu)(n:Nat):Prop:=match n with
 | 0=>True
 | m + 1=>A.units + m + 2 < WG/\v9 H s m
def tN(ds es:List D)(j:Nat):Bool:=match ds[j]?,es[j]? with
 | some p,some q=>aD p q
 | _,_=>false
theorem tO(j:Nat)(p q:D)(e1:ds[j]? = some p)(e2:es[j]? = some q):tN ds es j=aD p q:=by unfold tN; rw[e1,e2]
theorem tQ{n:Nat}{A:Wu}{vs ws:List V}{ds es:List D}{ah hJ:List Value}(hu:A.units + n + 2 < WG)(ih:v9 H s n)(r1:Vals vs ah)(r2:Vals ws hJ)(l1:vs.length=ds.length)(l2:ws.length=es.length)
  (g1:∀ (i:Nat) v d,vs[i]? = some v->ds[i]? = some d->Rep H dP v d) (g2:∀ (i:Nat) v d,ws[i]? = some v->es[i]? = some d->Rep H dP v d) (f1:iY n ds=true) (f2:iY n es=true) :
  ∀ j (h1:j < ah.toArray.size) (h2:j < hJ.toArray.size),EqAt A.in1 s ah.toArray[j] hJ.toArray[j] (tN ds es j):=by
 intro j h1 h2;have e1:=r1.length;have e2:=r2.length;simp at h1 h2;have hd:j < ds.length:=by omega
 have he:j < es.length:=by omega
 have hv:j < vs.length:=by omega
 have hw:j < ws.length:=by omega
 obtain⟨u',v_,ru'⟩:=r1.get (i:=j) (x:=vs[j]) (by simp[hv]);obtain⟨w',hw',rw''⟩:=r2.get (i:=j) (x:=ws[j]) (by simp[hw]);have eu:ah.toArray[j]=u':=by simpa[h1] using v_
 have ew:hJ.toArray[j]=w':=by simpa[h2] using hw'
 rw[eu,ew,tO j ds[j] es[j] (by simp[hd]) (by simp[he])];exact ih A.in1 vs[j] ws[j] u' w' ds[j] es[j] (by rw[Ml]; omega) (nF f1 (J4 hd)) (nF f2 (J4 he)) (g1 j _ _ (by simp[hv]) (by simp[hd])) (g2 j _ _ (by simp[hw]) (by simp[he])) ru' rw''
theorem B8(h1:n=ds.length)(h2:m=es.length):((Qb (min n m)).all (tN ds es) && n == m)=fz ds es:=by
 subst h1 h2;by_cases hl:ds.length=es.length
 ·rw[<- hl,Nat.min_self,tK hl tO];simp
 ·rw[tL hl];simp[hl]
theorem Mm(I:Inv X pins σ H s)(n:Nat)(A:Wu)(bP:A.units < WG)(t1:s.heap.IsTuple a ah.toArray)(t2:s.heap.IsTuple b hJ.toArray)(r1:Vals vs ah)(r2:Vals ws hJ)(l1:vs.length=ds.length)(l2:ws.length=es.length)
  (g1:∀ (i:Nat) v d,vs[i]? = some v->ds[i]? = some d->Rep H dP v d) (g2:∀ (i:Nat) v d,ws[i]? = some v->es[i]? = some d->Rep H dP v d) (f1:flat n (.tup ds)=true) (f2:flat n (.tup es)=true) (ih:nG H s A n) :
  RcAt A s (.ref a) (.ref b) (fz ds es):=by
 cases n with
 | zero=>simp[flat] at f1
 | succ n =>
  simp only[flat] at f1 f2;obtain⟨hu,ih⟩:=ih;have q:=RcAt.tuples (A:=A) (s:=s) t1 t2 bP (tQ hu ih r1 r2 l1 l2 g1 g2 f1 f2);rw[B8 (by have:=r1.length; simp; omega) (by have:=r2.length; simp; omega)] at q;exact q
theorem Mn(I:Inv X pins σ H s)(n:Nat)(A:Wu)(bP:A.units < WG)(t1:s.heap.IsTuple a ah.toArray)(t2:s.heap.IsTuple b hJ.toArray)(r1:Vals vs ah)(r2:Vals ws hJ)(l1:vs.length=ds.length)(l2:ws.length=es.length)
  (g1:∀ (i:Nat) v d,vs[i]? = some v->ds[i]? = some d->Rep H dP v d) (g2:∀ (i:Nat) v d,ws[i]? = some v->es[i]? = some d->Rep H dP v d) (f1:flat n (.tup ds)=true) (f2:flat n (.tup es)=true) (ih:nG H s A n) :
  RcNeAt A s (.ref a) (.ref b) (!fz ds es):=by
 cases n with
 | zero=>simp[flat] at f1
 | succ n =>
  simp only[flat] at f1 f2;obtain⟨hu,ih⟩:=ih;have q:=RcNeAt.tuples (A:=A) (s:=s) t1 t2 bP (tQ hu ih r1 r2 l1 l2 g1 g2 f1 f2);rw[B8 (by have:=r1.length; simp; omega) (by have:=r2.length; simp; omega)] at q;exact q
theorem Mo(I:Inv X pins σ H s)(n:Nat)(A:Wu)(bP:A.units < WG)(t1:s.heap.IsList a ah.toArray)(t2:s.heap.IsList b hJ.toArray)(r1:Vals vs ah)(r2:Vals ws hJ)(l1:vs.length=ds.length)(l2:ws.length=es.length)
  (g1:∀ (i:Nat) v d,vs[i]? = some v->ds[i]? = some d->Rep H dP v d) (g2:∀ (i:Nat) v d,ws[i]? = some v->es[i]? = some d->Rep H dP v d) (f1:flat n (.lst ds)=true) (f2:flat n (.lst es)=true) (ih:nG H s A n) :
  RcAt A s (.ref a) (.ref b) (fz ds es):=by
 cases n with
 | zero=>simp[flat] at f1
 | succ n =>
  simp only[flat] at f1 f2;obtain⟨hu,ih⟩:=ih;have z1:ah.toArray.size=ds.length:=by have:=r1.length; simp; omega
  have z2:hJ.toArray.size=es.length:=by have:=r2.length; simp; omega
  by_cases hl:ds.length=es.length
  ·have q:=RcAt.lists (A:=A) (s:=s) t1 t2 (by rw[z1,z2]; exact hl) bP (tQ hu ih r1 r2 l1 l2 g1 g2 f1 f2);rw[z1,tK hl tO] at q;exact q
  ·rw[tL hl];exact RcAt.lists_lengths (A:=A) (s:=s) t1 t2 (by rw[z1,z2]; simpa using hl) bP
theorem Mp(I:Inv X pins σ H s)(n:Nat)(A:Wu)(bP:A.units < WG)(t1:s.heap.IsList a ah.toArray)(t2:s.heap.IsList b hJ.toArray)(r1:Vals vs ah)(r2:Vals ws hJ)(l1:vs.length=ds.length)(l2:ws.length=es.length)
  (g1:∀ (i:Nat) v d,vs[i]? = some v->ds[i]? = some d->Rep H dP v d) (g2:∀ (i:Nat) v d,ws[i]? = some v->es[i]? = some d->Rep H dP v d) (f1:flat n (.lst ds)=true) (f2:flat n (.lst es)=true) (ih:nG H s A n) :
  RcNeAt A s (.ref a) (.ref b) (!fz ds es):=by
 cases n with
 | zero=>simp[flat] at f1
 | succ n =>
  simp only[flat] at f1 f2;obtain⟨hu,ih⟩:=ih;have z1:ah.toArray.size=ds.length:=by have:=r1.length; simp; omega
  have z2:hJ.toArray.size=es.length:=by have:=r2.length; simp; omega
  by_cases hl:ds.length=es.length
  ·have q:=RcNeAt.lists (A:=A) (s:=s) t1 t2 (by rw[z1,z2]; exact hl) bP (tQ hu ih r1 r2 l1 l2 g1 g2 f1 f2);rw[z1,tK hl tO] at q;exact q
  ·rw[tL hl];exact RcNeAt.lists_lengths (A:=A) (s:=s) t1 t2 (by rw[z1,z2]; simpa using hl) bP
theorem wa(I:Inv X pins σ H s)(n:Nat)(A:Wu)(x y:V)(u w:Value)(d e:D)(bP:A.units < WG)(fd:flat n d=true)(fe:flat n e=true)(ih:nG H s A n)(rx:Rep H dP x d)(ry:Rep H dP y e)(ru:RelV x u)(aK:RelV y w):RcAt A s u w (aD d e):=by
 cases rx with
 | bf =>
  cases ru
  cases ry with
  | bf =>
   cases aK;simp only[aD]; exact RcAt.none_none
  | bl q =>
   cases aK;simp only[aD]; exact RcAt.none_bool _
  | int q =>
   obtain⟨t2,rfl⟩:=aK;simp only[aD]; exact RcAt.none_int _ _
  | str q =>
   obtain⟨t2,rfl⟩:=aK;simp only[aD]; exact RcAt.none_str _ _
  | tup k1 k2 k3 k4 =>
   cases aK; obtain⟨its2,r2,t2⟩:=Inv.g_ I k2
   simp only[aD]; exact RcAt.none_tuple t2 bP
  | lst k1 k2 k3 k4 =>
   cases aK; obtain⟨its2,r2,t2⟩:=Inv.g9 I k2
   simp only[aD]; exact RcAt.none_list t2 bP
  | aJ k1 k2 k3 k4=>(cases n <;> simp[flat] at fe)
  | exc k1 k2=>(cases n <;> simp[flat] at fe)
  | xd k1 k2=>(cases n <;> simp[flat] at fe)
  | fn _=>(cases n <;> simp[flat] at fe)
  | dic _=>(cases n <;> simp[flat] at fe)
 | bl p =>
  cases ru
  cases ry with
  | bf =>
   cases aK;simp only[aD]; exact RcAt.bool_none _
  | bl q =>
   cases aK;simp only[aD]; exact RcAt.bool_bool _ _
  | int q =>
   obtain⟨t2,rfl⟩:=aK;simp only[aD]; exact RcAt.bool_int _ _ _
  | str q =>
   obtain⟨t2,rfl⟩:=aK;simp only[aD]; exact RcAt.bool_str _ _ _
  | tup k1 k2 k3 k4 =>
   cases aK; obtain⟨its2,r2,t2⟩:=Inv.g_ I k2
   simp only[aD]; exact RcAt.bool_tuple _ t2 bP
  | lst k1 k2 k3 k4 =>
   cases aK; obtain⟨its2,r2,t2⟩:=Inv.g9 I k2
   simp only[aD]; exact RcAt.bool_list _ t2 bP
  | aJ k1 k2 k3 k4=>(cases n <;> simp[flat] at fe)
  | exc k1 k2=>(cases n <;> simp[flat] at fe)
  | xd k1 k2=>(cases n <;> simp[flat] at fe)
  | fn _=>(cases n <;> simp[flat] at fe)
  | dic _=>(cases n <;> simp[flat] at fe)
 | int p =>
  obtain⟨t1,rfl⟩:=ru
  cases ry with
  | bf =>
   cases aK;simp only[aD]; exact RcAt.int_none _ _
  | bl q =>
   cases aK;simp only[aD]; exact RcAt.int_bool _ _ _
  | int q =>
   obtain⟨t2,rfl⟩:=aK;simp only[aD]; exact RcAt.int_int _ _ _ _
  | str q =>
   obtain⟨t2,rfl⟩:=aK;simp only[aD]; exact RcAt.int_str _ _ _ _
  | tup k1 k2 k3 k4 =>
   cases aK; obtain⟨its2,r2,t2⟩:=Inv.g_ I k2
   simp only[aD]; exact RcAt.int_tuple _ _ t2 bP
  | lst k1 k2 k3 k4 =>
   cases aK; obtain⟨its2,r2,t2⟩:=Inv.g9 I k2
   simp only[aD]; exact RcAt.int_list _ _ t2 bP
  | aJ k1 k2 k3 k4=>(cases n <;> simp[flat] at fe)
  | exc k1 k2=>(cases n <;> simp[flat] at fe)
  | xd k1 k2=>(cases n <;> simp[flat] at fe)
  | fn _=>(cases n <;> simp[flat] at fe)
  | dic _=>(cases n <;> simp[flat] at fe)
 | str p =>
  obtain⟨t1,rfl⟩:=ru
  cases ry with
  | bf =>
   cases aK;simp only[aD]; exact RcAt.str_none _ _
  | bl q =>
   cases aK;simp only[aD]; exact RcAt.str_bool _ _ _
  | int q =>
   obtain⟨t2,rfl⟩:=aK;simp only[aD]; exact RcAt.str_int _ _ _ _
  | str q =>
   obtain⟨t2,rfl⟩:=aK;simp only[aD]; rw[<- oO]; exact RcAt.str_str _ _ _ _
  | tup k1 k2 k3 k4 =>
   cases aK; obtain⟨its2,r2,t2⟩:=Inv.g_ I k2
   simp only[aD]; exact RcAt.str_tuple _ _ t2 bP
  | lst k1 k2 k3 k4 =>
   cases aK; obtain⟨its2,r2,t2⟩:=Inv.g9 I k2
   simp only[aD]; exact RcAt.str_list _ _ t2 bP
  | aJ k1 k2 k3 k4=>(cases n <;> simp[flat] at fe)
  | exc k1 k2=>(cases n <;> simp[flat] at fe)
  | xd k1 k2=>(cases n <;> simp[flat] at fe)
  | fn _=>(cases n <;> simp[flat] at fe)
  | dic _=>(cases n <;> simp[flat] at fe)
 | tup h1 h2 h3 h4 =>
  cases ru; obtain⟨its1,r1,t1⟩:=Inv.g_ I h2
  cases ry with
  | bf =>
   cases aK;simp only[aD]; exact RcAt.tuple_none t1 bP
  | bl q =>
   cases aK;simp only[aD]; exact RcAt.tuple_bool _ t1 bP
  | int q =>
   obtain⟨t2,rfl⟩:=aK;simp only[aD]; exact RcAt.tuple_int _ _ t1 bP
  | str q =>
   obtain⟨t2,rfl⟩:=aK;simp only[aD]; exact RcAt.tuple_str _ _ t1 bP
  | tup k1 k2 k3 k4 =>
   cases aK; obtain⟨its2,r2,t2⟩:=Inv.g_ I k2
   simp only[aD]; exact Mm I n A bP t1 t2 r1 r2 h3 k3 h4 k4 fd fe ih
  | lst k1 k2 k3 k4 =>
   cases aK; obtain⟨its2,r2,t2⟩:=Inv.g9 I k2
   simp only[aD]; exact RcAt.tuple_list t1 t2 bP
  | aJ k1 k2 k3 k4=>(cases n <;> simp[flat] at fe)
  | exc k1 k2=>(cases n <;> simp[flat] at fe)
  | xd k1 k2=>(cases n <;> simp[flat] at fe)
  | fn _=>(cases n <;> simp[flat] at fe)
  | dic _=>(cases n <;> simp[flat] at fe)
 | lst h1 h2 h3 h4 =>
  cases ru; obtain⟨its1,r1,t1⟩:=Inv.g9 I h2
  cases ry with
  | bf =>
   cases aK;simp only[aD]; exact RcAt.list_none t1 bP
  | bl q =>
   cases aK;simp only[aD]; exact RcAt.list_bool _ t1 bP
  | int q =>
   obtain⟨t2,rfl⟩:=aK;simp only[aD]; exact RcAt.list_int _ _ t1 bP
  | str q =>
   obtain⟨t2,rfl⟩:=aK;simp only[aD]; exact RcAt.list_str _ _ t1 bP
  | tup k1 k2 k3 k4 =>
   cases aK; obtain⟨its2,r2,t2⟩:=Inv.g_ I k2
   simp only[aD]; exact RcAt.list_tuple t1 t2 bP
  | lst k1 k2 k3 k4 =>
   cases aK; obtain⟨its2,r2,t2⟩:=Inv.g9 I k2
   simp only[aD]; exact Mo I n A bP t1 t2 r1 r2 h3 k3 h4 k4 fd fe ih
  | aJ k1 k2 k3 k4=>(cases n <;> simp[flat] at fe)
  | exc k1 k2=>(cases n <;> simp[flat] at fe)
  | xd k1 k2=>(cases n <;> simp[flat] at fe)
  | fn _=>(cases n <;> simp[flat] at fe)
  | dic _=>(cases n <;> simp[flat] at fe)
 | aJ h1 h2 h3 h4=>(cases n <;> simp[flat] at fd)
 | exc h1 h2=>(cases n <;> simp[flat] at fd)
 | xd h1 h2=>(cases n <;> simp[flat] at fd)
 | fn _=>(cases n <;> simp[flat] at fd)
 | dic _=>(cases n <;> simp[flat] at fd)
theorem Mq(I:Inv X pins σ H s)(n:Nat)(A:Wu)(x y:V)(u w:Value)(d e:D)(bP:A.units < WG)(fd:flat n d=true)(fe:flat n e=true)(ih:nG H s A n)(rx:Rep H dP x d)(ry:Rep H dP y e)(ru:RelV x u)(aK:RelV y w):RcNeAt A s u w (!aD d e):=by
 cases rx with
 | bf =>
  cases ru
  cases ry with
  | bf =>
   cases aK;simp only[aD]; exact RcNeAt.none_none
  | bl q =>
   cases aK;simp only[aD]; exact RcNeAt.none_bool _
  | int q =>
   obtain⟨t2,rfl⟩:=aK;simp only[aD]; exact RcNeAt.none_int _ _
  | str q =>
   obtain⟨t2,rfl⟩:=aK;simp only[aD]; exact RcNeAt.none_str _ _
  | tup k1 k2 k3 k4 =>
   cases aK; obtain⟨its2,r2,t2⟩:=Inv.g_ I k2
   simp only[aD]; exact RcNeAt.none_tuple t2 bP
  | lst k1 k2 k3 k4 =>
   cases aK; obtain⟨its2,r2,t2⟩:=Inv.g9 I k2
   simp only[aD]; exact RcNeAt.none_list t2 bP
  | aJ k1 k2 k3 k4=>(cases n <;> simp[flat] at fe)
  | exc k1 k2=>(cases n <;> simp[flat] at fe)
  | xd k1 k2=>(cases n <;> simp[flat] at fe)
  | fn _=>(cases n <;> simp[flat] at fe)
  | dic _=>(cases n <;> simp[flat] at fe)
 | bl p =>
  cases ru
  cases ry with
  | bf =>
   cases aK;simp only[aD]; exact RcNeAt.bool_none _
  | bl q =>
   cases aK;simp only[aD]; exact RcNeAt.bool_bool _ _
  | int q =>
   obtain⟨t2,rfl⟩:=aK;simp only[aD]; exact RcNeAt.bool_int _ _ _
  | str q =>
   obtain⟨t2,rfl⟩:=aK;simp only[aD]; exact RcNeAt.bool_str _ _ _
  | tup k1 k2 k3 k4 =>
   cases aK; obtain⟨its2,r2,t2⟩:=Inv.g_ I k2
   simp only[aD]; exact RcNeAt.bool_tuple _ t2 bP
  | lst k1 k2 k3 k4 =>
   cases aK; obtain⟨its2,r2,t2⟩:=Inv.g9 I k2
   simp only[aD]; exact RcNeAt.bool_list _ t2 bP
  | aJ k1 k2 k3 k4=>(cases n <;> simp[flat] at fe)
  | exc k1 k2=>(cases n <;> simp[flat] at fe)
  | xd k1 k2=>(cases n <;> simp[flat] at fe)
  | fn _=>(cases n <;> simp[flat] at fe)
  | dic _=>(cases n <;> simp[flat] at fe)
 | int p =>
  obtain⟨t1,rfl⟩:=ru
  cases ry with
  | bf =>
   cases aK;simp only[aD]; exact RcNeAt.int_none _ _
  | bl q =>
   cases aK;simp only[aD]; exact RcNeAt.int_bool _ _ _
  | int q =>
   obtain⟨t2,rfl⟩:=aK;simp only[aD]; exact RcNeAt.int_int _ _ _ _
  | str q =>
   obtain⟨t2,rfl⟩:=aK;simp only[aD]; exact RcNeAt.int_str _ _ _ _
  | tup k1 k2 k3 k4 =>
   cases aK; obtain⟨its2,r2,t2⟩:=Inv.g_ I k2
   simp only[aD]; exact RcNeAt.int_tuple _ _ t2 bP
  | lst k1 k2 k3 k4 =>
   cases aK; obtain⟨its2,r2,t2⟩:=Inv.g9 I k2
   simp only[aD]; exact RcNeAt.int_list _ _ t2 bP
  | aJ k1 k2 k3 k4=>(cases n <;> simp[flat] at fe)
  | exc k1 k2=>(cases n <;> simp[flat] at fe)
  | xd k1 k2=>(cases n <;> simp[flat] at fe)
  | fn _=>(cases n <;> simp[flat] at fe)
  | dic _=>(cases n <;> simp[flat] at fe)
 | str p =>
  obtain⟨t1,rfl⟩:=ru
  cases ry with
  | bf =>
   cases aK;simp only[aD]; exact RcNeAt.str_none _ _
  | bl q =>
   cases aK;simp only[aD]; exact RcNeAt.str_bool _ _ _
  | int q =>
   obtain⟨t2,rfl⟩:=aK;simp only[aD]; exact RcNeAt.str_int _ _ _ _
  | str q =>
   obtain⟨t2,rfl⟩:=aK;simp only[aD]; rw[<- oO]; exact RcNeAt.str_str _ _ _ _
  | tup k1 k2 k3 k4 =>
   cases aK; obtain⟨its2,r2,t2⟩:=Inv.g_ I k2
   simp only[aD]; exact RcNeAt.str_tuple _ _ t2 bP
  | lst k1 k2 k3 k4 =>
   cases aK; obtain⟨its2,r2,t2⟩:=Inv.g9 I k2
   simp only[aD]; exact RcNeAt.str_list _ _ t2 bP
  | aJ k1 k2 k3 k4=>(cases n <;> simp[flat] at fe)
  | exc k1 k2=>(cases n <;> simp[flat] at fe)
  | xd k1 k2=>(cases n <;> simp[flat] at fe)
  | fn _=>(cases n <;> simp[flat] at fe)
  | dic _=>(cases n <;> simp[flat] at fe)
 | tup h1 h2 h3 h4 =>
  cases ru; obtain⟨its1,r1,t1⟩:=Inv.g_ I h2
  cases ry with
  | bf =>
   cases aK;simp only[aD]; exact RcNeAt.tuple_none t1 bP
  | bl q =>
   cases aK;simp only[aD]; exact RcNeAt.tuple_bool _ t1 bP
  | int q =>
   obtain⟨t2,rfl⟩:=aK;simp only[aD]; exact RcNeAt.tuple_int _ _ t1 bP
  | str q =>
   obtain⟨t2,rfl⟩:=aK;simp only[aD]; exact RcNeAt.tuple_str _ _ t1 bP
  | tup k1 k2 k3 k4 =>
   cases aK; obtain⟨its2,r2,t2⟩:=Inv.g_ I k2
   simp only[aD]; exact Mn I n A bP t1 t2 r1 r2 h3 k3 h4 k4 fd fe ih
  | lst k1 k2 k3 k4 =>
   cases aK; obtain⟨its2,r2,t2⟩:=Inv.g9 I k2
   simp only[aD]; exact RcNeAt.tuple_list t1 t2 bP
  | aJ k1 k2 k3 k4=>(cases n <;> simp[flat] at fe)
  | exc k1 k2=>(cases n <;> simp[flat] at fe)
  | xd k1 k2=>(cases n <;> simp[flat] at fe)
  | fn _=>(cases n <;> simp[flat] at fe)
  | dic _=>(cases n <;> simp[flat] at fe)
 | lst h1 h2 h3 h4 =>
  cases ru; obtain⟨its1,r1,t1⟩:=Inv.g9 I h2
  cases ry with
  | bf =>
   cases aK;simp only[aD]; exact RcNeAt.list_none t1 bP
  | bl q =>
   cases aK;simp only[aD]; exact RcNeAt.list_bool _ t1 bP
  | int q =>
   obtain⟨t2,rfl⟩:=aK;simp only[aD]; exact RcNeAt.list_int _ _ t1 bP
  | str q =>
   obtain⟨t2,rfl⟩:=aK;simp only[aD]; exact RcNeAt.list_str _ _ t1 bP
  | tup k1 k2 k3 k4 =>
   cases aK; obtain⟨its2,r2,t2⟩:=Inv.g_ I k2
   simp only[aD]; exact RcNeAt.list_tuple t1 t2 bP
  | lst k1 k2 k3 k4 =>
   cases aK; obtain⟨its2,r2,t2⟩:=Inv.g9 I k2
   simp only[aD]; exact Mp I n A bP t1 t2 r1 r2 h3 k3 h4 k4 fd fe ih
  | aJ k1 k2 k3 k4=>(cases n <;> simp[flat] at fe)
  | exc k1 k2=>(cases n <;> simp[flat] at fe)
  | xd k1 k2=>(cases n <;> simp[flat] at fe)
  | fn _=>(cases n <;> simp[flat] at fe)
  | dic _=>(cases n <;> simp[flat] at fe)
 | aJ h1 h2 h3 h4=>(cases n <;> simp[flat] at fd)
 | exc h1 h2=>(cases n <;> simp[flat] at fd)
 | xd h1 h2=>(cases n <;> simp[flat] at fd)
 | fn _=>(cases n <;> simp[flat] at fd)
 | dic _=>(cases n <;> simp[flat] at fd)
theorem B9(h:RcAt A s u w k)(hs:u=w->k=true)(hf:∀ b t,u≠Value.float b t):EqAt A s u w k:=λprog w' E Q hq=>by
 unfold eqBool;refine WV ?_;refine wpAny_ite_split (λoP=>?_) (λ_=>?_)
 ·have e:=eq_of_beq oP;rw[hs e] at hq;exact W0 (QT (W5 hq))
 ·cases u with
  | float b t=>exact absurd rfl (hf b t)
  | _=>exact W0 (h prog w' E _ (Qc hq))
theorem B_(r:Rep H dP x d)(ru:RelV x u)(b:UInt64)(t:Tok):u≠Value.float b t:=by
 intro e;subst e
 cases r <;> first | (cases ru; done) | (obtain⟨t',e⟩:=ru; cases e)
theorem Mr(I:Inv X pins σ H s)(n:Nat):v9 H s n:=by
 induction n with
 | zero =>
  intro A x y u w d e hu fd fe rx ry ru aK;refine B9 (wa I 0 A x y u w d e (by omega) fd fe trivial rx ry ru aK) (λh=>?_) (B_ rx ru);subst h;have:=ru.inj aK;subst this;rw[Rep.inj rx fd fe ry];exact tM fe
 | succ n ih =>
  intro A x y u w d e hu fd fe rx ry ru aK;refine B9 (wa I (n + 1) A x y u w d e (by omega) fd fe ⟨by omega,ih⟩ rx ry ru aK) (λh=>?_) (B_ rx ru);subst h;have:=ru.inj aK;subst this;rw[Rep.inj rx fd fe ry];exact tM fe
theorem Ca(I:Inv X pins σ H s):∀ n:Nat,A.units + n + 1 < WG->nG H s A n
 | 0,_=>trivial
 | n + 1,h=>⟨by omega,Mr I n⟩
def Cb:R2:=λx y H Q=>∃ d e,Rep H dP x d/\Rep H dP y e/\flat 50 d=true/\flat 50 e=true/\Q (.bl (aD d e)) H
def Cc:R2:=λx y H Q=>∃ d e,Rep H dP x d/\Rep H dP y e/\flat 50 d=true/\flat 50 e=true/\Q (.bl (!aD d e)) H
theorem j7(hu:X.A.units + 64 < WG):bN X (WT .Eq) Cb:=by
 intro pins s σ H x y v u Q I rx ry h;obtain⟨d,e,r1,r2,f1,f2,q⟩:=h;exact wa I 50 X.A x y v u d e (by omega) f1 f2 (Ca I 50 (by omega)) r1 r2 rx ry X.prog X.w X.xe _ ⟨.bl _,H,I,rfl,q⟩
theorem Cd(hu:X.A.units + 64 < WG):bN X (WT .NotEq) Cc:=by
 intro pins s σ H x y v u Q I rx ry h;obtain⟨d,e,r1,r2,f1,f2,q⟩:=h;exact Mq I 50 X.A x y v u d e (by omega) f1 f2 (Ca I 50 (by omega)) r1 r2 rx ry X.prog X.w X.xe _ ⟨.bl _,H,I,rfl,q⟩
end
def c_{α:Type}(xs:List α)(lo hi:Option Int):List α:=(xs.drop (HT.aY xs.length 0 lo)).take (HT.aY xs.length xs.length hi - HT.aY xs.length 0 lo)
theorem Ce(xs:List V)(lo hi:Option Int):c_ xs lo hi=lV xs lo hi:=rfl
theorem Ms(xs:List α)(lo hi:Option Int):(c_ xs lo hi).length<=xs.length:=by
 unfold c_;rw[Qz,List.length_drop];omega
theorem aG.cut(lo hi:Option Int)(h:aG H O vs ds):aG H O (c_ vs lo hi) (c_ ds lo hi):=by
 unfold c_;rw[h.1];exact aG.take _ (aG.drop _ h)
theorem Mt{α:Type}{xs:List α}{lo hi:Option Int}(h:HT.aY xs.length 0 lo=0/\HT.aY xs.length xs.length hi=xs.length):c_ xs lo hi=xs:=by
 unfold c_;rw[h.1,h.2];simp
section
variable {prog:Wm} {w:Wq} {A:Wu} {E:Value->W4->Prop} {s:W4}
theorem Mu{t sl:Addr}{items:Array Value}{vl vu:Value}{lo hi:Option Int}{Q:Value->W4->Prop}(ht:IsTup s.heap t items)(hs:s.heap.IsSliceOf sl vl vu .none)(pl:IsPart vl lo)(pu:IsPart vu hi)
  (hw:HT.aY items.size 0 lo=0/\HT.aY items.size items.size hi=items.size) (h:Q (.ref t) s):W8 (model prog w) A (U8 (.ref t) (.ref sl)) Q E s:=by
 obtain⟨os,hos,hcs,hds⟩:=id hs;have vG:s.TypeIs (.ref sl) "slice":=⟨os,hos,hcs⟩
 unfold U8;try with_reducible refine WV ?_
 first | refine W0 (W5 ?_) | skip
 refine W0 (Ua ht.typeIs (by decide) ?_);refine W0 (WK (name:=Str.ofString "__getitem__") ht.typeIs QP
  (WN QP ht.typeIs entry_tuple_getitem ?_ (args_tuple_getitem _ _)))
 show W8 _ _ (Builtin.Tuple.tupleItemsOf (.ref t) >>= _) _ _ s;refine W0 (tupleItemsOf_ ht ?_);refine W0 (JO vG ?_);rw[if_pos (by decide)];refine W0 (HT.Bf hs pl pu ?_);show W8 _ _ (if (((HT.aY items.size 0 lo:Nat):Int) == 0 && (1:Int) == 1 && (HT.aY items.size items.size hi - HT.aY items.size 0 lo) == items.size)=true then _ else _) _ _ s;rw[hw.1,hw.2];rw[if_pos (by simp)];refine W0 (m:=Builtin.Tuple.tupleIsExact (.ref t)) ?_;unfold Builtin.Tuple.tupleIsExact;refine W0 (JO ht.typeIs (W5 ?_));rw[if_pos (by decide)];exact W0 (QT (W0 (W5 (W5 ⟨_,rfl,W5 h⟩))))
end
section
variable {X:Cx}
def Cf(K:W3):V->Option Int->Option Int->Hp->VK->Prop:=λx lo hi H Q=>∃ a xs,x = .ref a/\cH K H a xs /\
 ((HT.aY xs.length 0 lo=0/\HT.aY xs.length xs.length hi=xs.length)->Q (.ref a) H)/\(¬ (HT.aY xs.length 0 lo=0/\HT.aY xs.length xs.length hi=xs.length)->∀ p,H p=none->Q (.ref p) (upd H p (.tup (lV xs lo hi))))
theorem Mv:j5 X (Cf X.K):=by
 intro pins s σ H x v vl vu lo hi sl Q I rx hs pl pu h;obtain⟨a,xs,rfl,hx,q1,q2⟩:=h;by_cases hw:HT.aY xs.length 0 lo=0/\HT.aY xs.length xs.length hi=xs.length
 ·cases rx;obtain⟨ah,r,ht,hz⟩:=I.tuple hx;have hlen:ah.toArray.size=xs.length:=by rw[Wp]; exact r.length.symm
  refine⟨"tuple",_,PyProof.Rows.slot_tuple_getitem.lookup,ht.typeIs,?_⟩;exact Mu ht hs pl pu (by rw[hlen]; exact hw) ⟨.ref a,H,I,rfl,q1 hw⟩
 ·exact KZ pins s σ H (.ref a) v vl vu lo hi sl Q I rx hs pl pu ⟨a,xs,rfl,hx,hw,q2 hw⟩
theorem Mw(a b:Nat):sliceRange (a:Int) (b:Int) 1=(Qb (b - a)).map (λk=>a + k):=by
 have h0:((1:Int) > 0)=True:=by simp
 unfold sliceRange;simp only[h0,if_true];by_cases aS:(a:Int) < (b:Int)
 ·rw[if_pos aS];have e3:(((b:Int) - (a:Int) + 1 - 1) / 1).toNat=b - a:=by
   rw[Int.ediv_one]; omega
  rw[e3];refine WZ λk _=>?_
  omega
 ·rw[if_neg aS];have:b - a=0:=by omega
  rw[this];rfl
theorem Cg(lo hi:Option Int)(n:Nat):QF lo hi 1 n=(Qb (HT.aY n n hi - HT.aY n 0 lo)).map (λk=>HT.aY n 0 lo + k):=by
 have c:∀ (i:Int) (d:Nat),max 0 (min (if i < 0 then i + (n:Int) else i) (n:Int))=((HT.aY n d (some i):Nat):Int):=by
  intro i d;show max 0 (min (if i < 0 then i + (n:Int) else i) (n:Int))=(((if i < 0 then(i + (n:Int)).toNat else min i.toNat n):Nat):Int);by_cases hi:i < 0
  ·simp only[if_pos hi]; omega
  ·simp only[if_neg hi]; omega
 have h0:((1:Int) > 0)=True:=by simp
 rw[<- Mw];unfold QF;simp only[h0,if_true]
 cases lo with
 | none =>
  cases hi with
  | none=>rfl
  | some j=>show sliceRange 0 (max 0 (min (if j < 0 then j + (n:Int) else j) (n:Int))) 1=_; rw[c j n]; rfl
 | some i =>
  cases hi with
  | none=>show sliceRange (max 0 (min (if i < 0 then i + (n:Int) else i) (n:Int))) (n:Int) 1=_; rw[c i 0]; rfl
  | some j=>show sliceRange (max 0 (min (if i < 0 then i + (n:Int) else i) (n:Int))) (max 0 (min (if j < 0 then j + (n:Int) else j) (n:Int))) 1=_; rw[c i 0,c j n]
theorem zev(x:Tx)(lo hi:Option Int):(⟨((QF lo hi 1 (toS x).length).filterMap ((toS x).cps[·]?)).toArray⟩:Str)=toS (c_ x lo hi):=by
 unfold toS;congr 1
 rw[Cg];have:=pick_run (x.toArray) (HT.aY x.length 0 lo) (HT.aY x.length x.length hi - HT.aY x.length 0 lo);have hl:({ cps:=x.toArray }:Str).length=x.length:=by simp[Str.length]
 rw[hl];rw[this];rfl
def Ci:V->Option Int->Option Int->Hp->VK->Prop:=λx lo hi H Q=>∃ z:Tx,x = .str (toS z)/\z.length<=Wd/\Q (.str (toS (c_ z lo hi))) H
theorem Cj(p:IsPart v o):∃ q:Option (Int×Tok),v=partValue q/\q.map (·.1)=o:=by
 cases p with
 | none=>exact⟨none,rfl,rfl⟩
 | int i t=>exact⟨some (i,t),rfl,rfl⟩
theorem tR:j5 X Ci:=by
 intro pins s σ H x v vl vu lo hi sl Q I rx hs pl pu h;obtain⟨z,rfl,hz,q⟩:=h;obtain⟨t,rfl⟩:=rx;obtain⟨l,rfl,el⟩:=Cj pl;obtain⟨u,rfl,eu⟩:=Cj pu;obtain⟨o,ho,hc,hd⟩:=hs;refine⟨"str",_,F.slot_str_getitem.lookup,typeIs_str s _ t,?_⟩;refine wpAny_getItem_str_slice (l:=l) (u:=u) (st:=none) ⟨o,ho,hc,hd⟩ rfl ?_;unfold sliceMade;have e:(slicePicked (toS z) l u none)=QF lo hi 1 (toS z).length:=by
  unfold slicePicked;rw[el,eu];rfl
 rw[e];by_cases hw:(((none:Option (Int×Tok)).map (·.1)).getD 1 == 1 && (QF lo hi 1 (toS z).length).length == (toS z).length)=true
 ·rw[if_pos hw];refine⟨.str (toS (c_ z lo hi)),H,I,⟨t,?_⟩,q⟩;congr 1
  rw[Ws] at hw;have wb:=eq_of_beq hw.2;rw[Cg,Wx,List.length_range,jy] at wb;have h1:=HT.vF z.length 0 (QB _) lo;have h2:=HT.vF z.length z.length (Wh _) hi;unfold c_;congr 1
  by_cases h0:z.length=0
  ·have:z=[]:=List.eq_nil_of_length_eq_zero h0;subst this;simp
  ·have a1:HT.aY z.length 0 lo=0:=by omega
   rw[a1] at wb ⊢;rw[wb];simp
 ·rw[if_neg hw];show Made.post (.str _) _ _;rw[zev];exact⟨by rw[jy]; exact WA (Ms z lo hi) hz,.str (toS (c_ z lo hi)),H,I.tok _,⟨_,rfl⟩,q⟩
theorem Mx:bN X (Qg .Add) (λx y H Q=>∃ a b ys,x = .ref a/\y = .ref b/\cH X.K H a []/\cH X.K H b ys/\Q (.ref b) H):=by
 intro pins s σ H x y v u Q I rx ry h;obtain⟨a,b,ys,rfl,rfl,ha,hb,q⟩:=h
 cases rx
 cases ry;obtain⟨ah,r1,p1,_⟩:=I.tuple ha;obtain⟨its2,r2,p2,_⟩:=I.tuple hb
 cases r1;obtain⟨⟨cls,dd,data,sl⟩,ho,hc,n,hd⟩:=id p1;obtain⟨⟨cls2,ni,data2,lU⟩,kK,gL,n2,hd2⟩:=id p2;simp only at hc hd gL hd2;subst hc hd gL hd2;exact concat_meets ⟨_,ho,rfl⟩ ⟨_,kK,rfl⟩ noFill_tuple_add seq_tuple_add PySem.F.slot_tuple_add PySem.F.entry_tuple_add (PySem.F.args_tuple_add_2 _ _)
   (tuple_addW0 a b #[] its2.toArray n n2 dd ni sl lU rfl) ⟨ho,kK,.ref b,H,I,rfl,q⟩
def Ck(K:W3):R2:=λx y H Q=>∃ l b xs zs,x = .ref l/\y = .ref b/\bW K H l xs/\bW K H b zs/\xs.length + zs.length<=Wd/\∀ p,H p=none->Q (.ref p) (upd H p (.lst (xs ++ zs)))
theorem My:bN X (Qg .Add) (Ck X.K):=by
 intro pins s σ H x y v u Q I rx ry h;obtain⟨l,b,xs,zs,rfl,rfl,hH,hB,hz,q⟩:=h
 cases rx
 cases ry;obtain⟨ah,r,⟨⟨cls,dd,data,sl⟩,n,e,hc,j8,hd⟩,z⟩:=I.list hH;obtain⟨its2,r2,⟨⟨cls2,ni,data2,lU⟩,n2,e2,gL,hdd2,hd2⟩,z2⟩:=I.list hB;simp only at hc hd j8 gL hd2 hdd2;subst hc hd j8 gL hd2 hdd2;have hl:=r.length;have fA:=r2.length;refine concat_meets ⟨_,e,rfl⟩ ⟨_,e2,rfl⟩ noFill_list_add seq_list_add PySem.F.slot_list_add PySem.F.entry_list_add (PySem.F.args_list_add_2 _ _)
   (list_addW l b ah.toArray its2.toArray n n2 none none sl lU (by rw[Wp,Wp]; omega)) ⟨e,e2,?_⟩
 have ea:ah.toArray ++ its2.toArray=(ah ++ its2).toArray:=by simp
 rw[ea];exact⟨.ref _,_,I.Lj (t':=s.toks) (r.append r2) (by rw[WU]; omega),rfl,q _ I.fresh⟩
theorem tS:∀ {ys:List Str} {us:List Value},Vals (ys.map V.str) us->StrsAre us ys
 | [],us,r=>by cases r; exact .nil
 | y :: ys,us,r=>by
  cases r with
  | cons r1 r2 =>
   obtain⟨t,rfl⟩:=r1;exact .cons y t (tS r2)
theorem Cm:∀ {ys:List Str} {us:List Value},StrsAre us ys->Vals (ys.map V.str) us
 | _,_,.nil=>.nil
 | _,_,.cons y t h=>.cons ⟨t,rfl⟩ (Cm h)
def tU(K:W3):V->List V->Hp->VK->Prop:=λx vs H Q=>∃ (z:Str) (a:Addr) (ys:List Str),x = .str z/\vs=[.ref a]/\(bW K H a (ys.map V.str)\/cH K H a (ys.map V.str)) /\
 (ys.map (·.length)).sum + ys.length * z.length<=16777216/\Q (.str (Txt.join z ys)) H
theorem Mz:sS X "str.join" (tU X.K):=by
 intro pins s σ H x vs v us Q I rx rv h;obtain⟨z,a,ys,rfl,rfl,hq,hz,q⟩:=h;obtain⟨t,rfl⟩:=rx;obtain⟨u,rfl,ru⟩:=rv.one
 cases ru;rcases hq with hq | hq
 ·obtain⟨ah,r,p,_⟩:=I.list hq;exact join_list p.isList (by simpa using tS r) hz λt' k=>⟨.str _,H,I.tok _,⟨t',rfl⟩,q⟩
 ·obtain⟨ah,r,p,_⟩:=I.tuple hq;exact join_tuple p (by simpa using tS r) hz λt' k=>⟨.str _,H,I.tok _,⟨t',rfl⟩,q⟩
theorem Cn:∀ {bs:List Bool} {us:List Value},Vals (bs.map V.bl) us->∀ (i:Nat) v,us[i]? = some v->∃ b,bs[i]? = some b/\v = .bool b
 | [],us,r,i,v,e=>by cases r; simp at e
 | b :: bs,us,r,i,v,e=>by
  cases r with
  | cons r1 r2 =>
   cases i with
   | zero =>
    simp at e;subst e;exact⟨b,rfl,r1⟩
   | succ i=>exact Cn r2 i v (by simpa using e)
theorem Co:∀ bs:List Bool,((Qb bs.length).all λi=>(bs[i]?).getD true)=bs.all id
 | []=>rfl
 | b :: bs=>by
  rw[WB,List.range_succ_eq_map,Ui,List.all_map];have:=Co bs;simp only[JA,Option.getD_some,Ui,id];rw[<- this];rfl
theorem MA (hc:X.calm=true):fH X (.builtin "all") (λxs H Q=>∃ (a:Addr) (bs:List Bool),xs=[.ref a]/\bW X.K H a (bs.map V.bl)/\Q (.bl (bs.all (λb=>b))) H):=by
 intro pins s σ H xs us Q I r h;obtain⟨a,bs,rfl,hq,q⟩:=h;obtain⟨u,rfl,ru⟩:=jq r
 cases ru;obtain⟨ah,r',p,_⟩:=I.list hq;have hl:=p.isList;have aS:a < s.heap.objs.size:=by obtain⟨_,e,_⟩:=hl; exact Wj e
 have hlen:=r'.length;rw[Wx] at hlen;refine call_all_walk (Ud hl ?_);refine⟨s.heap.objs.size,[s.heap.objs.size,a],[s.heap.objs.size],ah.toArray.size,_,_,λi=>(bs[i]?).getD true,rfl,Walks.list (A:=X.A.in1) (I.ok.hd hc) _ a (Wo aS) ah.toArray,
  ⟨⟨_,Wl _ rfl,rfl,rfl⟩,hl.push _⟩,λi v s' Q' E' hP hQ=>?_,λh' tk hk=>?_⟩
 ·obtain⟨b,e,rfl⟩:=Cn r' i v (by simpa using hP);simp only[e,Option.getD_some] at hQ;exact Qc hQ
 ·have e:((Qb ah.toArray.size).all λi=>(bs[i]?).getD true)=bs.all id:=by
   rw[Wp,<- hlen]; exact Co bs
  rw[e];exact⟨.bl _,H,I.kept λb o e=>hk b o (λhm=>by rw[U3.mp hm] at e; exact Qs _ (Wj e)) (Wa _ e),rfl,q⟩
def kS(x:Tx):List Tx->List Tx
 | []=>[x]
 | y :: r=>if y < x then y :: kS x r else x :: y :: r
def iu:List Tx->List Tx
 | []=>[]
 | x :: r=>kS x (iu r)
theorem wc(x:Tx):∀ l:List Tx,(kS x l).Perm (x :: l)
 | []=>.refl _
 | y :: r=>by
  unfold kS;split
  ·exact((wc x r).cons y).trans (.swap x y r)
  ·exact .refl _
theorem we:∀ l:List Tx,(iu l).Perm l
 | []=>.refl _
 | x :: r=>(wc x _).trans ((we r).cons x)
abbrev iZ(a b:Tx):Prop:=¬ b < a
theorem Cp(h1:iZ a b)(h2:iZ b c):iZ a c:=List.not_lt.mpr (List.le_trans (List.not_lt.mp h1) (List.not_lt.mp h2))
theorem MB(h1:iZ a b)(h2:iZ b a):a=b:=List.le_antisymm (List.not_lt.mp h1) (List.not_lt.mp h2)
theorem Cq(x:Tx):∀ l:List Tx,l.Pairwise iZ->(kS x l).Pairwise iZ
 | [],_=>by simp[kS]
 | y :: r,h=>by
  unfold kS;obtain⟨h1,h2⟩:=List.pairwise_cons.mp h;split
  ·rename_i aS;refine U4.mpr ⟨λz hz=>?_,Cq x r h2⟩;rcases Wr.mp ((wc x r).mem_iff.mp hz) with e | hz
   ·subst e;intro q;exact absurd (List.lt_trans aS q) (List.lt_irrefl _)
   ·exact h1 z hz
  ·rename_i hge;refine U4.mpr ⟨λz hz=>?_,h⟩;rcases Wr.mp hz with e | hz
   ·subst e; exact hge
   ·exact Cp hge (h1 z hz)
theorem Cr:∀ l:List Tx,(iu l).Pairwise iZ
 | []=>.nil
 | x :: r=>Cq x _ (Cr r)
theorem MC(hp:l'.Perm l)(hs:l'.Pairwise iZ):l'=iu l :=
 List.Perm.eq_of_pairwise (λ_ _ _ _ h1 h2=>MB h1 h2) hs (Cr l) (hp.trans (we l).symm)
theorem Cs:∀ (x:Str) (r:List Str),risingS x r=true->((x :: r).map λz:Str=>z.cps.toList).Pairwise iZ
 | x,[],_=>by simp
 | x,y :: r,h=>by
  have h':(!ltCps y.cps.toList x.cps.toList && risingS y r)=true:=h;rw[Ws] at h';have ih:=Cs y r h'.2;have Ct:iZ x.cps.toList y.cps.toList:=by
   have:=h'.1;rw[ltCps_eq] at this;simpa using this
  rw[Wk];refine U4.mpr ⟨λz hz=>?_,ih⟩;rw[Wk] at hz ih;rcases Wr.mp hz with e | hz
  ·subst e; exact Ct
  ·exact Cp Ct ((List.pairwise_cons.mp ih).1 z hz)
theorem MD:fH X (.builtin "sorted") (λxs H Q=>∃ (a:Addr) (ts:List Tx),xs=[.ref a]/\bW X.K H a (ts.map λz=>V.str (toS z))/\ts.length < 64/\∀ p,H p=none->Q (.ref p) (upd H p (.lst ((iu ts).map λz=>V.str (toS z))))):=by
 intro pins s σ H xs us Q I r h;obtain⟨a,ts,rfl,hq,hz,q⟩:=h;obtain⟨u,rfl,ru⟩:=jq r
 cases ru;obtain⟨ah,r',p,_⟩:=I.list hq;have r2:Vals ((ts.map toS).map V.str) ah:=by rw[WS]; exact r'
 have hlen:=r'.length;rw[Wx] at hlen;refine sorted_strs p.isList (tS r2) (by omega) λout ss hS hp hs=>?_
 have e:ss=(iu ts).map toS:=by
  have ME:(ss.map λz:Str=>z.cps.toList).Pairwise iZ:=by
   cases ss with
   | nil=>simp
   | cons x r=>exact Cs x r hs
  have MF:(ss.map λz:Str=>z.cps.toList).Perm ts:=by
   have:=hp.map λz:Str=>z.cps.toList
   rw[WS] at this;have e2:ts.map ((λz:Str=>z.cps.toList) ∘ toS)=ts:=by
    rw[show((λz:Str=>z.cps.toList) ∘ toS)=id from funext λz=>tG z,List.map_id]
   rw[e2] at this;exact this
  rw[<- MC MF ME,WS];have:(toS ∘ λz:Str=>z.cps.toList)=id:=funext λz=>(B4 z).symm
  rw[this,List.map_id]
 obtain⟨ep,he⟩:=sortedAll_at s.heap ah out;have hv:Vals ((iu ts).map λz=>V.str (toS z)) out.toList:=by
  have:=Cm hS;rw[e,WS] at this;exact this
 have fA:((iu ts).map λz=>V.str (toS z)).length<=Wd:=by
  rw[Wx,(we ts).length_eq];exact WA (Ju hz) (by rw[JJ]; decide)
 refine⟨.ref (s.heap.objs.size + 1),_,I.laid (a:=s.heap.objs.size + 1) (o:=.lst ((iu ts).map λz=>V.str (toS z))) (t':=s.toks) (λb u e=>sortedAll_old e) (Ug _) ?_,rfl,q _ (I.aB.fresh (Ug _))⟩;exact⟨fA,out.toList,ep,hv,by simpa[seqObj] using he⟩
end
def p2(p:D->D->Option S)(x y:D)(δ:Dl):Rs S:=match p x y with
 | some s=>.ok s δ
 | none=>.stuck
def aM(p:D->D->Option S)(fa:DE)(fb:BE):DE:=λδ=>(fa δ).bind λx δ1=>(fb δ1).bind λy δ2=>p2 p x.d y δ2
def aX(p:D->D->Option S)(i:Nat)(fb:BE):DE:=λδ=>(fb δ).bind λy δ1=>(ao i δ1).bind λx δ2=>p2 p x y δ2
def cT(r:R2)(p:D->D->Option S):Prop:=∀ (c:Fc) (σ:St) (δ:Dl) (H:Hp) (x y:V) (d e:D) (s:S) (Q:VK),Ok c σ δ H->cJ c σ δ H x d->cJ c σ δ H y e->p d e=some s ->
 (∀ v H',a7 c σ δ H σ δ H'->bp c σ δ H H' v s->Q v H')->r x y H Q
section
variable {X:Cx} {c:Fc} {a b:Expr} {fa:DE} {fb:BE} {r:R2} {p:D->D->Option S} {pos:Pos}
theorem wg(hp:cT r p)(k:Ok c σ δ H)(rx:cJ c σ δ H x d)(ry:cJ c σ δ H y e)
  (h:post c (p2 p d e δ) λs δ'=>∀ v H',a7 c σ δ H σ δ' H'->bp c σ δ' H H' v s->Q v H'):r x y H Q:=by
 unfold p2 at h
 cases e1:p d e with
 | none=>rw[e1] at h; exact h.elim
 | some s=>rw[e1] at h; exact hp c σ δ H x y d e s Q k rx ry e1 h
theorem tV(hp:cT r p)(h:tD c (aM p fa fb) σ H Q):jo r (tD c fa) (tB c fb) σ H Q:=by
 obtain⟨δ,k,q⟩:=h;refine⟨δ,k,?_⟩;unfold aM at q;rw[a_] at q;refine aO q λx δ1 q1 v H1 a1 r1=>⟨δ1,a1.ok,?_⟩
 rw[a_] at q1;refine aO q1 λy δ2 q2 u H2 a2 r2=>?_
 exact wg hp a2.ok (.inl (Rep.cR r1.rep a2)) r2 (aO q2 λs δ3 q3 v' H3 a3 r3=>q3 v' H3 (a1.trans (a2.trans a3)) (bp.back r3 (a1.trans a2)))
theorem MG(hp:cT r p)(h:tD c (aX p i fb) σ H Q)(hv:∀ δ,Ok c σ δ H->post c (fb δ) (λ_ _=>True)->∃ v,σ[i]? = some (some v)):jo r (cz i) (tB c fb) σ H Q:=by
 obtain⟨δ,k,q⟩:=h;unfold aX at q;rw[a_] at q;obtain⟨v,ev⟩:=hv δ k (aO q λ_ _ _=>trivial);refine⟨v,ev,δ,k,aO q λy δ1 q1 u H1 a1 r1=>?_⟩;rw[a_] at q1;unfold ao at q1
 cases e:δ1[i]? with
 | none=>rw[e] at q1; exact q1.elim
 | some o =>
  cases o with
  | none=>rw[e] at q1; exact q1.elim
  | some w =>
   rw[e] at q1;have wj:post c (p2 p w.d y δ1) λs δ'=>∀ v H',a7 c σ δ H σ δ' H'->bp c σ δ' H H' v s->Q v H':=q1
   have rb:cJ c σ δ1 H1 v w.d:=by
    cases w with
    | pure d =>
     obtain⟨v',e1,r⟩:=a1.ok.slot i d e;rw[ev] at e1; cases e1
     exact .inl r
    | own d =>
     obtain⟨a,e1,r,_⟩:=a1.ok.own i d e;rw[ev] at e1; cases e1
     exact .inr ⟨a,rfl,r⟩
   exact wg hp a1.ok rb r1 (aO wj λs δ3 q3 v' H3 a3 r3=>q3 v' H3 (a1.trans a3) (bp.back r3 a1))
theorem oQ{i:Nat}{σ:St}{δ:Dl}{H:Hp}(k:Ok c σ δ H){w:S}(e:δ[i]? = some (some w)):∃ v,σ[i]? = some (some v):=by
 cases w with
 | pure d=>obtain⟨v,e1,_⟩:=k.slot i d e; exact⟨v,e1⟩
 | own d=>obtain⟨a,e1,_⟩:=k.own i d e; exact⟨_,e1⟩
end
def ag(p:D->D->Option S)(i:Nat)(fb:BE):DE:=λδ=>match δ[i]? with
 | some (some _)=>aX p i fb δ
 | _=>.stuck
section
variable {X:Cx} {c:Fc} {a b:Expr} {fa:DE} {fb:BE} {r:R2} {p:D->D->Option S} {pos:Pos}
theorem tW(hp:cT r p){i:Nat}{σ:St}{H:Hp}{Q:VK}(h:tD c (ag p i fb) σ H Q):jo r (cz i) (tB c fb) σ H Q:=by
 obtain⟨δ,k,q⟩:=h;unfold ag at q
 cases e:δ[i]? with
 | none=>rw[e] at q; exact q.elim
 | some o =>
  cases o with
  | none=>rw[e] at q; exact q.elim
  | some w =>
   rw[e] at q;obtain⟨v,ev⟩:=oQ k e;exact MG hp (i:=i) ⟨δ,k,q⟩ λ_ _ _=>⟨v,ev⟩
theorem cM{op:Operator}(ho:bN X (Qg op) r)(hp:cT r p)(ha:SE X c a fa)(hb:SB X c b fb):SE X c (.BinOp a op b pos) (aM p fa fb):=PE.weak (vy ho ha hb) λ_ _ _ h=>tV hp h
theorem dX{op:Operator}{i:Nat}(ho:bN X (Qg op) r)(hp:cT r p)(ha:PE X a (cz i))(hb:SB X c b fb):SE X c (.BinOp a op b pos) (ag p i fb):=PE.weak (vy ho ha hb) λ_ _ _ h=>tW hp h
theorem MH{op:CmpOp}(ho:bN X (WT op) r)(hp:cT r p)(ha:SE X c a fa)(hb:SB X c b fb)(hm:QA op b=false):SE X c (.Compare a [op] [b] pos) (aM p fa fb):=PE.weak (AX ho ha hb hm) λ_ _ _ h=>tV hp h
theorem l6{op:CmpOp}{i:Nat}(ho:bN X (WT op) r)(hp:cT r p)(ha:PE X a (cz i))(hb:SB X c b fb)(hm:QA op b=false):SE X c (.Compare a [op] [b] pos) (ag p i fb):=PE.weak (AX ho ha hb hm) λ_ _ _ h=>tW hp h
theorem oR(hr:ir X r)(hp:cT r p)(ha:SE X c a fa)(hb:SB X c b fb)(hs:oI b):SE X c (.Subscript a b pos) (aM p fa fb):=PE.weak (ql hr ha hb hs) λ_ _ _ h=>tV hp h
theorem bG{i:Nat}(hr:ir X r)(hp:cT r p)(ha:PE X a (cz i))(hb:SB X c b fb)(hs:oI b):SE X c (.Subscript a b pos) (ag p i fb):=PE.weak (ql hr ha hb hs) λ_ _ _ h=>tW hp h
end
abbrev DT:=Dl->Rs Bool
def tT(c:Fc)(f:DT):TT:=λσ H Q=>∃ δ,Ok c σ δ H/\post c (f δ) λb δ'=>∀ H',a7 c σ δ H σ δ' H'->Q b H'
abbrev ST(X:Cx)(c:Fc)(e:Expr)(f:DT):Prop:=PT X e (tT c f)
theorem PT.weak(h:PT X e t)(w:∀ σ H Q,t' σ H Q->t σ H Q):PT X e t':=λpins s σ H Q I q=>h pins s σ H Q I (w σ H Q q)
def aV(f:DE):DT:=λδ=>(f δ).bind λr δ'=>match r with
 | .pure (.bl b)=>.ok b δ'
 | _=>.stuck
section
variable {X:Cx} {c:Fc} {a b:Expr} {fa f:DE} {fb:BE} {r:R2} {p:D->D->Option S} {pos:Pos}
theorem wk(h:tT c (aV f) σ H Q):tD c f σ H λx H'=>∃ k,x = .bl k/\Q k H':=by
 obtain⟨δ,k,q⟩:=h;refine⟨δ,k,?_⟩;unfold aV at q;rw[a_] at q;refine aO q λr δ1 q1 v H1 a1 r1=>?_
 cases r with
 | own d=>exact q1.elim
 | pure d =>
  cases d <;> first | exact q1.elim | skip
  rename_i b
  cases r1;exact⟨b,rfl,q1 H1 a1⟩
theorem nH{op:CmpOp}(ho:bN X (WT op) r)(hp:cT r p)(ha:SE X c a fa)(hb:SB X c b fb)(hm:QA op b=false):ST X c (.Compare a [op] [b] pos) (aV (aM p fa fb)) :=
 PT.weak (AY ho ha hb hm) λσ H Q h=>tV hp (wk h)
theorem nJ{op:CmpOp}{i:Nat}(ho:bN X (WT op) r)(hp:cT r p)(ha:PE X a (cz i))(hb:SB X c b fb)(hm:QA op b=false):ST X c (.Compare a [op] [b] pos) (aV (ag p i fb)) :=
 PT.weak (AY ho ha hb hm) λσ H Q h=>tW hp (wk h)
theorem iw{e:Expr}(h:SE X c e f)(he:∀ whole,isTrue e X.env whole=(do let v <- whole; standAt e.pos; holding [v] (truthy v)):=by intro _; rfl):ST X c e (aV f) :=
 PT.weak (Ip h he) λσ H Q h=>wk h
def kT(t u:DT):DT:=λδ=>(t δ).bind λb δ1=>if b then u δ1 else .ok false δ1
def iy(t u:DT):DT:=λδ=>(t δ).bind λb δ1=>if b then .ok true δ1 else u δ1
def fg(t:DT):DT:=λδ=>(t δ).bind λb δ1=>.ok (!b) δ1
abbrev SW(X:Cx)(c:Fc)(e:Expr)(f:DT):Prop:=PW X e (tT c f)
theorem PW.weak(h:PW X e t)(w:∀ σ H Q,t' σ H Q->t σ H Q):PW X e t':=λwh pins s σ H Q I q=>h wh pins s σ H Q I (w σ H Q q)
variable {t u:DT} {rest:List Expr}
theorem wm(ha:ST X c a t):SW X c (.BoolOp .And [a] pos) t:=Iv ha
theorem qy(ha:ST X c a t):SW X c (.BoolOp .Or [a] pos) t:=Iw ha
theorem wo(ha:ST X c a t)(hb:SW X c (.BoolOp .And (b :: rest) pos) u):SW X c (.BoolOp .And (a :: b :: rest) pos) (kT t u):=PW.weak (Iy ha hb) λσ H Q ⟨δ,k,q⟩=>by
 unfold kT at q;rw[a_] at q;refine⟨δ,k,aO q λx δ1 q1 H1 a1=>?_⟩
 cases x with
 | true=>exact⟨δ1,a1.ok,aO q1 λy δ2 q2 H2 a2=>q2 H2 (a1.trans a2)⟩
 | false=>exact q1 H1 a1
theorem qz(ha:ST X c a t)(hb:SW X c (.BoolOp .Or (b :: rest) pos) u):SW X c (.BoolOp .Or (a :: b :: rest) pos) (iy t u):=PW.weak (pw_or ha hb) λσ H Q ⟨δ,k,q⟩=>by
 unfold iy at q;rw[a_] at q;refine⟨δ,k,aO q λx δ1 q1 H1 a1=>?_⟩
 cases x with
 | false=>exact⟨δ1,a1.ok,aO q1 λy δ2 q2 H2 a2=>q2 H2 (a1.trans a2)⟩
 | true=>exact q1 H1 a1
theorem l7(h:SW X c a t):ST X c a t:=PW.pt h
theorem kU(ha:ST X c a t):ST X c (.UnaryOp .Not a pos) (fg t):=PT.weak (Iz ha) λσ H Q ⟨δ,k,q⟩=>by
 unfold fg at q;rw[a_] at q;exact⟨δ,k,q⟩
def gy(f g:DE):DE:=λδ=>(f δ).bind λr δ1=>match r with
 | .pure (.bl true)=>g δ1
 | .pure (.bl false)=>.ok (.pure (.bl false)) δ1
 | _=>.stuck
def nK(f g:DE):DE:=λδ=>(f δ).bind λr δ1=>match r with
 | .pure (.bl false)=>g δ1
 | .pure (.bl true)=>.ok (.pure (.bl true)) δ1
 | _=>.stuck
def qA(f:DE):DE:=λδ=>(f δ).bind λr δ1=>match r with
 | .pure (.bl b)=>.ok (.pure (.bl (!b))) δ1
 | _=>.stuck
def MI(t:DT)(f g:DE):DE:=λδ=>(t δ).bind λb δ1=>if b then f δ1 else g δ1
variable {g:DE}
theorem oS{op}(h:SE X c a f):SE X c (.BoolOp op [a] pos) f:=ID h
theorem qB(ha:SE X c a f)(hb:SE X c (.BoolOp .And (b :: rest) pos) g):SE X c (.BoolOp .And (a :: b :: rest) pos) (gy f g):=PE.weak (IE ha hb) λσ H Q ⟨δ,k,q⟩=>by
 unfold gy at q;rw[a_] at q;refine⟨δ,k,aO q λr δ1 q1 v H1 a1 r1=>?_⟩
 cases r with
 | own d=>exact q1.elim
 | pure d =>
  cases d <;> first | exact q1.elim | skip
  rename_i b
  cases r1;refine⟨b,rfl,?_⟩
  cases b with
  | true=>exact⟨δ1,a1.ok,aO q1 λy δ2 q2 v H2 a2 r2=>q2 v H2 (a1.trans a2) (bp.back r2 a1)⟩
  | false=>exact q1 _ H1 a1 (.bl false)
theorem Cu(ha:SE X c a f)(hb:SE X c (.BoolOp .Or (b :: rest) pos) g):SE X c (.BoolOp .Or (a :: b :: rest) pos) (nK f g):=PE.weak (IF ha hb) λσ H Q ⟨δ,k,q⟩=>by
 unfold nK at q;rw[a_] at q;refine⟨δ,k,aO q λr δ1 q1 v H1 a1 r1=>?_⟩
 cases r with
 | own d=>exact q1.elim
 | pure d =>
  cases d <;> first | exact q1.elim | skip
  rename_i b
  cases r1;refine⟨b,rfl,?_⟩
  cases b with
  | false=>exact⟨δ1,a1.ok,aO q1 λy δ2 q2 v H2 a2 r2=>q2 v H2 (a1.trans a2) (bp.back r2 a1)⟩
  | true=>exact q1 _ H1 a1 (.bl true)
theorem Cv(ha:SE X c a f):SE X c (.UnaryOp .Not a pos) (qA f):=PE.weak (IG ha) λσ H Q ⟨δ,k,q⟩=>by
 unfold qA at q;rw[a_] at q;refine⟨δ,k,aO q λr δ1 q1 v H1 a1 r1=>?_⟩
 cases r with
 | own d=>exact q1.elim
 | pure d =>
  cases d <;> first | exact q1.elim | skip
  rename_i b
  cases r1;exact⟨b,rfl,q1 _ H1 a1 (.bl _)⟩
end
section
variable {c:Fc} {σ:St} {δ:Dl} {H:Hp} {x:V}
theorem cJ.int(h:cJ c σ δ H x (.int i)):x = .int i:=by
 rcases h with h | ⟨_,_,h⟩
 ·cases h; rfl
 ·exact h.elim
theorem cJ.bl(h:cJ c σ δ H x (.bl b)):x = .bl b:=by
 rcases h with h | ⟨_,_,h⟩
 ·cases h; rfl
 ·exact h.elim
theorem cJ.str(h:cJ c σ δ H x (.str z)):x = .str (toS z):=by
 rcases h with h | ⟨_,_,h⟩
 ·cases h; rfl
 ·exact h.elim
theorem cJ.tup(h:cJ c σ δ H x (.tup ds)):∃ a vs,x = .ref a/\H a=some (.tup vs)/\aG H (Av c σ δ) vs ds:=by
 rcases h with h | ⟨_,_,h⟩
 ·cases h with
  | tup h1 h2 h3 h4=>exact⟨_,_,rfl,h2,h3,h4⟩
 ·exact h.elim
theorem cJ.lst(h:cJ c σ δ H x (.lst ds)):∃ a vs,x = .ref a/\Rd H a (.lst vs)/\aG H (Av c σ δ) vs ds:=by
 rcases h with h | ⟨a,e,h⟩
 ·cases h with
  | lst h1 h2 h3 h4=>exact⟨_,_,rfl,h2,h3,h4⟩
 ·obtain⟨vs,h1,h2⟩:=h;exact⟨a,vs,e,.inl h1,h2⟩
theorem cJ.aJ(h:cJ c σ δ H x (.aJ ds)):∃ a ws,x = .ref a/\H a=some (.dK ws)/\ws.map (·.1)=ds.map (λp=>eQ p.1)/\∀ (i:Nat) p q,ws[i]? = some p->ds[i]? = some q->Rep H (Av c σ δ) p.2 q.2:=by
 rcases h with h | ⟨a,e,h⟩
 ·cases h with
  | aJ h1 h2 h3 h4=>exact⟨_,_,rfl,h2,h3,h4⟩
 ·obtain⟨ws,h1,h2,h3⟩:=h;exact⟨a,ws,e,h1,h2,h3⟩
end
theorem Cw(h:z.length<=Wd):(toS z).length<=Wd:=by rw[jy]; exact h
theorem MJ(x y:Tx):toS x ++ toS y=toS (x ++ y):=by
 show Str.append (toS x) (toS y)=_;simp[toS,Str.append]
def aN:D->D->Option S
 | .int i,.int j=>some (.pure (.int (i + j)))
 | .str x,.str y=>if x.length + y.length<=Wd then some (.pure (.str (x ++ y))) else none
 | .tup xs,.tup ys=>if xs.length + ys.length<=Wd then some (.pure (.tup (xs ++ ys))) else none
 | .lst xs,.lst ys=>if xs.length + ys.length<=Wd then some (.own (.lst (xs ++ ys))) else none
 | _,_=>none
def Cy(K:W3):R2:=λx y H Q=>iq (λi j=>V.int (i + j)) x y H Q\/(∃ i j,x = .str i/\y = .str j/\i.length + j.length<=Wd/\Q (.str (i ++ j)) H) \/
 (∃ a b ys,x = .ref a/\y = .ref b/\cH K H a []/\cH K H b ys/\Q (.ref b) H)\/Bi K x y H Q\/Ck K x y H Q
theorem dY:bN X (Qg .Add) (Cy X.K):=AS.or (Kp.or (Mx.or (K0.or My)))
theorem dZ{K:W3}:cT (Cy K) aN:=by
 intro c σ δ H x y d e s Q k rx ry hp q
 cases d <;> cases e <;> first
  | (simp[aN] at hp; done)
  | skip
 ·rename_i i j;simp only[aN,Wc] at hp;subst hp;exact .inl ⟨i,j,rx.int,ry.int,q _ H (.refl k) (.int _)⟩
 ·rename_i u w;simp only[aN] at hp;split at hp
  ·rename_i hz;simp only[Wc] at hp;subst hp;refine .inr (.inl ⟨toS u,toS w,rx.str,ry.str,by rw[jy,jy]; exact hz,?_⟩);rw[MJ];exact q _ H (.refl k) (.str _)
  ·cases hp
 ·rename_i us ws;simp only[aN] at hp;split at hp
  ·rename_i hz;simp only[Wc] at hp;subst hp;obtain⟨a,vs,ea,ha,ra⟩:=rx.tup;obtain⟨b,zs,eb,hb,rb⟩:=ry.tup
   cases vs with
   | nil =>
    have:us=[]:=by have:=ra.1; simpa using this.symm
    subst this;refine .inr (.inr (.inl ⟨a,b,zs,ea,eb,.of ha,.of hb,?_⟩));rw[eb] at ry;rcases ry with ry | ⟨_,_,ry⟩
    ·exact q _ H (.refl k) ry
    ·exact ry.elim
   | cons v0 vr =>
    refine .inr (.inr (.inr (.inl ⟨a,b,_,zs,ea,eb,.of ha,.of hb,by simp,by rw[ra.1,rb.1]; exact hz,λe0=>?_,λ_ p hp=>?_⟩)))
    ·subst e0;have:ws=[]:=by have:=rb.1; simpa using this.symm
     subst this;rw[ea] at rx;rcases rx with rx | ⟨_,_,rx⟩
     ·rw[Jg] at q;exact q _ H (.refl k) rx
     ·exact rx.elim
    ·exact q _ _ (.alloc k hp _) (bp.nE k (ra.append rb) hp)
  ·cases hp
 ·rename_i us ws;simp only[aN] at hp;split at hp
  ·rename_i hz;simp only[Wc] at hp;subst hp;obtain⟨a,vs,ea,ha,ra⟩:=rx.lst;obtain⟨b,zs,eb,hb,rb⟩:=ry.lst;exact .inr (.inr (.inr (.inr ⟨a,b,vs,zs,ea,eb,.inl ha,.inl hb,by rw[ra.1,rb.1]; exact hz,λp hp=>q _ _ (.alloc k hp _) (bp.oN k (ra.append rb) hp)⟩)))
  ·cases hp
def fB(C:Int->Int->Bool)(g:Int->Int->D):D->D->Option S
 | .int i,.int j=>if C i j then some (.pure (g i j)) else none
 | _,_=>none
theorem oT(hC:∀ i j,C' i j=true->C i j)(hg:∀ i j H O,Rep H O (g i j) (g' i j)):cT (rI C g) (fB C' g'):=by
 intro c σ δ H x y d e s Q k rx ry hp q
 cases d <;> cases e <;> first
  | (simp[fB] at hp; done)
  | skip
 rename_i i j;simp only[fB] at hp;split at hp
 ·rename_i hc;simp only[Wc] at hp;subst hp;exact⟨i,j,rx.int,ry.int,hC i j hc,q _ H (.refl k) (hg i j H _)⟩
 ·cases hp
theorem MK(hg:∀ i j H O,Rep H O (g i j) (g' i j)):cT (iq g) (fB (λ_ _=>true) g'):=by
 intro c σ δ H x y d e s Q k rx ry hp q
 cases d <;> cases e <;> first
  | (simp[fB] at hp; done)
  | skip
 rename_i i j;simp only[fB,if_true,Wc] at hp;subst hp;exact⟨i,j,rx.int,ry.int,q _ H (.refl k) (hg i j H _)⟩
def nL:=fB (λ_ _=>true) λi j=>.int (i - j)
theorem Cz:cT (iq λi j=>V.int (i - j)) nL:=MK λ_ _ _ _=>.int _
def j9(i j:Int):Bool:=(decide (-(2 ^ 64) < i) && decide (i < 2 ^ 64)) || (decide (-(2 ^ 64) < j) && decide (j < 2 ^ 64))
def qC:=fB j9 λi j=>.int (i * j)
theorem ML:cT (rI qf λi j=>V.int (i * j)) qC:=oT (λi j h=>by
 unfold j9 at h;simp only[Bool.or_eq_true,Ws,decide_eq_true_eq] at h;exact h) λ_ _ _ _=>.int _
def nM(_ j:Int):Bool:=decide (0 < j) && decide (j < 1073741824)
def gi:=fB nM λi j=>.int (i / j)
theorem qD:cT (rI AO λi j=>V.int (i / j)) gi:=oT (λi j h=>by
 unfold nM at h;simp only[Ws,decide_eq_true_eq] at h;exact h) λ_ _ _ _=>.int _
def fj:=fB (λ_ j=>decide (0 < j)) λi j=>.int (i % j)
theorem kW:cT (rI (λ_ j=>0 < j) λi j=>V.int (i % j)) fj:=oT (λi j h=>by simpa using h) λ_ _ _ _=>.int _
def wq(i j:Int):Bool:=decide (0<=j) && decide (j<=1000000) && decide (i.natAbs < 2 ^ 64)
def wt:=fB wq λi j=>.int (i ^ j.toNat)
theorem MN:cT (rI AQ λi j=>V.int (i ^ j.toNat)) wt:=oT (λi j h=>by
 unfold wq at h;simp only[Ws,decide_eq_true_eq] at h;exact⟨h.1.1,h.1.2,h.2⟩) λ_ _ _ _=>.int _
def cn(d e:D):Option S:=if flat 50 d && flat 50 e then some (.pure (.bl (aD d e))) else none
def hU(d e:D):Option S:=if flat 50 d && flat 50 e then some (.pure (.bl (!aD d e))) else none
theorem j_:cT Cb cn:=by
 intro c σ δ H x y d e s Q k rx ry hp q;unfold cn at hp;split at hp
 ·rename_i hf;rw[Ws] at hf;simp only[Wc] at hp;subst hp;exact⟨d,e,rx.un,ry.un,hf.1,hf.2,q _ H (.refl k) (.bl _)⟩
 ·cases hp
theorem CA:cT Cc hU:=by
 intro c σ δ H x y d e s Q k rx ry hp q;unfold hU at hp;split at hp
 ·rename_i hf;rw[Ws] at hf;simp only[Wc] at hp;subst hp;exact⟨d,e,rx.un,ry.un,hf.1,hf.2,q _ H (.refl k) (.bl _)⟩
 ·cases hp
def iA(f:Int->Int->Bool)(g:Tx->Tx->Bool):D->D->Option S
 | .int i,.int j=>some (.pure (.bl (f i j)))
 | .str x,.str y=>some (.pure (.bl (g x y)))
 | _,_=>none
def oU(f:Int->Int->Bool)(g:List Nat->List Nat->Bool):R2:=λx y H Q=>iq (λi j=>V.bl (f i j)) x y H Q\/∃ i j,x = .str i/\y = .str j/\Q (.bl (g i.cps.toList j.cps.toList)) H
theorem l8:cT (oU f g) (iA f g):=by
 intro c σ δ H x y d e s Q k rx ry hp q
 cases d <;> cases e <;> first
  | (simp[iA] at hp; done)
  | skip
 ·rename_i i j;simp only[iA,Wc] at hp;subst hp;exact .inl ⟨i,j,rx.int,ry.int,q _ H (.refl k) (.bl _)⟩
 ·rename_i i j;simp only[iA,Wc] at hp;subst hp;refine .inr ⟨toS i,toS j,rx.str,ry.str,?_⟩;rw[tG,tG];exact q _ H (.refl k) (.bl _)
theorem wu{X:Cx}{op:CmpOp}{g:List Nat->List Nat->Bool}(rule:∀ (i j:Str) (t u:Tok) (Q:Value->W4->Prop) (s:W4),Q (.bool (g i.cps.toList j.cps.toList)) s->W8 (model X.prog X.w) X.A (WT op (.str i t) (.str j u)) Q X.xe s) :
  bN X (WT op) (λx y H Q=>∃ i j,x = .str i/\y = .str j/\Q (.bl (g i.cps.toList j.cps.toList)) H):=by
 intro pins s σ H x y v u Q I rx ry h;obtain⟨i,j,rfl,rfl,q⟩:=h;obtain⟨t,rfl⟩:=rx;obtain⟨t',rfl⟩:=ry;exact rule i j t t' _ s ⟨.bl _,H,I,rfl,q⟩
def ka:=iA (λi j=>decide (i < j)) λx y=>decide (x < y)
theorem wx:bN X (WT .Lt) (oU (λi j=>decide (i < j)) λx y=>decide (x < y)):=Ki.or Km
theorem wz:cT (oU (λi j=>decide (i < j)) λx y=>decide (x < y)) ka:=l8
def aq:D->D->Option S
 | .lst ds,.int i=>(cD ds i).map .pure
 | .tup ds,.int i=>(cD ds i).map .pure
 | .str x,.int i=>if x.length<=Wd then(cD x i).map λn=>.pure (.str [n]) else none
 | _,_=>none
theorem CB(r:aG H O vs ds)(h:cD ds i=some d):∃ v,cD vs i=some v/\Rep H O v d:=by
 unfold cD at h ⊢;rw[r.1]
 cases e:dO ds.length i with
 | none=>rw[e] at h; cases h
 | some j =>
  rw[e] at h;exact r.get h
theorem bz{K:W3}:cT (qm K) aq:=by
 intro c σ δ H x y d e s Q k rx ry hp q
 cases d <;> cases e <;> first
  | (simp[aq] at hp; done)
  | skip
 ·rename_i z i;simp only[aq] at hp;split at hp
  ·rename_i hz
   cases e1:cD z i with
   | none=>rw[e1] at hp; cases hp
   | some n =>
    rw[e1] at hp;simp only[WC,Wc] at hp;subst hp;refine .inr (.inr ⟨toS z,i,n,rx.str,ry.int,Cw hz,by rw[tG]; exact e1,?_⟩);exact q (.str (toS [n])) H (.refl k) (.str [n])
  ·cases hp
 ·rename_i ds i;simp only[aq] at hp
  cases e1:cD ds i with
  | none=>rw[e1] at hp; cases hp
  | some n =>
   rw[e1] at hp;simp only[WC,Wc] at hp;subst hp;obtain⟨a,vs,ea,ha,ra⟩:=rx.tup;obtain⟨v,e2,r2⟩:=CB ra e1;exact .inr (.inl ⟨a,vs,i,v,ea,ry.int,.of ha,e2,q v H (.refl k) r2⟩)
 ·rename_i ds i;simp only[aq] at hp
  cases e1:cD ds i with
  | none=>rw[e1] at hp; cases hp
  | some n =>
   rw[e1] at hp;simp only[WC,Wc] at hp;subst hp;obtain⟨a,vs,ea,ha,ra⟩:=rx.lst;obtain⟨v,e2,r2⟩:=CB ra e1;exact .inl ⟨a,vs,i,v,ea,ry.int,.inl ha,e2,q v H (.refl k) r2⟩
def i3:=iA (λi j=>decide (i<=j)) λx y=>!decide (y < x)
def wA:=iA (λi j=>decide (j < i)) λx y=>decide (y < x)
def CF:=iA (λi j=>decide (j<=i)) λx y=>!decide (x < y)
theorem qE:bN X (WT .LtE) (oU (λi j=>decide (i<=j)) λx y=>!decide (y < x)):=Kj.or (wu (g:=λx y=>!decide (y < x)) λ_ _ _ _ _ _ h=>PySem.P.le_str h)
theorem MO:bN X (WT .Gt) (oU (λi j=>decide (j < i)) λx y=>decide (y < x)):=Kk.or (wu (g:=λx y=>decide (y < x)) λ_ _ _ _ _ _ h=>PySem.P.gt_str h)
theorem MP:bN X (WT .GtE) (oU (λi j=>decide (j<=i)) λx y=>!decide (x < y)):=Kl.or (wu (g:=λx y=>!decide (x < y)) λ_ _ _ _ _ _ h=>PySem.P.ge_str h)
abbrev DA:=Dl->Rs (List D)
def MQ(c:Fc)(f:DA):TA:=λσ H Q=>∃ δ,Ok c σ δ H/\post c (f δ) λds δ'=>∀ vs H',a7 c σ δ H σ δ' H'->aG H' (Av c σ δ') vs ds->Q vs H'
structure SA(X:Cx)(c:Fc)(es:List Expr)(f:DA):Prop where
 pa:PA X es (MQ c f)
 len:∀ δ ds δ',f δ = .ok ds δ'->ds.length=es.length
theorem PA.weak(h:PA X es t)(w:∀ σ H Q,t' σ H Q->t σ H Q):PA X es t':=λpos pins s σ H Q I q=>h pos pins s σ H Q I (w σ H Q q)
def cU:DA:=λδ=>.ok [] δ
def bH(f:DE)(g:DA):DA:=λδ=>(f δ).bind λx δ1=>(g δ1).bind λxs δ2=>.ok (x.d :: xs) δ2
section
variable {X:Cx} {c:Fc} {e:Expr} {es:List Expr} {f:DE} {g:DA} {pos:Pos}
theorem gz:SA X c [] cU:=⟨PA.weak gJ λσ H Q ⟨δ,k,q⟩=>q [] H (.refl k) .nil,λδ ds δ' h=>by cases h; rfl⟩
theorem CG(ha:SE X c e f)(hr:SA X c es g)(hs:Wf (e :: es) X.env=(false,eval e X.env) :: Wf es X.env:=by rfl):SA X c (e :: es) (bH f g):=by
 refine⟨PA.weak (fw ha hr.pa hs) λσ H Q ⟨δ,k,q⟩=>?_,λδ ds δ' h=>?_⟩
 ·unfold bH at q;rw[a_] at q;refine⟨δ,k,aO q λx δ1 q1 v H1 a1 r1=>⟨δ1,a1.ok,?_⟩⟩;rw[a_] at q1;exact aO q1 λxs δ2 q2 vs H2 a2 r2=>q2 (v :: vs) H2 (a1.trans a2) (.cons (Rep.cR r1.rep a2) r2)
 ·unfold bH at h
  cases h1:f δ with
  | ok x δ1 =>
   rw[h1] at h
   cases h2:g δ1 with
   | ok xs δ2 =>
    simp only[Rs.bind,h2] at h
    cases h;simp[hr.len _ _ _ h2]
   | exc x δx=>simp only[Rs.bind,h2] at h; cases h
   | stuck=>simp only[Rs.bind,h2] at h; cases h
  | exc x δx=>rw[h1] at h; cases h
  | stuck=>rw[h1] at h; cases h
def d_(f:DA):DE:=λδ=>(f δ).bind λds δ'=>.ok (.pure (.tup ds)) δ'
def jA(f:DA):DE:=λδ=>(f δ).bind λds δ'=>.ok (.own (.lst ds)) δ'
theorem CH(h:n<=1000):n<=Wd:=Ju (LR h)
theorem CI(h:post c r k):post c r λa δ=>r = .ok a δ/\k a δ:=by
 cases r with
 | ok a δ=>exact⟨rfl,h⟩
 | exc x δx=>exact h
 | stuck=>exact h
theorem jB{x1}(h:SA X c es g)(hz:es.length<=1000:=by decide):SE X c (.Tuple es x1 pos) (d_ g):=PE.weak (Kx h.pa) λσ H Q ⟨δ,k,q⟩=>by
 unfold d_ at q;rw[a_] at q;refine⟨δ,k,aO (CI q) λds δ1 ⟨e1,q1⟩ vs H1 a1 r1=>?_⟩;have hl:=h.len _ _ _ e1;exact⟨by rw[r1.1,hl]; exact CH hz,λp hp=>q1 _ _ (a1.trans (.alloc a1.ok hp _)) (bp.back (bp.nE a1.ok r1 hp) a1)⟩
theorem oV(h:SA X c es g)(hz:es.length<=1000:=by decide):SE X c (.List es pos) (jA g):=PE.weak (Ky h.pa) λσ H Q ⟨δ,k,q⟩=>by
 unfold jA at q;rw[a_] at q;refine⟨δ,k,aO (CI q) λds δ1 ⟨e1,q1⟩ vs H1 a1 r1=>?_⟩;have hl:=h.len _ _ _ e1;exact⟨by rw[r1.1,hl]; exact CH hz,λp hp=>q1 _ _ (a1.trans (.alloc a1.ok hp _)) (bp.back (bp.oN a1.ok r1 hp) a1)⟩
end
def p1(p:D->Option S)(x:D)(δ:Dl):Rs S:=match p x with
 | some s=>.ok s δ
 | none=>.stuck
def bh(p:D->Option S)(fb:BE):DE:=λδ=>(fb δ).bind λx δ1=>p1 p x δ1
def l_(r:V->Hp->VK->Prop)(p:D->Option S):Prop:=∀ (c:Fc) (σ:St) (δ:Dl) (H:Hp) (x:V) (d:D) (s:S) (Q:VK),Ok c σ δ H->cJ c σ δ H x d->p d=some s ->
 (∀ v H',a7 c σ δ H σ δ H'->bp c σ δ H H' v s->Q v H')->r x H Q
section
variable {X:Cx} {c:Fc} {e:Expr} {fb:BE} {r:V->Hp->VK->Prop} {p:D->Option S} {x:Str} {id T:String} {pp pos:Pos}
theorem wD(hp:l_ r p)(k:Ok c σ δ H)(rx:cJ c σ δ H v d)
  (h:post c (p1 p d δ) λs δ'=>∀ v H',a7 c σ δ H σ δ' H'->bp c σ δ' H H' v s->Q v H'):r v H Q:=by
 unfold p1 at h
 cases e1:p d with
 | none=>rw[e1] at h; exact h.elim
 | some s=>rw[e1] at h; exact hp c σ δ H v d s Q k rx e1 h
theorem wF(hp:l_ r p)(h:tD c (bh p fb) σ H Q):Kf r (tB c fb) σ H Q:=by
 obtain⟨δ,k,q⟩:=h;unfold bh at q;rw[a_] at q;exact⟨δ,k,aO q λy δ1 q1 v H1 a1 r1=>wD hp a1.ok r1 (aO q1 λs δ2 q2 w H2 a2 r2=>q2 w H2 (a1.trans a2) (bp.back r2 a1))⟩
theorem tY(hc:fH X (.builtin id) rl)(hl:∀ v H Q,r v H Q->rl [v] H Q)(hp:l_ r p)(hg:Gl X x)(hm:X.mg x=none)(hv:QH x=some (.builtin id))(he:SB X c e fb)
  (hn:x≠"__name__":=by decide) (ju:(x == ("__debug__" : Str))=false:=by decide) (hs:Wf [e] X.env=(false,eval e X.env) :: Wf [] X.env:=by rfl) (c9:(Q5 pos (Wf [] X.env)).any (·.1)=false:=by rfl) :
  SE X c (.Call (.Name x pp) [e] [] pos) (bh p fb):=PE.weak (vE hc hg hm hv (fw he gJ hs) hn ju hs c9) λσ H Q h=>by
 obtain⟨δ,k,q⟩:=wF hp h;exact⟨δ,k,aO q λy δ1 q1 v H1 a1 r1=>hl _ _ _ (q1 v H1 a1 r1)⟩
theorem wG(hc:fH X (.type T) rl)(hl:∀ v H Q,r v H Q->rl [v] H Q)(hp:l_ r p)(hg:Gl X x)(hm:X.mg x=none)(hv:QH x=some (.type T))(he:SB X c e fb)
  (hn:x≠"__name__":=by decide) (ju:(x == ("__debug__" : Str))=false:=by decide) (hs:Wf [e] X.env=(false,eval e X.env) :: Wf [] X.env:=by rfl) (c9:(Q5 pos (Wf [] X.env)).any (·.1)=false:=by rfl) :
  SE X c (.Call (.Name x pp) [e] [] pos) (bh p fb):=PE.weak (KI hc hg hm hv (fw he gJ hs) hn ju hs c9) λσ H Q h=>by
 obtain⟨δ,k,q⟩:=wF hp h;exact⟨δ,k,aO q λy δ1 q1 v H1 a1 r1=>hl _ _ _ (q1 v H1 a1 r1)⟩
def cb:D->Option S
 | .lst ds=>some (.pure (.int ds.length))
 | .tup ds=>some (.pure (.int ds.length))
 | .str z=>if z.length<=Wd then some (.pure (.int z.length)) else none
 | .aJ ds=>some (.pure (.int ds.length))
 | _=>none
def MR(K:W3):V->Hp->VK->Prop:=λv H Q=>((∃ p ys,v = .ref p/\(bW K H p ys\/cH K H p ys)/\Q (.int ys.length) H)\/∃ z,v = .str z/\z.length<=Wd/\Q (.int z.length) H)\/∃ a ae,v=V.ref a/\H a=some (.dK ae)/\Q (.int ae.length) H
theorem MS{K:W3}:l_ (MR K) cb:=by
 intro c σ δ H x d s Q k rx hp q
 cases d with
 | lst ds =>
  simp only[cb,Wc] at hp;subst hp;obtain⟨a,vs,ea,ha,ra⟩:=rx.lst;exact .inl (.inl ⟨a,vs,ea,.inl (.inl ha),by rw[ra.1]; exact q _ H (.refl k) (.int _)⟩)
 | tup ds =>
  simp only[cb,Wc] at hp;subst hp;obtain⟨a,vs,ea,ha,ra⟩:=rx.tup;exact .inl (.inl ⟨a,vs,ea,.inr (.of ha),by rw[ra.1]; exact q _ H (.refl k) (.int _)⟩)
 | str z =>
  simp only[cb] at hp;split at hp
  ·rename_i hz;simp only[Wc] at hp;subst hp;exact .inl (.inr ⟨toS z,rx.str,Cw hz,by rw[jy]; exact q _ H (.refl k) (.int _)⟩)
  ·cases hp
 | aJ ds =>
  simp only[cb,Wc] at hp;subst hp;obtain⟨a,ws,ea,ha,h1,h2⟩:=rx.aJ;have hl:ws.length=ds.length:=by have:=congrArg List.length h1; simpa using this
  exact .inr ⟨a,ws,ea,ha,by rw[hl]; exact q _ H (.refl k) (.int _)⟩
 | _=>simp[cb] at hp
theorem kX (hg:Gl X "len") (hm:X.mg "len" = none) (he:SB X c e fb) (hs:Wf [e] X.env=(false,eval e X.env) :: Wf [] X.env:=by rfl):SE X c (.Call (.Name "len" pp) [e] [] pos) (bh cb fb) :=
 tY ((La.or Lb).or LS) (λv H Q h=>by
  rcases h with (⟨p,ys,e,h⟩ | ⟨z,e,h⟩) | ⟨a,ae,e,h⟩
  ·exact .inl (.inl ⟨p,ys,by rw[e],h⟩)
  ·exact .inl (.inr ⟨z,by rw[e],h⟩)
  ·exact .inr ⟨a,ae,by rw[e],h⟩) (MS (K:=X.K)) hg hm PySem.boot_len he (by decide) (by decide) hs
def iB:D->Option S
 | .lst ds=>some (.pure (.tup ds))
 | .tup ds=>some (.pure (.tup ds))
 | _=>none
def MT(K:W3):V->Hp->VK->Prop:=λv H Q=>∃ p ys,v = .ref p/\((bW K H p ys/\∀ l,H l=none->Q (.ref l) (upd H l (.tup ys)))\/(cH K H p ys/\Q (.ref p) H))
theorem MU{K:W3}:l_ (MT K) iB:=by
 intro c σ δ H x d s Q k rx hp q
 cases d with
 | lst ds =>
  simp only[iB,Wc] at hp;subst hp;obtain⟨a,vs,ea,ha,ra⟩:=rx.lst;exact⟨a,vs,ea,.inl ⟨.inl ha,λl hl=>q _ _ (.alloc k hl _) (bp.nE k ra hl)⟩⟩
 | tup ds =>
  simp only[iB,Wc] at hp;subst hp;obtain⟨a,vs,ea,ha,ra⟩:=rx.tup;refine⟨a,vs,ea,.inr ⟨.of ha,?_⟩⟩;rw[ea] at rx;rcases rx with rx | ⟨_,_,rx⟩
  ·exact q _ H (.refl k) rx
  ·exact rx.elim
 | _=>simp[iB] at hp
theorem wH (hg:Gl X "tuple") (hm:X.mg "tuple" = none) (he:SB X c e fb) (hs:Wf [e] X.env=(false,eval e X.env) :: Wf [] X.env:=by rfl):SE X c (.Call (.Name "tuple" pp) [e] [] pos) (bh iB fb) :=
 wG Lc (λv H Q ⟨p,ys,e,h⟩=>⟨p,ys,by rw[e],h⟩) (MU (K:=X.K)) hg hm PyProof.Rows.boot_tuple he (by decide) (by decide) hs
def gN:D->Option S
 | .int i=>some (.pure (.int i))
 | .bl b=>some (.pure (.int (if b then 1 else 0)))
 | _=>none
theorem CJ (hg:Gl X "int") (hm:X.mg "int" = none) (he:SB X c e fb) (hs:Wf [e] X.env=(false,eval e X.env) :: Wf [] X.env:=by rfl):SE X c (.Call (.Name "int" pp) [e] [] pos) (bh gN fb) :=
 wG (r:=λv H Q=>(∃ i,v = .int i/\Q (.int i) H)\/∃ k,v = .bl k/\Q (.int (if k then 1 else 0)) H) Kr (λv H Q h=>by
  rcases h with ⟨i,e,q⟩ | ⟨k,e,q⟩
  ·exact .inl ⟨i,by rw[e],q⟩
  ·exact .inr ⟨k,by rw[e],q⟩) (λc σ δ H x d s Q k rx hp q=>by
  cases d with
  | int i =>
   simp only[gN,Wc] at hp;subst hp;exact .inl ⟨i,rx.int,q _ H (.refl k) (.int _)⟩
  | bl b =>
   simp only[gN,Wc] at hp;subst hp;exact .inr ⟨b,rx.bl,q _ H (.refl k) (.int _)⟩
  | _=>simp[gN] at hp) hg hm PyProof.Rows.boot_int he (by decide) (by decide) hs
def jC:List D->Option (List Bool)
 | []=>some []
 | .bl b :: r=>(jC r).map (b :: ·)
 | _ :: _=>none
def fR:List D->Option (List Tx)
 | []=>some []
 | .str x :: r=>(fR r).map (x :: ·)
 | _ :: _=>none
theorem CK:∀ {ds:List D} {vs:List V} {bs:List Bool},jC ds=some bs->aG H O vs ds->vs=bs.map V.bl
 | [],vs,bs,h,r=>by
  simp only[jC,Wc] at h;subst h;have:=r.1;simpa using this
 | d :: ds,[],bs,h,r=>by have:=r.1; simp at this
 | d :: ds,v :: vs,bs,h,r=>by
  cases d with
  | bl b =>
   simp only[jC] at h
   cases e:jC ds with
   | none=>rw[e] at h; cases h
   | some bs' =>
    rw[e] at h;simp only[WC,Wc] at h;subst h;have:=r.head
    cases this;rw[CK e r.tail];rfl
  | _=>simp[jC] at h
theorem oW:∀ {ds:List D} {vs:List V} {bs:List Tx},fR ds=some bs->aG H O vs ds->vs=bs.map λz=>V.str (toS z)
 | [],vs,bs,h,r=>by
  simp only[fR,Wc] at h;subst h;have:=r.1;simpa using this
 | d :: ds,[],bs,h,r=>by have:=r.1; simp at this
 | d :: ds,v :: vs,bs,h,r=>by
  cases d with
  | str b =>
   simp only[fR] at h
   cases e:fR ds with
   | none=>rw[e] at h; cases h
   | some bs' =>
    rw[e] at h;simp only[WC,Wc] at h;subst h;have:=r.head
    cases this;rw[oW e r.tail];rfl
  | _=>simp[fR] at h
theorem CL:∀ ts:List Tx,aG H O (ts.map λz=>V.str (toS z)) (ts.map D.str)
 | []=>.nil
 | t :: ts=>.cons (.str t) (CL ts)
def oX:D->Option S
 | .lst ds=>(jC ds).map λbs=>.pure (.bl (bs.all (λb=>b)))
 | _=>none
def oY:D->Option S
 | .lst ds=>match fR ds with
  | some ts=>if ts.length < 64 then some (.own (.lst ((iu ts).map D.str))) else none
  | none=>none
 | _=>none
theorem MV:QH "all" = some (.builtin "all"):=by decide +kernel
theorem MW (hc:X.calm=true) (hg:Gl X "all") (hm:X.mg "all" = none) (he:SB X c e fb) (hs:Wf [e] X.env=(false,eval e X.env) :: Wf [] X.env:=by rfl):SE X c (.Call (.Name "all" pp) [e] [] pos) (bh oX fb) :=
 tY (r:=λv H Q=>∃ (a:Addr) (bs:List Bool),v = .ref a/\bW X.K H a (bs.map V.bl)/\Q (.bl (bs.all (λb=>b))) H) (MA hc) (λv H Q ⟨a,bs,e,h⟩=>⟨a,bs,by rw[e],h⟩) (λc σ δ H x d s Q k rx hp q=>by
  cases d with
  | lst ds =>
   simp only[oX] at hp
   cases e:jC ds with
   | none=>rw[e] at hp; cases hp
   | some bs =>
    rw[e] at hp;simp only[WC,Wc] at hp;subst hp;obtain⟨a,vs,ea,ha,ra⟩:=rx.lst;have:=CK e ra;subst this;exact⟨a,bs,ea,.inl ha,q _ H (.refl k) (.bl _)⟩
  | _=>simp[oX] at hp) hg hm MV he (by decide) (by decide) hs
theorem MX (hg:Gl X "sorted") (hm:X.mg "sorted" = none) (he:SB X c e fb) (hs:Wf [e] X.env=(false,eval e X.env) :: Wf [] X.env:=by rfl):SE X c (.Call (.Name "sorted" pp) [e] [] pos) (bh oY fb) :=
 tY (r:=λv H Q=>∃ (a:Addr) (ts:List Tx),v = .ref a/\bW X.K H a (ts.map λz=>V.str (toS z))/\ts.length < 64/\∀ p,H p=none->Q (.ref p) (upd H p (.lst ((iu ts).map λz=>V.str (toS z))))) MD (λv H Q ⟨a,bs,e,h⟩=>⟨a,bs,by rw[e],h⟩) (λc σ δ H x d s Q k rx hp q=>by
  cases d with
  | lst ds =>
   simp only[oY] at hp
   cases e:fR ds with
   | none=>rw[e] at hp; cases hp
   | some ts =>
    rw[e] at hp;simp only at hp;split at hp
    ·rename_i hz;simp only[Wc] at hp;subst hp;obtain⟨a,vs,ea,ha,ra⟩:=rx.lst;have:=oW e ra;subst this;exact⟨a,ts,ea,.inl ha,hz,λp hp=>q _ _ (.alloc k hp _) (bp.oN k (CL _) hp)⟩
    ·cases hp
  | _=>simp[oY] at hp) hg hm PyProof.Rows.boot_sorted he (by decide) (by decide) hs
def wI:D->D->Option S
 | .int i,.int j=>some (.pure (.int (if j > i then j else i)))
 | _,_=>none
def tZ(f g:DE):DE:=λδ=>(f δ).bind λx δ1=>(g δ1).bind λy δ2=>p2 wI x.d y.d δ2
theorem MY {a b:Expr} {f g:DE} (hc:X.calm=true) (hg:Gl X "max") (hm:X.mg "max" = none) (ha:SE X c a f) (hb:SE X c b g) (hs:Wf [a,b] X.env=(false,eval a X.env) :: Wf [b] X.env:=by rfl)
  (nN:Wf [b] X.env=(false,eval b X.env) :: Wf [] X.env:=by rfl) (c9:(Q5 pos (Wf [b] X.env)).any (·.1)=false:=by rfl):SE X c (.Call (.Name "max" pp) [a,b] [] pos) (tZ f g) :=
 PE.weak (vE (Kq hc) hg hm PyProof.Rows.boot_max (fw ha (fw hb gJ nN) hs) (by decide) (by decide) hs c9) λσ H Q ⟨δ,k,q⟩=>by
  unfold tZ at q;rw[a_] at q;refine⟨δ,k,aO q λx δ1 q1 v H1 a1 r1=>⟨δ1,a1.ok,?_⟩⟩;rw[a_] at q1;refine aO q1 λy δ2 q2 u H2 a2 r2=>?_
  unfold p2 at q2;have hx:cJ c σ δ2 H2 v x.d:=.inl (Rep.cR r1.rep a2);have hy:=r2.b;generalize x.d=dx at q2 hx;generalize y.d=dy at q2 hy
  cases dx <;> cases dy <;> first
   | exact q2.elim
   | skip
  rename_i i j;exact⟨i,j,by rw[hx.int,hy.int],q2 _ H2 (a1.trans a2) (.int _)⟩
def iC(T:String):D->Option Bool
 | .bf=>some (T == "NoneType")
 | .bl _=>some (T == "bool" || T == "int")
 | .int _=>some (T == "int")
 | .str _=>some (T == "str")
 | .tup _=>some (T == "tuple")
 | .lst _=>some (T == "list")
 | .aJ _=>some (T == "dict")
 | .exc _ _=>none
 | .xd _=>none
 | .fn _=>none
 | .dic _=>none
structure iE(K:W3)(T:String):Prop where
 bf:J0 K (.type "NoneType") (.type T)=some (T == "NoneType")
 bl:J0 K (.type "bool") (.type T)=some (T == "bool" || T == "int")
 int:J0 K (.type "int") (.type T)=some (T == "int")
 str:J0 K (.type "str") (.type T)=some (T == "str")
 tup:J0 K (.type "tuple") (.type T)=some (T == "tuple")
 lst:J0 K (.type "list") (.type T)=some (T == "list")
 aJ:J0 K (.type "dict") (.type T)=some (T == "dict")
def fJ(T:String)(fb:BE):DE:=λδ=>(fb δ).bind λd δ'=>match iC T d with
 | some b=>.ok (.pure (.bl b)) δ'
 | none=>.stuck
theorem MZ(ty:iE X.K T)(I:Inv X pins σ H s)(ru:RelV v u)(r:Rep H dP v d)(e:iC T d=some b)(q:Q (.bl b) H) :
  W8 (model X.prog X.w) X.A (call (.builtin "isinstance") [u,.type T]) (EP X pins σ Q) X.xe s:=by
 have fin:∀ tk,EP X pins σ Q (.bool b) { s with toks:=tk }:=λtk=>⟨.bl b,H,I.tok tk,rfl,q⟩
 cases r with
 | bf=>exact lO I ru .bf (ty.bf.trans e) fin
 | bl x=>exact lO I ru (.bl x) (ty.bl.trans e) fin
 | int x=>exact lO I ru (.int x) (ty.int.trans e) fin
 | str x=>exact lO I ru (.str _) (ty.str.trans e) fin
 | tup _ h2 _ _=>exact lO I ru (.tup h2) (ty.tup.trans e) fin
 | lst _ h2 _ _ =>
  rcases h2 with h2 | ⟨o,h2⟩
  ·exact lO I ru (.lst h2) (ty.lst.trans e) fin
  ·exact lO I ru (.frz h2) (ty.lst.trans e) fin
 | aJ _ h2 _ _=>exact lO I ru (.dK h2) (ty.aJ.trans e) fin
 | exc _ _=>cases e
 | xd _ _=>cases e
 | fn _=>cases e
 | dic _=>cases e
theorem M0 (ty:iE X.K T):fH X (.builtin "isinstance") (λxs H Q=>∃ v d b,xs=[v,.ty T]/\Rep H dP v d/\iC T d=some b/\Q (.bl b) H):=by
 intro pins s σ H xs us Q I r h;obtain⟨v,d,b,rfl,rp,e,q⟩:=h;obtain⟨u,w',rfl,r1,r2⟩:=AZ r
 cases r2;exact MZ ty I r1 rp e q
theorem nO {y:Str} {py:Pos} (ty:iE X.K T) (hg:Gl X "isinstance") (hm:X.mg "isinstance" = none) (M3:Gl X y) (M4:X.mg y=none) (M5:QH y=some (.type T)) (he:SB X c e fb)
  (M6:y≠"__name__":=by decide) (M7:(y == ("__debug__" : Str))=false:=by decide)
  (hs:Wf [e,.Name y py] X.env=(false,eval e X.env) :: Wf [.Name y py] X.env:=by rfl) (c9:(Q5 pos (Wf [.Name y py] X.env)).any (·.1)=false:=by rfl) :
  SE X c (.Call (.Name "isinstance" pp) [e,.Name y py] [] pos) (fJ T fb) :=
 PE.weak (vE (M0 ty) hg hm PyProof.Rows.boot_isinstance (fw he (fw (Im (v:=.ty T) M3 M4 M5 rfl M6 M7) gJ) hs) (by decide) (by decide) hs c9) λσ H Q ⟨δ,k,q⟩=>by
  unfold fJ at q;rw[a_] at q;refine⟨δ,k,aO q λd δ1 q1 v H1 a1 r1=>?_⟩
  cases e1:iC T d with
  | none=>rw[e1] at q1; exact q1.elim
  | some b =>
   rw[e1] at q1;exact⟨v,d,b,rfl,r1.un,e1,q1 _ H1 a1 (.bl _)⟩
end
abbrev ma:=Dl->Rs (Option Int)
def M8(c:Fc)(f:ma):TO:=λσ H Q=>∃ δ,Ok c σ δ H/\post c (f δ) λo δ'=>∀ H',a7 c σ δ H σ δ' H'->Q o H'
abbrev SO(X:Cx)(c:Fc)(e:Option Expr)(f:ma):Prop:=PO X e (M8 c f)
theorem PO.weak(h:PO X e t)(w:∀ σ H Q,t' σ H Q->t σ H Q):PO X e t':=λpins s σ H Q I q=>h pins s σ H Q I (w σ H Q q)
def gC:ma:=λδ=>.ok none δ
def eU(f:DE):ma:=λδ=>(f δ).bind λr δ'=>match r with
 | .pure (.int i)=>.ok (some i) δ'
 | _=>.stuck
section
variable {X:Cx} {c:Fc} {e:Expr} {f:DE} {fb:BE} {fl fh:ma} {lo hi:Option Expr} {pos p2:Pos}
theorem t4:SO X c none gC:=PO.weak KS λσ H Q ⟨δ,k,q⟩=>q H (.refl k)
theorem oZ(h:SE X c e f):SO X c (some e) (eU f):=PO.weak (KU h) λσ H Q ⟨δ,k,q⟩=>by
 unfold eU at q;rw[a_] at q;refine⟨δ,k,aO q λr δ1 q1 v H1 a1 r1=>?_⟩
 cases r with
 | own d=>exact q1.elim
 | pure d =>
  cases d <;> first | exact q1.elim | skip
  rename_i i
  cases r1;exact⟨i,rfl,q1 H1 a1⟩
def gO(lo hi:Option Int):D->Option S
 | .str x=>if x.length<=Wd then some (.pure (.str (c_ x lo hi))) else none
 | .tup ds=>some (.pure (.tup (c_ ds lo hi)))
 | .lst ds=>some (.own (.lst (c_ ds lo hi)))
 | _=>none
def CM(K:W3):V->Option Int->Option Int->Hp->VK->Prop:=λx lo hi H Q=>Ci x lo hi H Q\/Cf K x lo hi H Q\/Bp K x lo hi H Q
theorem CN:j5 X (CM X.K):=tR.or (Mv.or K8)
theorem CO{K:W3}(lo hi:Option Int):l_ (λx H Q=>CM K x lo hi H Q) (gO lo hi):=by
 intro c σ δ H x d s Q k rx hp q
 cases d with
 | str z =>
  simp only[gO] at hp;split at hp
  ·rename_i hz;simp only[Wc] at hp;subst hp;exact .inl ⟨z,rx.str,hz,q _ H (.refl k) (.str _)⟩
  ·cases hp
 | tup ds =>
  simp only[gO,Wc] at hp;subst hp;obtain⟨a,vs,ea,ha,ra⟩:=rx.tup;refine .inr (.inl ⟨a,vs,ea,.of ha,λhw=>?_,λ_ p hp=>?_⟩)
  ·rw[ra.1] at hw;rw[Mt hw] at q;rw[ea] at rx;rcases rx with rx | ⟨_,_,rx⟩
   ·exact q _ H (.refl k) rx
   ·exact rx.elim
  ·rw[<- Ce];exact q _ _ (.alloc k hp _) (bp.nE k (ra.cut lo hi) hp)
 | lst ds =>
  simp only[gO,Wc] at hp;subst hp;obtain⟨a,vs,ea,ha,ra⟩:=rx.lst;refine .inr (.inr ⟨a,vs,ea,.inl ha,λp hp=>?_⟩);rw[<- Ce];exact q _ _ (.alloc k hp _) (bp.oN k (ra.cut lo hi) hp)
 | _=>simp[gO] at hp
def qF(f:DE)(fl fh:ma):DE:=λδ=>(f δ).bind λx δ1=>(fl δ1).bind λl δ2=>(fh δ2).bind λh δ3=>p1 (gO l h) x.d δ3
theorem M9(he:SE X c e f)(hl:SO X c lo fl)(hh:SO X c hi fh):SE X c (.Subscript e (.Slice lo hi none p2) pos) (qF f fl fh):=PE.weak (Bg CN he hl hh) λσ H Q ⟨δ,k,q⟩=>by
 unfold qF at q;rw[a_] at q;refine⟨δ,k,aO q λx δ1 q1 v H1 a1 r1=>⟨δ1,a1.ok,?_⟩⟩;rw[a_] at q1;refine aO q1 λl δ2 q2 H2 a2=>⟨δ2,a2.ok,?_⟩
 rw[a_] at q2;refine aO q2 λh δ3 q3 H3 a3=>?_
 exact wD (CO l h) a3.ok (.inl (Rep.cR r1.rep (a2.trans a3))) (aO q3 λs δ4 q4 w H4 a4 r4=>q4 w H4 (a1.trans (a2.trans (a3.trans a4))) (bp.back r4 (a1.trans (a2.trans a3))))
def gj(i:Nat)(fl fh:ma):DE:=λδ=>match δ[i]? with
 | some (some _)=>(fl δ).bind λl δ2=>(fh δ2).bind λh δ3=>(ao i δ3).bind λx δ4=>p1 (gO l h) x δ4
 | _=>.stuck
theorem md{i:Nat}{σ:St}{δ:Dl}{H:Hp}{v:V}{w:S}(k:Ok c σ δ H)(e:δ[i]? = some (some w))(ev:σ[i]? = some (some v)):cJ c σ δ H v w.d:=by
 cases w with
 | pure d =>
  obtain⟨v',e1,r⟩:=k.slot i d e;rw[ev] at e1; cases e1
  exact .inl r
 | own d =>
  obtain⟨a,e1,r,_⟩:=k.own i d e;rw[ev] at e1; cases e1
  exact .inr ⟨a,rfl,r⟩
theorem M_(h:post c ((ao i δ).bind g) kk):∃ w,δ[i]? = some (some w)/\post c (g w.d δ) kk:=by
 unfold ao at h
 cases e:δ[i]? with
 | none=>rw[e] at h; exact h.elim
 | some o =>
  cases o with
  | none=>rw[e] at h; exact h.elim
  | some w=>rw[e] at h; exact⟨w,rfl,h⟩
theorem t5{i:Nat}(he:PE X e (cz i))(hl:SO X c lo fl)(hh:SO X c hi fh):SE X c (.Subscript e (.Slice lo hi none p2) pos) (gj i fl fh):=PE.weak (Bg CN he hl hh) λσ H Q ⟨δ,k,q⟩=>by
 unfold gj at q
 cases e:δ[i]? with
 | none=>rw[e] at q; exact q.elim
 | some o =>
  cases o with
  | none=>rw[e] at q; exact q.elim
  | some w =>
   rw[e] at q;obtain⟨v,ev⟩:=oQ k e;have q':post c ((fl δ).bind λl δ2=>(fh δ2).bind λh δ3=>(ao i δ3).bind λx δ4=>p1 (gO l h) x δ4) λr δ'=>∀ v H',a7 c σ δ H σ δ' H'->bp c σ δ' H H' v r->Q v H':=q
   rw[a_] at q';refine⟨v,ev,δ,k,aO q' λl δ2 q2 H2 a2=>⟨δ2,a2.ok,?_⟩⟩;rw[a_] at q2;refine aO q2 λh δ3 q3 H3 a3=>?_
   obtain⟨w3,e3,q4⟩:=M_ q3;exact wD (CO l h) a3.ok (md a3.ok e3 ev) (aO q4 λs δ4 q4 w H4 a4 r4=>q4 w H4 (a2.trans (a3.trans a4)) (bp.back r4 (a2.trans a3)))
def jE(z:Tx):List Tx->Tx
 | []=>[]
 | [x]=>x
 | x :: y :: r=>x ++ z ++ jE z (y :: r)
theorem CP(z:Tx):∀ (r:List Tx) (acc:Tx),((r.map toS).foldl (λ(acc:Array Nat) p=>acc ++ (toS z).cps ++ p.cps) acc.toArray)=(match r with | []=>acc | x :: r'=>acc ++ z ++ jE z (x :: r')).toArray
 | [],acc=>rfl
 | x :: r,acc=>by
  rw[Wk,JH];have e:acc.toArray ++ (toS z).cps ++ (toS x).cps=(acc ++ z ++ x).toArray:=by simp[toS]
  rw[e,CP z r (acc ++ z ++ x)]
  cases r with
  | nil=>simp[jE]
  | cons y r'=>simp[jE]
theorem Na(z:Tx)(ts:List Tx):Txt.join (toS z) (ts.map toS)=toS (jE z ts):=by
 show Builtin.Str.glued _ _=_;unfold Builtin.Str.glued
 cases ts with
 | nil=>rfl
 | cons x r =>
  rw[Wk];show(⟨(List.foldl _ (toS x).cps (r.map toS))⟩:Str)=_;have:=CP z r x;have e:(toS x).cps=x.toArray:=rfl;rw[e,this]
  cases r with
  | nil=>rfl
  | cons y r'=>rfl
def iF(ts:List Tx):Nat:=(ts.map (·.length)).sum
def dC(z:Tx):D->Option S
 | .lst ds=>match fR ds with
  | some ts=>if iF ts + ts.length * z.length<=16777216 then some (.pure (.str (jE z ts))) else none
  | none=>none
 | .tup ds=>match fR ds with
  | some ts=>if iF ts + ts.length * z.length<=16777216 then some (.pure (.str (jE z ts))) else none
  | none=>none
 | _=>none
theorem Nb{K:W3}(z:Tx):l_ (λx H Q=>tU K (.str (toS z)) [x] H Q) (dC z):=by
 intro c σ δ H x d s Q k rx hp q;have key:∀ (a:Addr) (vs:List V) (ds:List D),x = .ref a->(bW K H a vs\/cH K H a vs)->aG H (Av c σ δ) vs ds->(match fR ds with | some ts=>if iF ts + ts.length * z.length<=16777216 then some (S.pure (.str (jE z ts))) else none | none=>none)=some s->tU K (.str (toS z)) [x] H Q:=by
  intro a vs ds ea ha ra hp
  cases e:fR ds with
  | none=>rw[e] at hp; cases hp
  | some ts =>
   rw[e] at hp;simp only at hp;split at hp
   ·rename_i hz;simp only[Wc] at hp;subst hp;have:=oW e ra;subst this;refine⟨toS z,a,ts.map toS,rfl,by rw[ea],?_,?_,?_⟩
    ·rw[WS]; exact ha
    ·rw[WS,Wx,jy];have:((λx:Str=>x.length) ∘ toS)=λx:Tx=>x.length:=funext λx=>jy x
     rw[this];exact hz
    ·rw[Na];exact q _ H (.refl k) (.str _)
   ·cases hp
 cases d with
 | lst ds =>
  obtain⟨a,vs,ea,ha,ra⟩:=rx.lst;exact key a vs ds ea (.inl (.inl ha)) ra hp
 | tup ds =>
  obtain⟨a,vs,ea,ha,ra⟩:=rx.tup;exact key a vs ds ea (.inr (.of ha)) ra hp
 | _=>simp[dC] at hp
theorem t6{x:Str}{j}{p0 apos aZ:Pos}(z:Tx)(he:SB X c e fb)(hx:x=toS z:=by decide +kernel)
  (kO:Qt (.Constant (.str x) j p0) "join" X.env (eval (.Constant (.str x) j p0) X.env)=eval (.Constant (.str x) j p0) X.env:=by rfl)
  (kP:((Q5 aZ (Wf [e] X.env)).all (λx=>!x.1) && (JK aZ (QR [] X.env)).all (λx=>x.1.isSome)
   && decide ([e].length + ([]:List Keyword).length + (if ([]:List Keyword).isEmpty then 0 else 1) < 30))=true:=by rfl)
  (fQ:(apos.endLine == aZ.line)=true:=by rfl) (hs:Wf [e] X.env=(false,eval e X.env) :: Wf [] X.env:=by rfl) :
  SE X c (.Call (.Attribute (.Constant (.str x) j p0) "join" apos) [e] [] aZ) (bh (dC z) fb):=by
 subst hx;refine PE.weak (sV PySem.F.plainAttrs_str PySem.F.slot_str_join PySem.F.type_str_join Mz As (fw he gJ hs) kO kP fQ hs rfl) λσ H Q h=>?_
 obtain⟨δ,k,q⟩:=wF (r:=λx H Q=>tU X.K (.str (toS z)) [x] H Q) (Nb z) h;refine⟨?_,δ,k,q⟩;show("str" : String) = "str";rfl
end
inductive Fl where
 | next | ret (r:S) | brk | cont
abbrev DS:=Dl->Rs Fl
def fin(c:Fc)(D:Ends)(σ:St)(δ:Dl)(H:Hp):Fl->Prop
 | .next=>D.nx σ H
 | .ret r=>∀ v,bp c σ δ c.H₀ H v r->D.rt v H
 | .brk=>D.bk σ H
 | .cont=>D.ct σ H
def fD(c:Fc)(D:Ends)(σ:St)(δ:Dl)(H:Hp)(r:Rs Fl):Prop:=post c r λfl δ'=>∀ σ' H',a7 c σ δ H σ' δ' H'->fin c D σ' δ' H' fl
def qG(c:Fc)(f:DS):TS:=λD σ H=>∃ δ,Ok c σ δ H/\fD c D σ δ H (f δ)
abbrev SS(X:Cx)(c:Fc)(st:Stmt)(f:DS):Prop:=PS X st (qG c f)
abbrev i4(X:Cx)(c:Fc)(st:List Stmt)(f:DS):Prop:=eX X st (qG c f)
theorem PS.weak{X:Cx}{st:Stmt}{t t':TS}(h:PS X st t)(w:∀ D σ H,t' D σ H->t D σ H):PS X st t':=λpins s σ H D I q=>h pins s σ H D I (w D σ H q)
theorem eX.weak{X:Cx}{st:List Stmt}{t t':TS}(h:eX X st t)(w:∀ D σ H,t' D σ H->t D σ H):eX X st t':=λpins s σ H D I q=>h pins s σ H D I (w D σ H q)
def cV:DS:=λδ=>.ok .next δ
def ay(f g:DS):DS:=λδ=>(f δ).bind λfl δ1=>match fl with
 | .next=>g δ1
 | .ret r=>.ok (.ret r) δ1
 | .brk=>.ok .brk δ1
 | .cont=>.ok .cont δ1
def nP(f:DE):DS:=λδ=>(f δ).bind λ_ δ1=>.ok .next δ1
def bM(f:DE):DS:=λδ=>(f δ).bind λr δ1=>.ok (.ret r) δ1
def da(t:DT)(f g:DS):DS:=λδ=>(t δ).bind λb δ1=>if b then f δ1 else g δ1
def t7:DS:=λ_=>.stuck
def V4(np:List Nat)(i:Nat):DE:=λδ=>match δ[i]? with
 | some (some (.own d))=>if np.contains i then .ok (.pure d) (δ.set i (some (.pure d))) else .ok (.own d) (δ.set i none)
 | some (some (.pure d))=>.ok (.pure d) δ
 | _=>.stuck
section
variable {X:Cx} {c:Fc} {st:Stmt} {CQ:List Stmt} {e a:Expr} {f g:DS} {fe:DE} {t:DT} {pos pos':Pos}
theorem fS:i4 X c [] cV:=eX.weak IK λD σ H ⟨δ,k,q⟩=>q σ H (.refl k)
theorem aU(h1:SS X c st f)(h2:i4 X c CQ g):i4 X c (st :: CQ) (ay f g):=eX.weak (sG h1 h2) λD σ H ⟨δ,k,q⟩=>by
 unfold ay fD at q;rw[a_] at q;refine⟨δ,k,aO q λfl δ1 q1 σ1 H1 a1=>?_⟩
 cases fl with
 | next=>exact⟨δ1,a1.ok,aO q1 λV6 δ2 q2 σ2 H2 a2=>q2 σ2 H2 (a1.trans a2)⟩
 | ret r=>exact q1 σ1 H1 a1
 | brk=>exact q1 σ1 H1 a1
 | cont=>exact q1 σ1 H1 a1
theorem bq(h1:SS X c st f):i4 X c [st] f:=eX.weak (Au h1) λD σ H h=>h
theorem CS:SS X c st t7:=PS.weak IS λD σ H ⟨δ,k,q⟩=>q
theorem cE(he:SE X c e fe):SS X c (.Return (some e) pos) (bM fe):=PS.weak (Ax he) λD σ H ⟨δ,k,q⟩=>by
 unfold bM fD at q;rw[a_] at q;exact⟨δ,k,aO q λr δ1 q1 v H1 a1 r1=>q1 σ H1 a1 v r1.Mj⟩
theorem gk{b1 b2:List Stmt}(ht:ST X c e t)(h1:i4 X c b1 f)(h2:i4 X c b2 g):SS X c (.If e b1 b2 pos) (da t f g):=PS.weak (IP ht h1 h2) λD σ H ⟨δ,k,q⟩=>by
 unfold da fD at q;rw[a_] at q;refine⟨δ,k,aO q λb δ1 q1 H1 a1=>?_⟩
 cases b with
 | true=>exact⟨δ1,a1.ok,aO q1 λfl δ2 q2 σ2 H2 a2=>q2 σ2 H2 (a1.trans a2)⟩
 | false=>exact⟨δ1,a1.ok,aO q1 λfl δ2 q2 σ2 H2 a2=>q2 σ2 H2 (a1.trans a2)⟩
theorem Own.qH(h:Own (σ.set i (some v)) (δ.set i (some r)) b):Own σ δ b\/(v = .ref b/\∃ d,r = .own d):=by
 obtain⟨j,d,e1,e2⟩:=h;by_cases hj:i=j
 ·subst hj;right
  rw[Q7] at e1 e2;simp at e1 e2;obtain⟨_,h1⟩:=e1;obtain⟨_,h2⟩:=e2;exact⟨h2,d,h1⟩
 ·rw[W9 hj] at e1 e2;exact .inl ⟨j,d,e1,e2⟩
theorem Ok.set(x:a7 c σ₀ δ₀ H₁ σ δ H)(hr:bp c σ δ H₁ H v r)(hp:∀ p ∈ c.pin,p.1≠i):a7 c σ₀ δ₀ H₁ (σ.set i (some v)) (δ.set i (some r)) H:=by
 have k:=x.ok;-- all slots avoid the new address,too
 have all:∃ c':Fc,c'.H₀=c.H₀/\c'.pin=c.pin/\Ok c' σ δ H/\(∀ b,Av c (σ.set i (some v)) (δ.set i (some r)) b->Av c' σ δ b):=by
  cases r with
  | pure d =>
   refine⟨c,rfl,rfl,k,λb z=>?_⟩;rcases z with z | z
   ·exact .inl z
   ·rcases z.qH with z | ⟨_,d',e⟩
    ·exact .inr z
    ·cases e
  | own d =>
   obtain⟨a,ea,o,n,f,k2,_⟩:=hr;refine⟨c.plus a,rfl,rfl,k2,λb z=>?_⟩;rcases z with z | z
   ·exact .inl (.inl z)
   ·rcases z.qH with z | ⟨e,_⟩
    ·exact .inr z
    ·rw[ea] at e; cases e
     exact .inl (.inr rfl)
 obtain⟨c',eH,eP,k2,sub⟩:=all;have eI:∀ a,c'.I a ↔ c.I a:=λa=>by unfold Fc.I; rw[eP]
 have Nc:Rep H (Av c (σ.set i (some v)) (δ.set i (some r))) v r.d\/∃ d,r = .own d:=by
  cases r with
  | pure d =>
   left
   refine Rep.aW hr λb z=>?_
   rcases z with z | z
   ·exact .inl (.inl z)
   ·rcases z.qH with z | ⟨_,d',e⟩
    ·exact .inl (.inr z)
    ·cases e
  | own d=>exact .inr ⟨d,rfl⟩
 refine⟨⟨k.keep,k.bd,k.eT,by rw[Q8,Q8]; exact k.len,λj d e=>?_,λj d e=>?_,λj l a d d' e1 e2 e3 e4=>?_,λp hm=>?_⟩,x.keep,λb z=>?_,x.there⟩
 ·by_cases hj:i=j
  ·subst hj;rw[Q7] at e;simp at e;obtain⟨hi,rfl⟩:=e;have gv:i < σ.length:=by rw[<- k.len]; exact hi
   rcases Nc with h | ⟨_,h⟩
   ·exact⟨v,by rw[Wn gv],h⟩
   ·cases h
  ·rw[W9 hj] at e;obtain⟨w,e1,q⟩:=k2.slot j d e;exact⟨w,by rw[W9 hj]; exact e1,q.aW λb z=>.inl (sub b z)⟩
 ·by_cases hj:i=j
  ·subst hj;rw[Q7] at e;simp at e;obtain⟨hi,rfl⟩:=e;have gv:i < σ.length:=by rw[<- k.len]; exact hi
   obtain⟨a,ea,o,n,f,k3,_⟩:=hr;refine⟨a,by rw[Wn gv,ea],o.aW λb z=>.inl ?_,.inr f,n⟩;rcases z with z | z
   ·exact .inl (.inl z)
   ·rcases z.qH with z | ⟨e,_⟩
    ·exact .inr z
    ·rw[ea] at e; cases e
     exact .inl (.inr rfl)
  ·rw[W9 hj] at e;obtain⟨a,e1,q,q2,q3⟩:=k.own j d e;obtain⟨a',e1',q',_,_⟩:=k2.own j d e;rw[e1] at e1'; cases e1'
   exact⟨a,by rw[W9 hj]; exact e1,q'.aW λb z=>.inl (sub b z),q2,q3⟩
 ·by_cases hj:i=j
  ·subst hj;by_cases hl:i=l
   ·exact hl
   ·rw[W9 hl] at e2 e4;rw[Q7] at e1 e3;simp at e1 e3;obtain⟨_,rfl⟩:=e1;obtain⟨_,rfl⟩:=e3;obtain⟨a',ea,o,n,f,k3,_⟩:=hr
    cases ea;exact absurd ⟨l,d',e2,e4⟩ (tH k3)
  ·rw[W9 hj] at e1 e3;by_cases hl:i=l
   ·subst hl;rw[Q7] at e2 e4;simp at e2 e4;obtain⟨_,rfl⟩:=e2;obtain⟨_,rfl⟩:=e4;obtain⟨a',ea,o,n,f,k3,_⟩:=hr
    cases ea;exact absurd ⟨j,d,e1,e3⟩ (tH k3)
   ·rw[W9 hl] at e2 e4;exact k.inj j l a d d' e1 e2 e3 e4
 ·rw[W9 (Ne.symm (hp p hm))];exact k.pinned p hm
 ·rcases z.qH with z | ⟨e,d,ed⟩
  ·exact x.own b z
  ·subst ed;obtain⟨a,ea,_,_,_,_,hs⟩:=hr;rw[ea] at e; cases e
   exact .inr hs
abbrev DG:=S->Dl->Option Dl
def t8(c:Fc)(g:DG):TG:=λv σ H Q=>∃ σ₀ δ₀ H₁ δ r δ',a7 c σ₀ δ₀ H₁ σ δ H/\bp c σ δ H₁ H v r/\g r δ=some δ'/\∀ σ',a7 c σ₀ δ₀ H₁ σ' δ' H->Q σ' H
abbrev SG(X:Cx)(c:Fc)(tg:Expr)(g:DG):Prop:=PG X tg (t8 c g)
def af(np:List Nat)(i:Nat):DG:=λr δ=>if np.contains i then none else some (δ.set i (some r))
def Np(c:Fc)(np:List Nat):Prop:=∀ p ∈ c.pin,np.contains p.1=true
theorem wJ(hp:Np c np)(h:t8 c (af np i) v σ H Q):sH i v σ H Q:=by
 obtain⟨σ₀,δ₀,H₁,δ,r,δ',x,rr,e,q⟩:=h;unfold af at e;split at e
 ·cases e
 ·rename_i hn
  cases e;exact q _ (Ok.set x rr λp hm e=>hn (by rw[<- e]; exact hp p hm))
theorem PG.weak{tg:Expr}{t t':TG}(h:PG X tg t)(w:∀ v σ H Q,t' v σ H Q->t v σ H Q):PG X tg t':=λpins s σ H v u Q I r q=>h pins s σ H v u Q I r (w v σ H Q q)
theorem ip.weak{tg:List Expr}{t t':lM}(h:ip X tg t)(w:∀ v σ H Q,t' v σ H Q->t v σ H Q):ip X tg t':=λpins s σ H v u Q I r q=>h pins s σ H v u Q I r (w v σ H Q q)
theorem cN{np:List Nat}{i:Nat}{x:Str}(hp:Np c np)(hN:X.N.Nodup)(hi:X.N[i]? = some x)(hx:Loc X.env.scope x)(hf:X.fn x=true\/X.env.scope.names.lookup x=some .local):SG X c (.Name x pos) (af np i) :=
 PG.weak (AB hN hi hx hf) λv σ H Q h=>wJ hp h
abbrev i5:=List D->Dl->Option Dl
def Nd(c:Fc)(g:i5):lM:=λvs σ H Q=>∃ δ ds δ',Ok c σ δ H/\aG H (Av c σ δ) vs ds/\g ds δ=some δ'/\∀ σ',a7 c σ δ H σ' δ' H->Q σ' H
abbrev t9(X:Cx)(c:Fc)(tg:List Expr)(g:i5):Prop:=ip X tg (Nd c g)
def bL:i5:=λds δ=>match ds with
 | []=>some δ
 | _=>none
def aI(g:DG)(gs:i5):i5:=λds δ=>match ds with
 | []=>none
 | d :: r=>(g (.pure d) δ).bind λδ1=>gs r δ1
theorem kY:t9 X c [] bL:=ip.weak AF λvs σ H Q ⟨δ,ds,δ',k,r,e,q⟩=>by
 cases ds with
 | nil =>
  cases e;have:vs=[]:=by have:=r.1; simpa using this
  exact⟨this,q σ (.refl k)⟩
 | cons d r=>cases e
theorem fK{es:List Expr}{g:DG}{gs:i5}(h1:SG X c e g)(h2:t9 X c es gs)(hs:(Qd (e :: es) X.env).map (·.2)=assign e X.env :: (Qd es X.env).map (·.2):=by rfl):t9 X c (e :: es) (aI g gs) :=
 ip.weak (AG h1 h2 hs) λvs σ H Q ⟨δ,ds,δ',k,r,e,q⟩=>by
  cases ds with
  | nil=>cases e
  | cons d ds =>
   cases vs with
   | nil=>have:=r.1; simp at this
   | cons v vs =>
    simp only[aI] at e
    cases e1:g (.pure d) δ with
    | none=>rw[e1] at e; cases e
    | some δ1 =>
     rw[e1] at e;refine⟨v,vs,rfl,σ,δ,H,δ,.pure d,δ1,.refl k,r.head,e1,λσ1 a1=>?_⟩;exact⟨δ1,ds,δ',a1.ok,aG.cR r.tail a1,e,λσ2 a2=>q σ2 (a1.trans a2)⟩
def bI(n:Nat)(gs:i5):DG:=λr δ=>match r.d with
 | .tup ds=>if ds.length=n then gs ds δ else none
 | _=>none
theorem kZ{es:List Expr}{k:Nat}{gs:i5}{n:Nat}(hc:X.calm=true)(h:t9 X c es gs)(hn:(Qd es X.env).length=n:=by rfl)(iS:(Qd es X.env).findIdx? (·.1)=none:=by rfl) :
  SG X c (.Tuple es k pos) (bI n gs):=PG.weak (AH hc h hn iS) λv σ H Q hw=>by
 obtain⟨σ₀,δ₀,H₁,δ,r,δ',x,rr,e,q⟩:=hw;have hb:=rr.b;unfold bI at e;generalize r.d=d at e hb
 cases d <;> first | (cases e; done) | skip
 rename_i ds;simp only at e;split at e
 ·rename_i hl;obtain⟨a,vs,ea,ha,ra⟩:=hb.tup;exact⟨a,vs,ea,.of ha,by rw[ra.1]; exact hl,δ,ds,δ',x.ok,ra,e,λσ' a1=>q σ' (x.trans a1)⟩
 ·cases e
def au(f:DE)(g:DG):DS:=λδ=>(f δ).bind λr δ1=>match g r δ1 with
 | some δ2=>.ok .next δ2
 | none=>.stuck
theorem wK{g:DG}{D:Ends}{σ:St}{H:Hp}{te:TE}{tg:TG}(he:∀ σ H Q,tD c fe σ H Q->te σ H Q)(hg:∀ v σ H Q,t8 c g v σ H Q->tg v σ H Q)(h:qG c (au fe g) D σ H):qc te tg D σ H:=by
 obtain⟨δ,k,q⟩:=h;unfold au fD at q;rw[a_] at q;refine he _ _ _ ⟨δ,k,aO q λr δ1 q1 v H1 a1 r1=>hg _ _ _ _ ?_⟩
 cases e:g r δ1 with
 | none=>rw[e] at q1; exact q1.elim
 | some δ2 =>
  rw[e] at q1;exact⟨σ,δ,H,δ1,r,δ2,a1,r1,e,λσ' a2=>q1 σ' H1 a2⟩
theorem wL{tg:Expr}{g:DG}(he:SE X c e fe)(hg:SG X c tg g)(hs:swapsWithSole [tg] e pos.line X.env=pure false:=by rfl)(hw:swappedStores [tg] e X.env=pure none:=by rfl)
  (h1:(Qd [tg] X.env).map (·.2)=[assign tg X.env]:=by rfl):SS X c (.Assign [tg] e pos) (au fe g):=PS.weak (vp he hg hs hw h1) λD σ H h=>wK (λ_ _ _ h=>h) (λ_ _ _ _ h=>h) h
theorem bJ{np:List Nat}{i:Nat}{x:Str}(hp:Np c np)(hN:X.N.Nodup)(hi:X.N[i]? = some x)(hx:Loc X.env.scope x)(he:SE X c e fe)(hs:QX e (some (.Name x pos')) pos.line X.env=pure false)(hf:X.fn x=true\/X.env.scope.names.lookup x=some .local) :
  SS X c (.Assign [.Name x pos'] e pos) (au fe (af np i)):=PS.weak (IX hN hi hx he hs hf) λD σ H h=>wK (λ_ _ _ h=>h) (λ_ _ _ _ h=>wJ hp h) h
theorem Nf(he:SE X c e fe)(hs:∀ (x:Value),QX e none pos.line X.env=pure false:=by intro _; rfl)(hd:True:=trivial)(h:PS X (.Expr e pos) (vo (tD c fe))):SS X c (.Expr e pos) (nP fe):=PS.weak h λD σ H ⟨δ,k,q⟩=>by
 unfold nP fD at q;rw[a_] at q;exact⟨δ,k,aO q λr δ1 q1 v H1 a1 r1=>q1 σ H1 a1⟩
theorem Ok.CU{σ:St}{δ:Dl}{H:Hp}{i:Nat}{ds dW:List D}{a:Addr}{gf:List V}(k:Ok c σ δ H)(e:δ[i]? = some (some (.own (.lst ds))))(ea:σ[i]? = some (some (.ref a)))(r:aG H (Av c σ δ) gf dW) :
  a7 c σ δ H σ (δ.set i (some (.own (.lst dW)))) (upd H a (.lst gf)):=by
 have hi:i < δ.length:=(W6.mp e).1;obtain⟨a',dj,oa,ia,nb⟩:=k.own i _ e;rw[ea] at dj; cases dj
 obtain⟨vs,ha,_⟩:=oa;have me:Own σ δ a:=⟨i,_,e,ea⟩
 have qI:Av c σ δ a:=.inr me;have mf:∀ b,Own σ (δ.set i (some (.own (.lst dW)))) b ↔ Own σ δ b:=λb=>by
  constructor
  ·rintro ⟨j,d,e1,e2⟩;by_cases hj:i=j
   ·subst hj;exact⟨i,_,e,e2⟩
   ·rw[W9 hj] at e1;exact⟨j,d,e1,e2⟩
  ·rintro ⟨j,d,e1,e2⟩;by_cases hj:i=j
   ·subst hj;exact⟨i,_,by rw[Wn hi],e2⟩
   ·exact⟨j,d,by rw[W9 hj]; exact e1,e2⟩
 have jF:∀ b,Av c σ (δ.set i (some (.own (.lst dW)))) b->Av c σ δ b:=λb z=>z.elim .inl λz=>.inr ((mf b).mp z)
 have ne:∀ b,¬ Av c σ δ b->b≠a:=λb n z=>n (by rw[z]; exact qI)
 have kp:∀ b o,H b=some o->¬ Av c σ δ b->upd H a (.lst gf) b=some o:=λb o h n=>by rw[aL (ne b n)]; exact h
 have hV:∀ b o,H b=some o->∃ o',upd H a (.lst gf) b=some o':=λb o h=>by
  by_cases hb:b=a
  ·exact⟨_,by rw[hb]; exact cZ⟩
  ·exact⟨o,by rw[aL hb]; exact h⟩
 refine⟨⟨λb o h n=>?_,λb z=>?_,λb z=>?_,by rw[Q8]; exact k.len,λj d h=>?_,λj d h=>?_,λj l b d d' h1 h2 h3 h4=>?_,k.pinned⟩,λb o h n=>?_,λb z=>.inl ((mf b).mp z),hV⟩
 ·have hb:b≠a:=λz=>by
   subst z;rcases ia with z | z
   ·exact n z
   ·rw[z] at h; cases h
  rw[aL hb];exact k.keep b o h n
 ·obtain⟨o,h⟩:=k.bd b z;exact hV b o h
 ·obtain⟨o,h⟩:=k.eT b z;exact hV b o h
 ·have hj:i≠j:=λz=>by subst z; rw[Wn hi] at h; cases h
  rw[W9 hj] at h;obtain⟨v,h1,h2⟩:=k.slot j d h;exact⟨v,h1,(h2.keep kp).aW λb z=>.inl (jF b z)⟩
 ·by_cases hj:i=j
  ·subst hj;rw[Wn hi] at h
   cases h;exact⟨a,ea,⟨gf,cZ,aG.aW (aG.keep r kp) λb z=>.inl (jF b z)⟩,ia,nb⟩
  ·rw[W9 hj] at h;obtain⟨b,h1,h2,h3,h4⟩:=k.own j d h;have hb:b≠a:=λz=>by subst z; exact hj (k.inj i j b _ d e h ea h1)
   exact⟨b,h1,(h2.keep kp λo q=>by rw[aL hb]; exact q).aW λb z=>.inl (jF b z),h3,h4⟩
 ·have f1:∃ d,δ[j]? = some (some (.own d)):=by
   by_cases hj:i=j
   ·subst hj; exact⟨_,e⟩
   ·rw[W9 hj] at h1; exact⟨d,h1⟩
  have f2:∃ d,δ[l]? = some (some (.own d)):=by
   by_cases hj:i=l
   ·subst hj; exact⟨_,e⟩
   ·rw[W9 hj] at h2; exact⟨d',h2⟩
  obtain⟨_,f1⟩:=f1;obtain⟨_,f2⟩:=f2;exact k.inj j l b _ _ f1 f2 h3 h4
 ·have hb:b≠a:=λz=>n (by rw[z]; exact me)
  rw[aL hb]; exact h
def kb(δ:Dl)(i:Nat):Bool:=match δ[i]? with
 | some (some (.own (.lst _)))=>true
 | _=>false
def putL(δ:Dl)(i:Nat)(f:List D->Option (List D)):Rs Fl:=match δ[i]? with
 | some (some (.own (.lst ds)))=>match f ds with
  | some dW=>.ok .next (δ.set i (some (.own (.lst dW))))
  | none=>.stuck
 | _=>.stuck
theorem CV(h:kb δ i=true):∃ ds,δ[i]? = some (some (.own (.lst ds))):=by
 unfold kb at h;split at h
 ·rename_i ds e; exact⟨ds,e⟩
 ·cases h
theorem CW{δ:Dl}{i:Nat}{g:List D->Option (List D)}{kk:Fl->Dl->Prop}(h:post c (putL δ i g) kk):∃ ds dW,δ[i]? = some (some (.own (.lst ds)))/\g ds=some dW/\kk .next (δ.set i (some (.own (.lst dW)))):=by
 unfold putL at h;split at h
 ·rename_i ds e;split at h
  ·rename_i dW e2;exact⟨ds,dW,e,e2,h⟩
  ·exact h.elim
 ·exact h.elim
def fT(i:Nat)(f:DE):DS:=λδ=>if kb δ i then(f δ).bind λr δ1=>putL δ1 i λds=>if ds.length < Wd then some (ds ++ [r.d]) else none else .stuck
theorem Ng{i:Nat}{o:Expr}{p0 apos aZ:Pos}(ho:PE X o (cz i))(he:SE X c e fe)
  (h:PS X (.Expr (.Call (.Attribute o "append" apos) [e] [] aZ) pos) (vo (Bs X.K "list" Bt (cz i) (A3 (tD c fe) A2)))):SS X c (.Expr (.Call (.Attribute o "append" apos) [e] [] aZ) pos) (fT i fe) :=
 PS.weak h λD σ H ⟨δ,k,q⟩=>by
  unfold fT fD at q;split at q
  ·rename_i i6;obtain⟨ds0,e0⟩:=CV i6;rw[a_] at q;obtain⟨a,ea,oa,_⟩:=k.own i _ e0;refine⟨.ref a,ea,?_,δ,k,aO q λr δ1 q1 v H1 a1 r1=>?_⟩
   ·obtain⟨vs,ha,_⟩:=oa;exact .inl ⟨rfl,vs,.of ha⟩
   ·obtain⟨ds,dW,e1,e2,q2⟩:=CW q1;split at e2
    ·rename_i hz
     cases e2;obtain⟨a',dj,oa1,_⟩:=a1.ok.own i _ e1;rw[ea] at dj; cases dj
     obtain⟨vs,ha,ra⟩:=id oa1;refine⟨a,vs,v,rfl,rfl,ha,by rw[ra.1]; exact hz,?_⟩;exact q2 σ _ (a1.trans (Ok.CU a1.ok e1 ea (ra.append (.cons r1.rep .nil))))
    ·cases e2
  ·exact q.elim
def o_(i:Nat)(fi:DE)(fe:DE):DS:=λδ=>if kb δ i then(fe δ).bind λr δ1=>(fi δ1).bind λk δ2=>match k with
 | .pure (.int j)=>putL δ2 i λds=>(dO ds.length j).map λn=>ds.set n r.d
 | _=>.stuck else .stuck
theorem CY{i:Nat}{o ix:Expr}{fi:DE}{sp:Pos}(ho:PE X o (cz i))(hi:SE X c ix fi)(he:SE X c e fe)
  (ha:∀ v,assign (.Subscript o ix sp) X.env v=(do
   let ov <- holding [v] (eval o X.env)
   let iv <- holding [v,ov] (eval ix X.env)
   standAt sp
   holding [v,ov,iv] (setItem ov iv v)
   release [v,ov,iv] []):=by intro _; rfl)
  (hs:swapsWithSole [.Subscript o ix sp] e pos.line X.env=pure false:=by rfl) (hw:swappedStores [.Subscript o ix sp] e X.env=pure none:=by rfl)
  (h1:(Qd [.Subscript o ix sp] X.env).map (·.2)=[assign (.Subscript o ix sp) X.env]:=by rfl):SS X c (.Assign [.Subscript o ix sp] e pos) (o_ i fi fe) :=
 PS.weak (vp he (AJ ho hi Bo ha) hs hw h1) λD σ H ⟨δ,k,q⟩=>by
  unfold o_ fD at q;split at q
  ·rename_i i6;obtain⟨ds0,e0⟩:=CV i6;rw[a_] at q;obtain⟨a,ea,_,_⟩:=k.own i _ e0;refine⟨δ,k,aO q λr δ1 q1 v H1 a1 r1=>⟨.ref a,ea,δ1,a1.ok,?_⟩⟩;rw[a_] at q1;refine aO q1 λkx δ2 q2 u H2 a2 r2=>?_
   cases kx with
   | own d=>exact q2.elim
   | pure d =>
    cases d <;> first | exact q2.elim | skip
    rename_i j
    cases r2;obtain⟨ds,dW,e1,e2,q3⟩:=CW q2
    cases e3:dO ds.length j with
    | none=>rw[e3] at e2; cases e2
    | some n =>
     rw[e3] at e2
     cases e2;obtain⟨a',dj,oa1,_⟩:=a2.ok.own i _ e1;rw[ea] at dj; cases dj
     obtain⟨vs,ha,ra⟩:=id oa1;refine⟨a,vs,j,n,rfl,rfl,ha,by rw[ra.1]; exact e3,?_⟩;exact q3 σ _ (a1.trans (a2.trans (Ok.CU a2.ok e1 ea (ra.set (Rep.cR r1.rep a2) n))))
  ·exact q.elim
end
abbrev DI:=Dl->Rs (List D)
def nQ(c:Fc)(σ:St)(δ:Dl)(H:Hp)(J:It)(ds:List D):Prop:=∀ H2,(∀ a o,H a=some o->¬ Own σ δ a->H2 a=some o)->J.stop ds.length H2 /\
 ∀ (i:Nat) d,ds[i]? = some d->J.go i H2/\∀ x H3,J.qd i H2 x H3->(H3=H2/\Rep H (Av c σ δ) x d) \/
  ∃ p vs es,H2 p=none/\H3=upd H2 p (.tup vs)/\x = .ref p/\d = .tup es/\aG H (Av c σ δ) vs es
def tI(c:Fc)(f:DI):TI:=λσ H R=>∃ δ,Ok c σ δ H/\post c (f δ) λds δ'=>∀ J H',a7 c σ δ H σ δ' H'->nQ c σ δ' H' J ds->R J H'
abbrev SI(X:Cx)(c:Fc)(tg iter:Expr)(f:DI):Prop:=PI X tg iter (tI c f)
theorem PI.weak(h:PI X tg iter t)(w:∀ σ H R,t' σ H R->t σ H R):PI X tg iter t':=λpins s σ H R I q=>h pins s σ H R I (w σ H R q)
section
variable {X:Cx} {c:Fc} {tg e:Expr} {fe:DE} {pos pp:Pos}
theorem Nh(K:W3)(h:H a=some (.tup vs))(n:¬ Own σ δ a)(r:aG H (Av c σ δ) vs ds):nQ c σ δ H (sL K a) ds:=by
 intro H2 kp;have h2:=kp a _ h n;refine⟨⟨vs,.of h2,by rw[r.1]; exact Wh _⟩,λi d e=>?_⟩;obtain⟨v,ev,rv⟩:=r.get e;refine⟨⟨vs,v,.of h2,ev⟩,λx H3 ⟨e3,y⟩=>.inl ⟨e3,?_⟩⟩;have:=y vs (.of h2);rw[ev] at this
 cases this;exact rv
def bT(lo:Int)(n:Nat):List D:=(Qb n).map λk:Nat=>D.int (lo + k)
theorem Ni{lo:Int}{n i:Nat}{d:D}(h:(bT lo n)[i]? = some d):i < n/\d = .int (lo + i):=by
 unfold bT at h;rw[Wv] at h;by_cases hi:i < n
 ·rw[List.getElem?_range hi] at h;simp at h;exact⟨hi,h.symm⟩
 ·rw[WY (by simpa using hi)] at h
  cases h
theorem Nj(lo:Int)(n:Nat):nQ c σ δ H (sM lo n) (bT lo n):=by
 intro H2 kp;refine⟨by show n<=(bT lo n).length; simp[bT],λi d e=>?_⟩;obtain⟨hi,rfl⟩:=Ni e;exact⟨hi,λx H3 ⟨e3,ex⟩=>.inl ⟨e3,by rw[ex]; exact .int _⟩⟩
def pb(j:Int):Bool:=decide (-(2 ^ 62)<=j) && decide (j < 2 ^ 62)
def dE(f:DE):DI:=λδ=>(f δ).bind λr δ1=>match r with
 | .pure (.int j)=>if pb j then .ok (bT 0 j.toNat) δ1 else .stuck
 | _=>.stuck
theorem jG (hg:Gl X "range") (hm:X.mg "range" = none) (he:SE X c e fe) (hs:Wf [e] X.env=[(false,eval e X.env)]:=by rfl):SI X c tg (.Call (.Name "range" pp) [e] [] pos) (dE fe) :=
 PI.weak (Kb hg hm (fw he gJ hs) hs) λσ H R ⟨δ,k,q⟩=>by
  unfold dE at q;rw[a_] at q;refine⟨δ,k,aO q λr δ1 q1 v H1 a1 r1=>?_⟩
  cases r with
  | own d=>exact q1.elim
  | pure d =>
   cases d <;> first | exact q1.elim | skip
   rename_i j
   cases r1;simp only at q1;split at q1
   ·rename_i hj;unfold pb at hj;simp only[Ws,decide_eq_true_eq] at hj;exact⟨j,rfl,hj.1,hj.2,q1 _ H1 a1 (Nj 0 j.toNat)⟩
   ·exact q1.elim
def forL(g:DG)(b:DS):List D->DS
 | [],δ=>.ok .next δ
 | d :: r,δ=>match g (.pure d) δ with
  | none=>.stuck
  | some δ1=>(b δ1).bind λfl δ2=>match fl with
   | .next=>forL g b r δ2
   | .cont=>forL g b r δ2
   | .brk=>.ok .next δ2
   | .ret v=>.ok (.ret v) δ2
def cF(it:DI)(g:DG)(b:DS):DS:=λδ=>(it δ).bind λds δ1=>forL g b ds δ1
theorem CZ(io:nQ c σ δ H J ds)(a:a7 c σ δ H σ2 δ2 H2)(e:ds[i]? = some d)(y:J.qd i H2 x H3):a7 c σ2 δ2 H2 σ2 δ2 H3/\Rep H3 (Av c σ2 δ2) x d:=by
 obtain⟨_,t⟩:=io H2 a.keep;rcases (t i d e).2 x H3 y with ⟨e3,r⟩ | ⟨p,vs,es,hp,e3,ex,ed,r⟩
 ·subst e3;exact⟨.refl a.ok,Rep.cR r a⟩
 ·subst e3 ex ed;have:=bp.nE a.ok (aG.cR r a) hp;exact⟨.alloc a.ok hp _,this⟩
theorem fL{iter:Expr}{body:List Stmt}{it:DI}{g:DG}{b:DS}(hp:PassesOwn (model X.prog X.w) X.A X.env X.xe)(hc:X.calm=true)(hi:SI X c tg iter it)(hg:SG X c tg g)(hb:i4 X c body b)
  (hs:∀ x,QW iter X.env x=pure x:=by intro _; rfl):SS X c (.For tg iter body [] pos) (cF it g b):=PS.weak (AM hp hc hi hg hb hs) λD σ H ⟨δ,k,q⟩=>by
 unfold cF fD at q;rw[a_] at q;refine⟨δ,k,aO q λds δ1 q1 J H1 a1 io=>?_⟩;refine⟨λi m σ2 H2=>∃ δ2,m=ds.length - i/\i<=ds.length/\a7 c σ δ1 H1 σ2 δ2 H2/\fD c D σ2 δ2 H2 (forL g b (ds.drop i) δ2),⟨ds.length,δ1,by simp,QB _,.refl a1.ok,?_⟩,?_⟩
 ·rw[List.drop_zero];exact aO q1 λfl δ2 q2 σ2 H2 a2=>q2 σ2 H2 (a1.trans a2)
 ·rintro i m σ2 H2 ⟨δ2,rfl,mh,a2,p2⟩;by_cases aS:i < ds.length
  ·right
   have e:ds[i]? = some ds[i]:=by simp[aS]
   rw[Qa aS] at p2;refine⟨((io H2 a2.keep).2 i _ e).1,λσ4 H4=>∃ δ4,a7 c σ δ1 H1 σ4 δ4 H4/\fD c D σ4 δ4 H4 (forL g b (ds.drop (i + 1)) δ4),λσ4 H4 ⟨δ4,a4,p4⟩=>⟨ds.length - (i + 1),by omega,δ4,rfl,aS,a4,p4⟩,λx H3 y=>?_⟩;obtain⟨a3,r3⟩:=CZ io a2 e y;simp only[forL,fD] at p2
   cases eg:g (.pure ds[i]) δ2 with
   | none=>rw[eg] at p2; exact p2.elim
   | some δ3 =>
    rw[eg] at p2;refine⟨σ2,δ2,H3,δ2,.pure ds[i],δ3,.refl a3.ok,r3,eg,λσ3 a3'=>?_⟩;have p3:post c ((b δ3).bind λfl δ2=>match fl with
     | .next=>forL g b (ds.drop (i + 1)) δ2
     | .cont=>forL g b (ds.drop (i + 1)) δ2
     | .brk=>.ok .next δ2
     | .ret v=>.ok (.ret v) δ2) λfl δ'=>∀ σ' H',a7 c σ2 δ2 H2 σ' δ' H'->fin c D σ' δ' H' fl:=p2
    rw[a_] at p3;have Nk:a7 c σ2 δ2 H2 σ3 δ3 H3:=a3.trans a3';refine⟨δ3,a3'.ok,aO p3 λfl δ4 p4 σ4 H4 a4=>?_⟩;have iG:=Nk.trans a4
    cases fl with
    | next=>exact⟨δ4,a2.trans iG,aO p4 λfl δ5 p5 σ5 H5 a5=>p5 σ5 H5 (iG.trans a5)⟩
    | cont=>exact⟨δ4,a2.trans iG,aO p4 λfl δ5 p5 σ5 H5 a5=>p5 σ5 H5 (iG.trans a5)⟩
    | brk=>exact p4 σ4 H4 iG
    | ret r=>exact p4 σ4 H4 iG
  ·left
   have wM:i=ds.length:=by omega
   subst wM;rw[List.drop_length] at p2;exact⟨(io H2 a2.keep).1,p2 σ2 H2 (.refl a2.ok)⟩
def gm(t:DT)(b:DS):Nat->DS
 | 0,_=>.stuck
 | n + 1,δ=>(t δ).bind λx δ1=>if x then(b δ1).bind λfl δ2=>match fl with
   | .next=>gm t b n δ2
   | .cont=>gm t b n δ2
   | .brk=>.ok .next δ2
   | .ret v=>.ok (.ret v) δ2
  else .ok .next δ1
theorem Nl{e:Expr}{body:List Stmt}{t:DT}{b:DS}(n:Nat)(hw:∀ {tt:TT} {tb:TS},PT X e tt->eX X body tb->PS X (.While e body [] pos) (AK tt tb))(ht:ST X c e t)(hb:i4 X c body b):SS X c (.While e body [] pos) (gm t b n) :=
 PS.weak (hw ht hb) λD σ H ⟨δ,k,q⟩=>by
  refine⟨λm σ2 H2=>∃ δ2,Ok c σ2 δ2 H2/\fD c D σ2 δ2 H2 (gm t b m δ2),⟨n,δ,k,q⟩,?_⟩;rintro m σ2 H2 ⟨δ2,k2,q2⟩
  cases m with
  | zero=>exact q2.elim
  | succ m =>
   simp only[gm,fD] at q2;rw[a_] at q2;refine⟨δ2,k2,aO q2 λx δ3 q3 H3 a3=>?_⟩
   cases x with
   | false=>exact q3 σ2 H3 a3
   | true =>
    have p3:post c ((b δ3).bind λfl δ2=>match fl with
     | .next=>gm t b m δ2
     | .cont=>gm t b m δ2
     | .brk=>.ok .next δ2
     | .ret v=>.ok (.ret v) δ2) λfl δ'=>∀ σ' H',a7 c σ2 δ2 H2 σ' δ' H'->fin c D σ' δ' H' fl:=q3
    rw[a_] at p3;refine⟨λσ4 H4=>∃ δ4,Ok c σ4 δ4 H4/\fD c D σ4 δ4 H4 (gm t b m δ4),λσ4 H4 w=>⟨m,Nat.lt_succ_self _,w⟩,δ3,a3.ok,aO p3 λfl δ4 p4 σ4 H4 a4=>?_⟩;have iG:=a3.trans a4
    cases fl with
    | next=>exact⟨δ4,a4.ok,aO p4 λfl δ5 p5 σ5 H5 a5=>p5 σ5 H5 (iG.trans a5)⟩
    | cont=>exact⟨δ4,a4.ok,aO p4 λfl δ5 p5 σ5 H5 a5=>p5 σ5 H5 (iG.trans a5)⟩
    | brk=>exact p4 σ4 H4 iG
    | ret r=>exact p4 σ4 H4 iG
end
def bC(cs:List Nat)(δ:Dl):Dl:=cs.foldl (λδ i=>δ.set i none) δ
def cW(cs:List Nat)(δ₁ δ:Dl):Dl:=cs.foldl (λδ i=>match δ₁[i]? with | some o=>δ.set i o | none=>δ) δ
def bt(δ:Dl)(i:Nat):Bool:=match δ[i]? with
 | some (some (.own _))=>true
 | _=>false
theorem C0(cs:List Nat):∀ δ:Dl,(bC cs δ).length=δ.length:=by
 induction cs with
 | nil=>intro δ; rfl
 | cons i r ih =>
  intro δ;show(bC r (δ.set i none)).length=_;rw[ih]; simp
theorem i7:∀ (cs:List Nat) (δ:Dl) (i:Nat) (v:S),(bC cs δ)[i]? = some (some v)->δ[i]? = some (some v)/\i ∉ cs:=by
 intro cs;induction cs with
 | nil=>intro δ i v h; exact⟨h,by simp⟩
 | cons j r ih =>
  intro δ i v h;have h':(bC r (δ.set j none))[i]? = some (some v):=h;obtain⟨h1,h2⟩:=ih _ i v h';by_cases e:j=i
  ·subst e;rw[Q7] at h1;simp at h1
  ·rw[W9 e] at h1;exact⟨h1,by simp only[Wr,not_or]; exact⟨Ne.symm e,h2⟩⟩
theorem k6:∀ (cs:List Nat) (σ:St) (i:Nat),i ∉ cs->(bO cs σ)[i]? = σ[i]?:=by
 intro cs;induction cs with
 | nil=>intro σ i _; rfl
 | cons j r ih =>
  intro σ i h;simp only[Wr,not_or] at h;show(bO r (σ.set j none))[i]? = _;rw[ih _ _ h.2,W9 (Ne.symm h.1)]
theorem Nm:∀ (cs:List Nat) (δ:Dl) (i:Nat),i ∉ cs->(bC cs δ)[i]? = δ[i]?:=by
 intro cs;induction cs with
 | nil=>intro σ i _; rfl
 | cons j r ih =>
  intro σ i h;simp only[Wr,not_or] at h;show(bC r (σ.set j none))[i]? = _;rw[ih _ _ h.2,W9 (Ne.symm h.1)]
theorem Nn(cs:List Nat)(δ₁:Dl):∀ δ:Dl,(cW cs δ₁ δ).length=δ.length:=by
 induction cs with
 | nil=>intro δ; rfl
 | cons i r ih =>
  intro δ;unfold cW;rw[JH];have:=ih (match δ₁[i]? with | some o=>δ.set i o | none=>δ);unfold cW at this;rw[this]
  cases δ₁[i]? <;> simp
theorem t_:∀ (cs:List Nat) (δ₁ δ:Dl) (i:Nat),i ∉ cs->(cW cs δ₁ δ)[i]? = δ[i]?:=by
 intro cs δ₁;induction cs with
 | nil=>intro δ i _; rfl
 | cons j r ih =>
  intro δ i h;simp only[Wr,not_or] at h;unfold cW;rw[JH];have:=ih (match δ₁[j]? with | some o=>δ.set j o | none=>δ) i h.2;unfold cW at this;rw[this]
  cases δ₁[j]? with
  | none=>rfl
  | some o=>simp only; rw[W9 (Ne.symm h.1)]
theorem wN:∀ (cs:List Nat) (δ₁ δ:Dl) (i:Nat),δ₁.length=δ.length->i ∈ cs->(cW cs δ₁ δ)[i]? = δ₁[i]?:=by
 intro cs δ₁;induction cs with
 | nil=>intro δ i _ h; simp at h
 | cons j r ih =>
  intro δ i hl h;unfold cW;rw[JH];have fA:δ₁.length=(match δ₁[j]? with | some o=>δ.set j o | none=>δ).length:=by cases δ₁[j]? <;> simp[hl]
  by_cases hr:i ∈ r
  ·have:=ih (match δ₁[j]? with | some o=>δ.set j o | none=>δ) i fA hr;unfold cW at this;exact this
  ·have e:i=j:=by
    rcases Wr.mp h with e | e
    ·exact e
    ·exact absurd e hr
   subst e;have:=t_ r δ₁ (match δ₁[i]? with | some o=>δ.set i o | none=>δ) i hr;unfold cW at this;rw[this]
   cases e:δ₁[i]? with
   | none =>
    simp only;have:=List.getElem?_eq_none_iff.mp e;exact WY (by omega)
   | some o =>
    simp only;have:=(W6.mp e).1;rw[Wn (by omega)]
section
variable {c:Fc} {σ:St} {δ δ':Dl} {H H':Hp} {l:Addr} {cs:List Nat}
theorem Ok.less(k:Ok (c.plus l) σ δ H):Ok c σ δ H:=by
 have sub:∀ b,Av c σ δ b->Av (c.plus l) σ δ b:=λb z=>z.elim (λz=>.inl (.inl z)) .inr
 refine⟨k.keep,λa z=>k.bd a (.inl z),k.eT,k.len,λi d e=>?_,λi d e=>?_,k.inj,k.pinned⟩
 ·obtain⟨v,h1,h2⟩:=k.slot i d e;exact⟨v,h1,h2.aW λb z=>.inl (sub b z)⟩
 ·obtain⟨a,h1,h2,h3,h4⟩:=k.own i d e;exact⟨a,h1,h2.aW λb z=>.inl (sub b z),h3,λz=>h4 (.inl z)⟩
theorem Ok.Nq(k:Ok c σ δ H)(hb:c.B l)(h0:c.H₀ l=none)(o:HO):Ok c σ δ (upd H l o):=by
 have kp:∀ b w,H b=some w->¬ Av c σ δ b->upd H l o b=some w:=λb w e n=>by
  rw[aL (λz=>n (by rw[z]; exact .inl hb))]; exact e
 have hV:∀ b w,H b=some w->∃ w',upd H l o b=some w':=λb w h=>by
  by_cases hb:b=l
  ·exact⟨_,by rw[hb]; exact cZ⟩
  ·exact⟨w,by rw[aL hb]; exact h⟩
 refine⟨λa w e n=>?_,λa z=>?_,λa z=>?_,k.len,λi d e=>?_,λi d e=>?_,k.inj,k.pinned⟩
 ·have:a≠l:=λz=>by rw[z,h0] at e; cases e
  rw[aL this]; exact k.keep a w e n
 ·obtain⟨w,e⟩:=k.bd a z; exact hV a w e
 ·obtain⟨w,e⟩:=k.eT a z; exact hV a w e
 ·obtain⟨v,h1,h2⟩:=k.slot i d e;exact⟨v,h1,h2.keep kp⟩
 ·obtain⟨a,h1,h2,h3,h4⟩:=k.own i d e;have:a≠l:=λz=>h4 (by rw[z]; exact hb)
  exact⟨a,h1,h2.keep kp λw q=>by rw[aL this]; exact q,h3,h4⟩
theorem Own.bO(h:Own (bO cs σ) (bC cs δ) l):Own σ δ l:=by
 obtain⟨i,d,e1,e2⟩:=h;exact⟨i,d,(i7 cs δ i _ e1).1,(lZ cs σ i _ e2).1⟩
theorem Ok.bO(k:Ok c σ δ H)(hp:∀ p ∈ c.pin,p.1 ∉ cs):Ok c (L2.bO cs σ) (bC cs δ) H:=by
 have sub:∀ b,Av c (L2.bO cs σ) (bC cs δ) b->Av c σ δ b:=λb z=>z.elim .inl λz=>.inr z.bO
 refine⟨k.keep,k.bd,k.eT,by rw[C0,tm]; exact k.len,λi d e=>?_,λi d e=>?_,λi j a d d' e1 e2 e3 e4=>?_,λp hm=>?_⟩
 ·obtain⟨e',hi⟩:=i7 cs δ i _ e;obtain⟨v,h1,h2⟩:=k.slot i d e';exact⟨v,by rw[k6 cs σ i hi]; exact h1,h2.aW λb z=>.inl (sub b z)⟩
 ·obtain⟨e',hi⟩:=i7 cs δ i _ e;obtain⟨a,h1,h2,h3⟩:=k.own i d e';exact⟨a,by rw[k6 cs σ i hi]; exact h1,h2.aW λb z=>.inl (sub b z),h3⟩
 ·exact k.inj i j a d d' (i7 cs δ i _ e1).1 (i7 cs δ j _ e2).1 (lZ cs σ i _ e3).1 (lZ cs σ j _ e4).1
 ·rw[k6 cs σ _ (hp p hm)]; exact k.pinned p hm
theorem a7.back(k:Ok c₀ σ δ H)(Nr:c.pin=c₀.pin)(hB:∀ b,c.B b->c₀.B b\/H b=none)(gM:cs.any (bt δ)=false)(x:a7 c (L2.bO cs σ) (bC cs δ) H (L2.bO cs σ) δ' H'):a7 c σ δ H σ (cW cs δ δ') H':=by
 have len:δ.length=δ'.length:=by
  have:=x.ok.len;rw[tm] at this;rw[this]; exact k.len
 have pW:∀ i d,i ∈ cs->δ[i]?≠some (some (.own d)):=λi d hi e=>by
  have:=List.any_eq_false.mp gM i hi;unfold bt at this;rw[e] at this;simp at this
 have ownOut:∀ i d,(cW cs δ δ')[i]? = some (some (.own d))->i ∉ cs/\δ'[i]? = some (some (.own d)):=λi d e=>by
  by_cases hi:i ∈ cs
  ·rw[wN cs δ δ' i len hi] at e;exact absurd e (pW i d hi)
  ·rw[t_ cs δ δ' i hi] at e;exact⟨hi,e⟩
 have sub:∀ b,Own σ (cW cs δ δ') b->Own (L2.bO cs σ) δ' b:=λb ⟨i,d,e1,e2⟩=>by
  obtain⟨hi,e⟩:=ownOut i d e1;exact⟨i,d,e,by rw[k6 cs σ i hi]; exact e2⟩
 have nR:∀ b,Av c σ (cW cs δ δ') b->Av c (L2.bO cs σ) δ' b:=λb z=>z.elim .inl λz=>.inr (sub b z)
 have ownEq:∀ b,Own σ δ b->Own (L2.bO cs σ) (bC cs δ) b:=λb ⟨i,d,e1,e2⟩=>by
  have hi:i ∉ cs:=λz=>pW i d z e1
  exact⟨i,d,by rw[Nm cs δ i hi]; exact e1,by rw[k6 cs σ i hi]; exact e2⟩
 refine⟨⟨x.ok.keep,x.ok.bd,x.ok.eT,by rw[Nn,<- len]; exact k.len,λi d e=>?_,λi d e=>?_,λi j a d d' e1 e2 e3 e4=>?_,by rw[Nr]; exact k.pinned⟩,λa o e n=>?_,λa z=>?_,x.there⟩
 ·by_cases hi:i ∈ cs
  ·rw[wN cs δ δ' i len hi] at e;obtain⟨v,h1,h2⟩:=k.slot i d e;have h3:Rep H (Av c (L2.bO cs σ) (bC cs δ)) v d:=h2.aW λb z=>by
    rcases z with z | z
    ·exact(hB b z).elim (λz=>.inl (.inl z)) .inr
    ·exact .inl (.inr z.bO)
   exact⟨v,h1,(Rep.cR h3 x).aW λb z=>.inl (nR b z)⟩
  ·rw[t_ cs δ δ' i hi] at e;obtain⟨v,h1,h2⟩:=x.ok.slot i d e;exact⟨v,(lZ cs σ i v h1).1,h2.aW λb z=>.inl (nR b z)⟩
 ·obtain⟨hi,e'⟩:=ownOut i d e;obtain⟨a,h1,h2,h3⟩:=x.ok.own i d e';exact⟨a,(lZ cs σ i _ h1).1,h2.aW λb z=>.inl (nR b z),h3⟩
 ·obtain⟨hi,f1⟩:=ownOut i d e1;obtain⟨hj,f2⟩:=ownOut j d' e2;exact x.ok.inj i j a d d' f1 f2 (by rw[k6 cs σ i hi]; exact e3) (by rw[k6 cs σ j hj]; exact e4)
 ·exact x.keep a o e λz=>n z.bO
 ·rcases x.own a (sub a z) with q | q
  ·exact .inl q.bO
  ·exact .inr q
end
def cp(cs:List Nat)(g:DG)(t:DT)(el:DE):List D->Dl->List D->Rs (List D)
 | [],δ,acc=>.ok acc δ
 | d :: r,δ,acc=>match g (.pure d) δ with
  | none=>.stuck
  | some δ1=>(t δ1).bind λb δ2=>if b then(el δ2).bind λx δ3=>if acc.length < Wd then cp cs g t el r (bC cs δ3) (acc ++ [x.d]) else .stuck
   else cp cs g t el r (bC cs δ2) acc
def cq(cs:List Nat)(it:DI)(g:DG)(t:DT)(el:DE):DE:=λδ=>(it δ).bind λds δ1=>if cs.any (bt δ1) then .stuck else
 (cp cs g t el ds (bC cs δ1) []).bind λacc δ2=>.ok (.own (.lst acc)) (cW cs δ1 δ2)
def bj:DT:=λδ=>.ok true δ
abbrev ua(X:Cx)(c:Fc)(ifs:List Expr)(t:DT):Prop:=oK X ifs (tT c t)
theorem gP{X:Cx}{c:Fc}:ua X c [] bj:=λpins s σ H Q I ⟨δ,k,q⟩=>L9 pins s σ H Q I (q H (.refl k))
theorem Nt{X:Cx}{c:Fc}{e:Expr}{t:DT}(h:ST X c e t):ua X c [e] t:=L_ h
section
variable {X:Cx} {c:Fc} {cs:List Nat} {tg iter elt:Expr} {ifs:List Expr} {scope:Scope} {pos:Pos} {it:DI} {g:DG} {t:DT} {el:DE}
theorem a7.clear(x:a7 c (L2.bO cs σ) δ H σ4 δ4 H4)(le:Le (L2.bO cs σ) σ4)(hp:∀ p ∈ c.pin,p.1 ∉ cs)(hs:∀ (i:Nat) v,σ4[i]? = some (some v)->i ∉ cs->σ[i]? = some (some v)):a7 c (L2.bO cs σ) δ H (L2.bO cs σ) (bC cs δ4) H4:=by
 have eq:∀ i,i ∉ cs->∀ v,σ4[i]? = some (some v)->(L2.bO cs σ)[i]? = some (some v):=λi hi v e=>by rw[k6 cs σ i hi]; exact hs i v e hi
 have own:∀ b,Own (L2.bO cs σ) (bC cs δ4) b->Own σ4 δ4 b:=λb ⟨i,d,e1,e2⟩=>by
  exact⟨i,d,(i7 cs δ4 i _ e1).1,le.2 i _ e2⟩
 have sub:∀ b,Av c (L2.bO cs σ) (bC cs δ4) b->Av c σ4 δ4 b:=λb z=>z.elim .inl λz=>.inr (own b z)
 have k:=x.ok;refine⟨⟨k.keep,k.bd,k.eT,by rw[C0,k.len]; exact le.1,λi d e=>?_,λi d e=>?_,λi j a d d' e1 e2 e3 e4=>?_,λp hm=>?_⟩,x.keep,λa z=>x.own a (own a z),x.there⟩
 ·obtain⟨e',hi⟩:=i7 cs δ4 i _ e;obtain⟨v,h1,h2⟩:=k.slot i d e';exact⟨v,eq i hi v h1,h2.aW λb z=>.inl (sub b z)⟩
 ·obtain⟨e',hi⟩:=i7 cs δ4 i _ e;obtain⟨a,h1,h2,h3⟩:=k.own i d e';exact⟨a,eq i hi _ h1,h2.aW λb z=>.inl (sub b z),h3⟩
 ·exact k.inj i j a d d' (i7 cs δ4 i _ e1).1 (i7 cs δ4 j _ e2).1 (le.2 i _ e3) (le.2 j _ e4)
 ·exact eq p.1 (hp p hm) _ (k.pinned p hm)
def Out(cs:List Nat)(σ σ':St):Prop:=σ'.length=σ.length/\∀ i,i ∉ cs->σ'[i]? = σ[i]?
theorem Out.trans(a:Out cs σ σ')(b:Out cs σ' σ''):Out cs σ σ'':=⟨b.1.trans a.1,λi h=>(b.2 i h).trans (a.2 i h)⟩
def ub(cs:List Nat)(c:Fc)(g:DG):TG:=λv σ H Q=>∃ σ₀ δ₀ H₁ δ r δ',a7 c σ₀ δ₀ H₁ σ δ H/\bp c σ δ H₁ H v r/\g r δ=some δ'/\∀ σ',a7 c σ₀ δ₀ H₁ σ' δ' H->Out cs σ σ'->Q σ' H
abbrev qJ(X:Cx)(c:Fc)(cs:List Nat)(tg:Expr)(g:DG):Prop:=PG X tg (ub cs c g)
theorem fm{np:List Nat}{i:Nat}{x:Str}(hp:Np c np)(hN:X.N.Nodup)(hi:X.N[i]? = some x)(hx:Loc X.env.scope x)(hf:X.fn x=true\/X.env.scope.names.lookup x=some .local)(hc:i ∈ cs):qJ X c cs (.Name x pos) (af np i) :=
 PG.weak (AB hN hi hx hf) λv σ H Q ⟨σ₀,δ₀,H₁,δ,r,δ',x,rr,e,q⟩=>by
  unfold af at e;split at e
  ·cases e
  ·rename_i hn
   cases e;refine q _ (Ok.set x rr λp hm e=>hn (by rw[<- e]; exact hp p hm)) ⟨by simp,λj hj=>?_⟩;rw[W9 (λz=>hj (by rw[<- z]; exact hc))]
def Nu(cs:List Nat)(c:Fc)(g:i5):lM:=λvs σ H Q=>∃ δ ds δ',Ok c σ δ H/\aG H (Av c σ δ) vs ds/\g ds δ=some δ'/\∀ σ',a7 c σ δ H σ' δ' H->Out cs σ σ'->Q σ' H
abbrev uc(X:Cx)(c:Fc)(cs:List Nat)(tg:List Expr)(g:i5):Prop:=ip X tg (Nu cs c g)
theorem qK:uc X c cs [] bL:=ip.weak AF λvs σ H Q ⟨δ,ds,δ',k,r,e,q⟩=>by
 cases ds with
 | nil =>
  cases e;have:vs=[]:=by have:=r.1; simpa using this
  exact⟨this,q σ (.refl k) ⟨rfl,λ_ _=>rfl⟩⟩
 | cons d r=>cases e
theorem kc{e:Expr}{es:List Expr}{g:DG}{gs:i5}(h1:qJ X c cs e g)(h2:uc X c cs es gs)(hs:(Qd (e :: es) X.env).map (·.2)=assign e X.env :: (Qd es X.env).map (·.2):=by rfl):uc X c cs (e :: es) (aI g gs) :=
 ip.weak (AG h1 h2 hs) λvs σ H Q ⟨δ,ds,δ',k,r,e,q⟩=>by
  cases ds with
  | nil=>cases e
  | cons d ds =>
   cases vs with
   | nil=>have:=r.1; simp at this
   | cons v vs =>
    simp only[aI] at e
    cases e1:g (.pure d) δ with
    | none=>rw[e1] at e; cases e
    | some δ1 =>
     rw[e1] at e;refine⟨v,vs,rfl,σ,δ,H,δ,.pure d,δ1,.refl k,r.head,e1,λσ1 a1 o1=>?_⟩;exact⟨δ1,ds,δ',a1.ok,aG.cR r.tail a1,e,λσ2 a2 o2=>q σ2 (a1.trans a2) (o1.trans o2)⟩
theorem qL{es:List Expr}{k:Nat}{gs:i5}{n:Nat}(hc:X.calm=true)(h:uc X c cs es gs)(hn:(Qd es X.env).length=n:=by rfl)(iS:(Qd es X.env).findIdx? (·.1)=none:=by rfl) :
  qJ X c cs (.Tuple es k pos) (bI n gs):=PG.weak (AH hc h hn iS) λv σ H Q hw=>by
 obtain⟨σ₀,δ₀,H₁,δ,r,δ',x,rr,e,q⟩:=hw;have hb:=rr.b;unfold bI at e;generalize r.d=d at e hb
 cases d <;> first | (cases e; done) | skip
 rename_i ds;simp only at e;split at e
 ·rename_i hl;obtain⟨a,vs,ea,ha,ra⟩:=hb.tup;exact⟨a,vs,ea,.of ha,by rw[ra.1]; exact hl,δ,ds,δ',x.ok,ra,e,λσ' a1 o1=>q σ' (x.trans a1) o1⟩
 ·cases e
theorem a7.less(x:a7 (c.plus l) σ δ H σ' δ' H'):a7 c σ δ H σ' δ' H':=⟨x.ok.less,x.keep,x.own,x.there⟩
theorem C2(Nv:∀ σ H R,tI c it σ H R->wi σ H R)(hg:∀ l v σ H Q,ub cs (c.plus l) g v σ H Q->gt v σ H Q)(ht:∀ l σ H Q,tT (c.plus l) t σ H Q->tt σ H Q)(he:∀ l σ H Q,tD (c.plus l) el σ H Q->te σ H Q)
  (hp:∀ p ∈ c.pin,p.1 ∉ cs) (h:tD c (cq cs it g t el) σ H Q):vW cs wi gt tt te σ H Q:=by
 obtain⟨δ,k,q⟩:=h;unfold cq at q;rw[a_] at q;refine Nv _ _ _ ⟨δ,k,aO q λds δ1 q1 J H1 a1 io=>?_⟩;intro l hl;split at q1
 ·exact q1.elim
 ·rename_i gM;have C3:cs.any (bt δ1)=false:=by simpa using gM
  rw[a_] at q1;have k1:=a1.ok;have kp:=k1.plus hl (.lst []);have k0:Ok (c.plus l) (L2.bO cs σ) (bC cs δ1) (upd H1 l (.lst [])):=kp.bO hp;have up:∀ a w,H1 a=some w->upd H1 l (.lst []) a=some w:=λa w e=>by
   rw[aL (fP e hl)]; exact e
  have h0:c.H₀ l=none:=k1.nD hl;-- the walked things,as the block sees them
  have wO:nQ (c.plus l) (L2.bO cs σ) (bC cs δ1) H1 J ds:=by
   intro H2 kp2;obtain⟨s1,s2⟩:=io H2 λa o e n=>kp2 a o e λz=>n z.bO
   have cv:∀ {x:V} {d:D},Rep H1 (Av c σ δ1) x d->Rep H1 (Av (c.plus l) (L2.bO cs σ) (bC cs δ1)) x d:=λ{x d} r =>
    r.aW λb z=>by
     rcases z with (z | z) | z
     ·exact .inl (.inl z)
     ·exact .inr (by rw[z]; exact hl)
     ·exact .inl (.inr z.bO)
   refine⟨s1,λi d e=>⟨(s2 i d e).1,λx H3 y=>?_⟩⟩;rcases (s2 i d e).2 x H3 y with ⟨e3,r⟩ | ⟨p,vs,es,hp,e3,ex,ed,r⟩
   ·exact .inl ⟨e3,cv r⟩
   ·exact .inr ⟨p,vs,es,hp,e3,ex,ed,r.1,λi v d e1 e2=>cv (r.2 i v d e1 e2)⟩
  let Fin:List D->Dl->Prop:=λacc δ'=>∀ H' vs,a7 (c.plus l) (L2.bO cs σ) (bC cs δ1) H1 (L2.bO cs σ) δ' H'->H' l=some (.lst vs)->aG H' (Av (c.plus l) (L2.bO cs σ) δ') vs acc->Q (.ref l) H'
  have q2:post c (cp cs g t el ds (bC cs δ1) []) Fin:=aO q1 λacc δ2 q2 H' vs x hv r=>by
   have b1:a7 (c.plus l) σ δ1 H1 σ (cW cs δ1 δ2) H':=a7.back k1 rfl (λb z=>z.elim .inl λz=>.inr (by rw[z]; exact hl)) C3 x;have b2:a7 c σ δ1 H1 σ (cW cs δ1 δ2) H':=b1.less;have len:δ1.length=δ2.length:=by
    have:=x.ok.len;rw[tm] at this;rw[this]; exact k1.len
   have Nw:H l=none:=by
    cases e:H l with
    | none=>rfl
    | some o =>
     obtain⟨o',e'⟩:=a1.there l o e;rw[hl] at e'; cases e'
   refine q2 _ H' (a1.trans b2) ⟨l,rfl,⟨vs,hv,aG.aW r λb z=>.inl ?_⟩,λz=>k1.jz hl (.inl z),h0,b1.ok,Nw⟩;rcases z with z | ⟨i,d,e1,e2⟩
   ·exact .inl z
   ·have hi:i ∉ cs:=λhi=>by
     rw[wN cs δ1 δ2 i len hi] at e1;have:=List.any_eq_false.mp C3 i hi;unfold bt at this;rw[e1] at this;simp at this
    rw[t_ cs δ1 δ2 i hi] at e1;exact .inr ⟨i,d,e1,by rw[k6 cs σ i hi]; exact e2⟩
  refine⟨λi m H2=>∃ δ2 acc vs,m=ds.length - i/\i<=ds.length/\a7 (c.plus l) (L2.bO cs σ) (bC cs δ1) H1 (L2.bO cs σ) δ2 H2/\H2 l=some (.lst vs)/\aG H2 (Av (c.plus l) (L2.bO cs σ) δ2) vs acc /\
   post c (cp cs g t el (ds.drop i) δ2 acc) Fin,⟨ds.length,bC cs δ1,[],[],by simp,QB _,⟨k0,λa w e _=>up a w e,λa z=>.inl z,λa w e=>⟨w,up a w e⟩⟩,cZ,.nil,by rw[List.drop_zero]; exact q2⟩,?_⟩
  rintro i m H2 ⟨δ2,acc,vs,rfl,mh,a2,hv,rv,p2⟩;by_cases aS:i < ds.length
  ·right
   have e:ds[i]? = some ds[i]:=by simp[aS]
   rw[Qa aS] at p2;refine⟨((wO H2 a2.keep).2 i _ e).1,λx H3 y=>hg l _ _ _ _ ?_⟩;obtain⟨a3,r3⟩:=CZ wO a2 e y;simp only[cp] at p2
   cases eg:g (.pure ds[i]) δ2 with
   | none=>rw[eg] at p2; exact p2.elim
   | some δ3 =>
    rw[eg] at p2;have p3:post c ((t δ3).bind λb δ2=>if b then(el δ2).bind λx δ3=>if acc.length < Wd then cp cs g t el (ds.drop (i + 1)) (bC cs δ3) (acc ++ [x.d]) else .stuck
     else cp cs g t el (ds.drop (i + 1)) (bC cs δ2) acc) Fin:=p2
    refine⟨L2.bO cs σ,δ2,H3,δ2,.pure ds[i],δ3,.refl a3.ok,r3,eg,λσ4 a4 o4=>?_⟩;have le:Le (L2.bO cs σ) σ4:=⟨o4.1,λj v ej=>by
     rw[o4.2 j (lZ cs σ j v ej).2]; exact ej⟩
    have hs:∀ (j:Nat) v,σ4[j]? = some (some v)->j ∉ cs->σ[j]? = some (some v):=λj v ej hj=>by
     rw[o4.2 j hj] at ej;exact(lZ cs σ j v ej).1
    refine⟨le,ht l _ _ _ ⟨δ3,a4.ok,?_⟩⟩;rw[a_] at p3;have C4:∀ p ∈ (c.plus l).pin,p.1 ∉ cs:=hp;have iG:=a2.trans (a3.trans a4);have ln:∀ {σ':St} {δ':Dl} {H':Hp},Ok (c.plus l) σ' δ' H'->¬ Own σ' δ' l:=λ{σ' δ' H'} k=>tH k
    have Nx:post (c.plus l) (t δ3) λb δ5=>post c (if b then(el δ5).bind λx δ3=>if acc.length < Wd then cp cs g t el (ds.drop (i + 1)) (bC cs δ3) (acc ++ [x.d]) else .stuck
     else cp cs g t el (ds.drop (i + 1)) (bC cs δ5) acc) Fin:=p3
    refine aO Nx λb δ5 p5 H5 a5=>?_
    have C5:=iG.trans a5;have Ny:H3 l=some (.lst vs):=a3.keep l _ hv (ln a2.ok);have C6:H5 l=some (.lst vs):=a5.keep l _ Ny (ln a4.ok);have C7:=aG.cR (aG.cR (aG.cR rv a3) a4) a5
    cases b with
    | false =>
     have c5:=C5.clear le C4 hs;refine⟨ds.length - (i + 1),by omega,bC cs δ5,acc,vs,rfl,aS,c5,C6,aG.aW C7 λb z=>.inl ?_,p5⟩;exact z.elim .inl λ⟨j,d,e1,e2⟩=>.inr ⟨j,d,(i7 cs δ5 j _ e1).1,le.2 j _ e2⟩
    | true =>
     have C8:post c ((el δ5).bind λx δ3=>if acc.length < Wd then cp cs g t el (ds.drop (i + 1)) (bC cs δ3) (acc ++ [x.d]) else .stuck) Fin:=p5;rw[a_] at C8;refine he l _ _ _ ⟨δ5,a5.ok,?_⟩;have p6:post (c.plus l) (el δ5) λx δ6=>post c (if acc.length < Wd then cp cs g t el (ds.drop (i + 1)) (bC cs δ6) (acc ++ [x.d]) else .stuck) Fin:=C8
     refine aO p6 λx δ6 p7 v H6 a6 r6=>?_
     split at p7
     ·rename_i hz;have qM:=C5.trans a6;have Nz:H6 l=some (.lst vs):=a6.keep l _ C6 (ln a5.ok);have C9:=aG.cR C7 a6;have rr:aG H6 (Av (c.plus l) σ4 δ6) (vs ++ [v]) (acc ++ [x.d]):=C9.append (.cons r6.rep .nil);have c6:=qM.clear le C4 hs;have ud:∀ b o,H6 b=some o->¬ Av (c.plus l) σ4 δ6 b->upd H6 l (.lst (vs ++ [v])) b=some o:=λb o e n=>by
       rw[aL (λz=>n (by rw[z]; exact .inl (.inr rfl)))]; exact e
      have NA:∀ b,Av (c.plus l) (L2.bO cs σ) (bC cs δ6) b->Av (c.plus l) σ4 δ6 b:=λb z=>z.elim .inl λ⟨j,d,e1,e2⟩=>.inr ⟨j,d,(i7 cs δ6 j _ e1).1,le.2 j _ e2⟩
      refine⟨vs,ds.length - (i + 1),Nz,by rw[C9.1]; exact hz,by omega,bC cs δ6,acc ++ [x.d],vs ++ [v],rfl,aS,?_,cZ,aG.aW (aG.keep rr ud) λb z=>.inl (NA b z),p7⟩;-- the list that is built has grown
      refine⟨c6.ok.Nq (.inr rfl) h0 _,λa o ea n=>?_,λa z=>c6.own a z,λa o ea=>?_⟩
      ·have qN:a≠l:=λz=>by rw[z,hl] at ea; cases ea
       rw[aL qN]; exact c6.keep a o ea n
      ·by_cases qN:a=l
       ·exact⟨_,by rw[qN]; exact cZ⟩
       ·obtain⟨o',e'⟩:=c6.there a o ea;exact⟨o',by rw[aL qN]; exact e'⟩
     ·exact p7.elim
  ·left
   have wM:i=ds.length:=by omega
   subst wM;rw[List.drop_length] at p2;exact⟨(wO H2 a2.keep).1,p2 H2 vs a2 hv rv⟩
theorem jH(hc:X.calm=true)(S:ny X scope cs)(hi:SI X c tg iter it)(hg:∀ l s₀ H₀ ex,qJ (fI X scope s₀ H₀ ex) (c.plus l) cs tg g)(ht:∀ l s₀ H₀ ex,ua (fI X scope s₀ H₀ ex) (c.plus l) ifs t)
  (he:∀ l s₀ H₀ ex,SE (fI X scope s₀ H₀ ex) (c.plus l) elt el) (hp:∀ p ∈ c.pin,p.1 ∉ cs) (hs:∀ x,QW iter X.env x=pure x:=by intro _; rfl) :
  SE X c (.ListComp elt [⟨tg,iter,ifs,0⟩] scope pos) (cq cs it g t el) :=
 PE.weak (Mf (g:=λv σ H Q=>∃ l,ub cs (c.plus l) g v σ H Q) (tt:=λσ H Q=>∃ l,tT (c.plus l) t σ H Q) (te:=λσ H Q=>∃ l,tD (c.plus l) el σ H Q) hc S hi
  (λs₀ H₀ ex pins s σ H v u Q I r ⟨l,q⟩=>hg l s₀ H₀ ex pins s σ H v u Q I r q) (λs₀ H₀ ex pins s σ H Q I ⟨l,q⟩=>ht l s₀ H₀ ex pins s σ H Q I q) (λs₀ H₀ ex pins s σ H Q I ⟨l,q⟩=>he l s₀ H₀ ex pins s σ H Q I q) hs)
  λσ H Q h=>C2 (λ_ _ _ h=>h) (λl _ _ _ _ h=>⟨l,h⟩) (λl _ _ _ h=>⟨l,h⟩) (λl _ _ _ h=>⟨l,h⟩) hp h
theorem qO{np:List Nat}{i:Nat}{y:Str}{py tF:Pos}(ax:Np c np)(hc:X.calm=true)(S:ny X scope cs)(hN:X.N.Nodup)(gv:X.N[i]? = some y)(hy:X.env.scope.names.lookup y=some .local)
  (hi:SI X c tg iter it) (hg:∀ l s₀ H₀ ex,qJ (fI X scope s₀ H₀ ex) (c.plus l) cs tg g) (ht:∀ l s₀ H₀ ex,ua (fI X scope s₀ H₀ ex) (c.plus l) ifs t)
  (he:∀ l s₀ H₀ ex,SE (fI X scope s₀ H₀ ex) (c.plus l) elt el) (hp:∀ p ∈ c.pin,p.1 ∉ cs)
  (qx:QX (.ListComp elt [⟨tg,iter,ifs,0⟩] scope pos) (some (.Name y py)) tF.line X.env=pure true:=by rfl) (hs:∀ x,QW iter X.env x=pure x:=by intro _; rfl) :
  SS X c (.Assign [.Name y py] (.ListComp elt [⟨tg,iter,ifs,0⟩] scope pos) tF) (au (cq cs it g t el) (af np i)) :=
 PS.weak (Mg (g:=λv σ H Q=>∃ l,ub cs (c.plus l) g v σ H Q) (tt:=λσ H Q=>∃ l,tT (c.plus l) t σ H Q) (te:=λσ H Q=>∃ l,tD (c.plus l) el σ H Q) hc S hN gv hy hi
  (λs₀ H₀ ex pins s σ H v u Q I r ⟨l,q⟩=>hg l s₀ H₀ ex pins s σ H v u Q I r q) (λs₀ H₀ ex pins s σ H Q I ⟨l,q⟩=>ht l s₀ H₀ ex pins s σ H Q I q) (λs₀ H₀ ex pins s σ H Q I ⟨l,q⟩=>he l s₀ H₀ ex pins s σ H Q I q) qx hs)
  λD σ H h=>wK (λσ H Q h=>C2 (λ_ _ _ h=>h) (λl _ _ _ _ h=>⟨l,h⟩) (λl _ _ _ h=>⟨l,h⟩) (λl _ _ _ h=>⟨l,h⟩) hp h) (λ_ _ _ _ h=>wJ ax h) h
end
abbrev DF:=List S->Option (S×List S)
def eC:Nat->List S->List V->List (Nat×Addr)
 | n,.own _ :: ss,.ref a :: vs=>(n,a) :: eC (n + 1) ss vs
 | n,_ :: ss,_ :: vs=>eC (n + 1) ss vs
 | _,_,_=>[]
theorem qP:∀ {n:Nat} {ss:List S} {vs:List V} {i:Nat} {a:Addr},(i,a) ∈ eC n ss vs->∃ j d,i=n + j/\ss[j]? = some (.own d)/\vs[j]? = some (.ref a)
 | n,[],vs,i,a,h=>by simp[eC] at h
 | n,s :: ss,[],i,a,h=>by cases s <;> simp[eC] at h
 | n,s :: ss,v :: vs,i,a,h=>by
  have wQ:(i,a) ∈ eC (n + 1) ss vs->∃ j d,i=n + j/\(s :: ss)[j]? = some (.own d)/\(v :: vs)[j]? = some (.ref a):=λh=>by
   obtain⟨j,d,e,h1,h2⟩:=qP h;exact⟨j + 1,d,by omega,by simpa using h1,by simpa using h2⟩
  cases s with
  | pure d=>exact wQ h
  | own d =>
   cases v with
   | ref b =>
    rcases Wr.mp h with e | h
    ·cases e;exact⟨0,d,rfl,rfl,rfl⟩
    ·exact wQ h
   | _=>exact wQ h
theorem ue:∀ {n:Nat} {ss:List S} {vs:List V} {j:Nat} {d:D} {a:Addr},ss[j]? = some (.own d)->vs[j]? = some (.ref a)->(n + j,a) ∈ eC n ss vs
 | n,[],vs,j,d,a,h,_=>by simp at h
 | n,s :: ss,[],j,d,a,_,h=>by simp at h
 | n,s :: ss,v :: vs,0,d,a,h1,h2=>by
  simp at h1 h2;subst h1 h2;exact Wb
 | n,s :: ss,v :: vs,j + 1,d,a,h1,h2=>by
  have ih:=ue (n:=n + 1) (ss:=ss) (vs:=vs) (j:=j) (d:=d) (a:=a) (by simpa using h1) (by simpa using h2);have e:n + 1 + j=n + (j + 1):=by omega
  rw[e] at ih
  cases s with
  | pure d=>exact ih
  | own d =>
   cases v with
   | ref b=>exact W7 _ ih
   | _=>exact ih
abbrev de(vs:List V):St:=vs.map some
abbrev dg(ss:List S):Dl:=ss.map some
theorem fU{ss:List S}{i:Nat}{r:S}:(dg ss)[i]? = some (some r) ↔ ss[i]? = some r:=by
 rw[Wv]
 cases ss[i]? <;> simp
theorem gn{vs:List V}{i:Nat}{v:V}:(de vs)[i]? = some (some v) ↔ vs[i]? = some v:=by
 rw[Wv]
 cases vs[i]? <;> simp
def mi(n:Nat)(G:DF):Sp:=λvs H Q _=>∃ ss B,vs.length=n/\Ok ⟨H,B,eC 0 ss vs,λ_ _=>False⟩ (de vs) (dg ss) H/\∃ r bc,G ss=some (r,bc) /\
 ∀ v H',a7 ⟨H,B,eC 0 ss vs,λ_ _=>False⟩ (de vs) (dg ss) H (de vs) (dg bc) H'->bp ⟨H,B,eC 0 ss vs,λ_ _=>False⟩ (de vs) (dg bc) H H' v r->Q v H'
def aP(P:Wm)(w:Wq)(K:W3)(mg:Str->Option Value)(base:Heap)(k:Nat)(x:Str)(n:Nat)(G:DF):Prop :=
 ∃ (f:Addr) (fd:Qn) (ps:List Str),mg x=some (.ref f)/\U7 K (.ref f)=true/\Binds K fd ps []/\jt P w K mg base jw k f fd ps (mi n G)
def bX(n:Nat)(ss:List S):Dl:=dg ss ++ We (n - ss.length) none
def cC:Nat->List S->Dl->Option (List S)
 | _,[],_=>some []
 | n,.pure d :: ss,δ=>(cC (n + 1) ss δ).map (.pure d :: ·)
 | n,.own _ :: ss,δ=>match δ[n]? with
  | some (some (.own d'))=>(cC (n + 1) ss δ).map (.own d' :: ·)
  | _=>none
def dq:Fl->Option S
 | .next=>some (.pure .bf)
 | .ret r=>some r
 | _=>none
def hW(f:DS)(n:Nat)(ss:List S):Option (S×List S):=match f (bX n ss) with
 | .ok fl δ=>(dq fl).bind λr=>(cC 0 ss δ).map λbc=>(r,bc)
 | _=>none
def cK(np:List Nat):Nat->List S->Bool
 | _,[]=>true
 | n,.own _ :: ss=>np.contains n && cK np (n + 1) ss
 | n,.pure _ :: ss=>cK np (n + 1) ss
theorem C_:∀ {n:Nat} {ss:List S} {j:Nat} {d:D},cK np n ss=true->ss[j]? = some (.own d)->np.contains (n + j)=true
 | n,[],j,d,_,h=>by simp at h
 | n,s :: ss,0,d,h,e=>by
  simp at e;subst e;simp only[cK,Ws] at h;exact h.1
 | n,s :: ss,j + 1,d,h,e=>by
  have h':cK np (n + 1) ss=true:=by
   cases s with
   | pure d=>exact h
   | own d=>simp only[cK,Ws] at h; exact h.2
  have:=C_ (n:=n + 1) (j:=j) h' (by simpa using e);rw[show n + (j + 1)=n + 1 + j by omega];exact this
theorem uf:∀ {n:Nat} {ss bc:List S} {δ:Dl},cC n ss δ=some bc->bc.length=ss.length/\∀ (i:Nat) s,ss[i]? = some s->(∃ d,s = .pure d/\bc[i]? = some (.pure d))\/∃ d d',s = .own d/\δ[n + i]? = some (some (.own d'))/\bc[i]? = some (.own d')
 | n,[],bc,δ,h=>by
  simp only[cC,Wc] at h;subst h;exact⟨rfl,λi s e=>by simp at e⟩
 | n,.pure d :: ss,bc,δ,h=>by
  simp only[cC] at h
  cases e:cC (n + 1) ss δ with
  | none=>rw[e] at h; cases h
  | some os =>
   rw[e] at h;simp only[WC,Wc] at h;subst h;obtain⟨h1,h2⟩:=uf e;refine⟨by simp[h1],λi s es=>?_⟩
   cases i with
   | zero=>simp at es; subst es; exact .inl ⟨d,rfl,rfl⟩
   | succ i =>
    rcases h2 i s (by simpa using es) with ⟨d,z1,z2⟩ | ⟨d,d',z1,z2,z3⟩
    ·exact .inl ⟨d,z1,by simpa using z2⟩
    ·exact .inr ⟨d,d',z1,by rw[show n + (i + 1)=n + 1 + i by omega]; exact z2,by simpa using z3⟩
 | n,.own d :: ss,bc,δ,h=>by
  simp only[cC] at h;split at h
  ·rename_i d' ed
   cases e:cC (n + 1) ss δ with
   | none=>rw[e] at h; cases h
   | some os =>
    rw[e] at h;simp only[WC,Wc] at h;subst h;obtain⟨h1,h2⟩:=uf e;refine⟨by simp[h1],λi s es=>?_⟩
    cases i with
    | zero=>simp at es; subst es; exact .inr ⟨d,d',rfl,ed,rfl⟩
    | succ i =>
     rcases h2 i s (by simpa using es) with ⟨d,z1,z2⟩ | ⟨d,d',z1,z2,z3⟩
     ·exact .inl ⟨d,z1,by simpa using z2⟩
     ·exact .inr ⟨d,d',z1,by rw[show n + (i + 1)=n + 1 + i by omega]; exact z2,by simpa using z3⟩
  ·cases h
section
variable {c:Fc} {H H':Hp} {vs:List V} {ss bc:List S} {σ':St} {δ':Dl}
theorem mj{α:Type}{l:List (Option α)}{k i:Nat}{v:α}(h:(l ++ We k none)[i]? = some (some v)):l[i]? = some (some v):=by
 by_cases hi:i < l.length
 ·rw[Jp hi] at h; exact h
 ·rw[List.getElem?_append_right (by omega),List.getElem?_replicate] at h;split at h <;> cases h
theorem k7{α:Type}{l:List (Option α)}{k i:Nat}{v:α}(h:l[i]? = some (some v)):(l ++ We k none)[i]? = some (some v):=by
 have hi:i < l.length:=(W6.mp h).1;rw[Jp hi]; exact h
theorem Own.ext{σ:St}{δ:Dl}{k:Nat}{a:Addr}:Own (σ ++ We k none) (δ ++ We k none) a ↔ Own σ δ a :=
 ⟨λ⟨i,d,e1,e2⟩=>⟨i,d,mj e1,mj e2⟩,λ⟨i,d,e1,e2⟩=>⟨i,d,k7 e1,k7 e2⟩⟩
theorem Ok.ext{σ:St}{δ:Dl}(k:Ok c σ δ H)(n:Nat):Ok c (σ ++ We n none) (δ ++ We n none) H:=by
 have sub:∀ b,Av c (σ ++ We n none) (δ ++ We n none) b->Av c σ δ b:=λb z=>z.elim .inl λz=>.inr (Own.ext.mp z)
 refine⟨k.keep,k.bd,k.eT,by simp[k.len],λi d e=>?_,λi d e=>?_,λi j a d d' e1 e2 e3 e4=>k.inj i j a d d' (mj e1) (mj e2) (mj e3) (mj e4),λp hm=>k7 (k.pinned p hm)⟩
 ·obtain⟨v,h1,h2⟩:=k.slot i d (mj e);exact⟨v,k7 h1,h2.aW λb z=>.inl (sub b z)⟩
 ·obtain⟨a,h1,h2,h3⟩:=k.own i d (mj e);exact⟨a,k7 h1,h2.aW λb z=>.inl (sub b z),h3⟩
theorem Dc{B:Addr->Prop}{n:Nat}(hc:c = ⟨H,B,eC 0 ss vs,λ_ _=>False⟩)(k:Ok c (de vs) (dg ss) H)(x:a7 c (de vs ++ We n none) (dg ss ++ We n none) H σ' δ' H')(ho:cC 0 ss δ'=some bc) :
  a7 c (de vs) (dg ss) H (de vs) (dg bc) H'/\∀ v r,bp c σ' δ' H H' v r->bp c (de vs) (dg bc) H H' v r:=by
 obtain⟨hlen,ug⟩:=uf ho;have nT:ss.length=vs.length:=by have:=k.len; simpa using this
 have pin:∀ (i:Nat) (a:Addr) (d:D),ss[i]? = some (.own d)->vs[i]? = some (.ref a)->σ'[i]? = some (some (.ref a)):=λi a d h1 h2=>by
  have:=ue (n:=0) h1 h2;rw[WW] at this;exact x.ok.pinned (i,a) (by rw[hc]; exact this)
 have uh:∀ (i:Nat) (d:D),bc[i]? = some (.own d)->(∃ d₀,ss[i]? = some (.own d₀))/\δ'[i]? = some (some (.own d)):=λi d e=>by
  have hi:i < ss.length:=by rw[<- hlen]; exact(W6.mp e).1
  rcases ug i ss[i] (by simp[hi]) with ⟨d₁,z1,z2⟩ | ⟨d₁,d',z1,z2,z3⟩
  ·rw[e] at z2; cases z2
  ·rw[e] at z3; cases z3
   rw[WW] at z2;exact⟨⟨d₁,by rw[Wg hi,z1]⟩,z2⟩
 have sub:∀ b,Own (de vs) (dg bc) b->Own σ' δ' b:=λb ⟨i,d,e1,e2⟩=>by
  obtain⟨⟨d₀,h0⟩,h1⟩:=uh i d (fU.mp e1);exact⟨i,d,h1,pin i b d₀ h0 (gn.mp e2)⟩
 have nR:∀ b,Av c (de vs) (dg bc) b->Av c σ' δ' b:=λb z=>z.elim .inl λz=>.inr (sub b z)
 have Dd:∀ {c':Fc},c'.pin=c.pin->Ok c' σ' δ' H'->(∀ b,c.B b->c'.B b)->(∀ (i:Nat) d v,ss[i]? = some (.pure d)->vs[i]? = some v->Rep H' (Av c' σ' δ') v d)->Ok c' (de vs) (dg bc) H':=λ{c'} ep k' hB hsl=>by
  have De:∀ b,Av c' (de vs) (dg bc) b->Av c' σ' δ' b:=λb z=>z.elim .inl λz=>.inr (sub b z)
  refine⟨k'.keep,k'.bd,k'.eT,by simp[hlen,nT],λi d e=>?_,λi d e=>?_,λi j a d d' e1 e2 e3 e4=>?_,λp hm=>?_⟩
  ·have e':=fU.mp e;have hi:i < ss.length:=by rw[<- hlen]; exact(W6.mp e').1
   have hv:i < vs.length:=by omega
   rcases ug i ss[i] (by simp[hi]) with ⟨d₁,z1,z2⟩ | ⟨d₁,d',z1,z2,z3⟩
   ·rw[e'] at z2; cases z2
    exact⟨vs[i],by simp[hv],(hsl i d vs[i] (by rw[Wg hi,z1]) (by simp[hv])).aW λb z=>.inl (De b z)⟩
   ·rw[e'] at z3; cases z3
  ·have e':=fU.mp e;obtain⟨⟨d₀,h0⟩,h1⟩:=uh i d e';obtain⟨a₀,h2,_⟩:=k.own i d₀ (fU.mpr h0);obtain⟨a,h3,h4,h5⟩:=k'.own i d h1;rw[pin i a₀ d₀ h0 (gn.mp h2)] at h3
   cases h3;exact⟨a₀,h2,h4.aW λb z=>.inl (De b z),h5⟩
  ·obtain⟨⟨d₀,h0⟩,h1⟩:=uh i d (fU.mp e1);obtain⟨⟨d₁,h2⟩,h3⟩:=uh j d' (fU.mp e2);exact k'.inj i j a d d' h1 h3 (pin i a d₀ h0 (gn.mp e3)) (pin j a d₁ h2 (gn.mp e4))
  ·exact k.pinned p (by rw[<- ep]; exact hm)
 have slots:∀ (i:Nat) d v,ss[i]? = some (.pure d)->vs[i]? = some v->Rep H' (Av c σ' δ') v d:=λi d v h1 h2=>by
  obtain⟨w,e1,r⟩:=(k.ext n).slot i d (k7 (fU.mpr h1));rw[k7 (gn.mpr h2)] at e1
  cases e1;exact Rep.cR r x
 refine⟨⟨Dd rfl x.ok (λ_ z=>z) slots,λa o e m=>x.keep a o e λz=>m (Own.ext.mp z),λa z=>(x.own a (sub a z)).elim (λz=>.inl (Own.ext.mp z)) .inr,x.there⟩,λv r hr=>?_⟩
 cases r with
 | pure d=>exact Rep.aW hr λb z=>.inl (nR b z)
 | own d =>
  obtain⟨a,ea,o,nb,h0,kp,hs⟩:=hr;refine⟨a,ea,o.aW λb z=>.inl (z.elim .inl λz=>.inr (sub b z)),nb,h0,Dd rfl kp (λ_ z=>.inl z) λi d v h1 h2=>?_,hs⟩;obtain⟨w,e1,r⟩:=(k.ext n).slot i d (k7 (fU.mpr h1));rw[k7 (gn.mpr h2)] at e1
  cases e1;have pe:H a=none:=hs;have r1:Rep H (Av c (de vs ++ We n none) (dg ss ++ We n none)) v d:=r;have r2:Rep H (λb=>Av c (de vs ++ We n none) (dg ss ++ We n none) b\/Av (c.plus a) σ' δ' b) v d:=r1.aW λb z=>by
   rcases z with z | (z | z) | z
   ·exact .inl z
   ·exact .inl (.inl z)
   ·exact .inr (by rw[z]; exact pe)
   ·rcases x.own b z with q | q
    ·exact .inl (.inr q)
    ·exact .inr q
  exact(r2.keep λb o e m=>x.keep b o e λz=>m (.inl (.inr z))).aW λb z=>.inl (.inr z)
end
section
variable {P:Wm} {w:Wq} {K:W3} {mg:Str->Option Value} {base:Heap}
theorem Df{x qual:Str}{st:Stmt}{f:Addr}{fd:Qn}{N ps:List Str}{k:Nat}{np:List Nat}{fb:DS}{G:DF}(F:cu K x qual st f fd)(S:cL N ps (cf st))
  (nh:∀ (c:Fc) (bu:Value) (A:Wu) (outer:List Env) (s:W4) (H:Hp) (E:XK),fu k (A.deeper (envOfC qual (cf st) s.heap.objs.size f bu))->Np c np->i4 (lQ jw P w K mg base N qual (cf st) f bu A outer s H E).oF c (jv st) fb)
  (hG:∀ ss y,G ss=some y->cK np 0 ss=true/\hW fb N.length ss=some y):jt P w K mg base jw (k + 1) f fd ps (mi ps.length G):=by
 refine F.ok S (λvs H Q E h=>?_) λbu A outer s H vs Q E hr h=>?_
 ·obtain⟨ss,B,hl,_⟩:=h;exact hl
 ·obtain⟨ss,B,hl,ok,r,bc,hg,q⟩:=h;obtain⟨jI,hrun⟩:=hG ss _ hg;have nT:ss.length=vs.length:=by have:=ok.len; simpa using this
  have NB:Np ⟨H,B,eC 0 ss vs,λ_ _=>False⟩ np:=λp hp=>by
   obtain⟨j,d,e,h1,_⟩:=qP (i:=p.1) (a:=p.2) hp;rw[e];exact C_ jI h1
  refine⟨qG ⟨H,B,eC 0 ss vs,λ_ _=>False⟩ fb,nh ⟨H,B,eC 0 ss vs,λ_ _=>False⟩ bu A outer s H E hr NB,?_⟩;have iS:j4 N vs=de vs ++ We (N.length - ss.length) none:=by rw[nT]; rfl
  refine⟨bX N.length ss,by rw[iS]; exact ok.ext _,?_⟩;unfold hW at hrun;unfold fD
  cases e:fb (bX N.length ss) with
  | exc x δx=>rw[e] at hrun; cases hrun
  | stuck=>rw[e] at hrun; cases hrun
  | ok fl δ' =>
   rw[e] at hrun;show ∀ σ' H',a7 _ (j4 N vs) (bX N.length ss) H σ' δ' H'->fin _ _ σ' δ' H' fl;intro σ' H' a;rw[iS] at a;simp only at hrun
   cases fl with
   | brk=>cases hrun
   | cont=>cases hrun
   | next =>
    simp only[dq,Qp] at hrun
    cases eo:cC 0 ss δ' with
    | none=>rw[eo] at hrun; cases hrun
    | some os =>
     rw[eo] at hrun
     cases hrun;obtain⟨l1,l2⟩:=Dc rfl ok a eo;exact q .bf H' l1 .bf
   | ret r' =>
    simp only[dq,Qp] at hrun
    cases eo:cC 0 ss δ' with
    | none=>rw[eo] at hrun; cases hrun
    | some os =>
     rw[eo] at hrun
     cases hrun;obtain⟨l1,l2⟩:=Dc rfl ok a eo;exactλv rv=>q v H' l1 (l2 v _ rv)
theorem dQ{x qual:Str}{st:Stmt}{f:Addr}{fd:Qn}{N ps:List Str}{k:Nat}{np:List Nat}{fb:DS}{G:DF}(F:cu K x qual st f fd)(hm:mg x=some (.ref f))(hb:Binds K fd ps [])(S:cL N ps (cf st))
  (nh:∀ (c:Fc) (bu:Value) (A:Wu) (outer:List Env) (s:W4) (H:Hp) (E:XK),fu k (A.deeper (envOfC qual (cf st) s.heap.objs.size f bu))->Np c np->i4 (lQ jw P w K mg base N qual (cf st) f bu A outer s H E).oF c (jv st) fb)
  (hG:∀ ss y,G ss=some y->cK np 0 ss=true/\hW fb N.length ss=some y):aP P w K mg base (k + 1) x ps.length G:=⟨f,fd,ps,hm,F.kp,hb,Df F S nh hG⟩
end
inductive Ak where
 | val (f:DE)
 | io (i:Nat)
def bw:List Ak->Dl->Rs (List (Option D))
 | [],δ=>.ok [] δ
 | .val f :: r,δ=>(f δ).bind λx δ1=>(bw r δ1).bind λxs δ2=>.ok (some x.d :: xs) δ2
 | .io _ :: r,δ=>(bw r δ).bind λxs δ2=>.ok (none :: xs) δ2
inductive k8 (c:Fc) (σ:St) (δ:Dl) (H:Hp):List V->List Ak->List (Option D)->Prop
 | nil:k8 c σ δ H [] [] []
 | val {v:V} {d:D} {f:DE} {vs:List V} {as:List Ak} {ds:List (Option D)}:Rep H (Av c σ δ) v d->k8 c σ δ H vs as ds->k8 c σ δ H (v :: vs) (.val f :: as) (some d :: ds)
 | io {v:V} {i:Nat} {vs:List V} {as:List Ak} {ds:List (Option D)}:σ[i]? = some (some v)->k8 c σ δ H vs as ds->k8 c σ δ H (v :: vs) (.io i :: as) (none :: ds)
def tX(c:Fc)(as:List Ak):TA:=λσ H Q=>∃ δ,Ok c σ δ H/\(∀ i,Ak.io i ∈ as->∃ v,σ[i]? = some (some v))/\post c (bw as δ) λds δ'=>∀ vs H',a7 c σ δ H σ δ' H'->k8 c σ δ' H' vs as ds->Q vs H'
abbrev SX(X:Cx)(c:Fc)(es:List Expr)(as:List Ak):Prop:=PA X es (tX c as)
section
variable {X:Cx} {c:Fc} {e:Expr} {es:List Expr} {fe:DE} {as:List Ak} {pos pp:Pos}
theorem bD:SX X c [] []:=PA.weak gJ λσ H Q ⟨δ,k,_,q⟩=>q [] H (.refl k) .nil
theorem NC(ha:SE X c e fe)(hr:SX X c es as)(hs:Wf (e :: es) X.env=(false,eval e X.env) :: Wf es X.env:=by rfl):SX X c (e :: es) (.val fe :: as):=PA.weak (fw ha hr hs) λσ H Q ⟨δ,k,jI,q⟩=>by
 unfold bw at q;rw[a_] at q;refine⟨δ,k,aO q λx δ1 q1 v H1 a1 r1=>⟨δ1,a1.ok,λi hi=>jI i (W7 _ hi),?_⟩⟩;rw[a_] at q1;exact aO q1 λxs δ2 q2 vs H2 a2 r2=>q2 (v :: vs) H2 (a1.trans a2) (.val (Rep.cR r1.rep a2) r2)
theorem ND(ha:PE X e (cz i))(hr:SX X c es as)(hs:Wf (e :: es) X.env=(false,eval e X.env) :: Wf es X.env:=by rfl):SX X c (e :: es) (.io i :: as):=PA.weak (fw ha hr hs) λσ H Q ⟨δ,k,jI,q⟩=>by
 obtain⟨v,ev⟩:=jI i Wb;unfold bw at q;rw[a_] at q;exact⟨v,ev,δ,k,λi hi=>jI i (W7 _ hi),aO q λxs δ2 q2 vs H2 a2 r2=>q2 (v :: vs) H2 a2 (.io ev r2)⟩
end
def bo:List Ak->List (Option D)->Dl->Option (List S)
 | [],[],_=>some []
 | .val _ :: as,some d :: ds,δ=>(bo as ds δ).map (.pure d :: ·)
 | .io i :: as,none :: ds,δ=>match δ[i]? with
  | some (some (.own d))=>(bo as ds δ).map (.own d :: ·)
  | _=>none
 | _,_,_=>none
def ba:List Ak->List Nat
 | []=>[]
 | .val _ :: as=>ba as
 | .io i :: as=>i :: ba as
def aQ:List Ak->List S->Dl->Dl
 | .io i :: as,r :: rs,δ=>aQ as rs (δ.set i (some r))
 | .val _ :: as,_ :: rs,δ=>aQ as rs δ
 | _,_,δ=>δ
def bA:List Nat->Bool
 | []=>true
 | i :: r=>!r.contains i && bA r
def aw(G:DF)(as:List Ak):DE:=λδ=>if (ba as).all (bt δ) && bA (ba as) then(bw as δ).bind λds δ1=>match bo as ds δ1 with
  | none=>.stuck
  | some ss=>match G ss with
   | none=>.stuck
   | some (r,bc)=>.ok r (aQ as bc δ1)
 else .stuck
theorem Dg:∀ {l:List Nat},bA l=true->l.Nodup
 | [],_=>.nil
 | i :: r,h=>by
  simp only[bA,Ws,Bool.not_eq_true'] at h;exact List.nodup_cons.mpr ⟨λhm=>by have:=h.1; simp at this; exact this hm,Dg h.2⟩
theorem nU:∀ {as:List Ak} {i:Nat},i ∈ ba as ↔ Ak.io i ∈ as
 | [],i=>by simp[ba]
 | .val f :: as,i=>by simp[ba,nU (as:=as)]
 | .io j :: as,i=>by simp[ba,nU (as:=as)]
theorem wR:∀ {as:List Ak} {i j k:Nat},(ba as).Nodup->as[j]? = some (.io i)->as[k]? = some (.io i)->j=k
 | [],i,j,k,_,h,_=>by simp at h
 | .val f :: as,i,j,k,nd,h1,h2=>by
  cases j with
  | zero=>simp at h1
  | succ j =>
   cases k with
   | zero=>simp at h2
   | succ k=>exact congrArg (· + 1) (wR (as:=as) nd (by simpa using h1) (by simpa using h2))
 | .io n :: as,i,j,k,nd,h1,h2=>by
  have pf:=WO.mp nd
  cases j with
  | zero =>
   simp at h1;subst h1
   cases k with
   | zero=>rfl
   | succ k=>exact absurd (nU.mpr (Wz (by simpa using h2))) pf.1
  | succ j =>
   cases k with
   | zero =>
    simp at h2;subst h2;exact absurd (nU.mpr (Wz (by simpa using h1))) pf.1
   | succ k=>exact congrArg (· + 1) (wR (as:=as) pf.2 (by simpa using h1) (by simpa using h2))
section
variable {c:Fc} {σ:St} {δ:Dl} {H:Hp} {vs:List V} {as:List Ak} {ds:List (Option D)} {ss:List S}
theorem wU(h:k8 c σ δ H vs as ds):∀ {ss:List S},bo as ds δ=some ss->ss.length=vs.length/\as.length=vs.length/\∀ (j:Nat) s v,ss[j]? = some s->vs[j]? = some v ->
  (∃ d f,s = .pure d/\as[j]? = some (.val f)/\Rep H (Av c σ δ) v d)\/∃ d i,s = .own d/\as[j]? = some (.io i)/\σ[i]? = some (some v)/\δ[i]? = some (some (.own d)):=by
 induction h with
 | nil =>
  intro ss h;simp only[bo,Wc] at h;subst h;exact⟨rfl,rfl,λj s v e _=>by simp at e⟩
 | @val v d f vs as ds r _ ih =>
  intro ss h;simp only[bo] at h
  cases e:bo as ds δ with
  | none=>rw[e] at h; cases h
  | some rs =>
   rw[e] at h;simp only[WC,Wc] at h;subst h;obtain⟨h1,h2,h3⟩:=ih e;refine⟨by simp[h1],by simp[h2],λj s v' e1 e2=>?_⟩
   cases j with
   | zero=>simp at e1 e2; subst e1 e2; exact .inl ⟨d,f,rfl,rfl,r⟩
   | succ j=>simpa using h3 j s v' (by simpa using e1) (by simpa using e2)
 | @io v i vs as ds ev _ ih =>
  intro ss h;simp only[bo] at h;split at h
  ·rename_i d ed
   cases e:bo as ds δ with
   | none=>rw[e] at h; cases h
   | some rs =>
    rw[e] at h;simp only[WC,Wc] at h;subst h;obtain⟨h1,h2,h3⟩:=ih e;refine⟨by simp[h1],by simp[h2],λj s v' e1 e2=>?_⟩
    cases j with
    | zero=>simp at e1 e2; subst e1 e2; exact .inr ⟨d,i,rfl,rfl,ev,ed⟩
    | succ j=>simpa using h3 j s v' (by simpa using e1) (by simpa using e2)
  ·cases h
theorem wV:∀ (as:List Ak) (rs:List S) (δ:Dl),(aQ as rs δ).length=δ.length
 | [],rs,δ=>by simp[aQ]
 | .val f :: as,[],δ=>by simp[aQ]
 | .io i :: as,[],δ=>by simp[aQ]
 | .val f :: as,r :: rs,δ=>by simp[aQ,wV as rs δ]
 | .io i :: as,r :: rs,δ=>by simp[aQ,wV as rs]
theorem qQ:∀ (as:List Ak) (rs:List S) (δ:Dl) (i:Nat),i ∉ ba as->(aQ as rs δ)[i]? = δ[i]?
 | [],rs,δ,i,_=>by simp[aQ]
 | .val f :: as,[],δ,i,_=>by simp[aQ]
 | .io j :: as,[],δ,i,_=>by simp[aQ]
 | .val f :: as,r :: rs,δ,i,h=>by rw[aQ]; exact qQ as rs δ i h
 | .io j :: as,r :: rs,δ,i,h=>by
  simp only[ba,Wr,not_or] at h;rw[aQ,qQ as rs _ i h.2,W9 (Ne.symm h.1)]
theorem ui:∀ (as:List Ak) (rs:List S) (δ:Dl) (i j:Nat) (r:S),(ba as).Nodup->as[j]? = some (.io i)->rs[j]? = some r->i < δ.length->(aQ as rs δ)[i]? = some (some r)
 | [],rs,δ,i,j,r,_,h,_,_=>by simp at h
 | a :: as,[],δ,i,j,r,_,_,h,_=>by simp at h
 | .val f :: as,r0 :: rs,δ,i,j,r,nd,h1,h2,hi=>by
  cases j with
  | zero=>simp at h1
  | succ j=>rw[aQ]; exact ui as rs δ i j r nd (by simpa using h1) (by simpa using h2) hi
 | .io k :: as,r0 :: rs,δ,i,j,r,nd,h1,h2,hi=>by
  have pf:=WO.mp nd
  cases j with
  | zero =>
   simp at h1 h2;subst h1 h2;rw[aQ,qQ as rs _ k pf.1,Wn hi]
  | succ j=>rw[aQ]; exact ui as rs _ i j r pf.2 (by simpa using h1) (by simpa using h2) (by simpa using hi)
theorem NF(k:Ok c σ δ H)(hr:k8 c σ δ H vs as ds)(hm:bo as ds δ=some ss)(nd:(ba as).Nodup) :
  Ok ⟨H,λa=>Av c σ δ a/\¬ ∃ (j:Nat) (d:D),ss[j]? = some (S.own d)/\vs[j]? = some (V.ref a),eC 0 ss vs,λ_ _=>False⟩ (de vs) (dg ss) H:=by
 obtain⟨h1,h2,h3⟩:=wU hr hm;have at':∀ (j:Nat) s,ss[j]? = some s->∃ v,vs[j]? = some v:=λj s e=>by
  have:j < vs.length:=by rw[<- h1]; exact(W6.mp e).1
  exact⟨vs[j],by simp[this]⟩
 have Dh:∀ a,Own (de vs) (dg ss) a ↔ ∃ (j:Nat) (d:D),ss[j]? = some (S.own d)/\vs[j]? = some (V.ref a):=λa =>
  ⟨λ⟨j,d,e1,e2⟩=>⟨j,d,fU.mp e1,gn.mp e2⟩,λ⟨j,d,e1,e2⟩=>⟨j,d,fU.mpr e1,gn.mpr e2⟩⟩
 have Di:∀ a,Own (de vs) (dg ss) a->Own σ δ a:=λa z=>by
  obtain⟨j,d,e1,e2⟩:=(Dh a).mp z;rcases h3 j _ _ e1 e2 with ⟨d',f,e,_⟩ | ⟨d',i,e,_,es,ed⟩
  ·cases e
  ·exact⟨i,d',ed,es⟩
 have sub:∀ a,Av ⟨H,λa=>Av c σ δ a/\¬ ∃ (j:Nat) (d:D),ss[j]? = some (S.own d)/\vs[j]? = some (V.ref a),eC 0 ss vs,λ_ _=>False⟩ (de vs) (dg ss) a->Av c σ δ a:=λa z=>z.elim (λz=>z.1) λz=>.inr (Di a z)
 refine⟨λa o e _=>e,λa z=>k.B6 z.1,λa ⟨i,hi⟩=>?_,by simp[h1],λj d e=>?_,λj d e=>?_,λi j a d d' e1 e2 e3 e4=>?_,λp hp=>?_⟩
 ·obtain⟨j,d,_,e1,e2⟩:=qP hi;exact k.l5 (Di a ((Dh a).mpr ⟨j,d,e1,e2⟩))
 ·have e':=fU.mp e;obtain⟨v,ev⟩:=at' j _ e';rcases h3 j _ v e' ev with ⟨d',f,e,_,r⟩ | ⟨d',i,e,_⟩
  ·cases e;exact⟨v,gn.mpr ev,r.aW λb z=>.inl (sub b z)⟩
  ·cases e
 ·have e':=fU.mp e;obtain⟨v,ev⟩:=at' j _ e';rcases h3 j _ v e' ev with ⟨d',f,e,_,r⟩ | ⟨d',i,e,_,es,ed⟩
  ·cases e
  ·cases e;obtain⟨a,g1,g2,g3⟩:=k.own i d ed;rw[es] at g1
   cases g1;refine⟨a,gn.mpr ev,g2.aW λb z=>.inl (sub b z),.inl ⟨0 + j,ue e' ev⟩,λz=>z.2 ⟨j,d,e',ev⟩⟩
 ·have f1:=fU.mp e1;have f2:=fU.mp e2;rcases h3 i _ _ f1 (gn.mp e3) with ⟨_,_,e,_⟩ | ⟨d1,i1,e,a1,s1,x1⟩
  ·cases e
  ·rcases h3 j _ _ f2 (gn.mp e4) with ⟨_,_,e',_⟩ | ⟨d2,i2,e',a2,s2,x2⟩
   ·cases e'
   ·have:=k.inj i1 i2 a d1 d2 x1 x2 s1 s2;subst this;exact wR nd a1 a2
 ·obtain⟨j,d,e,e1,e2⟩:=qP (i:=p.1) (a:=p.2) hp;rw[WW] at e;rw[e];exact gn.mpr e2
theorem NG(k:Ok c σ δ H)(hr:k8 c σ δ H vs as ds)(hm:bo as ds δ=some ss)(nd:(ba as).Nodup)(hB:B=λa=>Av c σ δ a/\¬ ∃ (j:Nat) (d:D),ss[j]? = some (S.own d)/\vs[j]? = some (V.ref a))
  (x:a7 ⟨H,B,eC 0 ss vs,λ_ _=>False⟩ (de vs) (dg ss) H (de vs) (dg bc) H') (jI:∀ (j:Nat) d,ss[j]? = some (.own d)->∃ d',bc[j]? = some (.own d')) (V7:∀ (j:Nat) d,ss[j]? = some (.pure d)->∃ d',bc[j]? = some (.pure d')) :
  a7 c σ δ H σ (aQ as bc δ) H'/\∀ v r,bp ⟨H,B,eC 0 ss vs,λ_ _=>False⟩ (de vs) (dg bc) H H' v r->bp c σ (aQ as bc δ) H H' v r:=by
 obtain⟨h1,h2,h3⟩:=wU hr hm;have uj:∀ i,i ∈ ba as->∃ (j:Nat) (d:D) (a:Addr),as[j]? = some (.io i)/\ss[j]? = some (.own d)/\vs[j]? = some (.ref a)/\σ[i]? = some (some (.ref a))/\δ[i]? = some (some (.own d)):=λi hi=>by
  obtain⟨j,hj,ej⟩:=List.mem_iff_getElem.mp (nU.mp hi);have hv:j < vs.length:=by omega
  have hs:j < ss.length:=by omega
  have wW:as[j]? = some (.io i):=by rw[Wg hj,ej]
  rcases h3 j ss[j] vs[j] (by simp[hs]) (by simp[hv]) with ⟨d,f,e,a1,_⟩ | ⟨d,i',e,a1,s1,x1⟩
  ·rw[wW] at a1; cases a1
  ·rw[wW] at a1; cases a1
   obtain⟨a,g1,_⟩:=k.own i d x1;rw[s1] at g1;have g2:vs[j] = .ref a:=by
    have:=Wy g1;exact Wy this
   exact⟨j,d,a,wW,by rw[Wg hs,e],by rw[Wg hv,g2],by rw[s1,g2],x1⟩
 have qR:∀ a,(∃ (j:Nat) (d:D),ss[j]? = some (S.own d)/\vs[j]? = some (V.ref a))->Own σ δ a:=λa ⟨j,d,e1,e2⟩=>by
  rcases h3 j _ _ e1 e2 with ⟨d',f,e,_⟩ | ⟨d',i,e,_,es,ed⟩
  ·cases e
  ·exact⟨i,d',ed,es⟩
 have V8:∀ a,(⟨H,B,eC 0 ss vs,λ_ _=>False⟩:Fc).I a ↔ ∃ (j:Nat) (d:D),ss[j]? = some (S.own d)/\vs[j]? = some (V.ref a):=λa =>
  ⟨λ⟨i,hi⟩=>by obtain⟨j,d,_,e1,e2⟩:=qP hi; exact⟨j,d,e1,e2⟩,λ⟨j,d,e1,e2⟩=>⟨0 + j,ue e1 e2⟩⟩
 have ownIn:∀ a,Own (de vs) (dg ss) a->∃ (j:Nat) (d:D),ss[j]? = some (S.own d)/\vs[j]? = some (V.ref a):=λa ⟨j,d,e1,e2⟩=>⟨j,d,fU.mp e1,gn.mp e2⟩
 -- the owned addresses are the same
 have uk:∀ (i:Nat) (d:D),(aQ as bc δ)[i]? = some (some (.own d))->(i ∉ ba as/\δ[i]? = some (some (.own d)))\/(i ∈ ba as/\∃ (j:Nat) (d0:D) (a:Addr),as[j]? = some (.io i)/\ss[j]? = some (.own d0)/\vs[j]? = some (.ref a)/\σ[i]? = some (some (.ref a))/\bc[j]? = some (.own d)):=λi d e=>by
  by_cases hi:i ∈ ba as
  ·right
   obtain⟨j,d0,a,a1,a2,a3,a4,a5⟩:=uj i hi;obtain⟨d',ed'⟩:=jI j d0 a2;have aS:i < δ.length:=(W6.mp a5).1;have:=ui as bc δ i j (.own d') nd a1 ed' aS;rw[e] at this
   cases this;exact⟨hi,j,d0,a,a1,a2,a3,a4,ed'⟩
  ·rw[qQ as bc δ i hi] at e;exact .inl ⟨hi,e⟩
 have qS:∀ b,Own σ (aQ as bc δ) b->Own σ δ b:=λb ⟨i,d,e1,e2⟩=>by
  rcases uk i d e1 with ⟨_,e⟩ | ⟨hi,j,d0,a,_,a2,a3,a4,_⟩
  ·exact⟨i,d,e,e2⟩
  ·rw[e2] at a4;have:b=a:=by injection (Wy (Wy a4))
   subst this;exact qR b ⟨j,d0,a2,a3⟩
 have NH:∀ (i:Nat) (d:D),(aQ as bc δ)[i]? = some (some (.pure d))->i ∉ ba as/\δ[i]? = some (some (.pure d)):=λi d e=>by
  by_cases hi:i ∈ ba as
  ·obtain⟨j,d0,a,a1,a2,a3,a4,a5⟩:=uj i hi;obtain⟨d',ed'⟩:=jI j d0 a2;have aS:i < δ.length:=(W6.mp a5).1;have:=ui as bc δ i j (.own d') nd a1 ed' aS;rw[e] at this
   cases this
  ·rw[qQ as bc δ i hi] at e;exact⟨hi,e⟩
 have Dj:∀ a o,H a=some o->¬ Av c σ δ a->H' a=some o:=λa o e n=>x.keep a o e λz=>n (.inr (qR a (ownIn a z)))
 have nR:∀ b,Av c σ (aQ as bc δ) b->Av c σ δ b:=λb z=>z.elim .inl λz=>.inr (qS b z)
 -- the callee's set holds ours
 have big:∀ {c':Fc},c'.B=B->∀ b,Av c σ δ b->Av c' (de vs) (dg bc) b:=λ{c'} hB' b z=>by
  by_cases hp:∃ (j:Nat) (d:D),ss[j]? = some (S.own d)/\vs[j]? = some (V.ref b)
  ·obtain⟨j,d,e1,e2⟩:=hp;obtain⟨d',ed'⟩:=jI j d e1;exact .inr ⟨j,d',fU.mpr ed',gn.mpr e2⟩
  ·exact .inl (by rw[hB',hB]; exact⟨z,hp⟩)
 have Dk:∀ (c1 c2:Fc),c1.H₀=c.H₀->c1.pin=c.pin->(∀ b,c1.B b->c.B b\/(c2.B b/\H b=none))->c2.pin=eC 0 ss vs->(∀ b,B b->c2.B b)->Ok c2 (de vs) (dg bc) H'->(∀ b,c1.B b->∃ o,H' b=some o)->Ok c1 σ (aQ as bc δ) H':=λc1 c2 e0 e1 e2 e3 e4 k2 hex=>by
  have Dm:∀ b,Av c1 σ (aQ as bc δ) b->Av c σ δ b\/H b=none:=λb z=>by
   rcases z with z | z
   ·rcases e2 b z with z | ⟨_,z⟩
    ·exact .inl (.inl z)
    ·exact .inr z
   ·exact .inl (.inr (qS b z))
  have tJ:∀ b,Av c1 σ (aQ as bc δ) b->Av c2 (de vs) (dg bc) b:=λb z=>by
   have bg:∀ b,Av c σ δ b->Av c2 (de vs) (dg bc) b:=λb z=>by
    by_cases hp:∃ (j:Nat) (d:D),ss[j]? = some (S.own d)/\vs[j]? = some (V.ref b)
    ·obtain⟨j,d,e1,e2⟩:=hp;obtain⟨d',ed'⟩:=jI j d e1;exact .inr ⟨j,d',fU.mpr ed',gn.mpr e2⟩
    ·exact .inl (e4 b (by rw[hB]; exact⟨z,hp⟩))
   rcases z with z | z
   ·rcases e2 b z with z | ⟨z,_⟩
    ·exact bg b (.inl z)
    ·exact .inl z
   ·exact bg b (.inr (qS b z))
  have NI:∀ {v:V} {d:D},Rep H (Av c σ δ) v d->Rep H' (Av c1 σ (aQ as bc δ)) v d:=λ{v d} r=>by
   have r1:Rep H (λb=>Av c σ δ b\/Av c1 σ (aQ as bc δ) b) v d:=r.aW λb z=>z.elim .inl (Dm b)
   exact(r1.keep λb o e n=>Dj b o e λz=>n (.inl z)).aW λb z=>.inl (.inr z)
  refine⟨λa o e n=>?_,hex,λa z=>?_,by rw[wV]; exact k.len,λi d e=>?_,λi d e=>?_,λi j a d d' f1 f2 f3 f4=>?_,by rw[e1]; exact k.pinned⟩
  ·rw[e0] at e;have n':¬ c.I a:=λz=>n (by unfold Fc.I at z ⊢; rw[e1]; exact z)
   refine x.keep a o (k.keep a o e n') λz=>?_
   obtain⟨i,d,g1,g2⟩:=qR a (ownIn a z);obtain⟨a',g3,_,g4,_⟩:=k.own i d g1;rw[g2] at g3; cases g3
   rcases g4 with g4 | g4
   ·exact n' g4
   ·rw[g4] at e; cases e
  ·have z':c.I a:=by unfold Fc.I at z ⊢; rw[<- e1]; exact z
   obtain⟨o,e⟩:=k.eT a z';exact x.there a o e
  ·obtain⟨hi,e'⟩:=NH i d e;obtain⟨v,g1,g2⟩:=k.slot i d e';exact⟨v,g1,NI g2⟩
  ·rcases uk i d e with ⟨hi,e'⟩ | ⟨hi,j,d0,a,b1,b2,b3,b4,b5⟩
   ·obtain⟨a,g1,g2,g3,g4⟩:=k.own i d e';have na:¬ Own (de vs) (dg ss) a:=λz=>by
     obtain⟨j,d1,q1,q2⟩:=ownIn a z;rcases h3 j _ _ q1 q2 with ⟨d',f,ee,_⟩ | ⟨d',i',ee,ai,es,ed⟩
     ·cases ee
     ·have:=k.inj i i' a d d' e' ed g1 es;subst this;exact hi (nU.mpr (Wz ai))
    have NJ:gx H' (Av c1 σ (aQ as bc δ)) a d:=by
     have o1:gx H (λb=>Av c σ δ b\/Av c1 σ (aQ as bc δ) b) a d:=g2.aW λb z=>z.elim .inl (Dm b)
     exact(o1.keep (λb o e n=>Dj b o e λz=>n (.inl z)) λo e=>x.keep a o e na).aW λb z=>.inl (.inr z)
    refine⟨a,g1,NJ,by unfold Fc.I at g3 ⊢; rw[e0,e1]; exact g3,λz=>?_⟩;rcases e2 a z with z | ⟨_,z⟩
    ·exact g4 z
    ·obtain⟨o,eo⟩:=g2.some;rw[z] at eo; cases eo
   ·obtain⟨a',g1,g2,g3,g4⟩:=k2.own j d (fU.mpr b5);rw[gn.mpr b3] at g1
    cases g1;obtain⟨i0,d1,q1,q2⟩:=qR a ⟨j,d0,b2,b3⟩;obtain⟨a'',q3,q4,q5,q6⟩:=k.own i0 d1 q1;rw[q2] at q3; cases q3
    refine⟨a,b4,g2.aW λb z=>.inl (tJ b z),by unfold Fc.I at q5 ⊢; rw[e0,e1]; exact q5,λz=>?_⟩;rcases e2 a z with z | ⟨_,z⟩
    ·exact q6 z
    ·obtain⟨o,eo⟩:=q4.some;rw[z] at eo; cases eo
  ·obtain⟨d1,g1⟩:∃ d1,δ[i]? = some (some (.own d1)):=by
    rcases uk i d f1 with ⟨_,e'⟩ | ⟨hi,_⟩
    ·exact⟨d,e'⟩
    ·obtain⟨_,d1,_,_,_,_,_,a5⟩:=uj i hi;exact⟨d1,a5⟩
   obtain⟨d2,g2⟩:∃ d2,δ[j]? = some (some (.own d2)):=by
    rcases uk j d' f2 with ⟨_,e'⟩ | ⟨hi,_⟩
    ·exact⟨d',e'⟩
    ·obtain⟨_,d1,_,_,_,_,_,a5⟩:=uj j hi;exact⟨d1,a5⟩
   exact k.inj i j a d1 d2 g1 g2 f3 f4
 have NL:Ok c σ (aQ as bc δ) H':=Dk c ⟨H,B,eC 0 ss vs,λ_ _=>False⟩ rfl rfl (λb z=>.inl z) rfl (λb z=>z) x.ok λb z=>by
  obtain⟨o,e⟩:=k.bd b z;exact x.there b o e
 refine⟨⟨NL,λa o e n=>x.keep a o e λz=>n (qR a (ownIn a z)),λa z=>.inl (qS a z),x.there⟩,λv r hr=>?_⟩
 cases r with
 | pure d=>exact Rep.aW hr λb z=>.inl (big rfl b (nR b z))
 | own d =>
  obtain⟨a,ea,o,nb,h0,kp,hs⟩:=hr;have pe:H a=none:=hs;have jz:¬ Av c σ δ a:=k.jz pe;refine⟨a,ea,o.aW λb z=>.inl ?_,λz=>jz (.inl z),k.nD pe,?_,pe⟩
  ·rcases z with (z | z) | z
   ·exact(big rfl b (.inl z)).elim (λz=>.inl (.inl z)) .inr
   ·exact .inl (.inr z)
   ·exact(big rfl b (.inr (qS b z))).elim (λz=>.inl (.inl z)) .inr
  ·refine Dk (c.plus a) (Fc.plus ⟨H,B,eC 0 ss vs,λ_ _=>False⟩ a) rfl rfl (λb z=>?_) rfl (λb z=>.inl z) kp λb z=>?_
   ·rcases z with z | z
    ·exact .inl z
    ·exact .inr ⟨.inr z,by rw[z]; exact pe⟩
   ·rcases z with z | z
    ·obtain⟨o,e⟩:=k.bd b z;exact x.there b o e
    ·rw[z]; exact o.some
end
def c7(G:DF):Prop:=∀ ss r bc,G ss=some (r,bc)->bc.length=ss.length/\∀ (j:Nat),(∀ d,ss[j]? = some (.own d)->∃ d',bc[j]? = some (.own d'))/\∀ d,ss[j]? = some (.pure d)->∃ d',bc[j]? = some (.pure d')
theorem NM(hG:∀ ss y,G ss=some y->hW fb n ss=some y):c7 G:=λss r bc h=>by
 have:=hG ss _ h;unfold hW at this
 cases e:fb (bX n ss) with
 | exc x δx=>rw[e] at this; cases this
 | stuck=>rw[e] at this; cases this
 | ok fl δ =>
  rw[e] at this;simp only at this
  cases e1:dq fl with
  | none=>rw[e1] at this; cases this
  | some r' =>
   rw[e1] at this;simp only[Qp] at this
   cases e2:cC 0 ss δ with
   | none=>rw[e2] at this; cases this
   | some os =>
    rw[e2] at this
    cases this;obtain⟨h1,h2⟩:=uf e2;refine⟨h1,λj=>⟨λd ed=>?_,λd ed=>?_⟩⟩
    ·rcases h2 j _ ed with ⟨d',z,_⟩ | ⟨d',d'',_,_,z⟩
     ·cases z
     ·exact⟨d'',z⟩
    ·rcases h2 j _ ed with ⟨d',z,z'⟩ | ⟨d',d'',z,_⟩
     ·exact⟨d',z'⟩
     ·cases z
section
variable {X:Cx} {c:Fc} {e:Expr} {es:List Expr} {as:List Ak} {k n:Nat} {x:Str} {G:DF} {pp pos:Pos}
theorem NN{ps:List Str}(hK:c7 G){σ:St}{H:Hp}{Q:VK}(hl:as.length=n)(h:tD c (aw G as) σ H Q):A4 (mi n G) [] E0 (tX c as) σ H Q:=by
 obtain⟨δ,kk,q⟩:=h;unfold aw at q;split at q
 ·rename_i hc;rw[Ws] at hc;have nd:=Dg hc.2;rw[a_] at q;refine⟨δ,kk,λi hi=>?_,aO q λds δ1 q1 vs H1 a1 r1=>?_⟩
  ·have:=J5.mp hc.1 i (nU.mpr hi);unfold bt at this;split at this
   ·rename_i d ed;exact oQ kk ed
   ·cases this
  ·cases em:bo as ds δ1 with
   | none=>rw[em] at q1; exact q1.elim
   | some ss =>
    rw[em] at q1;simp only at q1
    cases eg:G ss with
    | none=>rw[eg] at q1; exact q1.elim
    | some y =>
     obtain⟨r,bc⟩:=y;rw[eg] at q1;have wX:=NF a1.ok r1 em nd;obtain⟨m1,m2,_⟩:=wU r1 em;obtain⟨g1,g2⟩:=hK ss r bc eg;refine⟨ss,_,by rw[Jg,<- m2]; exact hl,by rw[Jg]; exact wX,r,bc,eg,λv H2 a2 r2=>?_⟩;rw[Jg] at a2 r2;obtain⟨o1,o2⟩:=NG a1.ok r1 em nd rfl a2 (λj d ed=>(g2 j).1 d ed) λj d ed=>(g2 j).2 d ed
     exact q1 v H2 (a1.trans o1) (bp.back (o2 v r r2) a1)
 ·exact q.elim
theorem bE (F:aP X.prog X.w X.K X.mg X.base k x n G) (hK:c7 G) (hr:fu k X.A) (hg:Gl X x) (ha:SX X c (e :: es) as) (hl:as.length=n) (ju:(x == ("__debug__" : Str))=false:=by decide)
  (he:Wf (e :: es) X.env=(false,eval e X.env) :: Wf es X.env:=by rfl) (c9:(Q5 pos (Wf es X.env)).any (·.1)=false:=by rfl):SE X c (.Call (.Name x pp) (e :: es) [] pos) (aw G as):=by
 obtain⟨f,fd,ps,hm,hk,hb,ok⟩:=F;exact PE.weak (KC ok hr hg hm hk hb .nil LQ ha ju he c9) λσ H Q h=>NN (ps:=ps) hK hl h
end
def b9(np:List Nat)(n:Nat)(b:DS):DF:=λss=>if cK np 0 ss then hW b n ss else none
theorem du(h:b9 np n b ss=some y):cK np 0 ss=true/\hW b n ss=some y:=by
 unfold b9 at h;split at h
 ·rename_i hi; exact⟨hi,h⟩
 ·cases h
theorem dF:c7 (b9 np n b):=NM λ_ _ h=>(du h).2
theorem dG(r:fu k A):A.units + 64 < WG:=by have:=r.un; omega
theorem gD{c:Fc}{np cs:List Nat}(h:Np c np)(hc:cs.all (λi=>!np.contains i)=true):∀ p ∈ c.pin,p.1 ∉ cs:=λp hp z=>by
 have h1:=h p hp;have h2:=J5.mp hc p.1 z;rw[h1] at h2
 cases h2
def um:List Str->Bool
 | []=>true
 | x :: r=>!r.contains x && um r
theorem Dn:∀ {l:List Str},um l=true->l.Nodup
 | [],_=>.nil
 | x :: r,h=>by
  simp only[um,Ws,Bool.not_eq_true'] at h;exact List.nodup_cons.mpr ⟨λhm=>by have:=h.1; simp at this; exact this hm,Dn h.2⟩
def iH(names:List (Str×NameKind))(x:Str)(k:NameKind):Bool:=match names.lookup x with
 | some j=>j == k
 | none=>false
theorem wY(h:iH names x k=true):names.lookup x=some k:=by
 unfold iH at h;split at h
 ·rename_i j e; rw[e,eq_of_beq h]
 ·cases h
def Dp(names:List (Str×NameKind))(N:List Str)(sc:List (Str×NameKind))(cs:List Nat):Bool :=
 sc.all (λx=>!(x.2 == .local) || iH sc x.1 .local) && sc.all (λx=>!(x.2 == .free) || (iH names x.1 .cell || iH names x.1 .free)) && um (sc.map (·.1)) &&
 (Qb N.length).all λi=>match N[i]? with
  | some x=>!(iH sc x .local || iH sc x .cell) || cs.contains i
  | none=>true
theorem Dq(h:names.lookup x=some k):iH names x k=true:=by
 unfold iH; rw[h]; simp
theorem gE{X:Cx}{scope:Scope}{cs:List Nat}(hk:scope.kind = .function)(h:Dp X.env.scope.names X.N scope.names cs=true):ny X scope cs:=by
 unfold Dp at h;simp only[Ws] at h;obtain⟨⟨⟨h1,h2⟩,h3⟩,h4⟩:=h;refine⟨hk,λx hx hl=>?_,λx hx hf=>?_,Dn h3,λi x hi hl=>?_⟩
 ·have:=J5.mp h1 x hx;rw[hl] at this;exact wY (by simpa using this)
 ·have:=J5.mp h2 x hx;rw[hf] at this;have:iH X.env.scope.names x.1 .cell=true\/iH X.env.scope.names x.1 .free=true:=by simpa using this
  exact this.elim (λz=>.inl (wY z)) λz=>.inr (wY z)
 ·have mh:i < X.N.length:=(W6.mp hi).1;have:=J5.mp h4 i (List.mem_range.mpr mh);rw[hi] at this;have gH:(iH scope.names x .local || iH scope.names x .cell)=true:=by
   rcases hl with z | z
   ·rw[Dq z]; rfl
   ·rw[Dq z]; simp
  simp only[gH,Bool.not_true,Bool.false_or] at this;simpa using this
theorem NO {K:W3}:iE K "int":=⟨rfl,rfl,rfl,rfl,rfl,rfl,rfl⟩
theorem NP {K:W3}:iE K "bool":=⟨rfl,rfl,rfl,rfl,rfl,rfl,rfl⟩
theorem NQ {K:W3}:iE K "str":=⟨rfl,rfl,rfl,rfl,rfl,rfl,rfl⟩
theorem NR {K:W3}:iE K "tuple":=⟨rfl,rfl,rfl,rfl,rfl,rfl,rfl⟩
theorem NS {K:W3}:iE K "list":=⟨rfl,rfl,rfl,rfl,rfl,rfl,rfl⟩
def pj:Expr->Bool
 | .Starred ..=>false
 | _=>true
theorem qT(h:pj e=true):Wf (e :: es) env=(false,eval e env) :: Wf es env:=by
 cases e <;> first | (cases h; done) | rw[Wf] | rfl
 all_goals (intros; contradiction)
section
variable {X:Cx} {c:Fc} {e:Expr} {es:List Expr} {f fe:DE} {g:DA} {as:List Ak}
theorem dR(ha:SE X c e f)(hr:SA X c es g)(hs:pj e=true:=by rfl):SA X c (e :: es) (bH f g):=CG ha hr (qT hs)
theorem aE(ha:SE X c e fe)(hr:SX X c es as)(hs:pj e=true:=by rfl):SX X c (e :: es) (.val fe :: as):=NC ha hr (qT hs)
theorem eh{i:Nat}(ha:PE X e (cz i))(hr:SX X c es as)(hs:pj e=true:=by rfl):SX X c (e :: es) (.io i :: as):=ND ha hr (qT hs)
end
mutual
def ke:Nat->Expr->Option D
 | _,.Constant (.int i) _ _=>some (.int i)
 | _,.Constant (.bool b) _ _=>some (.bl b)
 | _,.Constant .none _ _=>some .bf
 | _,.Constant (.str x) _ _=>some (.str x.cps.toList)
 | n + 1,.Tuple es _ _=>if es.length<=1000 then(nV n es).map .tup else none
 | _,_=>none
def nV:Nat->List Expr->Option (List D)
 | _,[]=>some []
 | n,e :: es=>match ke n e,nV n es with
  | some d,some ds=>some (d :: ds)
  | _,_=>none
end
theorem NT:∀ {n:Nat} {e:Expr} {d:D},ke n e=some d->pj e=true:=λ{n e d} h=>by
 cases e <;> first | rfl | (cases n <;> simp[ke] at h)
mutual
theorem NU:∀ {n:Nat} {e:Expr} {d:D},ke n e=some d->SE X c e (eD d)
 | _,.Constant (.int i) _ _,d,h=>by
  simp only[ke,Wc] at h; subst h; exact aH
 | _,.Constant (.bool b) _ _,d,h=>by
  simp only[ke,Wc] at h; subst h; exact j6
 | _,.Constant .none _ _,d,h=>by
  simp only[ke,Wc] at h; subst h; exact Mk
 | _,.Constant (.str x) _ _,d,h=>by
  simp only[ke,Wc] at h; subst h; exact B7 _ (B4 x)
 | 0,.Tuple es k pos,d,h=>by simp[ke] at h
 | n + 1,.Tuple es k pos,d,h=>by
  simp only[ke] at h;split at h
  ·rename_i hl
   cases e:nV n es with
   | none=>rw[e] at h; cases h
   | some ds =>
    rw[e] at h;simp only[WC,Wc] at h;subst h;exact jB (wZ e) hl
  ·cases h
theorem wZ:∀ {n:Nat} {es:List Expr} {ds:List D},nV n es=some ds->SA X c es (λδ=>.ok ds δ)
 | _,[],ds,h=>by
  simp only[nV,Wc] at h; subst h; exact gz
 | n,e :: es,ds,h=>by
  simp only[nV] at h;split at h
  ·rename_i d dW h1 h2
   cases h;exact CG (NU h1) (wZ h2) (qT (NT h1))
  ·cases h
end
def fV(ds:List D):DE:=λδ=>.ok (.own (.lst ds)) δ
theorem qU{X:Cx}{c:Fc}{es:List Expr}{ds:List D}{pos:Pos}(h:nV 9 es=some ds)(hl:es.length<=1000):SE X c (.List es pos) (fV ds):=oV (wZ h) hl
section
variable {X:Cx} {c:Fc} {e:Expr} {fe:DE} {pos:Pos} {tg:Expr}
theorem NV(he:SE X c e fe)(hs:QX e none pos.line X.env=pure false:=by rfl):SS X c (.Expr e pos) (nP fe) :=
 Nf he (λ_=>hs) trivial (Aw he hs)
theorem w6{i:Nat}{o:Expr}{apos aZ:Pos}(ho:PE X o (cz i))(he:SE X c e fe)
  (kO:Qt o "append" X.env (eval o X.env)=eval o X.env:=by rfl)
  (kP:((Q5 aZ (Wf [e] X.env)).all (λx=>!x.1) && (JK aZ (QR [] X.env)).all (λx=>x.1.isSome)
   && decide ([e].length + ([]:List Keyword).length + (if ([]:List Keyword).isEmpty then 0 else 1) < 30))=true:=by rfl)
  (fQ:(apos.endLine == aZ.line)=true:=by rfl) (hs:Wf [e] X.env=(false,eval e X.env) :: Wf [] X.env:=by rfl)
  (qx:QX (.Call (.Attribute o "append" apos) [e] [] aZ) none pos.line X.env=pure false:=by rfl):SS X c (.Expr (.Call (.Attribute o "append" apos) [e] [] aZ) pos) (fT i fe) :=
 Ng (p0:=apos) ho he (Aw (sV PySem.F.plainAttrs_list PySem.F.slot_list_append PySem.F.type_list_append Bu ho (fw he gJ hs) kO kP fQ hs rfl) qx)
end
def w8(K:W3):Bool:=K.all λp=>match p.2.cls with
 | .type t=>!(t == "list")
 | _=>true
theorem Dr[BEq α][LawfulBEq α]:∀ {K:List (α×β)} {a:α} {o:β},K.lookup a=some o->(a,o) ∈ K
 | [],a,o,e=>by simp at e
 | (b,o') :: r,a,o,e=>by
  rw[Qo] at e
  cases hb:a == b with
  | true =>
   rw[hb] at e;have h1:o'=o:=Wy e;have h2:a=b:=eq_of_beq hb;rw[h1,h2];exact Wb
  | false =>
   rw[hb] at e;exact W7 _ (Dr e)
theorem NX {K:W3} {a:Addr} {o:Obj} (h:w8 K=true) (e:K.lookup a=some o) (hc:o.cls = .type "list"):False:=by
 have hm:(a,o) ∈ (K:List (Addr×Obj)):=Dr e;have h1:=J5.mp h (a,o) hm;have h2:(match o.cls with | .type t=>!(t == "list") | _=>true)=true:=h1;rw[hc] at h2;have h3:(!(("list" : String) == "list"))=true:=h2;rw[beq_self_eq_true] at h3
 cases h3
theorem NY{K:W3}{G:DF}{H:Hp}{a:Addr}{ns:List Int}{E:XK}(hK:w8 K=true)(hS:bW K H a (ns.map V.int))(hG:∃ bc,G [.pure (.lst (ns.map .int))]=some (.pure (.bl true),bc)) :
  mi 1 G [.ref a] H (λv _=>v = .bl true) E:=by
 have hR:Rd H a (.lst (ns.map V.int)):=by
  rcases hS with h | ⟨o,ah,n,e,hc,_⟩
  ·exact h
  ·exact(NX hK e hc).elim
 obtain⟨bc,hg⟩:=hG;have rep:∀ O:Addr->Prop,¬ O a->Rep H O (.ref a) (.lst (ns.map D.int)):=λO hO=>.lst hO hR (by simp) λi v d e1 e2=>by
  rw[Wv] at e1 e2
  cases e:ns[i]? with
  | none=>rw[e] at e1; cases e1
  | some k=>rw[e] at e1 e2; cases e1; cases e2; exact .int k
 refine⟨[.pure (.lst (ns.map .int))],λ_=>False,rfl,⟨λb o e _=>e,λb z=>z.elim,λb ⟨i,z⟩=>?_,rfl,λi d e=>?_,λi d e=>?_,λi j b d d' e1 e2 e3 e4=>?_,λp z=>?_⟩,_,bc,hg,λv H' x r=>?_⟩
 ·simp[eC] at z
 ·cases i with
  | zero =>
   simp at e;subst e;refine⟨.ref a,rfl,rep _ λz=>?_⟩;rcases z with z | ⟨j,d',z1,z2⟩
   ·exact z
   ·cases j with
    | zero=>simp at z1
    | succ j=>simp at z1
  | succ i=>simp at e
 ·cases i with
  | zero=>simp at e
  | succ i=>simp at e
 ·cases i with
  | zero=>simp at e1
  | succ i=>simp at e1
 ·simp[eC] at z
 ·cases r;rfl
theorem NZ{l:PySem.W.OpenLaw}{q:Wm}{loose:List Str}{XP:(Str->Option Value)->Heap->Prop}{YP:Wq->Heap->Prop}{d:DefRec}{K:Params->W3}{k:Nat}{G:DF}(hn:l.most=some 63)(qq:d.params.defaults=[])(hr:fu k callerA)
  (hY:∀ (w:Wq) (h:Heap),YP w h->(K w.params).In h) (hL:∀ p:Params,w8 (K p)=true)
  (hG:∀ ns:List Int,ns.length<=63->∃ bc,G [.pure (.lst (ns.map .int))]=some (.pure (.bl true),bc))
  (F:∀ (w:Wq) (mg:Str->Option Value) (fa:Addr) (h:Heap),(K w.params).In h->h.Ns WE mg->mg d.name=some (.ref fa) ->
   ∃ fd:Qn,(∀ (s:W4) (u:Value),BindsTo s fd ⟨[u],[]⟩ [("script",u)])/\∀ base:Heap,(K w.params).In base->base.Ns WE mg->jt l.prog w (K w.params) mg base jw k fa fd ["script"] (mi 1 G)) :
  PySem.W.WalkO q loose XP YP l.row.toRowW d [] (λf vs=>PySem.call f vs) :=
 L2.LO (n:=63) (k:=k) (x:="script") (CX:=λ_=>jw) (sp:=λ_=>mi 1 G) hn (by decide) qq hr hY F (λw H a ns hl _ hS=>NY (hL w.params) hS (hG ns hl)) λ_ _ _ _ _ z=>z
end DV
set_option maxHeartbeats 400000
namespace L2
open PySem PySem.Spec PyProof.Rows
def w_(x:Str):It:=⟨λi _=>i < x.cps.size,λi H y H'=>H'=H/\∃ c,x.cps[i]? = some c/\y = .str ⟨#[c]⟩,λi _=>i=x.cps.size⟩
theorem N0 {P:Wm} {w:Wq} {K:W3} {tg:Expr} (x:Str) (t:Tok) (it:Addr) (T:String) (hT:T = "str_ascii_iterator"\/T = "str_iterator"):Turn P w K tg (w_ x) [it] it (λi h=>h.IsStrIter it T x t i):=by
 have W:∀ A:Wu,A.handled=none->Walks P w A it [it] [it] x.cps.size (SignAt x) (λi h=>h.IsStrIter it T x t i):=λA hh=>by
  rcases hT with rfl | rfl
  ·exact Walks.strAscii hh it x t
  ·exact Walks.strWide hh it x t
 refine⟨by simp,λi h st b hb=>?_,λi h h' st k=>?_,?_,?_,λA i s Q E st h=>?_⟩
 ·have e:b=it:=by simpa using hb
  subst e;obtain⟨o,e,c,d⟩:=st;exact⟨o,e,λv z=>by rw[d] at z; cases z⟩
 ·obtain⟨o,e,r⟩:=st;exact⟨o,k it (by simp) o e,r⟩
 ·intro X hP hw hK hc i pins s σ H E I hf st hg;subst hP hw hK;obtain⟨f0,f1,f2,f3,f4,f5⟩:=hf it (by simp);refine(W X.A (I.ok.hd hc)).item i s _ _ hg st λv h' tk hv g7 kk=>?_
  obtain⟨c,u,hx,rfl⟩:=hv;have I1:Inv X pins σ H { s with heap:=h',toks:=tk }:=I.turned (λb o hb e=>kk b o (by simpa using hb) e) f0 f1 f3 f4 f5;obtain⟨o,e,c',d⟩:=id g7;refine⟨_,rfl,sJ (s:={ s with heap:=h',toks:=tk }) e c' d (by rcases hT with rfl | rfl <;> decide) ⟨.str ⟨#[c]⟩,H,I1,⟨u,rfl⟩,⟨rfl,c,hx,rfl⟩,g7,λb hb=>(hf b hb).1⟩⟩
 ·intro X hP hw hK hc i pins s σ H E I hf st hg;subst hP hw hK;have oM:i=x.cps.size:=hg;subst oM;obtain⟨f0,f1,f2,f3,f4,f5⟩:=hf it (by simp);exact(W X.A (I.ok.hd hc)).done s _ _ st λh' tk eb=>⟨rfl,I.turned (λb o hb e=>eb b o (by simpa using hb) e) f0 f1 f3 f4 f5⟩
 ·rcases hT with rfl | rfl
  ·exact wpAny_pyIter_striter_ascii st h
  ·exact wpAny_pyIter_striter_wide st h
end L2
namespace DV
open PySem PySem.Spec PyProof.Rows L2
section
variable {X:Cx} {c:Fc} {tg e:Expr} {fe:DE} {pos pp:Pos}
def N1(K:W3)(tl:TE):TI:=λσ H R=>tl σ H λx H1=>(∃ a,x = .ref a/\(∃ xs,bW K H1 a xs)/\R (vq K a) H1)\/(∃ a,x = .ref a/\(∃ xs,cH K H1 a xs)/\R (sL K a) H1)\/∃ z,x = .str z/\R (w_ z) H1
theorem Ds{l:Expr}{tl:TE}(hl:PE X l tl):PI X tg l (N1 X.K tl):=by
 intro pins s σ H R I h;refine aR (hl pins s σ H _ I h) λv s1 ⟨x,H1,I1,r1,q1⟩=>?_
 rcases q1 with q1 | q1 | ⟨z,e,q⟩
 ·obtain⟨a,e,⟨xs,hq⟩,q⟩:=q1;subst e
  cases r1;obtain⟨ah,rv,p,hz⟩:=I1.list hq;refine Ud p.isList ?_;refine⟨s1.heap.objs.size,[s1.heap.objs.size],_,_,H1,rfl,I1.kept (t':=s1.toks) λb o e=>Wa _ e,IZ a _,⟨_,Wl _ rfl,rfl,rfl⟩,λb hb=>?_,q⟩;have e:b=s1.heap.objs.size:=by simpa using hb
  subst e;exact I1.g6 (Wh _) (I1.aB.fresh (Wh _))
 ·obtain⟨a,e,⟨xs,hq⟩,q⟩:=q1;subst e
  cases r1;obtain⟨ah,rv,p,hz⟩:=I1.tuple hq;refine Jb (show s1.heap.IsTuple a ah.toArray from p) ?_;refine⟨s1.heap.objs.size,[s1.heap.objs.size],_,_,H1,rfl,I1.kept (t':=s1.toks) λb o e=>Wa _ e,I0 a _,⟨_,Wl _ rfl,rfl,rfl⟩,λb hb=>?_,q⟩;have e:b=s1.heap.objs.size:=by simpa using hb
  subst e;exact I1.g6 (Wh _) (I1.aB.fresh (Wh _))
 ·subst e;obtain⟨t,rfl⟩:=r1;refine wpAny_pyIter_strU ?_;have hT:Uh z = "str_ascii_iterator"\/Uh z = "str_iterator":=by
   unfold Uh;split
   ·exact .inl rfl
   ·exact .inr rfl
  refine⟨s1.heap.objs.size,[s1.heap.objs.size],_,_,H1,rfl,I1.kept (t':=s1.toks) λb o e=>Wa _ e,N0 z t _ _ hT,⟨_,Wl _ rfl,rfl,rfl⟩,λb hb=>?_,q⟩;have e:b=s1.heap.objs.size:=by simpa using hb
  subst e;exact I1.g6 (Wh _) (I1.aB.fresh (Wh _))
theorem N2(z:Tx):nQ c σ δ H (w_ (toS z)) (z.map λn=>D.str [n]):=by
 intro H2 kp;have hsz:(toS z).cps.size=z.length:=by simp[toS]
 refine⟨by show(z.map _).length=_; rw[hsz]; simp,λi d e=>?_⟩;rw[Wv] at e
 cases ez:z[i]? with
 | none=>rw[ez] at e; cases e
 | some n =>
  rw[ez] at e
  cases e;have hi:i < z.length:=(W6.mp ez).1;refine⟨by show i < _; rw[hsz]; exact hi,λx H3 ⟨e3,cc,hc,hx⟩=>.inl ⟨e3,?_⟩⟩;have:(toS z).cps[i]? = z[i]?:=by simp[toS]
  rw[this,ez] at hc
  cases hc;rw[hx];exact .str [n]
def cA(f:DE):DI:=λδ=>(f δ).bind λr δ1=>match r.d with
 | .lst ds=>.ok ds δ1
 | .tup ds=>.ok ds δ1
 | .str x=>.ok (x.map λn=>.str [n]) δ1
 | _=>.stuck
theorem gF(he:SE X c e fe):SI X c tg e (cA fe):=PI.weak (Ds he) λσ H R ⟨δ,k,q⟩=>by
 unfold cA at q;rw[a_] at q;refine⟨δ,k,aO q λr δ1 q1 v H1 a1 r1=>?_⟩;have rr:=r1.rep;generalize r.d=d at q1 rr
 cases d <;> first | exact q1.elim | skip
 ·cases rr;exact .inr (.inr ⟨_,rfl,q1 _ H1 a1 (N2 _)⟩)
 ·cases rr with
  | tup h1 h2 h3 h4=>exact .inr (.inl ⟨_,rfl,⟨_,.of h2⟩,q1 _ H1 a1 (Nh _ h2 (λz=>h1 (.inr z)) ⟨h3,h4⟩)⟩)
 ·cases rr with
  | lst h1 h2 h3 h4 =>
   refine .inl ⟨_,rfl,⟨_,.inl h2⟩,q1 _ H1 a1 ?_⟩;intro H2 kp;rename_i a vs;have h5:Rd H2 a (.lst vs):=Rd.keep h2 λo e=>kp a o e λz=>h1 (.inr z)
   have r':aG H1 (Av c σ δ1) vs _:=⟨h3,h4⟩
   refine⟨⟨vs,.inl h5,by rw[r'.1]; exact Wh _⟩,λi d e=>?_⟩;obtain⟨v,ev,rv⟩:=r'.get e;refine⟨⟨vs,v,.inl h5,ev⟩,λx H3 ⟨e3,y⟩=>.inl ⟨e3,?_⟩⟩;have:=y vs (.inl h5);rw[ev] at this
   cases this;exact rv
end
end DV
namespace L2
open PySem PySem.Spec PyProof.Rows
theorem N3(a:Int)(t:Tok)(l:Addr)(dd:Option Addr)(items:Array Value)(n:Nat)(sl:Array (Option Value)) :
  Meets (Builtin.«int.__rmul__» ⟨[.int a t,.ref l],[]⟩) (λ_ R s=>s.heap.get? l=some { cls:=.type "tuple",dict:=dd,data:=.seq items n,slots:=sl }/\R (.ok (.ret Value.notImplemented)) s) :=
 .of_wp λprog w A R s h=>by obtain⟨hp,g,d,tk,os⟩:=s; obtain⟨hl,h⟩:=h; wp_walk; exact⟨_,rfl,h⟩
theorem N4:fillsNumberSlot (.type "tuple") "mul" = pure false :=
 PySem.fillsNumberSlot_seq (id:="tuple.__mul__") (r:=some (.builtin "tuple.__rmul__")) F.slot_tuple_mul.lookup (by decide +kernel) F.slot_tuple_rmul.lookup (by decide +kernel)
theorem N5:seqRepeat? (.type "tuple")=pure (some (.builtin "tuple.__mul__")):=by
 unfold seqRepeat?;rw[PySem.seqSlot_of (T:="tuple") (name:="__mul__") (id:="tuple.__mul__") F.slot_tuple_mul.lookup (by decide +kernel),PySem.seqSlot_of (T:="tuple") (name:="__rmul__") (id:="tuple.__rmul__") F.slot_tuple_rmul.lookup (by decide +kernel)];rfl
theorem N6(l:Addr)(dd:Option Addr)(items:Array Value)(n:Nat)(sl:Array (Option Value))(x:Int)(u:Tok)(h1:¬ (decide (x < -(2 ^ 63)) || decide (x ≥ 2 ^ 63))=true)(h2:¬ (items.isEmpty || x == 1)=true)(h3:¬ (decide (x<=0) || items.isEmpty)=true)(h4:¬ items.size * x > (2 ^ 63 - 1) / 8)(h5:¬ Builtin.Tuple.tupleTooMany (items.size * x)=true)(h6:((We x.toNat items).foldl (· ++ ·) #[]).size<=Wd) :
  Meets (Builtin.«tuple.__mul__» ⟨[.ref l,.int x u],[]⟩) (λ_ R s=>s.heap.get? l=some { cls:=.type "tuple",dict:=dd,data:=.seq items n,slots:=sl } /\
   R (.ok (.ret (.ref s.heap.objs.size))) { s with heap:=s.heap.push { cls:=.type "tuple",data:=.seq ((We x.toNat items).foldl (· ++ ·) #[]) } }) :=
 .of_wp λprog w A R s h=>by
  obtain⟨hp,g,d,tk,os⟩:=s; obtain⟨hl,h⟩:=h
  wp_walk
  rw[if_neg h1];wp_walk
  try rw[if_neg h2]
  try wp_walk
  try rw[if_neg h3]
  try wp_walk
  try rw[if_neg h4]
  try wp_walk
  try rw[if_neg h5]
  try wp_walk
  exact⟨_,rfl,h⟩
theorem xa(ah:List α):∀ (k:Nat) (acc:List α),List.foldl (λx1 x2:Array α=>x1 ++ x2) acc.toArray (We k ah.toArray)=(acc ++ (We k ah).flatten).toArray
 | 0,acc=>by simp
 | k + 1,acc=>by
  rw[WQ,JH,show acc.toArray ++ ah.toArray=(acc ++ ah).toArray by simp,xa ah k];simp[WQ]
section
variable {X:Cx}
def Dt(K:W3):R2:=λx y H Q=>∃ l k xs,x = .ref l/\y = .int k/\cH K H l xs/\xs≠[]/\2<=k/\k<=1000000/\xs.length * k.toNat<=Wd/\∀ p,H p=none->Q (.ref p) (upd H p (.tup (We k.toNat xs).flatten))
theorem N7:bN X (Qg .Mult) (Dt X.K):=by
 intro pins s σ H x y v u Q I rx ry h;obtain⟨l,k,xs,rfl,rfl,hH,cx,h1,h2,hz,q⟩:=h
 cases rx;obtain⟨t,rfl⟩:=ry;obtain⟨ah,r,pl,hl⟩:=I.tuple hH;obtain⟨⟨cls,dd,data,sl⟩,ho,hc,n,hd⟩:=id pl;simp only at hc hd;subst hc hd;have hlen:ah.toArray.size=xs.length:=by rw[Wp]; exact r.length.symm
 have ml:ah.toArray.isEmpty=false:=by
  cases ah with
  | nil=>exact absurd (r.qk.mp rfl) cx
  | cons a b=>rfl
 have fQ:Wd=16777216:=rfl;have hk:(k.toNat:Int)=k:=by omega
 have hmul:((ah.toArray.size:Nat):Int) * k=((xs.length * k.toNat:Nat):Int):=by rw[hlen,Ul,hk]
 have uo:List.foldl (λx1 x2=>x1 ++ x2) #[] (We k.toNat ah.toArray)=(We k.toNat ah).flatten.toArray:=by
  have:=vL ah k.toNat [];rw[Qx] at this;exact this
 refine wpAny_binaryOp_repeat_ref (T:="tuple") (U:="int") (by decide) ⟨_,ho,rfl⟩ (λs'=>JG s' k t) N4 F.fills_int_mul F.slot_int_rmul N5 F.slot_int_index.lookup
  (JS F.slot_int_rmul (JG s k t) F.entry_int_rmul (F.args_int_rmul_2 _ _) (N3 k t l dd ah.toArray n sl)
   ⟨ho,rfl,⟨_,ho,rfl⟩,JS F.slot_tuple_mul ⟨_,ho,rfl⟩ F.entry_tuple_mul (F.args_tuple_mul_2 _ _) (N6 l dd ah.toArray n sl k t ?_ ?_ ?_ ?_ ?_ ?_) ⟨ho,?_⟩⟩)
 ·simp; omega
 ·rw[ml]; simp; omega
 ·rw[ml]; simp; omega
 ·rw[hmul]; omega
 ·rw[hmul];unfold Builtin.Tuple.tupleTooMany;rw[fQ] at hz;generalize xs.length * k.toNat=m at hz;simp only[fQ,decide_eq_true_eq];omega
 ·rw[uo,Wp,sW,<- r.length,QJ]; exact hz
 ·rw[uo];have I1:Inv X pins σ (upd H s.heap.objs.size (.tup (We k.toNat xs).flatten)) { s with heap:=s.heap.push { cls:=.type "tuple",data:=.seq (We k.toNat ah).flatten.toArray } } :=
   I.laid (t':=s.toks) (λb o e=>Wa _ e) (Wh _) (show cj X.prog X.w _ _ _ (.tup (We k.toNat xs).flatten) from⟨by rw[sW,QJ]; exact hz,(We k.toNat ah).flatten,r.rep k.toNat,ik.new _ _⟩)
  exact⟨.ref _,_,I1,rfl,q _ (I.aB.fresh (Wh _))⟩
def Du:R2:=λx y H Q=>∃ z k,x = .str z/\y = .int k/\2<=k/\k<=1000000/\0 < z.length/\z.length * k.toNat<=Wd/\Q (.str ⟨(We k.toNat z.cps).foldl (· ++ ·) #[]⟩) H
theorem N8:bN X (Qg .Mult) Du:=by
 intro pins s σ H x y v u Q I rx ry h;obtain⟨z,k,rfl,rfl,h1,h2,h0,hz,q⟩:=h;obtain⟨t,rfl⟩:=rx;obtain⟨t',rfl⟩:=ry;have fQ:Wd=16777216:=rfl;have c1:¬ k < 1:=by omega
 have c2:(k == 1 || z.length == 0)=false:=by
  simp;omega
 refine PySem.P.mul_str (by simp; omega) (λ_ _=>?_) (λ_ _=>?_) ?_
 ·have hm:(z.length:Int) * k<=16777216:=by
   have:(z.length:Int) * k=((z.length * k.toNat:Nat):Int):=by rw[Ul,show(k.toNat:Int)=k by omega]
   rw[this];rw[fQ] at hz;omega
  have:(z.length:Int)<=(2 ^ 63 - 1) / k:=(Int.le_ediv_iff_mul_le (by omega)).mpr (by omega);omega
 ·unfold Builtin.Str.tooLong;rw[fQ] at hz;generalize z.length * k.toNat=m at hz;simp only[fQ,decide_eq_false_iff_not];omega
 ·rw[if_neg c1,if_neg (by rw[c2]; simp)];have hsz:((We k.toNat z.cps).foldl (· ++ ·) #[]).size=k.toNat * z.length:=by
   have h:=xa z.cps.toList k.toNat [];simp only[Qx,Array.toArray_toList] at h;rw[h,Wp,sW];simp[Str.length]
  exact⟨by show((We k.toNat z.cps).foldl (· ++ ·) #[]).size<=_; rw[hsz,QJ]; exact hz,.str _,H,I.tok _,⟨_,rfl⟩,q⟩
end
end L2
namespace DV
open PySem PySem.Spec PyProof.Rows L2
def c8:D->D->Option S
 | .int i,.int j=>qC (.int i) (.int j)
 | .str x,.int k=>if 2<=k/\k<=1000000/\0 < x.length/\x.length * k.toNat<=Wd then some (.pure (.str (We k.toNat x).flatten)) else none
 | .tup xs,.int k=>if 2<=k/\k<=1000000/\0 < xs.length/\xs.length * k.toNat<=Wd then some (.pure (.tup (We k.toNat xs).flatten)) else none
 | _,_=>none
def Dv(K:W3):R2:=λx y H Q=>rI qf (λi j=>V.int (i * j)) x y H Q\/Du x y H Q\/Dt K x y H Q
theorem nW:bN X (Qg .Mult) (Dv X.K):=Kg.or (N8.or N7)
theorem aG.rep(h:aG H O vs ds):∀ k:Nat,aG H O (We k vs).flatten (We k ds).flatten
 | 0=>.nil
 | k + 1=>by rw[WQ,WQ,Q3,Q3]; exact h.append (aG.rep h k)
theorem nX{K:W3}:cT (Dv K) c8:=by
 intro c σ δ H x y d e s Q k rx ry hp q
 cases d <;> cases e <;> first | (simp[c8] at hp; done) | skip
 ·exact .inl (ML c σ δ H x y _ _ s Q k rx ry hp q)
 ·rename_i z n;simp only[c8] at hp;split at hp
  ·rename_i h
   cases hp;refine .inr (.inl ⟨toS z,n,rx.str,ry.int,h.1,h.2.1,by rw[jy]; exact h.2.2.1,by rw[jy]; exact h.2.2.2,?_⟩);have e:(⟨(We n.toNat (toS z).cps).foldl (· ++ ·) #[]⟩:Str)=toS (We n.toNat z).flatten:=by
    unfold toS;congr 1
    have:=xa z n.toNat [];rw[Qx] at this;exact this
   rw[e];exact q _ H (.refl k) (.str _)
  ·cases hp
 ·rename_i ds n;simp only[c8] at hp;split at hp
  ·rename_i h
   cases hp;obtain⟨a,vs,ex,ha,r⟩:=rx.tup;refine .inr (.inr ⟨a,n,vs,ex,ry.int,.of ha,?_,h.1,h.2.1,by rw[r.1]; exact h.2.2.2,λp qV=>?_⟩)
   ·intro z;rw[z] at r;have:=r.1;simp at this;omega
   ·exact q _ _ (.alloc k qV _) (bp.nE k (aG.rep r _) qV)
  ·cases hp
theorem bp.newD(k:Ok c σ δ H)(hp:H p=none):bp c σ δ H (upd H p (.dK [])) (.ref p) (.own (.aJ [])):=by
 refine⟨p,rfl,⟨[],cZ,rfl,λi p q e=>by simp at e⟩,λz=>k.jz hp (.inl z),k.nD hp,k.plus hp _,hp⟩
def qW:DE:=λδ=>.ok (.own (.aJ [])) δ
theorem Dw{X:Cx}{c:Fc}{pos:Pos}:SE X c (.Dict [] [] pos) qW:=PE.weak Lv λσ H Q ⟨δ,k,q⟩=>λp hp=>q _ _ (.alloc k hp _) (bp.newD k hp)
section
variable {X:Cx} {c:Fc} {e a x y:Expr} {fb:BE} {f g fa:DE} {pos pp p p2:Pos}
def N9(neg:Bool)(fa f g:DE):DE:=λδ=>(fa δ).bind λv δ1=>(f δ1).bind λlo δ2=>(g δ2).bind λhi δ3=>match v.d,lo.d,hi.d with
 | .int i,.int l,.int h=>.ok (.pure (.bl (if neg then !(decide (l<=i) && decide (i < h)) else(decide (l<=i) && decide (i < h))))) δ3
 | _,_,_=>.stuck
end
end DV
set_option maxHeartbeats 1000000
namespace L2
open PySem PySem.Spec PyProof.Rows
theorem Dx:entryFor table "dict.update.loop" = some Builtin.«dict.update.loop»:=entryFor_of_tree (by kernel_rfl)
theorem qX:plainId "dict.update.loop" = true:=by decide +kernel
theorem N_:typeLookup (.type "tuple") "keys" = pure none:=by rw[typeLookup_type,JQ]; kernel_rfl
theorem Oa:typeLookup (.type "list") "keys" = pure none:=by rw[typeLookup_type,JQ]; kernel_rfl
set_option maxRecDepth 8000 in
theorem Ob
  (hx:s.heap.get? a=some o) (hc:o.cls = .type "tuple") (mn:o.data = .seq xs k) (hd:o.dict=none) (hA:A.handled=none)
  (h:∀ h' tk,(∀ b ob,s.heap.get? b=some ob->h'.get? b=some ob)->Q none { s with heap:=h',toks:=tk }) :
  W8 (model prog w) A (getAttr? (.ref a) "keys") Q E s:=by
 obtain⟨c,aJ,dat,sl⟩:=o;simp only at hc mn hd;subst hc mn hd;obtain⟨hp,g,d,tk,os⟩:=s;have hT:∀ fE,(⟨hp,g,d,fE,os⟩:W4).TypeIs (.ref a) "tuple":=λ_=>⟨_,hx,rfl⟩
 have f1:=sub_AttributeError;have f3:=F.slot_tuple_getattribute.lookup;have f4:=F.slot_tuple_getattribute.bind (.ref a);have f5:=am_tuple_getattr_none;have xb:=N_;unfold getAttr? getAttrBy? getAttrBy;repeat (any_goals (first | assumption | exact hT _ | ((with_reducible show W8 _ _ (call (Value.builtin "tuple.__getattribute__") _ _) _ _ _); refine JS F.slot_tuple_getattribute (hT _) am_entry_tuple_getattribute (F.args_tuple_getattribute_2 _ _) (meets_getattribute_miss_tuple a xs k sl "keys" _ xb (by decide +kernel)) ⟨hx,hA,λh' fE e mq=>?_⟩) | wp_step))
 obtain⟨t',u',he⟩:=mq.there;show W8 _ _ (U5 _ _ _ _ _ _ _) _ _ _;unfold U5;repeat (any_goals (first | assumption | wp_step))
 exact h _ _ mq.keeps
set_option maxRecDepth 8000 in
theorem Oc
  (hx:s.heap.get? a=some o) (hc:o.cls = .type "list") (mn:o.data = .seq xs k) (hd:o.dict=none) (hA:A.handled=none)
  (h:∀ h' tk,(∀ b ob,s.heap.get? b=some ob->h'.get? b=some ob)->Q none { s with heap:=h',toks:=tk }) :
  W8 (model prog w) A (getAttr? (.ref a) "keys") Q E s:=by
 obtain⟨c,aJ,dat,sl⟩:=o;simp only at hc mn hd;subst hc mn hd;obtain⟨hp,g,d,tk,os⟩:=s;have hT:∀ fE,(⟨hp,g,d,fE,os⟩:W4).TypeIs (.ref a) "list":=λ_=>⟨_,hx,rfl⟩
 have f1:=sub_AttributeError;have f3:=F.slot_list_getattribute.lookup;have f4:=F.slot_list_getattribute.bind (.ref a);have f5:=am_list_getattr_none;have xb:=Oa;unfold getAttr? getAttrBy? getAttrBy;repeat (any_goals (first | assumption | exact hT _ | ((with_reducible show W8 _ _ (call (Value.builtin "list.__getattribute__") _ _) _ _ _); refine JS F.slot_list_getattribute (hT _) am_entry_list_getattribute (F.args_list_getattribute_2 _ _) (meets_getattribute_miss_list a xs k sl "keys" _ xb (by decide +kernel)) ⟨hx,hA,λh' fE e mq=>?_⟩) | wp_step))
 obtain⟨t',u',he⟩:=mq.there;show W8 _ _ (U5 _ _ _ _ _ _ _) _ _ _;unfold U5;repeat (any_goals (first | assumption | wp_step))
 exact h _ _ mq.keeps
def gp(kps:List (Key×V))(acc:List (Key×V)):List (Key×V):=kps.foldl (λa kv=>putK a kv.1 kv.2) acc
theorem Od{prog:Wm}{w:Wq}{A:Wu}{R:Result->W4->Prop}{s:W4}{dl it:Addr}{i:Int}{t0:Tok}
  (hn:W8 (model prog w) A.in1 (QD (.ref it)) (λr s1=>∃ (q:Addr) (k v:Value) (n:Nat),r=some (.ref q)/\s1.heap.get? q=some { cls:=.type "tuple",dict:=none,data:=.seq #[k,v] n,slots:=#[] } /\
   W8 (model prog w) A.in1 (dictSet dl k v) (λ_ s2=>Jt (model prog w) A (.builtin "dict.update.loop" ⟨[.ref dl,.ref it,JF (i + 1),.none],[]⟩) R s2) (λ_ _=>False) s1) (λ_ _=>False) s) :
  Jt (model prog w) A (.builtin "dict.update.loop" ⟨[.ref dl,.ref it,.int i t0,.none],[]⟩) R s:=by
 refine codeAny_builtin Dx ?_;rw[Around.under_plainId qX _];show W8 _ A.in1 (QD (.ref it) >>= _) _ _ s;refine W0 (QL hn (λr s1 hr=>?_) λ_ _ z=>z.elim);obtain⟨q,k,v,n,rfl,hq,hd⟩:=hr;dsimp only;refine W0 ?_;try with_reducible refine WV ?_
 refine W0 (wpAny_tryCatch ?_);have hT:s1.TypeIs (.ref q) "tuple":=⟨_,hq,rfl⟩
 unfold Builtin.Dict.pairItems;refine W0 (JO hT ?_);rw[if_pos (by decide)];refine W0 ?_;unfold seqItems?;refine W0 (wpAny_load hq (W5 ?_));refine W5 ?_;show W8 _ A.in1 (holding [k,v] (dictSet dl k v)) _ _ s1;try with_reducible refine WV ?_
 refine QL hd (λ_ s2 h2=>?_) λ_ _ z=>z.elim
 exact W5 ⟨plainId_quiet qX _,h2⟩
theorem Oe{prog:Wm}{w:Wq}{A:Wu}{R:Result->W4->Prop}{s:W4}{dl it:Addr}{i:Int}{t0:Tok}
  (hn:W8 (model prog w) A.in1 (QD (.ref it)) (λr s1=>r=none/\R (.ok (.ret .none)) s1) (λ_ _=>False) s) :
  Jt (model prog w) A (.builtin "dict.update.loop" ⟨[.ref dl,.ref it,.int i t0,.none],[]⟩) R s:=by
 refine codeAny_builtin Dx ?_;rw[Around.under_plainId qX _];show W8 _ A.in1 (QD (.ref it) >>= _) _ _ s;refine W0 (QL hn (λr s1 hr=>?_) λ_ _ z=>z.elim);obtain⟨rfl,hd⟩:=hr;dsimp only;show W8 _ A.in1 (Builtin.Dict.addKeywords dl [] >>= _) _ _ s1;exact W0 (W5 (W5 hd))
section
variable {X:Cx} {pins:List (Addr×Obj)} {σ:St} {H:Hp}
theorem Rd.sub(h:Rd H a u)(k:∀ b o,H b=some o->H' b=some o):Rd H' a u:=by
 rcases h with h | ⟨o,h⟩
 ·exact .inl (k _ _ h)
 ·exact .inr ⟨o,k _ _ h⟩
def uq(H:Hp)(ys:List V)(kps:List (Key×V)):Prop:=ys.length=kps.length/\∀ (i:Nat) y kv,ys[i]? = some y->kps[i]? = some kv->∃ q,y = .ref q/\H q=some (.tup [kV kv.1,kv.2])
theorem Dy:∀ (kps acc:List (Key×V)),(gp kps acc).length<=acc.length + kps.length
 | [],acc=>Wh _
 | kv :: r,acc=>by
  have h1:=Dy r (putK acc kv.1 kv.2);have h2:=sY acc kv.1 kv.2;show(gp r (putK acc kv.1 kv.2)).length<=_;simp only[WB];omega
theorem Of(kps:List (Key×V))(kv:Key×V)(acc:List (Key×V)):gp (kps ++ [kv]) acc=putK (gp kps acc) kv.1 kv.2:=by
 unfold gp;rw[List.foldl_append];rfl
theorem Dz{A:Wu}{R:Result->W4->Prop}{dl it:Addr}{ys:List V}{kps:List (Key×V)}{tn:Nat->Heap->Prop}(hP:uq H ys kps)(jJ:H dl=none)(hz:kps.length<=Wd)
  (item:∀ (i:Nat) (y:V) (H':Hp) (s:W4) (Q:Option Value->W4->Prop),(∀ b o,H b=some o->H' b=some o)->H' it=none->Inv X pins σ H' s->tn i s.heap->ys[i]? = some y->(∀ u s',RelV y u->Inv X pins σ H' s'->tn (i + 1) s'.heap->Q (some u) s')->W8 (model X.prog X.w) A.in1 (QD (.ref it)) Q (λ_ _=>False) s)
  (done:∀ (H':Hp) (s:W4) (Q:Option Value->W4->Prop),(∀ b o,H b=some o->H' b=some o)->H' it=none->Inv X pins σ H' s->tn ys.length s.heap->(∀ s',Inv X pins σ H' s'->Q none s')->W8 (model X.prog X.w) A.in1 (QD (.ref it)) Q (λ_ _=>False) s)
  (keep:∀ (i:Nat) (h h':Heap),tn i h->(∀ o,h.get? it=some o->h'.get? it=some o)->tn i h') (hit:H it=none) (cx:it≠dl) (hR:∀ s',Inv X pins σ (upd H dl (.dK (gp kps []))) s'->R (.ok (.ret .none)) s') :
  ∀ (k i:Nat) (s:W4) (j:Int) (t0:Tok),ys.length - i=k->i<=ys.length->Inv X pins σ (upd H dl (.dK (gp (kps.take i) []))) s->tn i s.heap ->
   Jt (model X.prog X.w) A (.builtin "dict.update.loop" ⟨[.ref dl,.ref it,.int j t0,.none],[]⟩) R s:=by
 have up:∀ (acc:List (Key×V)) b o,H b=some o->upd H dl (.dK acc) b=some o:=λacc b o e=>by rw[aL (fP e jJ)]; exact e
 have lK:∀ acc:List (Key×V),upd H dl (.dK acc) it=none:=λacc=>by rw[aL cx]; exact hit
 intro k;induction k with
 | zero =>
  intro i s j t0 hk hi I st;have e:i=ys.length:=by omega
  subst e;rw[hP.1,Qv (Wh _)] at I;refine Oe (done _ s _ (up _) (lK _) I st λs' I'=>⟨rfl,hR s' I'⟩)
 | succ k ih =>
  intro i s j t0 hk hi I st;have aS:i < ys.length:=by omega
  have mr:i < kps.length:=by rw[<- hP.1]; exact aS
  obtain⟨q,ey,hq⟩:=hP.2 i ys[i] kps[i] (by simp[aS]) (by simp[mr]);-- the item is a tuple of two
  have main:∀ s1,Inv X pins σ (upd H dl (.dK (gp (kps.take i) []))) s1->tn (i + 1) s1.heap->∃ (kk vv:Value) (n:Nat),s1.heap.get? q=some { cls:=.type "tuple",dict:=none,data:=.seq #[kk,vv] n,slots:=#[] }/\RelV (kV kps[i].1) kk/\RelV kps[i].2 vv:=λs1 I1 _=>by
   obtain⟨_,ah,r,n,e⟩:=(show cj X.prog X.w _ s1.heap q (.tup [kV kps[i].1,kps[i].2]) from I1.aB q _ (up _ q _ hq))
   obtain⟨u,v,rfl,r1,r2⟩:=Vals.two r;exact⟨u,v,n,e,r1,r2⟩
  refine Od (item i ys[i] _ s _ (up _) (lK _) I st (by simp[aS]) λu s' ru I' g7=>?_);rw[ey] at ru
  cases ru;obtain⟨kk,vv,n,e,r1,r2⟩:=main s' I' g7;refine⟨q,kk,vv,n,rfl,e,?_⟩;obtain⟨z,hd,vs,rel,dd⟩:=vN I'.aB cZ;have nT:vs.length<=Wd:=by rw[<- rel.length]; exact z
  have hl:(putK (gp (kps.take i) []) kps[i].1 kps[i].2).length<=Wd:=by
   have h1:=sY (gp (kps.take i) []) kps[i].1 kps[i].2;have h2:=Dy (kps.take i) [];simp at h2;omega
  refine wpAny_dictSet_pairs (hsz:=nT) (kQ r1) dd λh' nt hs=>?_
  have he:∃ q,h'.get? dl=some q:=let ⟨q,_,_,hq,_⟩:=nt; ⟨q,hq⟩
  have I2:=sZ (t':=s'.toks + 1) I' (by rw[cZ]; exact True.intro) hs he (Bz hl hd (rel.put kps[i].1 r2) nt);rw[HS] at I2;have et:kps.take (i + 1)=kps.take i ++ [kps[i]]:=by rw[Jm]; simp[mr]
  rw[show putK (gp (kps.take i) []) kps[i].1 kps[i].2=gp (kps.take (i + 1)) [] by rw[et,Of]] at I2;exact ih (i + 1) _ (j + 1) _ (by omega) aS I2 (keep (i + 1) _ _ g7 λo eo=>(hs.2 it cx).trans eo)
theorem Og (hc:X.calm=true):fH X (.type "dict") (λxs H Q=>∃ p ys kps,xs=[.ref p]/\(H p=some (.tup ys)\/Rd H p (.lst ys))/\uq H ys kps/\kps.length<=Wd/\∀ l,H l=none->Q (.ref l) (upd H l (.dK (gp kps [])))):=by
 intro pins s σ H xs us Q I r h;obtain⟨p,ys,kps,rfl,hp,hP,hz,q⟩:=h;obtain⟨u,rfl,rx⟩:=jq r
 cases rx;have hA:X.A.handled=none:=I.ok.hd hc;refine callType_codes (Q₁:=λobj s₁=>obj = .ref s.heap.objs.size/\s₁ = { s with heap:=s.heap.push { cls:=.type "dict",data:=.dict #[] } }) F.kt_called_dict (F.kt_typeCall_dict_1 _) F.entry_dict_init (kt_code_dict_new _ ⟨rfl,rfl⟩) ?_;rintro obj s₁ ⟨rfl,rfl⟩;have jJ:H s.heap.objs.size=none:=I.aB.fresh (Wh _);have I1:Inv X pins σ (upd H s.heap.objs.size (.dK [])) { s with heap:=s.heap.push { cls:=.type "dict",data:=.dict #[] } }:=I.laid (t':=s.toks) (λ_ _ q=>Wa _ q) (Wh _) (BC s.heap I.big);generalize j8:s.heap.objs.size=dl at jJ I1;have up:∀ (acc:List (Key×V)) b o,H b=some o->upd H dl (.dK acc) b=some o:=λacc b o e=>by rw[aL (fP e jJ)]; exact e
 have DB:({ s with heap:=s.heap.push { cls:=.type "dict",data:=.dict #[] } }:W4).TypeIs (.ref dl) "dict":=⟨_,by rw[<- j8]; exact Wl _ rfl,rfl⟩
 refine⟨DB,F.args_dict_init_2 _ _,?_⟩;unfold Builtin.«dict.__init__»;refine W0 ?_;unfold Builtin.Dict.selfAndRest;refine W0 (wpAny_notOrdered_dict DB ?_);show W8 _ _ (pure (dl,[Value.ref p])) _ _ _;refine W5 ?_;show W8 _ _ (Builtin.Dict.updateFrom "dict.__init__" dl (.ref p) [] .none) _ _ _;unfold Builtin.Dict.updateFrom;have fin:∀ s',Inv X pins σ (upd H dl (.dK (gp kps []))) s'->EP X pins σ Q (.ref dl) s':=λs' I'=>⟨.ref dl,_,I',rfl,q dl jJ⟩
 rcases hp with hp | hp
 ·obtain⟨_,ah,r,n,e⟩:=(show cj X.prog X.w _ (s.heap.push { cls:=.type "dict",data:=.dict #[] }) p (.tup ys) from I1.aB p _ (up _ p _ hp))
  refine W0 (JO ⟨_,e,rfl⟩ ?_);rw[if_pos (by decide)];refine W0 (Ob e rfl rfl rfl hA λh' tk kp=>?_);rw[if_pos (show(none:Option Value).isNone=true from rfl)];refine W0 (QT ?_);have I2:Inv X pins σ (upd H dl (.dK [])) { s with heap:=h',toks:=tk }:=I1.kept kp;have xf:h'.IsTuple p ah.toArray:=⟨_,kp _ _ e,rfl,n,rfl⟩
  refine W0 (Jb (s:={ s with heap:=h',toks:=tk }) xf ?_);refine W5 ⟨plainId_quiet qX _,?_⟩;have jx:upd H dl (.dK []) h'.objs.size=none:=I2.aB.fresh (Wh _);have cx:h'.objs.size≠dl:=λz=>by rw[z,cZ] at jx; cases jx
  have hit:H h'.objs.size=none:=by rw[aL cx] at jx; exact jx
  have fp:∀ H':Hp,H' h'.objs.size=none->fG X pins H' h'.objs.size:=λH' hn=>I2.g6 (Wh _) hn
  refine Dz (X:=X) (pins:=pins) (σ:=σ) (H:=H) (dl:=dl) (it:=h'.objs.size) (ys:=ys) (kps:=kps) (tn:=λi h=>h.IsTupleIter h'.objs.size p i) hP jJ hz ?_ ?_ (λi h h2 st k=>st.at k) hit cx (λs' I'=>⟨rfl,fin s' I'⟩) ys.length 0 _ 0 _ (Um _) (QB _) ?_ ?_
  ·intro i y H' s' Q' sub hn I' st hy k;obtain⟨_,its2,r2,n2,e2⟩:=(show cj X.prog X.w _ s'.heap p (.tup ys) from I'.aB p _ (sub p _ hp))
   obtain⟨v,hv,rv⟩:=r2.get hy;obtain⟨f0,f1,f2,f3,f4,f5⟩:=fp H' hn;refine wpAny_pyNext_tuple_item st (items:=its2.toArray) ⟨_,e2,rfl,n2,rfl⟩ (x:=v) (by simpa using hv) λh3 lN sb=>?_
   exact k v { s' with heap:=h3 } rv (I'.turned (t':=s'.toks) (λb o hb e=>(sb.2 b hb).trans e) f0 f1 f3 f4 f5) lN
  ·intro H' s' Q' sub hn I' st k;obtain⟨_,its2,r2,n2,e2⟩:=(show cj X.prog X.w _ s'.heap p (.tup ys) from I'.aB p _ (sub p _ hp))
   obtain⟨f0,f1,f2,f3,f4,f5⟩:=fp H' hn;have fA:=r2.length;exact wpAny_pyNext_tuple_end (show X.A.in1.in1.handled=none from hA) st (items:=its2.toArray) ⟨_,e2,rfl,n2,rfl⟩ (by simp; omega) λh3 eb=>k { s' with heap:=h3 } (I'.turned (t':=s'.toks) (λb o hb e=>eb b o hb e) f0 f1 f3 f4 f5)
  ·exact I2.kept (t':=tk) λb o e=>Wa _ e
  ·exact⟨_,Wl _ rfl,rfl,rfl⟩
 ·obtain⟨_,ah,n,r,e⟩:=(show cj X.prog X.w _ (s.heap.push { cls:=.type "dict",data:=.dict #[] }) p (.lst ys) from(Rd.sub hp (up _)).ok I1.aB)
  refine W0 (JO ⟨_,e,rfl⟩ ?_);rw[if_pos (by decide)];refine W0 (Oc e rfl rfl rfl hA λh' tk kp=>?_);rw[if_pos (show(none:Option Value).isNone=true from rfl)];refine W0 (QT ?_);have I2:Inv X pins σ (upd H dl (.dK [])) { s with heap:=h',toks:=tk }:=I1.kept kp;have xf:h'.IsList p ah.toArray:=⟨_,kp _ _ e,rfl,n,rfl⟩
  refine W0 (Ud (s:={ s with heap:=h',toks:=tk }) xf ?_);refine W5 ⟨plainId_quiet qX _,?_⟩;have jx:upd H dl (.dK []) h'.objs.size=none:=I2.aB.fresh (Wh _);have cx:h'.objs.size≠dl:=λz=>by rw[z,cZ] at jx; cases jx
  have hit:H h'.objs.size=none:=by rw[aL cx] at jx; exact jx
  have fp:∀ H':Hp,H' h'.objs.size=none->fG X pins H' h'.objs.size:=λH' hn=>I2.g6 (Wh _) hn
  refine Dz (X:=X) (pins:=pins) (σ:=σ) (H:=H) (dl:=dl) (it:=h'.objs.size) (ys:=ys) (kps:=kps) (tn:=λi h=>h.IsListIter h'.objs.size p i) hP jJ hz ?_ ?_ (λi h h2 st k=>st.at k) hit cx (λs' I'=>⟨rfl,fin s' I'⟩) ys.length 0 _ 0 _ (Um _) (QB _) ?_ ?_
  ·intro i y H' s' Q' sub hn I' st hy k;obtain⟨_,its2,n2,r2,e2⟩:=(show cj X.prog X.w _ s'.heap p (.lst ys) from(Rd.sub hp sub).ok I'.aB)
   obtain⟨v,hv,rv⟩:=r2.get hy;obtain⟨f0,f1,f2,f3,f4,f5⟩:=fp H' hn;refine wpAny_pyNext_list_item st (items:=its2.toArray) ⟨_,e2,rfl,n2,rfl⟩ (x:=v) (by simpa using hv) λh3 lN sb=>?_
   exact k v { s' with heap:=h3 } rv (I'.turned (t':=s'.toks) (λb o hb e=>(sb.2 b hb).trans e) f0 f1 f3 f4 f5) lN
  ·intro H' s' Q' sub hn I' st k;obtain⟨_,its2,n2,r2,e2⟩:=(show cj X.prog X.w _ s'.heap p (.lst ys) from(Rd.sub hp sub).ok I'.aB)
   obtain⟨f0,f1,f2,f3,f4,f5⟩:=fp H' hn;have fA:=r2.length;exact wpAny_pyNext_list_end (show X.A.in1.in1.handled=none from hA) st (items:=its2.toArray) ⟨_,e2,rfl,n2,rfl⟩ (by simp; omega) λh3 eb=>k { s' with heap:=h3 } (I'.turned (t':=s'.toks) (λb o hb e=>eb b o hb e) f0 f1 f3 f4 f5)
  ·exact I2.kept (t':=tk) λb o e=>Wa _ e
  ·exact⟨_,Wl _ rfl,rfl,rfl⟩
end
end L2
set_option maxHeartbeats 400000
namespace DV
open PySem PySem.Spec PyProof.Rows L2
def e9(ae:List (bB×D))(k:bB):Option D:=(ae.find? λkv=>decide (kv.1=k)).map (·.2)
def putD(ae:List (bB×D))(k:bB)(v:D):List (bB×D) :=
 if (ae.any λkv=>decide (kv.1=k))=true then ae.map (λkv=>if kv.1=k then(kv.1,v) else kv) else ae ++ [(k,v)]
def nY(kps acc:List (bB×D)):List (bB×D):=kps.foldl (λa kv=>putD a kv.1 kv.2) acc
theorem Oh(h:eQ k=eQ j):k=j:=by
 cases k <;> cases j <;> simp[eQ] at h
 ·rw[h]
 ·rw[v7 h]
def DR(H:Hp)(O:Addr->Prop):List (Key×V)->List (bB×D)->Prop
 | [],[]=>True
 | p :: ws,q :: ds=>p.1=eQ q.1/\Rep H O p.2 q.2/\DR H O ws ds
 | _,_=>False
section
variable {H H':Hp} {O O':Addr->Prop}
theorem DR.of:∀ {ws:List (Key×V)} {ds:List (bB×D)},ws.map (·.1)=ds.map (λp=>eQ p.1)->(∀ (i:Nat) p q,ws[i]? = some p->ds[i]? = some q->Rep H O p.2 q.2)->DR H O ws ds
 | [],[],_,_=>trivial
 | [],_ :: _,h,_=>by simp at h
 | _ :: _,[],h,_=>by simp at h
 | p :: ws,q :: ds,h,k=>by
  simp only[Wk,List.cons.injEq] at h;exact⟨h.1,k 0 p q rfl rfl,DR.of h.2 λi p' q' e1 e2=>k (i + 1) p' q' (by simpa using e1) (by simpa using e2)⟩
theorem DR.keys:∀ {ws:List (Key×V)} {ds:List (bB×D)},DR H O ws ds->ws.map (·.1)=ds.map (λp=>eQ p.1)
 | [],[],_=>rfl
 | [],_ :: _,h=>h.elim
 | _ :: _,[],h=>h.elim
 | p :: ws,q :: ds,h=>by simp only[Wk,h.1,DR.keys h.2.2]
theorem DR.vals:∀ {ws:List (Key×V)} {ds:List (bB×D)},DR H O ws ds->∀ (i:Nat) p q,ws[i]? = some p->ds[i]? = some q->Rep H O p.2 q.2
 | [],[],_,i,p,q,e,_=>by simp at e
 | [],_ :: _,h,_,_,_,_,_=>h.elim
 | _ :: _,[],h,_,_,_,_,_=>h.elim
 | p :: ws,q :: ds,h,i,p',q',e1,e2=>by
  cases i with
  | zero=>simp at e1 e2; subst e1 e2; exact h.2.1
  | succ i=>exact DR.vals h.2.2 i p' q' (by simpa using e1) (by simpa using e2)
theorem DR.map:∀ {ws:List (Key×V)} {ds:List (bB×D)},DR H O ws ds->(∀ v d,Rep H O v d->Rep H' O' v d)->DR H' O' ws ds
 | [],[],_,_=>trivial
 | [],_ :: _,h,_=>h.elim
 | _ :: _,[],h,_=>h.elim
 | p :: ws,q :: ds,h,k=>⟨h.1,k _ _ h.2.1,DR.map h.2.2 k⟩
theorem nZ(h:p=eQ q):(p=eQ k) ↔ q=k:=⟨λe=>Oh (by rw[<- h]; exact e),λe=>by rw[h,e]⟩
theorem DR.any:∀ {ws:List (Key×V)} {ds:List (bB×D)} (k:bB),DR H O ws ds->(ws.any λkv=>decide (kv.1=eQ k))=ds.any λkv=>decide (kv.1=k)
 | [],[],_,_=>rfl
 | [],_ :: _,_,h=>h.elim
 | _ :: _,[],_,h=>h.elim
 | p :: ws,q :: ds,k,h=>by
  rw[Qf,Qf,DR.any k h.2.2];congr 1
  exact decide_eq_decide.mpr (nZ h.1)
theorem DR.val:∀ {ws:List (Key×V)} {ds:List (bB×D)} (k:bB),DR H O ws ds->(e9 ds k=none/\dB ws (eQ k)=none)\/∃ v d,e9 ds k=some d/\dB ws (eQ k)=some v/\Rep H O v d
 | [],[],_,_=>.inl ⟨rfl,rfl⟩
 | [],_ :: _,_,h=>h.elim
 | _ :: _,[],_,h=>h.elim
 | p :: ws,q :: ds,k,h=>by
  by_cases e:q.1=k
  ·have e':=(nZ h.1).mpr e;exact .inr ⟨p.2,q.2,by simp[e9,Q4,e],iU e',h.2.1⟩
  ·have e':¬ p.1=eQ k:=λz=>e ((nZ h.1).mp z)
   have ev:e9 (q :: ds) k=e9 ds k:=by simp[e9,Q4,e]
   rw[ev,iV e'];exact DR.val k h.2.2
theorem DR.append:∀ {ws DC:List (Key×V)} {ds dW:List (bB×D)},DR H O ws ds->DR H O DC dW->DR H O (ws ++ DC) (ds ++ dW)
 | [],_,[],_,_,h'=>h'
 | [],_,_ :: _,_,h,_=>h.elim
 | _ :: _,_,[],_,h,_=>h.elim
 | p :: ws,_,q :: ds,_,h,h'=>⟨h.1,h.2.1,DR.append h.2.2 h'⟩
theorem DR.store:∀ {ws:List (Key×V)} {ds:List (bB×D)} {k:bB} {v:V} {d:D},DR H O ws ds->Rep H O v d->DR H O (ws.map λkv=>if kv.1=eQ k then(kv.1,v) else kv) (ds.map λkv=>if kv.1=k then(kv.1,d) else kv)
 | [],[],_,_,_,_,_=>trivial
 | [],_ :: _,_,_,_,h,_=>h.elim
 | _ :: _,[],_,_,_,h,_=>h.elim
 | p :: ws,q :: ds,k,v,d,h,r=>by
  refine⟨?_,?_,DR.store h.2.2 r⟩
  ·by_cases e:q.1=k
   ·dsimp only; rw[if_pos ((nZ h.1).mpr e),if_pos e]; exact h.1
   ·dsimp only; rw[if_neg λz=>e ((nZ h.1).mp z),if_neg e]; exact h.1
  ·by_cases e:q.1=k
   ·dsimp only; rw[if_pos ((nZ h.1).mpr e),if_pos e]; exact r
   ·dsimp only; rw[if_neg λz=>e ((nZ h.1).mp z),if_neg e]; exact h.2.1
theorem DR.put(h:DR H O ws ds)(r:Rep H O v d):DR H O (putK ws (eQ k) v) (putD ds k d):=by
 unfold putK putD;rw[DR.any k h];split
 ·exact DR.store h r
 ·exact DR.append h ⟨rfl,r,trivial⟩
theorem DR.xg:∀ {kps:List (Key×V)} {ur:List (bB×D)} {ws:List (Key×V)} {ds:List (bB×D)},DR H O kps ur->DR H O ws ds->DR H O (gp kps ws) (nY ur ds)
 | [],[],_,_,_,h=>h
 | [],_ :: _,_,_,h,_=>h.elim
 | _ :: _,[],_,_,h,_=>h.elim
 | p :: kps,q :: ur,ws,ds,h,h'=>by
  show DR H O (gp kps (putK ws p.1 p.2)) (nY ur (putD ds q.1 q.2));rw[h.1];exact DR.xg h.2.2 (DR.put h' h.2.1)
end
def fo:D->Option bB
 | .int i=>some (.inl i)
 | .str x=>some (.inr x)
 | _=>none
theorem DJ(h:fo d=some k)(r:Rep H O v d):v=kV (eQ k):=by
 cases d <;> simp[fo] at h <;> subst h <;> cases r <;> rfl
theorem qY(h:fo d=some k)(r:cJ c σ δ H v d):v=kV (eQ k):=by
 rcases r with r | ⟨a,rfl,r⟩
 ·exact DJ h r
 ·cases d <;> simp[fo] at h <;> exact r.elim
def i8:List D->Option (List (bB×D))
 | []=>some []
 | .tup [k,v] :: r=>match fo k,i8 r with
  | some k',some r'=>some ((k',v) :: r')
  | _,_=>none
 | _ :: _=>none
def gQ:D->Option S
 | .lst ds=>(i8 ds).bind λps=>if ps.length<=Wd then some (.own (.aJ (nY ps []))) else none
 | .tup ds=>(i8 ds).bind λps=>if ps.length<=Wd then some (.own (.aJ (nY ps []))) else none
 | _=>none
theorem xh:∀ {ds:List D} {vs:List V} {ps:List (bB×D)},i8 ds=some ps->aG H O vs ds->∃ kps,uq H vs kps/\DR H O kps ps/\kps.length=ps.length
 | [],[],ps,h,_=>by
  simp[i8] at h;subst h;exact⟨[],⟨rfl,λi y kv e=>by simp at e⟩,trivial,rfl⟩
 | [],_ :: _,_,_,r=>by have:=r.1; simp at this
 | _ :: _,[],_,_,r=>by have:=r.1; simp at this
 | d :: ds,v :: vs,ps,h,r=>by
  unfold i8 at h;split at h
  ·rename_i heq; cases heq
  ·rename_i k w r' heq
   cases heq;split at h
   ·rename_i k' r'' hk hr
    cases h;obtain⟨kps,hP,hD,hL⟩:=xh hr r.tail;have rp:=r.head
    cases rp with
    | tup h1 h2 h3 h4 =>
     rename_i a us;match us,h3,h4,h2 with
     | [x,y],_,h4,h2 =>
      have rk:=h4 0 x k rfl rfl;have rv:=h4 1 y w rfl rfl;have ek:=DJ hk rk;subst ek;refine⟨(eQ k',y) :: kps,⟨by simp[hP.1],λi z kv e1 e2=>?_⟩,⟨rfl,rv,hD⟩,by simp[hL]⟩
      cases i with
      | zero=>simp at e1 e2; subst e1 e2; exact⟨a,rfl,h2⟩
      | succ i=>exact hP.2 i z kv (by simpa using e1) (by simpa using e2)
   ·cases h
  ·cases h
theorem bp.DK(k:Ok c σ δ H)(hp:H p=none)(r:DR H (Av c σ δ) ws ds):bp c σ δ H (upd H p (.dK ws)) (.ref p) (.own (.aJ ds)):=by
 have up:∀ a w,H a=some w->upd H p (.dK ws) a=some w:=λa w e=>by rw[aL (fP e hp)]; exact e
 have r1:DR (upd H p (.dK ws)) (Av (c.plus p) σ δ) ws ds:=r.map λv d h=>(h.aW λb z=>by
  rcases z with (z | z) | z
  ·exact .inl (.inl z)
  ·exact .inr (by rw[z]; exact hp)
  ·exact .inl (.inr z)).keep λb w e _=>up b w e
 exact⟨p,rfl,⟨ws,cZ,r1.keys,r1.vals⟩,λz=>k.jz hp (.inl z),k.nD hp,k.plus hp _,hp⟩
section
variable {X:Cx} {c:Fc} {e:Expr} {fb:BE} {pos pp:Pos}
theorem Oi:QH "dict" = some (.type "dict"):=by decide +kernel
theorem uu (hc:X.calm=true) (hg:Gl X "dict") (hm:X.mg "dict" = none) (he:SB X c e fb) (hs:pj e=true:=by rfl):SE X c (.Call (.Name "dict" pp) [e] [] pos) (bh gQ fb) :=
 wG (r:=λv H Q=>∃ p ys kps,v = .ref p/\(H p=some (.tup ys)\/Rd H p (.lst ys))/\uq H ys kps/\kps.length<=Wd/\∀ l,H l=none->Q (.ref l) (upd H l (.dK (gp kps []))))
  (Og hc) (λv H Q ⟨p,ys,kps,e,h⟩=>⟨p,ys,kps,by rw[e],h⟩)
  (λc σ δ H x d s Q k rx hp q=>by
   cases d with
   | lst ds =>
    simp only[gQ] at hp
    cases hps:i8 ds with
    | none=>rw[hps] at hp; cases hp
    | some ps =>
     rw[hps] at hp;simp only[Qp] at hp;split at hp
     ·rename_i hz
      cases hp;obtain⟨a,vs,ex,ha,r⟩:=rx.lst;obtain⟨kps,hP,hD,hL⟩:=xh hps r;exact⟨a,vs,kps,ex,.inr ha,hP,by rw[hL]; exact hz,λl hl=>q _ _ (.alloc k hl _) (bp.DK k hl (DR.xg hD (ws:=[]) (ds:=[]) trivial))⟩
     ·cases hp
   | tup ds =>
    simp only[gQ] at hp
    cases hps:i8 ds with
    | none=>rw[hps] at hp; cases hp
    | some ps =>
     rw[hps] at hp;simp only[Qp] at hp;split at hp
     ·rename_i hz
      cases hp;obtain⟨a,vs,ex,ha,r⟩:=rx.tup;obtain⟨kps,hP,hD,hL⟩:=xh hps r;exact⟨a,vs,kps,ex,.inl ha,hP,by rw[hL]; exact hz,λl hl=>q _ _ (.alloc k hl _) (bp.DK k hl (DR.xg hD (ws:=[]) (ds:=[]) trivial))⟩
     ·cases hp
   | _=>simp[gQ] at hp) hg hm Oi he (by decide) (by decide) (qT hs)
end
theorem qZ(r:cJ c σ δ H v (.aJ ds)):∃ a ws,v = .ref a/\H a=some (.dK ws)/\DR H (Av c σ δ) ws ds:=by
 obtain⟨a,ws,e,h,k1,k2⟩:=r.aJ;exact⟨a,ws,e,h,DR.of k1 k2⟩
def xi(neg:Bool):R2:=λx y H Q=>∃ a ae k,y = .ref a/\H a=some (.dK ae)/\x=kV k/\Q (.bl (if neg then !(dB ae k).isSome else(dB ae k).isSome)) H
theorem V9(hu:X.A.units + 64 < WG):bN X (WT .In) (xi false):=by
 intro pins s σ H x y v u Q I rx ry h;obtain⟨a,ae,k,rfl,ha,rfl,q⟩:=h
 cases ry;exact Lo (by omega) I (iW.k ha) rx λs' I'=>⟨.bl _,H,I',rfl,q⟩
theorem Oj(hu:X.A.units + 64 < WG):bN X (WT .NotIn) (xi true):=by
 intro pins s σ H x y v u Q I rx ry h;obtain⟨a,ae,k,rfl,ha,rfl,q⟩:=h
 cases ry;exact Lp (by omega) I (iW.k ha) rx λs' I'=>⟨.bl _,H,I',rfl,q⟩
def DL(K:W3)(neg:Bool):R2:=λx y H Q=>xi neg x y H Q\/Br K neg x y H Q\/∃ i j,x = .str i/\y = .str j/\Q (.bl (if neg then !(!(Builtin.Str.occurrences j i 0 j.length 1).isEmpty) else !(Builtin.Str.occurrences j i 0 j.length 1).isEmpty)) H
theorem Ol{X:Cx}(hu:X.A.units + 64 < WG):bN X (WT .NotIn) (DL X.K true):=(Oj hu).or (K_.or Kn)
def mv(neg:Bool)(x y:D):Option S:=match y with
 | .aJ ds=>(fo x).map λk=>.pure (.bl (if neg then !(e9 ds k).isSome else(e9 ds k).isSome))
 | .str y=>match x with
  | .str [n]=>some (.pure (.bl (if neg then !decide (n ∈ y) else decide (n ∈ y))))
  | _=>none
 | .lst ds=>match x,fR ds with
  | .str z,some ts=>some (.pure (.bl (if neg then !ts.contains z else ts.contains z)))
  | _,_=>none
 | .tup ds=>match x,fR ds with
  | .str z,some ts=>some (.pure (.bl (if neg then !ts.contains z else ts.contains z)))
  | _,_=>none
 | _=>none
theorem DM(z:Tx)(ts:List Tx):sU (V.str (toS z)) (ts.map λz=>V.str (toS z))=ts.contains z:=by
 unfold sU;rw[List.any_map];induction ts with
 | nil=>rfl
 | cons t r ih =>
  rw[Qf,List.contains_cons,ih];congr 1
  show(toS t == toS z)=(z == t);rw[oO,Bool.beq_comm]
theorem DO(ts:List Tx):(ts.map λz=>V.str (toS z)).all kL=true:=by
 rw[List.all_map];exact List.all_eq_true.mpr λ_ _=>rfl
theorem Om{K:W3}(neg:Bool):cT (DL K neg) (mv neg):=by
 intro c σ δ H x y d e s Q k rx ry hp q
 cases e <;> first | (simp[mv] at hp; done) | skip
 ·rename_i z;simp only[mv] at hp;split at hp <;> first | (cases hp; done) | skip
  rename_i n
  cases hp;refine .inr (.inr ⟨toS [n],toS z,rx.str,ry.str,?_⟩);rw[show toS [n] = ⟨#[n]⟩ from rfl,PySem.StrLaws.found_one,show(toS z).cps.toList=z by simp[toS]];exact q _ H (.refl k) (.bl _)
 ·rename_i ds;simp only[mv] at hp;split at hp <;> first | (cases hp; done) | skip
  rename_i z ts ht
  cases hp;obtain⟨a,vs,ea,ha,r⟩:=ry.tup;have ev:=oW ht r;refine .inr (.inl ⟨a,vs,ea,.inr (.of ha),by rw[rx.str]; rfl,by rw[ev]; exact DO ts,?_⟩);rw[rx.str,ev,DM];exact q _ H (.refl k) (.bl _)
 ·rename_i ds;simp only[mv] at hp;split at hp <;> first | (cases hp; done) | skip
  rename_i z ts ht
  cases hp;obtain⟨a,vs,ea,ha,r⟩:=ry.lst;have ev:=oW ht r;refine .inr (.inl ⟨a,vs,ea,.inl (.inl ha),by rw[rx.str]; rfl,by rw[ev]; exact DO ts,?_⟩);rw[rx.str,ev,DM];exact q _ H (.refl k) (.bl _)
 ·rename_i ds;simp only[mv] at hp
  cases hk:fo d with
  | none=>rw[hk] at hp; cases hp
  | some kk =>
   rw[hk] at hp
   cases hp;obtain⟨a,ws,ea,ha,dr⟩:=qZ ry;refine .inl ⟨a,ws,eQ kk,ea,ha,qY hk rx,?_⟩;have:(dB ws (eQ kk)).isSome=(e9 ds kk).isSome:=by
    rcases dr.val kk with ⟨e1,e2⟩ | ⟨v,d,e1,e2,_⟩
    ·rw[e1,e2]; rfl
    ·rw[e1,e2]; rfl
   rw[this];exact q _ H (.refl k) (.bl _)
def q0:R2:=λx y H Q=>∃ a ae k v,x = .ref a/\H a=some (.dK ae)/\y=kV k/\dB ae k=some v/\Q v H
def e_:D->D->Option S
 | .aJ ds,k=>(fo k).bind λk=>(e9 ds k).map .pure
 | x,y=>aq x y
theorem xj(hu:X.A.units + 64 < WG):ir X q0:=by
 intro value slice pins s σ H x y v u Q I rx ry h hs;obtain⟨a,ae,k,w,rfl,ha,rfl,hv,q⟩:=h
 cases rx;obtain⟨_,_,vs,_,dd⟩:=vN I.aB ha;have hT:s.TypeIs (.ref a) "dict":=dd.typeIs;exact tail_any hT F.slot_dict_getitem.lookup (Ln (v:=w) (by omega) I (by rw[<- hv]; exact iW.k ha) ry λw' s' I' aK=>⟨w,H,I',aK,q⟩) hs
theorem uv{K:W3}:cT (λx y H Q=>q0 x y H Q\/qm K x y H Q) e_:=by
 intro c σ δ H x y d e s Q k rx ry hp q
 cases d with
 | aJ ds =>
  simp only[e_] at hp
  cases hk:fo e with
  | none=>rw[hk] at hp; cases hp
  | some kk =>
   rw[hk] at hp;simp only[Qp,WH] at hp;obtain⟨dv,hv,rfl⟩:=hp;obtain⟨a,ws,ea,ha,dr⟩:=qZ rx;rcases dr.val kk with ⟨e1,e2⟩ | ⟨v,d',e1,e2,r⟩
   ·rw[e1] at hv; cases hv
   ·rw[e1] at hv; cases hv
    exact .inl ⟨a,ws,eQ kk,v,ea,ha,qY hk ry,e2,q v H (.refl k) r⟩
 | _=>exact .inr (bz c σ δ H x y _ e s Q k rx ry hp q)
end DV
namespace PySem
open Sem (wp)
open AutoSeq1 (wpAny_loadPart')
section
variable {prog:Wm} {w:Wq} {A:Wu} {E:Value->W4->Prop} {s:W4}
theorem Oo{items}(hit:s.heap.IsTupleIter it l i)(hl:s.heap.IsTuple l items)(hx:items[i]? = some x)
  (hQ:∀ h',h'.IsTupleIter it l (i + 1)->Qy it s.heap h'->Q x { s with heap:=h' }):W8 (model prog w) A (WM (.ref it)) Q E s:=by
 obtain⟨o,ho,hc,hd⟩:=id hit;obtain⟨ol,hol,_,nl,jJ⟩:=hl;unfold WM;refine W0 (WK (name:=Str.ofString "__next__") hit.typeIs Ji
  (WN Ji hit.typeIs F.entry_tuple_iterator_next ?_ (F.args_tuple_iterator_next_1 _)))
 show W8 _ _ (field (.ref it) 0 >>= _) _ _ s;refine W0 (WL ho hd (x:=.ref l) rfl ?_);show W8 _ _ (if (Value.ref l == Value.none)=true then _ else _) _ _ s;rw[if_neg (show ¬ ((Value.ref l == Value.none)=true) from WF)];show W8 _ _ (field (.ref it) 1 >>= _) _ _ s;refine W0 (WL ho hd (x:=.int i 0) rfl ?_);show W8 _ _ (seqItems? (.ref l) >>= _) _ _ s;refine W0 (Qj hol jJ ?_);simp only[Qe,hx];refine W0 (wpAny_setField ho hd (by simp) (W5 ⟨x,rfl,W5 (hQ _ ?_ (Jz ..))⟩));exact⟨_,Qh _ ho (Obj.isFreed_of_fields (Obj.data_mapFields hd _)),(Obj.cls_mapFields ..).trans hc,by
  rw[Obj.data_mapFields hd]; simp[JF]⟩
theorem Oq{items}(hh:A.handled=none)(hit:s.heap.IsTupleIter it l i)(hl:s.heap.IsTuple l items)(hx:items[i]? = none)
  (hE:∀ h' e,Heap.ExtBut it s.heap h'->(∃ o,h'.get? e=some o/\o.cls = .type "StopIteration")->E (.ref e) { s with heap:=h' }):W8 (model prog w) A (WM (.ref it)) Q E s:=by
 obtain⟨o,ho,hc,hd⟩:=id hit;obtain⟨ol,hol,_,nl,jJ⟩:=hl;unfold WM;refine W0 (WK (name:=Str.ofString "__next__") hit.typeIs Ji
  (WN Ji hit.typeIs F.entry_tuple_iterator_next ?_ (F.args_tuple_iterator_next_1 _)))
 show W8 _ _ (field (.ref it) 0 >>= _) _ _ s;refine W0 (WL ho hd (x:=.ref l) rfl ?_);show W8 _ _ (if (Value.ref l == Value.none)=true then _ else _) _ _ s;rw[if_neg (show ¬ ((Value.ref l == Value.none)=true) from WF)];show W8 _ _ (field (.ref it) 1 >>= _) _ _ s;refine W0 (WL ho hd (x:=.int i 0) rfl ?_);show W8 _ _ (seqItems? (.ref l) >>= _) _ _ s;refine W0 (Qj hol jJ ?_);simp only[Qe,hx];refine W0 (QT (W0 (wpAny_setField ho hd (by simp) ?_)));show W8 _ _ (newExc (.type "StopIteration") [] >>= _) _ _ _;refine W0 ?_;simp only[newExc,newTuple];refine W0 (Q6 ?_ (by size_fits));refine W0 (m:=firstArgMember _ _) (wpAny_of_eq (a:=Value.none) (by first | rfl | (simp only[firstArgMember]; rfl)) ?_);refine Q6 ?_ (by size_fits);simp only[raiseNew];refine W0 (wpAny_handled ?_);first | rw[show A.in1.handled=none from hh] | rw[hh]
 refine W0 (W5 (wpAny_throw ?_));exact hE _ _ (((Jz ..).extBut.push _).push _) ⟨_,Wl _ rfl,rfl⟩
end
theorem IsTuple.at'{h h':Heap}{l:Addr}{items:Array Value}(x:h.IsTuple l items)(k:∀ o,h.get? l=some o->h'.get? l=some o):h'.IsTuple l items:=by
 obtain⟨o,ho,r⟩:=x;exact⟨o,k o ho,r⟩
theorem Draws.tuple'{prog:Wm}{w:Wq}{A:Wu}(hh:A.handled=none)(it l:Addr)(cx:l≠it)(items:Array Value) :
  Draws prog w A it [it,l] items.size (λi v=>items[i]? = some v) (λi h=>h.IsTupleIter it l i/\h.IsTuple l items) where
 live:=λ_ _ st=>let ⟨o,ho,_⟩:=st.1; ⟨o,ho⟩
 frame:=λ_ _ _ st hk=>⟨st.1.at λo e=>hk it (by simp) o e,IsTuple.at' st.2 λo e=>hk l (by simp) o e⟩
 item:=λi s Q E hi st hQ=>by
  refine Oo st.1 st.2 (x:=items[i]) (by simp[hi]) λh' Ot iX=>?_
  exact hQ _ h' s.toks (by simp[hi]) ⟨Ot,IsTuple.at' st.2 λo e=>(iX.2 l cx).trans e⟩ iX
 done:=λs Q E st hE=>Oq hh st.1 st.2 (by simp) hE
theorem Ou(l:Addr)(items:Array Value)(n:Nat)(aJ:Option Addr)(sl:Array (Option Value)) :
  Meets (Builtin.«enumerate.__new__» ⟨[.type "enumerate",.ref l],[]⟩) (λ_ R s=>s.heap.get? l=some { cls:=.type "tuple",dict:=aJ,data:=.seq items n,slots:=sl } /\
   R (.ok (.ret (.ref (s.heap.push { cls:=.type "tuple_iterator",data:=.fields #[.ref l,.int 0 0] }).objs.size)))
    { s with heap:=(s.heap.push { cls:=.type "tuple_iterator",data:=.fields #[.ref l,.int 0 0] }).push { cls:=.type "enumerate",data:=.fields #[.none,.bool false,.ref s.heap.objs.size,JF 0,.none,.none] } }) :=
 .of_wp λprog w A R s h=>by
  obtain⟨hp,g,d,tk,os⟩:=s; obtain⟨hl,h⟩:=h
  have Ov:=sub_enumerate;have hL:Heap.IsTuple (Shared.heap ⟨hp,g,d,tk,os⟩) l items:=⟨_,hl,rfl,n,rfl⟩
  wp_walk using Ql hl
  refine wpAny_stack_any λst=>W5 ?_
  split
  ·rename_i c _ _ _ _ _
   cases (c == Value.type "enumerate")
   ·wp_walk using Ql hl,Jb hL
    exact⟨_,rfl,h⟩
   ·wp_walk using Ql hl,Jb hL
    exact⟨_,rfl,h⟩
  ·wp_walk using Ql hl,Jb hL
   exact⟨_,rfl,h⟩
theorem Ow(hL:s.heap.IsTuple l items)
  (h:∀ h',IsEnum h' (s.heap.objs.size + 1) s.heap.objs.size 0 .none->h'.IsTupleIter s.heap.objs.size l 0->h'.objs.size=s.heap.objs.size + 2 ->
   (∀ b o,s.heap.get? b=some o->h'.get? b=some o)->Q (.ref (s.heap.objs.size + 1)) { s with heap:=h' }) :
  W8 (model prog w) A (call (.type "enumerate") [.ref l]) Q E s:=by
 obtain⟨⟨c,aJ,dt,sl⟩,hl,hc,n,hd⟩:=hL;replace hc:c = .type "tuple":=hc;replace hd:dt = .seq items n:=hd;subst hc hd;refine callType_new F.called_enumerate (by decide) (F.typeCall_enumerate_1 _) (F.newCall_enumerate_1 _) (λobj=>F.args_object_init_2 obj _) F.entry_enumerate_new
  (Ou l items n aJ sl) ⟨hl,?_⟩
 have hz:(s.heap.push { cls:=.type "tuple_iterator",data:=.fields #[.ref l,.int 0 0] }).objs.size=s.heap.objs.size + 1:=Qu ..;show _/\_;rw[hz];have he:IsEnum ((s.heap.push { cls:=.type "tuple_iterator",data:=.fields #[.ref l,.int 0 0] }).push
   { cls:=.type "enumerate",data:=.fields #[.none,.bool false,.ref s.heap.objs.size,JF 0,.none,.none] }) (s.heap.objs.size + 1) s.heap.objs.size 0 .none:=by
  have:=Wl (s.heap.push { cls:=.type "tuple_iterator",data:=.fields #[.ref l,.int 0 0] })
   (o:={ cls:=.type "enumerate",data:=.fields #[.none,.bool false,.ref s.heap.objs.size,JF 0,.none,.none] }) rfl
  rw[hz] at this; exact this
 refine⟨⟨_,he,rfl⟩,h _ he ⟨_,Wa _ (Wl _ rfl),rfl,rfl⟩ (by rw[Qu,hz]) λb o x=>Wa _ (Wa _ x)⟩
end PySem
namespace L2
open PySem PySem.Spec PyProof.Rows
section
variable {X:Cx} {pins:List (Addr×Obj)} {σ:St} {H:Hp} {s:W4} {h':Heap}
theorem Inv.q_(fp:List Addr)(I:Inv X pins σ H s)(k:∀ b o,b ∉ fp->s.heap.get? b=some o->h'.get? b=some o)(hf:∀ b ∈ fp,fG X pins H b):Inv X pins σ H { s with heap:=h',toks:=t' }:=by
 have lK:∀ b u,H b=some u->b ∉ fp:=λb u e z=>by rw[(hf b z).1] at e; cases e
 refine I.step (g':=s.gens) (d':=s.drawn) (ch:=fp) (λb hb=>?_) (λb o _ _ hc e _=>k b o hc e) (λb o _ _ hc e _=>⟨o.slots,k b o hc e⟩) (λ_ _ _ _ n=>n)
  (λb o hc e=>⟨o,k b o hc e⟩) (λ_ _ e=>e) (λ_ _ _ e=>e) (λb ps e=>⟨#[],by rw[e]; simp⟩) (λm hm=>?_) (λb u e=>?_) I.bare
 ·obtain⟨f0,f1,f2,f3,f4,f5⟩:=hf b hb;exact⟨f3,f1,f4,f5⟩
 ·obtain⟨o,es,ep,ho,r⟩:=hm;exact⟨o,es,ep,k _ o (λz=>(hf _ z).2.1 rfl) ho,r⟩
 ·refine(I.aB b u e).mY (λc v hc q=>k c v ?_ q) (λ_ q=>q) (λ_ _ q=>q) λ_ _ _ q=>q
  rcases hc with z | z
  ·rw[z]; exact lK b u e
  ·exact lK c _ z
theorem Inv.xk(I:Inv X pins σ H s)(hf:∀ b ∈ [e,it],fG X pins H b)(aS:∀ b ∈ [e,it],b < s.heap.objs.size)(ru:RelV y u)
  (hT:h'.get? s.heap.objs.size=some { cls:=.type "tuple",data:=.seq #[.int i tk,u] }) (k:∀ b o,b≠e->b≠it->s.heap.get? b=some o->h'.get? b=some o) :
  Inv X pins σ (upd H s.heap.objs.size (.tup [.int i,y])) { s with heap:=h',toks:=t' }:=by
 have I1:Inv X pins σ (upd H s.heap.objs.size (.tup [.int i,y])) { s with heap:=s.heap.push { cls:=.type "tuple",data:=.seq #[.int i tk,u] },toks:=t' } :=
  I.laid (t':=t') (λb o e=>Wa _ e) (Wh _) (show cj X.prog X.w _ _ _ (.tup [.int i,y]) from
   ⟨by simp only[WB,U1]; rw[JJ]; decide,[.int i tk,u],.cons ⟨_,rfl⟩ (.cons ru .nil),ik.new _ _⟩)
 have:=Inv.q_ (t':=t') (h':=h') [e,it] I1 (λb o hb eb=>?_) λb hb=>?_
 ·exact this
 ·have he:b≠e:=λz=>hb (by simp[z])
  have hi:b≠it:=λz=>hb (by simp[z])
  rcases Heap.get?_push_cases eb with ⟨z,z'⟩ | eb
  ·subst z z';exact hT
  ·exact k b o he hi eb
 ·obtain⟨f0,r⟩:=hf b hb;refine⟨?_,r⟩;have hl:=aS b hb;rw[aL (Wo hl)];exact f0
def DP(K:W3)(a:Addr):It :=
 ⟨(vq K a).go,λi H x H'=>∃ p y,H p=none/\(∀ xs,bW K H a xs->xs[i]? = some y)/\H'=upd H p (.tup [.int i,y])/\x = .ref p,λi H=>∃ xs,bW K H a xs/\xs.length=i⟩
def DQ(K:W3)(a:Addr):It :=
 ⟨(sL K a).go,λi H x H'=>∃ p y,H p=none/\(∀ xs,cH K H a xs->xs[i]? = some y)/\H'=upd H p (.tup [.int i,y])/\x = .ref p,λi H=>∃ xs,cH K H a xs/\xs.length=i⟩
theorem Ox{P:Wm}{w:Wq}{K:W3}{elts:List Expr}{ctx}{pos:Pos}(a e it:Addr)(jK:e≠it)(xl:a≠e)(rf:a≠it):Turn P w K (.Tuple elts ctx pos) (DP K a) [e,it] e (λi h=>(∃ old,IsEnum h e it i old)/\h.IsListIter it a i) where
 mem:=by simp
 obj:=λi h st b hb=>by
  obtain⟨⟨old,he⟩,hi⟩:=st;have hb:b=e\/b=it:=by simpa using hb
  rcases hb with z | z
  ·subst z;exact⟨_,he,λv z=>by
    have z':Data.fields _=Data.cell v:=z
    cases z'⟩
  ·subst z;obtain⟨o,e,c,d⟩:=hi;exact⟨o,e,λv z=>by rw[d] at z; cases z⟩
 keep:=λi h h' st k=>⟨let ⟨old,he⟩:=st.1; ⟨old,k e (by simp) _ he⟩,st.2.at λo q=>k it (by simp) o q⟩
 item:=by
  intro X hP hw hK hc i pins s σ H E I hf st hg;subst hP hw hK;obtain⟨xs,x,hq,hx⟩:=hg;obtain⟨ah,rv,p,hz⟩:=I.list hq;obtain⟨u,hu,ru⟩:=rv.get hx;obtain⟨⟨old,he⟩,hi⟩:=st;have hL:s.heap.IsList a ah.toArray:=p.isList;have D:=Draws.list (prog:=X.prog) (w:=X.w) (A:=X.A.in1) (I.ok.hd hc) it a rf ah.toArray;have rg:i < ah.length:=(W6.mp hu).1;have aS:∀ b ∈ [e,it],b < s.heap.objs.size:=λb hb=>by
   have hb:b=e\/b=it:=by simpa using hb
   rcases hb with z | z
   ·subst z; exact Wj he
   ·subst z; obtain⟨o,q,_⟩:=hi; exact Wj q
  refine wpAny_pyNext_enum_itemD D he ⟨hi,hL⟩ (by simpa using rg) jK (by simp[jK,Ne.symm xl]) λx' h' tk hP ho iX hT hsz hk=>?_
  have ex:x'=u:=by
   have:ah.toArray[i]? = some x':=hP;rw[QO,hu] at this
   cases this;rfl
  subst ex;refine⟨_,rfl,wpAny_letOwnedTupleGo_enum ho λh2 rh sb=>?_⟩;have k2:∀ b o,b≠e->b≠it->s.heap.get? b=some o->h2.get? b=some o:=λb o q1 q2 q=>(sb.2 b q1).trans (hk b o q1 q2 q)
  have rj:h2.get? s.heap.objs.size=some { cls:=.type "tuple",data:=.seq #[.int i tk,x'] }:=(sb.2 _ (WR (aS e (by simp)))).trans hT;have I2:Inv X pins σ (upd H s.heap.objs.size (.tup [.int i,x])) { s with heap:=h2,toks:=tk + 1 }:=Inv.xk (t':=tk + 1) I hf aS ru rj k2;refine⟨.ref s.heap.objs.size,_,I2,rfl,⟨s.heap.objs.size,x,I.aB.fresh (Wh _),λys hy=>by rw[I.qb hy hq]; exact hx,rfl,rfl⟩,⟨⟨x',by simpa using rh⟩,iX.1.at λo q=>(sb.2 it (Ne.symm jK)).trans q⟩,λb hb=>?_⟩;rw[aL (Wo (aS b hb))];exact(hf b hb).1
 done:=by
  intro X hP hw hK hc i pins s σ H E I hf st hg;subst hP hw hK;obtain⟨xs,hq,hx⟩:=hg;obtain⟨ah,rv,p,hz⟩:=I.list hq;obtain⟨⟨old,he⟩,hi⟩:=st;have hL:s.heap.IsList a ah.toArray:=p.isList;have hl:=rv.length;have D:=Draws.list (prog:=X.prog) (w:=X.w) (A:=X.A.in1) (I.ok.hd hc) it a rf ah.toArray;have hn:ah.toArray.size=i:=by simp; omega
  obtain⟨f0,f1,f2,f3,f4,f5⟩:=hf it (by simp);exact wpAny_pyNext_enum_endD D he ⟨by rw[hn]; exact hi,hL⟩ λh' eb=>⟨rfl,I.turned (t':=s.toks) (λb o hb q=>eb b o hb q) f0 f1 f3 f4 f5⟩
 self:=λ_ _ _ _ _ st h=>by
  obtain⟨⟨old,he⟩,_⟩:=st;exact Jn he h
theorem Oy{P:Wm}{w:Wq}{K:W3}{elts:List Expr}{ctx}{pos:Pos}(a e it:Addr)(jK:e≠it)(xl:a≠e)(rf:a≠it):Turn P w K (.Tuple elts ctx pos) (DQ K a) [e,it] e (λi h=>(∃ old,IsEnum h e it i old)/\h.IsTupleIter it a i) where
 mem:=by simp
 obj:=λi h st b hb=>by
  obtain⟨⟨old,he⟩,hi⟩:=st;have hb:b=e\/b=it:=by simpa using hb
  rcases hb with z | z
  ·subst z;exact⟨_,he,λv z=>by
    have z':Data.fields _=Data.cell v:=z
    cases z'⟩
  ·subst z;obtain⟨o,e,c,d⟩:=hi;exact⟨o,e,λv z=>by rw[d] at z; cases z⟩
 keep:=λi h h' st k=>⟨let ⟨old,he⟩:=st.1; ⟨old,k e (by simp) _ he⟩,st.2.at λo q=>k it (by simp) o q⟩
 item:=by
  intro X hP hw hK hc i pins s σ H E I hf st hg;subst hP hw hK;obtain⟨xs,x,hq,hx⟩:=hg;obtain⟨ah,rv,p,hz⟩:=I.tuple hq;obtain⟨u,hu,ru⟩:=rv.get hx;obtain⟨⟨old,he⟩,hi⟩:=st;have hL:s.heap.IsTuple a ah.toArray:=p;have D:=Draws.tuple' (prog:=X.prog) (w:=X.w) (A:=X.A.in1) (I.ok.hd hc) it a rf ah.toArray;have rg:i < ah.length:=(W6.mp hu).1;have aS:∀ b ∈ [e,it],b < s.heap.objs.size:=λb hb=>by
   have hb:b=e\/b=it:=by simpa using hb
   rcases hb with z | z
   ·subst z; exact Wj he
   ·subst z; obtain⟨o,q,_⟩:=hi; exact Wj q
  refine wpAny_pyNext_enum_itemD D he ⟨hi,hL⟩ (by simpa using rg) jK (by simp[jK,Ne.symm xl]) λx' h' tk hP ho iX hT hsz hk=>?_
  have ex:x'=u:=by
   have:ah.toArray[i]? = some x':=hP;rw[QO,hu] at this
   cases this;rfl
  subst ex;refine⟨_,rfl,wpAny_letOwnedTupleGo_enum ho λh2 rh sb=>?_⟩;have k2:∀ b o,b≠e->b≠it->s.heap.get? b=some o->h2.get? b=some o:=λb o q1 q2 q=>(sb.2 b q1).trans (hk b o q1 q2 q)
  have rj:h2.get? s.heap.objs.size=some { cls:=.type "tuple",data:=.seq #[.int i tk,x'] }:=(sb.2 _ (WR (aS e (by simp)))).trans hT;have I2:Inv X pins σ (upd H s.heap.objs.size (.tup [.int i,x])) { s with heap:=h2,toks:=tk + 1 }:=Inv.xk (t':=tk + 1) I hf aS ru rj k2;refine⟨.ref s.heap.objs.size,_,I2,rfl,⟨s.heap.objs.size,x,I.aB.fresh (Wh _),λys hy=>by rw[I.vn hy hq]; exact hx,rfl,rfl⟩,⟨⟨x',by simpa using rh⟩,iX.1.at λo q=>(sb.2 it (Ne.symm jK)).trans q⟩,λb hb=>?_⟩;rw[aL (Wo (aS b hb))];exact(hf b hb).1
 done:=by
  intro X hP hw hK hc i pins s σ H E I hf st hg;subst hP hw hK;obtain⟨xs,hq,hx⟩:=hg;obtain⟨ah,rv,p,hz⟩:=I.tuple hq;obtain⟨⟨old,he⟩,hi⟩:=st;have hL:s.heap.IsTuple a ah.toArray:=p;have hl:=rv.length;have D:=Draws.tuple' (prog:=X.prog) (w:=X.w) (A:=X.A.in1) (I.ok.hd hc) it a rf ah.toArray;have hn:ah.toArray.size=i:=by simp; omega
  obtain⟨f0,f1,f2,f3,f4,f5⟩:=hf it (by simp);exact wpAny_pyNext_enum_endD D he ⟨by rw[hn]; exact hi,hL⟩ λh' eb=>⟨rfl,I.turned (t':=s.toks) (λb o hb q=>eb b o hb q) f0 f1 f3 f4 f5⟩
 self:=λ_ _ _ _ _ st h=>by
  obtain⟨⟨old,he⟩,_⟩:=st;exact Jn he h
end
end L2
namespace DV
open PySem PySem.Spec PyProof.Rows L2
section
variable {X:Cx} {c:Fc} {tg e:Expr} {fe:DE} {pos pp:Pos}
def Oz(K:W3)(ta:TA):TI:=λσ H R=>ta σ H λvs H1=>(∃ a,vs=[.ref a]/\(∃ xs,bW K H1 a xs)/\R (DP K a) H1)\/(∃ a,vs=[.ref a]/\(∃ xs,cH K H1 a xs)/\R (DQ K a) H1)
theorem OA {ctx} (hg:Gl X "enumerate") (hm:X.mg "enumerate" = none) (ha:PA X [a] ta) (hs:Wf [a] X.env=[(false,eval a X.env)]:=by rfl):PI X (.Tuple elts ctx tp) (.Call (.Name "enumerate" pp) [a] [] pos) (Oz X.K ta):=by
 intro pins s σ H R I h;refine Call_ (j0 I hg hm boot_enumerate (Q0 (aR (ha pos pins s σ H _ I h) λus s1 ⟨vs,H1,I1,r1,q1⟩=>?_) hs rfl));rcases q1 with ⟨a,ev,⟨xs,hq⟩,q⟩ | ⟨a,ev,⟨xs,hq⟩,q⟩
 ·subst ev
  cases r1 with
  | cons r rr =>
   cases rr
   cases r;obtain⟨ah,rv,p,hz⟩:=I1.list hq;have hL:s1.heap.IsList a ah.toArray:=p.isList;have aS:a < s1.heap.objs.size:=by obtain⟨o,q,_⟩:=hL; exact Wj q
   refine call_enumerate_list hL λh' he hi hsz kp=>Jn he ?_
   refine⟨s1.heap.objs.size + 1,[s1.heap.objs.size + 1,s1.heap.objs.size],_,_,H1,rfl,I1.kept (t':=s1.toks) kp,Ox a _ _ (Nat.succ_ne_self _) (Wo (Uc aS)) (Wo aS),⟨⟨_,he⟩,hi⟩,λb hb=>?_,q⟩;have hb:b=s1.heap.objs.size + 1\/b=s1.heap.objs.size:=by simpa using hb
   have hle:s1.heap.objs.size<=b:=by rcases hb with z | z <;> subst z <;> first | exact Wh _ | exact Ug _
   exact I1.g6 hle (I1.aB.fresh hle)
 ·subst ev
  cases r1 with
  | cons r rr =>
   cases rr
   cases r;obtain⟨ah,rv,p,hz⟩:=I1.tuple hq;have hL:s1.heap.IsTuple a ah.toArray:=p;have aS:a < s1.heap.objs.size:=by obtain⟨o,q,_⟩:=hL; exact Wj q
   refine Ow hL λh' he hi hsz kp=>Jn he ?_
   refine⟨s1.heap.objs.size + 1,[s1.heap.objs.size + 1,s1.heap.objs.size],_,_,H1,rfl,I1.kept (t':=s1.toks) kp,Oy a _ _ (Nat.succ_ne_self _) (Wo (Uc aS)) (Wo aS),⟨⟨_,he⟩,hi⟩,λb hb=>?_,q⟩;have hb:b=s1.heap.objs.size + 1\/b=s1.heap.objs.size:=by simpa using hb
   have hle:s1.heap.objs.size<=b:=by rcases hb with z | z <;> subst z <;> first | exact Wh _ | exact Ug _
   exact I1.g6 hle (I1.aB.fresh hle)
def kf(ds:List D):List D:=ds.mapIdx λi d=>D.tup [.int (i:Nat),d]
theorem xm{ds:List D}{i:Nat}{d:D}(h:(kf ds)[i]? = some d):∃ d',ds[i]? = some d'/\d = .tup [.int i,d']:=by
 unfold kf at h;rw[List.getElem?_mapIdx] at h
 cases e:ds[i]? with
 | none=>rw[e] at h; cases h
 | some d' =>
  rw[e] at h
  cases h;exact⟨d',rfl,rfl⟩
theorem aG.pair(r:Rep H O v d):aG H O [.int i,v] [.int i,d]:=by
 refine⟨rfl,λj v' d' e1 e2=>?_⟩;match j with
 | 0=>simp at e1 e2; subst e1 e2; exact .int _
 | 1=>simp at e1 e2; subst e1 e2; exact r
 | j + 2=>simp at e1
def rm(f:DE):DI:=λδ=>(f δ).bind λr δ1=>match r.d with
 | .lst ds=>.ok (kf ds) δ1
 | .tup ds=>.ok (kf ds) δ1
 | _=>.stuck
theorem OB {elts:List Expr} {ctx} {tp:Pos} (hg:Gl X "enumerate") (hm:X.mg "enumerate" = none) (he:SE X c e fe) (hs:Wf [e] X.env=[(false,eval e X.env)]:=by rfl):SI X c (.Tuple elts ctx tp) (.Call (.Name "enumerate" pp) [e] [] pos) (rm fe) :=
 PI.weak (OA hg hm (fw he gJ hs) hs) λσ H R ⟨δ,k,q⟩=>by
  unfold rm at q;rw[a_] at q;refine⟨δ,k,aO q λr δ1 q1 v H1 a1 r1=>?_⟩;have rr:=r1.rep;generalize r.d=d at q1 rr
  cases d <;> first | exact q1.elim | skip
  ·cases rr with
   | tup h1 h2 h3 h4 =>
    rename_i a vs;refine .inr ⟨_,rfl,⟨_,.of h2⟩,q1 _ H1 a1 ?_⟩;intro H2 kp;have h5:=kp _ _ h2 λz=>h1 (.inr z)
    have r':aG H1 (Av c σ δ1) vs _:=⟨h3,h4⟩
    refine⟨⟨vs,.of h5,by rw[r'.1]; simp[kf]⟩,λi d e=>?_⟩;obtain⟨d',e',rfl⟩:=xm e;obtain⟨v,ev,rv⟩:=r'.get e';refine⟨⟨vs,v,.of h5,ev⟩,λx H3 ⟨p,y,hp,hy,e3,ex⟩=>.inr ⟨p,_,_,hp,e3,ex,rfl,?_⟩⟩;have:=hy vs (.of h5);rw[ev] at this
    cases this;exact aG.pair rv
  ·cases rr with
   | lst h1 h2 h3 h4 =>
    rename_i a vs;refine .inl ⟨_,rfl,⟨_,.inl h2⟩,q1 _ H1 a1 ?_⟩;intro H2 kp;have h5:Rd H2 a (.lst vs):=Rd.keep h2 λo e=>kp a o e λz=>h1 (.inr z)
    have r':aG H1 (Av c σ δ1) vs _:=⟨h3,h4⟩
    refine⟨⟨vs,.inl h5,by rw[r'.1]; simp[kf]⟩,λi d e=>?_⟩;obtain⟨d',e',rfl⟩:=xm e;obtain⟨v,ev,rv⟩:=r'.get e';refine⟨⟨vs,v,.inl h5,ev⟩,λx H3 ⟨p,y,hp,hy,e3,ex⟩=>.inr ⟨p,_,_,hp,e3,ex,rfl,?_⟩⟩;have:=hy vs (.inl h5);rw[ev] at this
    cases this;exact aG.pair rv
end
end DV
namespace HT
open PySem PySem.Spec PyProof.Rows
section
variable {prog:Wm} {w:Wq} {A:Wu} {E:Value->W4->Prop} {s:W4}
end
end HT
namespace DV
open PySem PySem.Spec PyProof.Rows L2
section
variable {X:Cx} {c:Fc} {e:Expr} {fb:BE} {pos p2:Pos}
end
def Fc.dh(c:Fc)(i:Nat)(a:Addr):Fc:=⟨c.H₀,λb=>c.B b\/b=a,(i,a) :: c.pin,c.xc⟩
theorem Np.dh(h:Np c np):Np (c.dh i a) (i :: np):=λp hp=>by
 rcases Wr.mp hp with e | hp
 ·subst e; simp
 ·have:=h p hp;simp at this ⊢;exact .inr this
section
variable {c:Fc} {σ σ':St} {δ δ':Dl} {H H':Hp} {i:Nat} {a:Addr} {ds:List D}
theorem Own.unset(h:Own σ (δ.set i none) b):Own σ δ b:=by
 obtain⟨j,d',e1,e2⟩:=h;by_cases hj:i=j
 ·subst hj;rw[Q7] at e1;split at e1
  ·split at e1 <;> cases e1
  ·rename_i q; exact absurd rfl q
 ·rw[W9 hj] at e1;exact⟨j,d',e1,e2⟩
theorem OC(k:Ok c σ δ H)(e:δ[i]? = some (some (.own (.lst ds))))(ea:σ[i]? = some (some (.ref a)))(b:Addr)(z:Av (c.dh i a) σ (δ.set i none) b):Av c σ δ b:=by
 rcases z with (z | z) | z
 ·exact .inl z
 ·subst z; exact .inr ⟨i,_,e,ea⟩
 ·exact .inr z.unset
theorem Ok.dh(k:Ok c σ δ H)(e:δ[i]? = some (some (.own (.lst ds))))(ea:σ[i]? = some (some (.ref a))):Ok (c.dh i a) σ (δ.set i none) H:=by
 have sub:=OC k e ea;have ne:∀ j d,(δ.set i none)[j]? = some (some d)->i≠j/\δ[j]? = some (some d):=λj d q=>by
  by_cases hj:i=j
  ·subst hj;rw[Wn (W6.mp e).1] at q; cases q
  ·rw[W9 hj] at q; exact⟨hj,q⟩
 refine⟨λb o h n=>k.keep b o h λ⟨j,z⟩=>n ⟨j,W7 _ z⟩,λb z=>?_,λb ⟨j,z⟩=>?_,by rw[Q8]; exact k.len,λj d q=>?_,λj d q=>?_,λj l b d d' q1 q2=>?_,λp hp=>?_⟩
 ·rcases z with z | z
  ·exact k.bd b z
  ·subst z; exact k.l5 ⟨i,_,e,ea⟩
 ·rcases Wr.mp z with z | z
  ·cases z; exact k.l5 ⟨i,_,e,ea⟩
  ·exact k.eT b ⟨j,z⟩
 ·obtain⟨_,q⟩:=ne j _ q;obtain⟨v,g1,g2⟩:=k.slot j d q;exact⟨v,g1,g2.aW λb z=>.inl (sub b z)⟩
 ·obtain⟨hj,q⟩:=ne j _ q;obtain⟨b,g1,g2,g3,g4⟩:=k.own j d q;refine⟨b,g1,g2.aW λb z=>.inl (sub b z),g3.imp (λ⟨l,z⟩=>⟨l,W7 _ z⟩) id,λz=>?_⟩;rcases z with z | z
  ·exact g4 z
  ·subst z; exact hj (k.inj i j b _ _ e q ea g1)
 ·exact k.inj j l b d d' (ne j _ q1).2 (ne l _ q2).2
 ·rcases Wr.mp hp with z | z
  ·subst z; exact ea
  ·exact k.pinned p z
end
def V_(i:Nat)(g:DG)(b:DS):DS:=λδ=>match δ[i]? with
 | some (some (.own (.lst ds)))=>(forL g b ds (δ.set i none)).bind λfl δ'=>match fl with
  | .ret (.own _)=>.stuck
  | fl=>.ok fl (δ'.set i (some (.own (.lst ds))))
 | _=>.stuck
section
variable {X:Cx} {c:Fc} {tg iter:Expr} {body:List Stmt} {g:DG} {b:DS} {i:Nat} {pos:Pos}
def pk(np:List Nat)(i:Nat):DS:=λδ=>match δ[i]? with
 | some (some (.own d))=>if np.contains i || !np.all (bt δ) then .ok (.ret (.pure d)) (δ.set i (some (.pure d))) else .ok (.ret (.own d)) (δ.set i none)
 | some (some (.pure d))=>.ok (.ret (.pure d)) δ
 | _=>.stuck
theorem DU{np:List Nat}{e:Expr}(ax:Np c np)(he:PE X e (cz i)):SS X c (.Return (some e) pos) (pk np i):=PS.weak (Ax he) λD σ H ⟨δ,k,q⟩=>by
 unfold pk fD at q;split at q
 ·rename_i d e;obtain⟨a,ea,oa,ia,nb⟩:=k.own i d e;refine⟨.ref a,ea,?_⟩;split at q
  ·obtain⟨a',dj,x,r⟩:=k.give e;rw[ea] at dj; cases dj
   exact q σ H x _ r
  ·rename_i hc;simp only[Bool.or_eq_true,not_or,Bool.not_eq_true,Bool.not_eq_false',List.all_eq_true] at hc;obtain⟨pq,gL⟩:=hc;have nI:¬ c.I a:=λ⟨j,z⟩=>by
    have z1:=ax (j,a) z;have z2:=k.pinned (j,a) z;have z3:=gL j (by simpa using z1);unfold bt at z3;split at z3
    ·rename_i d' ej;have:=k.inj i j a _ _ e ej ea z2;subst this;rw[z1] at pq; cases pq
    ·cases z3
   have h0:c.H₀ a=none:=ia.resolve_left nI;have hi:i < δ.length:=(W6.mp e).1;have ne:∀ j d,(δ.set i none)[j]? = some (some d)->i≠j/\δ[j]? = some (some d):=λj d q=>by
    by_cases hj:i=j
    ·subst hj;rw[Wn hi] at q; cases q
    ·rw[W9 hj] at q; exact⟨hj,q⟩
   have sub:∀ b,Av (c.plus a) σ (δ.set i none) b->Av c σ δ b:=λb z=>by
    rcases z with (z | z) | z
    ·exact .inl z
    ·subst z; exact .inr ⟨i,_,e,ea⟩
    ·exact .inr z.unset
   have kp:Ok (c.plus a) σ (δ.set i none) H:=by
    refine⟨k.keep,λb z=>?_,k.eT,by rw[Q8]; exact k.len,λj d q=>?_,λj d q=>?_,λj l b d d' q1 q2=>k.inj j l b d d' (ne j _ q1).2 (ne l _ q2).2,k.pinned⟩
    ·rcases z with z | z
     ·exact k.bd b z
     ·subst z; exact k.l5 ⟨i,_,e,ea⟩
    ·obtain⟨_,q⟩:=ne j _ q;obtain⟨v,g1,g2⟩:=k.slot j d q;exact⟨v,g1,g2.aW λb z=>.inl (sub b z)⟩
    ·obtain⟨hj,q⟩:=ne j _ q;obtain⟨b,g1,g2,g3,g4⟩:=k.own j d q;refine⟨b,g1,g2.aW λb z=>.inl (sub b z),g3,λz=>?_⟩;rcases z with z | z
     ·exact g4 z
     ·subst z; exact hj (k.inj i j b _ _ e q ea g1)
   have x:a7 c σ δ H σ (δ.set i none) H:=by
    refine⟨⟨k.keep,k.bd,k.eT,by rw[Q8]; exact k.len,λj d q=>?_,λj d q=>?_,λj l b d d' q1 q2=>k.inj j l b d d' (ne j _ q1).2 (ne l _ q2).2,k.pinned⟩,λ_ _ w _=>w,λb z=>.inl z.unset,λ_ o w=>⟨o,w⟩⟩
    ·obtain⟨_,q⟩:=ne j _ q;obtain⟨v,g1,g2⟩:=k.slot j d q;exact⟨v,g1,g2.aW λb z=>.inl (z.elim .inl λz=>.inr z.unset)⟩
    ·obtain⟨hj,q⟩:=ne j _ q;obtain⟨b,g1,g2,g3,g4⟩:=k.own j d q;exact⟨b,g1,g2.aW λb z=>.inl (z.elim .inl λz=>.inr z.unset),g3,g4⟩
   exact q σ H x _ ⟨a,rfl,oa.aW λb z=>.inl (sub b z),nb,h0,kp,h0⟩
 ·rename_i d e;obtain⟨v,e1,r⟩:=k.slot i d e;exact⟨v,e1,q σ H (.refl k) v r⟩
 ·exact q.elim
end
theorem uw(hu:X.A.units + 64 < WG):ir X (λx y H Q=>q0 x y H Q\/qm X.K x y H Q):=(xj hu).or bx
end DV
namespace L2
open PySem PySem.Spec PyProof.Rows
section
variable {X:Cx}
end
end L2
namespace DV
open PySem PySem.Spec PyProof.Rows L2
section
variable {X:Cx} {c:Fc} {e:Expr} {fe:DE} {pos:Pos}
end
section
variable {c:Fc} {σ:St} {δ δ':Dl} {H H':Hp} {i:Nat} {a p:Addr} {ds:List D}
end
open Classical in
noncomputable def itAt (δ₀:Dl) (ds:List D):DI:=λδ=>if δ=δ₀ then .ok ds δ else .stuck
section
variable {X:Cx} {c:Fc} {cs:List Nat} {tg iter elt:Expr} {ifs:List Expr} {scope:Scope} {pos:Pos} {g:DG} {t:DT} {el:DE} {i:Nat}
end
section
variable {X:Cx} {c:Fc} {e:Expr} {fe:DE} {pos pos':Pos}
end
section
variable {X:Cx} {c:Fc} {pp pos:Pos}
end
section
variable {c:Fc} {σ:St} {δ:Dl} {H:Hp} {a:Addr} {d:D}
end
section
variable {X:Cx} {c:Fc} {e:Expr} {es:List Expr} {as:List Ak} {f0:DE} {k n:Nat} {x:Str} {G:DF} {pp pos:Pos}
end
section
variable {X:Cx} {c:Fc} {e:Expr} {fe:DE} {pos:Pos}
theorem Ok.OD(k:Ok c σ δ H)(e:δ[i]? = some (some (.own (.aJ ds))))(ea:σ[i]? = some (some (.ref a)))(r:DR H (Av c σ δ) gf dW) :
  a7 c σ δ H σ (δ.set i (some (.own (.aJ dW)))) (upd H a (.dK gf)):=by
 have hi:i < δ.length:=(W6.mp e).1;obtain⟨a',dj,oa,ia,nb⟩:=k.own i _ e;rw[ea] at dj; cases dj
 obtain⟨vs,ha,_⟩:=oa;have me:Own σ δ a:=⟨i,_,e,ea⟩
 have qI:Av c σ δ a:=.inr me;have mf:∀ b,Own σ (δ.set i (some (.own (.aJ dW)))) b ↔ Own σ δ b:=λb=>by
  constructor
  ·rintro ⟨j,d,e1,e2⟩;by_cases hj:i=j
   ·subst hj;exact⟨i,_,e,e2⟩
   ·rw[W9 hj] at e1;exact⟨j,d,e1,e2⟩
  ·rintro ⟨j,d,e1,e2⟩;by_cases hj:i=j
   ·subst hj;exact⟨i,_,by rw[Wn hi],e2⟩
   ·exact⟨j,d,by rw[W9 hj]; exact e1,e2⟩
 have jF:∀ b,Av c σ (δ.set i (some (.own (.aJ dW)))) b->Av c σ δ b:=λb z=>z.elim .inl λz=>.inr ((mf b).mp z)
 have ne:∀ b,¬ Av c σ δ b->b≠a:=λb n z=>n (by rw[z]; exact qI)
 have kp:∀ b o,H b=some o->¬ Av c σ δ b->upd H a (.dK gf) b=some o:=λb o h n=>by rw[aL (ne b n)]; exact h
 have hV:∀ b o,H b=some o->∃ o',upd H a (.dK gf) b=some o':=λb o h=>by
  by_cases hb:b=a
  ·exact⟨_,by rw[hb]; exact cZ⟩
  ·exact⟨o,by rw[aL hb]; exact h⟩
 refine⟨⟨λb o h n=>?_,λb z=>?_,λb z=>?_,by rw[Q8]; exact k.len,λj d h=>?_,λj d h=>?_,λj l b d d' h1 h2 h3 h4=>?_,k.pinned⟩,λb o h n=>?_,λb z=>.inl ((mf b).mp z),hV⟩
 ·have hb:b≠a:=λz=>by
   subst z;rcases ia with z | z
   ·exact n z
   ·rw[z] at h; cases h
  rw[aL hb];exact k.keep b o h n
 ·obtain⟨o,h⟩:=k.bd b z;exact hV b o h
 ·obtain⟨o,h⟩:=k.eT b z;exact hV b o h
 ·have hj:i≠j:=λz=>by subst z; rw[Wn hi] at h; cases h
  rw[W9 hj] at h;obtain⟨v,h1,h2⟩:=k.slot j d h;exact⟨v,h1,(h2.keep kp).aW λb z=>.inl (jF b z)⟩
 ·by_cases hj:i=j
  ·subst hj;rw[Wn hi] at h
   cases h;exact⟨a,ea,(let r':=r.map λv d h=>(Rep.keep h kp).aW λb z=>.inl (jF b z); ⟨gf,cZ,r'.keys,r'.vals⟩),ia,nb⟩
  ·rw[W9 hj] at h;obtain⟨b,h1,h2,h3,h4⟩:=k.own j d h;have hb:b≠a:=λz=>by subst z; exact hj (k.inj i j b _ d e h ea h1)
   exact⟨b,h1,(h2.keep kp λo q=>by rw[aL hb]; exact q).aW λb z=>.inl (jF b z),h3,h4⟩
 ·have f1:∃ d,δ[j]? = some (some (.own d)):=by
   by_cases hj:i=j
   ·subst hj; exact⟨_,e⟩
   ·rw[W9 hj] at h1; exact⟨d,h1⟩
  have f2:∃ d,δ[l]? = some (some (.own d)):=by
   by_cases hj:i=l
   ·subst hj; exact⟨_,e⟩
   ·rw[W9 hj] at h2; exact⟨d',h2⟩
  obtain⟨_,f1⟩:=f1;obtain⟨_,f2⟩:=f2;exact k.inj j l b _ _ f1 f2 h3 h4
 ·have hb:b≠a:=λz=>n (by rw[z]; exact me)
  rw[aL hb]; exact h
def n4(δ:Dl)(i:Nat):Bool:=match δ[i]? with
 | some (some (.own (.aJ _)))=>true
 | _=>false
def px(i:Nat)(fi fe:DE):DS:=λδ=>if n4 δ i then(fe δ).bind λr δ1=>if n4 δ1 i then(fi δ1).bind λk δ2=>match δ2[i]? with
  | some (some (.own (.aJ ds)))=>match fo k.d with
   | some kk=>if ds.length < Wd then .ok .next (δ2.set i (some (.own (.aJ (putD ds kk r.d))))) else .stuck
   | none=>.stuck
  | _=>.stuck else .stuck else .stuck
theorem DW(h:n4 δ i=true):∃ ds,δ[i]? = some (some (.own (.aJ ds))):=by
 unfold n4 at h;split at h
 ·rename_i ds e; exact⟨ds,e⟩
 ·cases h
theorem OE{i:Nat}{o ix:Expr}{fi:DE}{sp:Pos}(hu:X.A.units + 64 < WG)(ho:PE X o (cz i))(hi:SE X c ix fi)(he:SE X c e fe)
  (hs:QX e (some (.Subscript o ix sp)) pos.line X.env=pure false:=by rfl):SS X c (.Assign [.Subscript o ix sp] e pos) (px i fi fe) :=
 PS.weak (BA (by omega) ho hi he hs) λD σ H ⟨δ,k,q⟩=>by
  unfold px fD at q;split at q
  case isFalse=>exact q.elim
  rename_i i6;rw[a_] at q;refine⟨δ,k,aO q λr δ1 q1 v H1 a1 r1=>?_⟩;split at q1
  case isFalse=>exact q1.elim
  rename_i hown1;obtain⟨ds1,e1⟩:=DW hown1;obtain⟨a,ea,_,_⟩:=a1.ok.own i _ e1;refine⟨.ref a,ea,δ1,a1.ok,?_⟩;rw[a_] at q1;refine aO q1 λkx δ2 q2 u H2 a2 r2=>?_
  split at q2
  ·rename_i ds e2;split at q2
   ·rename_i kk hk;split at q2
    ·rename_i hz;obtain⟨a',dj,oa,_⟩:=a2.ok.own i _ e2;rw[ea] at dj; cases dj
     obtain⟨ws,ha,hk1,hk2⟩:=id oa;have dr:DR H2 (Av c σ δ2) ws ds:=DR.of hk1 hk2;have v_:=qY hk r2.b;subst v_;have hlen:ws.length=ds.length:=by have:=congrArg List.length hk1; simpa using this
     have rv:Rep H2 (Av c σ δ2) v r.d:=Rep.cR r1.rep a2;refine⟨a,_,rfl,oJ.k ha (by rw[hlen]; exact hz),?_⟩;exact q2 σ _ (a1.trans (a2.trans (Ok.OD a2.ok e2 ea (dr.put rv))))
    ·exact q2.elim
   ·exact q2.elim
  ·exact q2.elim
end
section
variable {X:Cx} {c:Fc} {o e f:Expr} {fe ff:DE} {i:Nat} {apos aZ:Pos}
def rn(δ:Dl)(i:Nat):Bool:=match δ[i]? with
 | some (some s)=>match s.d with
  | .aJ _=>true
  | _=>false
 | _=>false
theorem DY(k:Ok c σ δ H)(h:rn δ i=true):∃ a ws ds s,δ[i]? = some (some s)/\s.d = .aJ ds/\σ[i]? = some (some (.ref a))/\H a=some (.dK ws)/\DR H (Av c σ δ) ws ds:=by
 unfold rn at h;split at h
 ·rename_i s e;split at h
  ·rename_i ds hs;obtain⟨v,ev⟩:=oQ k e;have rb:=md k e ev;rw[hs] at rb;obtain⟨a,ws,rfl,ha,dr⟩:=qZ rb;exact⟨a,ws,ds,s,e,hs,ev,ha,dr⟩
  ·cases h
 ·cases h
def DZ(i:Nat)(fe:DE):DE:=λδ=>if rn δ i then(fe δ).bind λk δ1=>match δ1[i]? with
  | some (some s)=>match s.d,fo k.d with
   | .aJ ds,some kk=>.ok (.pure ((e9 ds kk).getD .bf)) δ1
   | _,_=>.stuck
  | _=>.stuck else .stuck
def rq(i:Nat)(fe ff:DE):DE:=λδ=>if rn δ i then(fe δ).bind λk δ1=>(ff δ1).bind λz δ2=>match δ2[i]? with
  | some (some s)=>match s.d,fo k.d with
   | .aJ ds,some kk=>.ok (.pure ((e9 ds kk).getD z.d)) δ2
   | _,_=>.stuck
  | _=>.stuck else .stuck
theorem W_ (hu:X.A.units + 64 < WG) (ho:PE X o (cz i)) (he:SE X c e fe) (hb:Qt o "get" X.env (eval o X.env)=eval o X.env:=by rfl)
  (hf:((Q5 aZ (Wf [e] X.env)).all (λx=>!x.1) && (JK aZ (QR [] X.env)).all (λx=>x.1.isSome)
   && decide (([e]:List Expr).length + ([]:List Keyword).length + (if ([]:List Keyword).isEmpty then 0 else 1) < 30))=true:=by rfl) (hl:(apos.endLine == aZ.line)=true:=by rfl)
  (ht:Q5 aZ (Wf [e] X.env)=[(false,eval e X.env)]:=by rfl):SE X c (.Call (.Attribute o "get" apos) [e] [] aZ) (DZ i fe) :=
 PE.weak (LA (by omega) ho he ⟨hb,hf,hl,ht⟩) λσ H Q ⟨δ,k,q⟩=>by
  unfold DZ at q;split at q
  case isFalse=>exact q.elim
  rename_i hd;obtain⟨a,ws,ds,s,e1,e2,e3,e4,_⟩:=DY k hd;rw[a_] at q;refine⟨.ref a,e3,a,rfl,.inl ⟨ws,.inl e4⟩,δ,k,aO q λkx δ1 q1 v H1 a1 r1=>?_⟩;split at q1
  ·rename_i s1 es1;split at q1
   ·rename_i ds1 kk i9 hk;have rb:=md a1.ok es1 e3;rw[i9] at rb;obtain⟨a',ws1,ea,n5,rA⟩:=qZ rb
    cases ea;have hv:=qY hk r1.b;subst hv;refine⟨_,.inl ⟨ws1,_,.inl n5,rfl,rfl⟩,?_⟩;rcases rA.val kk with ⟨z1,z2⟩ | ⟨v,d,z1,z2,z3⟩
    ·rw[z1] at q1; rw[z2]
     exact q1 _ H1 a1 .bf
    ·rw[z1] at q1; rw[z2]
     exact q1 _ H1 a1 z3
   ·exact q1.elim
  ·exact q1.elim
theorem OF (hu:X.A.units + 64 < WG) (ho:PE X o (cz i)) (he:SE X c e fe) (hx:SE X c f ff) (hb:Qt o "get" X.env (eval o X.env)=eval o X.env:=by rfl)
  (hf:((Q5 aZ (Wf [e,f] X.env)).all (λx=>!x.1) && (JK aZ (QR [] X.env)).all (λx=>x.1.isSome)
   && decide (([e,f]:List Expr).length + ([]:List Keyword).length + (if ([]:List Keyword).isEmpty then 0 else 1) < 30))=true:=by rfl) (hl:(apos.endLine == aZ.line)=true:=by rfl)
  (ht:Q5 aZ (Wf [e,f] X.env)=[(false,eval e X.env),(false,eval f X.env)]:=by rfl):SE X c (.Call (.Attribute o "get" apos) [e,f] [] aZ) (rq i fe ff) :=
 PE.weak (LB (by omega) ho he hx ⟨hb,hf,hl,ht⟩) λσ H Q ⟨δ,k,q⟩=>by
  unfold rq at q;split at q
  case isFalse=>exact q.elim
  rename_i hd;obtain⟨a,ws,ds,s,e1,e2,e3,e4,_⟩:=DY k hd;rw[a_] at q;refine⟨.ref a,e3,a,rfl,.inl ⟨ws,.inl e4⟩,δ,k,aO q λkx δ1 q1 v H1 a1 r1=>⟨δ1,a1.ok,?_⟩⟩;rw[a_] at q1;refine aO q1 λzx δ2 q2 u H2 a2 r2=>?_
  split at q2
  ·rename_i s1 es1;split at q2
   ·rename_i ds1 kk i9 hk;have rb:=md a2.ok es1 e3;rw[i9] at rb;obtain⟨a',ws1,ea,n5,rA⟩:=qZ rb
    cases ea;have hv:=qY hk (show cJ c σ δ2 H2 v kx.d from .inl (Rep.cR r1.rep a2));subst hv;refine⟨_,.inl ⟨ws1,_,.inl n5,rfl,rfl⟩,?_⟩;rcases rA.val kk with ⟨z1,z2⟩ | ⟨v,d,z1,z2,z3⟩
    ·rw[z1] at q2; rw[z2]
     exact q2 _ H2 (a1.trans a2) r2.rep
    ·rw[z1] at q2; rw[z2]
     exact q2 _ H2 (a1.trans a2) z3
   ·exact q2.elim
  ·exact q2.elim
end
def iI:Int:=2 ^ 1000
def D0(_ j:Int):Prop:=0 < j/\j < iI
theorem OG(h0:0 < j)(h1:j < iI):j.natAbs.log2 < 9000:=by
 have e:j.natAbs < 2 ^ 1000:=by
  unfold iI at h1;have:((2 ^ 1000:Nat):Int)=(2:Int) ^ 1000:=by exact_mod_cast rfl
  omega
 have:=(Nat.log2_lt (by omega:j.natAbs≠0)).mpr e;omega
section
variable {X:Cx}
theorem xn:bN X (Qg .FloorDiv) (rI D0 λi j=>.int (i / j)):=oG λi j _ _ _ _ _ hc q=>by
 have h1:(0:Int) < j:=hc.1;exact floordiv_int (by omega) (by rw[Int.fdiv_eq_ediv_of_nonneg i (by omega)]; exact q) (.inl (PyProof.noPylong_of_log2 (OG h1 hc.2)))
end
def rC(_ j:Int):Bool:=decide (0 < j) && decide (j < iI)
def mw:=fB rC λi j=>.int (i / j)
theorem xo:cT (rI D0 λi j=>V.int (i / j)) mw:=oT (λi j h=>by
 unfold rC at h;simp only[Ws,decide_eq_true_eq] at h;exact h) λ_ _ _ _=>.int _
theorem D3(i j:Int)(h0:0 < j)(h1:j < iI):mw (.int i) (.int j)=some (.pure (.int (i / j))):=by
 show(if rC i j then some (S.pure (.int (i / j))) else none)=_;have:rC i j=true:=by unfold rC; simp only[h0,h1,decide_true,Bool.and_self]
 rw[this]; rfl
end DV
namespace L2
open PySem PySem.Spec PyProof.Rows
section
variable {X:Cx} {tg:Expr}
end
end L2
namespace DV
open PySem PySem.Spec PyProof.Rows L2
variable {X:Cx} {c:Fc} {tg e:Expr} {fe:DE} {pp pos:Pos}
section
variable {X:Cx}
end
theorem qt:∀ {ns:List Int} {us:List Value},Vals (ns.map V.int) us->∃ ys:List (Int×Tok),us=(ys.map λp=>Value.int p.1 p.2)/\ns=ys.map (·.1)
 | [],us,r=>by cases r; exact⟨[],rfl,rfl⟩
 | n :: ns,us,r=>by
  cases r with
  | cons r1 r2 =>
   obtain⟨ys,e1,e2⟩:=qt r2;obtain⟨t,rfl⟩:=r1;exact⟨(n,t) :: ys,by rw[e1]; rfl,by rw[e2]; rfl⟩
section
variable {X:Cx}
end
def kg:List D->Option (List Int)
 | []=>some []
 | .int i :: r=>(kg r).map (i :: ·)
 | _ :: _=>none
theorem D4:∀ {ds:List D} {vs:List V} {ns:List Int},kg ds=some ns->aG H O vs ds->vs=ns.map V.int
 | [],vs,bs,h,r=>by
  simp only[kg,Wc] at h;subst h;have:=r.1;simpa using this
 | d :: ds,[],bs,h,r=>by have:=r.1; simp at this
 | d :: ds,v :: vs,bs,h,r=>by
  cases d with
  | int b =>
   simp only[kg] at h
   cases e:kg ds with
   | none=>rw[e] at h; cases h
   | some bs' =>
    rw[e] at h;simp only[WC,Wc] at h;subst h;have:=r.head
    cases this;rw[D4 e r.tail];rfl
  | _=>simp[kg] at h
theorem ints_map(ns:List Int):kg (ns.map D.int)=some ns:=by
 induction ns with
 | nil=>rfl
 | cons n r ih=>simp[kg,ih]
section
variable {X:Cx} {c:Fc} {e:Expr} {fb:BE} {pos pp:Pos}
end
end DV
namespace L2
open PySem PySem.Spec PyProof.Rows
section
variable {prog:Wm} {w:Wq} {A:Wu} {E:Value->W4->Prop} {s:W4}
end
section
variable {X:Cx} {pos:Pos}
end
end L2
namespace DV
open PySem PySem.Spec PyProof.Rows L2
section
variable {X:Cx} {c:Fc} {pos:Pos}
end
open PySem PySem.Builtin PySem.Builtin.Str PySem.StrLaws
def n8(c:Nat)(z:List Nat)(a n:Nat):List Nat:=(List.range' a n).filter λi=>decide (z[i]? = some c)
theorem OH(z:List Nat)(c i:Nat):subAt ⟨z.toArray⟩ ⟨#[c]⟩ i=decide (z[i]? = some c):=by
 unfold subAt;have e:(⟨#[c]⟩:Str).length=1:=rfl;rw[e];show(z.toArray.extract i (i + 1) == #[c])=_;rw[List.extract_toArray,List.extract_eq_take_drop,Nat.add_sub_cancel_left];have hb:((List.take 1 (List.drop i z)).toArray == #[c])=((List.take 1 (List.drop i z)) == [c]):=by simp
 rw[hb]
 cases h:z[i]? with
 | none =>
  rw[List.getElem?_eq_none_iff] at h;rw[List.drop_of_length_le h];simp
 | some a =>
  have hi:i < z.length:=(W6.mp h).1;have ha:z[i]=a:=(W6.mp h).2;rw[Qa hi,ha];by_cases hac:a=c <;> simp[hac]
theorem xp(c:Nat)(z:List Nat):∀ (n k:Nat) (st:Array Nat×Nat),st.2<=k->st.1.size<=k->k + n=z.length + 1 ->
  (forIn (List.range' k n) st (occBody ⟨z.toArray⟩ ⟨#[c]⟩ z.length (z.length + 1))).run.fst.toList=st.1.toList ++ n8 c z k n
 | 0,k,st,_,_,_=>by simp[n8]
 | n + 1,k,st,h1,h2,h3=>by
  rw[Uj,Jh];unfold occBody;have e1:(⟨#[c]⟩:Str).length=1:=rfl;rw[OH,e1];by_cases hc:z[k]? = some c
  ·have hk:k < z.length:=(W6.mp hc).1;rw[if_pos ⟨⟨⟨by omega,h1⟩,by omega⟩,by simpa using hc⟩];have ih:=xp c z n (k + 1) (st.1.push k,k + 1) (Wh _) (by simp; omega) (by omega);show(forIn (List.range' (k + 1) n) (st.1.push k,k + 1) (occBody ⟨z.toArray⟩ ⟨#[c]⟩ z.length (z.length + 1))).run.fst.toList=_;rw[ih];simp[n8,Uj,hc]
  ·rw[if_neg (λh=>hc (by simpa using h.2))];have ih:=xp c z n (k + 1) (st.1,st.2) (by show st.2<=k + 1; omega) (by show st.1.size<=k + 1; omega) (by omega);show(forIn (List.range' (k + 1) n) (st.1,st.2) (occBody ⟨z.toArray⟩ ⟨#[c]⟩ z.length (z.length + 1))).run.fst.toList=_;rw[ih];simp[n8,Uj,hc]
theorem OI(c:Nat)(z:List Nat):occurrences ⟨z.toArray⟩ ⟨#[c]⟩ 0 z.length (z.length + 1)=n8 c z 0 z.length:=by
 rw[occ_eq,xp c z (z.length + 1 - 0) 0 (#[],0) (Wh _) (Wh _) (by omega)];have:z.length + 1 - 0=z.length + 1:=rfl;rw[this];unfold n8;rw[List.range'_concat];simp
section
variable {X:Cx}
end
section
variable {X:Cx} {c:Fc} {e:Expr} {fb:BE}
end
end DV
set_option maxHeartbeats 1000000
namespace PySem
open Sem (wp)
open AutoSeq1 (wpAny_loadPart')
section
variable {prog:Wm} {w:Wq} {A:Wu} {E:Value->W4->Prop} {s:W4}
end
end PySem
namespace PyProof.Rows
open PySem
section
variable {M:Model} {A:Wu} {E:Value->W4->Prop} {s:W4} {env:Env}
end
end PyProof.Rows
set_option maxHeartbeats 400000
namespace L2
open PySem PySem.Spec PyProof.Rows
end L2
namespace DV
open PySem PySem.Spec PyProof.Rows L2
section
variable {X:Cx} {c:Fc} {tg e:Expr} {fe:DE} {pos pp:Pos}
end
end DV
namespace L2
open PySem PySem.Spec PyProof.Rows
section
variable {M:Model} {A:Wu} {E:Value->W4->Prop} {s:W4}
end
section
variable {X:Cx} {x:Str} {C:Addr} {np aZ pos:Pos}
end
section
variable {X:Cx} {pins:List (Addr×Obj)} {σ:St} {H:Hp} {s:W4} {h':Heap}
end
section
variable {X:Cx} {pins:List (Addr×Obj)} {σ:St} {H:Hp} {s:W4} {h':Heap} {a T:Addr}
end
section
variable {prog:Wm} {w:Wq} {A:Wu} {E:Value->W4->Prop} {K:W3}
end
section
variable {X:Cx} {pins ps:List (Addr×Obj)} {σ:St} {H:Hp} {s:W4} {a:Addr} {xe:Value->W4->Prop} {pn:List (Addr×Obj)}
section
variable {M:Model} {E:Value->W4->Prop} {C L:Addr} {dx:Option Addr} {Q:Unit->W4->Prop}
end
end
section
variable {X:Cx} {pins:List (Addr×Obj)} {σ:St} {H:Hp} {s:W4} {b:Addr}
end
section
variable {X:Cx} {k:Nat} {f:Addr} {fd:Qn} {ps:List Str} {sp:Sp} {x:Str} {p pos:Pos} {e:Expr} {es:List Expr} {t:TA} {W:Addr->Option Addr->St->Hp->Prop}
end
section
variable {P:Wm} {w:Wq} {K:W3} {mg:Str->Option Value} {base:Heap} {N:List Str} {qual:Str} {scope:Scope} {f:Addr} {cd:Value} {A:Wu} {outer:List Env} {s₀:W4} {H₀:Hp} {E:XK}
end
def Cx.loop(X:Cx):Cx:={ X with xe:=notedBy (model X.prog X.w) X.A X.env (cameBackBy (model X.prog X.w) X.A X.env X.xe) }
section
variable {X:Cx} {pins ps:List (Addr×Obj)} {σ:St} {H:Hp} {s:W4}
end
end L2
namespace DV
open PySem PySem.Spec PyProof.Rows L2
section
variable {c:Fc} {σ σ':St} {δ δ':Dl} {H H':Hp} {g:Xc->Dl->Prop}
end
abbrev DX:=List S->Option ((S×List S) ⊕ (Xc×List S))
section
variable {P:Wm} {w:Wq} {K:W3} {mg:Str->Option Value} {base:Heap}
end
section
variable {X:Cx} {c:Fc} {e:Expr} {es:List Expr} {as:List Ak} {k n:Nat} {x:Str} {G:DX} {pp pos:Pos}
end
section
variable {c:Fc} {σ σ':St} {δ δ':Dl} {H H':Hp}
end
section
variable {c:Fc} {σ σ':St} {δ δ':Dl} {H H':Hp} {B':Addr->Prop} {g:Xc->Dl->Prop}
end
end DV
namespace L2
open PySem PySem.Spec PyProof.Rows PySem.W Builtin Builtin.ObjectAttr Builtin.Getset_descriptor
section
variable {prog:Wm} {w:Wq} {A:Wu} {E:Value->W4->Prop} {K:W3} {C e:Addr} {oe:Obj} {h:Heap} {g:Array GenState} {d:Drawn} {t:Nat} {os:OsState}
end
section
variable {X:Cx} {y:Str} {D:Addr} {pos:Pos}
end
section
variable {P:Wm} {w:Wq} {K:W3} {mg:Str->Option Value} {base:Heap} {k:Nat} {f:Addr}
end
section
variable {X:Cx} {k:Nat} {f:Addr} {fd:Qn} {ps:List Str} {sp:Sp} {x:Str} {p pos:Pos} {e:Expr} {es:List Expr} {t:TA}
end
end L2
namespace DV
open PySem PySem.Spec PyProof.Rows L2
section
variable {X:Cx} {c:Fc} {e:Expr} {fb:BE} {pp py pos:Pos} {y:Str} {ce:Tx->Nat} {ys:List Tx} {tab:Tx->Bool}
end
section
variable {P:Wm} {w:Wq} {K:W3} {mg:Str->Option Value} {base:Heap}
end
section
variable {X:Cx} {c:Fc} {e:Expr} {es:List Expr} {as:List Ak} {k n:Nat} {x:Str} {G:DF} {pp pos:Pos}
end
end DV
namespace L2
open PySem PySem.Spec PyProof.Rows PySem.SeqAt
section
variable {X:Cx}
end
end L2
namespace DV
open PySem PySem.Spec PyProof.Rows L2
section
variable {X:Cx} {c:Fc} {e:Expr} {fb:BE}
end
end DV
namespace L2
open PySem PySem.Spec PyProof.Rows
section
variable {X:Cx}
end
end L2
namespace DV
open PySem PySem.Spec PyProof.Rows L2
end DV
namespace PySem
open Sem (wp)
structure ZA(z TI TO i1 i2:Addr)(f1 f2:List Addr):Prop where
 m1:i1 ∈ f1
 m2:i2 ∈ f2
 z1:z ∉ f1
 z2:z ∉ f2
 t1:TO ∉ f1
 t2:TO ∉ f2
 k1:i1 ∉ f2
 k2:i2 ∉ f1
 tz:TO≠z
 iz:TI≠z
 io:TI≠TO
 n1:TI≠i1
 n2:TI≠i2
section
variable {prog:Wm} {w:Wq} {A:Wu} {E:Value->W4->Prop} {s:W4}
theorem OJ{z TI TO i1 i2:Addr}{f1 f2:List Addr}{n1 n2 i:Nat}{P1 P2:Nat->Value->Prop}{S1 S2:Nat->Heap->Prop}{a b:Value}{Q:Value->W4->Prop}(D1:Draws prog w A i1 f1 n1 P1 S1)(D2:Draws prog w A i2 f2 n2 P2 S2)(C:ZA z TI TO i1 i2 f1 f2)
  (hz:IsZip s.heap z TI TO .none) (hI:IsPair s.heap TI (.ref i1) (.ref i2)) (hO:IsPair s.heap TO a b) (g1:S1 i s.heap) (g2:S2 i s.heap) (l1:i < n1) (l2:i < n2)
  (q:∀ x y h' tk,P1 i x->P2 i y->IsZip h' z TI TO (JF s.heap.objs.size)->IsPair h' TO x y->S1 (i + 1) h'->S2 (i + 1) h'->IsPair h' s.heap.objs.size x y ->
   (∀ c o,c≠z->c≠TO->c≠i1->c≠i2->s.heap.get? c=some o->h'.get? c=some o)->Q (.ref s.heap.objs.size) { s with heap:=h',toks:=tk }) :
  W8 (model prog w) A (Builtin.«zip.__next__» ⟨[.ref z],[]⟩) (λfin s'=>∃ v,fin = .done (.ret v)/\Q v s') E s:=by
 have i1z:i1≠z:=λe=>C.z1 (e ▸ C.m1)
 have i2z:i2≠z:=λe=>C.z2 (e ▸ C.m2)
 have xq:TO≠i1:=λe=>C.t1 (e ▸ C.m1)
 have OK:TO≠i2:=λe=>C.t2 (e ▸ C.m2)
 have i12:i1≠i2:=λe=>C.k1 (e ▸ C.m2)
 show W8 _ _ (field (.ref z) 2 >>= _) _ _ _; refine W0 (WL hz rfl (x:=.bool false) rfl ?_)
 show W8 _ _ (field (.ref z) 3 >>= _) _ _ _; refine W0 (WL hz rfl (x:=.ref TI) rfl (W0 (Qj hI rfl ?_)))
 show W8 _ _ (WJ (.ref z) >>= _) _ _ _; refine W0 ?_
 unfold WJ; refine W0 (WL hz rfl (x:=.none) rfl (W5 ?_))
 simp only[if_true]; refine W0 (QT (W0 (WL hz rfl (x:=.ref TO) rfl (W0 (Q1 hz (by simp) λh1 gq s1=>?_)))))
 replace gq:IsZip h1 z TI TO .ellipsis:=gq;refine W0 ?_; simp only[List.zipIdx_cons,List.zipIdx_nil,Jh,JP]
 refine W0 (W0 (wpAny_onRaise ?_)); show W8 _ _ (WM (.ref i1) >>= _) _ _ _
 have e1:S1 i h1:=D1.frame _ _ _ g1 λc hc o e=>s1.extBut _ _ (λx=>C.z1 (x ▸ hc)) e
 refine W0 (D1.item i _ _ _ l1 e1 λx h2 D5 p1 e2 s2=>W5 ?_);have rE:IsPair h2 TO a b:=s2.extBut _ _ xq (s1.extBut _ _ C.tz hO);refine W0 (Qj rE rfl (W0 (wpAny_updateSeq_pair rE λh3 ux s3=>?_)));replace ux:IsPair h3 TO x b:=ux;refine W0 (wpAny_letGo (W5 (W0 (W0 (wpAny_onRaise ?_))))); show W8 _ _ (WM (.ref i2) >>= _) _ _ _
 have e3:S2 i h3:=D2.frame _ _ _ g2 λc hc o e=>s3.extBut _ _ (λx=>C.t2 (x ▸ hc)) (s2.extBut _ _ (λx=>C.k1 (x ▸ hc)) (s1.extBut _ _ (λx=>C.z2 (x ▸ hc)) e))
 refine W0 (D2.item i _ _ _ l2 e3 λy h4 OL p2 e4 s4=>W5 ?_);have D6:IsPair h4 TO x b:=s4.extBut _ _ OK ux;refine W0 (Qj D6 rfl (W0 (wpAny_updateSeq_pair D6 λh5 uy s5=>?_)));replace uy:IsPair h5 TO x y:=uy;refine W0 (wpAny_letGo (W5 (W5 (W0 (Qj uy rfl (W0 (wpAny_newTuple ?_)))))));have hsz:h5.objs.size=s.heap.objs.size:=by rw[s5.1,s4.1,s3.1,s2.1,s1.1]
 have D7:IsZip h5 z TI TO .ellipsis:=s5.extBut _ _ C.tz.symm (s4.extBut _ _ i2z.symm (s3.extBut _ _ C.tz.symm (s2.extBut _ _ i1z.symm gq)));have k5:∀ c o,c≠z->c≠TO->c≠i1->c≠i2->s.heap.get? c=some o->h5.get? c=some o:=λc o c1 c2 c3 c4 e=>s5.extBut _ _ c2 (s4.extBut _ _ c4 (s3.extBut _ _ c2 (s2.extBut _ _ c3 (s1.extBut _ _ c1 e))))
 have r1:S1 (i + 1) h5:=D1.frame _ _ _ e2 λc hc o e=>s5.extBut _ _ (λx=>C.t1 (x ▸ hc)) (s4.extBut _ _ (λx=>C.k2 (x ▸ hc)) (s3.extBut _ _ (λx=>C.t1 (x ▸ hc)) e))
 have r2:S2 (i + 1) h5:=D2.frame _ _ _ e4 λc hc o e=>s5.extBut _ _ (λx=>C.t2 (x ▸ hc)) e
 have zl:z < h5.objs.size:=Wj D7;show W8 _ _ (Builtin.SmallTypes.ownedTupleHandOut (.ref z) (.ref h5.objs.size) >>= _) _ _ _; refine W0 ?_
 unfold Builtin.SmallTypes.ownedTupleHandOut;have OM:IsZip (h5.push { cls:=.type "tuple",data:=.seq #[x,y] }) z TI TO .ellipsis:=Wa _ D7;refine W0 (Q1 OM (by simp) λh7 xr s7=>?_);replace xr:IsZip h7 z TI TO (JF h5.objs.size):=xr;refine Q1 xr (by simp) λh8 uz s8=>?_
 replace uz:IsZip h8 z TI TO (JF h5.objs.size):=uz;have up:∀ c o,c≠z->h5.get? c=some o->h8.get? c=some o:=λc o c1 e=>s8.extBut _ _ c1 (s7.extBut _ _ c1 (Wa _ e))
 have hT:IsPair h8 h5.objs.size x y:=s8.extBut _ _ (WR zl) (s7.extBut _ _ (WR zl) (Wl _ rfl));rw[hsz] at uz hT;refine W5 ⟨_,rfl,?_⟩; show Q (.ref h5.objs.size) _; rw[hsz]
 exact q x y h8 _ p1 p2 uz (up _ _ C.tz uy) (D1.frame _ _ _ r1 λc hc o e=>up c o (λx=>C.z1 (x ▸ hc)) e) (D2.frame _ _ _ r2 λc hc o e=>up c o (λx=>C.z2 (x ▸ hc)) e) hT λc o c1 c2 c3 c4 e=>up c o c1 (k5 c o c1 c2 c3 c4 e)
theorem ON(D1:Draws prog w A i1 f1 n1 P1 S1)(D2:Draws prog w A i2 f2 n2 P2 S2)(C:ZA z TI TO i1 i2 f1 f2)
  (hz:IsZip s.heap z TI TO .none) (hI:IsPair s.heap TI (.ref i1) (.ref i2)) (hO:IsPair s.heap TO a b) (g1:S1 i s.heap) (g2:S2 i s.heap) (l:i=n1\/(i < n1/\i=n2))
  (q:∀ h' tk e,(∀ c o,c≠z->c≠TO->c≠i1->c≠i2->s.heap.get? c=some o->h'.get? c=some o)->(∃ o,h'.get? e=some o/\o.cls = .type "StopIteration")->E (.ref e) { s with heap:=h',toks:=tk }) :
  W8 (model prog w) A (Builtin.«zip.__next__» ⟨[.ref z],[]⟩) Q E s:=by
 have i1z:i1≠z:=λe=>C.z1 (e ▸ C.m1)
 have i2z:i2≠z:=λe=>C.z2 (e ▸ C.m2)
 have xq:TO≠i1:=λe=>C.t1 (e ▸ C.m1)
 show W8 _ _ (field (.ref z) 2 >>= _) _ _ _; refine W0 (WL hz rfl (x:=.bool false) rfl ?_)
 show W8 _ _ (field (.ref z) 3 >>= _) _ _ _; refine W0 (WL hz rfl (x:=.ref TI) rfl (W0 (Qj hI rfl ?_)))
 show W8 _ _ (WJ (.ref z) >>= _) _ _ _; refine W0 ?_
 unfold WJ; refine W0 (WL hz rfl (x:=.none) rfl (W5 ?_))
 simp only[if_true]; refine W0 (QT (W0 (WL hz rfl (x:=.ref TO) rfl (W0 (Q1 hz (by simp) λh1 gq s1=>?_)))))
 replace gq:IsZip h1 z TI TO .ellipsis:=gq;refine W0 ?_; simp only[List.zipIdx_cons,List.zipIdx_nil,Jh,JP]
 refine W0 (W0 (wpAny_onRaise ?_)); show W8 _ _ (WM (.ref i1) >>= _) _ _ _
 have e1:S1 i h1:=D1.frame _ _ _ g1 λc hc o e=>s1.extBut _ _ (λx=>C.z1 (x ▸ hc)) e
 rcases l with l | ⟨l,l'⟩
 ·subst l;refine W0 (D1.done _ _ _ e1 λh2 e s2 ⟨oe,he,ce⟩=>?_);have n9:IsZip h2 z TI TO .ellipsis:=s2 _ _ i1z.symm gq;have ez:e≠z:=λx=>by subst x; rw[n9] at he; cases he; simp at ce
  exact Q1 n9 (by simp) λh3 _ s3=>q h3 _ e (λc o c1 _ c3 _ x=>s3.extBut _ _ c1 (s2 _ _ c3 (s1.extBut _ _ c1 x))) ⟨oe,s3.extBut _ _ ez he,ce⟩
 ·refine W0 (D1.item i _ _ _ l e1 λx h2 D5 p1 e2 s2=>W5 ?_);have rE:IsPair h2 TO a b:=s2.extBut _ _ xq (s1.extBut _ _ C.tz hO);refine W0 (Qj rE rfl (W0 (wpAny_updateSeq_pair rE λh3 ux s3=>?_)));refine W0 (wpAny_letGo (W5 (W0 (W0 (wpAny_onRaise ?_))))); show W8 _ _ (WM (.ref i2) >>= _) _ _ _
  have e3:S2 i h3:=D2.frame _ _ _ g2 λc hc o e=>s3.extBut _ _ (λx=>C.t2 (x ▸ hc)) (s2.extBut _ _ (λx=>C.k1 (x ▸ hc)) (s1.extBut _ _ (λx=>C.z2 (x ▸ hc)) e))
  subst l';refine W0 (D2.done _ _ _ e3 λh4 e s4 ⟨oe,he,ce⟩=>?_);have D8:IsZip h4 z TI TO .ellipsis:=s4 _ _ i2z.symm (s3.extBut _ _ C.tz.symm (s2.extBut _ _ i1z.symm gq));have ez:e≠z:=λx=>by subst x; rw[D8] at he; cases he; simp at ce
  exact Q1 D8 (by simp) λh5 _ s5=>q h5 _ e (λc o c1 c2 c3 c4 x=>s5.extBut _ _ c1 (s4 _ _ c4 (s3.extBut _ _ c2 (s2.extBut _ _ c3 (s1.extBut _ _ c1 x))))) ⟨oe,s5.extBut _ _ ez he,ce⟩
theorem OO{z TI TO i1 i2:Addr}{f1 f2:List Addr}{n1 n2 i:Nat}{P1 P2:Nat->Value->Prop}{S1 S2:Nat->Heap->Prop}{a b:Value}{Q:Option Value->W4->Prop}(D1:Draws prog w A.in1 i1 f1 n1 P1 S1)(D2:Draws prog w A.in1 i2 f2 n2 P2 S2)(C:ZA z TI TO i1 i2 f1 f2)
  (hz:IsZip s.heap z TI TO .none) (hI:IsPair s.heap TI (.ref i1) (.ref i2)) (hO:IsPair s.heap TO a b) (g1:S1 i s.heap) (g2:S2 i s.heap) (l1:i < n1) (l2:i < n2)
  (q:∀ x y h' tk,P1 i x->P2 i y->IsZip h' z TI TO (JF s.heap.objs.size)->IsPair h' TO x y->S1 (i + 1) h'->S2 (i + 1) h'->IsPair h' s.heap.objs.size x y ->
   (∀ c o,c≠z->c≠TO->c≠i1->c≠i2->s.heap.get? c=some o->h'.get? c=some o)->Q (some (.ref s.heap.objs.size)) { s with heap:=h',toks:=tk }) :
  W8 (model prog w) A (QD (.ref z)) Q E s:=by
 have ty:s.TypeIs (.ref z) "zip":=⟨_,hz,rfl⟩
 unfold QD;exact W0 (JV (WK (name:=Str.ofString "__next__") ty QU (WN QU ty F.entry_zip_next
  (OJ D1 D2 C hz hI hO g1 g2 l1 l2 λx y h' tk b1 b2 b3 b4 b5 b6 b7 b8=>W5 (q x y h' tk b1 b2 b3 b4 b5 b6 b7 b8)) (Ue _))))
theorem OP(D1:Draws prog w A.in1 i1 f1 n1 P1 S1)(D2:Draws prog w A.in1 i2 f2 n2 P2 S2)(C:ZA z TI TO i1 i2 f1 f2)
  (hz:IsZip s.heap z TI TO .none) (hI:IsPair s.heap TI (.ref i1) (.ref i2)) (hO:IsPair s.heap TO a b) (g1:S1 i s.heap) (g2:S2 i s.heap) (l:i=n1\/(i < n1/\i=n2))
  (q:∀ h' tk,(∀ c o,c≠z->c≠TO->c≠i1->c≠i2->s.heap.get? c=some o->h'.get? c=some o)->Q none { s with heap:=h',toks:=tk }) :
  W8 (model prog w) A (QD (.ref z)) Q E s:=by
 have ty:s.TypeIs (.ref z) "zip":=⟨_,hz,rfl⟩
 unfold QD;refine W0 (JV (WK (name:=Str.ofString "__next__") ty QU (WN QU ty F.entry_zip_next
  (ON D1 D2 C hz hI hO g1 g2 l λh' tk e k ⟨o,ho,hc⟩=>?_) (Ue _))))
 exact W0 (wpAny_isInstance (T:="StopIteration") (b:=true) ⟨o,ho,hc⟩ isSubtype_stop (W5 (q _ _ k)))
end
def hZ(b:Bool)(h:Heap)(a:Addr)(ah:Array Value):Prop:=match b with
 | true=>h.IsList a ah
 | false=>h.IsTuple a ah
def mx(b:Bool)(h:Heap)(it a:Addr)(i:Nat):Prop:=match b with
 | true=>h.IsListIter it a i
 | false=>h.IsTupleIter it a i
def pz (b:Bool) (a:Addr):Obj:={ cls:=.type (match b with | true=>"list_iterator" | false=>"tuple_iterator"),data:=.fields #[.ref a,.int 0 0] }
theorem hZ.lt(q:hZ b h a ah):a < h.objs.size:=by
 cases b
 ·obtain⟨o,e,_⟩:=(q:h.IsTuple a ah); exact Wj e
 ·obtain⟨o,e,_⟩:=(q:h.IsList a ah); exact Wj e
theorem hZ.push(q:hZ b h a ah)(o:Obj):hZ b (h.push o) a ah:=by
 cases b
 ·obtain⟨o,e,r⟩:=(q:h.IsTuple a ah); exact⟨o,Wa _ e,r⟩
 ·obtain⟨o,e,r⟩:=(q:h.IsList a ah); exact⟨o,Wa _ e,r⟩
theorem D9(h:hZ b s.heap a ah)(q:Q (.ref s.heap.objs.size) { s with heap:=s.heap.push (pz b a) }):W8 (model prog w) A (pyIter (.ref a)) Q E s:=by
 cases b
 ·exact Jb h q
 ·exact Ud h q
theorem uA(b:Bool)(hh:A.handled=none)(it a:Addr)(cx:a≠it)(ah:Array Value):Draws prog w A it [it,a] ah.size (λi v=>ah[i]? = some v) (λi h=>mx b h it a i/\hZ b h a ah):=by
 cases b
 ·exact Draws.tuple' hh it a cx ah
 ·exact Draws.list hh it a cx ah
abbrev uB(h:Heap)(b1:Bool)(l1:Addr):Heap:=h.push (pz b1 l1)
abbrev uC(h:Heap)(b1 b2:Bool)(l1 l2:Addr):Heap:=(uB h b1 l1).push (pz b2 l2)
abbrev uD (h:Heap) (b1 b2:Bool) (l1 l2:Addr):Heap:=(uC h b1 b2 l1 l2).push { cls:=.type "tuple",data:=.seq #[.ref h.objs.size,.ref (uB h b1 l1).objs.size] }
abbrev uE (h:Heap) (b1 b2:Bool) (l1 l2:Addr):Heap:=(uD h b1 b2 l1 l2).push { cls:=.type "tuple",data:=.seq #[.none,.none] }
abbrev pA (h:Heap) (b1 b2:Bool) (l1 l2:Addr):Heap:=(uE h b1 b2 l1 l2).push { cls:=.type "zip",data:=.fields #[.none,.bool false,.bool false,.ref (uC h b1 b2 l1 l2).objs.size,.ref (uD h b1 b2 l1 l2).objs.size] }
theorem OQ(b1 b2:Bool)(l1 l2:Addr)(xs ys:Array Value) :
  Meets (Builtin.«zip.__new__» ⟨[.type "zip",.ref l1,.ref l2],[]⟩) (λ_ R s=>hZ b1 s.heap l1 xs/\hZ b2 s.heap l2 ys /\
   R (.ok (.ret (.ref (uE s.heap b1 b2 l1 l2).objs.size))) { s with heap:=pA s.heap b1 b2 l1 l2 }) :=
 .of_wp λprog w A R s h=>by
  obtain⟨hp,g,d,tk,os⟩:=s; obtain⟨xt,fA,h⟩:=h
  have Ov:=sub_zip;have OR:hZ b1 (Shared.heap ⟨hp,g,d,tk,os⟩) l1 xs:=xt;have OS:hZ b2 (Shared.heap ⟨hp.push (pz b1 l1),g,d,tk,os⟩) l2 ys:=fA.push _;wp_walk using D9 OR,D9 OS
  exact⟨_,rfl,h⟩
theorem OT(xt:hZ b1 s.heap l1 xs)(fA:hZ b2 s.heap l2 ys)
  (h:∀ h',IsZip h' (s.heap.objs.size + 4) (s.heap.objs.size + 2) (s.heap.objs.size + 3) .none->IsPair h' (s.heap.objs.size + 2) (.ref s.heap.objs.size) (.ref (s.heap.objs.size + 1)) ->
   IsPair h' (s.heap.objs.size + 3) .none .none->mx b1 h' s.heap.objs.size l1 0->mx b2 h' (s.heap.objs.size + 1) l2 0 ->
   (∀ c o,s.heap.get? c=some o->h'.get? c=some o)->Q (.ref (s.heap.objs.size + 4)) { s with heap:=h' }) :
  W8 (model prog w) A (call (.type "zip") [.ref l1,.ref l2]) Q E s:=by
 refine callType_new F.called_zip (by decide) (F.typeCall_zip_2 _ _) (F.newCall_zip_2 _ _) (λobj=>F.args_object_init_3 obj _ _) F.entry_zip_new (OQ b1 b2 l1 l2 xs ys) ⟨xt,fA,?_⟩;have z1:(uB s.heap b1 l1).objs.size=s.heap.objs.size + 1:=Qu ..;have z2:(uC s.heap b1 b2 l1 l2).objs.size=s.heap.objs.size + 2:=by rw[Qu,z1]
 have z3:(uD s.heap b1 b2 l1 l2).objs.size=s.heap.objs.size + 3:=by rw[Qu,z2]
 have z4:(uE s.heap b1 b2 l1 l2).objs.size=s.heap.objs.size + 4:=by rw[Qu,z3]
 have up:∀ {h:Heap} {o:Obj} {c:Addr} {o':Obj},h.get? c=some o'->(h.push o).get? c=some o':=λe=>Wa _ e
 have g5:(pA s.heap b1 b2 l1 l2).get? (uE s.heap b1 b2 l1 l2).objs.size=some _:=Wl _ rfl;have g4:(pA s.heap b1 b2 l1 l2).get? (uD s.heap b1 b2 l1 l2).objs.size=some _:=up (Wl _ rfl);have g3:(pA s.heap b1 b2 l1 l2).get? (uC s.heap b1 b2 l1 l2).objs.size=some _:=up (up (Wl _ rfl));have g2:(pA s.heap b1 b2 l1 l2).get? (uB s.heap b1 l1).objs.size=some (pz b2 l2):=up (up (up (Wl _ (by cases b2 <;> rfl))));have g1:(pA s.heap b1 b2 l1 l2).get? s.heap.objs.size=some (pz b1 l1):=up (up (up (up (Wl _ (by cases b1 <;> rfl)))));show _/\_;rw[z2,z3,z4] at g5;rw[z1,z2] at g3;rw[z3] at g4;rw[z1] at g2;rw[z4];exact⟨⟨_,g5,rfl⟩,h _ g5 g3 g4 (by cases b1 <;> exact⟨_,g1,rfl,rfl⟩) (by cases b2 <;> exact⟨_,g2,rfl,rfl⟩) λc o x=>up (up (up (up (up x))))⟩
end PySem
namespace L2
open PySem PySem.Spec PyProof.Rows
section
variable {X:Cx} {pins:List (Addr×Obj)} {σ:St} {H:Hp} {s:W4} {h':Heap}
theorem Inv.xu(fp:List Addr)(I:Inv X pins σ H s)(hf:∀ b ∈ fp,fG X pins H b)(aS:∀ b ∈ fp,b < s.heap.objs.size)(ru:RelV x u)(rv:RelV y v)
  (hT:h'.get? s.heap.objs.size=some { cls:=.type "tuple",data:=.seq #[u,v] }) (k:∀ b o,b ∉ fp->s.heap.get? b=some o->h'.get? b=some o) :
  Inv X pins σ (upd H s.heap.objs.size (.tup [x,y])) { s with heap:=h',toks:=t' }:=by
 have I1:Inv X pins σ (upd H s.heap.objs.size (.tup [x,y])) { s with heap:=s.heap.push { cls:=.type "tuple",data:=.seq #[u,v] },toks:=t' } :=
  I.laid (t':=t') (λb o e=>Wa _ e) (Wh _) (show cj X.prog X.w _ _ _ (.tup [x,y]) from
   ⟨by simp only[WB,U1]; rw[JJ]; decide,[u,v],.cons ru (.cons rv .nil),ik.new _ _⟩)
 have:=Inv.q_ (t':=t') (h':=h') fp I1 (λb o hb eb=>?_) λb hb=>?_
 ·exact this
 ·rcases Heap.get?_push_cases eb with ⟨z,z'⟩ | eb
  ·subst z z'; exact hT
  ·exact k b o hb eb
 ·obtain⟨f0,r⟩:=hf b hb;exact⟨by rw[aL (Wo (aS b hb))]; exact f0,r⟩
def iJ(b:Bool)(K:W3)(H:Hp)(a:Addr)(xs:List V):Prop:=match b with
 | true=>bW K H a xs
 | false=>cH K H a xs
theorem Inv.pB(I:Inv X pins σ H s)(h:iJ b X.K H a xs):∃ ah,Vals xs ah/\hZ b s.heap a ah.toArray:=by
 cases b
 ·obtain⟨ah,rv,p,_⟩:=I.tuple (h:cH X.K H a xs);exact⟨ah,rv,p⟩
 ·obtain⟨ah,rv,p,_⟩:=I.list (h:bW X.K H a xs);exact⟨ah,rv,p.isList⟩
theorem Inv.D_(I:Inv X pins σ H s)(h:iJ b X.K H a xs)(h':iJ b X.K H a ys):xs=ys:=by
 cases b
 ·exact I.vn h h'
 ·exact I.qb h h'
end
def Ea(K:W3)(b1 b2:Bool)(a1 a2:Addr):It :=
 ⟨λi H=>∃ xs ys x y,iJ b1 K H a1 xs/\iJ b2 K H a2 ys/\xs[i]? = some x/\ys[i]? = some y,
  λi H v H'=>∃ p x y,H p=none/\(∀ xs,iJ b1 K H a1 xs->xs[i]? = some x)/\(∀ ys,iJ b2 K H a2 ys->ys[i]? = some y)/\H'=upd H p (.tup [x,y])/\v = .ref p,
  λi H=>∃ xs ys,iJ b1 K H a1 xs/\iJ b2 K H a2 ys/\(i=xs.length\/(i < xs.length/\i=ys.length))⟩
theorem OU{P:Wm}{w:Wq}{K:W3}{elts:List Expr}{ctx}{pos:Pos}(b1 b2:Bool)(a1 a2 n:Addr)(h1:a1 < n)(h2:a2 < n) :
  Turn P w K (.Tuple elts ctx pos) (Ea K b1 b2 a1 a2) [n + 4,n + 2,n + 3,n,n + 1] (n + 4) (λi h=>IsZip h (n + 4) (n + 2) (n + 3) .none/\IsPair h (n + 2) (.ref n) (.ref (n + 1))/\(∃ a b,IsPair h (n + 3) a b)/\mx b1 h n a1 i/\mx b2 h (n + 1) a2 i):=by
 have ne:∀ (i j:Nat),i≠j->n + i≠n + j:=λi j h e=>h (Nat.add_left_cancel e)
 have n1:∀ i:Nat,a1≠n + i:=λi=>Wo (Ww h1 (QM n i))
 have n2:∀ i:Nat,a2≠n + i:=λi=>Wo (Ww h2 (QM n i))
 have nm:∀ {x a b:Addr},x≠a->x≠b->x ∉ [a,b]:=λh1 h2 h=>by
  rcases Wr.mp h with e | h
  ·exact h1 e
  ·exact h2 (U3.mp h)
 have C:ZA (n + 4) (n + 2) (n + 3) n (n + 1) [n,a1] [n + 1,a2] :=
  ⟨Wb,Wb,nm (ne 4 0 (by decide)) (n1 4).symm,nm (ne 4 1 (by decide)) (n2 4).symm,nm (ne 3 0 (by decide)) (n1 3).symm,nm (ne 3 1 (by decide)) (n2 3).symm,nm (ne 0 1 (by decide)) (n2 0).symm,nm (ne 1 0 (by decide)) (n1 1).symm,
   ne 3 4 (by decide),ne 2 4 (by decide),ne 2 3 (by decide),ne 2 0 (by decide),ne 2 1 (by decide)⟩
 have rF:∀ {b:Bool} {h:Heap} {it a:Addr} {i:Nat},mx b h it a i->∃ o,h.get? it=some o/\∀ v,o.data≠.cell v:=λ{b h it a i} q=>by
  cases b
  ·obtain⟨o,e,c,d⟩:=(q:h.IsTupleIter it a i)
   exact⟨o,e,λv z=>by rw[d] at z; cases z⟩
  ·obtain⟨o,e,c,d⟩:=(q:h.IsListIter it a i)
   exact⟨o,e,λv z=>by rw[d] at z; cases z⟩
 have uF:∀ {b:Bool} {h h':Heap} {it a:Addr} {i:Nat},mx b h it a i->(∀ o,h.get? it=some o->h'.get? it=some o)->mx b h' it a i:=λ{b h h' it a i} q k=>by
  cases b
  ·obtain⟨o,e,r⟩:=(q:h.IsTupleIter it a i)
   exact⟨o,k o e,r⟩
  ·obtain⟨o,e,r⟩:=(q:h.IsListIter it a i)
   exact⟨o,k o e,r⟩
 have mm:∀ {b:Addr},b ∈ [n + 4,n + 2,n + 3,n,n + 1]->b=n + 4\/b=n + 2\/b=n + 3\/b=n\/b=n + 1:=λh=>by simpa using h
 refine⟨by simp,?_,?_,?_,?_,?_⟩
 ·rintro i h ⟨hz,hI,⟨a,b,hO⟩,q1,q2⟩ c hc;rcases mm hc with e | e | e | e | e <;> subst e
  ·exact⟨_,hz,λv z=>by
    have z':Data.fields _=Data.cell v:=z
    cases z'⟩
  ·exact⟨_,hI,λv z=>by
    have z':Data.seq _ _=Data.cell v:=z
    cases z'⟩
  ·exact⟨_,hO,λv z=>by
    have z':Data.seq _ _=Data.cell v:=z
    cases z'⟩
  ·exact rF q1
  ·exact rF q2
 ·rintro i h h' ⟨hz,hI,⟨a,b,hO⟩,q1,q2⟩ k;exact⟨k _ (by simp) _ hz,k _ (by simp) _ hI,⟨a,b,k _ (by simp) _ hO⟩,uF q1 λo e=>k _ (by simp) o e,uF q2 λo e=>k _ (by simp) o e⟩
 ·intro X hP hw hK hc i pins s σ H E I hf st hg;subst hP hw hK;obtain⟨hz,hI,⟨a,b,hO⟩,q1,q2⟩:=st;obtain⟨xs,ys,x,y,c1,c2,hx,hy⟩:=hg;obtain⟨is,rv1,p1⟩:=I.pB c1;obtain⟨js,rv2,p2⟩:=I.pB c2;obtain⟨u,hu,ru⟩:=rv1.get hx;obtain⟨v,hv,rv⟩:=rv2.get hy;have D1:=uA (prog:=X.prog) (w:=X.w) (A:=X.A.in1) b1 (I.ok.hd hc) n a1 (n1 0) is.toArray;have D2:=uA (prog:=X.prog) (w:=X.w) (A:=X.A.in1) b2 (I.ok.hd hc) (n + 1) a2 (n2 1) js.toArray;have aS:∀ c ∈ [n + 4,n + 2,n + 3,n,n + 1],c < s.heap.objs.size:=λc hc=>by
   have z:=Wj hz;have le:∀ k:Nat,k<=4->n + k < s.heap.objs.size:=λk hk=>Ja (Nat.add_le_add_left hk n) z
   rcases mm hc with e | e | e | e | e <;> subst e
   ·exact z
   ·exact le 2 (by decide)
   ·exact le 3 (by decide)
   ·exact le 0 (by decide)
   ·exact le 1 (by decide)
  have l1:i < is.toArray.size:=by simpa using (W6.mp hu).1
  have l2:i < js.toArray.size:=by simpa using (W6.mp hv).1
  refine OO D1 D2 C hz hI hO ⟨q1,p1⟩ ⟨q2,p2⟩ l1 l2 λx' y' h' tk e1 e2 kh xw s1 s2 hT k=>?_
  have ex:x'=u:=by
   rw[QO,hu] at e1
   cases e1; rfl
  have ey:y'=v:=by
   rw[QO,hv] at e2
   cases e2; rfl
  subst ex ey;refine⟨_,rfl,wpAny_letOwnedTupleGo_zip kh λh2 n9 sb=>?_⟩;have nz:s.heap.objs.size≠n + 4:=WR (aS (n + 4) (by simp));have k2:∀ c o,c ∉ [n + 4,n + 2,n + 3,n,n + 1]->s.heap.get? c=some o->h2.get? c=some o:=λc o hc e=>by
   have g1:c≠n + 4:=λz=>hc (by simp[z])
   have g2:c≠n + 3:=λz=>hc (by simp[z])
   have g3:c≠n:=λz=>hc (by simp[z])
   have g4:c≠n + 1:=λz=>hc (by simp[z])
   exact(sb.2 c g1).trans (k c o g1 g2 g3 g4 e)
  have I2:Inv X pins σ (upd H s.heap.objs.size (.tup [x,y])) { s with heap:=h2,toks:=tk }:=Inv.xu (t':=tk) _ I hf aS ru rv ((sb.2 _ nz).trans hT) k2;refine⟨.ref s.heap.objs.size,_,I2,rfl,⟨s.heap.objs.size,x,y,I.aB.fresh (Wh _),λzs n_=>by rw[I.D_ n_ c1]; exact hx,λzs n_=>by rw[I.D_ n_ c2]; exact hy,rfl,rfl⟩,⟨n9,(sb.2 _ (ne 2 4 (by decide))).trans (k _ _ (ne 2 4 (by decide)) (ne 2 3 (by decide)) (ne 2 0 (by decide)) (ne 2 1 (by decide)) hI),⟨_,_,(sb.2 _ (ne 3 4 (by decide))).trans xw⟩,uF s1.1 λo e=>(sb.2 _ (ne 0 4 (by decide))).trans e,uF s2.1 λo e=>(sb.2 _ (ne 1 4 (by decide))).trans e⟩,λc hc=>?_⟩;rw[aL (Wo (aS c hc))];exact(hf c hc).1
 ·intro X hP hw hK hc i pins s σ H E I hf st hg;subst hP hw hK;obtain⟨hz,hI,⟨a,b,hO⟩,q1,q2⟩:=st;obtain⟨xs,ys,c1,c2,hl⟩:=hg;obtain⟨is,rv1,p1⟩:=I.pB c1;obtain⟨js,rv2,p2⟩:=I.pB c2;have D1:=uA (prog:=X.prog) (w:=X.w) (A:=X.A.in1) b1 (I.ok.hd hc) n a1 (n1 0) is.toArray;have D2:=uA (prog:=X.prog) (w:=X.w) (A:=X.A.in1) b2 (I.ok.hd hc) (n + 1) a2 (n2 1) js.toArray;have r1:=rv1.length;have r2:=rv2.length;refine OP D1 D2 C hz hI hO ⟨q1,p1⟩ ⟨q2,p2⟩ (by simp; omega) λh' tk k=>⟨rfl,Inv.q_ (t':=tk) [n + 4,n + 2,n + 3,n,n + 1] I (λc o hc e=>?_) hf⟩
  exact k c o (λz=>hc (by simp[z])) (λz=>hc (by simp[z])) (λz=>hc (by simp[z])) (λz=>hc (by simp[z])) e
 ·intro A i s Q E st h;exact JU st.1 h
end L2
namespace DV
open PySem PySem.Spec PyProof.Rows L2
section
variable {X:Cx} {c:Fc} {tg e:Expr} {fe:DE} {pos pp:Pos}
def OV(K:W3)(ta:TA):TI:=λσ H R=>ta σ H λvs H1=>∃ (b1 b2:Bool) (a1 a2:Addr),vs=[.ref a1,.ref a2]/\(∃ xs,iJ b1 K H1 a1 xs)/\(∃ ys,iJ b2 K H1 a2 ys)/\R (Ea K b1 b2 a1 a2) H1
theorem OW {ctx} (hg:Gl X "zip") (hm:X.mg "zip" = none) (ha:PA X [a,b] ta) (hs:Wf [a,b] X.env=(false,eval a X.env) :: Wf [b] X.env:=by rfl) (c9:(Q5 pos (Wf [b] X.env)).any (·.1)=false:=by rfl):PI X (.Tuple elts ctx tp) (.Call (.Name "zip" pp) [a,b] [] pos) (OV X.K ta):=by
 intro pins s σ H R I h;refine Call_ (j0 I hg hm boot_zip (Q0 (aR (ha pos pins s σ H _ I h) λus s1 ⟨vs,H1,I1,r1,q1⟩=>?_) hs c9));obtain⟨b1,b2,a1,a2,ev,⟨xs,hx⟩,⟨ys,hy⟩,q⟩:=q1;subst ev
 cases r1 with
 | cons r rr =>
  cases rr with
  | cons r' rr =>
   cases rr
   cases r
   cases r';obtain⟨is,rv1,p1⟩:=I1.pB hx;obtain⟨js,rv2,p2⟩:=I1.pB hy;refine OT p1 p2 λh' hz hI hO q1 q2 kp=>JU hz ?_
   refine⟨s1.heap.objs.size + 4,_,_,_,H1,rfl,I1.kept (t':=s1.toks) kp,OU b1 b2 a1 a2 s1.heap.objs.size p1.lt p2.lt,⟨hz,hI,⟨_,_,hO⟩,q1,q2⟩,λb hb=>?_,q⟩;have hb:b=s1.heap.objs.size + 4\/b=s1.heap.objs.size + 2\/b=s1.heap.objs.size + 3\/b=s1.heap.objs.size\/b=s1.heap.objs.size + 1:=by simpa using hb
   have hle:s1.heap.objs.size<=b:=by rcases hb with z | z | z | z | z <;> subst z <;> first | exact Wh _ | exact QM _ _
   exact I1.g6 hle (I1.aB.fresh hle)
def eE(xs ys:List D):List D:=Jc (λx y=>D.tup [x,y]) xs ys
theorem OX{xs ys:List D}{i:Nat}{d:D}(h:(eE xs ys)[i]? = some d):∃ x y,xs[i]? = some x/\ys[i]? = some y/\d = .tup [x,y]:=by
 unfold eE at h;rw[List.getElem?_zipWith] at h
 cases e1:xs[i]? with
 | none=>rw[e1] at h; cases h
 | some x =>
  cases e2:ys[i]? with
  | none=>rw[e1,e2] at h; cases h
  | some y =>
   rw[e1,e2] at h
   cases h;exact⟨x,y,rfl,rfl,rfl⟩
theorem aG.two(r:Rep H O u x)(r':Rep H O v y):aG H O [u,v] [x,y]:=by
 refine⟨rfl,λj v' d' e1 e2=>?_⟩;match j with
 | 0=>simp at e1 e2; subst e1 e2; exact r
 | 1=>simp at e1 e2; subst e1 e2; exact r'
 | j + 2=>simp at e1
def gR:D->Option (List D)
 | .lst ds=>some ds
 | .tup ds=>some ds
 | _=>none
def fW(f g:DE):DI:=λδ=>(f δ).bind λx δ1=>(g δ1).bind λy δ2=>match gR x.d,gR y.d with
 | some xs,some ys=>.ok (eE xs ys) δ2
 | _,_=>.stuck
theorem Rep.sq{K:W3}{H:Hp}{O:Addr->Prop}{v:V}{d:D}{ds:List D}(r:Rep H O v d)(e:gR d=some ds) :
  ∃ (b:Bool) (a:Addr) (vs:List V),v = .ref a/\iJ b K H a vs/\aG H O vs ds/\∀ H2,(∀ p o,H p=some o->¬ O p->H2 p=some o)->iJ b K H2 a vs:=by
 cases d <;> first | (simp[gR] at e; done) | skip
 ·cases r with
  | tup h1 h2 h3 h4 =>
   simp only[gR,Wc] at e;subst e;exact⟨false,_,_,rfl,cH.of h2,⟨h3,h4⟩,λH2 k=>cH.of (k _ _ h2 h1)⟩
 ·cases r with
  | lst h1 h2 h3 h4 =>
   simp only[gR,Wc] at e;subst e;exact⟨true,_,_,rfl,.inl h2,⟨h3,h4⟩,λH2 k=>.inl (Rd.keep h2 λo e=>k _ o e h1)⟩
theorem uG {a b:Expr} {f g:DE} {elts:List Expr} {ctx} {tp:Pos} (hg:Gl X "zip") (hm:X.mg "zip" = none) (ha:SE X c a f) (hb:SE X c b g) (hs:Wf [a,b] X.env=(false,eval a X.env) :: Wf [b] X.env:=by rfl)
  (nN:Wf [b] X.env=(false,eval b X.env) :: Wf [] X.env:=by rfl) (c9:(Q5 pos (Wf [b] X.env)).any (·.1)=false:=by rfl):SI X c (.Tuple elts ctx tp) (.Call (.Name "zip" pp) [a,b] [] pos) (fW f g) :=
 PI.weak (OW hg hm (fw ha (fw hb gJ nN) hs) hs c9) λσ H R ⟨δ,k,q⟩=>by
  unfold fW at q;rw[a_] at q;refine⟨δ,k,aO q λx δ1 q1 v H1 a1 r1=>⟨δ1,a1.ok,?_⟩⟩;rw[a_] at q1;refine aO q1 λy δ2 q2 u H2 a2 r2=>?_
  have hx:Rep H2 (Av c σ δ2) v x.d:=Rep.cR r1.rep a2;have hy:Rep H2 (Av c σ δ2) u y.d:=r2.rep;generalize x.d=dx at q2 hx;generalize y.d=dy at q2 hy
  cases e1:gR dx with
  | none=>rw[e1] at q2; exact q2.elim
  | some xs =>
   cases e2:gR dy with
   | none=>rw[e1,e2] at q2; exact q2.elim
   | some ys =>
    rw[e1,e2] at q2;obtain⟨b1,p1,vs,ev,s1,w1,k1⟩:=hx.sq (K:=X.K) e1;obtain⟨b2,p2,us,eu,s2,w2,k2⟩:=hy.sq (K:=X.K) e2;subst ev eu;refine⟨b1,b2,p1,p2,rfl,⟨vs,s1⟩,⟨us,s2⟩,q2 _ H2 (a1.trans a2) λH3 kp=>?_⟩;have t1:=k1 H3 λp o e n=>kp p o e λz=>n (.inr z)
    have t2:=k2 H3 λp o e n=>kp p o e λz=>n (.inr z)
    refine⟨⟨vs,us,t1,t2,?_⟩,λi d e=>?_⟩
    ·rw[w1.1,w2.1];simp only[eE,List.length_zipWith];omega
    ·obtain⟨x,y,ex,ey,rfl⟩:=OX e;obtain⟨v,ev,rv⟩:=w1.get ex;obtain⟨u,eu,ru⟩:=w2.get ey;refine⟨⟨vs,us,v,u,t1,t2,ev,eu⟩,λz H4 ⟨p,v',u',hp,hv,hu,e3,ez⟩=>.inr ⟨p,_,_,hp,e3,ez,rfl,?_⟩⟩;have h1:=hv vs t1;have h2:=hu us t2;rw[ev] at h1;rw[eu] at h2
     cases h1
     cases h2;exact aG.two rv ru
end
section
variable {X:Cx} {c:Fc} {e:Expr} {es:List Expr} {as:List Ak} {k n:Nat} {x:Str} {G:DX} {pp pos:Pos}
end
end DV
namespace PySem
open Sem (wp)
section
variable {prog:Wm} {w:Wq} {A:Wu} {E:Value->W4->Prop} {hp:Heap} {g:Array GenState} {d:Drawn} {t:Nat} {os:OsState}
variable {nm qn:Str} {C N:Addr} {bs bm Xa:List Value} {Xb:Bool} {sn:List Str} {sub:List Value} {ab:Bool} {col:Option Bool} {dd:Option Addr} {k0 k1 k2 k3 k5:Option Value} {B newId Xd:String}
end
end PySem
namespace L2
open PySem PySem.Spec PyProof.Rows PySem.W PySem.Builtin PySem.Builtin.ObjectAttr
section
variable {prog:Wm} {w:Wq} {A:Wu} {E:Value->W4->Prop} {s:W4} {K:W3} {x C:Addr} {name:Str} {v:Value} {R:Result->W4->Prop}
end
section
variable {P:Wm} {w:Wq} {H:Hp} {h:Heap} {C a:Addr}
end
section
variable {X:Cx} {o value:Expr} {f:Str} {ta tv:TE} {pos pos':Pos}
end
section
variable {X:Cx} {k:Nat} {f C:Addr} {fd:Qn} {ps:List Str} {sp:Sp} {x:Str} {p pos:Pos} {e:Expr} {es:List Expr} {t:TA}
end
section
variable {P:Wm} {w:Wq} {K:W3} {mg:Str->Option Value} {base:Heap} {x qual f1 f2:Str} {st:Stmt} {f:Addr} {fd:Qn} {N ps:List Str} {k:Nat}
end
section
variable {X:Cx} {C f:Addr} {call:Expr} {te:TE} {pos:Pos}
end
end L2
namespace DV
open PySem PySem.Spec PyProof.Rows L2 PySem.W
section
variable {X:Cx} {c:Fc} {e:Expr} {fb:BE}
end
end DV
namespace L2
open PySem PySem.Spec PyProof.Rows
section
variable {X:Cx} {tg:Expr}
end
end L2
namespace DV
open PySem PySem.Spec PyProof.Rows L2
section
variable {X:Cx} {c:Fc} {tg e:Expr} {fe:DE} {pos pp:Pos}
end
end DV
namespace PySem.SeqAt
open AutoSeq1 (wpAny_loadPart')
open MeetsSeq
section
variable {A:Wu} {s:W4}
end
end PySem.SeqAt
namespace DV
open PySem PySem.Spec PyProof.Rows L2
end DV
namespace PySem.SeqAt
open AutoSeq1 (wpAny_loadPart')
open MeetsSeq
abbrev prO (dd:Option Addr) (a1 a2:Int) (t1 t2:Tok) (n:Nat) (sl:Array (Option Value)):Obj:={ cls:=.type "tuple",dict:=dd,data:=.seq #[.int a1 t1,.int a2 t2] n,slots:=sl }
def ltP(a1 a2 b1 b2:Int):Bool:=if a1 == b1 then decide (a2 < b2) else decide (a1 < b1)
theorem zaq(l b:Addr)(a1 a2 b1 b2:Int)(t1 t2 u1 u2:Tok)(n n2:Nat)(dd ni:Option Addr)(sl lU:Array (Option Value)) :
  Meets (Builtin.«tuple.__lt__» ⟨[.ref l,.ref b],[]⟩)
   (λ_ R s=>s.heap.get? l=some (prO dd a1 a2 t1 t2 n sl)/\s.heap.get? b=some (prO ni b1 b2 u1 u2 n2 lU)/\R (.ok (.ret (.bool (ltP a1 a2 b1 b2)))) s) :=
 .of_wp λprog w A R s h=>by
  obtain⟨hp,g,d,tk,os⟩:=s; obtain⟨hl,hb,h⟩:=h
  have f2:=AutoSeq1.sub_tuple_tuple;wp_walk using Ql hl,Ql hb,wpAny_forIn_list _ (λrest c s'=>c.1=none/\s' = ⟨hp,g,d,tk,os⟩ /\
   (rest=[(.int a1 t1,.int b1 u1),(.int a2 t2,.int b2 u2)]\/(rest=[(.int a2 t2,.int b2 u2)]/\a1=b1)\/(rest=[]/\a1=b1/\a2=b2))) _
  case turn =>
   rintro ⟨y,x⟩ rest c s' ⟨hc,rfl,hz⟩;rcases hz with hz | ⟨hz,e1⟩ | ⟨hz,_⟩
   ·injection hz with hyx hrest
    cases hyx;refine W0 (EqAt.int_int a1 t1 b1 u1 prog w _ _ ?_);by_cases e:a1=b1
    ·rw[show(a1 == b1)=true by simp[e]];wp_walk
     exact⟨rfl,rfl,.inr (.inl ⟨hrest,e⟩)⟩
    ·rw[show(a1 == b1)=false by simp[e]];have aS:ltP a1 a2 b1 b2=decide (a1 < b1):=by simp[ltP,e]
     rw[aS] at h;simp only[Bool.not_false,if_true];refine W0 (QT ?_);refine W0 (richCompare_gives (op:=.Lt) (JG _ _ t1) (JG _ _ u1) F.slot_int_lt F.entry_int_lt (F.args_int_lt_2 _ _) (gives_int_lt _ _ t1 u1) (λx=>nomatch x) ?_);refine W0 (W5 ?_);exact W5 (W5 ⟨_,rfl,h⟩)
   ·injection hz with hyx hrest
    cases hyx;refine W0 (EqAt.int_int a2 t2 b2 u2 prog w _ _ ?_);by_cases e:a2=b2
    ·rw[show(a2 == b2)=true by simp[e]];wp_walk
     exact⟨rfl,rfl,.inr (.inr ⟨hrest,e1,e⟩)⟩
    ·rw[show(a2 == b2)=false by simp[e]];have aS:ltP a1 a2 b1 b2=decide (a2 < b2):=by simp[ltP,e1]
     rw[aS] at h;simp only[Bool.not_false,if_true];refine W0 (QT ?_);refine W0 (richCompare_gives (op:=.Lt) (JG _ _ t2) (JG _ _ u2) F.slot_int_lt F.entry_int_lt (F.args_int_lt_2 _ _) (gives_int_lt _ _ t2 u2) (λx=>nomatch x) ?_);refine W0 (W5 ?_);exact W5 (W5 ⟨_,rfl,h⟩)
   ·cases hz
  case fin =>
   rintro ⟨c1,c2⟩ s' ⟨hc,rfl,hz⟩;simp only at hc;subst hc;rcases hz with hz | ⟨hz,e1⟩ | ⟨_,e1,e2⟩
   ·cases hz
   ·cases hz
   ·have aS:ltP a1 a2 b1 b2=false:=by simp[ltP,e1,e2]
    rw[aS] at h;wp_walk
    exact⟨_,rfl,h⟩
  case h=>exact⟨rfl,rfl,.inl rfl⟩
end PySem.SeqAt
namespace PySem
open SeqAt (prO ltP zaq)
section
variable {prog:Wm} {w:Wq} {A:Wu} {R:Result->W4->Prop} {I:Addr} {fp wr:List Addr} {n:Nat} {P:Nat->Value->Prop} {St:Nat->Heap->Prop}
end
section
variable {prog:Wm} {w:Wq} {A:Wu} {E:Value->W4->Prop} {s:W4}
end
end PySem
namespace DV
open PySem PySem.Spec PyProof.Rows L2
open PySem.SeqAt (prO ltP)
section
variable {X:Cx} {c:Fc} {e:Expr} {fb:BE} {pos pp:Pos}
end
section
variable {c:Fc} {σ:St} {δ δ':Dl} {H H':Hp} {p:Addr}
theorem Ok.OY(k:Ok (c.plus p) σ δ H)(h0:c.H₀ p=none)(o:HO):Ok (c.plus p) σ δ (upd H p o):=by
 have ud:∀ b w,H b=some w->¬ Av (c.plus p) σ δ b->upd H p o b=some w:=λb w e n=>by
  rw[aL (λz:b=p=>n (.inl (.inr z)))]; exact e
 have ex:∀ b,(∃ w,H b=some w)->∃ w,upd H p o b=some w:=λb ⟨w,e⟩=>by
  by_cases z:b=p
  ·rw[z]; exact⟨o,cZ⟩
  ·rw[aL z]; exact⟨w,e⟩
 refine⟨λa w e n=>?_,λa z=>ex a (k.bd a z),λa z=>ex a (k.eT a z),k.len,λi d e=>?_,λi d e=>?_,k.inj,k.pinned⟩
 ·rw[aL (λz:a=p=>by have e':c.H₀ a=some w:=e; rw[z,h0] at e'; cases e')];exact k.keep a w e n
 ·obtain⟨v,e1,r⟩:=k.slot i d e;exact⟨v,e1,r.keep ud⟩
 ·obtain⟨a,e1,oa,h1,h2⟩:=k.own i d e;exact⟨a,e1,oa.keep ud (λw e=>by rw[aL (λz:a=p=>h2 (.inr z))]; exact e),h1,h2⟩
theorem Eb(h:post c r k)(m:∀ a δ,k a δ->k' a δ):post (c.plus p) r k':=by
 cases r with
 | ok a δ=>exact m a δ h
 | exc x δ=>exact h
 | stuck=>exact h
end
end DV
namespace L2
open PySem PySem.Spec PyProof.Rows
def Ec(x:Str):It:=⟨λi _=>i < x.cps.size,λi H y H'=>∃ p c,H p=none/\x.cps[i]? = some c/\H'=upd H p (.tup [.int i,.str ⟨#[c]⟩])/\y = .ref p,λi _=>i=x.cps.size⟩
theorem OZ {P:Wm} {w:Wq} {K:W3} {elts:List Expr} {ctx} {pos:Pos} (x:Str) (t:Tok) (e it:Addr) (T:String) (hT:T = "str_ascii_iterator"\/T = "str_iterator") (jK:e≠it):Turn P w K (.Tuple elts ctx pos) (Ec x) [e,it] e (λi h=>(∃ old,IsEnum h e it i old)/\h.IsStrIter it T x t i):=by
 have DD:∀ A:Wu,A.handled=none->Draws P w A it [it] x.cps.size (λi v=>∃ c u,x.cps[i]? = some c/\v = .str ⟨#[c]⟩ u) (λi h=>h.IsStrIter it T x t i):=λA hh=>by
  rcases hT with rfl | rfl
  ·exact Draws.strAscii hh it x t
  ·exact Draws.strWide hh it x t
 refine⟨by simp,λi h st b hb=>?_,λi h h' st k=>?_,?_,?_,λA i s Q E st h=>?_⟩
 ·obtain⟨⟨old,he⟩,hi⟩:=st;have hb:b=e\/b=it:=by simpa using hb
  rcases hb with z | z
  ·subst z;exact⟨_,he,λv z=>by
    have z':Data.fields _=Data.cell v:=z
    cases z'⟩
  ·subst z;obtain⟨o,e,c,d⟩:=hi;exact⟨o,e,λv z=>by rw[d] at z; cases z⟩
 ·obtain⟨⟨old,he⟩,o,e2,r⟩:=st;exact⟨⟨old,k e (by simp) _ he⟩,o,k it (by simp) o e2,r⟩
 ·intro X hP hw hK hc i pins s σ H E I hf st hg;subst hP hw hK;have rg:i < x.cps.size:=hg;obtain⟨⟨old,he⟩,hi⟩:=st;have D:=DD X.A.in1 (I.ok.hd hc);have aS:∀ b ∈ [e,it],b < s.heap.objs.size:=λb hb=>by
   have hb:b=e\/b=it:=by simpa using hb
   rcases hb with z | z
   ·subst z; exact Wj he
   ·subst z; obtain⟨o,q,_⟩:=hi; exact Wj q
  refine wpAny_pyNext_enum_itemD D he hi rg jK (by simp[jK]) λx' h' tk hP ho iX O0 hsz hk=>?_
  obtain⟨c,u,hx,rfl⟩:=hP;refine⟨_,rfl,wpAny_letOwnedTupleGo_enum ho λh2 rh sb=>?_⟩;have k2:∀ b o,b≠e->b≠it->s.heap.get? b=some o->h2.get? b=some o:=λb o q1 q2 q=>(sb.2 b q1).trans (hk b o q1 q2 q)
  have rj:h2.get? s.heap.objs.size=some { cls:=.type "tuple",data:=.seq #[.int i tk,.str ⟨#[c]⟩ u] }:=(sb.2 _ (WR (aS e (by simp)))).trans O0;have I2:Inv X pins σ (upd H s.heap.objs.size (.tup [.int i,.str ⟨#[c]⟩])) { s with heap:=h2,toks:=tk + 1 }:=Inv.xk (t':=tk + 1) I hf aS ⟨u,rfl⟩ rj k2;refine⟨.ref s.heap.objs.size,_,I2,rfl,⟨s.heap.objs.size,c,I.aB.fresh (Wh _),hx,rfl,rfl⟩,⟨⟨_,by simpa using rh⟩,?_⟩,λb hb=>?_⟩
  ·obtain⟨o,e2,r⟩:=iX;exact⟨o,(sb.2 it (Ne.symm jK)).trans e2,r⟩
  ·rw[aL (Wo (aS b hb))];exact(hf b hb).1
 ·intro X hP hw hK hc i pins s σ H E I hf st hg;subst hP hw hK;have oM:i=x.cps.size:=hg;subst oM;obtain⟨⟨old,he⟩,hi⟩:=st;have D:=DD X.A.in1 (I.ok.hd hc);obtain⟨f0,f1,f2,f3,f4,f5⟩:=hf it (by simp);exact wpAny_pyNext_enum_endD D he hi λh' eb=>⟨rfl,I.turned (t':=s.toks) (λb o hb q=>eb b o hb q) f0 f1 f3 f4 f5⟩
 ·obtain⟨⟨old,he⟩,_⟩:=st;exact Jn he h
end L2
namespace DV
open PySem PySem.Spec PyProof.Rows L2
section
variable {X:Cx} {c:Fc} {tg e:Expr} {fe:DE} {pos pp:Pos}
def O1(ta:TA):TI:=λσ H R=>ta σ H λvs H1=>∃ z,vs=[.str z]/\R (Ec z) H1
theorem O2 {a:Expr} {ta:TA} {elts:List Expr} {ctx} {tp:Pos} (hg:Gl X "enumerate") (hm:X.mg "enumerate" = none) (ha:PA X [a] ta) (hs:Wf [a] X.env=[(false,eval a X.env)]:=by rfl):PI X (.Tuple elts ctx tp) (.Call (.Name "enumerate" pp) [a] [] pos) (O1 ta):=by
 intro pins s σ H R I h;refine Call_ (j0 I hg hm boot_enumerate (Q0 (aR (ha pos pins s σ H _ I h) λus s1 ⟨vs,H1,I1,r1,q1⟩=>?_) hs rfl));obtain⟨z,ev,q⟩:=q1;subst ev
 cases r1 with
 | cons r rr =>
  cases rr;obtain⟨t,rfl⟩:=r;have hT:Uh z = "str_ascii_iterator"\/Uh z = "str_iterator":=by
   unfold Uh;split
   ·exact .inl rfl
   ·exact .inr rfl
  refine call_enumerate_str λh' he hi hsz kp=>Jn he ?_
  refine⟨s1.heap.objs.size + 1,[s1.heap.objs.size + 1,s1.heap.objs.size],_,_,H1,rfl,I1.kept (t':=s1.toks) kp,OZ z t _ _ _ hT (Nat.succ_ne_self _),⟨⟨_,he⟩,hi⟩,λb hb=>?_,q⟩;have hb:b=s1.heap.objs.size + 1\/b=s1.heap.objs.size:=by simpa using hb
  have hle:s1.heap.objs.size<=b:=by rcases hb with z | z <;> subst z <;> first | exact Wh _ | exact Ug _
  exact I1.g6 hle (I1.aB.fresh hle)
def rG(f:DE):DI:=λδ=>(f δ).bind λr δ1=>match r.d with
 | .str x=>.ok (kf (x.map λn=>.str [n])) δ1
 | _=>.stuck
theorem O3 {elts:List Expr} {ctx} {tp:Pos} (hg:Gl X "enumerate") (hm:X.mg "enumerate" = none) (he:SE X c e fe) (hs:Wf [e] X.env=[(false,eval e X.env)]:=by rfl):SI X c (.Tuple elts ctx tp) (.Call (.Name "enumerate" pp) [e] [] pos) (rG fe) :=
 PI.weak (O2 hg hm (fw he gJ hs) hs) λσ H R ⟨δ,k,q⟩=>by
  unfold rG at q;rw[a_] at q;refine⟨δ,k,aO q λr δ1 q1 v H1 a1 r1=>?_⟩;have rr:=r1.rep;generalize r.d=d at q1 rr
  cases d <;> first | exact q1.elim | skip
  rename_i x
  cases rr;refine⟨toS x,rfl,q1 _ H1 a1 ?_⟩;have hsz:(toS x).cps.size=x.length:=by simp[toS]
  intro H2 kp;refine⟨by show(kf (x.map λn=>D.str [n])).length=(toS x).cps.size; rw[hsz]; simp[kf],λi d e=>?_⟩;obtain⟨d',e',rfl⟩:=xm e;rw[Wv,WH] at e';obtain⟨n,hn,rfl⟩:=e';have hi:i < x.length:=(W6.mp hn).1;refine⟨by show i < (toS x).cps.size; rw[hsz]; exact hi,λy H3 ⟨p,cc,hp,hx,e3,ey⟩=>.inr ⟨p,_,_,hp,e3,ey,rfl,?_⟩⟩;have O4:cc=n:=by
   have:(toS x).cps[i]? = some n:=by simp[toS,hn]
   rw[hx] at this
   cases this;rfl
  subst O4;exact aG.pair (.str [cc])
end
section
variable {K:W3} {h:Heap} {mg:Str->Option Value} {x q:Str} {st:Stmt} {f:Addr} {fd:Qn}
abbrev dH(K:W3)(x:Str)(st:Stmt):Prop:=∃ (f:Addr) (oc:Value) (od:Option Addr) (kV dc pm:Value) (an:Option Addr) (cd ct:Value) (sl:Array (Option Value)),
 PySem.W.nsIn K WE x=some (some (.ref f))/\K.lookup f=some ⟨oc,od,.func (QS x x (lY st) (jv st) (cf st) .none kV dc pm an cd ct),sl⟩/\PySem.W.codeIn K cd x=true/\U7 K (.ref f)=true
theorem dS(X:K.In h)(G:h.Ns WE mg)(d:dH K x st):∃ f fd,cu K x x st f fd/\mg x=some (.ref f):=by
 obtain⟨f,oc,od,kV,dc,pm,an,cd,ct,sl,a,l,c,k⟩:=d;exact⟨f,_,BI l c k,PySem.W.mg_of X G a⟩
abbrev Bd(x q:Str)(st:Stmt)(ps:List Str)(us:List Value):Prop:=∀ (kV doc pm:Value) (an:Option Addr) (bu ct:Value),bindArgs (QS x q (lY st) (jv st) (cf st) .none kV doc pm an bu ct) ⟨us,[]⟩=pure (ps.zip us)
variable {p1 p2 p3 p4 p5 p6:Str}
theorem pC(F:cu K x q st f fd)(h:∀ a,Bd x q st [p1] [a]):Binds K fd [p1] []:=F.binds λ_ _ _ _ _ _ us hl=>match us,hl with
 | [a],_=>h a _ _ _ _ _ _
theorem k9(F:cu K x q st f fd)(h:∀ a b,Bd x q st [p1,p2] [a,b]):Binds K fd [p1,p2] []:=F.binds λ_ _ _ _ _ _ us hl=>match us,hl with
 | [a,b],_=>h a b _ _ _ _ _ _
theorem uH(F:cu K x q st f fd)(h:∀ a b c,Bd x q st [p1,p2,p3] [a,b,c]):Binds K fd [p1,p2,p3] []:=F.binds λ_ _ _ _ _ _ us hl=>match us,hl with
 | [a,b,c],_=>h a b c _ _ _ _ _ _
theorem rH(F:cu K x q st f fd)(h:∀ a b c d,Bd x q st [p1,p2,p3,p4] [a,b,c,d]):Binds K fd [p1,p2,p3,p4] []:=F.binds λ_ _ _ _ _ _ us hl=>match us,hl with
 | [a,b,c,d],_=>h a b c d _ _ _ _ _ _
theorem Ed(F:cu K x q st f fd)(h:∀ a b c d e,Bd x q st [p1,p2,p3,p4,p5] [a,b,c,d,e]):Binds K fd [p1,p2,p3,p4,p5] []:=F.binds λ_ _ _ _ _ _ us hl=>match us,hl with
 | [a,b,c,d,e],_=>h a b c d e _ _ _ _ _ _
end
end DV
namespace L2
open PySem PySem.Spec PyProof.Rows
section
variable {X:Cx} {tg:Expr}
end
section
variable {X:Cx} {e:Expr} {ta:TE} {f:Str} {pos:Pos}
end
end L2
namespace DV
open PySem PySem.Spec PyProof.Rows L2
section
variable {X:Cx} {c:Fc} {tg e:Expr} {fe:DE} {pos pp:Pos}
end
end DV
namespace L2
open PySem PySem.Spec PyProof.Rows
section
variable {X:Cx}
end
end L2
namespace DV
open PySem PySem.Spec PyProof.Rows L2
end DV
namespace L2
open PySem PySem.Spec PyProof.Rows PySem.SeqAt DV
def xx(z:Str):Value->Bool
 | .str x _=>x == z
 | _=>false
theorem O5(h:Vals xs us):∀ (j:Nat) (u:Value),us[j]? = some u->∃ v,xs[j]? = some v/\RelV v u:=by
 induction h with
 | nil=>intro j u e; simp at e
 | cons r rs ih =>
  intro j u e
  cases j with
  | zero=>simp at e; subst e; exact⟨_,rfl,r⟩
  | succ j=>simpa using ih j u (by simpa using e)
def Ee(K:W3):V->List V->Hp->VK->Prop:=λx xs H Q=>∃ (a:Addr) (ts:List Tx) (z:Tx),x = .ref a/\xs=[.str (toS z)]/\bW K H a (ts.map λt=>V.str (toS t))/\z ∈ ts/\ts.length<=1000/\Q (.int (ts.idxOf z:Nat)) H
section
variable {X:Cx}
theorem O6:sS X "list.index" (Ee X.K):=by
 intro pins s σ H x xs v us Q I rx rs h;obtain⟨a,ts,z,rfl,rfl,hq,hm,hl,q⟩:=h;obtain⟨u,rfl,ru⟩:=jq rs;obtain⟨tk,rfl⟩:=ru
 cases rx;obtain⟨ah,r',p,_⟩:=I.list hq;obtain⟨⟨cls,dd,data,sl⟩,ho,hc,n,hd⟩:=p.isList;simp only at hc hd;subst hc; subst hd
 have at':∀ j (hj:j < ah.length),∃ t tk,ts[j]? = some t/\ah[j] = .str (toS t) tk:=λj hj=>by
  obtain⟨v,e1,r1⟩:=O5 r' j _ (Wg hj);rw[Wv] at e1;obtain⟨t,e2,e3⟩:=Option.map_eq_some_iff.mp e1;subst e3;obtain⟨tk,e4⟩:=r1;exact⟨t,tk,e2,e4⟩
 have hlen:ah.length=ts.length:=by have:=r'.length; simpa using this.symm
 have hj:ts.idxOf z < ts.length:=List.idxOf_lt_length_iff.mpr hm;have Ef:ts.idxOf z < ah.length:=by omega
 refine JS PySem.F.slot_list_index ⟨_,ho,rfl⟩ PySem.F.entry_list_index (PySem.F.args_list_index_2 _ _) (list_indexAt a _ n dd sl (.str (toS z) tk) (xx (toS z)) (ts.idxOf z) (by simpa using Ef) (by omega) ?_ ?_) ⟨ho,λy hy=>?_,⟨.int (ts.idxOf z:Nat),H,I.tok _,⟨_,rfl⟩,q⟩⟩
 ·obtain⟨t,fE,e1,e2⟩:=at' _ Ef;have e3:ts[ts.idxOf z]=z:=List.getElem_idxOf hj;rw[Wg hj,e3] at e1
  cases e1;simp only[List.getElem_toArray,e2,xx];exact beq_self_eq_true _
 ·intro m hm' aS;have Eg:m < ah.length:=by simpa using hm'
  obtain⟨t,fE,e1,e2⟩:=at' m Eg;have cx:t≠z:=λe=>by
   subst e;have O7:m < ts.length:=by omega
   have z2:=List.not_of_lt_findIdx (p:=(· == t)) (xs:=ts) (i:=m) aS;rw[Wg O7] at e1
   cases e1;simp at z2
  simp only[List.getElem_toArray,e2,xx];rw[oO];exact beq_false_of_ne cx
 ·have pD:y ∈ ah:=by simpa using hy
  obtain⟨j,hjj,rfl⟩:=List.getElem_of_mem pD;obtain⟨t,fE,e1,e2⟩:=at' j hjj;rw[e2];exact EqAt.str_str _ _ _ _
end
end L2
namespace DV
open PySem PySem.Spec PyProof.Rows L2
def Eh:D->Bool
 | .lst _=>true
 | _=>false
def og(x y:D):Option S:=match x,y with
 | .lst ds,.str z=>match fR ds with
  | some ts=>if z ∈ ts/\ts.length<=1000 then some (.pure (.int (ts.idxOf z:Nat))) else none
  | none=>none
 | _,_=>none
def ki(i:Nat)(fb:DE):DE:=λδ=>match δ[i]? with
 | some (some s)=>if Eh s.d then(fb δ).bind λy δ1=>match δ1[i]? with
  | some (some s)=>p2 og s.d y.d δ1
  | _=>.stuck else .stuck
 | _=>.stuck
section
variable {X:Cx} {c:Fc} {o e:Expr} {fa fb:DE}
theorem O8{K:W3}:cT (λx y H Q=>Ee K x [y] H Q) og:=by
 intro c σ δ H x y d e s Q k rx ry hp q
 cases d with
 | lst ds =>
  cases e with
  | str z =>
   simp only[og] at hp;split at hp
   ·rename_i ts ht;split at hp
    ·rename_i hz
     cases hp;obtain⟨a,vs,ea,ha,r⟩:=rx.lst;have ev:=oW ht r;subst ev;exact⟨a,ts,z,ea,by rw[ry.str],.inl ha,hz.1,hz.2,q _ H (.refl k) (.int _)⟩
    ·cases hp
   ·cases hp
  | _=>simp[og] at hp
 | _=>simp[og] at hp
theorem O9(he:PE X o (cz i))(hx:SE X c e fb)
  (kO:Qt o "index" X.env (eval o X.env)=eval o X.env:=by rfl)
  (kP:((Q5 aZ (Wf [e] X.env)).all (λx=>!x.1) && (JK aZ (QR [] X.env)).all (λx=>x.1.isSome)
   && decide ([e].length + ([]:List Keyword).length + (if ([]:List Keyword).isEmpty then 0 else 1) < 30))=true:=by rfl)
  (fQ:(apos.endLine == aZ.line)=true:=by rfl) (hs:Wf [e] X.env=(false,eval e X.env) :: Wf [] X.env:=by rfl) :
  SE X c (.Call (.Attribute o "index" apos) [e] [] aZ) (ki i fb):=by
 refine PE.weak (sV PySem.F.plainAttrs_list PySem.F.slot_list_index PySem.F.type_list_index O6 he (fw hx gJ hs) kO kP fQ hs rfl) λσ H Q h=>?_
 obtain⟨δ,k,q⟩:=h;unfold ki at q
 cases e0:δ[i]? with
 | none=>rw[e0] at q; exact q.elim
 | some o =>
  cases o with
  | none=>rw[e0] at q; exact q.elim
  | some w =>
   rw[e0] at q;simp only at q;split at q
   case isFalse=>exact q.elim
   rename_i hL;obtain⟨v,ev⟩:=oQ k e0;have rb:=md k e0 ev;have ty:vK X.K "list" v H:=by
    cases hd:w.d <;> rw[hd] at hL <;> try cases hL
    rw[hd] at rb;obtain⟨a,vs,ea,ha,_⟩:=rb.lst;subst ea;exact .inl ⟨rfl,_,.inl ha⟩
   rw[a_] at q;refine⟨v,ev,ty,δ,k,aO q λy δ1 q1 u H1 a1 r1=>?_⟩
   cases e:δ1[i]? with
   | none=>rw[e] at q1; exact q1.elim
   | some o =>
    cases o with
    | none=>rw[e] at q1; exact q1.elim
    | some w1 =>
     rw[e] at q1;have O_:=md a1.ok e ev;exact wg O8 a1.ok O_ (.inl r1.rep) (aO q1 λs δ3 q3 v' H3 a3 r3=>q3 v' H3 (a1.trans a3) (bp.back r3 a1))
end
end DV
namespace L2
open PySem PySem.Spec PyProof.Rows PySem.W DV
section
variable {α β:Type} {n:Nat}
end
section
variable {n:Nat} {p:Array Nat}
end
section
variable {prog:Wm} {w:Wq} {A:Wu} {E:Value->W4->Prop} {s:W4} {vs:List Value} {ks:List Tx}
end
section
variable {X:Cx}
end
end L2
namespace DV
open PySem PySem.Spec PyProof.Rows L2
section
variable {X:Cx} {c:Fc} {e:Expr} {fb:BE} {pp pos:Pos}
end
section
variable {X:Cx} {c:Fc} {e:Expr} {fe:DE} {fb:BE} {pos:Pos}
end
section
variable {X:Cx}
end
section
variable {X:Cx} {c:Fc} {e:Expr} {fb:BE}
end
section
variable {X:Cx} {c:Fc} {e:Expr} {fe:DE}
end
section
variable {H H':Hp} {O:Addr->Prop} {v:V} {a:Addr} {us:List V}
end
section
variable {c:Fc} {σ:St} {δ δ1:Dl} {H H1:Hp} {i:Nat} {ds:List D} {g:Xc->Dl->Prop}
end
section
variable {X:Cx} {c:Fc} {e:Expr} {es:List Expr} {as:List Ak} {k n i:Nat} {x:Str} {G:DX} {pp pos:Pos}
end
section
variable {c:Fc} {σ σ':St} {δ δ':Dl} {H H':Hp} {B':Addr->Prop} {g:Xc->Dl->Prop} {i0:Nat} {a:Addr} {ds:List D}
end
end DV
namespace L2
open PySem PySem.Spec PyProof.Rows PySem.W DV
section
variable {prog:Wm} {w:Wq} {A:Wu} {E:Value->W4->Prop} {s:W4} {vs:List Value}
end
section
variable {lt:Nat->Nat->Bool} {r:Nat->Nat} {n:Nat} {α β:Type}
structure Lt(lt:Nat->Nat->Bool)(r:Nat->Nat)(n:Nat):Prop where
 lt:∀ i j,i < n->j < n->lt i j=decide (r i < r j)
 inj:∀ i j,i < n->j < n->i≠j->r i≠r j
end
end L2
namespace DV
open PySem PySem.Spec PyProof.Rows L2
section
variable {X:Cx} {c:Fc} {e:Expr} {fb:BE} {pp pos:Pos}
end
end DV
set_option maxHeartbeats 1000000
namespace SU
open PySem PyProof.Rows
section
variable {prog:Wm} {w:Wq} {A:Wu} {E:Value->W4->Prop} {s:W4}
section
variable {h:Heap} {a:Addr} {ks:List Str} {o:Obj} {es:Array (Int×Value)} {ep:Nat} {t:SetTable} {xs:List (Str×Tok)}
end
end
section
variable {prog:Wm} {w:Wq} {A:Wu} {R:Result->W4->Prop} {I:Addr} {fp wr:List Addr} {G:Array GenState->Array GenState->Prop} {n:Nat} {P:Nat->Value->Prop} {St:Nat->W4->Prop}
end
section
variable {prog:Wm} {w:Wq} {A:Wu} {E:Value->W4->Prop} {s:W4}
end
section
variable {mask:Nat} {owner:Array (Option Nat)}
end
section
variable {prog:Wm} {w:Wq} {A:Wu} {E:Value->W4->Prop} {s:W4}
end
section
variable {prog:Wm} {w:Wq} {A:Wu} {E:Value->W4->Prop} {s:W4}
end
section
variable {prog:Wm} {w:Wq} {A:Wu} {E:Value->W4->Prop} {s:W4}
section
variable {a it:Addr} {ks:List Str} {o:Obj} {es:Array (Int×Value)} {ep:Nat} {t:SetTable} {xs:List (Str×Tok)} {i:Nat}
end
end
section
variable {prog:Wm} {w:Wq} {A:Wu} {E:Value->W4->Prop} {s:W4}
variable {a it:Addr} {ks:List Str} {o:Obj} {es:Array (Int×Value)} {ep:Nat} {t:SetTable} {xs:List (Str×Tok)} {i:Nat}
end
section
variable {prog:Wm} {w:Wq} {A:Wu} {E:Value->W4->Prop} {s:W4}
variable {a it:Addr} {ks:List Str} {o:Obj} {es:Array (Int×Value)} {ep:Nat} {t:SetTable} {xs:List (Str×Tok)} {i:Nat}
end
section
variable {prog:Wm} {w:Wq} {A:Wu} {E:Value->W4->Prop} {s:W4}
end
end SU
set_option maxHeartbeats 400000
namespace L2
open PySem PySem.Spec PyProof.Rows PySem.W DV SU
section
variable {X:Cx}
end
end L2
namespace DV
open PySem PySem.Spec PyProof.Rows L2 SU
section
variable {X:Cx} {c:Fc} {a b:Expr} {f g:DE} {pp pos p1 Xe p3 p4 p5:Pos}
end
end DV
namespace L2
open PySem PySem.Spec PyProof.Rows PySem.W DV
section
variable {X:Cx}
end
end L2
namespace DV
open PySem PySem.Spec PyProof.Rows L2
section
variable {X:Cx} {c:Fc} {e:Expr} {fb:BE} {pp pos:Pos}
end
theorem Pa(c:Nat)(z:List Nat):(n8 c z 0 z.length).length=z.count c:=by
 have key:∀ (z pre:List Nat),((List.range' pre.length z.length).filter λi=>decide ((pre ++ z)[i]? = some c)).length=z.count c:=λz=>by
  induction z with
  | nil=>intro pre; rfl
  | cons x z ih =>
   intro pre;have h:=ih (pre ++ [x]);rw[WU,List.length_singleton] at h;rw[WB,Uj,List.filter_cons];have e:(pre ++ x :: z)[pre.length]? = some x:=by simp
   have e2:pre ++ [x] ++ z=pre ++ x :: z:=by simp
   rw[e2] at h;rw[e,Uo];by_cases hc:x=c
   ·subst hc;simp[h]
   ·have:¬ (some x=some c):=by simpa using hc
    simp[hc,h]
 exact key z []
section
variable {X:Cx}
theorem Pb:sS X "str.count" (λx vs H Q=>∃ (z:Tx) (c:Nat),x = .str (toS z)/\vs=[.str (toS [c])]/\Q (.int (z.count c:Nat)) H):=by
 intro pins s σ H x vs v us Q I rx rv h;obtain⟨z,c,rfl,rfl,q⟩:=h;obtain⟨t,rfl⟩:=rx;obtain⟨u,rfl,ru⟩:=rv.one;obtain⟨tu,rfl⟩:=ru;refine call_gives PySem.F.slot_str_count (typeIs_str _ _ _) PySem.F.entry_str_count (PySem.F.args_str_count_2 _ _) (gives_str_count (toS z) (toS [c]) t tu) ?_;have e:(PySem.Builtin.Str.occurrences (toS z) (toS [c]) 0 (toS z).length ((toS z).length + 1)).length=z.count c:=by
  have:=OI c z;have e1:toS z = ⟨z.toArray⟩:=rfl;have e2:toS [c] = ⟨#[c]⟩:=rfl;rw[jy,e1,e2,this,Pa]
 rw[e];exact⟨.int (z.count c:Nat),H,I.tok _,⟨_,rfl⟩,q⟩
end
def Ei:D->D->Option S
 | .str z,.str [c]=>some (.pure (.int (z.count c:Nat)))
 | _,_=>none
def Ej:D->Bool
 | .str _=>true
 | _=>false
def pE(fa fb:DE):DE:=λδ=>(fa δ).bind λx δ1=>if Ej x.d=true then(fb δ1).bind λy δ2=>p2 Ei x.d y.d δ2 else .stuck
section
variable {X:Cx} {c:Fc} {o e:Expr} {fa fb:DE}
theorem Pc(he:SE X c o fa)(hx:SE X c e fb)
  (kO:Qt o "count" X.env (eval o X.env)=eval o X.env:=by rfl)
  (kP:((Q5 aZ (Wf [e] X.env)).all (λx=>!x.1) && (JK aZ (QR [] X.env)).all (λx=>x.1.isSome)
   && decide ([e].length + ([]:List Keyword).length + (if ([]:List Keyword).isEmpty then 0 else 1) < 30))=true:=by rfl)
  (fQ:(apos.endLine == aZ.line)=true:=by rfl) (hs:Wf [e] X.env=(false,eval e X.env) :: Wf [] X.env:=by rfl) :
  SE X c (.Call (.Attribute o "count" apos) [e] [] aZ) (pE fa fb):=by
 refine PE.weak (sV PySem.F.plainAttrs_str PySem.F.slot_str_count PySem.F.type_str_count Pb he (fw hx gJ hs) kO kP fQ hs rfl) λσ H Q h=>?_
 obtain⟨δ,k,q⟩:=h;unfold pE at q;rw[a_] at q;refine⟨δ,k,aO q λr δ1 q1 v H1 a1 r1=>?_⟩;split at q1
 case isFalse=>exact q1.elim
 rename_i hL;obtain⟨z,ez⟩:∃ z,r.d = .str z:=by
  cases hd:r.d <;> first | exact⟨_,rfl⟩ | (rw[hd] at hL; cases hL)
 have xy:cJ c σ δ1 H1 v (.str z):=by rw[<- ez]; exact .inl r1.rep
 have ev:=xy.str;subst ev;rw[a_] at q1;refine⟨rfl,δ1,a1.ok,aO q1 λy δ2 q2 u H2 a2 r2=>?_⟩;rw[ez] at q2;unfold p2 at q2;have hy:=r2.b;generalize y.d=dy at q2 hy
 cases dy with
 | str w =>
  match w,q2,hy with
  | [n],q2,hy =>
   have eu:=hy.str;subst eu;exact⟨z,n,rfl,rfl,q2 _ H2 (a1.trans a2) (.int _)⟩
  | [],q2,_=>exact q2.elim
  | _ :: _ :: _,q2,_=>exact q2.elim
 | _=>exact q2.elim
end
end DV
set_option maxHeartbeats 3200000
namespace SU
open PySem PyProof.Rows
section
variable {prog:Wm} {w:Wq} {A:Wu} {E:Value->W4->Prop} {s:W4}
end
end SU
set_option maxHeartbeats 1000000
namespace DV
open PySem (sizeLine)
open L2
section
variable {α β:Type}
@[simp] theorem h9 (a:α) (δ:Dl) (f:α->Dl->Rs β):(Rs.ok a δ).bind f=f a δ:=id rfl
@[simp] theorem Xf (f:α->Dl->Rs β):(Rs.stuck:Rs α).bind f = .stuck:=id rfl
@[simp] theorem Ek (d:D):(S.pure d).d=d:=id rfl
@[simp] theorem Xg (d:D):(S.own d).d=d:=id rfl
end
section
variable (δ:Dl) (i:Nat) (d e:D) (f g:DE) (fb:BE) (t u:DT) (p:D->D->Option S)
@[simp] theorem El:eD d δ = .ok (.pure d) δ:=id rfl
@[simp] theorem Em:aj f δ=(f δ).bind λr δ'=>.ok r.d δ':=id rfl
@[simp] theorem Pd:aM p f fb δ=(f δ).bind λx δ1=>(fb δ1).bind λy δ2=>p2 p x.d y δ2:=id rfl
@[simp] theorem Xh:kT t u δ=(t δ).bind λb δ1=>if b then u δ1 else .ok false δ1:=id rfl
@[simp] theorem Xi:iy t u δ=(t δ).bind λb δ1=>if b then .ok true δ1 else u δ1:=id rfl
@[simp] theorem Xj:fg t δ=(t δ).bind λb δ1=>.ok (!b) δ1:=id rfl
@[simp] theorem Xk:MI t f g δ=(t δ).bind λb δ1=>if b then f δ1 else g δ1:=id rfl
@[simp] theorem Xl:cV δ = .ok .next δ:=id rfl
@[simp] theorem Xm:bj δ = .ok true δ:=id rfl
@[simp] theorem Xn:nP f δ=(f δ).bind λ_ δ1=>.ok .next δ1:=id rfl
@[simp] theorem Xo:bM f δ=(f δ).bind λr δ1=>.ok (.ret r) δ1:=id rfl
@[simp] theorem Xp (a b:DS):da t a b δ=(t δ).bind λx δ1=>if x then a δ1 else b δ1:=id rfl
@[simp] theorem Pe (it:DI) (gg:DG) (b:DS):cF it gg b δ=(it δ).bind λds δ1=>forL gg b ds δ1:=id rfl
@[simp] theorem Xq (a:DA):d_ a δ=(a δ).bind λds δ'=>.ok (.pure (.tup ds)) δ':=id rfl
@[simp] theorem Xr (a:DA):jA a δ=(a δ).bind λds δ'=>.ok (.own (.lst ds)) δ':=id rfl
@[simp] theorem Xs (ds:List D):fV ds δ = .ok (.own (.lst ds)) δ:=id rfl
@[simp] theorem Xt:cU δ = .ok [] δ:=id rfl
@[simp] theorem Xu (a:DA):bH f a δ=(f δ).bind λx δ1=>(a δ1).bind λxs δ2=>.ok (x.d :: xs) δ2:=id rfl
@[simp] theorem Xv (q:D->Option S):bh q fb δ=(fb δ).bind λx δ1=>p1 q x δ1:=id rfl
@[simp] theorem Xw:tZ f g δ=(f δ).bind λx δ1=>(g δ1).bind λy δ2=>p2 wI x.d y.d δ2:=id rfl
@[simp] theorem Xx (fl fh:ma):qF f fl fh δ=(f δ).bind λx δ1=>(fl δ1).bind λl δ2=>(fh δ2).bind λh δ3=>p1 (gO l h) x.d δ3:=id rfl
@[simp] theorem Xy:gC δ = .ok none δ:=id rfl
@[simp] theorem En (cs:List Nat) (it:DI) (gg:DG) (el:DE):cq cs it gg t el δ=(it δ).bind λds δ1=>if cs.any (bt δ1) then .stuck else
 (cp cs gg t el ds (bC cs δ1) []).bind λacc δ2=>.ok (.own (.lst acc)) (cW cs δ1 δ2):=id rfl
@[simp] theorem Xz (np:List Nat) (r:S):af np i r δ=if np.contains i then none else some (δ.set i (some r)):=id rfl
@[simp] theorem XA (gg:DG) (b:DS):forL gg b [] δ = .ok .next δ:=id rfl
end
section
variable (δ:Dl) (i:Nat) (d e:D) (f g:DE) (fb:BE) (p:D->D->Option S) (s:S)
@[simp] theorem Eo (x y:D):p2 p x y δ=match p x y with | some s=>.ok s δ | none=>.stuck:=id rfl
@[simp] theorem XB (q:D->Option S) (x:D):p1 q x δ=match q x with | some s=>.ok s δ | none=>.stuck:=id rfl
@[simp] theorem XD (a b:DS):ay a b δ=(a δ).bind λfl δ1=>match fl with | .next=>b δ1 | .ret r=>.ok (.ret r) δ1 | .brk=>.ok .brk δ1 | .cont=>.ok .cont δ1:=id rfl
@[simp] theorem XE {α β:Type} (c:Prop) [Decidable c] (x y:Rs α) (k:α->Dl->Rs β):(if c then x else y).bind k=if c then x.bind k else y.bind k:=by split <;> rfl
end
theorem eF:Wd=16777216:=rfl
theorem i_(xs:List α)(i:Nat):cD xs (i:Int)=xs[i]?:=by
 unfold cD dO;by_cases h:i < xs.length
 ·rw[if_pos (by omega),if_pos (by omega)];simp
 ·rw[if_pos (by omega),if_neg (by omega)];simp[WY (Nat.le_of_not_lt h)]
theorem uI(xs:List α):cD xs 2=xs[2]?:=i_ xs 2
theorem pF(xs:List α):cD xs 0=xs[0]?:=i_ xs 0
theorem rJ(xs:List α):cD xs 1=xs[1]?:=i_ xs 1
theorem xA(I:Dl->Prop)(R:D->D->Prop) :
  ∀ (ds:List D) (δ:Dl) (acc:List D),I δ->acc.length + ds.length<=Wd ->
   (∀ d ∈ ds,∀ δ,I δ->∃ δ1 δ2 x δ3,g (.pure d) δ=some δ1/\t δ1 = .ok true δ2/\el δ2 = .ok x δ3/\I (bC cs δ3)/\R d x.d) ->
   ∃ xs δ',cp cs g t el ds δ acc = .ok (acc ++ xs) δ'/\I δ'/\xs.length=ds.length/\∀ (i:Nat) d x,ds[i]? = some d->xs[i]? = some x->R d x
 | [],δ,acc,h,_,_=>⟨[],δ,by simp[cp],h,rfl,λi d x e=>by simp at e⟩
 | d :: r,δ,acc,h,hl,hs=>by
  obtain⟨δ1,δ2,x,δ3,e1,e2,e3,h3,hr⟩:=hs d Wb δ h;have gH:acc.length < Wd:=by simp at hl; omega
  obtain⟨xs,δ',e4,h4,hn,hf⟩:=xA (g:=g) (t:=t) (el:=el) I R r (bC cs δ3) (acc ++ [x.d]) h3 (by simp at hl ⊢; omega) (λd hd=>hs d (W7 _ hd));refine⟨x.d :: xs,δ',?_,h4,by simp[hn],λi d' x' f1 f2=>?_⟩
  ·unfold cp;rw[e1];simp only[e2,h9,if_true,e3,if_pos gH,e4];simp
  ·cases i with
   | zero=>simp at f1 f2; subst f1 f2; exact hr
   | succ i=>exact hf i d' x' (by simpa using f1) (by simpa using f2)
theorem Pf(F:D->D)(δ:Dl) :
  ∀ (ds:List D) (acc:List D),acc.length + ds.length<=Wd ->
   (∀ d ∈ ds,∃ δ1 δ2 x δ3,g (.pure d) δ=some δ1/\t δ1 = .ok true δ2/\el δ2 = .ok x δ3/\bC cs δ3=δ/\x.d=F d) ->
   cp cs g t el ds δ acc = .ok (acc ++ ds.map F) δ:=by
 intro ds acc hl hs;obtain⟨xs,δ',e,h,hn,hf⟩:=xA (cs:=cs) (g:=g) (t:=t) (el:=el) (λδ'=>δ'=δ) (λd x=>x=F d) ds δ acc rfl hl (λd hd δ' h=>by
  subst h;obtain⟨δ1,δ2,x,δ3,a,b,c,d,e⟩:=hs d hd;exact⟨δ1,δ2,x,δ3,a,b,c,d,e⟩)
 subst h;rw[e];congr 2
 apply JL;intro i;by_cases hi:i < ds.length
 ·have:=hf i ds[i] (xs[i]'(by omega)) (by simp[hi]) (by simp[hn,hi]);simp[hn,hi,this]
 ·rw[WY (by omega),WY (by simp; omega)]
theorem kj(I:Nat->Dl->Prop) :
  ∀ (ds:List D) (n:Nat) (δ:Dl),I n δ ->
   (∀ (i:Nat) d δ,ds[i]? = some d->I (n + i) δ->∃ δ1 δ2,g (.pure d) δ=some δ1/\b δ1 = .ok .next δ2/\I (n + i + 1) δ2) ->
   ∃ δ',forL g b ds δ = .ok .next δ'/\I (n + ds.length) δ'
 | [],n,δ,h,_=>⟨δ,rfl,h⟩
 | d :: r,n,δ,h,hs=>by
  obtain⟨δ1,δ2,e1,e2,h2⟩:=hs 0 d δ rfl h;obtain⟨δ',e3,h3⟩:=kj (g:=g) (b:=b) I r (n + 1) δ2 h2 (λi d' δ' e hi=>by
   have:=hs (i + 1) d' δ' (by simpa using e) (by rw[show n + (i + 1)=n + 1 + i by omega]; exact hi);rw[show n + (i + 1) + 1=n + 1 + i + 1 by omega] at this;exact this)
  refine⟨δ',?_,by rw[WB,show n + (r.length + 1)=n + 1 + r.length by omega]; exact h3⟩;unfold forL;rw[e1];simp only[e2,h9,e3]
theorem rK(xs:List Tx):fR (xs.map .str)=some xs:=by
 induction xs with
 | nil=>rfl
 | cons x r ih=>simp[fR,ih]
theorem uJ:∀ ts:List Tx,jE [] ts=ts.flatten
 | []=>rfl
 | [x]=>by simp[jE]
 | x :: y :: r=>by rw[jE,uJ (y :: r)]; simp
theorem Pg(xs:List Nat):iF (xs.map λn=>[n])=xs.length:=by
 unfold iF;induction xs with
 | nil=>rfl
 | cons x r ih=>simp at ih ⊢; omega
theorem Ph(xs:List Nat):(xs.map λn=>[n]).flatten=xs:=by
 induction xs with
 | nil=>rfl
 | cons x r ih=>simp[ih]
theorem Pj(xs:List Nat)(h:xs.length<=16777216):dC [] (.lst (xs.map λn=>.str [n]))=some (.pure (.str xs)):=by
 have e:(xs.map λn=>D.str [n])=(xs.map λn=>[n]).map D.str:=by simp
 unfold dC;simp only[e,rK,Pg,uJ,Ph];rw[if_pos (by simpa using h)]
theorem Pk(r:Tx)(c:Nat)(h:c < r.length)(hl:r.length<=64):aq (.str r) (.int c)=some (.pure (.str [r.getD c 0])):=by
 unfold aq;have:Wd=16777216:=rfl;simp only;rw[if_pos (by omega),i_];simp[h]
abbrev aT(fl:List Tx):D:=.tup (fl.map .str)
def kG(r:S)(δ1:Dl):Rs (List D):=match r with
 | .pure (.int j)=>if pb j then .ok (bT 0 j.toNat) δ1 else .stuck
 | _=>.stuck
@[simp] theorem Pl (f:DE) (δ:Dl):dE f δ=(f δ).bind λr δ1=>kG r δ1:=id rfl
theorem Pm(w:Nat)(hw:w<=1000000):pb (w:Int)=true:=by
 have h1 : -(4611686018427387904:Int)<=(w:Int):=by omega
 have h2:(w:Int) < 4611686018427387904:=by omega
 unfold pb;rw[Ws];exact⟨decide_eq_true h1,decide_eq_true h2⟩
theorem Pn(j:Int)(hs:pb j=true)(δ:Dl):kG (.pure (.int j)) δ = .ok (bT 0 j.toNat) δ:=by unfold kG; simp only[hs,if_true]
theorem km(w:Nat)(hw:w<=1000000)(δ:Dl):kG (.pure (.int w)) δ = .ok (bT 0 w) δ:=by
 have:=Pn (w:Int) (Pm w hw) δ;rwa [Qe] at this
theorem uK(h:(bT 0 n)[i]? = some d):i < n/\d = .int (i:Int):=by
 unfold bT at h;rw[Wv] at h;by_cases hi:i < n
 ·rw[List.getElem?_range hi] at h;simp at h;exact⟨hi,h.symm⟩
 ·rw[WY (by simpa using hi)] at h
  cases h
theorem Ep(h:d ∈ bT 0 n):∃ i:Nat,i < n/\d = .int (i:Int):=by
 obtain⟨i,hi⟩:=QC h;exact⟨i,uK hi⟩
@[simp] theorem Er (lo:Int) (n:Nat):(bT lo n).length=n:=by simp[bT]
def ja(x:Nat):List Nat->List Nat
 | []=>[x]
 | y :: r=>if y < x then y :: ja x r else x :: y :: r
def iK:List Nat->List Nat
 | []=>[]
 | x :: r=>ja x (iK r)
theorem Es(a b:Nat):(([a]:Tx) < [b]) ↔ a < b:=by
 constructor
 ·intro h
  cases h with
  | cons h=>cases h
  | rel h=>exact h
 ·intro h; exact List.Lex.rel h
theorem Et(x:Nat):∀ xs:List Nat,kS [x] (xs.map λn=>[n])=(ja x xs).map λn=>[n]
 | []=>rfl
 | y :: r=>by
  simp only[Wk,kS,ja];by_cases h:y < x
  ·rw[if_pos ((Es y x).mpr h),if_pos h,Et x r]; rfl
  ·rw[if_neg λz=>h ((Es y x).mp z),if_neg h]; rfl
theorem Eu:∀ xs:List Nat,iu (xs.map λn=>[n])=(iK xs).map λn=>[n]
 | []=>rfl
 | x :: r=>by rw[Wk,iu,Eu r,Et]; rfl
theorem xB:∀ {xs:List Nat},y ∈ ja x xs ↔ y=x\/y ∈ xs
 | []=>by simp[ja]
 | z :: r=>by
  unfold ja;split
  ·simp[xB (xs:=r)]; constructor <;> (rintro (h | h | h) <;> simp[h])
  ·simp
theorem xC:∀ {xs:List Nat},y ∈ iK xs ↔ y ∈ xs
 | []=>by simp[iK]
 | x :: r=>by rw[iK,xB,xC (xs:=r)]; simp
theorem Ew(x:Nat):∀ xs:List Nat,(ja x xs).length=xs.length + 1
 | []=>rfl
 | y :: r=>by unfold ja; split <;> simp[Ew x r]
theorem Ex:∀ xs:List Nat,(iK xs).length=xs.length
 | []=>rfl
 | x :: r=>by rw[iK,Ew,Ex r]; rfl
theorem Ey:∀ {xs:List Nat},xs.Pairwise (· < ·)->x ∉ xs->(ja x xs).Pairwise (· < ·)
 | [],_,_=>by simp[ja]
 | y :: r,h,hx=>by
  rw[List.pairwise_cons] at h;simp at hx;unfold ja;split
  ·rename_i hl;rw[List.pairwise_cons];refine⟨λz hz=>?_,Ey h.2 hx.2⟩;rcases xB.mp hz with rfl | hz
   ·exact hl
   ·exact h.1 z hz
  ·rename_i hl;rw[List.pairwise_cons];refine⟨λz hz=>?_,U4.mpr h⟩;rcases Wr.mp hz with rfl | hz
   ·omega
   ·have:=h.1 z hz; omega
theorem Ez:∀ {xs:List Nat},xs.Nodup->(iK xs).Pairwise (· < ·)
 | [],_=>by simp[iK]
 | x :: r,h=>by
  rw[WO] at h;exact Ey (Ez h.2) λz=>h.1 (xC.mp z)
theorem EA{P:Nat->Prop}:∀ {xs:List D},(∀ x ∈ xs,∃ n,P n/\x = .str [n])->∃ row:List Nat,xs=row.map (λn=>.str [n])/\∀ n ∈ row,P n
 | [],_=>⟨[],rfl,by simp⟩
 | x :: r,h=>by
  obtain⟨n,hn,rfl⟩:=h x Wb;obtain⟨row,rfl,hr⟩:=EA (xs:=r) λy hy=>h y (W7 _ hy)
  exact⟨n :: row,rfl,by simpa using ⟨hn,hr⟩⟩
theorem Po{R:D->D->Prop}{ds xs:List D}{Q:D->Prop}(hn:xs.length=ds.length)(hf:∀ (i:Nat) d x,ds[i]? = some d->xs[i]? = some x->R d x)(hq:∀ d x,d ∈ ds->R d x->Q x):∀ x ∈ xs,Q x:=λx hx=>by
 obtain⟨i,hi⟩:=QC hx;have h1:=(W6.mp hi).1;have h2:ds[i]? = some (ds[i]'(by omega)):=by simp[show i < ds.length by omega]
 exact hq _ x (J4 _) (hf i _ x h2 hi)
theorem EB(w:Nat)(hw:w<=100000)(δ:Dl):kG (.pure (.int (1 + (w:Int)))) δ = .ok (bT 0 (1 + w)) δ:=by
 have:=km (1 + w) (by omega) δ;rwa [show(((1 + w:Nat):Int))=1 + (w:Int) by omega] at this
abbrev bY(b:Nat×List Tx):D:=.tup [.str [b.1],aT b.2]
abbrev az(h w:Nat)(bs:List (Nat×List Tx)):D:=.tup [.int h,.int w,.tup (bs.map bY)]
structure bF(h w:Nat)(bs:List (Nat×List Tx)):Prop where
 h0:0 < h
 h1:h<=4
 w0:0 < w
 w1:w<=4
 hw:2 < h + w
 n0:0 < bs.length
 n1:bs.length<=26
 up:(bs.map (·.1)).Pairwise (· < ·)
 XF:∀ b ∈ bs,97<=b.1/\b.1<=122
 bU:∀ b ∈ bs,b.2.length=h/\∀ r ∈ b.2,r.length=w/\∀ n ∈ r,n ∈ bs.map (·.1)
theorem iL(f F:A->D)(δ:Dl):∀ (as:List A) (acc:List D),acc.length + as.length<=Wd ->
  (∀ a ∈ as,∃ δ1 δ2 x δ3,g (.pure (f a)) δ=some δ1/\t δ1 = .ok true δ2/\el δ2 = .ok x δ3/\bC cs δ3=δ/\x.d=F a)->cp cs g t el (as.map f) δ acc = .ok (acc ++ as.map F) δ
 | [],acc,_,_=>by simp[cp]
 | a :: r,acc,hl,hs=>by
  obtain⟨δ1,δ2,x,δ3,e1,e2,e3,e4,e5⟩:=hs a Wb;have gH:acc.length < Wd:=by simp at hl; omega
  have ih:=iL (cs:=cs) (g:=g) (t:=t) (el:=el) f F δ r (acc ++ [x.d]) (by simp at hl ⊢; omega) (λa ha=>hs a (W7 _ ha));rw[Wk];unfold cp;rw[e1];rw[e5] at ih;simp only[e2,h9,if_true,e3,if_pos gH,e4,e5,ih];simp
end DV
set_option maxHeartbeats 400000
namespace L2
open PySem PySem.Spec PyProof.Rows PySem.W DV SU
section
variable {X:Cx}
end
end L2
namespace DV
open PySem PySem.Spec PyProof.Rows L2 SU
section
variable {X:Cx} {c:Fc} {e:Expr} {fb:BE} {pp pos XG XH:Pos}
end
end DV
namespace PySem
theorem Pp:entryFor table "dict_itemiterator.__iter__" = some Builtin.«dict_keyiterator.__iter__» :=
 entryFor_alias (id':="dict_keyiterator.__iter__") (by kernel_rfl) rfl (by decide +kernel) (by kernel_rfl)
theorem Pq(hit:IsItemIter s.heap it d i n ep ok ov)(h:Q (.ref it) s):W8 (model prog w) A (pyIter (.ref it)) Q E s:=by
 have hT:s.TypeIs (.ref it) "dict_itemiterator":=⟨_,hit,rfl⟩
 refine wpAny_pyIter_slot hT F.slot_dict_itemiterator_iter (WN F.slot_dict_itemiterator_iter hT Pp ?_ (F.args_dict_itemiterator_iter_1 _));show W8 _ _ (ret (.ref it)) _ _ s;exact W5 ⟨_,rfl,"dict_itemiterator",_,hT,F.slot_dict_itemiterator_next.lookup,h⟩
end PySem
namespace L2
open PySem PySem.Spec PyProof.Rows
section
variable {X:Cx} {o:Expr} {apos aZ:Pos} {elts:List Expr} {ctx:Nat} {tp:Pos} {td:TE}
end
end L2
namespace DV
open PySem PySem.Spec PyProof.Rows L2
section
variable {X:Cx} {c:Fc} {o:Expr} {i:Nat} {apos aZ:Pos} {elts:List Expr} {ctx:Nat} {tp:Pos}
end
end DV
namespace L2
open PySem PySem.Spec PyProof.Rows
section
variable {X:Cx}
def ED(K:W3):R2:=λx y H Q=>∃ l k xs,x = .ref l/\y = .int k/\bW K H l xs/\xs≠[]/\0<=k/\k<=1000/\xs.length<=1000/\∀ p,H p=none->Q (.ref p) (upd H p (.lst (We k.toNat xs).flatten))
theorem xD:bN X (Qg .Mult) (ED X.K):=by
 intro pins s σ H x y v u Q I rx ry h;obtain⟨l,k,xs,rfl,rfl,hH,cx,h1,h2,hz,q⟩:=h
 cases rx;obtain⟨t,rfl⟩:=ry;obtain⟨ah,r,pl,hl⟩:=I.list hH;obtain⟨⟨cls,dd,data,sl⟩,ho,hc,n,hd⟩:=pl.isList;simp only at hc hd;subst hc hd;have hlen:ah.toArray.size=xs.length:=by rw[Wp]; exact r.length.symm
 have ml:ah.toArray.isEmpty=false:=by
  cases ah with
  | nil=>exact absurd (r.qk.mp rfl) cx
  | cons a b=>rfl
 have fQ:Wd=16777216:=rfl;have XI:xs.length * k.toNat<=1000000:=by
  have:xs.length * k.toNat<=1000 * 1000:=U9 hz (by omega);omega
 have uo:List.foldl (λx1 x2=>x1 ++ x2) #[] (We k.toNat ah.toArray)=(We k.toNat ah).flatten.toArray:=by
  have:=vL ah k.toNat [];rw[Qx] at this;exact this
 refine wpAny_binaryOp_repeat_ref (T:="list") (U:="int") (by decide) ⟨_,ho,rfl⟩ (λs'=>JG s' k t) noFill_list_mul F.fills_int_mul F.slot_int_rmul repeat_list F.slot_int_index.lookup
  (JS F.slot_int_rmul (JG s k t) F.entry_int_rmul (F.args_int_rmul_2 _ _) (lm_int_rmul_list_any k t l ah.toArray n dd sl)
   ⟨ho,rfl,⟨_,ho,rfl⟩,JS F.slot_list_mul ⟨_,ho,rfl⟩ F.entry_list_mul (F.args_list_mul_2 _ _) (lm_list_mul_any l ah.toArray n dd sl k t ?_ ?_ ?_) ⟨ho,?_⟩⟩)
 ·unfold Builtin.List.listFitsIndex;simp;omega
 ·rw[hlen]; omega
 ·rw[hlen];unfold Builtin.List.listTooLong;simp only[fQ,decide_eq_true_eq];omega
 ·rw[if_neg (by rw[ml]; exact WF),uo];have I1:Inv X pins σ (upd H s.heap.objs.size (.lst (We k.toNat xs).flatten)) { s with heap:=s.heap.push { cls:=.type "list",data:=.seq (We k.toNat ah).flatten.toArray } } :=
   I.laid (t':=s.toks) (λb o e=>Wa _ e) (Wh _) (show cj X.prog X.w _ _ _ (.lst (We k.toNat xs).flatten) from⟨by rw[sW,QJ]; omega,(We k.toNat ah).flatten,0,r.rep k.toNat,Wl _ rfl⟩)
  exact⟨.ref _,_,I1,rfl,q _ (I.aB.fresh (Wh _))⟩
end
end L2
namespace DV
open PySem PySem.Spec PyProof.Rows L2
def gr:D->D->Option S
 | .lst xs,.int k=>if 0<=k/\k<=1000/\0 < xs.length/\xs.length<=1000 then some (.own (.lst (We k.toNat xs).flatten)) else none
 | _,_=>none
theorem xE{K:W3}:cT (ED K) gr:=by
 intro c σ δ H x y d e s Q k rx ry hp q
 cases d <;> cases e <;> first | (simp[gr] at hp; done) | skip
 rename_i ds n;simp only[gr] at hp;split at hp
 ·rename_i h
  cases hp;obtain⟨a,vs,ex,ha,r⟩:=rx.lst;refine⟨a,n,vs,ex,ry.int,.inl ha,?_,h.1,h.2.1,by rw[r.1]; exact h.2.2.2,λp qV=>?_⟩
  ·intro z;rw[z] at r;have:=r.1;simp at this;omega
  ·exact q _ _ (.alloc k qV _) (bp.oN k (aG.rep r _) qV)
 ·cases hp
end DV
namespace L2
open PySem PySem.Spec PyProof.Rows
theorem Inv.adopt(I:Inv X pins σ H s)(hf:fG X pins H b)(new:cj X.prog X.w (upd H b o) s.heap b o):Inv X pins σ (upd H b o) s:=by
 obtain⟨hn,f1,f2,f3,f4,f5⟩:=hf;have ne:∀ {c u},H c=some u->c≠b:=λe=>fP e hn
 refine I.step (g':=s.gens) (d':=s.drawn) (t':=s.toks) (h':=s.heap) (ch:=[b]) (λc hc=>?_) (λc u _ _ _ e _=>e) (λc u _ _ _ e _=>⟨u.slots,e⟩) (λc u hc _ e=>?_) (λc u _ e=>⟨u,e⟩) (λc xs e=>by rw[aL (ne e)]; exact e) (λc u xs e=>by rw[aL (ne e)]; exact e)
  (λc ps e=>⟨#[],by rw[aL (ne e),e]; simp⟩) (λm h=>h) (λc u e=>?_) I.bare
 ·have z:c=b:=by simpa using hc
  subst z;exact⟨f3,f1,f4,f5⟩
 ·rw[aL λz=>hc (by simp[z])];exact e
 ·by_cases hb:c=b
  ·subst hb;rw[cZ] at e
   cases e;exact new
  ·rw[aL hb] at e;exact(I.aB c u e).mY (λ_ _ _ q=>q) (λ_ q=>by rw[aL (ne q)]; exact q) (λ_ _ q=>by rw[aL (ne q)]; exact q) λ_ _ _ q=>by rw[aL (ne q)]; exact q
def jL(H:Hp):List Addr->List V->List V->Hp
 | a :: as,x :: xs,y :: ys=>jL (upd H a (.tup [x,y])) as xs ys
 | _,_,_=>H
theorem xF:∀ {as:List Addr} {xs ys:List V} {H:Hp},b ∉ as->jL H as xs ys b=H b
 | [],_,_,_,_=>rfl
 | _ :: _,[],_,_,_=>rfl
 | _ :: _,_ :: _,[],_,_=>rfl
 | a :: as,x :: xs,y :: ys,H,h=>by
  have h1:b≠a:=λz=>h (by simp[z])
  have h2:b ∉ as:=λz=>h (by simp[z])
  unfold jL;rw[xF h2,aL h1]
theorem EE(hf:∀ (H':Hp) b,n<=b->H' b=none->fG X pins H' b):∀ (as:List Addr) (xs ys:List V) (H:Hp),Inv X pins σ H s->as.Nodup->(∀ a ∈ as,n<=a/\H a=none) ->
  (∀ (j:Nat) a,as[j]? = some a->∃ x y u v,xs[j]? = some x/\ys[j]? = some y/\RelV x u/\RelV y v/\IsPair s.heap a u v)->Inv X pins σ (jL H as xs ys) s
 | [],xs,ys,H,I,_,_,_=>I
 | a :: as,xs,ys,H,I,nd,hn,hp=>by
  obtain⟨x,y,u,v,e1,e2,r1,r2,t⟩:=hp 0 a rfl
  cases xs with
  | nil=>simp at e1
  | cons x' xs =>
   cases ys with
   | nil=>simp at e2
   | cons y' ys =>
    simp at e1 e2;subst e1 e2;unfold jL;obtain⟨h1,h2⟩:=hn a Wb;refine EE hf as xs ys _ (I.adopt (hf H a h1 h2) ⟨by simp only[WB,U1]; rw[JJ]; decide,[u,v],.cons r1 (.cons r2 .nil),⟨0,t⟩⟩) (WO.mp nd).2 (λb hb=>?_) λj b e=>hp (j + 1) b (by simpa using e)
    obtain⟨q1,q2⟩:=hn b (W7 _ hb);refine⟨q1,?_⟩;rw[aL λz=>(WO.mp nd).1 (by rw[<- z]; exact hb)];exact q2
section
variable {X:Cx} {a b:Expr} {ta:TA} {pp pos rL rM:Pos}
theorem EF:∀ as:List Addr,Vals (as.map V.ref) (as.map Value.ref)
 | []=>.nil
 | a :: as=>.cons rfl (EF as)
end
end L2
namespace DV
open PySem PySem.Spec PyProof.Rows L2
theorem EG:∀ {as:List Addr} {xs ys:List V} {ds es:List D} {H:Hp},Ok c σ δ H->as.Nodup->(∀ a ∈ as,H a=none)->as.length=xs.length->aG H (Av c σ δ) xs ds->aG H (Av c σ δ) ys es->xs.length=ys.length ->
  a7 c σ δ H σ δ (jL H as xs ys)/\aG (jL H as xs ys) (Av c σ δ) (as.map V.ref) (eE ds es)
 | [],xs,ys,ds,es,H,k,_,_,hl,r1,r2,_=>by
  cases xs with
  | cons x xs=>simp at hl
  | nil =>
   have:ds=[]:=by
    have:=r1.1;simp at this;exact JB.mp this.symm
   subst this;exact⟨.refl k,aG.nil⟩
 | a :: as,xs,ys,ds,es,H,k,nd,hn,hl,r1,r2,fA=>by
  cases xs with
  | nil=>simp at hl
  | cons x xs =>
   cases ys with
   | nil=>simp at fA
   | cons y ys =>
    cases ds with
    | nil=>have:=r1.1; simp at this
    | cons d ds =>
     cases es with
     | nil=>have:=r2.1; simp at this
     | cons e es =>
      unfold jL;have ha:=hn a Wb;have al:a7 c σ δ H σ δ (upd H a (.tup [x,y])):=.alloc k ha _;have t:Rep (upd H a (.tup [x,y])) (Av c σ δ) (.ref a) (.tup [d,e]):=bp.nE k (aG.two r1.head r2.head) ha;have up:∀ b o,H b=some o->¬ Av c σ δ b->upd H a (.tup [x,y]) b=some o:=λb o h _=>by rw[aL (fP h ha)]; exact h
      obtain⟨h1,h2⟩:=EG (as:=as) (xs:=xs) (ys:=ys) (ds:=ds) (es:=es) al.ok (WO.mp nd).2 (λb hb=>by
       rw[aL λz=>(WO.mp nd).1 (by rw[<- z]; exact hb)];exact hn b (W7 _ hb)) (by simpa using hl) (aG.keep r1.tail up) (aG.keep r2.tail up) (by simpa using fA)
      exact⟨al.trans h1,.cons (Rep.cR t h1) h2⟩
section
variable {X:Cx} {c:Fc} {a b:Expr} {f g:DE} {pp pos rL rM:Pos}
end
section
variable {c:Fc} {σ σ':St} {δ δ':Dl} {H H':Hp} {i:Nat} {a p d:Addr} {dd:D}
theorem EH(e:δ[i]? = some (some (.own dd)))(ea:σ[i]? = some (some (.ref a)))(b:Addr)(z:Av (c.dh i a) σ (δ.set i none) b):Av c σ δ b:=by
 rcases z with (z | z) | z
 ·exact .inl z
 ·subst z; exact .inr ⟨i,_,e,ea⟩
 ·exact .inr z.unset
theorem Ok.Pr(k:Ok c σ δ H)(e:δ[i]? = some (some (.own dd)))(ea:σ[i]? = some (some (.ref a))):Ok (c.dh i a) σ (δ.set i none) H:=by
 have sub:=EH (c:=c) e ea;have ne:∀ j d,(δ.set i none)[j]? = some (some d)->i≠j/\δ[j]? = some (some d):=λj d q=>by
  by_cases hj:i=j
  ·subst hj;rw[Wn (W6.mp e).1] at q; cases q
  ·rw[W9 hj] at q; exact⟨hj,q⟩
 refine⟨λb o h n=>k.keep b o h λ⟨j,z⟩=>n ⟨j,W7 _ z⟩,λb z=>?_,λb ⟨j,z⟩=>?_,by rw[Q8]; exact k.len,λj d q=>?_,λj d q=>?_,λj l b d d' q1 q2=>?_,λp hp=>?_⟩
 ·rcases z with z | z
  ·exact k.bd b z
  ·subst z; exact k.l5 ⟨i,_,e,ea⟩
 ·rcases Wr.mp z with z | z
  ·cases z; exact k.l5 ⟨i,_,e,ea⟩
  ·exact k.eT b ⟨j,z⟩
 ·obtain⟨_,q⟩:=ne j _ q;obtain⟨v,g1,g2⟩:=k.slot j d q;exact⟨v,g1,g2.aW λb z=>.inl (sub b z)⟩
 ·obtain⟨hj,q⟩:=ne j _ q;obtain⟨b,g1,g2,g3,g4⟩:=k.own j d q;refine⟨b,g1,g2.aW λb z=>.inl (sub b z),g3.imp (λ⟨l,z⟩=>⟨l,W7 _ z⟩) id,λz=>?_⟩;rcases z with z | z
  ·exact g4 z
  ·subst z; exact hj (k.inj i j b _ _ e q ea g1)
 ·exact k.inj j l b d d' (ne j _ q1).2 (ne l _ q2).2
 ·rcases Wr.mp hp with z | z
  ·subst z; exact ea
  ·exact k.pinned p z
theorem xG{O:Addr->Prop}{u:HO}(hO:O a):∀ b o,H b=some o->¬ O b->upd H a u b=some o:=λb o h n=>by
 rw[aL λz=>n (by rw[z]; exact hO)];exact h
theorem Ok.uL(k:Ok c σ δ H)(hB:c.B a)(h0:c.I a\/c.H₀ a=none):Ok c σ δ (upd H a u):=by
 have kp:∀ b o,H b=some o->¬ Av c σ δ b->upd H a u b=some o:=xG (.inl hB);have th:∀ b o,H b=some o->∃ o',upd H a u b=some o':=λb o h=>by
  by_cases hb:b=a
  ·subst hb; exact⟨u,cZ⟩
  ·exact⟨o,by rw[aL hb]; exact h⟩
 refine⟨λb o h n=>?_,λb z=>(k.bd b z).elim λo h=>th b o h,λb z=>(k.eT b z).elim λo h=>th b o h,k.len,λj d q=>?_,λj d q=>?_,k.inj,k.pinned⟩
 ·have hb:b≠a:=λz=>by
   subst z;rcases h0 with z | z
   ·exact n z
   ·rw[z] at h; cases h
  rw[aL hb];exact k.keep b o h n
 ·obtain⟨v,g1,g2⟩:=k.slot j d q;exact⟨v,g1,g2.keep kp⟩
 ·obtain⟨b,g1,g2,g3,g4⟩:=k.own j d q;have hb:b≠a:=λz=>g4 (by rw[z]; exact hB)
  exact⟨b,g1,g2.keep kp λo h=>by rw[aL hb]; exact h,g3,g4⟩
end
structure Gh(c:Fc)(i:Nat)(p d:Addr)(σ0:St)(δ0:Dl)(H0:Hp)(ws:List (Key×V))(ds:List (bB×D))(t:Tx)(σ:St)(δ:Dl)(H:Hp)(vs:List V)(xs:List D):Prop where
 ok:Ok ((c.plus p).dh i d) σ δ H
 hd:H d=some (.dK (putK ws (.inr (toS t)) (.ref p)))
 hp:H p=some (.lst vs)
 rv:aG H (Av ((c.plus p).dh i d) σ δ) vs xs
 dr:DR H (Av ((c.plus p).dh i d) σ δ) ws ds
 keep:∀ a o,H0 a=some o->¬ Own σ0 δ0 a->H a=some o
 own:∀ a,Own σ δ a->Own σ0 δ0 a\/H0 a=none
 there:∀ a o,H0 a=some o->∃ o',H a=some o'
section
variable {c:Fc} {i:Nat} {p d:Addr} {σ0 σ σ':St} {δ0 δ δ':Dl} {H0 H H':Hp} {ws:List (Key×V)} {ds:List (bB×D)} {t:Tx} {vs gf:List V} {xs jM:List D}
theorem xH(k:Ok c σ δ H)(h:c.B a):¬ Own σ δ a:=λ⟨j,e,f1,f2⟩=>by
 obtain⟨b,g1,_,_,g4⟩:=k.own j e f1;rw[f2] at g1
 cases g1;exact g4 h
theorem Gh.cR(g:Gh c i p d σ0 δ0 H0 ws ds t σ δ H vs xs)(x:a7 ((c.plus p).dh i d) σ δ H σ' δ' H'):Gh c i p d σ0 δ0 H0 ws ds t σ' δ' H' vs xs:=by
 have nd:¬ Own σ δ d:=xH g.ok (.inr rfl);have np:¬ Own σ δ p:=xH g.ok (.inl (.inr rfl));refine⟨x.ok,x.keep _ _ g.hd nd,x.keep _ _ g.hp np,aG.cR g.rv x,g.dr.map λv d h=>Rep.cR h x,λa o e n=>x.keep a o (g.keep a o e n) λz=>?_,λa z=>?_,λa o e=>?_⟩
 ·rcases g.own a z with q | q
  ·exact n q
  ·rw[q] at e; cases e
 ·rcases x.own a z with q | q
  ·exact g.own a q
  ·refine .inr ?_
   cases h:H0 a with
   | none=>rfl
   | some o =>
    obtain⟨o',e⟩:=g.there a o h;rw[q] at e; cases e
 ·obtain⟨o',e'⟩:=g.there a o e;exact x.there a o' e'
theorem Gh.uL(g:Gh c i p d σ0 δ0 H0 ws ds t σ δ H vs xs)(h0:H0 p=none)(h1:c.H₀ p=none)(oh:d≠p)(r:aG H (Av ((c.plus p).dh i d) σ δ) gf jM):Gh c i p d σ0 δ0 H0 ws ds t σ δ (upd H p (.lst gf)) gf jM:=by
 have hB:((c.plus p).dh i d).B p:=.inl (.inr rfl);have kp:∀ b o,H b=some o->¬ Av ((c.plus p).dh i d) σ δ b->upd H p (.lst gf) b=some o:=xG (.inl hB);refine⟨g.ok.uL hB (.inr h1),by rw[aL oh]; exact g.hd,cZ,aG.keep r kp,g.dr.map λv d h=>h.keep kp,λa o e n=>?_,g.own,λa o e=>?_⟩
 ·rw[aL λz=>by rw[z,h0] at e; cases e];exact g.keep a o e n
 ·by_cases ha:a=p
  ·subst ha; exact⟨_,cZ⟩
  ·rw[aL ha]; exact g.there a o e
theorem Gh.done(g:Gh c i p d σ0 δ0 H0 ws ds t σ δ H vs xs)(hI:c.I d\/c.H₀ d=none)(nB:¬ c.B d)(hO:Own σ0 δ0 d)(xI:¬ c.B p)(oh:d≠p) :
  a7 c σ0 δ0 H0 σ (δ.set i (some (.own (.aJ (putD ds (.inr t) (.lst xs)))))) H:=by
 have k':=g.ok;have dj:σ[i]? = some (some (.ref d)):=k'.pinned (i,d) Wb;have gv:i < δ.length:=by rw[k'.len]; exact(W6.mp dj).1
 generalize hD:putD ds (.inr t) (.lst xs)=dz;have ne:∀ j e,(δ.set i (some (.own (.aJ dz))))[j]? = some (some e)->(j=i/\e = .own (.aJ dz))\/(i≠j/\δ[j]? = some (some e)):=λj e q=>by
  by_cases hj:i=j
  ·subst hj;rw[Wn gv] at q
   cases q; exact .inl ⟨rfl,rfl⟩
  ·rw[W9 hj] at q; exact .inr ⟨hj,q⟩
 have own:∀ b,Own σ (δ.set i (some (.own (.aJ dz)))) b->b=d\/Own σ δ b:=λb ⟨j,e,q1,q2⟩=>by
  rcases ne j _ q1 with ⟨z,_⟩ | ⟨_,z⟩
  ·subst z; rw[dj] at q2; cases q2; exact .inl rfl
  ·exact .inr ⟨j,e,z,q2⟩
 have sub:∀ b,Av c σ (δ.set i (some (.own (.aJ dz)))) b->Av ((c.plus p).dh i d) σ δ b:=λb z=>by
  rcases z with z | z
  ·exact .inl (.inl (.inl z))
  ·rcases own b z with z | z
   ·exact .inl (.inr z)
   ·exact .inr z
 have EI:∀ (j:Nat) (e:D) (b:Addr),δ[j]? = some (some (.own e))->σ[j]? = some (some (.ref b))->b≠d:=λj e b q1 q2 z=>by
  obtain⟨b',g1,_,_,g4⟩:=k'.own j e q1;rw[q2] at g1; cases g1
  exact g4 (.inr z)
 have np:¬ Av c σ (δ.set i (some (.own (.aJ dz)))) p:=λz=>by
  rcases z with z | z
  ·exact xI z
  ·rcases own p z with z | z
   ·exact oh z.symm
   ·exact xH k' (.inl (.inr rfl)) z
 have an:∀ {v e},Rep H (Av ((c.plus p).dh i d) σ δ) v e->Rep H (Av c σ (δ.set i (some (.own (.aJ dz))))) v e:=λr=>r.aW λb z=>.inl (sub b z)
 refine⟨⟨λb o h n=>?_,λb z=>k'.bd b (.inl (.inl z)),λb ⟨j,z⟩=>k'.eT b ⟨j,W7 _ z⟩,by rw[Q8]; exact k'.len,λj e q=>?_,λj e q=>?_,λj l b e e' q1 q2 s1 s2=>?_,λp hp=>k'.pinned p (W7 _ hp)⟩,g.keep,λb z=>?_,g.there⟩
 ·refine k'.keep b o h λ⟨j,z⟩=>?_
  rcases Wr.mp z with z | z
  ·cases z;rcases hI with f3 | f3
   ·exact n f3
   ·rw[show c.H₀ d=some o from h] at f3; cases f3
  ·exact n ⟨j,z⟩
 ·rcases ne j _ q with ⟨_,z⟩ | ⟨_,q⟩
  ·cases z
  ·obtain⟨v,g1,g2⟩:=k'.slot j e q;exact⟨v,g1,an g2⟩
 ·rcases ne j _ q with ⟨z,z'⟩ | ⟨hj,q⟩
  ·subst z; cases z'
   have rl:Rep H (Av c σ (δ.set j (some (.own (.aJ dz))))) (.ref p) (.lst xs):=.lst np (.inl g.hp) g.rv.1 λn v e e1 e2=>an (g.rv.2 n v e e1 e2)
   have dr:=(g.dr.map λv e h=>an h).put (k:=.inr t) rl;rw[hD] at dr;exact⟨d,dj,⟨_,g.hd,dr.keys,dr.vals⟩,hI,nB⟩
  ·obtain⟨b,g1,g2,g3,g4⟩:=k'.own j e q;refine⟨b,g1,g2.aW λb z=>.inl (sub b z),g3.imp (λ⟨l,z⟩=>?_) id,λz=>g4 (.inl (.inl z))⟩;rcases Wr.mp z with z | z
   ·cases z; exact absurd (.inr rfl) g4
   ·exact⟨l,z⟩
 ·rcases ne j _ q1 with ⟨z,_⟩ | ⟨hj,z1⟩ <;> rcases ne l _ q2 with ⟨z',_⟩ | ⟨hl,z2⟩
  ·rw[z,z']
  ·subst z; rw[dj] at s1; cases s1; exact absurd rfl (EI l _ _ z2 s2)
  ·subst z'; rw[dj] at s2; cases s2; exact absurd rfl (EI j _ _ z1 s1)
  ·exact k'.inj j l b e e' z1 z2 s1 s2
 ·rcases own b z with z | z
  ·subst z; exact .inl hO
  ·exact g.own b z
end
def k_(j m:Nat)(t:Tx)(g:DG)(b:DS):Tx->List D->Dl->Rs (List D)
 | [],xs,δ=>.ok xs δ
 | ch :: r,xs,δ=>match g (.pure (.str [ch])) δ with
  | none=>.stuck
  | some δ1=>(b δ1).bind λfl δ2=>match fl,δ2[j]?,δ2[m]? with
   | .next,some (some (.pure (.str t'))),some (some (.pure (.int n)))=>if t'=t/\0<=n then match xs[n.toNat]? with
    | some (.int q)=>k_ j m t g b r (xs.set n.toNat (.int (q + 1))) δ2
    | _=>.stuck else .stuck
   | _,_,_=>.stuck
def oi(i j m:Nat)(f1 fi:DE)(g:DG)(b:DS):DS:=λδ=>if n4 δ i then(f1 δ).bind λr δ1=>match r,δ1[i]?,δ1[j]? with
 | .own (.lst xs),some (some (.own (.aJ ds))),some (some (.pure (.str t)))=>if ds.length < Wd then
   (fi (δ1.set i none)).bind λz δ2=>match z with
    | .pure (.str tx)=>(k_ j m t g b tx xs δ2).bind λjM δ3=>.ok .next (δ3.set i (some (.own (.aJ (putD ds (.inr t) (.lst jM))))))
    | _=>.stuck
   else .stuck
 | _,_,_=>.stuck else .stuck
section
variable {X:Cx} {c:Fc}
def Pt(K:W3)(i j m:Nat):TS :=
 qc (jo (iq λi j=>.int (i + j)) (jo (qm K) (jo q0 (cz i) (cz j)) (cz m)) (tC (.int 1))) (AI (jo q0 (cz i) (cz j)) (cz m) Bn)
theorem Pu{i j m:Nat}{o1 o2 o3 x1 x2 x3 y2 y3 e1 iter tg:Expr}{st:Stmt}{rest:List Stmt}{f1 fi:DE}{g:DG}{b fr:DS}{p1 p2 p3 p4 p5 p6 p7 p8 p9 la:Pos}{jj}
  (hu:X.A.units + 64 < WG) (hp:PassesOwn (model X.prog X.w) X.A X.env X.xe) (hc:X.calm=true)
  (Pw:PE X o1 (cz i)) (Px:PE X x1 (cz j)) (he:SE X c e1 f1)
  (kK:PE X o2 (cz i)) (Py:PE X x2 (cz j)) (Pz:PE X y2 (cz m)) (PB:PE X o3 (cz i)) (PD:PE X x3 (cz j)) (PF:PE X y3 (cz m))
  (hi:∀ p d,SE X ((c.plus p).dh i d) iter fi) (hg:∀ p d,SG X ((c.plus p).dh i d) tg g) (hb:∀ p d,SS X ((c.plus p).dh i d) st b) (hr:i4 X c rest fr)
  (n2:oI x2) (n3:oI x3) (m2:oI y2)
  (i9:QX e1 (some (.Subscript o1 x1 p1)) p2.line X.env=pure false:=by rfl)
  (nN:∀ x,QW iter X.env x=pure x:=by intro _; rfl)
  (ha:∀ v,assign (.Subscript (.Subscript o3 x3 p7) y3 p8) X.env v=(do
   let ov <- holding [v] (eval (.Subscript o3 x3 p7) X.env)
   let iv <- holding [v,ov] (eval y3 X.env)
   standAt p8
   holding [v,ov,iv] (setItem ov iv v)
   release [v,ov,iv] []):=by intro _; rfl)
  (vZ:swapsWithSole [.Subscript (.Subscript o3 x3 p7) y3 p8] (.BinOp (.Subscript (.Subscript o2 x2 p3) y2 p4) .Add (.Constant (.int 1) jj p5) p6) p9.line X.env=pure false:=by rfl)
  (PH:swappedStores [.Subscript (.Subscript o3 x3 p7) y3 p8] (.BinOp (.Subscript (.Subscript o2 x2 p3) y2 p4) .Add (.Constant (.int 1) jj p5) p6) X.env=pure none:=by rfl)
  (h1:(Qd [.Subscript (.Subscript o3 x3 p7) y3 p8] X.env).map (·.2)=[assign (.Subscript (.Subscript o3 x3 p7) y3 p8) X.env]:=by rfl) :
  i4 X c (.Assign [.Subscript o1 x1 p1] e1 p2 :: .For tg iter [st,.Assign [.Subscript (.Subscript o3 x3 p7) y3 p8] (.BinOp (.Subscript (.Subscript o2 x2 p3) y2 p4) .Add (.Constant (.int 1) jj p5) p6) p9] [] la :: rest) (ay (oi i j m f1 fi g b) fr):=by
 have PJ:PS X (.Assign [.Subscript (.Subscript o3 x3 p7) y3 p8] (.BinOp (.Subscript (.Subscript o2 x2 p3) y2 p4) .Add (.Constant (.int 1) jj p5) p6) p9) (Pt X.K i j m) :=
  vp (vy AS (ql bx (ql (xj hu) kK Py n2) Pz m2) Ar) (AJ (ql (xj hu) PB PD n3) PF Bo ha) vZ PH h1
 refine eX.weak (sG (BA (by omega) Pw Px he i9) (sG (AM hp hc (Ds (tl:=λσ H Q=>∃ p d,tD ((c.plus p).dh i d) fi σ H Q) λpins s σ H Q I ⟨p,d,q⟩=>hi p d pins s σ H Q I q)
  (g:=λv σ H Q=>∃ p d,t8 ((c.plus p).dh i d) g v σ H Q) (λpins s σ H v u Q I r ⟨p,d,q⟩=>hg p d pins s σ H v u Q I r q)
  (sG (t:=λD σ H=>∃ p d,qG ((c.plus p).dh i d) b D σ H) (λpins s σ H D I ⟨p,d,q⟩=>hb p d pins s σ H D I q) (Au PJ)) nN) hr)) λD σ H ⟨δ,k,q⟩=>?_
 unfold ay oi fD at q;rw[a_] at q;split at q
 case isFalse=>exact q.elim
 rename_i i6;obtain⟨ds0,e0⟩:=DW i6;obtain⟨d,ed,_,hI,nB⟩:=k.own i _ e0;have hO:Own σ δ d:=⟨i,_,e0,ed⟩
 rw[a_] at q;refine⟨δ,k,aO q λr δ1 q1 v H1 a1 r1=>?_⟩;split at q1
 case h_2=>exact q1.elim
 rename_i xs ds t eI eJ;split at q1
 case isFalse=>exact q1.elim
 rename_i hlen;obtain⟨p,ev,⟨vs,nT,rvs⟩,xI,hp0,kp1,hHp⟩:=r1;subst ev;obtain⟨d',ed',⟨ws,hws,hkeys,hvals⟩,hI',nB'⟩:=kp1.own i _ eI;rw[ed] at ed'
 cases ed';obtain⟨vt,et,rt⟩:=a1.ok.slot j _ eJ
 cases rt;have oh:d≠p:=λz=>by
  obtain⟨o,e⟩:=k.l5 hO;rw[z,hHp] at e
  cases e
 have rA:DR H1 (Av (c.plus p) σ δ1) ws ds:=DR.of hkeys hvals;have qp:ws.length < Wd:=by
  have:ws.length=ds.length:=by simpa using congrArg List.length hkeys
  omega
 refine⟨.ref d,ed,.str (toS t),et,d,_,rfl,oJ.k (k:=.inr (toS t)) hws qp,?_⟩;have av:=EH (c:=c.plus p) eI ed;have EJ:((c.plus p).dh i d).B d:=.inr rfl;have PM:∀ b o,H1 b=some o->¬ Av ((c.plus p).dh i d) σ (δ1.set i none) b->upd H1 d (.dK (putK ws (.inr (toS t)) (.ref p))) b=some o:=xG (.inl EJ);have up:∀ {v e},Rep H1 (Av (c.plus p) σ δ1) v e->Rep (upd H1 d (.dK (putK ws (.inr (toS t)) (.ref p)))) (Av ((c.plus p).dh i d) σ (δ1.set i none)) v e:=λr=>(r.aW λb z=>.inl (av b z)).keep PM
 have G0:Gh c i p d σ δ H ws ds t σ (δ1.set i none) (upd H1 d (.dK (putK ws (.inr (toS t)) (.ref p)))) vs xs:=by
  refine⟨(kp1.Pr eI ed).uL EJ (.inl ⟨i,Wb⟩),cZ,by rw[aL oh.symm]; exact nT,⟨rvs.1,λn v e e1 e2=>up (rvs.2 n v e e1 e2)⟩,rA.map λv e h=>up h,λa o e n=>?_,λa z=>?_,λa o e=>?_⟩
  ·rw[aL λz=>n (by rw[z]; exact hO)];exact a1.keep a o e n
  ·exact a1.own a z.unset
  ·obtain⟨o',e'⟩:=a1.there a o e;by_cases ha:a=d
   ·subst ha; exact⟨_,cZ⟩
   ·exact⟨o',by rw[aL ha]; exact e'⟩
 rw[a_] at q1;refine⟨p,d,δ1.set i none,G0.ok,?_⟩;have wj:post ((c.plus p).dh i d) (fi (δ1.set i none)) _:=q1;refine aO wj λz δ2 q2 u H2 a2 r2=>?_
 split at q2
 case h_2=>exact q2.elim
 rename_i tx
 cases r2;have G2:=G0.cR a2;rw[a_] at q2;refine .inr (.inr ⟨toS tx,rfl,?_⟩);have hsz:(toS tx).cps.size=tx.length:=by simp[toS]
 refine⟨λn mm σ2 H2=>∃ δ2 vs2 xs2,mm=tx.length - n/\n<=tx.length/\Gh c i p d σ δ H ws ds t σ2 δ2 H2 vs2 xs2/\post c (k_ j m t g b (tx.drop n) xs2 δ2) (λjM δ3=>post c (Rs.ok (α:=Fl) .next (δ3.set i (some (.own (.aJ (putD ds (.inr t) (.lst jM))))))) λfl δ4=>post c (match fl with | .next=>fr δ4 | fl=>.ok fl δ4) λfl δ'=>∀ σ' H',a7 c σ δ H σ' δ' H'->fin c D σ' δ' H' fl),⟨tx.length,δ2,vs,xs,by simp,QB _,G2,by rw[List.drop_zero]; exact q2⟩,?_⟩;rintro n mm σ2 H2 ⟨δ2,vs2,xs2,rfl,hn,G,q3⟩;by_cases aS:n < tx.length
 ·right
  refine⟨by show n < (toS tx).cps.size; rw[hsz]; exact aS,λσ4 H4=>∃ δ4 vs4 xs4,Gh c i p d σ δ H ws ds t σ4 δ4 H4 vs4 xs4/\post c (k_ j m t g b (tx.drop (n + 1)) xs4 δ4) (λjM δ3=>post c (Rs.ok (α:=Fl) .next (δ3.set i (some (.own (.aJ (putD ds (.inr t) (.lst jM))))))) λfl δ4=>post c (match fl with | .next=>fr δ4 | fl=>.ok fl δ4) λfl δ'=>∀ σ' H',a7 c σ δ H σ' δ' H'->fin c D σ' δ' H' fl),
   λσ4 H4 ⟨δ4,vs4,xs4,G4,q4⟩=>⟨tx.length - (n + 1),by omega,δ4,vs4,xs4,rfl,aS,G4,q4⟩,λx H3 ⟨eH,ch,ec,ex⟩=>?_⟩
  subst eH ex;have PN:tx[n]=ch:=by
   have:(toS tx).cps[n]? = some tx[n]:=by simp[toS,aS]
   rw[this] at ec;exact Wy ec
  rw[Qa aS,PN] at q3;unfold k_ at q3
  cases eg:g (.pure (.str [ch])) δ2 with
  | none=>rw[eg] at q3; exact q3.elim
  | some δ3 =>
   rw[eg] at q3;refine⟨p,d,σ2,δ2,H3,δ2,.pure (.str [ch]),δ3,.refl G.ok,.str [ch],eg,λσ3 a3=>?_⟩;have G3:=G.cR a3;dsimp only at q3;rw[a_] at q3;refine⟨p,d,δ3,G3.ok,?_⟩;have PQ:post ((c.plus p).dh i d) (b δ3) _:=q3;refine aO PQ λfl δ4 q4 σ4 H4 a4=>?_
   have G4:=G3.cR a4;split at q4
   case h_2=>exact q4.elim
   rename_i t' nn eJ4 eM4;split at q4
   case isFalse=>exact q4.elim
   rename_i hcond;obtain⟨rfl,h0⟩:=hcond;split at q4
   case h_2=>exact q4.elim
   rename_i qv eq;have EK:σ4[i]? = some (some (.ref d)):=G4.ok.pinned (i,d) Wb;obtain⟨v1,f1',xy⟩:=G4.ok.slot j _ eJ4
   cases xy;obtain⟨v2,f2',r2'⟩:=G4.ok.slot m _ eM4
   cases r2';obtain⟨v3,ev3,r3'⟩:=G4.rv.get eq
   cases r3';have XJ:nn.toNat < vs2.length:=(W6.mp ev3).1;have EL:dO vs2.length nn=some nn.toNat:=by
    unfold dO;rw[if_pos h0,if_pos (by omega)]
   have ug:cD vs2 nn=some (.int qv):=by
    unfold cD;rw[EL];exact ev3
   have EM:dB (putK ws (Sum.inr (toS t')) (.ref p)) (Sum.inr (toS t'))=some (.ref p):=by rw[Ll,if_pos rfl]
   refine⟨.ref d,EK,.str (toS t'),f1',d,_,.inr (toS t'),.ref p,rfl,G4.hd,rfl,EM,.int nn,f2',.inl ⟨p,vs2,nn,.int qv,rfl,rfl,.inl (.inl G4.hp),ug,qv,1,rfl,rfl,?_⟩⟩;refine⟨.ref d,EK,.str (toS t'),f1',d,_,.inr (toS t'),.ref p,rfl,G4.hd,rfl,EM,.int nn,f2',p,vs2,nn,nn.toNat,rfl,rfl,G4.hp,EL,?_⟩;exact⟨δ4,_,_,G4.uL hHp hp0 oh (G4.rv.set (.int (qv + 1)) nn.toNat),q4⟩
 ·left
  have ng:n=tx.length:=by omega
  subst ng;rw[List.drop_length] at q3;refine⟨hsz.symm,?_⟩;have aF:=G.done hI nB hO xI oh;exact⟨_,aF.ok,aO q3 λfl δ' q5 σ' H' a5=>q5 σ' H' (aF.trans a5)⟩
end
section
variable {X:Cx} {c:Fc} {σ:St} {δ:Dl} {H:Hp} {x y:Nat} {a:Addr} {d:D}
end
end DV
namespace PySem.ZW
open Sem (wp)
theorem EN(l1 l2 n:Addr)(h1:l1 < n)(h2:l2 < n):ZipApart (n + 4) (n + 2) (n + 3) n (n + 1) l1 l2:=by
 have ne:∀ (i j:Nat),i≠j->n + i≠n + j:=λi j h e=>h (Nat.add_left_cancel e)
 have n1:∀ i:Nat,l1≠n + i:=λi=>Wo (Ww h1 (QM n i))
 have n2:∀ i:Nat,l2≠n + i:=λi=>Wo (Ww h2 (QM n i))
 exact⟨ne 2 4 (by decide),ne 3 4 (by decide),ne 0 4 (by decide),ne 1 4 (by decide),ne 2 3 (by decide),ne 2 0 (by decide),ne 2 1 (by decide),ne 3 0 (by decide),ne 3 1 (by decide),ne 0 1 (by decide),n1 4,n1 3,n1 0,n1 1,n2 4,n2 3,n2 0,n2 1⟩
abbrev oj(h:Heap)(z TI TO a:Addr)(f:Bool):Prop :=
 h.get? z=some { cls:=.type "zip",dict:=none,data:=.fields #[JF a,.bool f,.bool false,.ref TI,.ref TO],slots:=#[] }
structure ZS(i1 i2 l1 l2:Addr)(xs ys:Array Value)(k:Nat)(h:Heap):Prop where
 i1:h.IsListIter i1 l1 k
 i2:h.IsListIter i2 l2 k
 l1:h.IsList l1 xs
 l2:h.IsList l2 ys
section
variable {prog:Wm} {w:Wq} {A:Wu} {E:Value->W4->Prop} {s:W4} {z TI TO i1 i2 l1 l2 a:Addr} {f:Bool} {oa:Obj} {k:Nat} {xs ys:Array Value} {x y:Value}
theorem PR(ho:s.heap.get? a=some o)(h:Q (some o) s):W8 (model prog w) A (loadIfAlive a) Q E s:=by
 have h':Q (s.heap.get? a) s:=by rw[ho]; exact h
 exactλ_ _ _=>h'
theorem EO(hz:oj s.heap z TI TO a f)(ha:s.heap.get? a=some oa)
  (h:∀ h',oj h' z TI TO a true->Qy z s.heap h'->Q false { s with heap:=h' }):W8 (model prog w) A (WJ (.ref z)) Q E s:=by
 unfold WJ;refine W0 (WL hz rfl (x:=JF a) rfl ?_);show W8 _ _ (loadIfAlive ((a:Int).toNat) >>= _) _ _ _;rw[Qe];refine W0 (PR ha ?_);simp only[Option.isNone_some,Jd,if_false];refine W0 (WL hz rfl (x:=.bool f) rfl ?_)
 cases f with
 | true =>
  rw[if_neg (show ¬ ((Value.bool true != Value.bool true)=true) from WF)];exact W5 (h s.heap hz (Heap.SameBut.refl _ _))
 | false =>
  rw[if_pos (show(Value.bool false != Value.bool true)=true from rfl)];exact W0 (Q1 hz (by simp) λh₃ PU PX=>W5 (h h₃ PU PX))
theorem ZS.at(g:ZS i1 i2 l1 l2 xs ys k h)(e:∀ b o,b=i1\/b=i2\/b=l1\/b=l2->h.get? b=some o->h'.get? b=some o):ZS i1 i2 l1 l2 xs ys k h' :=
 ⟨g.i1.at λo q=>e _ o (.inl rfl) q,g.i2.at λo q=>e _ o (.inr (.inl rfl)) q,let ⟨o,q,r⟩:=g.l1; ⟨o,e _ o (.inr (.inr (.inl rfl))) q,r⟩,let ⟨o,q,r⟩:=g.l2; ⟨o,e _ o (.inr (.inr (.inr rfl))) q,r⟩⟩
theorem PY(hh:A.handled=none)(D:ZipApart z TI TO i1 i2 l1 l2)(hz:oj s.heap z TI TO a f)(ha:s.heap.get? a=some oa)(hI:IsPair s.heap TI (.ref i1) (.ref i2))(g:ZS i1 i2 l1 l2 xs ys k s.heap)(hx:xs[k]? = some x)(hy:ys[k]? = some y)
  (q:∀ h' tk,oj h' z TI TO a true->ZS i1 i2 l1 l2 xs ys (k + 1) h'->IsPair h' s.heap.objs.size x y ->
   (∀ c o,c≠z->c≠i1->c≠i2->s.heap.get? c=some o->h'.get? c=some o)->Q (some (.ref s.heap.objs.size)) { s with heap:=h',toks:=tk }):W8 (model prog w) A (QD (.ref z)) Q E s:=by
 have ty:s.TypeIs (.ref z) "zip":=⟨_,hz,rfl⟩
 have D1:=Draws.list (prog:=prog) (w:=w) (A:=A.in1) hh i1 l1 D.l1i1 xs;have D2:=Draws.list (prog:=prog) (w:=w) (A:=A.in1) hh i2 l2 D.l2i2 ys;have lx:k < xs.size:=(Array.getElem?_eq_some_iff.mp hx).1;have ly:k < ys.size:=(Array.getElem?_eq_some_iff.mp hy).1;unfold QD;refine W0 (JV (WK (name:=Str.ofString "__next__") ty QU (WN QU ty F.entry_zip_next ?_ (Ue _))));show W8 _ _ (field (.ref z) 2 >>= _) _ _ _; refine W0 (WL hz rfl (x:=.bool false) rfl ?_)
 show W8 _ _ (field (.ref z) 3 >>= _) _ _ _; refine W0 (WL hz rfl (x:=.ref TI) rfl (W0 (Qj hI rfl ?_)))
 show W8 _ _ (WJ (.ref z) >>= _) _ _ _;refine W0 (EO hz ha λh1 gq s1=>?_);simp only[Jd,if_false];refine W0 ?_;simp only[List.forIn_toArray,Jh,JP];have g1:ZS i1 i2 l1 l2 xs ys k h1:=g.at λb o hb e=>s1.extBut _ _ (by
  rcases hb with r | r | r | r
  ·rw[r]; exact D.i1z
  ·rw[r]; exact D.i2z
  ·rw[r]; exact D.l1z
  ·rw[r]; exact D.l2z) e
 refine W0 (W0 (WV ?_)); show W8 _ _ (WM (.ref i1) >>= _) _ _ _
 refine W0 (D1.item k _ _ _ lx ⟨g1.i1,g1.l1⟩ λx' h2 D5 p1 e2 s2=>W5 ?_);refine W5 (W0 (W0 (WV ?_))); show W8 _ _ (WM (.ref i2) >>= _) _ _ _
 have e3:h2.IsListIter i2 l2 k/\h2.IsList l2 ys:=⟨g1.i2.at λo e=>s2.extBut _ _ D.i12.symm e,let ⟨o,q,r⟩:=g1.l2; ⟨o,s2.extBut _ _ D.l2i1 q,r⟩⟩
 refine W0 (D2.item k _ _ _ ly e3 λy' h4 OL p2 e4 s4=>W5 ?_);refine W5 (W5 (W0 (wpAny_newTuple ?_ (by show 2<=Wd; decide))));have ex:x'=x:=by
  have p1:xs[k]? = some x':=p1;rw[hx] at p1; cases p1; rfl
 have ey:y'=y:=by
  have p2:ys[k]? = some y':=p2;rw[hy] at p2; cases p2; rfl
 subst ex ey;have hsz:h4.objs.size=s.heap.objs.size:=by rw[s4.1,s2.1,s1.1]
 have up:∀ {b o},h4.get? b=some o->(h4.push { cls:=.type "tuple",data:=.seq #[x',y'] }).get? b=some o:=λe=>Wa _ e
 refine W5 ⟨_,rfl,W5 ?_⟩;show Q (some (.ref h4.objs.size)) _; rw[hsz]
 refine q _ _ (up (s4.extBut _ _ D.i2z.symm (s2.extBut _ _ D.i1z.symm gq))) ⟨e2.1.at λo e=>up (s4.extBut _ _ D.i12 e),e4.1.at λo e=>up e,let ⟨o,q,r⟩:=e2.2; ⟨o,up (s4.extBut _ _ D.l1i2 q),r⟩,let ⟨o,q,r⟩:=e4.2; ⟨o,up q,r⟩⟩ ?_ λc o c1 c3 c4 e=>up (s4.extBut _ _ c4 (s2.extBut _ _ c3 (s1.extBut _ _ c1 e)))
 rw[<- hsz]; exact Wl _ rfl
theorem PZ(hh:A.handled=none)(D:ZipApart z TI TO i1 i2 l1 l2)(hz:oj s.heap z TI TO a f)(ha:s.heap.get? a=some oa)(hI:IsPair s.heap TI (.ref i1) (.ref i2))(g:ZS i1 i2 l1 l2 xs ys xs.size s.heap)
  (q:∀ h' tk,(∀ c o,c≠z->c≠i1->c≠i2->s.heap.get? c=some o->h'.get? c=some o)->Q none { s with heap:=h',toks:=tk }):W8 (model prog w) A (QD (.ref z)) Q E s:=by
 have ty:s.TypeIs (.ref z) "zip":=⟨_,hz,rfl⟩
 have D1:=Draws.list (prog:=prog) (w:=w) (A:=A.in1) hh i1 l1 D.l1i1 xs;unfold QD;refine W0 (JV (WK (name:=Str.ofString "__next__") ty QU (WN QU ty F.entry_zip_next ?_ (Ue _))));show W8 _ _ (field (.ref z) 2 >>= _) _ _ _; refine W0 (WL hz rfl (x:=.bool false) rfl ?_)
 show W8 _ _ (field (.ref z) 3 >>= _) _ _ _; refine W0 (WL hz rfl (x:=.ref TI) rfl (W0 (Qj hI rfl ?_)))
 show W8 _ _ (WJ (.ref z) >>= _) _ _ _;refine W0 (EO hz ha λh1 gq s1=>?_);simp only[Jd,if_false];refine W0 ?_;simp only[List.forIn_toArray,Jh,JP];refine W0 (W0 (WV ?_)); show W8 _ _ (WM (.ref i1) >>= _) _ _ _
 refine W0 (D1.done _ _ _ ⟨g.i1.at λo e=>s1.extBut _ _ D.i1z e,let ⟨o,q,r⟩:=g.l1; ⟨o,s1.extBut _ _ D.l1z q,r⟩⟩ λh2 e s2 ⟨o,ho,hc⟩=>?_);exact W0 (wpAny_isInstance (T:="StopIteration") (b:=true) ⟨o,ho,hc⟩ isSubtype_stop (W5 (q _ _ λc o c1 c3 _ x=>s2 _ _ c3 (s1.extBut _ _ c1 x))))
end
end PySem.ZW
namespace PySem.ZW
open Sem (wp)
structure ZG(xs ys:Array Value)(lo:Addr)(h:Heap)(as:List Addr):Prop where
 rise:as.Pairwise (· < ·)
 above:∀ a ∈ as,lo < a
 pairs:∀ (j:Nat) a,as[j]? = some a->∃ x y,xs[j]? = some x/\ys[j]? = some y/\IsPair h a x y
theorem ZG.keep(g:ZG xs ys lo h as)(k:∀ a o,lo < a->h.get? a=some o->h'.get? a=some o):ZG xs ys lo h' as :=
 ⟨g.rise,g.above,λj a e=>let ⟨x,y,p1,p2,q⟩:=g.pairs j a e; ⟨x,y,p1,p2,k a _ (g.above a (Wz e)) q⟩⟩
theorem ZG.snoc(g:ZG xs ys lo h as)(hl:∀ a ∈ as,a < n)(hn:lo < n)(p1:xs[as.length]? = some x)(p2:ys[as.length]? = some y)(q:IsPair h n x y):ZG xs ys lo h (as ++ [n]):=by
 refine⟨List.pairwise_append.mpr ⟨g.rise,List.pairwise_singleton _ _,λa ha b hb=>by rw[U3.mp hb]; exact hl a ha⟩,λa ha=>?_,λj a e=>?_⟩
 ·rcases Je.mp ha with ha | ha
  ·exact g.above a ha
  ·rw[U3.mp ha]; exact hn
 ·rcases Nat.lt_trichotomy j as.length with h1 | h1 | h1
  ·rw[Jp h1] at e;exact g.pairs j a e
  ·subst h1;have hb:n=a:=by simpa using e
   subst hb;exact⟨x,y,p1,p2,q⟩
  ·have uM:(as ++ [n])[j]? = none:=WY (by rw[WU,List.length_singleton]; omega);rw[uM] at e; cases e
structure ZL(z TI TO i1 i2 l1 l2 S:Addr)(xs ys:Array Value)(h0:Heap)(h:Heap)(acc:Array Value)(c:Nat)(as:List Addr):Prop where
 keep:∀ b o,b≠S->b≠z->b≠TO->b≠i1->b≠i2->h0.get? b=some o->h.get? b=some o
 lst:h.get? S=some { cls:=.type "list",dict:=none,data:=.seq acc c,slots:=#[] }
 items:acc.toList=as.map Value.ref
 G:ZG xs ys S h as
section
variable {prog:Wm} {w:Wq} {A:Wu} {E:Value->W4->Prop} {s:W4} {z TI TO i1 i2 l1 l2 S:Addr} {xs ys:Array Value} {R:Result->W4->Prop} {res:Value}
theorem P0(hh:A.handled=none)(D:ZipApart z TI TO i1 i2 l1 l2)(hn:xs.size=ys.size)(kh:xs.size<=Wd)(lz:z < S)(P4:TI < S)(uN:TO < S)(my:i1 < S)(mz:i2 < S)(uO:l1 < S)(uP:l2 < S)(h0:Heap)
  (hR:∀ h' tk acc c as,ZL z TI TO i1 i2 l1 l2 S xs ys h0 h' acc c as->as.length=xs.size->R (.ok (.ret res)) { s with heap:=h',toks:=tk }) :
  ∀ (k j:Nat) (h:Heap) (tk c:Nat) (acc:Array Value) (as:List Addr),xs.size - j=k->j<=xs.size->ZS i1 i2 l1 l2 xs ys j h->IsPair h TI (.ref i1) (.ref i2)->((as=[]/\IsZip h z TI TO .none/\∃ a b,IsPair h TO a b)\/∃ a f,oj h z TI TO a f/\a ∈ as) ->
   ZL z TI TO i1 i2 l1 l2 S xs ys h0 h acc c as->as.length=j->Jt (model prog w) A (.builtin "list.extend.loop" ⟨[.ref S,.ref z,res],[]⟩) R { s with heap:=h,toks:=tk }:=by
 have mB:∀ {b x:Addr},x < S->S < b->b≠x:=λh1 h2=>WR (Nat.lt_trans h1 h2)
 intro k;induction k with
 | zero =>
  intro j h tk c acc as hk hj g hI st Z el;have uQ:j=xs.size:=by omega
  subst uQ;refine codeAny_builtin F.entry_extend_loop ?_;rw[Around.under_plainId JY _];show W8 _ A.in1 (QD (.ref z) >>= _) _ _ _;refine W0 ?_;have fin:∀ h' fE,(∀ b o,b≠z->b≠TO->b≠i1->b≠i2->h.get? b=some o->h'.get? b=some o)->R (.ok (.ret res)) { s with heap:=h',toks:=fE }:=λh' fE k2 =>
   hR h' fE acc c as ⟨λb o q1 q2 q3 q4 q5 e=>k2 b o q2 q3 q4 q5 (Z.keep b o q1 q2 q3 q4 q5 e),k2 S _ (WR lz) (WR uN) (WR my) (WR mz) Z.lst,Z.items,Z.G.keep λb o hb e=>k2 b o (mB lz hb) (mB uN hb) (mB my hb) (mB mz hb) e⟩ el
  rcases st with ⟨_,hz,a,b,hO⟩ | ⟨a,f,hz,ha⟩
  ·exact wpAny_pyNext_zip_end hh D hz hI hO g.i1 g.i2 g.l1 g.l2 (.inl (by simp)) λh' k2=>W5 (fin h' tk k2)
  ·obtain⟨m,hm⟩:=QC ha;obtain⟨_,_,_,_,ht⟩:=Z.G.pairs m a hm;exact PZ hh D hz ht hI g λh' fE k2=>W5 (fin h' fE λb o q1 _ q3 q4 e=>k2 b o q1 q3 q4 e)
 | succ k ih =>
  intro j h tk c acc as hk hj g hI st Z el;have uQ:j < xs.size:=by omega
  have hx:xs[j]? = some xs[j]:=by simp[uQ]
  have hy:ys[j]? = some (ys[j]'(by omega)):=by simp[show j < ys.size by omega]
  refine codeAny_builtin F.entry_extend_loop ?_;rw[Around.under_plainId JY _];show W8 _ A.in1 (QD (.ref z) >>= _) _ _ _;refine W0 ?_;have lS:S < h.objs.size:=Wj Z.lst;have xJ:acc.size=j:=by rw[<- el,<- Wx (f:=Value.ref),<- Z.items]; simp
  have next:∀ (h':Heap) (fE:Nat) (f:Bool) (a:Addr),oj h' z TI TO a f->a ∈ as ++ [h.objs.size]->ZS i1 i2 l1 l2 xs ys (j + 1) h'->IsPair h' h.objs.size xs[j] (ys[j]'(by omega)) ->
    (∀ b o,b≠z->b≠TO->b≠i1->b≠i2->h.get? b=some o->h'.get? b=some o) ->
    W8 (model prog w) A.in1 (updateSeq S (·.push (.ref h.objs.size)) >>= λ_=>again (.builtin "list.extend.loop" ⟨[.ref S,.ref z,res],[]⟩)) (λfin s'=>match fin with | .done f=>R (.ok f) s' | .again c'=>c'.quiet=true/\Jt (model prog w) A c' R s') (λe s'=>R (.error e) s') { s with heap:=h',toks:=fE }:=by
   intro h' fE f a hz ha g' hT k2;have rN:=k2 S _ (WR lz) (WR uN) (WR my) (WR mz) Z.lst;refine W0 (wpAny_updateSeq rN rfl ?_ (by rw[xJ]; omega) (by show(acc.push _).size<=Wd + 1; rw[Array.size_push,xJ]; omega));have up:∀ b o,b≠S->h'.get? b=some o->(h'.update S (Obj.mapSeq (·.push (Value.ref h.objs.size)))).get? b=some o:=λb o hb e=>(QI _ _ (Ne.symm hb)).trans e
   refine W5 ⟨plainId_quiet JY _,ih (j + 1) _ fE _ (acc.push (.ref h.objs.size)) (as ++ [h.objs.size]) (by omega) uQ (g'.at λb o hb e=>up b o ?_ e) (up TI _ (Wo P4) (k2 TI _ D.TIz D.TITO D.TIi1 D.TIi2 hI)) (.inr ⟨a,f,up z _ (Wo lz) hz,ha⟩) ⟨?_,Qh _ rN rfl,by simp[Z.items],?_⟩ (by simp[el])⟩
   ·rcases hb with r | r | r | r
    ·rw[r]; exact Wo my
    ·rw[r]; exact Wo mz
    ·rw[r]; exact Wo uO
    ·rw[r]; exact Wo uP
   ·exactλb o q1 q2 q3 q4 q5 e=>up b o q1 (k2 b o q2 q3 q4 q5 (Z.keep b o q1 q2 q3 q4 q5 e))
   ·refine ZG.snoc (Z.G.keep λb o hb e=>up b o (WR hb) (k2 b o (mB lz hb) (mB uN hb) (mB my hb) (mB mz hb) e)) (λb hb=>?_) lS (by rw[el]; exact hx) (by rw[el]; exact hy) (up _ _ (WR lS) hT);obtain⟨m,hm⟩:=QC hb;obtain⟨_,_,_,_,ht⟩:=Z.G.pairs m b hm;exact Wj ht
  rcases st with ⟨_,hz,a,b,hO⟩ | ⟨a,f,hz,ha⟩
  ·refine wpAny_pyNext_zip_item D hz hI hO g.i1 g.i2 g.l1 g.l2 hx hy λh' kh _ g1 g2 hT _ k2=>?_
   refine next h' tk false h.objs.size kh (by simp) ⟨g1,g2,?_,?_⟩ hT k2
   ·obtain⟨o,e,r⟩:=g.l1;exact⟨o,k2 _ o D.l1z D.l1TO D.l1i1 D.l1i2 e,r⟩
   ·obtain⟨o,e,r⟩:=g.l2;exact⟨o,k2 _ o D.l2z D.l2TO D.l2i1 D.l2i2 e,r⟩
  ·obtain⟨m,hm⟩:=QC ha;obtain⟨_,_,_,_,ht⟩:=Z.G.pairs m a hm;exact PY hh D hz ht hI g hx hy λh' fE kh g' hT k2=>next h' fE true a kh (List.mem_append_left _ ha) g' hT λb o q1 _ q3 q4 e=>k2 b o q1 q3 q4 e
end
end PySem.ZW
namespace PySem.ZW
open Sem (wp)
theorem P5:typeLookup (.type "zip") "__len__" = pure none:=by rw[typeLookup_type,JQ]; kernel_rfl
theorem P6:typeLookup (.type "zip") "__length_hint__" = pure none:=by rw[typeLookup_type,JQ]; kernel_rfl
section
variable {prog:Wm} {w:Wq} {A:Wu} {E:Value->W4->Prop} {s:W4} {z TI TO i1 i2 l1 l2:Addr} {xs ys:Array Value}
theorem P7(hh:A.handled=none)(D:ZipApart z TI TO i1 i2 l1 l2)(hn:xs.size=ys.size)(kh:xs.size<=Wd)
  (hz:IsZip s.heap z TI TO .none) (hI:IsPair s.heap TI (.ref i1) (.ref i2)) (hO:∃ a b,IsPair s.heap TO a b) (g:ZS i1 i2 l1 l2 xs ys 0 s.heap)
  (hQ:∀ h' tk acc c as,ZL z TI TO i1 i2 l1 l2 s.heap.objs.size xs ys s.heap h' acc c as->as.length=xs.size->Q (.ref s.heap.objs.size) { s with heap:=h',toks:=tk }) :
  W8 (model prog w) A (call (.type "list") [.ref z]) Q E s:=by
 refine callType_codes (Q₁:=λobj s₁=>obj = .ref s.heap.objs.size/\s₁ = { s with heap:=s.heap.push { cls:=.type "list",data:=.seq #[] } }) F.called_list (F.typeCall_list_1 _) F.entry_list_init
  (code_list_new _ ⟨rfl,rfl⟩) λobj s₁ h₁=>?_
 obtain⟨rfl,rfl⟩:=h₁;have hS:(s.heap.push { cls:=.type "list",data:=.seq #[] }).get? s.heap.objs.size=some { cls:=.type "list",data:=.seq #[] }:=Wl _ rfl;obtain⟨a,b,hO⟩:=hO;have lt:∀ {b o},s.heap.get? b=some o->b < s.heap.objs.size:=λe=>Wj e
 have my:i1 < s.heap.objs.size:=let ⟨_,e,_⟩:=g.i1; lt e
 have mz:i2 < s.heap.objs.size:=let ⟨_,e,_⟩:=g.i2; lt e
 have uO:l1 < s.heap.objs.size:=let ⟨_,e,_⟩:=g.l1; lt e
 have uP:l2 < s.heap.objs.size:=let ⟨_,e,_⟩:=g.l2; lt e
 refine⟨⟨_,hS,rfl⟩,F.args_list_init_2 _ _,?_⟩;generalize ER:s.heap.objs.size=S at *;generalize hh0:s.heap.push { cls:=.type "list",data:=.seq #[] } = h0 at *;have xK:∀ {b o},s.heap.get? b=some o->h0.get? b=some o:=λe=>by rw[<- hh0]; exact Wa _ e
 show W8 _ _ (do let old <- Builtin.List.listItems (.ref S); Builtin.List.listUpdate (.ref S) (λ_=>#[]); letGo old.toList.reverse; Builtin.List.listExtendWith (.ref S) (.ref z) .none) _ _ _;refine W0 ?_;unfold Builtin.List.listItems;refine W0 (Qj hS rfl (W5 ?_));show W8 _ _ (updateSeq S (λ_=>#[]) >>= λ_=>letGo (#[]:Array Value).toList.reverse >>= λ_=>Builtin.List.listExtendWith (.ref S) (.ref z) .none) _ _ _;refine W0 (wpAny_updateSeq hS rfl ?_);have ES:=Qh (Obj.mapSeq (λ_=>(#[]:Array Value))) hS rfl;refine W0 (wpAny_letGo ?_);have up1:∀ {b o},b≠S->s.heap.get? b=some o->(h0.update S (Obj.mapSeq (λ_=>(#[]:Array Value)))).get? b=some o:=λhb e=>(QI _ _ (Ne.symm hb)).trans (xK e)
 generalize h0.update S (Obj.mapSeq (λ_=>(#[]:Array Value)))=h1 at *;have gq:IsZip h1 z TI TO .none:=up1 (Wo (lt hz)) hz;unfold Builtin.List.listExtendWith;have hT:Shared.TypeIs { s with heap:=h1 } (.ref z) "zip":=⟨_,gq,rfl⟩
 refine W0 (JO (T:="zip") hT ?_);have q1:Builtin.List.listSameRef (.ref S) (.ref z)=false:=by simp[Builtin.List.listSameRef,WR (lt hz)]
 have q2:(Value.type "zip" == Value.type "list")=false:=by decide
 have q3:(Value.type "zip" == Value.type "tuple")=false:=by decide
 simp only[q1,q2,q3,Bool.or_false,Jd,if_false];refine W0 (JU gq ?_);refine W0 (WV ?_);unfold Builtin.List.listLengthHint;refine W0 (wpAny_specialOf hT P5 ?_);show W8 _ _ (specialOf (Value.ref z) (Str.ofString "__length_hint__") >>= _) _ _ _;refine W0 (wpAny_specialOf hT P6 (W5 ?_));show W8 _ _ (rule "list.extend.makes-room" >>= λ_=>Builtin.List.listTouch (.ref S) >>= λ_=>again (.builtin "list.extend.loop" ⟨[.ref S,.ref z,.none],[]⟩)) _ _ _;refine W0 (QT (W0 ?_));show W8 _ _ (updateSeq S (·.push .none) >>= λ_=>updateSeq S (·.pop)) _ _ _;refine W0 (wpAny_updateSeq ES rfl ?_);have ET:=Qh (Obj.mapSeq (·.push Value.none)) ES rfl;refine wpAny_updateSeq (hz:=by seq_fits) ET rfl ?_;have P8:=Qh (Obj.mapSeq (·.pop)) ET rfl;have up:∀ b o,b≠S->s.heap.get? b=some o->((h1.update S (Obj.mapSeq (·.push Value.none))).update S (Obj.mapSeq (·.pop))).get? b=some o :=
  λb o hb e=>(QI _ _ (Ne.symm hb)).trans ((QI _ _ (Ne.symm hb)).trans (up1 hb e))
 refine W5 ⟨plainId_quiet JY _,P0 (A:=A.in1) (s:=s) hh D hn kh (lt hz) (lt hI) (lt hO) my mz uO uP s.heap (λh' tk acc c as Z el=>⟨rfl,hQ h' tk acc c as Z el⟩) xs.size 0 _ s.toks _ _ [] (Um _) (QB _) (g.at λb o hb e=>up b o ?_ e)
  (up _ _ (Wo (lt hI)) hI) (.inl ⟨rfl,up _ _ (Wo (lt hz)) hz,a,b,up _ _ (Wo (lt hO)) hO⟩) ⟨λb o q _ _ _ _ e=>up b o q e,P8,rfl,List.Pairwise.nil,(λ_ ha=>nomatch ha),(λj a hj=>by simp at hj)⟩ rfl⟩
 rcases hb with r | r | r | r
 ·rw[r]; exact Wo my
 ·rw[r]; exact Wo mz
 ·rw[r]; exact Wo uO
 ·rw[r]; exact Wo uP
end
end PySem.ZW
namespace L2
open PySem PySem.Spec PyProof.Rows
def EU(K:W3)(a1 a2:Addr):It :=
 ⟨λi H=>∃ xs ys x y,bW K H a1 xs/\bW K H a2 ys/\xs[i]? = some x/\ys[i]? = some y,
  λi H v H'=>∃ p x y,H p=none/\(∀ xs,bW K H a1 xs->xs[i]? = some x)/\(∀ ys,bW K H a2 ys->ys[i]? = some y)/\H'=upd H p (.tup [x,y])/\v = .ref p,
  λi H=>∃ xs ys,bW K H a1 xs/\bW K H a2 ys/\(xs.length<=i\/ys.length<=i)⟩
theorem P9{P:Wm}{w:Wq}{K:W3}{elts:List Expr}{ctx}{pos:Pos}(a1 a2 n:Addr)(h1:a1 < n)(h2:a2 < n) :
  Turn P w K (.Tuple elts ctx pos) (EU K a1 a2) [n + 4,n + 2,n + 3,n,n + 1] (n + 4) (λi h=>IsZip h (n + 4) (n + 2) (n + 3) .none/\IsPair h (n + 2) (.ref n) (.ref (n + 1))/\(∃ a b,IsPair h (n + 3) a b)/\h.IsListIter n a1 i/\h.IsListIter (n + 1) a2 i):=by
 have D:=ZW.EN a1 a2 n h1 h2;have mm:∀ {b:Addr},b ∈ [n + 4,n + 2,n + 3,n,n + 1]->b=n + 4\/b=n + 2\/b=n + 3\/b=n\/b=n + 1:=λh=>by simpa using h
 have rF:∀ {h:Heap} {it a:Addr} {i:Nat},h.IsListIter it a i->∃ o,h.get? it=some o/\∀ v,o.data≠.cell v:=λq=>by
  obtain⟨o,e,c,d⟩:=q;exact⟨o,e,λv z=>by rw[d] at z; cases z⟩
 refine⟨by simp,?_,?_,?_,?_,?_⟩
 ·rintro i h ⟨hz,hI,⟨a,b,hO⟩,q1,q2⟩ c hc;rcases mm hc with e | e | e | e | e <;> subst e
  ·exact⟨_,hz,λv z=>by
    have z':Data.fields _=Data.cell v:=z
    cases z'⟩
  ·exact⟨_,hI,λv z=>by
    have z':Data.seq _ _=Data.cell v:=z
    cases z'⟩
  ·exact⟨_,hO,λv z=>by
    have z':Data.seq _ _=Data.cell v:=z
    cases z'⟩
  ·exact rF q1
  ·exact rF q2
 ·rintro i h h' ⟨hz,hI,⟨a,b,hO⟩,q1,q2⟩ k;exact⟨k _ (by simp) _ hz,k _ (by simp) _ hI,⟨a,b,k _ (by simp) _ hO⟩,q1.at λo e=>k _ (by simp) o e,q2.at λo e=>k _ (by simp) o e⟩
 ·intro X hP hw hK hc i pins s σ H E I hf ⟨hz,hI,⟨a,b,hO⟩,q1,q2⟩ ⟨xs,ys,x,y,c1,c2,hx,hy⟩;subst hP hw hK;obtain⟨is,rv1,p1,_⟩:=I.list c1;obtain⟨js,rv2,p2,_⟩:=I.list c2;obtain⟨u,hu,ru⟩:=rv1.get hx;obtain⟨v,hv,rv⟩:=rv2.get hy;have aS:∀ c ∈ [n + 4,n + 2,n + 3,n,n + 1],c < s.heap.objs.size:=λc hc=>by
   have z:=Wj hz;have le:∀ k:Nat,k<=4->n + k < s.heap.objs.size:=λk hk=>Ja (Nat.add_le_add_left hk n) z
   rcases mm hc with e | e | e | e | e <;> subst e
   ·exact z
   ·exact le 2 (by decide)
   ·exact le 3 (by decide)
   ·exact le 0 (by decide)
   ·exact le 1 (by decide)
  refine wpAny_pyNext_zip_item D hz hI hO q1 q2 p1.isList p2.isList (x:=u) (y:=v) (by simpa using hu) (by simpa using hv) λh' kh xw s1 s2 hT _ k=>⟨_,rfl,wpAny_letOwnedTupleGo_zip kh λh2 n9 sb=>?_⟩
  have nz:s.heap.objs.size≠n + 4:=WR (aS (n + 4) (by simp));have k2:∀ c o,c ∉ [n + 4,n + 2,n + 3,n,n + 1]->s.heap.get? c=some o->h2.get? c=some o:=λc o hc e=>by
   have g1:c≠n + 4:=λz=>hc (by simp[z])
   exact(sb.2 c g1).trans (k c o g1 (λz=>hc (by simp[z])) (λz=>hc (by simp[z])) (λz=>hc (by simp[z])) e)
  have I2:Inv X pins σ (upd H s.heap.objs.size (.tup [x,y])) { s with heap:=h2,toks:=s.toks }:=Inv.xu (t':=s.toks) _ I hf aS ru rv ((sb.2 _ nz).trans hT) k2;refine⟨.ref s.heap.objs.size,_,I2,rfl,⟨s.heap.objs.size,x,y,I.aB.fresh (Wh _),λzs n_=>by rw[I.qb n_ c1]; exact hx,λzs n_=>by rw[I.qb n_ c2]; exact hy,rfl,rfl⟩,⟨n9,(sb.2 _ D.TIz).trans (k _ _ D.TIz D.TITO D.TIi1 D.TIi2 hI),⟨_,_,(sb.2 _ D.TOz).trans xw⟩,s1.at λo e=>(sb.2 _ D.i1z).trans e,s2.at λo e=>(sb.2 _ D.i2z).trans e⟩,λc hc=>?_⟩;rw[aL (Wo (aS c hc))];exact(hf c hc).1
 ·intro X hP hw hK hc i pins s σ H E I hf ⟨hz,hI,⟨a,b,hO⟩,q1,q2⟩ ⟨xs,ys,c1,c2,hl⟩;subst hP hw hK;obtain⟨is,rv1,p1,_⟩:=I.list c1;obtain⟨js,rv2,p2,_⟩:=I.list c2;have r1:=rv1.length;have r2:=rv2.length;refine wpAny_pyNext_zip_end (I.ok.hd hc) D hz hI hO q1 q2 p1.isList p2.isList (by simp; omega) λh' k=>⟨rfl,Inv.q_ (t':=s.toks) [n + 4,n + 2,n + 3,n,n + 1] I (λc o hc e=>?_) hf⟩
  exact k c o (λz=>hc (by simp[z])) (λz=>hc (by simp[z])) (λz=>hc (by simp[z])) (λz=>hc (by simp[z])) e
 ·intro A i s Q E st h;exact JU st.1 h
section
variable {X:Cx} {a b:Expr} {ta:TA} {pp pos rL rM:Pos} {elts:List Expr} {ctx:Nat} {tp:Pos}
theorem EV(r:Vals [V.ref a1,.ref a2] us):us=[.ref a1,.ref a2]:=by
 cases r with
 | cons r rr =>
  cases rr with
  | cons r' rr =>
   cases rr
   cases r
   cases r';rfl
def P_(K:W3)(ta:TA):TI:=λσ H R=>ta σ H λvs H1=>∃ a1 a2,vs=[.ref a1,.ref a2]/\(∃ xs,bW K H1 a1 xs)/\(∃ ys,bW K H1 a2 ys)/\R (EU K a1 a2) H1
theorem XM (hg:Gl X "zip") (hm:X.mg "zip" = none) (ha:PA X [a,b] ta) (hs:Wf [a,b] X.env=(false,eval a X.env) :: Wf [b] X.env:=by rfl) (c9:(Q5 pos (Wf [b] X.env)).any (·.1)=false:=by rfl):PI X (.Tuple elts ctx tp) (.Call (.Name "zip" pp) [a,b] [] pos) (P_ X.K ta):=by
 intro pins s σ H R I h;refine Call_ (j0 I hg hm boot_zip (Q0 (aR (ha pos pins s σ H _ I h) λus s1 ⟨vs,H1,I1,r1,q1⟩=>?_) hs c9));obtain⟨a1,a2,ev,⟨xs,hx⟩,⟨ys,hy⟩,q⟩:=q1;subst ev;obtain rfl:=EV r1;obtain⟨is,rv1,p1,_⟩:=I1.list hx;obtain⟨js,rv2,p2,_⟩:=I1.list hy;have l1:a1 < s1.heap.objs.size:=let ⟨_,e,_⟩:=p1.isList; Wj e
 have l2:a2 < s1.heap.objs.size:=let ⟨_,e,_⟩:=p2.isList; Wj e
 refine call_zip_2 p1.isList p2.isList λh' hz hI hO q1 q2 _ kp=>JU hz ?_
 refine⟨s1.heap.objs.size + 4,_,_,_,H1,rfl,I1.kept (t':=s1.toks) kp,P9 a1 a2 s1.heap.objs.size l1 l2,⟨hz,hI,⟨_,_,hO⟩,q1,q2⟩,λb hb=>?_,q⟩;have hb:b=s1.heap.objs.size + 4\/b=s1.heap.objs.size + 2\/b=s1.heap.objs.size + 3\/b=s1.heap.objs.size\/b=s1.heap.objs.size + 1:=by simpa using hb
 have hle:s1.heap.objs.size<=b:=by rcases hb with z | z | z | z | z <;> subst z <;> first | exact Wh _ | exact QM _ _
 exact I1.g6 hle (I1.aB.fresh hle)
def Q_(K:W3)(ta:TA):TE:=λσ H Q=>ta σ H λvs H1=>∃ a1 a2 xs ys,vs=[.ref a1,.ref a2]/\bW K H1 a1 xs/\bW K H1 a2 ys/\xs.length=ys.length/\xs.length<=Wd /\
 ∀ S as,H1 S=none->(∀ c ∈ as,H1 c=none)->as.Nodup->S ∉ as->as.length=xs.length->Q (.ref S) (upd (jL H1 as xs ys) S (.lst (as.map V.ref)))
theorem Ra (hc:X.calm=true) (xM:Gl X "list") (xN:X.mg "list" = none) (hg:Gl X "zip") (hm:X.mg "zip" = none) (ha:PA X [a,b] ta) (hs:Wf [a,b] X.env=(false,eval a X.env) :: Wf [b] X.env:=by rfl) (c9:(Q5 pos (Wf [b] X.env)).any (·.1)=false:=by rfl)
  (i9:Wf [.Call (.Name "zip" pp) [a,b] [] pos] X.env=(false,eval (.Call (.Name "zip" pp) [a,b] [] pos) X.env) :: Wf [] X.env:=by rfl) :
  PE X (.Call (.Name "list" rL) [.Call (.Name "zip" pp) [a,b] [] pos] [] rM) (Q_ X.K ta):=by
 intro pins s σ H Q I h;refine Call_ (j0 I xM xN PyProof.Rows.boot_list (Q0 ?_ i9 rfl));rw[i9];show W8 _ _ (spliced ((false,eval (.Call (.Name "zip" pp) [a,b] [] pos) X.env) :: [])) _ _ s;refine Calls.spliced_cons ?_;refine Call_ (j0 I hg hm boot_zip (Q0 (aR (ha pos pins s σ H _ I h) λus s1 ⟨vs,H1,I1,r1,q1⟩=>?_) hs c9));obtain⟨a1,a2,xs,ys,ev,hx,hy,hlen,hsz,q⟩:=q1;subst ev;obtain rfl:=EV r1;obtain⟨is,rv1,p1,_⟩:=I1.list hx;obtain⟨js,rv2,p2,_⟩:=I1.list hy;have EW:a1 < s1.heap.objs.size:=let ⟨_,e,_⟩:=p1.isList; Wj e
 have EX:a2 < s1.heap.objs.size:=let ⟨_,e,_⟩:=p2.isList; Wj e
 refine call_zip_2 p1.isList p2.isList λh' hz hI hO q1 q2 _ kp=>Calls.spliced_nil ?_
 generalize hN:s1.heap.objs.size=n at hz hI hO q1 q2 EW EX;have D:=ZW.EN a1 a2 n EW EX;have zl:n + 4 < h'.objs.size:=Wj hz;have z1:is.toArray.size=xs.length:=by rw[Wp]; exact rv1.length.symm
 have z2:js.toArray.size=xs.length:=by rw[Wp,hlen]; exact rv2.length.symm
 refine ZW.P7 (s:={ s1 with heap:=h' }) (I.ok.hd hc) D (by rw[z1,z2]) (by rw[z1]; exact hsz) hz hI ⟨_,_,hO⟩ ⟨q1,q2,let ⟨o,e,r⟩:=p1.isList; ⟨o,kp _ _ e,r⟩,let ⟨o,e,r⟩:=p2.isList; ⟨o,kp _ _ e,r⟩⟩ λh2 tk acc c as Z hl=>?_
 rw[z1] at hl;have vX:∀ c o,s1.heap.get? c=some o->h2.get? c=some o:=λc o e=>by
  have hb:=Wj e;have EY:=Nat.lt_trans (Wj (kp c o e)) (Nat.lt_succ_self _);rw[hN] at hb;have ne:∀ i:Nat,c≠n + i:=λi=>Wo (Ww hb (QM n i))
  exact Z.keep c o (Wo (Wj (kp c o e))) (ne 4) (ne 3) (ne 0) (ne 1) (kp c o e)
 have I3:Inv X pins σ H1 { s1 with heap:=h2,toks:=tk }:=I1.kept (t':=tk) vX;have hf:∀ (H':Hp) c,n<=c->H' c=none->fG X pins H' c:=λH' c hc e=>I1.g6 (by rw[hN]; exact hc) e
 have nS:n<=h'.objs.size:=Ju (Ja (QM n 4) zl);have fr:∀ c,n<=c->H1 c=none:=λc hc=>I1.aB.fresh (by rw[hN]; exact hc)
 have nd:as.Nodup:=Z.G.rise.imp λh=>Wo h
 have uR:h'.objs.size ∉ as:=λz=>Qs _ (Z.G.above _ z)
 have ge:∀ c ∈ as,n<=c:=λc hc=>WA nS (Ju (Z.G.above c hc))
 have I4:=EE hf as xs ys H1 I3 nd (λc hc=>⟨ge c hc,fr c (ge c hc)⟩) λj c e=>by
  obtain⟨u,v,g1,g2,t⟩:=Z.G.pairs j c e;have hj:j < xs.length:=by rw[<- hl]; exact(W6.mp e).1
  have mq:xs[j]? = some xs[j]:=by simp[hj]
  have pD:ys[j]? = some (ys[j]'(by omega)):=by simp[show j < ys.length by omega]
  obtain⟨u',hu,ru⟩:=rv1.get mq;obtain⟨v',hv,rv⟩:=rv2.get pD;rw[QO,hu] at g1;rw[QO,hv] at g2
  cases g1
  cases g2;exact⟨_,_,_,_,mq,pD,ru,rv,t⟩
 have ER:jL H1 as xs ys h'.objs.size=none:=by rw[xF uR]; exact fr _ nS
 have I5:=I4.adopt (b:=h'.objs.size) (o:=.lst (as.map V.ref)) (hf _ _ nS ER) ⟨by rw[Wx,hl]; exact hsz,as.map Value.ref,c,EF as,by rw[<- Z.items,Array.toArray_toList]; exact Z.lst⟩;exact⟨.ref h'.objs.size,_,I5,rfl,q _ as (fr _ nS) (λc hc=>fr c (ge c hc)) nd uR hl⟩
end
end L2
namespace DV
open PySem PySem.Spec PyProof.Rows L2
def jb:D->Option (List D)
 | .lst ds=>some ds
 | _=>none
theorem Rep.ls(r:Rep H O v d)(e:jb d=some ds):∃ a vs,v = .ref a/\Rd H a (.lst vs)/\¬ O a/\aG H O vs ds:=by
 cases d <;> first | (simp[jb] at e; done) | skip
 cases r with
 | lst h1 h2 h3 h4 =>
  simp only[jb,Wc] at e;subst e;exact⟨_,_,rfl,h2,h1,h3,h4⟩
def XN(f g:DE):DI:=λδ=>(f δ).bind λx δ1=>(g δ1).bind λy δ2=>match jb x.d,jb y.d with
 | some xs,some ys=>.ok (eE xs ys) δ2
 | _,_=>.stuck
def pG(f g:DE):DE:=λδ=>(f δ).bind λx δ1=>(g δ1).bind λy δ2=>match jb x.d,jb y.d with
 | some xs,some ys=>if xs.length=ys.length/\xs.length<=1000 then .ok (.own (.lst (eE xs ys))) δ2 else .stuck
 | _,_=>.stuck
section
variable {X:Cx} {c:Fc} {a b:Expr} {f g:DE} {pp pos rL rM:Pos} {elts:List Expr} {ctx:Nat} {tp:Pos}
theorem Rb (hc:X.calm=true) (xM:Gl X "list") (xN:X.mg "list" = none) (hg:Gl X "zip") (hm:X.mg "zip" = none) (ha:SE X c a f) (hb:SE X c b g) (hs:Wf [a,b] X.env=(false,eval a X.env) :: Wf [b] X.env:=by rfl)
  (nN:Wf [b] X.env=(false,eval b X.env) :: Wf [] X.env:=by rfl) (c9:(Q5 pos (Wf [b] X.env)).any (·.1)=false:=by rfl)
  (i9:Wf [.Call (.Name "zip" pp) [a,b] [] pos] X.env=(false,eval (.Call (.Name "zip" pp) [a,b] [] pos) X.env) :: Wf [] X.env:=by rfl) :
  SE X c (.Call (.Name "list" rL) [.Call (.Name "zip" pp) [a,b] [] pos] [] rM) (pG f g) :=
 PE.weak (Ra hc xM xN hg hm (fw ha (fw hb gJ nN) hs) hs c9 i9) λσ H Q ⟨δ,k,q⟩=>by
  unfold pG at q;rw[a_] at q;refine⟨δ,k,aO q λx δ1 q1 v H1 a1 r1=>⟨δ1,a1.ok,?_⟩⟩;rw[a_] at q1;refine aO q1 λy δ2 q2 u H2 a2 r2=>?_
  have hx:Rep H2 (Av c σ δ2) v x.d:=Rep.cR r1.rep a2;have hy:Rep H2 (Av c σ δ2) u y.d:=r2.rep;split at q2
  case h_2=>exact q2.elim
  rename_i xs ys e1 e2;obtain⟨p1,vs,ev,s1,_,w1⟩:=hx.ls e1;obtain⟨p2,us,eu,s2,_,w2⟩:=hy.ls e2;subst ev eu;split at q2
  case isFalse=>exact q2.elim
  rename_i hl;have l1:=w1.1;have l2:=w2.1;refine⟨p1,p2,vs,us,rfl,.inl s1,.inl s2,by omega,by rw[l1,JJ]; omega,λS as hS hn nd uR hlen=>?_⟩;obtain⟨h1,h2⟩:=EG a2.ok nd hn hlen w1 w2 (by omega);have rN:jL H2 as vs us S=none:=by rw[xF uR]; exact hS
  have EZ:=a1.trans a2;exact q2 _ _ (EZ.trans (h1.trans (.alloc h1.ok rN _))) ((bp.oN h1.ok h2 rN).back (EZ.trans h1))
end
section
variable {X:Cx}
theorem Rc (hc:X.calm=true):fH X (.builtin "sum") (λxs H Q=>∃ (a:Addr) (ns:List Int),xs=[.ref a]/\bW X.K H a (ns.map V.int)/\Q (.int ns.sum) H):=by
 intro pins s σ H xs us Q I r h;obtain⟨a,ns,rfl,hq,q⟩:=h;obtain⟨u,rfl,ru⟩:=jq r
 cases ru;obtain⟨ah,r',p,_⟩:=I.list hq;obtain⟨ys,rfl,rfl⟩:=qt r';have hl:=p.isList;have el:(ys.map λp=>Value.int p.1 p.2).toArray=intItems ys.toArray:=by simp[intItems]
 rw[el] at hl;refine sum_intListG (I.ok.hd hc) hl λh' tk t' hk=>?_
 refine⟨.int (ys.map (·.1)).sum,H,I.kept hk,⟨t',by rw[preSum_eq,Qv (by simp)]⟩,q⟩
end
def lb:D->Option S
 | .lst ds=>match kg ds with
  | some ns=>some (.pure (.int ns.sum))
  | _=>none
 | _=>none
section
variable {X:Cx} {c:Fc} {e:Expr} {fb:BE} {pos pp:Pos}
theorem Rf (hc:X.calm=true) (hg:Gl X "sum") (hm:X.mg "sum" = none) (he:SB X c e fb) (hs:Wf [e] X.env=(false,eval e X.env) :: Wf [] X.env:=by rfl):SE X c (.Call (.Name "sum" pp) [e] [] pos) (bh lb fb) :=
 tY (r:=λv H Q=>∃ (a:Addr) (ns:List Int),v = .ref a/\bW X.K H a (ns.map V.int)/\Q (.int ns.sum) H) (Rc hc) (λv H Q ⟨a,bs,e,h⟩=>⟨a,bs,by rw[e],h⟩) (λc σ δ H x d s Q k rx hp q=>by
  cases d with
  | lst ds =>
   simp only[lb] at hp
   cases e:kg ds with
   | none=>rw[e] at hp; cases hp
   | some bs =>
    rw[e] at hp;simp only[Wc] at hp;subst hp;obtain⟨a,vs,ea,ha,ra⟩:=rx.lst;have:=D4 e ra;subst this;exact⟨a,bs,ea,.inl ha,q _ H (.refl k) (.int _)⟩
  | _=>simp[lb] at hp) hg hm PyProof.Rows.boot_sum he (by decide) (by decide) hs
end
def mC(i j:Int):Bool:=decide (JZ i<=67108864) && decide (JZ j<=67108864)
theorem xO:bN X (Qg .Mult) (rI (λi j=>mC i j=true) λi j=>.int (i * j)):=oG λi j _ _ _ _ _ hc q=>by
 have hc:mC i j=true:=hc;unfold mC at hc;simp only[Ws,decide_eq_true_eq] at hc;exact PyProof.Rows.mul_int q (IntMulOk.of_le hc.1 hc.2 (by decide))
def h_:=fB mC λi j=>.int (i * j)
theorem xP:cT (rI (λi j=>mC i j=true) λi j=>V.int (i * j)) h_:=oT (λi j h=>h) λ_ _ _ _=>.int _
theorem E1{n k:Nat}(h:n < 2 ^ k):JZ (n:Int)<=k:=by
 unfold JZ;split
 ·exact QB _
 ·rename_i h0;have hn:n≠0:=by simpa using h0
  have:=(Nat.log2_lt hn).mpr h;have e:(n:Int).natAbs=n:=rfl;rw[e];omega
theorem xQ{a b k:Nat}(ha:a < 2 ^ k)(hb:b < 2 ^ k)(hk:k<=67108864):h_ (.int a) (.int b)=some (.pure (.int ((a * b:Nat):Int))):=by
 show(if mC a b then some (S.pure (.int ((a:Int) * (b:Int)))) else none)=_;have:mC a b=true:=by
  unfold mC;simp only[Ws,decide_eq_true_eq];exact⟨WA (E1 ha) hk,WA (E1 hb) hk⟩
 rw[this,if_pos rfl,Ul]
end DV
namespace L2
open PySem PySem.Spec PyProof.Rows
section
variable {P:Wm} {w:Wq} {K:W3} {mg:Str->Option Value} {base:Heap}
end
section
variable {X:Cx} {pins:List (Addr×Obj)} {σ:St} {H:Hp} {s:W4} {fa:Addr} {qual:Str} {params:Arguments} {body:Expr} {scope:Scope} {cl:List (Str×Addr)} {fr:List Str} {fv:List V} {p:Str} {u:Value} {v:V} {k:Nat} {t:TE} {Q:VK}
end
end L2
namespace DV
open PySem PySem.Spec PyProof.Rows L2
section
variable {c:Fc} {σ:St} {δ:Dl} {H H':Hp}
end
end DV
namespace L2
open PySem PySem.Spec PyProof.Rows
end L2
namespace DV
open PySem PySem.Spec PyProof.Rows L2
section
variable {X:Cx} {c:Fc} {e:Expr} {fb:BE} {pos pp p:Pos}
end
end DV
namespace L2
open PySem PySem.Spec PyProof.Rows
section
variable {X:Cx} {pins:List (Addr×Obj)} {σ:St} {H:Hp} {s:W4} {params:Arguments} {body:Expr} {scope:Scope} {pos:Pos} {cl:List (Str×Addr)} {c P:Addr} {fr:List Str} {fv:List V} {js:List Nat} {Q:Value->W4->Prop} {E:Value->W4->Prop}
end
end L2
namespace DV
open PySem PySem.Spec PyProof.Rows L2
abbrev xR:=List (Addr×Pos×Str)
section
variable {P:Wm} {w:Wq} {K:W3} {mg:Str->Option Value} {base:Heap}
end
section
variable {P:Wm} {w:Wq} {K:W3} {mg:Str->Option Value} {base:Heap}
end
section
variable {X:Cx} {c:Fc} {e:Expr} {es:List Expr} {as:List Ak} {k n:Nat} {x:Str} {G:DF} {pp pos:Pos} {ts:xR}
end
section
variable {X:Cx} {c:Fc} {e:Expr} {fe fb:DE} {params:Arguments} {body:Expr} {scope:Scope} {XO pos pp:Pos} {P code:Addr} {cl:List (Str×Addr)} {fr:List Str} {js:List Nat} {p x:Str} {kl kw m:Nat} {XQ:Addr->(D->Option D)->DS} {W:(D->Option D)->D->Option D} {ts:xR}
end
open PySem (sizeLine)
section
variable {P:Wm} {w:Wq} {K:W3} {mg:Str->Option Value} {base:Heap}
end
section
variable {X:Cx} {c:Fc} {e:Expr} {es:List Expr} {as:List Ak} {k n:Nat} {x:Str} {G:DX} {pp pos:Pos} {ts:xR}
end
end DV
namespace L2
open PySem PySem.Spec PyProof.Rows
section
variable {X:Cx} {pins:List (Addr×Obj)} {σ:St} {H:Hp} {s:W4} {a:Addr} {ae:List (Key×V)} {k:Key} {u:Value} {A:Wu} {E:Value->W4->Prop}
end
section
variable {X:Cx} {o e f:Expr} {apos aZ:Pos} {td ty tx:TE}
end
end L2
namespace DV
open PySem PySem.Spec PyProof.Rows L2
section
variable {X:Cx} {c:Fc} {e:Expr} {fe:DE} {pos:Pos}
end
section
variable {X:Cx}
end
end DV
namespace L2
open PySem PySem.Spec PyProof.Rows PySem.SeqAt
mutual
def iM:NK->Nat
 | .i _=>1
 | .s _=>1
 | .t ks=>jc ks + 1
def jc:List NK->Nat
 | []=>0
 | k :: ks=>iM k + jc ks
end
inductive dI (h:Heap):Nat->NK->Value->Prop
 | int {n:Nat} (z:Int) (t:Tok):dI h n (.i z) (.int z t)
 | bl {n:Nat} (b:Bool):dI h n (.i (if b then 1 else 0)) (.bool b)
 | str {n:Nat} (x:Str) (t:Tok):dI h n (.s x) (.str x t)
 | tup {n:Nat} {a:Addr} {ah:Array Value} {ks:List NK}:h.IsTuple a ah->ks.length=ah.toList.length->(∀ (i:Nat) k v,ks[i]? = some k->ah.toList[i]? = some v->dI h n k v)->dI h (n + 1) (.t ks) (.ref a)
section
variable {h h':Heap} {n:Nat}
theorem Rg{α β:Type}{xs ys:List α}{vs:List β}(h1:xs.length=vs.length)(h2:ys.length=vs.length)(q:∀ (i:Nat) x y v,xs[i]? = some x->ys[i]? = some y->vs[i]? = some v->x=y):xs=ys:=by
 apply List.ext_getElem (by omega);intro i a b;exact q i _ _ vs[i] (Wg a) (Wg b) (Wg (by omega))
theorem dI.inj{x:NK}{v:Value}(r:dI h n x v):∀ {m:Nat} {y:NK},dI h m y v->x=y:=by
 induction r with
 | int z t=>intro m y k; cases k; rfl
 | bl b=>intro m y k; cases k; rfl
 | str x t=>intro m y k; cases k; rfl
 | @tup n a ah ks h1 h2 h3 ih =>
  intro m y k
  cases k with
  | @tup m _ its' ks' k1 k2 k3 =>
   obtain⟨o,e,c,q,d⟩:=h1;obtain⟨o',e',c',q',d'⟩:=k1;rw[e] at e'; cases e'
   rw[d] at d'; cases d'
   rw[Rg h2 k2 λi x y v e1 e2 e3=>ih i x v e1 e3 (k3 i y v e2 e3)]
theorem dI.kept(r:dI h n x v)(k:∀ b ah,h.IsTuple b ah->h'.IsTuple b ah):dI h' n x v:=by
 induction r with
 | int z t=>exact .int z t
 | bl b=>exact .bl b
 | str x t=>exact .str x t
 | tup h1 h2 h3 ih=>exact .tup (k _ _ h1) h2 ih
theorem dI.up(r:dI h n x v):∀ {m:Nat},n<=m->dI h m x v:=by
 induction r with
 | int z t=>intro m _; exact .int z t
 | bl b=>intro m _; exact .bl b
 | str x t=>intro m _; exact .str x t
 | tup h1 h2 h3 ih =>
  intro m l;obtain⟨m,rfl⟩:∃ m',m=m' + 1:=⟨m - 1,by omega⟩
  exact .tup h1 h2 λi k v e1 e2=>ih i k v e1 e2 (by omega)
end
section
variable {prog:Wm} {w:Wq} {E:Value->W4->Prop}
theorem Rh(h:Q (hashInt (if b then 1 else 0)) { s with toks:=s.toks + 1 }):W8 (model prog w) A (PySem.pyHash (.bool b)) Q E s:=by
 have z:reduceHash (if b then 1 else 0)=hashInt (if b then 1 else 0):=by cases b <;> decide +kernel
 refine PySem.W.pyHash_slot (id:="int.__hash__") (T:="bool") (hT:=rfl) (slot:=F.slot_bool_hash) (entry:=entry_int_hash) (args:=args_int_hash _) (hid:=beq_builtin_none _) (hu:=.inl rfl) (body:=?_)
 cases b
 ·exact(show W8 _ _ (mkInt 0 >>= λv=>ret v) _ _ _ from W0 (wpAny_mkInt (W5 ⟨_,_,rfl,z ▸ h⟩)))
 ·exact(show W8 _ _ (mkInt 1 >>= λv=>ret v) _ _ _ from W0 (wpAny_mkInt (W5 ⟨_,_,rfl,z ▸ h⟩)))
theorem E2(w:Wq):∀ ks:List NK,sx w ks=ks.map (f_ w)
 | []=>rfl
 | k :: ks=>by simp only[sx,Wk,E2 w ks]
theorem E3:∀ xs ys:List NK,jc (xs ++ ys)=jc xs + jc ys
 | [],ys=>by simp[jc]
 | x :: xs,ys=>by simp only[JT,jc,E3 xs ys]; omega
theorem dI.pyHash(r:dI h n k v):∀ {A:Wu} {s:W4} {Q:Int->W4->Prop},s.heap=h->A.units + n < WG->Q (f_ w k) { s with toks:=s.toks + iM k }->W8 (model prog w) A (PySem.pyHash v) Q E s:=by
 induction r with
 | int z t=>intro A s Q _ _ q; exact wpAny_pyHash_int q
 | bl b=>intro A s Q _ _ q; exact Rh q
 | str x t=>intro A s Q _ _ q; exact wpAny_pyHash_str q
 | @tup n a ah ks h1 h2 h3 ih =>
  intro A s Q hs hu q;subst hs;obtain⟨o,ho,hc,m,hd⟩:=id h1;have hT:s.TypeIs (.ref a) "tuple":=⟨o,ho,hc⟩
  refine PySem.W.pyHash_slot (T:="tuple") hT F.slot_tuple_hash F.entry_tuple_hash (F.args_tuple_hash_1 _) (beq_builtin_none _) (.inr (by omega)) ?_;show W8 _ _ (Builtin.Tuple.tupleItemsOf (.ref a) >>= _) _ _ s;refine W0 (wpAny_tupleItemsOf ho hd ?_);refine W0 ?_;rw[<- Array.forIn_toList];refine wpAny_forIn_list _ (λrest (b:Array Int) s'=>∃ i,i<=ks.length/\rest=ah.toList.drop i/\b.toList=(ks.take i).map (f_ w)/\s' = { s with toks:=s.toks + jc (ks.take i) })
   _ ?_ ?_ _ _ ⟨0,QB _,rfl,rfl,by simp[jc]⟩
  ·rintro x rest b s' ⟨i,hi,hr,hb,rfl⟩;have aS:i < ah.toList.length:=by
    rcases Nat.lt_or_ge i ah.toList.length with z | z
    ·exact z
    ·rw[List.drop_eq_nil_of_le z] at hr; cases hr
   rw[Qa aS] at hr;injection hr with hx hr
   have mr:i < ks.length:=by omega
   refine W0 (ih i ks[i] x (Wg mr) (by rw[hx]; exact Wg aS) rfl (show A.units + 1 + n < WG by omega) ?_);have ht:ks.take (i + 1)=ks.take i ++ [ks[i]]:=by rw[List.take_succ,Wg mr]; rfl
   have fin:∃ j,j<=ks.length/\rest=ah.toList.drop j/\(b.push (f_ w ks[i])).toList=(ks.take j).map (f_ w)/\({ s with toks:=s.toks + jc (ks.take i) + iM ks[i] }:W4) = { s with toks:=s.toks + jc (ks.take j) }:=by
    refine⟨i + 1,mr,hr,by rw[ht,JI,Array.toList_push,hb]; rfl,?_⟩;rw[ht,E3];simp only[jc];rw[Nat.add_zero,Nat.add_assoc]
   first
    | exact W5 fin
    | exact W0 (W5 (W5 fin))
  ·rintro b s' ⟨i,hi,hr,hb,rfl⟩;have hz:i=ks.length:=by
    have:=congrArg List.length hr;simp at this;simp at h2;omega
   subst hz;rw[List.take_length] at hb ⊢;show W8 _ _ (retInt (Builtin.Tuple.tupleHashOf b.toList)) _ _ _;rw[hb];refine W0 (wpAny_mkInt (W5 ⟨_,_,rfl,?_⟩));simp only[f_,iM,E2] at q;simpa[Nat.add_assoc] using q
theorem dI.quiet(r:dI s.heap n k v):∀ {A:Wu} {m:Nat} {Q:Bool->W4->Prop},n<=m->Q true s->W8 (model prog w) A (eqIsQuiet m v) Q E s:=by
 induction r with
 | int z t=>intro A m Q _ q; rw[eqIsQuiet_byValue _ rfl]; exact W5 q
 | bl b=>intro A m Q _ q; rw[eqIsQuiet_byValue _ rfl]; exact W5 q
 | str x t=>intro A m Q _ q; rw[eqIsQuiet_byValue _ rfl]; exact W5 q
 | @tup n a ah ks h1 h2 h3 ih =>
  intro A m Q hm q;obtain⟨o,ho,hc,mm,hd⟩:=id h1;have hT:s.TypeIs (.ref a) "tuple":=⟨o,ho,hc⟩
  obtain⟨m,rfl⟩:∃ m',m=m' + 1:=⟨m - 1,by omega⟩
  unfold eqIsQuiet;refine W0 (wpAny_specialOf hT F.slot_tuple_eq.lookup ?_);show W8 _ _ (isInstance (.ref a) (.type "tuple") >>= _) _ _ s;refine W0 (wpAny_isInstance hT isSubtype_tuple_tuple ?_);simp only[Bool.not_true,Jd,if_false];refine W0 (Qj ho hd ?_);refine W0 ?_;show W8 _ _ (forIn ah _ _) _ _ s;rw[<- Array.forIn_toList];refine wpAny_forIn_list _ (λrest r s'=>r.1=none/\s'=s/\∃ i,rest=ah.toList.drop i) _ ?_ ?_ _ _ ⟨rfl,rfl,0,rfl⟩
  ·rintro x rest r s' ⟨hr,rfl,i,hi⟩;have aS:i < ah.toList.length:=by
    rcases Nat.lt_or_ge i ah.toList.length with z | z
    ·exact z
    ·rw[List.drop_eq_nil_of_le z] at hi; cases hi
   rw[Qa aS] at hi;injection hi with hx hi
   have mr:i < ks.length:=by omega
   refine W0 (ih i ks[i] x (Wg mr) (by rw[hx]; exact Wg aS) (by omega) ?_);simp only[Bool.not_true,Jd,if_false];exact W5 ⟨rfl,rfl,i + 1,hi⟩
  ·rintro ⟨r1,r2⟩ s' ⟨hr,rfl,_⟩;simp only at hr;subst hr;exact W5 q
theorem mE(a b:Int):decide (NK.i a=NK.i b)=(a == b):=by
 by_cases e:a=b
 ·subst e; simp
 ·rw[decide_eq_false λq=>e (NK.i.inj q)]; exact(beq_eq_false_iff_ne.mpr e).symm
theorem xS(a b:Str):decide (NK.s a=NK.s b)=(a == b):=by
 by_cases e:a=b
 ·subst e; simp
 ·rw[decide_eq_false λq=>e (NK.s.inj q)]; exact(beq_eq_false_iff_ne.mpr e).symm
theorem xT(a b:Bool):(a == b)=(((if a then 1 else 0:Int)) == (if b then 1 else 0:Int)):=by cases a <;> cases b <;> rfl
theorem Ri(he:∀ (j:Nat) x y,xs[j]? = some x->ys[j]? = some y->e j=decide (x=y)):((Qb (min xs.length ys.length)).all e && xs.length == ys.length)=decide (NK.t xs=NK.t ys):=by
 by_cases hl:xs.length=ys.length
 ·rw[<- hl,Nat.min_self];simp only[beq_self_eq_true,Bool.and_true];by_cases hx:xs=ys
  ·subst hx;rw[decide_eq_true rfl,List.all_eq_true];intro j hj;have:=List.mem_range.mp hj;rw[he j xs[j] xs[j] (Wg this) (Wg this)];simp
  ·rw[decide_eq_false λq=>hx (NK.t.inj q)];rw[List.all_eq_false];apply Classical.byContradiction;intro hn;apply hx;apply List.ext_getElem hl;intro j a b;apply Classical.byContradiction;intro cx;refine hn ⟨j,List.mem_range.mpr a,?_⟩;rw[he j _ _ (Wg a) (Wg b)];simpa using cx
 ·rw[decide_eq_false λq=>hl (by rw[NK.t.inj q])];simp[hl]
theorem dI.Rj(r:dI s.heap n x u):∀ {A:Wu} {m:Nat} {y:NK} {v:Value},dI s.heap m y v->A.units + n < WG->EqAt A s u v (decide (x=y)):=by
 induction r with
 | int z t =>
  intro A m y v k hu
  cases k with
  | int z' t'=>rw[mE]; exact EqAt.int_int _ _ _ _
  | bl b=>rw[mE]; exact EqAt.int_bool _ _ _
  | str x t'=>rw[decide_eq_false (λq=>nomatch q)]; exact EqAt.int_str _ _ _ _
  | tup k1 k2 k3=>rw[decide_eq_false (λq=>nomatch q)]; exact EqAt.int_tuple _ _ k1 (by omega)
 | bl b =>
  intro A m y v k hu
  cases k with
  | int z' t'=>rw[mE]; exact EqAt.bool_int _ _ _
  | bl b=>rw[mE,<- xT]; exact EqAt.bool_bool _ _
  | str x t'=>rw[decide_eq_false (λq=>nomatch q)]; exact EqAt.bool_str _ _ _
  | tup k1 k2 k3=>rw[decide_eq_false (λq=>nomatch q)]; exact EqAt.bool_tuple _ k1 (by omega)
 | str x t =>
  intro A m y v k hu
  cases k with
  | int z' t'=>rw[decide_eq_false (λq=>nomatch q)]; exact EqAt.str_int _ _ _ _
  | bl b=>rw[decide_eq_false (λq=>nomatch q)]; exact EqAt.str_bool _ _ _
  | str x t'=>rw[xS]; exact EqAt.str_str _ _ _ _
  | tup k1 k2 k3=>rw[decide_eq_false (λq=>nomatch q)]; exact EqAt.str_tuple _ _ k1 (by omega)
 | @tup n a ah ks h1 h2 h3 ih =>
  intro A m y v k hu
  cases k with
  | int z' t'=>rw[decide_eq_false (λq=>nomatch q)]; exact EqAt.tuple_int _ _ h1 (by omega)
  | bl b=>rw[decide_eq_false (λq=>nomatch q)]; exact EqAt.tuple_bool _ h1 (by omega)
  | str x t'=>rw[decide_eq_false (λq=>nomatch q)]; exact EqAt.tuple_str _ _ h1 (by omega)
  | @tup m' b its' ks' k1 k2 k3 =>
   by_cases oP:a=b
   ·subst oP;have e:NK.t ks=NK.t ks':=dI.inj (dI.tup h1 h2 h3) (dI.tup k1 k2 k3);rw[decide_eq_true e];exact EqAt.same _
   ·refine EqAt.of_refs oP ?_;let e:Nat->Bool:=λj=>match ks[j]?,ks'[j]? with
     | some x,some y=>decide (x=y)
     | _,_=>false
    have z1:ah.size=ks.length:=by simpa using h2.symm
    have z2:its'.size=ks'.length:=by simpa using k2.symm
    have q:=RcAt.tuples (A:=A) (s:=s) (e:=e) h1 k1 (by omega) λj j1 j2=>by
     have l1:j < ks.length:=by omega
     have l2:j < ks'.length:=by omega
     have ee:e j=decide (ks[j]=ks'[j]):=by simp only[e,Wg l1,Wg l2]
     rw[ee];exact ih j ks[j] ah[j] (Wg l1) (by simp[j1]) (k3 j ks'[j] its'[j] (Wg l2) (by simp[j2])) (show A.units + 1 + n < WG by omega)
    rw[z1,z2,Ri λj x y e1 e2=>by simp only[e,e1,e2]] at q;exact q
end
theorem Rk{es ep}(ho:h.get? d=some o)(hd:o.data = .dict es ep)(hs:Qy d h h'):∀ b ah,h.IsTuple b ah->h'.IsTuple b ah:=λb ah ⟨o',e,c,n,q⟩=>by
 have cx:b≠d:=by
  rintro rfl;rw[e] at ho; cases ho
  rw[hd] at q; exact nomatch q
 exact⟨o',(hs.2 b cx).trans e,c,n,q⟩
noncomputable def nkKind (prog:Wm) (w:Wq):HeapKind prog w NK where
 is:=λh k a=>dI h 6 k (.ref a)
 hash:=f_ w
 draws:=iM
 room:=λA=>A.units + 6 < WG
 inj:=λhx hy=>hx.inj hy
 keeps:=λx ho hd hs=>x.kept (Rk ho hd hs)
 pyHash:=λhu hk h=>hk.pyHash rfl hu h
 eqBool:=λhu hx hy h=>hx.Rj hy hu _ _ _ _ h
 quiet:=λhk h=>hk.quiet (by omega) h
def kN:Key->NK
 | .inl z=>.i z
 | .inr x=>.s x
theorem Rl(h:kN p=kN q):p=q:=by
 cases p <;> cases q <;> first | (cases h; rfl) | cases h
def kn(h:Heap)(m:Bool)(k:NK)(u:Value):Prop:=match m with
 | true=>∃ a,u = .ref a/\dI h 6 k u
 | false=>∃ q:Key,ij q u=true/\k=kN q
theorem Rm(h1:ij p u=true)(h2:ij q u=true):p=q:=by
 rcases ji h1 with ⟨i,t,rfl,rfl⟩ | ⟨x,t,rfl,rfl⟩ <;> rcases ji h2 with ⟨j,t',rfl,e⟩ | ⟨y,t',rfl,e⟩ <;> cases e <;> rfl
def ent(w:Wq)(x:NK×Value×Value):DictEntry:=⟨f_ w x.1,x.2.1,x.2.2⟩
section
variable {prog:Wm} {w:Wq} {A:Wu} {E:Value->W4->Prop} {s:W4}
theorem E4(hu:A.units + 6 < WG)(hk:kn s.heap m k u)(h:Q (f_ w k) { s with toks:=s.toks + iM k }):W8 (model prog w) A (PySem.pyHash u) Q E s:=by
 cases m with
 | true=>obtain⟨a,rfl,r⟩:=hk; exact r.pyHash rfl hu h
 | false =>
  obtain⟨q,h1,rfl⟩:=hk;refine(eN prog w).pyHash (k:=q) h1 ?_
  cases q <;> exact h
theorem E5:∀ {xs:List (NK×Value×Value)},(∀ x ∈ xs,kn h true x.1 x.2.1)->∃ ys:List (NK×Addr×Value),xs=ys.map λy=>(y.1,Value.ref y.2.1,y.2.2)
 | [],_=>⟨[],rfl⟩
 | x :: xs,q=>by
  obtain⟨ys,e⟩:=E5 (xs:=xs) λy hy=>q y (W7 _ hy)
  obtain⟨a,e1,_⟩:=q x Wb;exact⟨(x.1,a,x.2.2) :: ys,by rw[Wk,<- e]; simp only[<- e1]⟩
theorem E6{m:Bool}{k:NK}{u:Value}{d:Addr}{o:Obj}{es ep}{xs:List (NK×Value×Value)}{Q:Option Nat->W4->Prop}(hu:A.units + 6 < WG)(hk:kn s.heap m k u)
  (ho:s.heap.get? d=some o) (hd:o.data = .dict es ep) (he:es.toList=xs.map (ent w)) (hx:∀ x ∈ xs,kn s.heap m x.1 x.2.1) (hn:(xs.map (·.1)).Nodup)
  (uM:(∀ (j:Nat) p,xs[j]?≠some (k,p))->Q none s) (E7:∀ (j:Nat) p,xs[j]? = some (k,p)->Q (some j) s):W8 (model prog w) A (dictFind d u (f_ w k)) Q E s:=by
 cases m with
 | true =>
  obtain⟨a,rfl,r⟩:=hk;obtain⟨ys,rfl⟩:=E5 hx;refine wpAny_dictFind_heap (knd:=nkKind prog w) (xs:=ys) hu r ho hd (by rw[he,WS]; rfl) (λy hy=>?_) (by rw[WS] at hn; exact hn) (λgM=>uM λj p e=>?_) λj p e=>?_
  ·obtain⟨b,e1,e2⟩:=hx _ (Qw hy)
   cases e1;exact e2
  ·rw[Wv] at e
   cases q:ys[j]? with
   | none=>rw[q] at e; cases e
   | some y =>
    rw[q] at e;simp only[WC,Wc] at e;exact gM j y.2 (by rw[q,<- show y.1=k from congrArg Prod.fst e])
  ·exact E7 j (.ref p.1,p.2) (by rw[Wv,e]; rfl)
 | false =>
  obtain⟨q,h1,rfl⟩:=hk;have ml:∀ (j:Nat) e,es[j]? = some e->∃ x,xs[j]? = some x/\e=ent w x:=λj e z=>by
   rw[<- JR,he,Wv] at z
   cases y:xs[j]? with
   | none=>rw[y] at z; cases z
   | some x=>rw[y] at z; simp only[WC,Wc] at z; exact⟨x,rfl,z.symm⟩
  have ks:KeysOf (eN prog w) es:=λe wX=>by
   obtain⟨j,hj⟩:=List.mem_iff_getElem?.mp (Array.mem_toList_iff.mpr wX);obtain⟨x,e1,rfl⟩:=ml j e (by rw[<- JR]; exact hj);obtain⟨q',e2,e3⟩:=hx x (Wz e1);refine⟨q',e2,?_⟩;show f_ w x.1=_;rw[e3]
   cases q' <;> rfl
  have hh:f_ w (kN q)=(eN prog w).hash q:=by cases q <;> rfl
  rw[hh];refine wpAny_dictFind_of (knd:=eN prog w) (k:=q) h1 ho hd ks ?_
  cases hf:es.findIdx? λe=>(eN prog w).is q e.key with
  | none =>
   refine uM λj p e=>?_
   have hj:j < xs.length:=(W6.mp e).1;have hz:es.size=xs.length:=by rw[<- QG,he,Wx]
   obtain⟨x,e1,e2⟩:=ml j es[j] (by simp[hz,hj]);rw[e] at e1; cases e1
   have:=Array.findIdx?_eq_none_iff.mp hf es[j] (Array.getElem_mem _);obtain⟨q',e3,e4⟩:=hx _ (Wz e);rw[Rl e4] at this;rw[e2] at this;have z:ij q' p.1=false:=this;rw[show ij q' p.1=true from e3] at z
   cases z
  | some j =>
   obtain⟨aS,hp,_⟩:=Array.findIdx?_eq_some_iff_getElem.mp hf;obtain⟨x,e1,e2⟩:=ml j es[j] (by simp[aS]);obtain⟨q',e3,e4⟩:=hx x (Wz e1);rw[e2] at hp;have:q=q':=Rm (show ij q x.2.1=true from hp) e3;subst this;exact E7 j x.2 (by rw[e1,<- e4])
noncomputable def atN (xs:List (NK×Value×Value)) (k:NK):Option (Value×Value):=(xs.find? λx=>decide (x.1=k)).map (·.2)
noncomputable def stN (xs:List (NK×Value×Value)) (k:NK) (u v:Value):List (NK×Value×Value):=if (xs.any λx=>decide (x.1=k))=true then xs.map λx=>if x.1=k then(x.1,x.2.1,v) else x else xs ++ [(k,u,v)]
theorem E8(h:∀ (j:Nat) p,xs[j]?≠some (k,p)):atN xs k=none/\(xs.any λx=>decide (x.1=k))=false:=by
 have z:∀ x ∈ xs,decide (x.1=k)=false:=λx hx=>by
  obtain⟨j,hj⟩:=List.mem_iff_getElem?.mp hx;exact decide_eq_false λe=>h j x.2 (by rw[hj,<- e])
 refine⟨?_,by rw[Jl]; exactλx hx=>by rw[z x hx]; simp⟩;unfold atN;rw[List.find?_eq_none.mpr λx hx=>by rw[z x hx]; simp];rfl
theorem xU:∀ {xs:List (NK×Value×Value)} {k:NK} {j:Nat} {p:Value×Value},(xs.map (·.1)).Nodup->xs[j]? = some (k,p)->atN xs k=some p/\(xs.any λx=>decide (x.1=k))=true
 | [],k,j,p,_,e=>by simp at e
 | x :: xs,k,j,p,hn,e=>by
  rw[Wk,WO] at hn
  cases j with
  | zero=>simp at e; subst e; simp[atN]
  | succ j =>
   have e':xs[j]? = some (k,p):=by simpa using e
   have cx:¬ x.1=k:=λz=>hn.1 (by rw[z]; exact WX.mpr ⟨_,Wz e',rfl⟩)
   obtain⟨h1,h2⟩:=xU hn.2 e';refine⟨?_,by rw[Qf,h2]; simp⟩;unfold atN at h1 ⊢;rw[Q4,decide_eq_false cx];exact h1
theorem Rn{m:Bool}{k:NK}{u:Value}{d:Addr}{o:Obj}{es ep}{xs:List (NK×Value×Value)}{Q:Option Value->W4->Prop}(hu:A.units + 6 < WG)(hk:kn s.heap m k u)
  (ho:s.heap.get? d=some o) (hd:o.data = .dict es ep) (he:es.toList=xs.map (ent w)) (hx:∀ x ∈ xs,kn s.heap m x.1 x.2.1) (hn:(xs.map (·.1)).Nodup)
  (h:Q ((atN xs k).map (·.2)) { s with toks:=s.toks + iM k }):W8 (model prog w) A (dictGet d u) Q E s:=by
 unfold dictGet;try with_reducible refine WV ?_
 refine W0 (E4 hu hk (W0 (E6 (s:={ s with toks:=s.toks + iM k }) hu hk ho hd he hx hn ?_ ?_)))
 ·intro gM;rw[(E8 gM).1] at h;exact W5 h
 ·intro j p hj;rw[(xU hn hj).1] at h;refine W0 (Uf (s:={ s with toks:=s.toks + iM k }) ho hd ?_);rw[<- JR,he,Wv,hj];exact W5 h
theorem Ro(hn:(xs.map (·.1)).Nodup):((stN xs k u v).map (·.1)).Nodup:=by
 unfold stN;split
 ·rw[WS];rw[show((λx:NK×Value×Value=>x.1) ∘ λx=>if x.1=k then(x.1,x.2.1,v) else x)=(·.1) from funext λx=>by simp only[Function.comp]; split <;> rfl];exact hn
 ·rename_i hh;rw[JI,List.nodup_append];refine⟨hn,by simp,λx hx y hy e=>?_⟩;simp only[Wk,List.map_nil,List.mem_singleton] at hy;subst hy e;obtain⟨z,hz,e⟩:=WX.mp hx;exact hh (List.any_eq_true.mpr ⟨z,hz,decide_eq_true e⟩)
theorem E9:∀ {xs:List (NK×Value×Value)} {j:Nat} {p:Value×Value},(xs.map (·.1)).Nodup->xs[j]? = some (k,p) ->
  (xs.map (ent w)).modify j (λe=>{ e with val:=v })=(xs.map λx=>if x.1=k then(x.1,x.2.1,v) else x).map (ent w)
 | [],j,p,_,e=>by simp at e
 | x :: xs,j,p,hn,e=>by
  rw[Wk,WO] at hn
  cases j with
  | zero =>
   simp at e;subst e;have z:(xs.map λx=>if x.1=k then(x.1,x.2.1,v) else x)=xs:=by
    conv=>rhs; rw[<- List.map_id xs]
    refine WZ λy hy=>?_
    rw[if_neg λq=>hn.1 (WX.mpr ⟨y,hy,q⟩)];rfl
   rw[Wk,Wk,Wk,z,if_pos rfl];rfl
  | succ j =>
   have e':xs[j]? = some (k,p):=by simpa using e
   have cx:¬ x.1=k:=λz=>hn.1 (by rw[z]; exact WX.mpr ⟨_,Wz e',rfl⟩)
   rw[Wk,Wk,Wk,if_neg cx];show ent w x :: (xs.map (ent w)).modify j _=_;rw[E9 hn.2 e']
theorem Rp{m:Bool}{k:NK}{u v:Value}{d:Addr}{o:Obj}{es ep}{xs:List (NK×Value×Value)}{Q:Unit->W4->Prop}(hu:A.units + 6 < WG)(hk:kn s.heap m k u)
  (ho:s.heap.get? d=some o) (hc:o.ExactDict) (hd:o.data = .dict es ep) (he:es.toList=xs.map (ent w)) (hx:∀ x ∈ xs,kn s.heap m x.1 x.2.1) (hn:(xs.map (·.1)).Nodup) (hz:xs.length<=Wd)
  (hQ:∀ h' o' m_ gZ,h'.get? d=some o'->o'.ExactDict->o'.data = .dict m_ gZ->m_.toList=(stN xs k u v).map (ent w)->Qy d s.heap h'->Q () { s with heap:=h',toks:=s.toks + iM k }) :
  W8 (model prog w) A (dictSet d u v) Q E s:=by
 have hsz:es.size=xs.length:=by rw[<- QG,he,Wx]
 unfold dictSet;try with_reducible refine WV ?_
 refine W0 (E4 hu hk ?_);unfold dictSetHashed;try with_reducible refine WV ?_
 refine W0 (E6 (s:={ s with toks:=s.toks + iM k }) hu hk ho hd he hx hn ?_ ?_)
 ·intro gM;refine W0 (QT (wpAny_updateDictKeys (hz:=by omega) (s:={ s with toks:=s.toks + iM k }) ho hd
   (hQ _ _ _ (ep + 1) (Qh _ ho (Obj.isFreed_of_dict (Obj.data_mapDictKeys hd _))) (hc.mapDictKeys _) (Obj.data_mapDictKeys hd _) ?_ (Jz ..))))
  unfold stN;rw[if_neg (by rw[(E8 gM).2]; simp)];simp[he,ent]
 ·intro j p hj;refine W0 (QT (W0 (wpAny_updateDict (s:={ s with toks:=s.toks + iM k }) ho hd
   (wpAny_point (hQ _ _ _ ep (Qh _ ho (Obj.isFreed_of_dict (Obj.data_mapDict hd _))) (hc.mapDict _) (Obj.data_mapDict hd _) ?_ (Jz ..))))))
  unfold stN;rw[if_pos (xU hn hj).2,<- E9 hn hj,<- he];obtain⟨l⟩:=es;simp
end
inductive lg (H:Hp):Nat->NK->V->Prop
 | int {n:Nat} (z:Int):lg H n (.i z) (.int z)
 | bl {n:Nat} (b:Bool):lg H n (.i (if b then 1 else 0)) (.bl b)
 | str {n:Nat} (x:Str):lg H n (.s x) (.str x)
 | tup {n:Nat} {a:Addr} {vs:List V} {ks:List NK}:H a=some (.tup vs)->ks.length=vs.length->(∀ (i:Nat) k v,ks[i]? = some k->vs[i]? = some v->lg H n k v)->lg H (n + 1) (.t ks) (.ref a)
def lh(H:Hp)(m:Bool)(k:NK)(v:V):Prop:=match m with
 | true=>(∃ a,v = .ref a)/\lg H 6 k v
 | false=>∃ q:Key,k=kN q/\v=kV q
theorem Vals.Rq{xs:List V}{us:List Value}(r:Vals xs us){i:Nat}{u:Value}(e:us[i]? = some u):∃ x,xs[i]? = some x/\RelV x u:=by
 have h1:=r.length;have h2:i < xs.length:=by have:=(W6.mp e).1; omega
 obtain⟨u',e',rr⟩:=r.get (Wg h2);rw[e] at e'; cases e'
 exact⟨_,Wg h2,rr⟩
theorem lg.nk{P:Wm}{w:Wq}{H:Hp}{h:Heap}{n:Nat}{k:NK}{v:V}(ok:cG P w H h)(r:lg H n k v):∀ {u:Value},RelV v u->dI h n k u:=by
 induction r with
 | int z=>intro u q; obtain⟨t,rfl⟩:=q; exact .int z t
 | bl b=>intro u q; cases q; exact .bl b
 | str x=>intro u q; obtain⟨t,rfl⟩:=q; exact .str x t
 | @tup n a vs ks h1 h2 h3 ih =>
  intro u q
  cases q;obtain⟨_,ah,r,p⟩:=(show cj P w H h a (.tup vs) from ok a _ h1)
  have ht:h.IsTuple a ah.toArray:=p.tup;refine .tup ht (by rw[h2]; simpa using r.length) λi k u e1 e2=>?_
  obtain⟨x,e3,rx⟩:=r.Rq (u:=u) (i:=i) (by simpa using e2);exact ih i k x e1 e3 rx
theorem lh.key(ok:cG P w H h)(r:lh H m k v)(q:RelV v u):kn h m k u:=by
 cases m with
 | true=>obtain⟨⟨a,rfl⟩,r⟩:=r; cases q; exact⟨a,rfl,r.nk ok rfl⟩
 | false=>obtain⟨q',rfl,rfl⟩:=r; exact⟨q',by rw[<- HP P w]; exact kQ q,rfl⟩
abbrev NE:=NK×V×V
def dJ:List NE->List (NK×Value×Value)->Prop:=Paired λ(p:NE) (x:NK×Value×Value)=>p.1=x.1/\RelV p.2.1 x.2.1/\RelV p.2.2 x.2.2
theorem E_:∀ {ae:List NE} {es:List DictEntry},Paired (λ(p:NE) (e:DictEntry)=>e.hash=f_ w p.1/\RelV p.2.1 e.key/\RelV p.2.2 e.val) ae es->∃ xs,dJ ae xs/\es=xs.map (ent w)
 | _,_,.nil=>⟨[],.nil,rfl⟩
 | p :: _,e :: _,.cons r t=>by
  obtain⟨xs,h1,h2⟩:=E_ t;refine⟨(p.1,e.key,e.val) :: xs,.cons ⟨rfl,r.2.1,r.2.2⟩ h1,?_⟩;rw[Wk,<- h2];unfold ent;rw[<- r.1]
theorem Fb:∀ {ae:List NE} {xs:List (NK×Value×Value)},dJ ae xs->Paired (λ(p:NE) (e:DictEntry)=>e.hash=f_ w p.1/\RelV p.2.1 e.key/\RelV p.2.2 e.val) ae (xs.map (ent w))
 | _,_,.nil=>.nil
 | p :: _,x :: _,.cons r t=>.cons ⟨by show f_ w x.1=_; rw[r.1],r.2.1,r.2.2⟩ (Fb t)
theorem dJ.keys:∀ {ae:List NE} {xs:List (NK×Value×Value)},dJ ae xs->ae.map (·.1)=xs.map (·.1)
 | _,_,.nil=>rfl
 | p :: _,x :: _,.cons r t=>by rw[Wk,Wk,r.1,dJ.keys t]
noncomputable def valN (ae:List NE) (k:NK):Option V:=(ae.find? λp=>decide (p.1=k)).map (·.2.2)
noncomputable def putN (ae:List NE) (k:NK) (y v:V):List NE:=if (ae.any λp=>decide (p.1=k))=true then ae.map λp=>if p.1=k then(p.1,p.2.1,v) else p else ae ++ [(k,y,v)]
theorem dJ.val(k:NK):∀ {ae:List NE} {xs:List (NK×Value×Value)},dJ ae xs->eO (valN ae k) ((atN xs k).map (·.2))/\(ae.any λp=>decide (p.1=k))=xs.any λx=>decide (x.1=k)
 | _,_,.nil=>⟨trivial,rfl⟩
 | p :: ae,x :: xs,.cons r t=>by
  obtain⟨i1,i2⟩:=dJ.val k t;rw[Qf,Qf,i2,r.1];refine⟨?_,rfl⟩;unfold valN atN at i1 ⊢;rw[Q4,Q4,r.1];by_cases e:x.1=k
  ·rw[decide_eq_true e]; exact r.2.2
  ·rw[decide_eq_false e]; exact i1
theorem dJ.st(rv:RelV v r):∀ {ae:List NE} {xs:List (NK×Value×Value)},dJ ae xs->dJ (ae.map λp=>if p.1=k then(p.1,p.2.1,v) else p) (xs.map λx=>if x.1=k then(x.1,x.2.1,r) else x)
 | _,_,.nil=>.nil
 | p :: _,x :: _,.cons q t=>by
  rw[Wk,Wk];refine .cons ?_ (dJ.st rv t);rw[q.1];by_cases e:x.1=k
  ·rw[if_pos e,if_pos e]; exact⟨rfl,q.2.1,rv⟩
  ·rw[if_neg e,if_neg e]; exact q
theorem dJ.app(ry:RelV y u)(rv:RelV v r):∀ {ae:List NE} {xs:List (NK×Value×Value)},dJ ae xs->dJ (ae ++ [(k,y,v)]) (xs ++ [(k,u,r)])
 | _,_,.nil=>.cons ⟨rfl,ry,rv⟩ .nil
 | p :: _,x :: _,.cons q t=>.cons q (dJ.app ry rv t)
theorem dJ.put(ry:RelV y u)(rv:RelV v r)(h:dJ ae xs):dJ (putN ae k y v) (stN xs k u r):=by
 unfold putN stN;rw[(dJ.val k h).2];split
 ·exact h.st rv
 ·exact h.app ry rv
section
variable {P:Wm} {w:Wq} {H:Hp} {h:Heap} {a:Addr} {ep:Nat} {ae:List NE}
structure om(w:Wq)(h:Heap)(a:Addr)(ep:Nat)(xs:List (NK×Value×Value))(o:Obj)(es:Array DictEntry):Prop where
 get:h.get? a=some o
 ex:o.ExactDict
 data:o.data = .dict es ep
 ents:es.toList=xs.map (ent w)
 uS:(xs.map (·.1)).Nodup
theorem oo(ok:cG P w H h)(e:H a=some (.dN ep ae)):ae.length<=Wd/\(a == Qm)=false/\∃ xs o es,dJ ae xs/\om w h a ep xs o es:=by
 obtain⟨z,hS,o,es,h1,h2,h3,h4,h5⟩:=(show cj P w H h a (.dN ep ae) from ok a _ e)
 obtain⟨xs,q1,q2⟩:=E_ h4;exact⟨z,hS,xs,o,es,q1,h1,h2,h3,q2,by rw[<- q1.keys]; exact h5⟩
theorem Rr(z:ae.length<=Wd)(hS:(a == Qm)=false)(r:dJ ae xs)(d:om w h a ep xs o es):cj P w H h a (.dN ep ae) :=
 ⟨z,hS,o,es,d.get,d.ex,d.data,by rw[d.ents]; exact Fb r,by rw[r.keys]; exact d.uS⟩
theorem om.typeIs {s:W4} {xs:List (NK×Value×Value)} {o:Obj} {es:Array DictEntry} (d:om w s.heap a ep xs o es):s.TypeIs (.ref a) "dict":=⟨o,d.get,d.ex.1⟩
theorem om.noDict(d:om w h a ep xs o es):∀ b,Value.ref a = .ref b->∃ ob,h.get? b=some ob/\ob.dict=none:=λb e=>by cases e; exact⟨o,d.get,d.ex.2.1⟩
theorem Fd(ok:cG P w H h)(r:dJ ae xs)(hk:∀ p ∈ ae,lh H m p.1 p.2.1):∀ x ∈ xs,kn h m x.1 x.2.1:=by
 induction r with
 | nil=>intro x hx; simp at hx
 | cons q t ih =>
  intro x hx;rcases Wr.mp hx with rfl | hx
  ·rw[<- q.1]; exact(hk _ Wb).key ok q.2.1
  ·exact ih (λp hp=>hk p (W7 _ hp)) x hx
end
def lj(H:Hp)(a:Addr)(y:V)(r:Option V):Prop:=∃ m ep ae k,H a=some (.dN ep ae)/\(∀ p ∈ ae,lh H m p.1 p.2.1)/\lh H m k y/\r=valN ae k
section
variable {X:Cx} {pins:List (Addr×Obj)} {σ:St} {H:Hp} {s:W4} {a:Addr} {y v:V} {u r:Value} {o:Option V} {A:Wu} {E:Value->W4->Prop}
theorem xV(hu:A.units + 6 < WG)(I:Inv X pins σ H s)(g:lj H a y o)(ry:RelV y u)(h:∀ w' s',Inv X pins σ H s'->eO o w'->Q w' s') :
  W8 (model X.prog X.w) A (dictGet a u) Q E s:=by
 obtain⟨m,ep,ae,k,e,hk,ky,rfl⟩:=g;obtain⟨z,hS,xs,ob,es,rx,d⟩:=oo I.aB e;exact Rn hu (ky.key I.aB ry) d.get d.data d.ents (Fd I.aB rx hk) d.uS (h _ _ (I.tok _) (rx.val k).1)
theorem xW (I:Inv X pins σ H s) (g:lj H a y o):s.TypeIs (.ref a) "dict"/\(∀ b,Value.ref a = .ref b->∃ ob,s.heap.get? b=some ob/\ob.dict=none)/\(a == Qm)=false:=by
 obtain⟨m,ep,ae,k,e,hk,ky,rfl⟩:=g;obtain⟨z,hS,xs,ob,es,rx,d⟩:=oo I.aB e;exact⟨d.typeIs,d.noDict,hS⟩
theorem XR(hu:A.units + 8 < WG)(I:Inv X pins σ H s)(g:lj H a y (some v))(ry:RelV y u)(h:∀ w' s',Inv X pins σ H s'->RelV v w'->Q w' s') :
  W8 (model X.prog X.w) A (U8 (.ref a) u) Q E s:=by
 obtain⟨hT,_,_⟩:=xW I g;unfold U8;try with_reducible refine WV ?_
 refine W0 (Ua hT (by decide) ?_);refine W0 (WK (name:=Str.ofString "__getitem__") hT slot_dict_getitem (WN slot_dict_getitem hT entry_dict_getitem ?_ (args_dict_getitem _ _)));show W8 _ _ (dictGet a u >>= _) _ _ s;refine W0 (xV (show A.units + 1 + 6 < WG by omega) I g ry λw' s' I' rr=>?_);obtain⟨w2,rfl,r2⟩:=eO.some_of rr;exact W5 ⟨w2,rfl,W5 (h w2 s' I' r2)⟩
theorem Rt(hu:A.units + 8 < WG)(I:Inv X pins σ H s)(g:lj H a y o)(ry:RelV y u)(h:∀ s',Inv X pins σ H s'->Q o.isSome s') :
  W8 (model X.prog X.w) A (contains (.ref a) u) Q E s:=by
 obtain⟨hT,_,hS⟩:=xW I g;unfold contains;try with_reducible refine WV ?_
 refine W0 (wpAny_specialOf hT slot_dict_contains.lookup ?_);show W8 _ _ (if (some (Value.builtin "dict.__contains__") == some Value.none)=true then _ else _) _ E s;rw[if_neg (by rw[beq_builtin_none]; exact WF)];refine W0 (wpAny_callSpecialUnlessNone?_slot (name:=Str.ofString "__contains__") hT slot_dict_contains (WN slot_dict_contains hT entry_dict_contains ?_ (args_dict_contains _ _)));show W8 _ _ (dictGet a u >>= _) _ _ s;refine W0 (xV (show A.units + 1 + 6 < WG by omega) I g ry λw' s' I' rr=>?_)
 cases o with
 | some x =>
  obtain⟨w2,rfl,r2⟩:=eO.some_of rr;show W8 _ _ (ret (.bool true)) _ _ _;exact W5 ⟨_,rfl,Qc (h s' I')⟩
 | none =>
  obtain rfl:=eO.none_of rr;show W8 _ _ (Builtin.Dict.pendingKey? a u >>= _) _ _ _;exact W0 (wpAny_pendingKey_other hS (W5 ⟨_,rfl,Qc (h s' I')⟩))
theorem Rv(hu:A.units + 8 < WG)(I:Inv X pins σ H s)(g:lj H a y o)(ry:RelV y u)(h:∀ s',Inv X pins σ H s'->Q (.bool o.isSome) s') :
  W8 (model X.prog X.w) A (WT .In u (.ref a)) Q E s:=by
 show W8 _ _ (do return .bool (<- contains (.ref a) u)) Q E s;exact W0 (Rt hu I g ry λs' I'=>W5 (h s' I'))
theorem Rw(hu:A.units + 8 < WG)(I:Inv X pins σ H s)(g:lj H a y o)(ry:RelV y u)(rd:RelV d r)(h:∀ w' s',Inv X pins σ H s'->RelV (o.getD d) w'->Q w' s') :
  W8 (model X.prog X.w) A (call (.builtin "dict.get") [.ref a,u,r]) Q E s:=by
 obtain⟨hT,_,hS⟩:=xW I g;refine WN Qi hT J7 ?_ (PySem.F.args_dict_get_3 _ _ _);show W8 _ _ (dictGet a u >>= _) _ _ s;refine W0 (xV (show A.units + 1 + 6 < WG by omega) I g ry λw' s' I' rr=>?_)
 cases o with
 | some x =>
  obtain⟨w2,rfl,r2⟩:=eO.some_of rr;exact W5 ⟨_,rfl,h w2 s' I' r2⟩
 | none =>
  obtain rfl:=eO.none_of rr;show W8 _ _ (Builtin.Dict.missed a u >>= _) _ _ _;exact W0 (wpAny_missed_other hS (W5 ⟨_,rfl,h _ s' I' rd⟩))
def uT(H:Hp)(a:Addr)(y v:V)(R:Hp->Prop):Prop:=∃ m ep ae k,H a=some (.dN ep ae)/\(∀ p ∈ ae,lh H m p.1 p.2.1)/\lh H m k y/\ae.length < Wd/\∀ gZ,R (upd H a (.dN gZ (putN ae k y v)))
theorem Rx(ae:List NE)(k:NK)(y v:V):(putN ae k y v).length<=ae.length + 1:=by
 unfold putN;split
 ·simp
 ·simp
theorem Fe(hu:A.units + 6 < WG)(I:Inv X pins σ H s)(g:uT H a y v R)(ry:RelV y u)(rv:RelV v r)(h:∀ H' s',Inv X pins σ H' s'->R H'->Q () s') :
  W8 (model X.prog X.w) A (dictSet a u r) Q E s:=by
 obtain⟨m,ep,ae,k,e,hk,ky,hz,hR⟩:=g;obtain⟨z,hS,xs,ob,es,rx,d⟩:=oo I.aB e;have hl:xs.length<=Wd:=by rw[<- Paired.length rx]; exact z
 refine Rp hu (ky.key I.aB ry) d.get d.ex d.data d.ents (Fd I.aB rx hk) d.uS hl λh' o' m_ gZ q1 q2 q3 q4 hs=>h _ _ ?_ (hR gZ)
 have gH:(putN ae k y v).length<=Wd:=by have:=Rx ae k y v; omega
 exact sZ I (by rw[e]; exact True.intro) hs ⟨o',q1⟩ (Rr gH hS (rx.put ry rv) ⟨q1,q2,q3,q4,Ro d.uS⟩)
theorem Ry{R:Hp->Prop}{Q:Unit->W4->Prop}(hu:A.units + 8 < WG)(I:Inv X pins σ H s)(g:uT H a y v R)(ry:RelV y u)(rv:RelV v r)(h:∀ H' s',Inv X pins σ H' s'->R H'->Q () s') :
  W8 (model X.prog X.w) A (setItem (.ref a) u r) Q E s:=by
 have hT:s.TypeIs (.ref a) "dict":=by
  obtain⟨m,ep,ae,k,e,_⟩:=g;obtain⟨z,hS,xs,ob,es,rx,d⟩:=oo I.aB e;exact d.typeIs
 unfold setItem;try with_reducible refine WV ?_
 refine W0 (Ua hT (by decide) ?_);refine W0 (WK (name:=Str.ofString "__setitem__") hT slot_dict_setitem (WN slot_dict_setitem hT entry_dict_setitem ?_ (args_dict_setitem _ _ _)));show W8 _ _ (Builtin.Dict.notOrdered "__setitem__" ⟨[.ref a,u,r],[]⟩ >>= _) _ _ s;refine W0 (wpAny_notOrdered_dict hT ?_);show W8 _ _ (dictSet a u r >>= _) _ _ s;exact W0 (Fe (show A.units + 1 + 6 < WG by omega) I g ry rv λH' s' I' hR=>W5 ⟨.none,rfl,W5 (h H' s' I' hR)⟩)
end
end L2
namespace DV
open PySem PySem.Spec PyProof.Rows L2
theorem Rz(n:Nat)(i:Int):cQ n (.int i)=some (.i i):=by cases n <;> rfl
theorem RA(n:Nat)(b:Bool):cQ n (.bl b)=some (.i (if b then 1 else 0)):=by cases n <;> rfl
theorem RB(n:Nat)(x:Tx):cQ n (.str x)=some (.s (toS x)):=by cases n <;> rfl
theorem RC(n:Nat)(xs:List D):cQ (n + 1) (.tup xs)=(g8 n xs).map .t:=rfl
theorem uU(h:cQ n d=some x):(∃ i,d = .int i/\x = .i i)\/(∃ b,d = .bl b/\x = .i (if b then 1 else 0))\/(∃ s,d = .str s/\x = .s (toS s))\/∃ m xs ks,n=m + 1/\d = .tup xs/\g8 m xs=some ks/\x = .t ks:=by
 cases d with
 | int i=>rw[Rz] at h; exact .inl ⟨i,rfl,(Wy h).symm⟩
 | bl b=>rw[RA] at h; exact .inr (.inl ⟨b,rfl,(Wy h).symm⟩)
 | str s=>rw[RB] at h; exact .inr (.inr (.inl ⟨s,rfl,(Wy h).symm⟩))
 | tup xs =>
  cases n with
  | zero=>cases h
  | succ m =>
   rw[RC,WH] at h;obtain⟨ks,hk,e⟩:=h;exact .inr (.inr (.inr ⟨m,xs,ks,rfl,rfl,hk,e.symm⟩))
 | _=>cases n <;> cases h
theorem Ff(ih:∀ (d e:D) (x y:NK),cQ n d=some x->cQ n e=some y->aD d e=decide (x=y)):∀ (xs ys:List D) (ks ls:List NK),g8 n xs=some ks->g8 n ys=some ls->fz xs ys=decide (ks=ls)
 | [],[],ks,ls,h1,h2=>by
  simp[g8] at h1 h2;subst h1; subst h2
  simp[fz]
 | [],y :: ys,ks,ls,h1,h2=>by
  simp only[g8,Wc,JC,WH] at h1 h2;subst h1;obtain⟨k,_,l,_,rfl⟩:=h2;simp[fz]
 | x :: xs,[],ks,ls,h1,h2=>by
  simp only[g8,Wc,JC,WH] at h1 h2;subst h2;obtain⟨k,_,l,_,rfl⟩:=h1;simp[fz]
 | x :: xs,y :: ys,ks,ls,h1,h2=>by
  simp only[g8,JC,WH] at h1 h2;obtain⟨k,hk,k',nu,rfl⟩:=h1;obtain⟨l,hl,l',gH,rfl⟩:=h2;simp only[fz];rw[ih x y k l hk hl,Ff ih xs ys k' l' nu gH];by_cases e1:k=l
  ·by_cases e2:k'=l'
   ·rw[decide_eq_true e1,decide_eq_true e2,decide_eq_true (by rw[e1,e2])]; rfl
   ·rw[decide_eq_true e1,decide_eq_false e2,decide_eq_false λq=>e2 (List.cons.inj q).2]; rfl
  ·rw[decide_eq_false e1,decide_eq_false λq=>e1 (List.cons.inj q).1]; rfl
theorem Fg:∀ (n:Nat) (d e:D) (x y:NK),cQ n d=some x->cQ n e=some y->aD d e=decide (x=y):=by
 intro n;induction n with
 | zero =>
  intro d e x y h1 h2;rcases uU h1 with ⟨i,rfl,rfl⟩ | ⟨b,rfl,rfl⟩ | ⟨s,rfl,rfl⟩ | ⟨m,xs,ks,e,_⟩ <;> rcases uU h2 with ⟨i,rfl,rfl⟩ | ⟨b,rfl,rfl⟩ | ⟨s,rfl,rfl⟩ | ⟨m,xs,ks,e,_⟩ <;>
   first | (cases e; done) | (simp only[aD]; first | (rw[decide_eq_false (λq=>nomatch q)]; done) | (rw[mE,<- xT]; done) | (rw[mE]; done) | (rw[xS,oO]; done))
 | succ n ih =>
  intro d e x y h1 h2;rcases uU h1 with ⟨i,rfl,rfl⟩ | ⟨b,rfl,rfl⟩ | ⟨s,rfl,rfl⟩ | ⟨m,xs,ks,e1,rfl,hk,rfl⟩ <;> rcases uU h2 with ⟨i,rfl,rfl⟩ | ⟨b,rfl,rfl⟩ | ⟨s,rfl,rfl⟩ | ⟨m,ys,ls,e2,rfl,hl,rfl⟩ <;>
   first | (simp only[aD]; first | (rw[decide_eq_false (λq=>nomatch q)]; done) | (rw[mE,<- xT]; done) | (rw[mE]; done) | (rw[xS,oO]; done)) | skip
  cases e1
  cases e2;simp only[aD];rw[Ff ih xs ys ks ls hk hl];by_cases e:ks=ls
  ·rw[decide_eq_true e,decide_eq_true (congrArg NK.t e)]
  ·rw[decide_eq_false e,decide_eq_false λq=>e (NK.t.inj q)]
theorem Fh:∀ {xs:List D} {ks:List NK},g8 n xs=some ks->ks.length=xs.length/\∀ (i:Nat) d k,xs[i]? = some d->ks[i]? = some k->cQ n d=some k
 | [],ks,h=>by simp[g8] at h; subst h; exact⟨rfl,λi d k e=>by simp at e⟩
 | x :: xs,ks,h=>by
  simp only[g8,JC,WH] at h;obtain⟨k,hk,k',nu,rfl⟩:=h;obtain⟨h1,h2⟩:=Fh nu;refine⟨by simp[h1],λi d kk e1 e2=>?_⟩
  cases i with
  | zero=>simp at e1 e2; subst e1; subst e2; exact hk
  | succ i=>exact h2 i d kk (by simpa using e1) (by simpa using e2)
theorem RE(r:Rep H O v d):∀ {n:Nat} {k:NK},cQ n d=some k->lg H n k v:=by
 induction r with
 | int i=>intro n k h; cases n <;> (simp[cQ] at h; subst h; exact .int i)
 | bl b=>intro n k h; cases n <;> (simp only[cQ,Wc] at h; subst h; exact .bl b)
 | str x=>intro n k h; cases n <;> (simp[cQ] at h; subst h; exact .str _)
 | @tup a vs ds h1 h2 h3 h4 ih =>
  intro n k h
  cases n with
  | zero=>simp[cQ] at h
  | succ n =>
   simp only[cQ,WH] at h;obtain⟨ks,hk,rfl⟩:=h;obtain⟨l,g⟩:=Fh hk;refine .tup h2 (by omega) λi k v e1 e2=>?_
   have hi:i < ds.length:=by have:=(W6.mp e1).1; omega
   exact ih i v ds[i] e2 (Wg hi) (g i ds[i] k (Wg hi) e1)
 | _=>intro n k h; cases n <;> simp[cQ] at h
def jd(m:Bool)(d:D):Bool:=match d with
 | .tup _=>m
 | .int _=>!m
 | .str _=>!m
 | _=>false
theorem uV(hm:jd m d=true)(hk:cQ 6 d=some k)(r:Rep H O v d):lh H m k v:=by
 cases m with
 | true =>
  have r':=RE r hk
  cases r <;> simp[jd] at hm
  exact⟨⟨_,rfl⟩,r'⟩
 | false =>
  cases r <;> simp[jd] at hm
  ·simp[cQ] at hk; subst hk; exact⟨.inl _,rfl,rfl⟩
  ·simp[cQ] at hk; subst hk; exact⟨.inr _,rfl,rfl⟩
def ko(m:Bool)(ds:List (D×D))(k:D):Bool:=jd m k && (cQ 6 k).isSome && ds.all λq=>jd m q.1
def ll(k:D):Bool:=jd true k
def jN(ds:List (D×D))(k:D):Option D:=(ds.find? λq=>aD q.1 k).map (·.2)
def rO(ds:List (D×D))(k d:D):List (D×D):=if (ds.any λq=>aD q.1 k)=true then ds.map λq=>if aD q.1 k=true then(q.1,d) else q else ds ++ [(k,d)]
section
variable {H H':Hp} {O:Addr->Prop} {ws:List NE} {ds:List (D×D)} {p:NE} {q:D×D}
theorem DN.nil:DN H O [] []:=⟨rfl,λi p q e=>by simp at e,λi p q e=>by simp at e,λi p q e=>by simp at e⟩
theorem DN.cons(h1:Rep H O p.2.1 q.1)(h2:Rep H O p.2.2 q.2)(h3:cQ 6 q.1=some p.1)(r:DN H O ws ds):DN H O (p :: ws) (q :: ds):=by
 refine⟨by simp[r.len],λi a b e1 e2=>?_,λi a b e1 e2=>?_,λi a b e1 e2=>?_⟩ <;> cases i <;> simp at e1 e2
 ·subst e1; subst e2; exact h1
 ·exact r.key _ a b e1 e2
 ·subst e1; subst e2; exact h2
 ·exact r.val _ a b e1 e2
 ·subst e1; subst e2; exact h3
 ·exact r.nC _ a b e1 e2
theorem DN.un(r:DN H O (p :: ws) (q :: ds)):Rep H O p.2.1 q.1/\Rep H O p.2.2 q.2/\cQ 6 q.1=some p.1/\DN H O ws ds :=
 ⟨r.key 0 p q rfl rfl,r.val 0 p q rfl rfl,r.nC 0 p q rfl rfl,by simpa using r.len,λi a b e1 e2=>r.key (i + 1) a b (by simpa using e1) (by simpa using e2),λi a b e1 e2=>r.val (i + 1) a b (by simpa using e1) (by simpa using e2),λi a b e1 e2=>r.nC (i + 1) a b (by simpa using e1) (by simpa using e2)⟩
theorem DN.get(hk:cQ 6 k=some kk):∀ {ws:List NE} {ds:List (D×D)},DN H O ws ds->((jN ds k=none/\valN ws kk=none)\/∃ v d,jN ds k=some d/\valN ws kk=some v/\Rep H O v d)/\(ds.any λq=>aD q.1 k)=ws.any λp=>decide (p.1=kk)
 | [],[],_=>⟨.inl ⟨rfl,rfl⟩,rfl⟩
 | [],_ :: _,r=>by have:=r.len; simp at this
 | _ :: _,[],r=>by have:=r.len; simp at this
 | p :: ws,q :: ds,r=>by
  obtain⟨r1,r2,r3,r4⟩:=r.un;obtain⟨i1,i2⟩:=DN.get hk r4;have e:=Fg 6 q.1 k p.1 kk r3 hk;refine⟨?_,by rw[Qf,Qf,i2,e]⟩;unfold jN valN at i1 ⊢;rw[Q4,Q4,e];by_cases z:p.1=kk
  ·rw[decide_eq_true z]; exact .inr ⟨_,_,rfl,rfl,r2⟩
  ·rw[decide_eq_false z]; exact i1
theorem DN.app(hk:cQ 6 k=some kk)(ry:Rep H O y k)(rv:Rep H O v d):∀ {ws:List NE} {ds:List (D×D)},DN H O ws ds->DN H O (ws ++ [(kk,y,v)]) (ds ++ [(k,d)])
 | [],[],_=>.cons ry rv hk .nil
 | [],_ :: _,r=>by have:=r.len; simp at this
 | _ :: _,[],r=>by have:=r.len; simp at this
 | p :: ws,q :: ds,r=>by
  obtain⟨r1,r2,r3,r4⟩:=r.un;exact .cons r1 r2 r3 (DN.app hk ry rv r4)
theorem DN.st(hk:cQ 6 k=some kk)(rv:Rep H O v d):∀ {ws:List NE} {ds:List (D×D)},DN H O ws ds->DN H O (ws.map λp=>if p.1=kk then(p.1,p.2.1,v) else p) (ds.map λq=>if aD q.1 k=true then(q.1,d) else q)
 | [],[],_=>.nil
 | [],_ :: _,r=>by have:=r.len; simp at this
 | _ :: _,[],r=>by have:=r.len; simp at this
 | p :: ws,q :: ds,r=>by
  obtain⟨r1,r2,r3,r4⟩:=r.un;have e:=Fg 6 q.1 k p.1 kk r3 hk;rw[Wk,Wk,e];by_cases z:p.1=kk
  ·rw[decide_eq_true z,if_pos z,if_pos rfl]; exact .cons r1 rv r3 (DN.st hk rv r4)
  ·rw[decide_eq_false z,if_neg z,if_neg (by simp)]; exact .cons r1 r2 r3 (DN.st hk rv r4)
theorem DN.put(hk:cQ 6 k=some kk)(ry:Rep H O y k)(rv:Rep H O v d)(r:DN H O ws ds):DN H O (putN ws kk y v) (rO ds k d):=by
 unfold putN rO;rw[(DN.get hk r).2];split
 ·exact r.st hk rv
 ·exact r.app hk ry rv
theorem DN.Fi(hm:(ds.all λq=>jd m q.1)=true)(r:DN H O ws ds):∀ p ∈ ws,lh H m p.1 p.2.1:=λp hp=>by
 obtain⟨i,e⟩:=List.mem_iff_getElem?.mp hp;have hi:i < ds.length:=by have:=(W6.mp e).1; have:=r.len; omega
 exact uV (J5.mp hm ds[i] (J4 hi)) (r.nC i p ds[i] e (Wg hi)) (r.key i p ds[i] e (Wg hi))
end
theorem Fj(r:cJ c σ δ H v (.dic ds)):∃ a ep ws,v = .ref a/\H a=some (.dN ep ws)/\DN H (Av c σ δ) ws ds:=by
 rcases r with r | ⟨a,rfl,ep,ws,h1,h2⟩
 ·cases r with
  | dic h1 h2 h3 h4 h5 h6=>exact⟨_,_,_,rfl,h2,h3,h4,h5,h6⟩
 ·exact⟨a,ep,ws,rfl,h1,h2⟩
theorem RF(h:jd m d=true)(r:cJ c σ δ H v d):Rep H (Av c σ δ) v d:=by
 rcases r with r | ⟨a,rfl,r⟩
 ·exact r
 ·cases d <;> first | exact r.elim | simp[jd] at h
theorem xX(h:ko m ds k=true):jd m k=true/\(∃ kk,cQ 6 k=some kk)/\(ds.all λq=>jd m q.1)=true:=by
 unfold ko at h;simp only[Ws] at h;exact⟨h.1.1,Jv.mp h.1.2,h.2⟩
theorem RG(rx:cJ c σ δ H x (.dic ds))(ry:cJ c σ δ H y k)(h:ko m ds k=true) :
  ∃ a o,x = .ref a/\lj H a y o/\((jN ds k=none/\o=none)\/∃ v d,jN ds k=some d/\o=some v/\Rep H (Av c σ δ) v d):=by
 obtain⟨a,ep,ws,e,ha,dn⟩:=Fj rx;obtain⟨h1,⟨kk,hk⟩,h2⟩:=xX h;exact⟨a,valN ws kk,e,⟨m,ep,ws,kk,ha,dn.Fi h2,uV h1 hk (RF h1 ry),rfl⟩,(dn.get hk).1⟩
def RH(neg:Bool):R2:=λx y H Q=>∃ a o,y = .ref a/\lj H a x o/\Q (.bl (if neg then !o.isSome else o.isSome)) H
theorem XT(hu:X.A.units + 64 < WG):bN X (WT .In) (RH false):=by
 intro pins s σ H x y v u Q I rx ry h;obtain⟨a,o,rfl,g,q⟩:=h
 cases ry;exact Rv (by omega) I g rx λs' I'=>⟨.bl _,H,I',rfl,q⟩
def XU(neg:Bool)(x y:D):Option S:=match y with
 | .dic ds=>if ko (ll x) ds x then some (.pure (.bl (if neg then !(jN ds x).isSome else(jN ds x).isSome))) else none
 | _=>none
section
variable {X:Cx} {c:Fc} {e:Expr} {fe:DE} {pos:Pos}
theorem Ok.RI(k:Ok c σ δ H)(e:δ[i]? = some (some (.own d0)))(ea:σ[i]? = some (some (.ref a)))(r:gx (upd H a o) (Av c σ δ) a d') :
  a7 c σ δ H σ (δ.set i (some (.own d'))) (upd H a o):=by
 have hi:i < δ.length:=(W6.mp e).1;obtain⟨a',dj,oa,ia,nb⟩:=k.own i _ e;rw[ea] at dj; cases dj
 have me:Own σ δ a:=⟨i,_,e,ea⟩
 have qI:Av c σ δ a:=.inr me;have mf:∀ b,Own σ (δ.set i (some (.own d'))) b ↔ Own σ δ b:=λb=>by
  constructor
  ·rintro ⟨j,d,e1,e2⟩;by_cases hj:i=j
   ·subst hj;exact⟨i,_,e,e2⟩
   ·rw[W9 hj] at e1;exact⟨j,d,e1,e2⟩
  ·rintro ⟨j,d,e1,e2⟩;by_cases hj:i=j
   ·subst hj;exact⟨i,_,by rw[Wn hi],e2⟩
   ·exact⟨j,d,by rw[W9 hj]; exact e1,e2⟩
 have jF:∀ b,Av c σ (δ.set i (some (.own d'))) b->Av c σ δ b:=λb z=>z.elim .inl λz=>.inr ((mf b).mp z)
 have kp:∀ b w,H b=some w->¬ Av c σ δ b->upd H a o b=some w:=λb w h n=>by rw[aL λz=>n (by rw[z]; exact qI)]; exact h
 have hV:∀ b w,H b=some w->∃ o',upd H a o b=some o':=λb w h=>by
  by_cases hb:b=a
  ·exact⟨_,by rw[hb]; exact cZ⟩
  ·exact⟨w,by rw[aL hb]; exact h⟩
 refine⟨⟨λb w h n=>?_,λb z=>?_,λb z=>?_,by rw[Q8]; exact k.len,λj d h=>?_,λj d h=>?_,λj l b d d2 h1 h2 h3 h4=>?_,k.pinned⟩,λb w h n=>?_,λb z=>.inl ((mf b).mp z),hV⟩
 ·have hb:b≠a:=λz=>by
   subst z;rcases ia with z | z
   ·exact n z
   ·rw[z] at h; cases h
  rw[aL hb];exact k.keep b w h n
 ·obtain⟨w,h⟩:=k.bd b z;exact hV b w h
 ·obtain⟨w,h⟩:=k.eT b z;exact hV b w h
 ·have hj:i≠j:=λz=>by subst z; rw[Wn hi] at h; cases h
  rw[W9 hj] at h;obtain⟨v,h1,h2⟩:=k.slot j d h;exact⟨v,h1,(h2.keep kp).aW λb z=>.inl (jF b z)⟩
 ·by_cases hj:i=j
  ·subst hj;rw[Wn hi] at h
   cases h;exact⟨a,ea,r.aW λb z=>.inl (jF b z),ia,nb⟩
  ·rw[W9 hj] at h;obtain⟨b,h1,h2,h3,h4⟩:=k.own j d h;have hb:b≠a:=λz=>by subst z; exact hj (k.inj i j b _ d e h ea h1)
   exact⟨b,h1,(h2.keep kp λw q=>by rw[aL hb]; exact q).aW λb z=>.inl (jF b z),h3,h4⟩
 ·have f1:∃ d,δ[j]? = some (some (.own d)):=by
   by_cases hj:i=j
   ·subst hj; exact⟨_,e⟩
   ·rw[W9 hj] at h1; exact⟨d,h1⟩
  have f2:∃ d,δ[l]? = some (some (.own d)):=by
   by_cases hj:i=l
   ·subst hj; exact⟨_,e⟩
   ·rw[W9 hj] at h2; exact⟨d2,h2⟩
  obtain⟨_,f1⟩:=f1;obtain⟨_,f2⟩:=f2;exact k.inj j l b _ _ f1 f2 h3 h4
 ·have hb:b≠a:=λz=>n (by rw[z]; exact me)
  rw[aL hb]; exact h
theorem Ok.RJ(k:Ok c σ δ H)(e:δ[i]? = some (some (.own (.dic ds))))(ea:σ[i]? = some (some (.ref a)))(r:DN H (Av c σ δ) ws dW) :
  a7 c σ δ H σ (δ.set i (some (.own (.dic dW)))) (upd H a (.dN ep ws)) :=
 Ok.RI k e ea ⟨ep,ws,cZ,r.keep λb w h n=>by rw[aL λz=>n (by rw[z]; exact .inr ⟨i,_,e,ea⟩)]; exact h⟩
def uW(δ:Dl)(i:Nat):Bool:=match δ[i]? with
 | some (some (.own (.dic _)))=>true
 | _=>false
theorem RK(h:uW δ i=true):∃ ds,δ[i]? = some (some (.own (.dic ds))):=by
 unfold uW at h;split at h
 ·rename_i ds e; exact⟨ds,e⟩
 ·cases h
def rP(i:Nat)(fi fe:DE):DS:=λδ=>(fe δ).bind λr δ1=>if uW δ1 i then(fi δ1).bind λk δ2=>match δ2[i]? with
  | some (some (.own (.dic ds)))=>if ko (ll k.d) ds k.d && decide (ds.length < Wd) then .ok .next (δ2.set i (some (.own (.dic (rO ds k.d r.d))))) else .stuck
  | _=>.stuck else .stuck
end
end DV
namespace L2
open PySem PySem.Spec PyProof.Rows
def RL(td ty tv:TE):TS:=λD σ H=>tv σ H λv H1=>td σ H1 λx H2=>ty σ H2 λy H3=>∃ a,x = .ref a/\uT H3 a y v λH4=>D.nx σ H4
theorem RM(hu:X.A.units + 8 < WG)(ho:PE X o td)(hi:PE X i ty)(hv:PE X value tv)(hs:QX value (some (.Subscript o i pos')) pos.line X.env=pure false) :
  PS X (.Assign [.Subscript o i pos'] value pos) (RL td ty tv):=by
 intro pins s σ H D I h;refine wpAny_Assign_Subscript (aR (hv pins s σ H _ I h) λr s1 ⟨v,H1,I1,rv,q1⟩=>aR (ho pins s1 σ H1 _ I1 q1) λu s2 ⟨x,H2,I2,rx,q2⟩=>aR (hi pins s2 σ H2 _ I2 q2) λiv s3 ⟨y,H3,I3,ry,a,ex,g⟩=>?_) hs;subst ex;obtain rfl:u=Value.ref a:=rx;exact Ry hu I3 g ry rv λH4 s4 I4 q4=>⟨σ,H4,I4,q4⟩
end L2
namespace DV
open PySem PySem.Spec PyProof.Rows L2
section
variable {X:Cx} {c:Fc} {e:Expr} {fe:DE} {pos:Pos}
theorem RN(hu:X.A.units + 64 < WG)(ho:PE X o (cz i))(hi:SE X c ix fi)(he:SE X c e fe)
  (hs:QX e (some (.Subscript o ix sp)) pos.line X.env=pure false:=by rfl):SS X c (.Assign [.Subscript o ix sp] e pos) (rP i fi fe) :=
 PS.weak (RM (by omega) ho hi he hs) λD σ H ⟨δ,k,q⟩=>by
  unfold rP fD at q;rw[a_] at q;refine⟨δ,k,aO q λr δ1 q1 v H1 a1 r1=>?_⟩;split at q1
  case isFalse=>exact q1.elim
  rename_i hown1;obtain⟨ds1,e1⟩:=RK hown1;obtain⟨a,ea,_,_⟩:=a1.ok.own i _ e1;refine⟨.ref a,ea,δ1,a1.ok,?_⟩;rw[a_] at q1;refine aO q1 λkx δ2 q2 u H2 a2 r2=>?_
  split at q2
  ·rename_i ds e2;split at q2
   ·rename_i hz;simp only[Ws,decide_eq_true_eq] at hz;obtain⟨hg,hz⟩:=hz;obtain⟨a',dj,oa,_⟩:=a2.ok.own i _ e2;rw[ea] at dj; cases dj
    obtain⟨ep,ws,ha,dn⟩:=id oa;obtain⟨h1,⟨kk,hk⟩,h2⟩:=xX hg;have ry:Rep H2 (Av c σ δ2) u kx.d:=r2.rep;have rv:Rep H2 (Av c σ δ2) v r.d:=Rep.cR r1.rep a2;refine⟨a,rfl,ll kx.d,ep,ws,kk,ha,dn.Fi h2,uV h1 hk ry,by rw[dn.len]; exact hz,λgZ=>?_⟩;exact q2 σ _ (a1.trans (a2.trans (Ok.RJ a2.ok e2 ea (dn.put hk ry rv))))
   ·exact q2.elim
  ·exact q2.elim
end
end DV
namespace L2
open PySem PySem.Spec PyProof.Rows
section
variable {prog:Wm} {w:Wq} {A:Wu} {E:Value->W4->Prop} {s:W4}
theorem RO (hd:(d == Qm)=false) (hT:s.TypeIs (.ref d) "dict")
  (h:Q (.ref s.heap.objs.size) { s with heap:=s.heap.push { cls:=.type "dict_items",data:=.fields #[.ref d] } }):W8 (model prog w) A (call (.builtin "dict.items") [.ref d]) Q E s:=by
 refine WN F.slot_dict_items hT F.entry_dict_items ?_ (F.args_dict_items_1 _);unfold Builtin.«dict.items» Builtin.Dict.noArgs;refine W0 (W0 (wpAny_notOrdered_dict hT (show W8 _ _ (pure d) _ _ s from W5 ?_)));show W8 _ _ (Builtin.Dict.showsAll d >>= _) _ _ s;unfold Builtin.Dict.showsAll;rw[if_neg (by rw[hd]; exact WF)];exact W0 (W5 (W0 (Q6 (W5 ⟨_,rfl,h⟩))))
theorem RP(hv:s.heap.IsItemsView v d)(ho:s.heap.get? d=some o)(mn:o.data = .dict es ep)
  (hQ:Q (.ref s.heap.objs.size) { s with heap:=s.heap.push { cls:=.type "dict_itemiterator",data:=.fields #[.none,.bool false,.ref d,.int 0 0,.int es.size 0,.int ep 0,.none,.none] } }):W8 (model prog w) A (pyIter (.ref v)) Q E s:=by
 obtain⟨ov,hov,hcv,hdv⟩:=id hv;refine wpAny_pyIter_slot hv.typeIs F.slot_dict_items_iter (WN F.slot_dict_items_iter hv.typeIs F.entry_dict_items_iter ?_ (F.args_dict_items_iter_1 _));unfold Builtin.«dict_items.__iter__»;refine W0 (W5 (W0 ?_));unfold Builtin.Dict_items.dictOf;refine W0 (WL hov hdv (x:=.ref d) rfl (W5 (W0 ?_)));unfold Builtin.Dict_items.newIterator;refine W0 (Uf ho mn (W0 (wpAny_dictEpoch ho mn ?_)));have i6:Builtin.Dict_items.ownsTuple "dict_itemiterator" = true:=by decide
 simp only[i6,if_true];refine Q6 (W5 ⟨_,rfl,"dict_itemiterator",_,⟨_,Wl _ rfl,rfl⟩,F.slot_dict_itemiterator_next.lookup,?_⟩)
  (by simp only[sizeOk,Builtin.Dict_items.ownedTupleFields,Wp,WU,WB,U1,JJ]; omega)
 simpa[JF,Builtin.Dict_items.ownedTupleFields] using hQ
theorem RQ(hit:IsItemIter s.heap it d i es.size ep ok ov)
  (rQ:s.heap.get? d=some od) (j8:od.data = .dict es ep) (hx:es[i]? = some e)
  (hQ:∀ h',IsItemIterOut h' it d (i + 1) es.size ep e.key e.val s.heap.objs.size->h'.get? s.heap.objs.size=some { cls:=.type "tuple",data:=.seq #[e.key,e.val] }->h'.objs.size=s.heap.objs.size + 1 ->
   (∀ b o,b≠it->s.heap.get? b=some o->h'.get? b=some o)->Q (some (.ref s.heap.objs.size)) { s with heap:=h' }):W8 (model prog w) A (QD (.ref it)) Q E s:=by
 obtain⟨hp,g,dr,tk,os⟩:=s;have hT:Shared.TypeIs ⟨hp,g,dr,tk,os⟩ (.ref it) "dict_itemiterator":=⟨_,hit,rfl⟩
 have XW:i < es.size:=by
  rcases Nat.lt_or_ge i es.size with h | h
  ·exact h
  ·simp[Array.getElem?_eq_none h] at hx
 unfold QD;refine W0 (JV (WK (name:=Str.ofString "__next__") hT QY (WN QY hT F.entry_dict_itemiterator_next ?_ (F.args_dict_itemiterator_next_1 _))));refine W0 (W5 (W0 (W0 ?_)));first | refine W0 (QV hT (W5 ?_)) | refine W0 (Jr hT (W5 ?_))
 refine W0 (wpAny_fieldsOf hit rfl ?_);have i6:Builtin.Dict_items.ownsTuple "dict_itemiterator" = true:=by decide
 simp only[i6,if_true];show W8 _ _ (if (Value.ref d == Value.none)=true then _ else _) _ _ _;rw[if_neg (show ¬ ((Value.ref d == Value.none)=true) from WF)];refine W0 (W5 (W0 (Uf rQ j8 ?_)));rw[if_neg (by simp)];refine W0 (W5 (W0 (wpAny_dictEpoch rQ j8 ?_)));rw[if_neg (by simp)];refine W5 ?_;simp only[show ¬ ((i:Int) < 0) from by omega,if_false,Qe,hx];refine W0 ?_;first | refine W0 (QV hT (W5 ?_)) | refine W0 (Jr hT (W5 ?_))
 refine W0 (wpAny_isOneOf_itemiter hT ?_);show W8 _ _ (setField (.ref it) 3 (JF ((i:Int) + 1)) >>= _) _ _ ⟨hp,g,dr,tk,os⟩;refine W0 (Q1 hit (by simp) λh1 e1 s1=>?_);replace s1:Qy it hp h1:=s1;replace e1:IsItemIter h1 it d (i + 1) es.size ep ok ov:=by
  have z:((i + 1:Nat):Int)=(i:Int) + 1:=by omega
  unfold IsItemIter; rw[z]; simpa[JF] using e1
 have xY:Shared.TypeIs ⟨h1,g,dr,tk,os⟩ (.ref it) "dict_itemiterator":=⟨_,e1,rfl⟩
 refine W0 (WV (W0 (wpAny_isOneOf_itemiter xY (W0 (wpAny_isOneOf_itemiter xY ?_)))));show W8 _ _ (Builtin.Dict_items.pairFromOwner (.ref it) 6 e.key e.val) _ _ ⟨h1,g,dr,tk,os⟩;unfold Builtin.Dict_items.pairFromOwner;refine W0 (wpAny_newTuple ?_);have e2:IsItemIter (h1.push { cls:=.type "tuple",data:=.seq #[e.key,e.val] }) it d (i + 1) es.size ep ok ov:=Wa _ e1;generalize hh2:h1.push { cls:=.type "tuple",data:=.seq #[e.key,e.val] } = h2 at e2;have z1:h1.objs.size=hp.objs.size:=s1.1;have mh:it < hp.objs.size:=Wj hit;have t2:h2.get? hp.objs.size=some { cls:=.type "tuple",data:=.seq #[e.key,e.val] }:=by rw[<- hh2,<- z1]; exact Wl _ rfl
 have z2:h2.objs.size=hp.objs.size + 1:=by rw[<- hh2,Qu,z1]
 have k2:∀ b o,b≠it->hp.get? b=some o->h2.get? b=some o:=λb o hb q=>by rw[<- hh2]; exact Wa _ (s1.extBut b o hb q)
 show W8 _ _ (Builtin.Dict_items.ownedTupleIsFree (.ref it) >>= _) _ _ ⟨h2,g,dr,tk,os⟩;rw[z1];clear hh2 e1 s1 xY z1 h1;refine W0 ?_;unfold Builtin.Dict_items.ownedTupleIsFree;refine W0 (WL e2 rfl (x:=.none) rfl (W5 ?_));simp only[if_true];refine W0 (WL e2 rfl (x:=ok) rfl (W0 (WL e2 rfl (x:=ov) rfl ?_)));refine W0 (Q1 e2 (by simp) λh3 e3 s3=>?_);replace s3:Qy it h2 h3:=s3;replace e3:IsItemIter h3 it d (i + 1) es.size ep e.key ov:=e3;refine W0 (Q1 e3 (by simp) λh4 e4 s4=>?_);replace s4:Qy it h3 h4:=s4;replace e4:IsItemIter h4 it d (i + 1) es.size ep e.key e.val:=e4;refine W0 (Q1 e4 (by simp) λh5 e5 s5=>?_);replace s5:Qy it h4 h5:=s5;replace e5:IsItemIterOut h5 it d (i + 1) es.size ep e.key e.val hp.objs.size:=e5;refine W0 (Q1 e5 (by simp) λh6 e6 s6=>?_);replace s6:Qy it h5 h6:=s6;replace e6:IsItemIterOut h6 it d (i + 1) es.size ep e.key e.val hp.objs.size:=e6;have up:∀ b o,b≠it->h2.get? b=some o->h6.get? b=some o:=λb o hb q=>s6.extBut b o hb (s5.extBut b o hb (s4.extBut b o hb (s3.extBut b o hb q)))
 refine W0 (wpAny_letGo (W5 (W5 ⟨_,rfl,W5 (hQ h6 e6 (up _ _ (WR mh) t2) ?_ λb o hb q=>up b o hb (k2 b o hb q))⟩)));show h6.objs.size=hp.objs.size + 1;rw[s6.1,s5.1,s4.1,s3.1,z2]
theorem RT(hh:A.handled=none)(hit:IsItemIter s.heap it d i es.size ep ok ov)
  (rQ:s.heap.get? d=some od) (j8:od.data = .dict es ep) (hx:es.size<=i) (hQ:∀ h',Heap.ExtBut it s.heap h'->Q none { s with heap:=h' }):W8 (model prog w) A (QD (.ref it)) Q E s:=by
 have hT:s.TypeIs (.ref it) "dict_itemiterator":=⟨_,hit,rfl⟩
 unfold QD;refine W0 (JV (WK (name:=Str.ofString "__next__") hT QY (WN QY hT F.entry_dict_itemiterator_next ?_ (F.args_dict_itemiterator_next_1 _))));refine W0 (W5 (W0 (W0 ?_)));first | refine W0 (QV hT (W5 ?_)) | refine W0 (Jr hT (W5 ?_))
 refine W0 (wpAny_fieldsOf hit rfl ?_);have i6:Builtin.Dict_items.ownsTuple "dict_itemiterator" = true:=by decide
 simp only[i6,if_true];show W8 _ _ (if (Value.ref d == Value.none)=true then _ else _) _ _ s;rw[if_neg (show ¬ ((Value.ref d == Value.none)=true) from WF)];refine W0 (W5 (W0 (Uf rQ j8 ?_)));rw[if_neg (by simp)];refine W0 (W5 (W0 (wpAny_dictEpoch rQ j8 ?_)));rw[if_neg (by simp)];refine W5 ?_;simp only[show ¬ ((i:Int) < 0) from by omega,if_false,Qe,Array.getElem?_eq_none hx];refine W0 ?_;first | refine W0 (QV hT (W5 ?_)) | refine W0 (Jr hT (W5 ?_))
 show W8 _ _ (setField (.ref it) 2 .none >>= _) _ _ s;refine W0 (wpAny_setField hit rfl (by simp) ?_);show W8 _ _ (newExc (.type "StopIteration") [] >>= _) _ _ _;refine W0 ?_;simp only[newExc,newTuple];refine W0 (Q6 ?_ (by size_fits));refine W0 (m:=firstArgMember _ _) (wpAny_of_eq (a:=Value.none) (by first | rfl | (simp only[firstArgMember]; rfl)) ?_);refine Q6 ?_ (by size_fits);simp only[raiseNew];refine W0 (wpAny_handled ?_);rw[show A.in1.handled=none from hh];refine W0 (W5 (wpAny_throw ?_));refine W0 (wpAny_isInstance (T:="StopIteration") (b:=true) ⟨_,Wl _ rfl,rfl⟩ isSubtype_stop ?_);exact W5 (hQ _ (((Jz ..).extBut.push _).push _))
end
def xZ(a:Addr)(ep:Nat)(ae:List NE):It :=
 ⟨λi H=>H a=some (.dN ep ae)/\i < ae.length,
  λi H v H'=>∃ p k y x,H p=none/\ae[i]? = some (k,y,x)/\H'=upd H p (.tup [y,x])/\v = .ref p,
  λi H=>H a=some (.dN ep ae)/\i=ae.length⟩
theorem dJ.get(r:dJ ae xs):∀ {i:Nat} {p:NE},ae[i]? = some p->∃ x,xs[i]? = some x/\RelV p.2.1 x.2.1/\RelV p.2.2 x.2.2:=by
 unfold dJ at r;induction r with
 | nil=>intro i p e; simp at e
 | cons h t ih =>
  intro i p e
  cases i with
  | zero=>simp at e; subst e; exact⟨_,rfl,h.2⟩
  | succ i=>obtain⟨x,e1,e2⟩:=ih (i:=i) (by simpa using e); exact⟨x,by simpa using e1,e2⟩
theorem RU{P:Wm}{w:Wq}{K:W3}{elts:List Expr}{ctx}{pos:Pos}(a it:Addr)(ae:List NE)(ep:Nat) :
  Turn P w K (.Tuple elts ctx pos) (xZ a ep ae) [it] it (λi h=>∃ ok ov,IsItemIter h it a i ae.length ep ok ov):=by
 have at_:∀ {X:Cx} {pins s σ H},X.prog=P->X.w=w->Inv X pins σ H s->H a=some (.dN ep ae)->∃ xs o es,dJ ae xs/\om w s.heap a ep xs o es/\es.size=ae.length:=by
  intro X pins s σ H hP hw I e;subst hP hw;obtain⟨_,_,xs,o,es,r,d⟩:=oo I.aB e;exact⟨xs,o,es,r,d,by rw[<- QG,d.ents,Wx]; exact(Paired.length r).symm⟩
 refine⟨by simp,?_,?_,?_,?_,?_⟩
 ·rintro i h ⟨ok,ov,q⟩ b hb;have e:b=it:=by simpa using hb
  subst e;exact⟨_,q,λv z=>by
   have z':Data.fields _=Data.cell v:=z
   cases z'⟩
 ·rintro i h h' ⟨ok,ov,q⟩ k;exact⟨ok,ov,k it (by simp) _ q⟩
 ·intro X hP hw hK hc i pins s σ H E I hf ⟨ok,ov,st⟩ ⟨hg,hi⟩;obtain⟨xs,o,es,r,d,hz⟩:=at_ hP hw I hg;subst hP hw hK;have hx:ae[i]? = some (ae[i].1,ae[i].2.1,ae[i].2.2):=by simp[hi]
  obtain⟨x,hu,ry,rv⟩:=r.get hx;have RW:es[i]? = some (ent X.w x):=by rw[<- JR,d.ents,Wv,hu]; rfl
  have mh:it < s.heap.objs.size:=Wj st;rw[<- hz] at st;refine RQ st d.get d.data RW λh' hit hT hsz kp=>⟨_,rfl,wpAny_letOwnedTupleGo_items hit λh2 RX sb=>?_⟩
  have nz:s.heap.objs.size≠it:=WR mh;have aS:∀ b ∈ [it],b < s.heap.objs.size:=λb hb=>by
   have e:b=it:=by simpa using hb
   subst e;exact mh
  have I2:Inv X pins σ (upd H s.heap.objs.size (.tup [ae[i].2.1,ae[i].2.2])) { s with heap:=h2,toks:=s.toks } :=
   Inv.xu (t':=s.toks) [it] I hf aS ry rv ((sb.2 _ nz).trans hT) λb o hb e=>by
    have g:b≠it:=λz=>hb (by simp[z])
    exact(sb.2 b g).trans (kp b o g e)
  refine⟨.ref s.heap.objs.size,_,I2,rfl,⟨s.heap.objs.size,_,_,_,I.aB.fresh (Wh _),hx,rfl,rfl⟩,⟨_,_,by rw[<- hz]; exact RX⟩,λb hb=>?_⟩;have e:b=it:=by simpa using hb
  subst e;rw[aL (Ne.symm nz)];exact(hf _ hb).1
 ·intro X hP hw hK hc i pins s σ H E I hf ⟨ok,ov,st⟩ ⟨hg,hi⟩;obtain⟨xs,o,es,r,d,hz⟩:=at_ hP hw I hg;subst hP hw hK;rw[<- hz] at st;refine RT (I.ok.hd hc) st d.get d.data (by omega) λh' eb=>⟨rfl,Inv.q_ (t':=s.toks) [it] I (λb o hb e=>eb b o (λz=>hb (by simp[z])) e) hf⟩
 ·intro A i s Q E ⟨ok,ov,st⟩ h;exact Pq st h
section
variable {X:Cx} {o:Expr} {apos aZ:Pos} {elts:List Expr} {ctx:Nat} {tp:Pos} {td:TE}
def RY(td:TE):TI:=λσ H R=>td σ H λv H1=>∃ a ep ae,v = .ref a/\H1 a=some (.dN ep ae)/\R (xZ a ep ae) H1
theorem RZ (ho:PE X o td) (hb:Qt o "items" X.env (eval o X.env)=eval o X.env:=by rfl) (hl:(apos.endLine == aZ.line)=true:=by rfl) :
  PI X (.Tuple elts ctx tp) (.Call (.Attribute o "items" apos) [] [] aZ) (RY td):=by
 intro pins s σ H R I h;refine Ub (T:="dict") (id:="dict.items") hb rfl hl F.plainAttrs_dict F.slot_dict_items F.type_dict_items (aR (ho pins s σ H _ I h) λu s1 ⟨x,H1,I1,rx,a,ep,ae,ex,ea,q⟩=>?_);subst ex;obtain rfl:u=Value.ref a:=rx;obtain⟨z,hS,xs,ob,es,r,d⟩:=oo I1.aB ea;have hz:es.size=ae.length:=by rw[<- QG,d.ents,Wx]; exact(Paired.length r).symm
 refine⟨d.typeIs,d.noDict,?_⟩;refine Calls.callWith_builtin rfl (PySem.evalArgs_none (RO hS d.typeIs ?_));have xK:∀ b u,s1.heap.get? b=some u->(s1.heap.push { cls:=.type "dict_items",data:=.fields #[.ref a] }).get? b=some u:=λb u e=>Wa _ e
 refine RP (d:=a) ⟨_,Wl _ rfl,rfl,rfl⟩ (xK _ _ d.get) d.data ?_;generalize hh1:s1.heap.push { cls:=.type "dict_items",data:=.fields #[.ref a] } = h1;have up1:∀ b u,s1.heap.get? b=some u->h1.get? b=some u:=λb u e=>by rw[<- hh1]; exact Wa _ e
 have Fm:s1.heap.objs.size<=h1.objs.size:=by rw[<- hh1,Qu]; exact Ug _
 generalize hh2:h1.push { cls:=.type "dict_itemiterator",data:=.fields #[.none,.bool false,.ref a,.int 0 0,.int es.size 0,.int ep 0,.none,.none] } = h2;have R1:∀ b u,s1.heap.get? b=some u->h2.get? b=some u:=λb u e=>by rw[<- hh2]; exact Wa _ (up1 b u e)
 have hit:IsItemIter h2 h1.objs.size a 0 ae.length ep .none .none:=by rw[<- hz,<- hh2]; exact Wl _ rfl
 have I2:Inv X pins σ H1 { s1 with heap:=h2,toks:=s1.toks }:=I1.kept (t':=s1.toks) R1;refine⟨h1.objs.size,[h1.objs.size],_,_,_,rfl,I2,RU a h1.objs.size ae ep,⟨_,_,hit⟩,λb hb=>?_,q⟩;have e:b=h1.objs.size:=by simpa using hb
 subst e;exact I1.g6 Fm (I1.aB.fresh Fm)
end
section
variable {X:Cx} {pos:Pos}
theorem Fn (h:Heap) (hb:Qm < h.objs.size):cj P w H (h.push { cls:=.type "dict",data:=.dict #[] }) h.objs.size (.dN 0 []) :=
 ⟨QB _,beq_eq_false_iff_ne.mpr (Ne.symm (Wo hb)),_,#[],Wl _ rfl,⟨rfl,rfl,rfl⟩,rfl,.nil,List.nodup_nil⟩
def R3:TE:=λ_ H Q=>∀ p,H p=none->Q (.ref p) (upd H p (.dN 0 []))
theorem R4:PE X (.Dict [] [] pos) R3:=by
 intro pins s σ H Q I h;exact wpAny_Dict_empty ⟨.ref s.heap.objs.size,_,I.laid (a:=s.heap.objs.size) (o:=.dN 0 []) (t':=s.toks) (λ_ _ q=>Wa _ q) (Wh _) (Fn s.heap I.big),rfl,h _ (I.aB.fresh (Wh _))⟩
end
end L2
namespace DV
open PySem PySem.Spec PyProof.Rows L2
theorem bp.R5(k:Ok c σ δ H)(hp:H p=none)(r:DN H (Av c σ δ) ws ds):bp c σ δ H (upd H p (.dN ep ws)) (.ref p) (.own (.dic ds)):=by
 refine⟨p,rfl,⟨ep,ws,cZ,?_⟩,λz=>k.jz hp (.inl z),k.nD hp,k.plus hp _,hp⟩;exact(r.aW λb z=>by
  rcases z with (z | z) | z
  ·exact .inl (.inl z)
  ·exact .inr (by rw[z]; exact hp)
  ·exact .inl (.inr z)).keep λb w e _=>by rw[aL (fP e hp)]; exact e
def x4:DE:=λδ=>.ok (.own (.dic [])) δ
theorem R6:SE X c (.Dict [] [] pos) x4:=PE.weak R4 λσ H Q ⟨δ,k,q⟩=>λp hp=>q _ _ (.alloc k hp _) (bp.R5 k hp .nil)
def jO(ds:List (D×D)):List D:=ds.map λp=>D.tup [p.1,p.2]
def lq(fe:DE):DI:=λδ=>(fe δ).bind λr δ1=>match r.d with
 | .dic ds=>.ok (jO ds) δ1
 | _=>.stuck
section
variable {X:Cx} {c:Fc} {o:Expr} {fe:DE} {apos aZ:Pos} {elts:List Expr} {ctx:Nat} {tp:Pos}
theorem R7(h:H a=some (.dN ep ws))(n:¬ Own σ δ a)(r:DN H (Av c σ δ) ws ds):nQ c σ δ H (xZ a ep ws) (jO ds):=by
 intro H2 kp;have h2:=kp a _ h n;refine⟨⟨h2,by simp[jO,r.len]⟩,λi d e=>?_⟩;unfold jO at e;rw[Wv] at e
 cases ej:ds[i]? with
 | none=>rw[ej] at e; cases e
 | some q =>
  rw[ej] at e
  cases e;have hi:i < ws.length:=by rw[r.len]; exact(W6.mp ej).1
  refine⟨⟨h2,hi⟩,λx H3 ⟨p,kk,y,xv,hp,hkv,e3,ex⟩=>.inr ⟨p,_,_,hp,e3,ex,rfl,?_⟩⟩;exact aG.two (r.key i _ q hkv ej) (r.val i _ q hkv ej)
theorem Fo (ho:SE X c o fe) (hb:Qt o "items" X.env (eval o X.env)=eval o X.env:=by rfl) (hl:(apos.endLine == aZ.line)=true:=by rfl) :
  SI X c (.Tuple elts ctx tp) (.Call (.Attribute o "items" apos) [] [] aZ) (lq fe) :=
 PI.weak (RZ ho hb hl) λσ H R ⟨δ,k,q⟩=>by
  unfold lq at q;rw[a_] at q;refine⟨δ,k,aO q λr δ1 q1 v H1 a1 r1=>?_⟩;have rp:=r1.rep;generalize r.d=d at q1 rp
  cases d <;> first | exact q1.elim | skip
  rename_i ds
  cases rp with
  | dic h1 h2 h3 h4 h5 h6 =>
   exact⟨_,_,_,rfl,h2,q1 _ _ a1 (R7 h2 (λz=>h1 (.inr z)) ⟨h3,h4,h5,h6⟩)⟩
end
end DV
namespace L2
open PySem PySem.Spec PyProof.Rows
section
variable {X:Cx} {k v o e f:Expr} {pos apos aZ:Pos} {tk tv td ty tx:TE}
def R8(tk tv:TE):TE:=λσ H Q=>∀ p,H p=none->tk σ (upd H p (.dN 0 [])) λx H1=>tv σ H1 λy H2=>uT H2 p x y λH3=>Q (.ref p) H3
theorem R9(hu:X.A.units + 8 < WG)(hk:PE X k tk)(hv:PE X v tv):PE X (.Dict [some k] [v] pos) (R8 tk tv):=by
 intro pins s σ H Q I h;have hn:=I.aB.fresh (Wh s.heap.objs.size);have I1:=I.laid (a:=s.heap.objs.size) (o:=.dN 0 []) (h':=s.heap.push { cls:=.type "dict",data:=.dict #[] }) (t':=s.toks) (λ_ _ q=>Wa _ q) (Wh _) (Fn s.heap I.big);refine wpAny_Dict_any rfl rfl (by simp) (by simp) (pairTrees_cons_walk (aR (hk pins _ σ _ _ I1 (h _ hn)) λu s1 ⟨x,H1,J1,rx,q1⟩=>aR (hv pins s1 σ H1 _ J1 q1) λr s2 ⟨y,H2,J2,ry,g⟩=>pairTrees_nil_walk ?_));unfold storeAll;rw[Jh];refine W0 (W0 (Fe (by omega) J2 g rx ry λH3 s3 J3 q3=>W5 ?_));show W8 _ _ (forIn ([]:List (Value×Value)) PUnit.unit _) _ _ s3;rw[JP];exact W5 ⟨.ref s.heap.objs.size,H3,J3,rfl,q3⟩
def x5(H:Hp)(a:Addr):Prop:=∃ ep ae,H a=some (.dN ep ae)
theorem R_ (I:Inv X pins σ H s) (d:x5 H a):s.TypeIs (.ref a) "dict"/\(∀ b,Value.ref a = .ref b->∃ ob,s.heap.get? b=some ob/\ob.dict=none):=by
 obtain⟨ep,ae,e⟩:=d;obtain⟨_,_,xs,ob,es,_,d⟩:=oo I.aB e;exact⟨d.typeIs,d.noDict⟩
def Sa(td ty tx:TE):TE:=λσ H Q=>td σ H λx H1=>∃ a,x = .ref a/\x5 H1 a/\ty σ H1 λy H2=>tx σ H2 λz H3=>∃ r,lj H3 a y r/\Q (r.getD z) H3
theorem Sb (hu:X.A.units + 8 < WG) (ho:PE X o td) (he:PE X e ty) (hf:PE X f tx) (m:M2 X o "get" apos e f aZ):PE X (.Call (.Attribute o "get" apos) [e,f] [] aZ) (Sa td ty tx):=by
 intro pins s σ H Q I h;refine Ub m.base m.s_ m.line PySem.F.plainAttrs_dict Qi PySem.F.type_dict_get (aR (ho pins s σ H _ I h) λu s1 ⟨x,H1,I1,rx,a,ex,d,q1⟩=>?_);subst ex;obtain rfl:u=Value.ref a:=rx;obtain⟨t1,t2⟩:=R_ I1 d;refine⟨t1,t2,?_⟩;rw[m.trees];refine Calls.callWith_builtin rfl (Calls.evalArgs_plain (Calls.spliced_cons (aR (he pins s1 σ H1 _ I1 q1) λiv s2 ⟨y,H2,I2,ry,q2⟩ =>
  Calls.spliced_cons (aR (hf pins s2 σ H2 _ I2 q2) λfv s3 ⟨z,H3,I3,rz,r,g,q3⟩=>Calls.spliced_nil ?_))))
 exact Rw hu I3 g ry rz λw' s4 I4 aK=>⟨_,H3,I4,aK,q3⟩
end
end L2
namespace DV
open PySem PySem.Spec PyProof.Rows L2
def uX(fk fv:DE):DE:=λδ=>(fk δ).bind λr δ1=>(fv δ1).bind λs δ2=>match r,s with
 | .pure dk,.pure d=>if ko (ll dk) [] dk then .ok (.own (.dic [(dk,d)])) δ2 else .stuck
 | _,_=>.stuck
theorem Sd(hu:X.A.units + 64 < WG)(hk:∀ c',SE X c' k fk)(hv:∀ c',SE X c' v fv):SE X c (.Dict [some k] [v] pos) (uX fk fv):=by
 have PK:PE X k (λσ H Q=>∃ c',tD c' fk σ H Q):=λpins s σ H Q I ⟨c',h⟩=>hk c' pins s σ H Q I h
 have PV:PE X v (λσ H Q=>∃ c',tD c' fv σ H Q):=λpins s σ H Q I ⟨c',h⟩=>hv c' pins s σ H Q I h
 refine PE.weak (R9 (by omega) PK PV) λσ H Q ⟨δ,kk,q⟩=>?_
 intro p hp;unfold uX at q;rw[a_] at q;refine⟨c.plus p,δ,kk.plus hp _,Eb q λr δ1 q1 x H1 a1 rx=>?_⟩;rw[a_] at q1;refine⟨c.plus p,δ1,a1.ok,Eb q1 λs δ2 q2 y H2 a2 ry=>?_⟩;have A:=a1.trans a2;have h0:=kk.nD hp;have nb:¬ c.B p:=λz=>kk.jz hp (.inl z)
 have Se:H2 p=some (.dN 0 []):=A.keep p _ cZ λz=>kk.jz hp (.inr z)
 cases r with
 | own d=>exact q2.elim
 | pure dk =>
  cases s with
  | own d=>exact q2.elim
  | pure d =>
   simp only at q2;split at q2
   case isFalse=>exact q2.elim
   rename_i hg;obtain⟨g1,⟨kd,g2⟩,g3⟩:=xX hg;have Fp:Rep H2 (Av (c.plus p) σ δ2) x dk:=Rep.cR (show Rep H1 (Av (c.plus p) σ δ1) x dk from rx) a2;refine⟨ll dk,0,[],kd,Se,λ_ z=>by simp at z,uV g1 g2 Fp,by rw[PySem.sizeLine_eq]; decide,λgZ=>?_⟩;have em:putN [] kd x y=[(kd,x,y)]:=rfl;rw[em];have Fq:=A.ok.OY h0 (.dN gZ [(kd,x,y)]);have ne:∀ {a w},H a=some w->a≠p:=λe z=>by rw[z,hp] at e; cases e
   have kp:∀ b w,H2 b=some w->¬ Av (c.plus p) σ δ2 b->upd H2 p (.dN gZ [(kd,x,y)]) b=some w:=λb w e n=>by rw[aL (λz:b=p=>n (.inl (.inr z)))]; exact e
   refine q2 (.ref p) _ ⟨Fq.less,λa w e n=>?_,λa z=>?_,λa w e=>?_⟩ ⟨p,rfl,⟨gZ,[(kd,x,y)],cZ,DN.cons (Fp.keep kp) (Rep.keep (show Rep H2 (Av (c.plus p) σ δ2) y d from ry) kp) g2 .nil⟩,nb,h0,Fq,hp⟩
   ·rw[aL (ne e)];exact A.keep a w (by rw[aL (ne e)]; exact e) n
   ·by_cases zp:a=p
    ·rw[zp]; exact .inr hp
    ·rcases A.own a z with z | z
     ·exact .inl z
     ·rw[aL zp] at z; exact .inr z
   ·obtain⟨w',e'⟩:=A.there a w (by rw[aL (ne e)]; exact e);exact⟨w',by rw[aL (ne e)]; exact e'⟩
section
variable {X:Cx} {c:Fc} {o e f:Expr} {fe ff:DE} {i:Nat} {apos aZ:Pos}
def uY(δ:Dl)(i:Nat):Bool:=match δ[i]? with
 | some (some s)=>match s.d with
  | .dic _=>true
  | _=>false
 | _=>false
theorem Sf(k:Ok c σ δ H)(h:uY δ i=true):∃ a,σ[i]? = some (some (.ref a))/\x5 H a:=by
 unfold uY at h;split at h
 ·rename_i s e;split at h
  ·rename_i ds hs;obtain⟨v,ev⟩:=oQ k e;have rb:=md k e ev;rw[hs] at rb;obtain⟨a,ep,ws,rfl,ha,_⟩:=Fj rb;exact⟨a,ev,ep,ws,ha⟩
  ·cases h
 ·cases h
def rR(i:Nat)(fe ff:DE):DE:=λδ=>if uY δ i then(fe δ).bind λk δ1=>(ff δ1).bind λz δ2=>match δ2[i]? with
  | some (some s)=>match s.d with
   | .dic ds=>if ko (ll k.d) ds k.d then .ok (.pure ((jN ds k.d).getD z.d)) δ2 else .stuck
   | _=>.stuck
  | _=>.stuck else .stuck
theorem Sg (hu:X.A.units + 64 < WG) (ho:PE X o (cz i)) (he:SE X c e fe) (hx:SE X c f ff) (hb:Qt o "get" X.env (eval o X.env)=eval o X.env:=by rfl)
  (hf:((Q5 aZ (Wf [e,f] X.env)).all (λx=>!x.1) && (JK aZ (QR [] X.env)).all (λx=>x.1.isSome)
   && decide (([e,f]:List Expr).length + ([]:List Keyword).length + (if ([]:List Keyword).isEmpty then 0 else 1) < 30))=true:=by rfl) (hl:(apos.endLine == aZ.line)=true:=by rfl)
  (ht:Q5 aZ (Wf [e,f] X.env)=[(false,eval e X.env),(false,eval f X.env)]:=by rfl):SE X c (.Call (.Attribute o "get" apos) [e,f] [] aZ) (rR i fe ff) :=
 PE.weak (Sb (by omega) ho he hx ⟨hb,hf,hl,ht⟩) λσ H Q ⟨δ,k,q⟩=>by
  unfold rR at q;split at q
  case isFalse=>exact q.elim
  rename_i hd;obtain⟨a,e3,hn⟩:=Sf k hd;rw[a_] at q;refine⟨.ref a,e3,a,rfl,hn,δ,k,aO q λkx δ1 q1 v H1 a1 r1=>⟨δ1,a1.ok,?_⟩⟩;rw[a_] at q1;refine aO q1 λzx δ2 q2 u H2 a2 r2=>?_
  split at q2
  ·rename_i s1 es1;split at q2
   ·rename_i ds1 i9;split at q2
    ·rename_i hg;have rb:=md a2.ok es1 e3;rw[i9] at rb;obtain⟨a',r,ea,g,rr⟩:=RG rb (show cJ c σ δ2 H2 v kx.d from .inl (Rep.cR r1.rep a2)) hg
     cases ea;refine⟨r,g,?_⟩;rcases rr with ⟨z1,rfl⟩ | ⟨v',d,z1,rfl,z3⟩
     ·rw[z1] at q2; exact q2 _ H2 (a1.trans a2) r2.rep
     ·rw[z1] at q2; exact q2 _ H2 (a1.trans a2) z3
    ·exact q2.elim
   ·exact q2.elim
  ·exact q2.elim
end
end DV
namespace K18
open PySem.W (nsIn keepIn codeIn findIn mroIn kitOne mg_of)
open PySem PySem.Spec PyProof.Rows L2 DV
theorem ak{a b:Prop}(h:a\/b:=by first|exact Or.inl rfl|exact Or.inr rfl):a\/b:=h
def top(i:Nat):Stmt:=PySem.Challenge.pw_tilegrow_k18_first_rows_and_columns.main.body.getD i (.Pass ⟨0,0,0,0⟩)
abbrev x6:Stmt:=top 17
abbrev x8:Stmt:=top 19
abbrev x9:Stmt:=top 18
abbrev x_:Stmt:=top 20
abbrev ya:Stmt:=top 23
abbrev yb:Stmt:=top 22
abbrev yc:Stmt:=top 24
abbrev yd:Stmt:=top 16
abbrev ye:Stmt:=top 25
abbrev yf:Stmt:=top 26
abbrev yg:Stmt:=top 30
abbrev yh:Stmt:=top 21
abbrev yi:Stmt:=top 29
abbrev yj:Stmt:=top 8
abbrev yk:Stmt:=top 9
abbrev yl:Stmt:=top 5
abbrev ym:Stmt:=top 6
abbrev yn:Stmt:=top 14
abbrev yo:Stmt:=top 10
abbrev yp:Stmt:=top 12
abbrev yq:Stmt:=top 13
abbrev yr:Stmt:=top 32
abbrev yt:Stmt:=top 27
abbrev yu:Stmt:=top 28
abbrev yv:Stmt:=top 31
abbrev yw:Stmt:=top 33
abbrev lr:Stmt:=top 34
structure Txt(K:W3)(mg:Str->Option Value):Prop where
 rS:mg "all" = none
 pH:mg "bool" = none
 mF:mg "dict" = none
 pI:mg "enumerate" = none
 mG:mg "int" = none
 jP:mg "isinstance" = none
 iN:mg "len" = none
 pJ:mg "list" = none
 rT:mg "max" = none
 gS:mg "range" = none
 rU:mg "sorted" = none
 rV:mg "str" = none
 rW:mg "sum" = none
 mH:mg "tuple" = none
 lu:mg "zip" = none
 ty_bool:iE K "bool"
 ty_int:iE K "int"
 ty_list:iE K "list"
 ty_str:iE K "str"
 ty_tuple:iE K "tuple"
def yx:DS:=(ay (da (aV (ag ka 1 (aj (bh cb (ao 0))))) (bM (ag aq 0 (ao 1))) cV) (bM (eD (.int 0))))
def mI:DF:=b9 [] 2 yx
theorem Sh:c7 mI:=dF
theorem Si:cL ["script","k"] ["script","k"] (cf x6):=scc
theorem Sj {K:W3} (F:cu K "_law_cell_at" "_law_cell_at" x6 f fd) (hm:mg "_law_cell_at" = some (.ref f)) (hb:Binds K fd ["script","k"] []) (T:Txt K mg):aP P w K mg base 1 "_law_cell_at" 2 mI :=
 dQ (np:=[]) (fb:=yx) F hm hb Si (λc bu A outer s H E hr ax=>by
  have hq:=dG hr;refine(aU ?_ ?_)
  ·refine(gk ?_ ?_ ?_)
   ·exact(nJ wx wz (pv 1) (aC (kX rfl T.iN (bK (pv 0)) (by rfl))) (eZ _))
   ·refine(bq ?_);refine(cE ?_);exact(bG bx bz (pv 0) (bK (pv 1)) (λ_ _=>rfl))
   ·exact fS
  refine(bq ?_);refine(cE ?_);exact aH) λss y h=>du h
def yy:DS:=(ay (au (tZ (aa 0) (aM nL (eD (.int 0)) (ao 0))) (af [] 1)) (bM (jA (bH (aa 1) (bH (bh gN (aj (ag CF 1 (aj (aM wt (eD (.int 10)) (aj (eD (.int 18)))))))) (bH (ag fj 1 (aj (eD (.int 1000003)))) cU))))))
def kq:DF:=b9 [] 2 yy
theorem Sk:c7 kq:=dF
theorem Fs:cL ["cell","left"] ["cell"] (cf x8):=scc
theorem Sl {K:W3} (F:cu K "_law_pen_of" "_law_pen_of" x8 f fd) (hm:mg "_law_pen_of" = some (.ref f)) (hb:Binds K fd ["cell"] []) (T:Txt K mg):aP P w K mg base 1 "_law_pen_of" 1 kq :=
 dQ (np:=[]) (fb:=yy) F hm hb Fs (λc bu A outer s H E hr ax=>by
  have hq:=dG hr;refine(aU ?_ ?_)
  ·exact(@bJ _ _ _ _ _ _ ([]) (1) _ ax Fs.nd rfl ak (MY rfl rfl T.rT (aA (pv 0)) (cM AU Cz aH (bK (pv 0))) (by rfl) (by rfl) (by rfl)) rfl ak)
  refine(bq ?_);refine(cE ?_);exact(oV (dR (aA (pv 1)) (dR (CJ rfl T.mG (aC (l6 MP l8 (pv 1) (aC (cM Kh MN aH (aC aH))) (eZ _))) (by rfl)) (dR (dX kJ kW (pv 1) (aC aH)) gz (by rfl)) (by rfl)) (by rfl)) (by decide))) λss y h=>du h
def yz:DS:=(ay (au (aM fj (ag aN 0 (aj (eD (.int 7919)))) (aj (eD (.int 2147483647)))) (af [] 0)) (bM (aM fj (aM aN (aM aN (ag c8 0 (ao 0)) (aj (aM c8 (eD (.int 48271)) (ao 0)))) (aj (eD (.int 12345)))) (aj (eD (.int 2147483629))))))
def mJ:DF:=b9 [] 1 yz
theorem Ft:c7 mJ:=dF
theorem Fu:cL ["seed"] ["seed"] (cf x9):=scc
theorem Sm {K:W3} (F:cu K "_law_next" "_law_next" x9 f fd) (hm:mg "_law_next" = some (.ref f)) (hb:Binds K fd ["seed"] []) (T:Txt K mg):aP P w K mg base 1 "_law_next" 1 mJ :=
 dQ (np:=[]) (fb:=yz) F hm hb Fu (λc bu A outer s H E hr ax=>by
  have hq:=dG hr;refine(aU ?_ ?_)
  ·exact(@bJ _ _ _ _ _ _ ([]) (0) _ ax Fu.nd rfl ak (cM kJ kW (dX dY dZ (pv 0) (aC aH)) (aC aH)) rfl ak)
  refine(bq ?_);refine(cE ?_);exact(cM kJ kW (cM dY dZ (cM dY dZ (dX nW nX (pv 0) (bK (pv 0))) (aC (cM nW nX aH (bK (pv 0))))) (aC aH)) (aC aH))) λss y h=>du h
def yA:DS:=(ay (da (aV (aM cn (ag aq 0 (aj (eD (.int 1)))) (aj (eD (.int 1))))) (ay (au (aM fj (ag aq 0 (aj (eD (.int 0)))) (ao 1)) (af [0] 2)) (ay (o_ 0 (eD (.int 0)) (aM mw (ag aq 0 (aj (eD (.int 0)))) (ao 1))) (bM (aa 2)))) cV) (ay (o_ 0 (eD (.int 2)) (aw mJ [.val (aM aN (aw mJ [.val (ag aq 0 (aj (eD (.int 2))))]) (aj (eD (.int 7))))])) (bM (aM fj (aM gi (ag aq 0 (aj (eD (.int 2)))) (aj (eD (.int 64)))) (ao 1)))))
def b_:DF:=b9 [0] 3 yA
theorem fF:c7 b_:=dF
theorem Fv:cL ["pen","many","found"] ["pen","many"] (cf x_):=scc
theorem Sn {K:W3} (F:cu K "_law_draw" "_law_draw" x_ f fd) (hm:mg "_law_draw" = some (.ref f)) (hb:Binds K fd ["pen","many"] []) (T:Txt K mg) (uZ:aP P w K mg base 1 "_law_next" 1 mJ):aP P w K mg base 2 "_law_draw" 2 b_ :=
 dQ (np:=[0]) (fb:=yA) F hm hb Fv (λc bu A outer s H E hr ax=>by
  have hq:=dG hr;refine(aU ?_ ?_)
  ·refine(gk ?_ ?_ ?_)
   ·exact(nH (j7 hq) j_ (bG bx bz (pv 0) (aC aH) (λ_ _=>rfl)) (aC aH) (eZ _))
   ·refine(aU ?_ ?_)
    ·exact(@bJ _ _ _ _ _ _ ([0]) (2) _ ax Fv.nd rfl ak (cM kJ kW (bG bx bz (pv 0) (aC aH) (λ_ _=>rfl)) (bK (pv 1))) rfl ak)
    refine(aU ?_ ?_)
    ·exact(CY (pv 0) aH (cM xn xo (bG bx bz (pv 0) (aC aH) (λ_ _=>rfl)) (bK (pv 1))) (by intro _; rfl) (by rfl) (by rfl) (by rfl))
    refine(bq ?_);refine(cE ?_);exact(aA (pv 2))
   ·exact fS
  refine(aU ?_ ?_)
  ·exact(CY (pv 0) aH (@bE _ _ _ _ _ (1) _ _ _ _ _ uZ Ft (hr.mono (by decide)) rfl (aE (cM dY dZ (@bE _ _ _ _ _ (1) _ _ _ _ _ uZ Ft (hr.mono (by decide)) rfl (aE (bG bx bz (pv 0) (aC aH) (λ_ _=>rfl)) bD (by rfl)) rfl (by decide) (by rfl) (by rfl)) (aC aH)) bD (by rfl)) rfl (by decide) (by rfl) (by rfl)) (by intro _; rfl) (by rfl) (by rfl) (by rfl))
  refine(bq ?_);refine(cE ?_);exact(cM kJ kW (cM qg qD (bG bx bz (pv 0) (aC aH) (λ_ _=>rfl)) (aC aH)) (bK (pv 1)))) λss y h=>du h
def yB:DS:=(ay (au (aM aN (eD (.int 1)) (aj (aw b_ [.io 0,.val (eD (.int 3))]))) (af [0] 1)) (ay (au (aM aN (eD (.int 1)) (aj (aw b_ [.io 0,.val (eD (.int 3))]))) (af [0] 2)) (ay (da (aV (aM cn (aw b_ [.io 0,.val (eD (.int 8))]) (aj (eD (.int 0))))) (au (aM aq (fV [.tup [.int 4,.int 1],.tup [.int 1,.int 4],.tup [.int 4,.int 4],.tup [.int 4,.int 3],.tup [.int 1,.int 2],.tup [.int 2,.int 1]]) (aj (aw b_ [.io 0,.val (eD (.int 6))]))) (bI 2 (aI (af [0] 1) (aI (af [0] 2) bL)))) cV) (ay (da (aV (aM cn (ag aN 1 (ao 2)) (aj (eD (.int 2))))) (au (eD (.int 2)) (af [0] 2)) cV) (bM (d_ (bH (aa 1) (bH (aa 2) cU))))))))
def oq:DF:=b9 [0] 3 yB
theorem So:c7 oq:=dF
theorem pK:cL ["pen","high","wide"] ["pen"] (cf ya):=scc
theorem Sq {K:W3} (F:cu K "_law_sizes_by" "_law_sizes_by" ya f fd) (hm:mg "_law_sizes_by" = some (.ref f)) (hb:Binds K fd ["pen"] []) (T:Txt K mg) (cX:aP P w K mg base 2 "_law_draw" 2 b_):aP P w K mg base 3 "_law_sizes_by" 1 oq :=
 dQ (np:=[0]) (fb:=yB) F hm hb pK (λc bu A outer s H E hr ax=>by
  have hq:=dG hr;refine(@aU _ _ _ _ _ _ ?_ ?_)
  ·exact(@bJ _ _ _ _ _ _ ([0]) (1) _ ax pK.nd rfl ak (@cM _ _ _ _ _ _ _ _ _ _ dY dZ (@aH _ _ _ _ _) (@aC _ _ _ _ (@bE _ _ _ _ _ (2) _ _ _ _ _ cX fF (hr.mono (by decide)) rfl (@eh _ _ _ _ _ _ (pv 0) (@aE _ _ _ _ _ _ (@aH _ _ _ _ _) (@bD _ _) (by rfl)) (by rfl)) rfl (by decide) (by rfl) (by rfl)))) rfl ak)
  refine(@aU _ _ _ _ _ _ ?_ ?_)
  ·exact(@bJ _ _ _ _ _ _ ([0]) (2) _ ax pK.nd rfl ak (@cM _ _ _ _ _ _ _ _ _ _ dY dZ (@aH _ _ _ _ _) (@aC _ _ _ _ (@bE _ _ _ _ _ (2) _ _ _ _ _ cX fF (hr.mono (by decide)) rfl (@eh _ _ _ _ _ _ (pv 0) (@aE _ _ _ _ _ _ (@aH _ _ _ _ _) (@bD _ _) (by rfl)) (by rfl)) rfl (by decide) (by rfl) (by rfl)))) rfl ak)
  refine(@aU _ _ _ _ _ _ ?_ ?_)
  ·refine(@gk _ _ _ _ _ _ _ _ _ ?_ ?_ ?_)
   ·exact(@nH _ _ _ _ _ _ _ _ _ _ (j7 hq) j_ (@bE _ _ _ _ _ (2) _ _ _ _ _ cX fF (hr.mono (by decide)) rfl (@eh _ _ _ _ _ _ (pv 0) (@aE _ _ _ _ _ _ (@aH _ _ _ _ _) (@bD _ _) (by rfl)) (by rfl)) rfl (by decide) (by rfl) (by rfl)) (@aC _ _ _ _ (@aH _ _ _ _ _)) (eZ _))
   ·refine(@bq _ _ _ _ ?_);refine(@wL _ _ _ _ _ _ _ ?_ ?_ (by rfl) (by rfl) (by rfl))
    ·exact(@oR _ _ _ _ _ _ _ _ _ bx bz (@qU _ _ _ _ _ (by rfl) (by decide)) (@aC _ _ _ _ (@bE _ _ _ _ _ (2) _ _ _ _ _ cX fF (hr.mono (by decide)) rfl (@eh _ _ _ _ _ _ (pv 0) (@aE _ _ _ _ _ _ (@aH _ _ _ _ _) (@bD _ _) (by rfl)) (by rfl)) rfl (by decide) (by rfl) (by rfl))) (λ_ _=>rfl))
    ·exact(@kZ _ _ _ _ _ _ _ rfl (@fK _ _ _ _ _ _ (@cN _ _ _ ([0]) (1) _ ax pK.nd rfl ak ak) (@fK _ _ _ _ _ _ (@cN _ _ _ ([0]) (2) _ ax pK.nd rfl ak ak) (@kY _ _) (by rfl)) (by rfl)) (by rfl) (by rfl))
   ·exact fS
  refine(@aU _ _ _ _ _ _ ?_ ?_)
  ·refine(@gk _ _ _ _ _ _ _ _ _ ?_ ?_ ?_)
   ·exact(@nH _ _ _ _ _ _ _ _ _ _ (j7 hq) j_ (@dX _ _ _ _ _ _ _ _ _ _ dY dZ (pv 1) (@bK _ _ _ _ (pv 2))) (@aC _ _ _ _ (@aH _ _ _ _ _)) (eZ _))
   ·refine(@bq _ _ _ _ ?_);exact(@bJ _ _ _ _ _ _ ([0]) (2) _ ax pK.nd rfl ak (@aH _ _ _ _ _) rfl ak)
   ·exact fS
  refine(@bq _ _ _ _ ?_);refine(@cE _ _ _ _ _ ?_);exact(@jB _ _ _ _ _ _ (@dR _ _ _ _ _ _ (@aA _ _ _ _ (pv 1)) (@dR _ _ _ _ _ _ (@aA _ _ _ _ (pv 2)) (@gz _ _) (by rfl)) (by rfl)) (by decide))) λss y h=>du h
def yC:DS:=(ay (da (aV (ag cn 3 (aj (eD (.int 1))))) (bM (ag aq 1 (aj (aw b_ [.io 0,.val (ag aN 2 (aj (eD (.int 1))))])))) cV) (ay (da (aV (ag cn 3 (aj (eD (.int 2))))) (bM (ag aq 1 (aj (aM fj (ag aN 2 (aj (eD (.int 1)))) (aj (bh cb (ao 1))))))) cV) (ay (da (kT (aV (ag cn 3 (aj (eD (.int 3))))) (aV (aM wA (aw b_ [.io 0,.val (eD (.int 4))]) (aj (eD (.int 0)))))) (bM (ag aq 1 (ao 2))) cV) (bM (ag aq 1 (aj (aw b_ [.io 0,.val (bh cb (ao 1))])))))))
def iO:DF:=b9 [0] 4 yC
theorem Sr:c7 iO:=dF
theorem Ss:cL ["pen","tiles","place","way"] ["pen","tiles","place","way"] (cf yb):=scc
theorem Su {K:W3} (F:cu K "_law_pick" "_law_pick" yb f fd) (hm:mg "_law_pick" = some (.ref f)) (hb:Binds K fd ["pen","tiles","place","way"] []) (T:Txt K mg) (cX:aP P w K mg base 2 "_law_draw" 2 b_):aP P w K mg base 3 "_law_pick" 4 iO :=
 dQ (np:=[0]) (fb:=yC) F hm hb Ss (λc bu A outer s H E hr ax=>by
  have hq:=dG hr;refine(aU ?_ ?_)
  ·refine(gk ?_ ?_ ?_)
   ·exact(nJ (j7 hq) j_ (pv 3) (aC aH) (eZ _))
   ·refine(bq ?_);refine(cE ?_);exact(bG bx bz (pv 1) (aC (@bE _ _ _ _ _ (2) _ _ _ _ _ cX fF (hr.mono (by decide)) rfl (eh (pv 0) (aE (dX dY dZ (pv 2) (aC aH)) bD (by rfl)) (by rfl)) rfl (by decide) (by rfl) (by rfl))) (λ_ _=>rfl))
   ·exact fS
  refine(aU ?_ ?_)
  ·refine(gk ?_ ?_ ?_)
   ·exact(nJ (j7 hq) j_ (pv 3) (aC aH) (eZ _))
   ·refine(bq ?_);refine(cE ?_);exact(bG bx bz (pv 1) (aC (cM kJ kW (dX dY dZ (pv 2) (aC aH)) (aC (kX rfl T.iN (bK (pv 1)) (by rfl))))) (λ_ _=>rfl))
   ·exact fS
  refine(aU ?_ ?_)
  ·refine(gk ?_ ?_ ?_)
   ·exact(l7 (wo (nJ (j7 hq) j_ (pv 3) (aC aH) (eZ _)) (wm (nH MO l8 (@bE _ _ _ _ _ (2) _ _ _ _ _ cX fF (hr.mono (by decide)) rfl (eh (pv 0) (aE aH bD (by rfl)) (by rfl)) rfl (by decide) (by rfl) (by rfl)) (aC aH) (eZ _)))))
   ·refine(bq ?_);refine(cE ?_);exact(bG bx bz (pv 1) (bK (pv 2)) (λ_ _=>rfl))
   ·exact fS
  refine(bq ?_);refine(cE ?_);exact(bG bx bz (pv 1) (aC (@bE _ _ _ _ _ (2) _ _ _ _ _ cX fF (hr.mono (by decide)) rfl (eh (pv 0) (aE (kX rfl T.iN (bK (pv 1)) (by rfl)) bD (by rfl)) (by rfl)) rfl (by decide) (by rfl) (by rfl))) (λ_ _=>rfl))) λss y h=>du h
def yD:DS:=(ay (au (aw oq [.io 0]) (bI 2 (aI (af [0] 2) (aI (af [0] 3) bL)))) (ay (au (aM aN (eD (.int 1)) (aj (aw b_ [.io 0,.val (aa 1)]))) (af [0] 4)) (ay (au (aw b_ [.io 0,.val (eD (.int 26))]) (af [0] 5)) (ay (au (eD (.str [97,98,99,100,101,102,103,104,105,106,107,108,109,110,111,112,113,114,115,116,117,118,119,120,121,122])) (af [0] 6)) (ay (au (bh oY (aj (cq [13] (dE (aa 4)) (af [0] 13) bj (ag aq 6 (aj (aM fj (ag aN 5 (aj (aM c8 (eD (.int 5)) (ao 13)))) (aj (eD (.int 26))))))))) (af [0] 7)) (ay (au (aw b_ [.io 0,.val (eD (.int 5))]) (af [0] 8)) (ay (au (jA cU) (af [0] 9)) (ay (cF (dE (aa 4)) (af [0] 10) (ay (au (jA cU) (af [0] 11)) (ay (cF (dE (aa 2)) (af [0] 12) (fT 11 (bh (dC []) (aj (cq [14] (dE (aa 3)) (af [0] 14) bj (aw iO [.io 0,.val (aa 7),.val (aa 10),.val (aa 8)])))))) (fT 9 (d_ (bH (ag aq 7 (ao 10)) (bH (bh iB (ao 11)) cU))))))) (bM (d_ (bH (aa 2) (bH (aa 3) (bH (bh iB (ao 9)) cU)))))))))))))
def kr:DF:=b9 [0] 15 yD
theorem Sv:c7 kr:=dF
theorem ib:cL ["pen","most","high","wide","size","first","letters","tiles","way","blocks","place","block","row","k","column"] ["pen","most"] (cf yc):=scc
theorem Sw {K:W3} (F:cu K "_law_rule_by" "_law_rule_by" yc f fd) (hm:mg "_law_rule_by" = some (.ref f)) (hb:Binds K fd ["pen","most"] []) (T:Txt K mg) (cX:aP P w K mg base 2 "_law_draw" 2 b_) (yE:aP P w K mg base 3 "_law_sizes_by" 1 oq) (yF:aP P w K mg base 3 "_law_pick" 4 iO):aP P w K mg base 4 "_law_rule_by" 2 kr :=
 dQ (np:=[0]) (fb:=yD) F hm hb ib (λc bu A outer s H E hr ax=>by
  have hq:=dG hr;refine(@aU _ _ _ _ _ _ ?_ ?_)
  ·refine(@wL _ _ _ _ _ _ _ ?_ ?_ (by rfl) (by rfl) (by rfl))
   ·exact(@bE _ _ _ _ _ (3) _ _ _ _ _ yE So (hr.mono (by decide)) rfl (@eh _ _ _ _ _ _ (pv 0) (@bD _ _) (by rfl)) rfl (by decide) (by rfl) (by rfl))
   ·exact(@kZ _ _ _ _ _ _ _ rfl (@fK _ _ _ _ _ _ (@cN _ _ _ ([0]) (2) _ ax ib.nd rfl ak ak) (@fK _ _ _ _ _ _ (@cN _ _ _ ([0]) (3) _ ax ib.nd rfl ak ak) (@kY _ _) (by rfl)) (by rfl)) (by rfl) (by rfl))
  refine(@aU _ _ _ _ _ _ ?_ ?_)
  ·exact(@bJ _ _ _ _ _ _ ([0]) (4) _ ax ib.nd rfl ak (@cM _ _ _ _ _ _ _ _ _ _ dY dZ (@aH _ _ _ _ _) (@aC _ _ _ _ (@bE _ _ _ _ _ (2) _ _ _ _ _ cX fF (hr.mono (by decide)) rfl (@eh _ _ _ _ _ _ (pv 0) (@aE _ _ _ _ _ _ (@aA _ _ _ _ (pv 1)) (@bD _ _) (by rfl)) (by rfl)) rfl (by decide) (by rfl) (by rfl)))) rfl ak)
  refine(@aU _ _ _ _ _ _ ?_ ?_)
  ·exact(@bJ _ _ _ _ _ _ ([0]) (5) _ ax ib.nd rfl ak (@bE _ _ _ _ _ (2) _ _ _ _ _ cX fF (hr.mono (by decide)) rfl (@eh _ _ _ _ _ _ (pv 0) (@aE _ _ _ _ _ _ (@aH _ _ _ _ _) (@bD _ _) (by rfl)) (by rfl)) rfl (by decide) (by rfl) (by rfl)) rfl ak)
  refine(@aU _ _ _ _ _ _ ?_ ?_)
  ·exact(@bJ _ _ _ _ _ _ ([0]) (6) _ ax ib.nd rfl ak (@B7 _ _ _ _ _ [97,98,99,100,101,102,103,104,105,106,107,108,109,110,111,112,113,114,115,116,117,118,119,120,121,122] (by decide +kernel)) rfl ak)
  refine(@aU _ _ _ _ _ _ ?_ ?_)
  ·exact(@bJ _ _ _ _ _ _ ([0]) (7) _ ax ib.nd rfl ak (@MX _ _ _ _ _ _ rfl T.rU (@aC _ _ _ _ (@jH _ _ ([13]) _ _ _ _ _ _ _ _ _ _ rfl (@gE _ _ _ rfl rfl) (@jG _ _ _ _ _ _ _ rfl T.gS (@aA _ _ _ _ (pv 4)) (by rfl)) (λl s0 H0 ex=>(@fm _ _ _ _ ([0]) (13) _ ax ib.nd rfl ak ak (by decide))) (λl s0 H0 ex=>(@gP _ _)) (λl s0 H0 ex=>(@bG _ _ _ _ _ _ _ _ _ bx bz (pv 6) (@aC _ _ _ _ (@cM _ _ _ _ _ _ _ _ _ _ kJ kW (@dX _ _ _ _ _ _ _ _ _ _ dY dZ (pv 5) (@aC _ _ _ _ (@cM _ _ _ _ _ _ _ _ _ _ nW nX (@aH _ _ _ _ _) (@bK _ _ _ _ (pv 13))))) (@aC _ _ _ _ (@aH _ _ _ _ _)))) (λ_ _=>rfl))) (gD ax rfl) (by intro _; rfl))) (by rfl)) rfl ak)
  refine(@aU _ _ _ _ _ _ ?_ ?_)
  ·exact(@bJ _ _ _ _ _ _ ([0]) (8) _ ax ib.nd rfl ak (@bE _ _ _ _ _ (2) _ _ _ _ _ cX fF (hr.mono (by decide)) rfl (@eh _ _ _ _ _ _ (pv 0) (@aE _ _ _ _ _ _ (@aH _ _ _ _ _) (@bD _ _) (by rfl)) (by rfl)) rfl (by decide) (by rfl) (by rfl)) rfl ak)
  refine(@aU _ _ _ _ _ _ ?_ ?_)
  ·exact(@bJ _ _ _ _ _ _ ([0]) (9) _ ax ib.nd rfl ak (@oV _ _ _ _ _ (@gz _ _) (by decide)) rfl ak)
  refine(@aU _ _ _ _ _ _ ?_ ?_)
  ·refine(@fL _ _ _ _ _ _ _ _ _ PassesOwn.never rfl ?_ ?_ ?_ (by intro _; rfl))
   ·exact(@jG _ _ _ _ _ _ _ rfl T.gS (@aA _ _ _ _ (pv 4)) (by rfl))
   ·exact(@cN _ _ _ ([0]) (10) _ ax ib.nd rfl ak ak)
   ·refine(@aU _ _ _ _ _ _ ?_ ?_)
    ·exact(@bJ _ _ _ _ _ _ ([0]) (11) _ ax ib.nd rfl ak (@oV _ _ _ _ _ (@gz _ _) (by decide)) rfl ak)
    refine(@aU _ _ _ _ _ _ ?_ ?_)
    ·refine(@fL _ _ _ _ _ _ _ _ _ PassesOwn.never rfl ?_ ?_ ?_ (by intro _; rfl))
     ·exact(@jG _ _ _ _ _ _ _ rfl T.gS (@aA _ _ _ _ (pv 2)) (by rfl))
     ·exact(@cN _ _ _ ([0]) (12) _ ax ib.nd rfl ak ak)
     ·refine(@bq _ _ _ _ ?_);exact(@w6 _ _ _ _ _ _ _ _ _ (pv 11) (@t6 _ _ _ _ _ _ _ _ _ [] (@aC _ _ _ _ (@jH _ _ ([14]) _ _ _ _ _ _ _ _ _ _ rfl (@gE _ _ _ rfl rfl) (@jG _ _ _ _ _ _ _ rfl T.gS (@aA _ _ _ _ (pv 3)) (by rfl)) (λl s0 H0 ex=>(@fm _ _ _ _ ([0]) (14) _ ax ib.nd rfl ak ak (by decide))) (λl s0 H0 ex=>(@gP _ _)) (λl s0 H0 ex=>(@bE _ _ _ _ _ (3) _ _ _ _ _ yF Sr (hr.mono (by decide)) rfl (@eh _ _ _ _ _ _ (pv 0) (@aE _ _ _ _ _ _ (@aA _ _ _ _ (pv 7)) (@aE _ _ _ _ _ _ (@aA _ _ _ _ (pv 10)) (@aE _ _ _ _ _ _ (@aA _ _ _ _ (pv 8)) (@bD _ _) (by rfl)) (by rfl)) (by rfl)) (by rfl)) rfl (by decide) (by rfl) (by rfl))) (gD ax rfl) (by intro _; rfl))) (by decide +kernel) (by rfl) (by rfl) (by rfl) (by rfl)) (by rfl) (by rfl) (by rfl) (by rfl) (by rfl))
    refine(@bq _ _ _ _ ?_);exact(@w6 _ _ _ _ _ _ _ _ _ (pv 9) (@jB _ _ _ _ _ _ (@dR _ _ _ _ _ _ (@bG _ _ _ _ _ _ _ _ _ bx bz (pv 7) (@bK _ _ _ _ (pv 10)) (λ_ _=>rfl)) (@dR _ _ _ _ _ _ (@wH _ _ _ _ _ _ rfl T.mH (@bK _ _ _ _ (pv 11)) (by rfl)) (@gz _ _) (by rfl)) (by rfl)) (by decide)) (by rfl) (by rfl) (by rfl) (by rfl) (by rfl))
  refine(@bq _ _ _ _ ?_);refine(@cE _ _ _ _ _ ?_);exact(@jB _ _ _ _ _ _ (@dR _ _ _ _ _ _ (@aA _ _ _ _ (pv 2)) (@dR _ _ _ _ _ _ (@aA _ _ _ _ (pv 3)) (@dR _ _ _ _ _ _ (@wH _ _ _ _ _ _ rfl T.mH (@bK _ _ _ _ (pv 9)) (by rfl)) (@gz _ _) (by rfl)) (by rfl)) (by rfl)) (by decide))) λss y h=>du h
def yG:DS:=(ay (au (eD (.int 1)) (af [] 2)) (ay (cF (dE (aa 1)) (af [] 3) (au (ag c8 2 (ao 0)) (af [] 2))) (bM (aa 2))))
def gT:DF:=b9 [] 4 yG
theorem yH:c7 gT:=dF
theorem u0:cL ["base","often","found","turn"] ["base","often"] (cf yd):=scc
theorem Sx {K:W3} (F:cu K "_law_power" "_law_power" yd f fd) (hm:mg "_law_power" = some (.ref f)) (hb:Binds K fd ["base","often"] []) (T:Txt K mg):aP P w K mg base 1 "_law_power" 2 gT :=
 dQ (np:=[]) (fb:=yG) F hm hb u0 (λc bu A outer s H E hr ax=>by
  have hq:=dG hr;refine(aU ?_ ?_)
  ·exact(@bJ _ _ _ _ _ _ ([]) (2) _ ax u0.nd rfl ak aH rfl ak)
  refine(aU ?_ ?_)
  ·refine(fL PassesOwn.never rfl ?_ ?_ ?_ (by intro _; rfl))
   ·exact(jG rfl T.gS (aA (pv 1)) (by rfl))
   ·exact(@cN _ _ _ ([]) (3) _ ax u0.nd rfl ak ak)
   ·refine(bq ?_);exact(@bJ _ _ _ _ _ _ ([]) (2) _ ax u0.nd rfl ak (dX nW nX (pv 2) (bK (pv 0))) rfl ak)
  refine(bq ?_);refine(cE ?_);exact(aA (pv 2))) λss y h=>du h
abbrev yI :DS:=(ay (au qW (af [] 2)) (ay (cF (cA (ag aq 0 (aj (eD (.int 2))))) (bI 2 (aI (af [] 3) (aI (af [] 4) bL))) (px 2 (aa 3) (aa 4))) (ay (au (jA cU) (af [] 5)) (ay (cF (cA (aa 1)) (af [] 6) (cF (dE (ag aq 0 (aj (eD (.int 0))))) (af [] 7) (fT 5 (bh (dC []) (aj (cq [3] (cA (aa 6)) (af [] 3) bj (aM aq (ag e_ 2 (ao 3)) (ao 7)))))))) (bM (bh iB (ao 5)))))))
def yJ:DS:=yI
def jQ:DF:=b9 [] 8 yJ
theorem Sy:c7 jQ:=dF
theorem mK:cL ["rule","floor","blocks","tile","block","rows","row","line"] ["rule","floor"] (cf ye):=scc
theorem Sz {K:W3} (F:cu K "_law_grow" "_law_grow" ye f fd) (hm:mg "_law_grow" = some (.ref f)) (hb:Binds K fd ["rule","floor"] []) (T:Txt K mg):aP P w K mg base 1 "_law_grow" 2 jQ :=
 dQ (np:=[]) (fb:=yJ) F hm hb mK (λc bu A outer s H E hr ax=>by
  have hq:=dG hr;refine(aU ?_ ?_)
  ·exact(@bJ _ _ _ _ _ _ ([]) (2) _ ax mK.nd rfl ak Dw rfl ak)
  refine(aU ?_ ?_)
  ·refine(fL PassesOwn.never rfl ?_ ?_ ?_ (by intro _; rfl))
   ·exact(gF (bG bx bz (pv 0) (aC aH) (λ_ _=>rfl)))
   ·exact(kZ rfl (fK (@cN _ _ _ ([]) (3) _ ax mK.nd rfl ak ak) (fK (@cN _ _ _ ([]) (4) _ ax mK.nd rfl ak ak) kY (by rfl)) (by rfl)) (by rfl) (by rfl))
   ·refine(bq ?_);exact(OE hq (pv 2) (aA (pv 3)) (aA (pv 4)) (by rfl))
  refine(aU ?_ ?_)
  ·exact(@bJ _ _ _ _ _ _ ([]) (5) _ ax mK.nd rfl ak (oV gz (by decide)) rfl ak)
  refine(aU ?_ ?_)
  ·refine(fL PassesOwn.never rfl ?_ ?_ ?_ (by intro _; rfl))
   ·exact(gF (aA (pv 1)))
   ·exact(@cN _ _ _ ([]) (6) _ ax mK.nd rfl ak ak)
   ·refine(bq ?_);refine(fL PassesOwn.never rfl ?_ ?_ ?_ (by intro _; rfl))
    ·exact(jG rfl T.gS (bG bx bz (pv 0) (aC aH) (λ_ _=>rfl)) (by rfl))
    ·exact(@cN _ _ _ ([]) (7) _ ax mK.nd rfl ak ak)
    ·refine(bq ?_);exact(w6 (pv 5) (t6 [] (aC (@jH _ _ ([3]) _ _ _ _ _ _ _ _ _ _ rfl (gE rfl rfl) (gF (aA (pv 6))) (λl s0 H0 ex=>(@fm _ _ _ _ ([]) (3) _ ax mK.nd rfl ak ak (by decide))) (λl s0 H0 ex=>gP) (λl s0 H0 ex=>(oR bx bz (bG (uw hq) uv (pv 2) (bK (pv 3)) (λ_ _=>rfl)) (bK (pv 7)) (λ_ _=>rfl))) (gD ax rfl) (by intro _; rfl))) (by decide +kernel) (by rfl) (by rfl) (by rfl) (by rfl)) (by rfl) (by rfl) (by rfl) (by rfl) (by rfl))
  refine(bq ?_);refine(cE ?_);exact(wH rfl T.mH (bK (pv 5)) (by rfl))) λss y h=>du h
def yK:DS:=(ay (cF (dE (aa 2)) (af [] 3) (au (aw jQ [.val (aa 0),.val (aa 1)]) (af [] 1))) (bM (aa 1)))
def mL:DF:=b9 [] 4 yK
theorem SD:c7 mL:=dF
theorem yL:cL ["rule","floor","often","turn"] ["rule","floor","often"] (cf yf):=scc
theorem SF {K:W3} (F:cu K "_law_grow_often" "_law_grow_often" yf f fd) (hm:mg "_law_grow_often" = some (.ref f)) (hb:Binds K fd ["rule","floor","often"] []) (T:Txt K mg) (yM:aP P w K mg base 1 "_law_grow" 2 jQ):aP P w K mg base 2 "_law_grow_often" 3 mL :=
 dQ (np:=[]) (fb:=yK) F hm hb yL (λc bu A outer s H E hr ax=>by
  have hq:=dG hr;refine(aU ?_ ?_)
  ·refine(fL PassesOwn.never rfl ?_ ?_ ?_ (by intro _; rfl))
   ·exact(jG rfl T.gS (aA (pv 2)) (by rfl))
   ·exact(@cN _ _ _ ([]) (3) _ ax yL.nd rfl ak ak)
   ·refine(bq ?_);exact(@bJ _ _ _ _ _ _ ([]) (1) _ ax yL.nd rfl ak (@bE _ _ _ _ _ (1) _ _ _ _ _ yM Sy (hr.mono (by decide)) rfl (aE (aA (pv 0)) (aE (aA (pv 1)) bD (by rfl)) (by rfl)) rfl (by decide) (by rfl) (by rfl)) rfl ak)
  refine(bq ?_);refine(cE ?_);exact(aA (pv 1))) λss y h=>du h
def yN:DS:=(ay (au (bh (dC []) (aj (cq [6] (cA (gj 1 gC (eU (aa 2)))) (af [] 6) bj (gj 6 gC (eU (aa 3)))))) (af [] 4)) (bM (cq [5] (cA (ag aq 0 (aj (eD (.int 2))))) (af [] 5) bj (d_ (bH (ag aq 5 (aj (eD (.int 0)))) (bH (pE (aa 4) (ag aq 5 (aj (eD (.int 0))))) cU))))))
def ku:DF:=b9 [] 7 yN
theorem SH:c7 ku:=dF
theorem u3:cL ["rule","floor","rows","columns","signs","pair","row"] ["rule","floor","rows","columns"] (cf yg):=scc
theorem SJ {K:W3} (F:cu K "_law_part" "_law_part" yg f fd) (hm:mg "_law_part" = some (.ref f)) (hb:Binds K fd ["rule","floor","rows","columns"] []) (T:Txt K mg):aP P w K mg base 1 "_law_part" 4 ku :=
 dQ (np:=[]) (fb:=yN) F hm hb u3 (λc bu A outer s H E hr ax=>by
  have hq:=dG hr;refine(aU ?_ ?_)
  ·exact(@bJ _ _ _ _ _ _ ([]) (4) _ ax u3.nd rfl ak (t6 [] (aC (@jH _ _ ([6]) _ _ _ _ _ _ _ _ _ _ rfl (gE rfl rfl) (gF (t5 (pv 1) t4 (oZ (aA (pv 2))))) (λl s0 H0 ex=>(@fm _ _ _ _ ([]) (6) _ ax u3.nd rfl ak ak (by decide))) (λl s0 H0 ex=>gP) (λl s0 H0 ex=>(t5 (pv 6) t4 (oZ (aA (pv 3))))) (gD ax rfl) (by intro _; rfl))) (by decide +kernel) (by rfl) (by rfl) (by rfl) (by rfl)) rfl ak)
  refine(bq ?_);refine(cE ?_);exact(@jH _ _ ([5]) _ _ _ _ _ _ _ _ _ _ rfl (gE rfl rfl) (gF (bG bx bz (pv 0) (aC aH) (λ_ _=>rfl))) (λl s0 H0 ex=>(@fm _ _ _ _ ([]) (5) _ ax u3.nd rfl ak ak (by decide))) (λl s0 H0 ex=>gP) (λl s0 H0 ex=>(jB (dR (bG bx bz (pv 5) (aC aH) (λ_ _=>rfl)) (dR (Pc (aA (pv 4)) (bG bx bz (pv 5) (aC aH) (λ_ _=>rfl))) gz (by rfl)) (by rfl)) (by decide))) (gD ax rfl) (by intro _; rfl))) λss y h=>du h
def Fw:DS:=(bM (gy (fJ "int" (ao 0)) (qA (fJ "bool" (ao 0)))))
def lA:DF:=b9 [] 1 Fw
theorem SK:c7 lA:=dF
theorem SM:cL ["found"] ["found"] (cf yh):=scc
theorem SN {K:W3} (F:cu K "_law_whole" "_law_whole" yh f fd) (hm:mg "_law_whole" = some (.ref f)) (hb:Binds K fd ["found"] []) (T:Txt K mg):aP P w K mg base 1 "_law_whole" 1 lA :=
 dQ (np:=[]) (fb:=Fw) F hm hb SM (λc bu A outer s H E hr ax=>by
  have hq:=dG hr;refine(bq ?_);refine(cE ?_);exact(qB (nO T.ty_int rfl T.jP rfl T.mG boot_int (bK (pv 0)) (by decide) (by decide) (by rfl) (by rfl)) (oS (Cv (nO T.ty_bool rfl T.jP rfl T.pH boot_bool (bK (pv 0)) (by decide) (by decide) (by rfl) (by rfl)))))) λss y h=>du h
def yO:DS:=(ay (da (iy (fg (aV (fJ "list" (ao 0)))) (aV (ag hU 0 (ao 1)))) (bM (eD (.bl false))) cV) (bM (bh oX (aj (cq [2] (cA (aa 0)) (af [] 2) bj (gy (fJ "tuple" (ao 2)) (aw lA [.val (ag aq 2 (aj (eD (.int 1))))])))))))
def ic:DF:=b9 [] 3 yO
theorem yP:c7 ic:=dF
theorem Fx:cL ["found","due","one"] ["found","due"] (cf yi):=scc
theorem SQ {K:W3} (F:cu K "_law_counts_are" "_law_counts_are" yi f fd) (hm:mg "_law_counts_are" = some (.ref f)) (hb:Binds K fd ["found","due"] []) (T:Txt K mg) (yQ:aP P w K mg base 1 "_law_whole" 1 lA):aP P w K mg base 2 "_law_counts_are" 2 ic :=
 dQ (np:=[]) (fb:=yO) F hm hb Fx (λc bu A outer s H E hr ax=>by
  have hq:=dG hr;refine(aU ?_ ?_)
  ·refine(gk ?_ ?_ ?_)
   ·exact(l7 (qz (kU (iw (nO T.ty_list rfl T.jP rfl T.pJ boot_list (bK (pv 0)) (by decide) (by decide) (by rfl) (by rfl)) (by intro _; rfl))) (qy (nJ (Cd hq) CA (pv 0) (bK (pv 1)) (eZ _)))))
   ·refine(bq ?_);refine(cE ?_);exact j6
   ·exact fS
  refine(bq ?_);refine(cE ?_);exact(MW rfl rfl T.rS (aC (@jH _ _ ([2]) _ _ _ _ _ _ _ _ _ _ rfl (gE rfl rfl) (gF (aA (pv 0))) (λl s0 H0 ex=>(@fm _ _ _ _ ([]) (2) _ ax Fx.nd rfl ak ak (by decide))) (λl s0 H0 ex=>gP) (λl s0 H0 ex=>(qB (nO T.ty_tuple rfl T.jP rfl T.mH boot_tuple (bK (pv 2)) (by decide) (by decide) (by rfl) (by rfl)) (oS (@bE _ _ _ _ _ (1) _ _ _ _ _ yQ SK (hr.mono (by decide)) rfl (aE (bG bx bz (pv 2) (aC aH) (λ_ _=>rfl)) bD (by rfl)) rfl (by decide) (by rfl) (by rfl))))) (gD ax rfl) (by intro _; rfl))) (by rfl))) λss y h=>du h
def yR:DS:=(da (iy (fg (aV (fJ "str" (ao 1)))) (aV (aM (mv true) (aa 1) (aj (bh gQ (aj (ag aq 0 (aj (eD (.int 2)))))))))) t7 cV)
def mM:DF:=b9 [] 2 yR
theorem SR:c7 mM:=dF
theorem SV:cL ["rule","thing"] ["rule","thing"] (cf yj):=scc
theorem SY {K:W3} (F:cu K "refuse_no_tile" "refuse_no_tile" yj f fd) (hm:mg "refuse_no_tile" = some (.ref f)) (hb:Binds K fd ["rule","thing"] []) (T:Txt K mg):aP P w K mg base 1 "refuse_no_tile" 2 mM :=
 dQ (np:=[]) (fb:=yR) F hm hb SV (λc bu A outer s H E hr ax=>by
  have hq:=dG hr;refine(bq ?_);refine(gk ?_ ?_ ?_)
  ·exact(l7 (qz (kU (iw (nO T.ty_str rfl T.jP rfl T.rV boot_str (bK (pv 1)) (by decide) (by decide) (by rfl) (by rfl)) (by intro _; rfl))) (qy (nH (Ol hq) (Om true) (aA (pv 1)) (aC (uu rfl rfl T.mF (aC (bG bx bz (pv 0) (aC aH) (λ_ _=>rfl))) (by rfl))) rfl))))
  ·refine(bq ?_);exact CS
  ·exact fS) λss y h=>du h
def yS:DS:=(ay (cF (dE (aa 2)) (af [] 3) (au (ag c8 0 (ao 1)) (af [] 0))) (bM (aa 0)))
def je:DF:=b9 [] 4 yS
theorem Fy:c7 je:=dF
theorem yT:cL ["size","factor","often","growing"] ["size","factor","often"] (cf yk):=scc
theorem S0 {K:W3} (F:cu K "grown_size" "grown_size" yk f fd) (hm:mg "grown_size" = some (.ref f)) (hb:Binds K fd ["size","factor","often"] []) (T:Txt K mg):aP P w K mg base 1 "grown_size" 3 je :=
 dQ (np:=[]) (fb:=yS) F hm hb yT (λc bu A outer s H E hr ax=>by
  have hq:=dG hr;refine(aU ?_ ?_)
  ·refine(fL PassesOwn.never rfl ?_ ?_ ?_ (by intro _; rfl))
   ·exact(jG rfl T.gS (aA (pv 2)) (by rfl))
   ·exact(@cN _ _ _ ([]) (3) _ ax yT.nd rfl ak ak)
   ·refine(bq ?_);exact(@bJ _ _ _ _ _ _ ([]) (0) _ ax yT.nd rfl ak (dX nW nX (pv 0) (bK (pv 1))) rfl ak)
  refine(bq ?_);refine(cE ?_);exact(aA (pv 0))) λss y h=>du h
def yU:DS:=(bM (gy (fJ "int" (ao 0)) (gy (qA (fJ "bool" (ao 0))) (ag i3 1 (ao 0)))))
def ot:DF:=b9 [] 2 yU
theorem S3:c7 ot:=dF
theorem S4:cL ["thing","least"] ["thing","least"] (cf yl):=scc
theorem S5 {K:W3} (F:cu K "whole_from" "whole_from" yl f fd) (hm:mg "whole_from" = some (.ref f)) (hb:Binds K fd ["thing","least"] []) (T:Txt K mg):aP P w K mg base 1 "whole_from" 2 ot :=
 dQ (np:=[]) (fb:=yU) F hm hb S4 (λc bu A outer s H E hr ax=>by
  have hq:=dG hr;refine(bq ?_);refine(cE ?_);exact(qB (nO T.ty_int rfl T.jP rfl T.mG boot_int (bK (pv 0)) (by decide) (by decide) (by rfl) (by rfl)) (qB (Cv (nO T.ty_bool rfl T.jP rfl T.pH boot_bool (bK (pv 0)) (by decide) (by decide) (by rfl) (by rfl))) (oS (l6 qE l8 (pv 1) (bK (pv 0)) (eZ _)))))) λss y h=>du h
def yV:DS:=(bM (gy (aw ot [.val (aa 0),.val (aa 1)]) (ag i3 0 (ao 2))))
def kz:DF:=b9 [] 3 yV
theorem Fz:c7 kz:=dF
theorem S6:cL ["thing","least","most"] ["thing","least","most"] (cf ym):=scc
theorem S7 {K:W3} (F:cu K "whole_within" "whole_within" ym f fd) (hm:mg "whole_within" = some (.ref f)) (hb:Binds K fd ["thing","least","most"] []) (T:Txt K mg) (yW:aP P w K mg base 1 "whole_from" 2 ot):aP P w K mg base 2 "whole_within" 3 kz :=
 dQ (np:=[]) (fb:=yV) F hm hb S6 (λc bu A outer s H E hr ax=>by
  have hq:=dG hr;refine(bq ?_);refine(cE ?_);exact(qB (@bE _ _ _ _ _ (1) _ _ _ _ _ yW S3 (hr.mono (by decide)) rfl (aE (aA (pv 0)) (aE (aA (pv 1)) bD (by rfl)) (by rfl)) rfl (by decide) (by rfl) (by rfl)) (oS (l6 qE l8 (pv 0) (bK (pv 2)) (eZ _))))) λss y h=>du h
def yX:DS:=(ay (au x4 (af [] 4)) (ay (cF (lq (aa 1)) (bI 2 (aI (af [] 5) (aI (af [] 6) bL))) (ay (au (aa 5) (bI 3 (aI (af [] 7) (aI (af [] 8) (aI (af [] 9) bL))))) (cF (rm (ag e_ 0 (ao 9))) (bI 2 (aI (af [] 10) (aI (af [] 11) bL))) (cF (rG (aa 11)) (bI 2 (aI (af [] 12) (aI (af [] 13) bL))) (da (kT (iy (aV (aa 7)) (aV (ag i3 10 (ao 2)))) (iy (aV (aa 8)) (aV (ag i3 12 (ao 3))))) (ay (au (d_ (bH (nK (aa 7) (ag ka 10 (ao 2))) (bH (nK (aa 8) (ag ka 12 (ao 3))) (bH (aa 13) cU)))) (af [] 14)) (rP 4 (aa 14) (aM aN (rR 4 (aa 14) (eD (.int 0))) (ao 6)))) cV))))) (pk [] 4)))
def mN:DF:=b9 [] 15 yX
theorem S8:c7 mN:=dF
theorem jf:cL ["block_of","held","down","right","grown","key","many","all_rows","all_columns","tile","i","tiles","j","part","place"] ["block_of","held","down","right"] (cf yn):=scc
theorem S9 {K:W3} (F:cu K "held_grown" "held_grown" yn f fd) (hm:mg "held_grown" = some (.ref f)) (hb:Binds K fd ["block_of","held","down","right"] []) (T:Txt K mg):aP P w K mg base 1 "held_grown" 4 mN :=
 dQ (np:=[]) (fb:=yX) F hm hb jf (λc bu A outer s H E hr ax=>by
  have hq:=dG hr;refine(aU ?_ ?_)
  ·exact(@bJ _ _ _ _ _ _ ([]) (4) _ ax jf.nd rfl ak R6 rfl ak)
  refine(aU ?_ ?_)
  ·refine(fL PassesOwn.never rfl ?_ ?_ ?_ (by intro _; rfl))
   ·exact(Fo (aA (pv 1)))
   ·exact(kZ rfl (fK (@cN _ _ _ ([]) (5) _ ax jf.nd rfl ak ak) (fK (@cN _ _ _ ([]) (6) _ ax jf.nd rfl ak ak) kY (by rfl)) (by rfl)) (by rfl) (by rfl))
   ·refine(aU ?_ ?_)
    ·refine(wL ?_ ?_ (by rfl) (by rfl) (by rfl))
     ·exact(aA (pv 5))
     ·exact(kZ rfl (fK (@cN _ _ _ ([]) (7) _ ax jf.nd rfl ak ak) (fK (@cN _ _ _ ([]) (8) _ ax jf.nd rfl ak ak) (fK (@cN _ _ _ ([]) (9) _ ax jf.nd rfl ak ak) kY (by rfl)) (by rfl)) (by rfl)) (by rfl) (by rfl))
    refine(bq ?_);refine(fL PassesOwn.never rfl ?_ ?_ ?_ (by intro _; rfl))
    ·exact(OB rfl T.pI (bG (uw hq) uv (pv 0) (bK (pv 9)) (λ_ _=>rfl)) (by rfl))
    ·exact(kZ rfl (fK (@cN _ _ _ ([]) (10) _ ax jf.nd rfl ak ak) (fK (@cN _ _ _ ([]) (11) _ ax jf.nd rfl ak ak) kY (by rfl)) (by rfl)) (by rfl) (by rfl))
    ·refine(bq ?_);refine(fL PassesOwn.never rfl ?_ ?_ ?_ (by intro _; rfl))
     ·exact(O3 rfl T.pI (aA (pv 11)) (by rfl))
     ·exact(kZ rfl (fK (@cN _ _ _ ([]) (12) _ ax jf.nd rfl ak ak) (fK (@cN _ _ _ ([]) (13) _ ax jf.nd rfl ak ak) kY (by rfl)) (by rfl)) (by rfl) (by rfl))
     ·refine(bq ?_);refine(gk ?_ ?_ ?_)
      ·exact(l7 (wo (l7 (qz (iw (aA (pv 7)) (by intro _; rfl)) (qy (nJ qE l8 (pv 10) (bK (pv 2)) (eZ _))))) (wm (l7 (qz (iw (aA (pv 8)) (by intro _; rfl)) (qy (nJ qE l8 (pv 12) (bK (pv 3)) (eZ _))))))))
      ·refine(aU ?_ ?_)
       ·exact(@bJ _ _ _ _ _ _ ([]) (14) _ ax jf.nd rfl ak (jB (dR (Cu (aA (pv 7)) (oS (l6 wx wz (pv 10) (bK (pv 2)) (eZ _)))) (dR (Cu (aA (pv 8)) (oS (l6 wx wz (pv 12) (bK (pv 3)) (eZ _)))) (dR (aA (pv 13)) gz (by rfl)) (by rfl)) (by rfl)) (by decide)) rfl ak)
       refine(bq ?_);exact(RN hq (pv 4) (aA (pv 14)) (cM dY dZ (Sg hq (pv 4) (aA (pv 14)) aH) (bK (pv 6))))
      ·exact fS
  refine(bq ?_);exact(DU ax (pv 4))) λss y h=>du h
def yY:DS:=(bM (cq [1,2] (cA (ag aq 0 (aj (eD (.int 2))))) (bI 2 (aI (af [] 1) (aI (af [] 2) bL))) bj (aa 1)))
def mO:DF:=b9 [] 3 yY
theorem S_:c7 mO:=dF
theorem yZ:cL ["rule","tile","block"] ["rule"] (cf yo):=scc
theorem Ta {K:W3} (F:cu K "rule_tiles" "rule_tiles" yo f fd) (hm:mg "rule_tiles" = some (.ref f)) (hb:Binds K fd ["rule"] []) (T:Txt K mg):aP P w K mg base 1 "rule_tiles" 1 mO :=
 dQ (np:=[]) (fb:=yY) F hm hb yZ (λc bu A outer s H E hr ax=>by
  have hq:=dG hr;refine(bq ?_);refine(cE ?_);exact(@jH _ _ ([1,2]) _ _ _ _ _ _ _ _ _ _ rfl (gE rfl rfl) (gF (bG bx bz (pv 0) (aC aH) (λ_ _=>rfl))) (λl s0 H0 ex=>(qL rfl (kc (@fm _ _ _ _ ([]) (1) _ ax yZ.nd rfl ak ak (by decide)) (kc (@fm _ _ _ _ ([]) (2) _ ax yZ.nd rfl ak ak (by decide)) qK (by rfl)) (by rfl)) (by rfl) (by rfl))) (λl s0 H0 ex=>gP) (λl s0 H0 ex=>(aA (pv 1))) (gD ax rfl) (by intro _; rfl))) λss y h=>du h
def y4:DS:=(bM (cq [2] (cA (aw mO [.val (aa 0)])) (af [] 2) bj (d_ (bH (aa 2) (bH (rq 1 (aa 2) (eD (.int 0))) cU)))))
def ou:DF:=b9 [] 3 y4
theorem Tb:c7 ou:=dF
theorem FA:cL ["rule","many_of","tile"] ["rule","many_of"] (cf yp):=scc
theorem Tc {K:W3} (F:cu K "counts_listed" "counts_listed" yp f fd) (hm:mg "counts_listed" = some (.ref f)) (hb:Binds K fd ["rule","many_of"] []) (T:Txt K mg) (y6:aP P w K mg base 1 "rule_tiles" 1 mO):aP P w K mg base 2 "counts_listed" 2 ou :=
 dQ (np:=[]) (fb:=y4) F hm hb FA (λc bu A outer s H E hr ax=>by
  have hq:=dG hr;refine(bq ?_);refine(cE ?_);exact(@jH _ _ ([2]) _ _ _ _ _ _ _ _ _ _ rfl (gE rfl rfl) (gF (@bE _ _ _ _ _ (1) _ _ _ _ _ y6 S_ (hr.mono (by decide)) rfl (aE (aA (pv 0)) bD (by rfl)) rfl (by decide) (by rfl) (by rfl))) (λl s0 H0 ex=>(@fm _ _ _ _ ([]) (2) _ ax FA.nd rfl ak ak (by decide))) (λl s0 H0 ex=>gP) (λl s0 H0 ex=>(jB (dR (aA (pv 2)) (dR (OF hq (pv 1) (aA (pv 2)) aH (by rfl) (by rfl) (by rfl) (by rfl)) gz (by rfl)) (by rfl)) (by decide))) (gD ax rfl) (by intro _; rfl))) λss y h=>du h
def y8:DS:=(ay (nP (aw mM [.val (aa 0),.val (aa 1)])) (ay (au (aw je [.val (eD (.int 1)),.val (ag aq 0 (aj (eD (.int 0)))),.val (aa 2)]) (af [] 5)) (ay (au (aw je [.val (eD (.int 1)),.val (ag aq 0 (aj (eD (.int 1)))),.val (aa 2)]) (af [] 6)) (ay (da (iy (fg (aV (aw kz [.val (aa 3),.val (eD (.int 0)),.val (aa 5)]))) (fg (aV (aw kz [.val (aa 4),.val (eD (.int 0)),.val (aa 6)])))) t7 cV) (ay (au (bh gQ (aj (ag aq 0 (aj (eD (.int 2)))))) (af [] 7)) (ay (au (uX (d_ (bH (ag cn 3 (ao 5)) (bH (ag cn 4 (ao 6)) (bH (aa 1) cU)))) (eD (.int 1))) (af [] 8)) (ay (cF (dE (aa 2)) (af [] 9) (ay (au (ag gi 5 (aj (ag aq 0 (aj (eD (.int 0)))))) (af [] 5)) (ay (au (ag gi 6 (aj (ag aq 0 (aj (eD (.int 1)))))) (af [] 6)) (au (aw mN [.val (aa 7),.val (aa 8),.val (aM fj (ag mw 3 (ao 5)) (aj (ag aq 0 (aj (eD (.int 0)))))),.val (aM fj (ag mw 4 (ao 6)) (aj (ag aq 0 (aj (eD (.int 1))))))]) (af [] 8))))) (bM (aw ou [.val (aa 0),.val (bh gQ (aj (cq [10,11] (lq (aa 8)) (bI 2 (aI (af [] 10) (aI (af [] 11) bL))) (kT (aV (ag aq 10 (aj (eD (.int 0))))) (aV (ag aq 10 (aj (eD (.int 1)))))) (d_ (bH (ag aq 10 (aj (eD (.int 2)))) (bH (aa 11) cU))))))])))))))))
def gu:DF:=b9 [] 12 y8
theorem rX:c7 gu:=dF
theorem jR:cL ["rule","tile","growings","rows","columns","tall","broad","block_of","held","growing","key","many"] ["rule","tile","growings","rows","columns"] (cf yq):=scc
theorem Td {K:W3} (F:cu K "counts_within" "counts_within" yq f fd) (hm:mg "counts_within" = some (.ref f)) (hb:Binds K fd ["rule","tile","growings","rows","columns"] []) (T:Txt K mg) (y9:aP P w K mg base 1 "refuse_no_tile" 2 mM) (u4:aP P w K mg base 1 "grown_size" 3 je) (u5:aP P w K mg base 2 "whole_within" 3 kz) (y_:aP P w K mg base 1 "held_grown" 4 mN) (za:aP P w K mg base 2 "counts_listed" 2 ou):aP P w K mg base 3 "counts_within" 5 gu :=
 dQ (np:=[]) (fb:=y8) F hm hb jR (λc bu A outer s H E hr ax=>by
  have hq:=dG hr;refine(aU ?_ ?_)
  ·exact(NV (@bE _ _ _ _ _ (1) _ _ _ _ _ y9 SR (hr.mono (by decide)) rfl (aE (aA (pv 0)) (aE (aA (pv 1)) bD (by rfl)) (by rfl)) rfl (by decide) (by rfl) (by rfl)) (by rfl))
  refine(aU ?_ ?_)
  ·exact(@bJ _ _ _ _ _ _ ([]) (5) _ ax jR.nd rfl ak (@bE _ _ _ _ _ (1) _ _ _ _ _ u4 Fy (hr.mono (by decide)) rfl (aE aH (aE (bG bx bz (pv 0) (aC aH) (λ_ _=>rfl)) (aE (aA (pv 2)) bD (by rfl)) (by rfl)) (by rfl)) rfl (by decide) (by rfl) (by rfl)) rfl ak)
  refine(aU ?_ ?_)
  ·exact(@bJ _ _ _ _ _ _ ([]) (6) _ ax jR.nd rfl ak (@bE _ _ _ _ _ (1) _ _ _ _ _ u4 Fy (hr.mono (by decide)) rfl (aE aH (aE (bG bx bz (pv 0) (aC aH) (λ_ _=>rfl)) (aE (aA (pv 2)) bD (by rfl)) (by rfl)) (by rfl)) rfl (by decide) (by rfl) (by rfl)) rfl ak)
  refine(aU ?_ ?_)
  ·refine(gk ?_ ?_ ?_)
   ·exact(l7 (qz (kU (iw (@bE _ _ _ _ _ (2) _ _ _ _ _ u5 Fz (hr.mono (by decide)) rfl (aE (aA (pv 3)) (aE aH (aE (aA (pv 5)) bD (by rfl)) (by rfl)) (by rfl)) rfl (by decide) (by rfl) (by rfl)) (by intro _; rfl))) (qy (kU (iw (@bE _ _ _ _ _ (2) _ _ _ _ _ u5 Fz (hr.mono (by decide)) rfl (aE (aA (pv 4)) (aE aH (aE (aA (pv 6)) bD (by rfl)) (by rfl)) (by rfl)) rfl (by decide) (by rfl) (by rfl)) (by intro _; rfl))))))
   ·refine(bq ?_);exact CS
   ·exact fS
  refine(aU ?_ ?_)
  ·exact(@bJ _ _ _ _ _ _ ([]) (7) _ ax jR.nd rfl ak (uu rfl rfl T.mF (aC (bG bx bz (pv 0) (aC aH) (λ_ _=>rfl))) (by rfl)) rfl ak)
  refine(aU ?_ ?_)
  ·exact(@bJ _ _ _ _ _ _ ([]) (8) _ ax jR.nd rfl ak (Sd hq (λc=>(jB (dR (l6 (j7 hq) j_ (pv 3) (bK (pv 5)) (eZ _)) (dR (l6 (j7 hq) j_ (pv 4) (bK (pv 6)) (eZ _)) (dR (aA (pv 1)) gz (by rfl)) (by rfl)) (by rfl)) (by decide))) (λc=>aH)) rfl ak)
  refine(aU ?_ ?_)
  ·refine(fL PassesOwn.never rfl ?_ ?_ ?_ (by intro _; rfl))
   ·exact(jG rfl T.gS (aA (pv 2)) (by rfl))
   ·exact(@cN _ _ _ ([]) (9) _ ax jR.nd rfl ak ak)
   ·refine(aU ?_ ?_)
    ·exact(@bJ _ _ _ _ _ _ ([]) (5) _ ax jR.nd rfl ak (dX qg qD (pv 5) (aC (bG bx bz (pv 0) (aC aH) (λ_ _=>rfl)))) rfl ak)
    refine(aU ?_ ?_)
    ·exact(@bJ _ _ _ _ _ _ ([]) (6) _ ax jR.nd rfl ak (dX qg qD (pv 6) (aC (bG bx bz (pv 0) (aC aH) (λ_ _=>rfl)))) rfl ak)
    refine(bq ?_);exact(@bJ _ _ _ _ _ _ ([]) (8) _ ax jR.nd rfl ak (@bE _ _ _ _ _ (1) _ _ _ _ _ y_ S8 (hr.mono (by decide)) rfl (aE (aA (pv 7)) (aE (aA (pv 8)) (aE (cM kJ kW (dX xn xo (pv 3) (bK (pv 5))) (aC (bG bx bz (pv 0) (aC aH) (λ_ _=>rfl)))) (aE (cM kJ kW (dX xn xo (pv 4) (bK (pv 6))) (aC (bG bx bz (pv 0) (aC aH) (λ_ _=>rfl)))) bD (by rfl)) (by rfl)) (by rfl)) (by rfl)) rfl (by decide) (by rfl) (by rfl)) rfl ak)
  refine(bq ?_);refine(cE ?_);exact(@bE _ _ _ _ _ (2) _ _ _ _ _ za Tb (hr.mono (by decide)) rfl (aE (aA (pv 0)) (aE (uu rfl rfl T.mF (aC (@jH _ _ ([10,11]) _ _ _ _ _ _ _ _ _ _ rfl (gE rfl rfl) (Fo (aA (pv 8))) (λl s0 H0 ex=>(qL rfl (kc (@fm _ _ _ _ ([]) (10) _ ax jR.nd rfl ak ak (by decide)) (kc (@fm _ _ _ _ ([]) (11) _ ax jR.nd rfl ak ak (by decide)) qK (by rfl)) (by rfl)) (by rfl) (by rfl))) (λl s0 H0 ex=>(Nt (l7 (wo (iw (bG bx bz (pv 10) (aC aH) (λ_ _=>rfl)) (by intro _; rfl)) (wm (iw (bG bx bz (pv 10) (aC aH) (λ_ _=>rfl)) (by intro _; rfl))))))) (λl s0 H0 ex=>(jB (dR (bG bx bz (pv 10) (aC aH) (λ_ _=>rfl)) (dR (aA (pv 11)) gz (by rfl)) (by rfl)) (by decide))) (gD ax rfl) (by intro _; rfl))) (by rfl)) bD (by rfl)) (by rfl)) rfl (by decide) (by rfl) (by rfl))) λss y h=>du h
def zb:DS:=(ay (au (aw mL [.val (aa 0),.val (d_ (bH (aa 1) cU)),.val (aa 2)]) (af [3] 4)) (ay (cF (dE (eD (.int 12))) (af [3] 5) (ay (au (aw b_ [.io 3,.val (aM aN (bh cb (ao 4)) (aj (eD (.int 1))))]) (af [3] 6)) (ay (au (aw b_ [.io 3,.val (aM aN (bh cb (aj (ag aq 4 (aj (eD (.int 0)))))) (aj (eD (.int 1))))]) (af [3] 7)) (ay (au (aw ku [.val (aa 0),.val (aa 4),.val (aa 6),.val (aa 7)]) (af [3] 8)) (da (fg (aV (aw ic [.val (aw gu [.val (aa 0),.val (aa 1),.val (aa 2),.val (aa 6),.val (aa 7)]),.val (aa 8)]))) (bM (eD (.bl false))) cV))))) (bM (eD (.bl true)))))
def kA:DF:=b9 [3] 9 zb
theorem Te:c7 kA:=dF
theorem pL:cL ["rule","tile","growings","pen","floor","turn","rows","columns","due"] ["rule","tile","growings","pen"] (cf yr):=scc
theorem Tf {K:W3} (F:cu K "_law_laid_right" "_law_laid_right" yr f fd) (hm:mg "_law_laid_right" = some (.ref f)) (hb:Binds K fd ["rule","tile","growings","pen"] []) (T:Txt K mg) (cX:aP P w K mg base 2 "_law_draw" 2 b_) (zc:aP P w K mg base 2 "_law_grow_often" 3 mL) (zd:aP P w K mg base 1 "_law_part" 4 ku) (ow:aP P w K mg base 2 "_law_counts_are" 2 ic) (lC:aP P w K mg base 3 "counts_within" 5 gu):aP P w K mg base 4 "_law_laid_right" 4 kA :=
 dQ (np:=[3]) (fb:=zb) F hm hb pL (λc bu A outer s H E hr ax=>by
  have hq:=dG hr;refine(aU ?_ ?_)
  ·exact(@bJ _ _ _ _ _ _ ([3]) (4) _ ax pL.nd rfl ak (@bE _ _ _ _ _ (2) _ _ _ _ _ zc SD (hr.mono (by decide)) rfl (aE (aA (pv 0)) (aE (jB (dR (aA (pv 1)) gz (by rfl)) (by decide)) (aE (aA (pv 2)) bD (by rfl)) (by rfl)) (by rfl)) rfl (by decide) (by rfl) (by rfl)) rfl ak)
  refine(aU ?_ ?_)
  ·refine(fL PassesOwn.never rfl ?_ ?_ ?_ (by intro _; rfl))
   ·exact(jG rfl T.gS aH (by rfl))
   ·exact(@cN _ _ _ ([3]) (5) _ ax pL.nd rfl ak ak)
   ·refine(aU ?_ ?_)
    ·exact(@bJ _ _ _ _ _ _ ([3]) (6) _ ax pL.nd rfl ak (@bE _ _ _ _ _ (2) _ _ _ _ _ cX fF (hr.mono (by decide)) rfl (eh (pv 3) (aE (cM dY dZ (kX rfl T.iN (bK (pv 4)) (by rfl)) (aC aH)) bD (by rfl)) (by rfl)) rfl (by decide) (by rfl) (by rfl)) rfl ak)
    refine(aU ?_ ?_)
    ·exact(@bJ _ _ _ _ _ _ ([3]) (7) _ ax pL.nd rfl ak (@bE _ _ _ _ _ (2) _ _ _ _ _ cX fF (hr.mono (by decide)) rfl (eh (pv 3) (aE (cM dY dZ (kX rfl T.iN (aC (bG bx bz (pv 4) (aC aH) (λ_ _=>rfl))) (by rfl)) (aC aH)) bD (by rfl)) (by rfl)) rfl (by decide) (by rfl) (by rfl)) rfl ak)
    refine(aU ?_ ?_)
    ·exact(@bJ _ _ _ _ _ _ ([3]) (8) _ ax pL.nd rfl ak (@bE _ _ _ _ _ (1) _ _ _ _ _ zd SH (hr.mono (by decide)) rfl (aE (aA (pv 0)) (aE (aA (pv 4)) (aE (aA (pv 6)) (aE (aA (pv 7)) bD (by rfl)) (by rfl)) (by rfl)) (by rfl)) rfl (by decide) (by rfl) (by rfl)) rfl ak)
    refine(bq ?_);refine(gk ?_ ?_ ?_)
    ·exact(kU (iw (@bE _ _ _ _ _ (2) _ _ _ _ _ ow yP (hr.mono (by decide)) rfl (aE (@bE _ _ _ _ _ (3) _ _ _ _ _ lC rX (hr.mono (by decide)) rfl (aE (aA (pv 0)) (aE (aA (pv 1)) (aE (aA (pv 2)) (aE (aA (pv 6)) (aE (aA (pv 7)) bD (by rfl)) (by rfl)) (by rfl)) (by rfl)) (by rfl)) rfl (by decide) (by rfl) (by rfl)) (aE (aA (pv 8)) bD (by rfl)) (by rfl)) rfl (by decide) (by rfl) (by rfl)) (by intro _; rfl)))
    ·refine(bq ?_);refine(cE ?_);exact j6
    ·exact fS
  refine(bq ?_);refine(cE ?_);exact j6) λss y h=>du h
def ze:DS:=(ay (au (cq [7] (cA (ag aq 0 (aj (eD (.int 2))))) (af [] 7) bj (ag aq 7 (aj (eD (.int 0))))) (af [] 1)) (ay (au qW (af [] 2)) (ay (cF (cA (ag aq 0 (aj (eD (.int 2))))) (bI 2 (aI (af [] 3) (aI (af [] 4) bL))) (ay (oi 2 3 6 (aM gr (fV [.int 0]) (aj (bh cb (ao 1)))) (bh (dC []) (ao 4)) (af [2] 5) (au (ki 1 (aa 5)) (af [2] 6))) cV)) (pk [] 2))))
def mP:DF:=b9 [] 8 ze
theorem Tg:c7 mP:=dF
theorem mQ:cL ["rule","tiles","found","tile","block","sign","place","pair"] ["rule"] (cf yt):=scc
theorem Th {K:W3} (F:cu K "_law_table" "_law_table" yt f fd) (hm:mg "_law_table" = some (.ref f)) (hb:Binds K fd ["rule"] []) (T:Txt K mg):aP P w K mg base 1 "_law_table" 1 mP :=
 dQ (np:=[]) (fb:=ze) F hm hb mQ (λc bu A outer s H E hr ax=>by
  have hq:=dG hr;refine(aU ?_ ?_)
  ·exact(@qO _ _ ([7]) _ _ _ _ _ _ _ _ _ _ ([]) (1) _ _ _ ax rfl (gE rfl rfl) mQ.nd rfl rfl (gF (bG bx bz (pv 0) (aC aH) (λ_ _=>rfl))) (λl s0 H0 ex=>(@fm _ _ _ _ ([]) (7) _ ax mQ.nd rfl ak ak (by decide))) (λl s0 H0 ex=>gP) (λl s0 H0 ex=>(bG bx bz (pv 7) (aC aH) (λ_ _=>rfl))) (gD ax rfl) (by rfl) (by intro _; rfl))
  refine(aU ?_ ?_)
  ·exact(@bJ _ _ _ _ _ _ ([]) (2) _ ax mQ.nd rfl ak Dw rfl ak)
  refine(aU ?_ ?_)
  ·refine(fL PassesOwn.never rfl ?_ ?_ ?_ (by intro _; rfl))
   ·exact(gF (bG bx bz (pv 0) (aC aH) (λ_ _=>rfl)))
   ·exact(kZ rfl (fK (@cN _ _ _ ([]) (3) _ ax mQ.nd rfl ak ak) (fK (@cN _ _ _ ([]) (4) _ ax mQ.nd rfl ak ak) kY (by rfl)) (by rfl)) (by rfl) (by rfl))
   ·refine(Pu (i:=2) (j:=3) (m:=6) hq PassesOwn.never rfl (pv 2) (pv 3) ?_ (pv 2) (pv 3) (pv 6) (pv 2) (pv 3) (pv 6) ?_ ?_ ?_ ?_ (λ_ _=>rfl) (λ_ _=>rfl) (λ_ _=>rfl))
    ·exact(cM xD xE (qU (by rfl) (by decide)) (aC (kX rfl T.iN (bK (pv 1)) (by rfl))))
    ·intro pp pa; have ax:=Np.dh (c:=c.plus pp) (i:=2) (a:=pa) ax; exact(t6 [] (bK (pv 4)) (by decide +kernel) (by rfl) (by rfl) (by rfl) (by rfl))
    ·intro pp pa; have ax:=Np.dh (c:=c.plus pp) (i:=2) (a:=pa) ax; exact(@cN _ _ _ ([2]) (5) _ ax mQ.nd rfl ak ak)
    ·intro pp pa; have ax:=Np.dh (c:=c.plus pp) (i:=2) (a:=pa) ax; exact(@bJ _ _ _ _ _ _ ([2]) (6) _ ax mQ.nd rfl ak (O9 (pv 1) (aA (pv 5)) (by rfl) (by rfl) (by rfl) (by rfl)) rfl ak)
    exact fS
  refine(bq ?_);exact(DU ax (pv 2))) λss y h=>du h
def zf:DS:=(ay (au (cq [11] (cA (ag aq 0 (aj (eD (.int 2))))) (af [] 11) bj (ag aq 11 (aj (eD (.int 0))))) (af [] 3)) (ay (au (aw mP [.val (aa 0)]) (af [] 4)) (ay (au (cq [12] (cA (aa 3)) (af [] 12) bj (bh gN (aj (ag cn 12 (ao 1))))) (af [] 5)) (ay (cF (dE (aa 2)) (af [] 6) (ay (au (aM gr (fV [.int 0]) (aj (bh cb (ao 3)))) (af [] 7)) (ay (cF (fW (aa 5) (aa 3)) (bI 2 (aI (af [] 8) (aI (af [] 9) bL))) (ay (au (ag e_ 4 (ao 9)) (af [] 10)) (au (cq [13,12] (fW (aa 7) (aa 10)) (bI 2 (aI (af [] 13) (aI (af [] 12) bL))) bj (ag aN 13 (aj (ag c8 8 (ao 12))))) (af [] 7)))) (au (aa 7) (af [] 5))))) (bM (pG (aa 3) (aa 5)))))))
def iP:DF:=b9 [] 14 zf
theorem FC:c7 iP:=dF
theorem gU:cL ["rule","tile","growings","tiles","table","now","turn","later","many","tile_here","row","pair","other","one"] ["rule","tile","growings"] (cf yu):=scc
theorem Ti {K:W3} (F:cu K "_law_counts" "_law_counts" yu f fd) (hm:mg "_law_counts" = some (.ref f)) (hb:Binds K fd ["rule","tile","growings"] []) (T:Txt K mg) (zg:aP P w K mg base 1 "_law_table" 1 mP):aP P w K mg base 2 "_law_counts" 3 iP :=
 dQ (np:=[]) (fb:=zf) F hm hb gU (λc bu A outer s H E hr ax=>by
  have hq:=dG hr;refine(aU ?_ ?_)
  ·exact(@qO _ _ ([11]) _ _ _ _ _ _ _ _ _ _ ([]) (3) _ _ _ ax rfl (gE rfl rfl) gU.nd rfl rfl (gF (bG bx bz (pv 0) (aC aH) (λ_ _=>rfl))) (λl s0 H0 ex=>(@fm _ _ _ _ ([]) (11) _ ax gU.nd rfl ak ak (by decide))) (λl s0 H0 ex=>gP) (λl s0 H0 ex=>(bG bx bz (pv 11) (aC aH) (λ_ _=>rfl))) (gD ax rfl) (by rfl) (by intro _; rfl))
  refine(aU ?_ ?_)
  ·exact(@bJ _ _ _ _ _ _ ([]) (4) _ ax gU.nd rfl ak (@bE _ _ _ _ _ (1) _ _ _ _ _ zg Tg (hr.mono (by decide)) rfl (aE (aA (pv 0)) bD (by rfl)) rfl (by decide) (by rfl) (by rfl)) rfl ak)
  refine(aU ?_ ?_)
  ·exact(@qO _ _ ([12]) _ _ _ _ _ _ _ _ _ _ ([]) (5) _ _ _ ax rfl (gE rfl rfl) gU.nd rfl rfl (gF (aA (pv 3))) (λl s0 H0 ex=>(@fm _ _ _ _ ([]) (12) _ ax gU.nd rfl ak ak (by decide))) (λl s0 H0 ex=>gP) (λl s0 H0 ex=>(CJ rfl T.mG (aC (l6 (j7 hq) j_ (pv 12) (bK (pv 1)) (eZ _))) (by rfl))) (gD ax rfl) (by rfl) (by intro _; rfl))
  refine(aU ?_ ?_)
  ·refine(fL PassesOwn.never rfl ?_ ?_ ?_ (by intro _; rfl))
   ·exact(jG rfl T.gS (aA (pv 2)) (by rfl))
   ·exact(@cN _ _ _ ([]) (6) _ ax gU.nd rfl ak ak)
   ·refine(aU ?_ ?_)
    ·exact(@bJ _ _ _ _ _ _ ([]) (7) _ ax gU.nd rfl ak (cM xD xE (qU (by rfl) (by decide)) (aC (kX rfl T.iN (bK (pv 3)) (by rfl)))) rfl ak)
    refine(aU ?_ ?_)
    ·refine(fL PassesOwn.never rfl ?_ ?_ ?_ (by intro _; rfl))
     ·exact(uG rfl T.lu (aA (pv 5)) (aA (pv 3)) (by rfl) (by rfl) (by rfl))
     ·exact(kZ rfl (fK (@cN _ _ _ ([]) (8) _ ax gU.nd rfl ak ak) (fK (@cN _ _ _ ([]) (9) _ ax gU.nd rfl ak ak) kY (by rfl)) (by rfl)) (by rfl) (by rfl))
     ·refine(aU ?_ ?_)
      ·exact(@bJ _ _ _ _ _ _ ([]) (10) _ ax gU.nd rfl ak (bG (uw hq) uv (pv 4) (bK (pv 9)) (λ_ _=>rfl)) rfl ak)
      refine(bq ?_);exact(@qO _ _ ([13,12]) _ _ _ _ _ _ _ _ _ _ ([]) (7) _ _ _ ax rfl (gE rfl rfl) gU.nd rfl rfl (uG rfl T.lu (aA (pv 7)) (aA (pv 10)) (by rfl) (by rfl) (by rfl)) (λl s0 H0 ex=>(qL rfl (kc (@fm _ _ _ _ ([]) (13) _ ax gU.nd rfl ak ak (by decide)) (kc (@fm _ _ _ _ ([]) (12) _ ax gU.nd rfl ak ak (by decide)) qK (by rfl)) (by rfl)) (by rfl) (by rfl))) (λl s0 H0 ex=>gP) (λl s0 H0 ex=>(dX dY dZ (pv 13) (aC (dX nW nX (pv 8) (bK (pv 12)))))) (gD ax rfl) (by rfl) (by intro _; rfl))
    refine(bq ?_);exact(@bJ _ _ _ _ _ _ ([]) (5) _ ax gU.nd rfl ak (aA (pv 7)) rfl ak)
  refine(bq ?_);refine(cE ?_);exact(Rb rfl rfl T.pJ rfl T.lu (aA (pv 3)) (aA (pv 5)))) λss y h=>du h
def zh:DS:=(ay (au (aM gr (fV [.int 0]) (aj (bh cb (aj (ag aq 0 (aj (eD (.int 2)))))))) (af [] 5)) (ay (cF (cA (qF (aM e_ (bh gQ (aj (ag aq 0 (aj (eD (.int 2)))))) (ao 1)) gC (eU (aa 3)))) (af [] 6) (cF (cA (gj 6 gC (eU (aa 4)))) (af [] 7) (au (cq [9,8] (fW (aa 5) (aw iP [.val (aa 0),.val (aa 7),.val (ag nL 2 (aj (eD (.int 1))))])) (bI 2 (aI (af [] 9) (aI (af [] 8) bL))) bj (ag aN 9 (aj (ag aq 8 (aj (eD (.int 1))))))) (af [] 5)))) (bM (cq [8,9] (fW (ag aq 0 (aj (eD (.int 2)))) (aa 5)) (bI 2 (aI (af [] 8) (aI (af [] 9) bL))) bj (d_ (bH (ag aq 8 (aj (eD (.int 0)))) (bH (aa 9) cU)))))))
def mR:DF:=b9 [] 10 zh
theorem Tj:c7 mR:=dF
theorem lD:cL ["rule","tile","growings","down","along","total","line","sign","pair","one"] ["rule","tile","growings","down","along"] (cf yv):=scc
theorem Tn {K:W3} (F:cu K "_law_edges" "_law_edges" yv f fd) (hm:mg "_law_edges" = some (.ref f)) (hb:Binds K fd ["rule","tile","growings","down","along"] []) (T:Txt K mg) (pM:aP P w K mg base 2 "_law_counts" 3 iP):aP P w K mg base 3 "_law_edges" 5 mR :=
 dQ (np:=[]) (fb:=zh) F hm hb lD (λc bu A outer s H E hr ax=>by
  have hq:=dG hr;refine(aU ?_ ?_)
  ·exact(@bJ _ _ _ _ _ _ ([]) (5) _ ax lD.nd rfl ak (cM xD xE (qU (by rfl) (by decide)) (aC (kX rfl T.iN (aC (bG bx bz (pv 0) (aC aH) (λ_ _=>rfl))) (by rfl)))) rfl ak)
  refine(aU ?_ ?_)
  ·refine(fL PassesOwn.never rfl ?_ ?_ ?_ (by intro _; rfl))
   ·exact(gF (M9 (oR (uw hq) uv (uu rfl rfl T.mF (aC (bG bx bz (pv 0) (aC aH) (λ_ _=>rfl))) (by rfl)) (bK (pv 1)) (λ_ _=>rfl)) t4 (oZ (aA (pv 3)))))
   ·exact(@cN _ _ _ ([]) (6) _ ax lD.nd rfl ak ak)
   ·refine(bq ?_);refine(fL PassesOwn.never rfl ?_ ?_ ?_ (by intro _; rfl))
    ·exact(gF (t5 (pv 6) t4 (oZ (aA (pv 4)))))
    ·exact(@cN _ _ _ ([]) (7) _ ax lD.nd rfl ak ak)
    ·refine(bq ?_);exact(@qO _ _ ([9,8]) _ _ _ _ _ _ _ _ _ _ ([]) (5) _ _ _ ax rfl (gE rfl rfl) lD.nd rfl rfl (uG rfl T.lu (aA (pv 5)) (@bE _ _ _ _ _ (2) _ _ _ _ _ pM FC (hr.mono (by decide)) rfl (aE (aA (pv 0)) (aE (aA (pv 7)) (aE (dX AU Cz (pv 2) (aC aH)) bD (by rfl)) (by rfl)) (by rfl)) rfl (by decide) (by rfl) (by rfl)) (by rfl) (by rfl) (by rfl)) (λl s0 H0 ex=>(qL rfl (kc (@fm _ _ _ _ ([]) (9) _ ax lD.nd rfl ak ak (by decide)) (kc (@fm _ _ _ _ ([]) (8) _ ax lD.nd rfl ak ak (by decide)) qK (by rfl)) (by rfl)) (by rfl) (by rfl))) (λl s0 H0 ex=>gP) (λl s0 H0 ex=>(dX dY dZ (pv 9) (aC (bG bx bz (pv 8) (aC aH) (λ_ _=>rfl))))) (gD ax rfl) (by rfl) (by intro _; rfl))
  refine(bq ?_);refine(cE ?_);exact(@jH _ _ ([8,9]) _ _ _ _ _ _ _ _ _ _ rfl (gE rfl rfl) (uG rfl T.lu (bG bx bz (pv 0) (aC aH) (λ_ _=>rfl)) (aA (pv 5)) (by rfl) (by rfl) (by rfl)) (λl s0 H0 ex=>(qL rfl (kc (@fm _ _ _ _ ([]) (8) _ ax lD.nd rfl ak ak (by decide)) (kc (@fm _ _ _ _ ([]) (9) _ ax lD.nd rfl ak ak (by decide)) qK (by rfl)) (by rfl)) (by rfl) (by rfl))) (λl s0 H0 ex=>gP) (λl s0 H0 ex=>(jB (dR (bG bx bz (pv 8) (aC aH) (λ_ _=>rfl)) (dR (aA (pv 9)) gz (by rfl)) (by rfl)) (by decide))) (gD ax rfl) (by intro _; rfl))) λss y h=>du h
def zi:DS:=(ay (au (aw gT [.val (ag aq 0 (aj (eD (.int 0)))),.val (aa 2)]) (af [3] 4)) (ay (au (aw gT [.val (ag aq 0 (aj (eD (.int 1)))),.val (aa 2)]) (af [3] 5)) (ay (da (fg (aV (aw ic [.val (aw gu [.val (aa 0),.val (aa 1),.val (aa 2),.val (aa 4),.val (aa 5)]),.val (aw iP [.val (aa 0),.val (aa 1),.val (aa 2)])]))) (bM (eD (.bl false))) cV) (ay (au (aw b_ [.io 3,.val (aM aN (ag aq 0 (aj (eD (.int 0)))) (aj (eD (.int 1))))]) (af [3] 6)) (ay (au (aw b_ [.io 3,.val (aM aN (ag aq 0 (aj (eD (.int 1)))) (aj (eD (.int 1))))]) (af [3] 7)) (ay (au (aw mR [.val (aa 0),.val (aa 1),.val (aa 2),.val (aa 6),.val (aa 7)]) (af [3] 8)) (ay (au (aw gu [.val (aa 0),.val (aa 1),.val (aa 2),.val (aM gi (ag h_ 6 (ao 4)) (aj (ag aq 0 (aj (eD (.int 0)))))),.val (aM gi (ag h_ 7 (ao 5)) (aj (ag aq 0 (aj (eD (.int 1))))))]) (af [3] 9)) (ay (da (fg (aV (aw ic [.val (aa 9),.val (aa 8)]))) (bM (eD (.bl false))) cV) (ay (au (aw b_ [.io 3,.val (ag aN 4 (aj (eD (.int 1))))]) (af [3] 10)) (ay (au (aw b_ [.io 3,.val (ag aN 5 (aj (eD (.int 1))))]) (af [3] 11)) (ay (au (aw gu [.val (aa 0),.val (aa 1),.val (aa 2),.val (aa 10),.val (aa 11)]) (af [3] 9)) (ay (da (aV (aM hU (bh lb (aj (cq [12] (cA (aa 9)) (af [3] 12) bj (ag aq 12 (aj (eD (.int 1))))))) (aj (ag h_ 10 (ao 11))))) (bM (eD (.bl false))) cV) (bM (aM cn (aw gu [.val (aa 0),.val (aa 1),.val (aa 2),.val (aa 10),.val (aa 11)]) (ao 9)))))))))))))))
def kC:DF:=b9 [3] 13 zi
theorem To:c7 kC:=dF
theorem jS:cL ["rule","tile","growings","pen","high","wide","down","along","due","found","rows","columns","one"] ["rule","tile","growings","pen"] (cf yw):=scc
theorem Tp {K:W3} (F:cu K "_law_far_right" "_law_far_right" yw f fd) (hm:mg "_law_far_right" = some (.ref f)) (hb:Binds K fd ["rule","tile","growings","pen"] []) (T:Txt K mg) (cX:aP P w K mg base 2 "_law_draw" 2 b_) (ox:aP P w K mg base 1 "_law_power" 2 gT) (ow:aP P w K mg base 2 "_law_counts_are" 2 ic) (lC:aP P w K mg base 3 "counts_within" 5 gu) (pM:aP P w K mg base 2 "_law_counts" 3 iP) (zj:aP P w K mg base 3 "_law_edges" 5 mR):aP P w K mg base 4 "_law_far_right" 4 kC :=
 dQ (np:=[3]) (fb:=zi) F hm hb jS (λc bu A outer s H E hr ax=>by
  have hq:=dG hr;refine(aU ?_ ?_)
  ·exact(@bJ _ _ _ _ _ _ ([3]) (4) _ ax jS.nd rfl ak (@bE _ _ _ _ _ (1) _ _ _ _ _ ox yH (hr.mono (by decide)) rfl (aE (bG bx bz (pv 0) (aC aH) (λ_ _=>rfl)) (aE (aA (pv 2)) bD (by rfl)) (by rfl)) rfl (by decide) (by rfl) (by rfl)) rfl ak)
  refine(aU ?_ ?_)
  ·exact(@bJ _ _ _ _ _ _ ([3]) (5) _ ax jS.nd rfl ak (@bE _ _ _ _ _ (1) _ _ _ _ _ ox yH (hr.mono (by decide)) rfl (aE (bG bx bz (pv 0) (aC aH) (λ_ _=>rfl)) (aE (aA (pv 2)) bD (by rfl)) (by rfl)) rfl (by decide) (by rfl) (by rfl)) rfl ak)
  refine(aU ?_ ?_)
  ·refine(gk ?_ ?_ ?_)
   ·exact(kU (iw (@bE _ _ _ _ _ (2) _ _ _ _ _ ow yP (hr.mono (by decide)) rfl (aE (@bE _ _ _ _ _ (3) _ _ _ _ _ lC rX (hr.mono (by decide)) rfl (aE (aA (pv 0)) (aE (aA (pv 1)) (aE (aA (pv 2)) (aE (aA (pv 4)) (aE (aA (pv 5)) bD (by rfl)) (by rfl)) (by rfl)) (by rfl)) (by rfl)) rfl (by decide) (by rfl) (by rfl)) (aE (@bE _ _ _ _ _ (2) _ _ _ _ _ pM FC (hr.mono (by decide)) rfl (aE (aA (pv 0)) (aE (aA (pv 1)) (aE (aA (pv 2)) bD (by rfl)) (by rfl)) (by rfl)) rfl (by decide) (by rfl) (by rfl)) bD (by rfl)) (by rfl)) rfl (by decide) (by rfl) (by rfl)) (by intro _; rfl)))
   ·refine(bq ?_);refine(cE ?_);exact j6
   ·exact fS
  refine(aU ?_ ?_)
  ·exact(@bJ _ _ _ _ _ _ ([3]) (6) _ ax jS.nd rfl ak (@bE _ _ _ _ _ (2) _ _ _ _ _ cX fF (hr.mono (by decide)) rfl (eh (pv 3) (aE (cM dY dZ (bG bx bz (pv 0) (aC aH) (λ_ _=>rfl)) (aC aH)) bD (by rfl)) (by rfl)) rfl (by decide) (by rfl) (by rfl)) rfl ak)
  refine(aU ?_ ?_)
  ·exact(@bJ _ _ _ _ _ _ ([3]) (7) _ ax jS.nd rfl ak (@bE _ _ _ _ _ (2) _ _ _ _ _ cX fF (hr.mono (by decide)) rfl (eh (pv 3) (aE (cM dY dZ (bG bx bz (pv 0) (aC aH) (λ_ _=>rfl)) (aC aH)) bD (by rfl)) (by rfl)) rfl (by decide) (by rfl) (by rfl)) rfl ak)
  refine(aU ?_ ?_)
  ·exact(@bJ _ _ _ _ _ _ ([3]) (8) _ ax jS.nd rfl ak (@bE _ _ _ _ _ (3) _ _ _ _ _ zj Tj (hr.mono (by decide)) rfl (aE (aA (pv 0)) (aE (aA (pv 1)) (aE (aA (pv 2)) (aE (aA (pv 6)) (aE (aA (pv 7)) bD (by rfl)) (by rfl)) (by rfl)) (by rfl)) (by rfl)) rfl (by decide) (by rfl) (by rfl)) rfl ak)
  refine(aU ?_ ?_)
  ·exact(@bJ _ _ _ _ _ _ ([3]) (9) _ ax jS.nd rfl ak (@bE _ _ _ _ _ (3) _ _ _ _ _ lC rX (hr.mono (by decide)) rfl (aE (aA (pv 0)) (aE (aA (pv 1)) (aE (aA (pv 2)) (aE (cM qg qD (dX xO xP (pv 6) (bK (pv 4))) (aC (bG bx bz (pv 0) (aC aH) (λ_ _=>rfl)))) (aE (cM qg qD (dX xO xP (pv 7) (bK (pv 5))) (aC (bG bx bz (pv 0) (aC aH) (λ_ _=>rfl)))) bD (by rfl)) (by rfl)) (by rfl)) (by rfl)) (by rfl)) rfl (by decide) (by rfl) (by rfl)) rfl ak)
  refine(aU ?_ ?_)
  ·refine(gk ?_ ?_ ?_)
   ·exact(kU (iw (@bE _ _ _ _ _ (2) _ _ _ _ _ ow yP (hr.mono (by decide)) rfl (aE (aA (pv 9)) (aE (aA (pv 8)) bD (by rfl)) (by rfl)) rfl (by decide) (by rfl) (by rfl)) (by intro _; rfl)))
   ·refine(bq ?_);refine(cE ?_);exact j6
   ·exact fS
  refine(aU ?_ ?_)
  ·exact(@bJ _ _ _ _ _ _ ([3]) (10) _ ax jS.nd rfl ak (@bE _ _ _ _ _ (2) _ _ _ _ _ cX fF (hr.mono (by decide)) rfl (eh (pv 3) (aE (dX dY dZ (pv 4) (aC aH)) bD (by rfl)) (by rfl)) rfl (by decide) (by rfl) (by rfl)) rfl ak)
  refine(aU ?_ ?_)
  ·exact(@bJ _ _ _ _ _ _ ([3]) (11) _ ax jS.nd rfl ak (@bE _ _ _ _ _ (2) _ _ _ _ _ cX fF (hr.mono (by decide)) rfl (eh (pv 3) (aE (dX dY dZ (pv 5) (aC aH)) bD (by rfl)) (by rfl)) rfl (by decide) (by rfl) (by rfl)) rfl ak)
  refine(aU ?_ ?_)
  ·exact(@bJ _ _ _ _ _ _ ([3]) (9) _ ax jS.nd rfl ak (@bE _ _ _ _ _ (3) _ _ _ _ _ lC rX (hr.mono (by decide)) rfl (aE (aA (pv 0)) (aE (aA (pv 1)) (aE (aA (pv 2)) (aE (aA (pv 10)) (aE (aA (pv 11)) bD (by rfl)) (by rfl)) (by rfl)) (by rfl)) (by rfl)) rfl (by decide) (by rfl) (by rfl)) rfl ak)
  refine(aU ?_ ?_)
  ·refine(gk ?_ ?_ ?_)
   ·exact(nH (Cd hq) CA (Rf rfl rfl T.rW (aC (@jH _ _ ([12]) _ _ _ _ _ _ _ _ _ _ rfl (gE rfl rfl) (gF (aA (pv 9))) (λl s0 H0 ex=>(@fm _ _ _ _ ([3]) (12) _ ax jS.nd rfl ak ak (by decide))) (λl s0 H0 ex=>gP) (λl s0 H0 ex=>(bG bx bz (pv 12) (aC aH) (λ_ _=>rfl))) (gD ax rfl) (by intro _; rfl)))) (aC (dX xO xP (pv 10) (bK (pv 11)))) (eZ _))
   ·refine(bq ?_);refine(cE ?_);exact j6
   ·exact fS
  refine(bq ?_);refine(cE ?_);exact(MH (j7 hq) j_ (@bE _ _ _ _ _ (3) _ _ _ _ _ lC rX (hr.mono (by decide)) rfl (aE (aA (pv 0)) (aE (aA (pv 1)) (aE (aA (pv 2)) (aE (aA (pv 10)) (aE (aA (pv 11)) bD (by rfl)) (by rfl)) (by rfl)) (by rfl)) (by rfl)) rfl (by decide) (by rfl) (by rfl)) (bK (pv 9)) (eZ _))) λss y h=>du h
def zk:DS:=(ay (cF (cA (aM aN (jA (bH (aw mI [.val (aa 0),.val (eD (.int 0))]) cU)) (aj (gj 0 (eU (eD (.int 1))) (eU (eD (.int 3))))))) (af [] 1) (ay (au (aw kq [.val (aa 1)]) (af [] 2)) (ay (au (aw kr [.io 2,.val (eD (.int 5))]) (af [] 3)) (ay (au (aM aq (aM aq (ag aq 3 (aj (eD (.int 2)))) (aj (aw b_ [.io 2,.val (bh cb (aj (ag aq 3 (aj (eD (.int 2))))))]))) (aj (eD (.int 0)))) (af [] 4)) (ay (au (eD (.int 0)) (af [] 5)) (ay (gm (aV (aM i3 (aw gT [.val (aM c8 (ag aq 3 (aj (eD (.int 0)))) (aj (ag aq 3 (aj (eD (.int 1)))))),.val (ag aN 5 (aj (eD (.int 1))))]) (aj (eD (.int 300))))) (au (ag aN 5 (aj (eD (.int 1)))) (af [] 5)) 1000000) (ay (da (fg (aV (aw kA [.val (aa 3),.val (aa 4),.val (aw b_ [.io 2,.val (ag aN 5 (aj (eD (.int 1))))]),.io 2]))) (bM (eD (.bl false))) cV) (da (fg (aV (aw kC [.val (aa 3),.val (aa 4),.val (aM aN (eD (.int 1)) (aj (aw b_ [.io 2,.val (aM aq (fV [.int 8,.int 60]) (aj (aw b_ [.io 2,.val (eD (.int 2))])))]))),.io 2]))) (bM (eD (.bl false))) cV)))))))) (bM (eD (.bl true))))
def pN:DF:=b9 [] 6 zk
theorem XX:c7 pN:=dF
theorem oy:cL ["script","cell","pen","rule","tile","growings"] ["script"] (cf lr):=scc
theorem Tq {K:W3} (F:cu K "law" "law" lr f fd) (T:Txt K mg) (zm:aP P w K mg base 1 "_law_cell_at" 2 mI) (zo:aP P w K mg base 1 "_law_pen_of" 1 kq) (cX:aP P w K mg base 2 "_law_draw" 2 b_) (zq:aP P w K mg base 4 "_law_rule_by" 2 kr) (ox:aP P w K mg base 1 "_law_power" 2 gT) (zr:aP P w K mg base 4 "_law_laid_right" 4 kA) (zt:aP P w K mg base 4 "_law_far_right" 4 kC):jt P w K mg base jw 5 f fd ["script"] (mi 1 pN) :=
 Df (np:=[]) (fb:=zk) F oy (λc bu A outer s H E hr ax=>by
  have hq:=dG hr;refine(@aU _ _ _ _ _ _ ?_ ?_)
  ·refine(@fL _ _ _ _ _ _ _ _ _ PassesOwn.never rfl ?_ ?_ ?_ (by intro _; rfl))
   ·exact(@gF _ _ _ _ _ (@cM _ _ _ _ _ _ _ _ _ _ dY dZ (@oV _ _ _ _ _ (@dR _ _ _ _ _ _ (@bE _ _ _ _ _ (1) _ _ _ _ _ zm Sh (hr.mono (by decide)) rfl (@aE _ _ _ _ _ _ (@aA _ _ _ _ (pv 0)) (@aE _ _ _ _ _ _ (@aH _ _ _ _ _) (@bD _ _) (by rfl)) (by rfl)) rfl (by decide) (by rfl) (by rfl)) (@gz _ _) (by rfl)) (by decide)) (@aC _ _ _ _ (@t5 _ _ _ _ _ _ _ _ _ _ (pv 0) (@oZ _ _ _ _ (@aH _ _ _ _ _)) (@oZ _ _ _ _ (@aH _ _ _ _ _))))))
   ·exact(@cN _ _ _ ([]) (1) _ ax oy.nd rfl ak ak)
   ·refine(@aU _ _ _ _ _ _ ?_ ?_)
    ·exact(@bJ _ _ _ _ _ _ ([]) (2) _ ax oy.nd rfl ak (@bE _ _ _ _ _ (1) _ _ _ _ _ zo Sk (hr.mono (by decide)) rfl (@aE _ _ _ _ _ _ (@aA _ _ _ _ (pv 1)) (@bD _ _) (by rfl)) rfl (by decide) (by rfl) (by rfl)) rfl ak)
    refine(@aU _ _ _ _ _ _ ?_ ?_)
    ·exact(@bJ _ _ _ _ _ _ ([]) (3) _ ax oy.nd rfl ak (@bE _ _ _ _ _ (4) _ _ _ _ _ zq Sv (hr.mono (by decide)) rfl (@eh _ _ _ _ _ _ (pv 2) (@aE _ _ _ _ _ _ (@aH _ _ _ _ _) (@bD _ _) (by rfl)) (by rfl)) rfl (by decide) (by rfl) (by rfl)) rfl ak)
    refine(@aU _ _ _ _ _ _ ?_ ?_)
    ·exact(@bJ _ _ _ _ _ _ ([]) (4) _ ax oy.nd rfl ak (@oR _ _ _ _ _ _ _ _ _ bx bz (@oR _ _ _ _ _ _ _ _ _ bx bz (@bG _ _ _ _ _ _ _ _ _ bx bz (pv 3) (@aC _ _ _ _ (@aH _ _ _ _ _)) (λ_ _=>rfl)) (@aC _ _ _ _ (@bE _ _ _ _ _ (2) _ _ _ _ _ cX fF (hr.mono (by decide)) rfl (@eh _ _ _ _ _ _ (pv 2) (@aE _ _ _ _ _ _ (@kX _ _ _ _ _ _ rfl T.iN (@aC _ _ _ _ (@bG _ _ _ _ _ _ _ _ _ bx bz (pv 3) (@aC _ _ _ _ (@aH _ _ _ _ _)) (λ_ _=>rfl))) (by rfl)) (@bD _ _) (by rfl)) (by rfl)) rfl (by decide) (by rfl) (by rfl))) (λ_ _=>rfl)) (@aC _ _ _ _ (@aH _ _ _ _ _)) (λ_ _=>rfl)) rfl ak)
    refine(@aU _ _ _ _ _ _ ?_ ?_)
    ·exact(@bJ _ _ _ _ _ _ ([]) (5) _ ax oy.nd rfl ak (@aH _ _ _ _ _) rfl ak)
    refine(@aU _ _ _ _ _ _ ?_ ?_)
    ·refine(@Nl _ _ _ _ _ _ _ 1000000 (λh1 h2=>IY PassesOwn.never h1 h2) ?_ ?_)
     ·exact(@nH _ _ _ _ _ _ _ _ _ _ qE l8 (@bE _ _ _ _ _ (1) _ _ _ _ _ ox yH (hr.mono (by decide)) rfl (@aE _ _ _ _ _ _ (@cM _ _ _ _ _ _ _ _ _ _ nW nX (@bG _ _ _ _ _ _ _ _ _ bx bz (pv 3) (@aC _ _ _ _ (@aH _ _ _ _ _)) (λ_ _=>rfl)) (@aC _ _ _ _ (@bG _ _ _ _ _ _ _ _ _ bx bz (pv 3) (@aC _ _ _ _ (@aH _ _ _ _ _)) (λ_ _=>rfl)))) (@aE _ _ _ _ _ _ (@dX _ _ _ _ _ _ _ _ _ _ dY dZ (pv 5) (@aC _ _ _ _ (@aH _ _ _ _ _))) (@bD _ _) (by rfl)) (by rfl)) rfl (by decide) (by rfl) (by rfl)) (@aC _ _ _ _ (@aH _ _ _ _ _)) (eZ _))
     ·refine(@bq _ _ _ _ ?_);exact(@bJ _ _ _ _ _ _ ([]) (5) _ ax oy.nd rfl ak (@dX _ _ _ _ _ _ _ _ _ _ dY dZ (pv 5) (@aC _ _ _ _ (@aH _ _ _ _ _))) rfl ak)
    refine(@aU _ _ _ _ _ _ ?_ ?_)
    ·refine(@gk _ _ _ _ _ _ _ _ _ ?_ ?_ ?_)
     ·exact(@kU _ _ _ _ _ (@iw _ _ _ _ (@bE _ _ _ _ _ (4) _ _ _ _ _ zr Te (hr.mono (by decide)) rfl (@aE _ _ _ _ _ _ (@aA _ _ _ _ (pv 3)) (@aE _ _ _ _ _ _ (@aA _ _ _ _ (pv 4)) (@aE _ _ _ _ _ _ (@bE _ _ _ _ _ (2) _ _ _ _ _ cX fF (hr.mono (by decide)) rfl (@eh _ _ _ _ _ _ (pv 2) (@aE _ _ _ _ _ _ (@dX _ _ _ _ _ _ _ _ _ _ dY dZ (pv 5) (@aC _ _ _ _ (@aH _ _ _ _ _))) (@bD _ _) (by rfl)) (by rfl)) rfl (by decide) (by rfl) (by rfl)) (@eh _ _ _ _ _ _ (pv 2) (@bD _ _) (by rfl)) (by rfl)) (by rfl)) (by rfl)) rfl (by decide) (by rfl) (by rfl)) (by intro _; rfl)))
     ·refine(@bq _ _ _ _ ?_);refine(@cE _ _ _ _ _ ?_);exact(@j6 _ _ _ _ _)
     ·exact fS
    refine(@bq _ _ _ _ ?_);refine(@gk _ _ _ _ _ _ _ _ _ ?_ ?_ ?_)
    ·exact(@kU _ _ _ _ _ (@iw _ _ _ _ (@bE _ _ _ _ _ (4) _ _ _ _ _ zt To (hr.mono (by decide)) rfl (@aE _ _ _ _ _ _ (@aA _ _ _ _ (pv 3)) (@aE _ _ _ _ _ _ (@aA _ _ _ _ (pv 4)) (@aE _ _ _ _ _ _ (@cM _ _ _ _ _ _ _ _ _ _ dY dZ (@aH _ _ _ _ _) (@aC _ _ _ _ (@bE _ _ _ _ _ (2) _ _ _ _ _ cX fF (hr.mono (by decide)) rfl (@eh _ _ _ _ _ _ (pv 2) (@aE _ _ _ _ _ _ (@oR _ _ _ _ _ _ _ _ _ bx bz (@qU _ _ _ _ _ (by rfl) (by decide)) (@aC _ _ _ _ (@bE _ _ _ _ _ (2) _ _ _ _ _ cX fF (hr.mono (by decide)) rfl (@eh _ _ _ _ _ _ (pv 2) (@aE _ _ _ _ _ _ (@aH _ _ _ _ _) (@bD _ _) (by rfl)) (by rfl)) rfl (by decide) (by rfl) (by rfl))) (λ_ _=>rfl)) (@bD _ _) (by rfl)) (by rfl)) rfl (by decide) (by rfl) (by rfl)))) (@eh _ _ _ _ _ _ (pv 2) (@bD _ _) (by rfl)) (by rfl)) (by rfl)) (by rfl)) rfl (by decide) (by rfl) (by rfl)) (by intro _; rfl)))
    ·refine(@bq _ _ _ _ ?_);refine(@cE _ _ _ _ _ ?_);exact(@j6 _ _ _ _ _)
    ·exact fS
  refine(@bq _ _ _ _ ?_);refine(@cE _ _ _ _ _ ?_);exact(@j6 _ _ _ _ _)) λss y h=>du h
theorem all_mk {l:PySem.W.OpenLaw} {w:Wq} {K:W3} {h:Heap} {mg:Str->Option Value} {fa:Addr} (X:K.In h) (G:h.Ns WE mg) (Tr:mg "law" = some (.ref fa))
  (d0:dH K "_law_cell_at" x6)
  (d1:dH K "_law_pen_of" x8)
  (d2:dH K "_law_next" x9)
  (d3:dH K "_law_draw" x_)
  (d4:dH K "_law_sizes_by" ya)
  (d5:dH K "_law_pick" yb)
  (d6:dH K "_law_rule_by" yc)
  (d7:dH K "_law_power" yd)
  (d8:dH K "_law_grow" ye)
  (d9:dH K "_law_grow_often" yf)
  (jT:dH K "_law_part" yg)
  (jU:dH K "_law_whole" yh)
  (zu:dH K "_law_counts_are" yi)
  (zv:dH K "refuse_no_tile" yj)
  (zw:dH K "grown_size" yk)
  (zy:dH K "whole_from" yl)
  (zz:dH K "whole_within" ym)
  (zA:dH K "held_grown" yn)
  (zB:dH K "rule_tiles" yo)
  (zC:dH K "counts_listed" yp)
  (zD:dH K "counts_within" yq)
  (zE:dH K "_law_laid_right" yr)
  (zF:dH K "_law_table" yt)
  (zG:dH K "_law_counts" yu)
  (zH:dH K "_law_edges" yv)
  (zI:dH K "_law_far_right" yw)
  (qM:nsIn K WE "law" = some (some (.ref f26)))
  (zJ:K.lookup f26=some ⟨oc26,od26,.func (QS "law" "law" (lY lr) (jv lr) (cf lr) .none kV26 dc26 pm26 an26 cd26 ct26),sl26⟩)
  (zK:codeIn K cd26 "law" = true)
  (zL:keepIn K (.ref f26)=true)
  (rS:nsIn K WE "all" = some none)
  (pH:nsIn K WE "bool" = some none)
  (mF:nsIn K WE "dict" = some none)
  (pI:nsIn K WE "enumerate" = some none)
  (mG:nsIn K WE "int" = some none)
  (jP:nsIn K WE "isinstance" = some none)
  (iN:nsIn K WE "len" = some none)
  (pJ:nsIn K WE "list" = some none)
  (rT:nsIn K WE "max" = some none)
  (gS:nsIn K WE "range" = some none)
  (rU:nsIn K WE "sorted" = some none)
  (rV:nsIn K WE "str" = some none)
  (rW:nsIn K WE "sum" = some none)
  (mH:nsIn K WE "tuple" = some none)
  (lu:nsIn K WE "zip" = some none)
  : ∃ fd:Qn,(∀ (s:W4) (v:Value),BindsTo s fd ⟨[v],[]⟩ [("script",v)])/\∀ base:Heap,K.In base->base.Ns WE mg->jt l.prog w K mg base jw 5 fa fd ["script"] (mi 1 pN):=by
 have e:=Tr.symm.trans (mg_of X G qM)
 cases e;have T:Txt K mg:=⟨WP X G rS,WP X G pH,WP X G mF,WP X G pI,WP X G mG,WP X G jP,WP X G iN,WP X G pJ,WP X G rT,WP X G gS,WP X G rU,WP X G rV,WP X G rW,WP X G mH,WP X G lu,NP,NO,NS,NQ,NR⟩
 obtain⟨f0,fd0,F0,m0⟩:=dS X G d0;obtain⟨f1,fd1,F1,m1⟩:=dS X G d1;obtain⟨f2,fd2,F2,m2⟩:=dS X G d2;obtain⟨f3,fd3,F3,m3⟩:=dS X G d3;obtain⟨f4,fd4,F4,m4⟩:=dS X G d4;obtain⟨f5,fd5,F5,m5⟩:=dS X G d5;obtain⟨f6,fd6,F6,m6⟩:=dS X G d6;obtain⟨f7,fd7,F7,m7⟩:=dS X G d7;obtain⟨f8,fd8,F8,m8⟩:=dS X G d8;obtain⟨f9,fd9,F9,m9⟩:=dS X G d9;obtain⟨f10,fd10,rY,m10⟩:=dS X G jT;obtain⟨f11,fd11,rZ,m11⟩:=dS X G jU;obtain⟨f12,fd12,r8,m12⟩:=dS X G zu;obtain⟨dm,fd13,r9,m13⟩:=dS X G zv;obtain⟨f14,fd14,F14,m14⟩:=dS X G zw;obtain⟨f15,fd15,F15,m15⟩:=dS X G zy;obtain⟨f16,fd16,F16,m16⟩:=dS X G zz;obtain⟨f17,fd17,F17,m17⟩:=dS X G zA;obtain⟨f18,fd18,F18,m18⟩:=dS X G zB;obtain⟨f19,fd19,F19,m19⟩:=dS X G zC;obtain⟨f20,fd20,F20,m20⟩:=dS X G zD;obtain⟨f21,fd21,F21,m21⟩:=dS X G zE;obtain⟨f22,fd22,F22,m22⟩:=dS X G zF;obtain⟨f23,fd23,F23,m23⟩:=dS X G zG;obtain⟨f24,fd24,F24,m24⟩:=dS X G zH;obtain⟨f25,fd25,F25,m25⟩:=dS X G zI;have Ts:=BI (st:=lr) zJ zK zL;refine⟨QS "law" "law" (lY lr) (jv lr) (cf lr) .none kV26 dc26 pm26 an26 cd26 ct26,λs v=>.of_eq rfl,λbase _ _=>?_⟩;have zm:aP l.prog w K mg base 1 "_law_cell_at" 2 mI:=Sj F0 m0 (k9 F0 λ_ _ _ _ _ _ _ _=>rfl) T;have zo:aP l.prog w K mg base 1 "_law_pen_of" 1 kq:=Sl F1 m1 (pC F1 λ_ _ _ _ _ _ _=>rfl) T;have uZ:aP l.prog w K mg base 1 "_law_next" 1 mJ:=Sm F2 m2 (pC F2 λ_ _ _ _ _ _ _=>rfl) T;have cX:aP l.prog w K mg base 2 "_law_draw" 2 b_:=Sn F3 m3 (k9 F3 λ_ _ _ _ _ _ _ _=>rfl) T uZ;have yE:aP l.prog w K mg base 3 "_law_sizes_by" 1 oq:=Sq F4 m4 (pC F4 λ_ _ _ _ _ _ _=>rfl) T cX;have yF:aP l.prog w K mg base 3 "_law_pick" 4 iO:=Su F5 m5 (rH F5 λ_ _ _ _ _ _ _ _ _ _=>rfl) T cX;have zq:aP l.prog w K mg base 4 "_law_rule_by" 2 kr:=Sw F6 m6 (k9 F6 λ_ _ _ _ _ _ _ _=>rfl) T cX yE yF;have ox:aP l.prog w K mg base 1 "_law_power" 2 gT:=Sx F7 m7 (k9 F7 λ_ _ _ _ _ _ _ _=>rfl) T;have yM:aP l.prog w K mg base 1 "_law_grow" 2 jQ:=Sz F8 m8 (k9 F8 λ_ _ _ _ _ _ _ _=>rfl) T;have zc:aP l.prog w K mg base 2 "_law_grow_often" 3 mL:=SF F9 m9 (uH F9 λ_ _ _ _ _ _ _ _ _=>rfl) T yM;have zd:aP l.prog w K mg base 1 "_law_part" 4 ku:=SJ rY m10 (rH rY λ_ _ _ _ _ _ _ _ _ _=>rfl) T;have yQ:aP l.prog w K mg base 1 "_law_whole" 1 lA:=SN rZ m11 (pC rZ λ_ _ _ _ _ _ _=>rfl) T;have ow:aP l.prog w K mg base 2 "_law_counts_are" 2 ic:=SQ r8 m12 (k9 r8 λ_ _ _ _ _ _ _ _=>rfl) T yQ;have y9:aP l.prog w K mg base 1 "refuse_no_tile" 2 mM:=SY r9 m13 (k9 r9 λ_ _ _ _ _ _ _ _=>rfl) T;have u4:aP l.prog w K mg base 1 "grown_size" 3 je:=S0 F14 m14 (uH F14 λ_ _ _ _ _ _ _ _ _=>rfl) T;have yW:aP l.prog w K mg base 1 "whole_from" 2 ot:=S5 F15 m15 (k9 F15 λ_ _ _ _ _ _ _ _=>rfl) T;have u5:aP l.prog w K mg base 2 "whole_within" 3 kz:=S7 F16 m16 (uH F16 λ_ _ _ _ _ _ _ _ _=>rfl) T yW;have y_:aP l.prog w K mg base 1 "held_grown" 4 mN:=S9 F17 m17 (rH F17 λ_ _ _ _ _ _ _ _ _ _=>rfl) T;have y6:aP l.prog w K mg base 1 "rule_tiles" 1 mO:=Ta F18 m18 (pC F18 λ_ _ _ _ _ _ _=>rfl) T;have za:aP l.prog w K mg base 2 "counts_listed" 2 ou:=Tc F19 m19 (k9 F19 λ_ _ _ _ _ _ _ _=>rfl) T y6;have lC:aP l.prog w K mg base 3 "counts_within" 5 gu:=Td F20 m20 (Ed F20 λ_ _ _ _ _ _ _ _ _ _ _=>rfl) T y9 u4 u5 y_ za;have zr:aP l.prog w K mg base 4 "_law_laid_right" 4 kA:=Tf F21 m21 (rH F21 λ_ _ _ _ _ _ _ _ _ _=>rfl) T cX zc zd ow lC;have zg:aP l.prog w K mg base 1 "_law_table" 1 mP:=Th F22 m22 (pC F22 λ_ _ _ _ _ _ _=>rfl) T;have pM:aP l.prog w K mg base 2 "_law_counts" 3 iP:=Ti F23 m23 (uH F23 λ_ _ _ _ _ _ _ _ _=>rfl) T zg;have zj:aP l.prog w K mg base 3 "_law_edges" 5 mR:=Tn F24 m24 (Ed F24 λ_ _ _ _ _ _ _ _ _ _ _=>rfl) T pM;have zt:aP l.prog w K mg base 4 "_law_far_right" 4 kC:=Tp F25 m25 (rH F25 λ_ _ _ _ _ _ _ _ _ _=>rfl) T cX ox ow lC pM zj;exact Tq Ts T zm zo cX zq ox zr zt
open PySem (sizeLine)
def bU(bs:List (Nat×List Tx))(n:Nat):List Tx:=((bs.find? λb=>decide (b.1=n)).map (·.2)).getD []
theorem oz(h:n ∈ bs.map (·.1)):∃ b ∈ bs,b.1=n/\(bs.find? λb=>decide (b.1=n))=some b/\bU bs n=b.2:=by
 cases e:bs.find? λb=>decide (b.1=n) with
 | none =>
  obtain⟨b,hb,rfl⟩:=WX.mp h;have:=List.find?_eq_none.mp e b hb;simp at this
 | some b =>
  have h1:=List.mem_of_find?_eq_some e;have h2:=List.find?_some e;refine⟨b,h1,by simpa using h2,rfl,?_⟩;unfold bU;rw[e];rfl
def fX(bs:List (Nat×List Tx))(l:Nat)(row:Tx):Tx:=(row.map λn=>(bU bs n).getD l []).flatten
def layR(h:Nat)(bs:List (Nat×List Tx))(row:Tx):List Tx:=(Qb h).map λl=>fX bs l row
def lay(h:Nat)(bs:List (Nat×List Tx))(fl:List Tx):List Tx:=fl.flatMap (layR h bs)
structure jV(bs:List (Nat×List Tx))(R C:Nat)(fl:List Tx):Prop where
 rows:fl.length=R
 cols:∀ r ∈ fl,r.length=C
 tl:∀ r ∈ fl,∀ n ∈ r,n ∈ bs.map (·.1)
theorem zM(R:bF h w bs)(hn:n ∈ bs.map (·.1))(hl:l < h):((bU bs n).getD l []).length=w/\(∀ k ∈ (bU bs n).getD l [],k ∈ bs.map (·.1))/\aq (aT (bU bs n)) (.int l)=some (.pure (.str ((bU bs n).getD l []))):=by
 obtain⟨b,hb,_,_,e2⟩:=oz hn;have hB:=R.bU b hb;have gv:l < b.2.length:=by omega
 have hm:b.2.getD l [] ∈ b.2:=by
  rw[Jj,Wg gv];exact J4 gv
 have hr:=hB.2 _ hm;rw[e2];exact⟨hr.1,hr.2,by simp[aq,i_,gv]⟩
theorem zN(R:bF h w bs)(hl:l < h):∀ row:Tx,(∀ n ∈ row,n ∈ bs.map (·.1))->(fX bs l row).length=row.length * w/\∀ k ∈ fX bs l row,k ∈ bs.map (·.1)
 | [],_=>by simp[fX]
 | n :: r,h'=>by
  have ih:=zN R hl r λk hk=>h' k (W7 _ hk)
  have h1:=zM R (h' n Wb) hl;have e:fX bs l (n :: r)=(bU bs n).getD l [] ++ fX bs l r:=rfl;rw[e];refine⟨by rw[WU,h1.1,ih.1,WB,J8,Nat.add_comm],λk hk=>?_⟩;rcases Je.mp hk with hk | hk
  ·exact h1.2.1 k hk
  ·exact ih.2 k hk
theorem FE(R:bF h w bs)(F:jV bs A C fl):jV bs (A * h) (C * w) (lay h bs fl):=by
 refine⟨?_,λr hr=>?_,λr hr=>?_⟩
 ·rw[<- F.rows];clear F;induction fl with
  | nil=>simp[lay]
  | cons x q ih =>
   have e:lay h bs (x :: q)=layR h bs x ++ lay h bs q:=rfl;rw[e,WU,ih,WB,J8];simp[layR,Nat.add_comm]
 ·simp only[lay,List.mem_flatMap,layR,List.mem_map,List.mem_range] at hr;obtain⟨x,hx,l,hl,rfl⟩:=hr;rw[(zN R hl x (F.tl x hx)).1,F.cols x hx]
 ·simp only[lay,List.mem_flatMap,layR,List.mem_map,List.mem_range] at hr;obtain⟨x,hx,l,hl,rfl⟩:=hr;exact(zN R hl x (F.tl x hx)).2
def sm:List Nat->(Nat->Nat)->Nat
 | [],_=>0
 | t :: r,f=>f t + sm r f
theorem r_(f:Nat->Nat):sm [] f=0:=rfl
theorem iQ(t:Nat)(r:List Nat)(f:Nat->Nat):sm (t :: r) f=f t + sm r f:=rfl
theorem oA:∀ {ts:List Nat} {f g:Nat->Nat},(∀ t ∈ ts,f t=g t)->sm ts f=sm ts g
 | [],_,_,_=>rfl
 | t :: r,f,g,h=>by
  rw[iQ,iQ,h t Wb,oA λx hx=>h x (W7 _ hx)]
theorem u6(f g:Nat->Nat):∀ ts:List Nat,sm ts (λt=>f t + g t)=sm ts f + sm ts g
 | []=>rfl
 | t :: r=>by
  rw[iQ,iQ,iQ,u6 f g r];show f t + g t + _=_;omega
theorem se:∀ {ts:List Nat} {f:Nat->Nat},(∀ t ∈ ts,f t=0)->sm ts f=0
 | [],_,_=>rfl
 | t :: r,f,h=>by
  rw[iQ,h t Wb,se λx hx=>h x (W7 _ hx)]
theorem zO(f:Nat->Nat):∀ a b:List Nat,sm (a ++ b) f=sm a f + sm b f
 | [],b=>by rw[Qx,r_,WW]
 | t :: r,b=>by
  rw[JT,iQ,iQ,zO f r b];omega
theorem FF(f:Nat->Nat)(n:Nat):∀ ts:List Nat,ts.Nodup->n ∈ ts->sm ts (λt=>(if t=n then 1 else 0) * f t)=f n
 | [],_,h=>by simp at h
 | t :: r,nd,h=>by
  obtain⟨n1,n2⟩:=WO.mp nd;rw[iQ];rcases Wr.mp h with e | h
  ·subst e;rw[se λt ht=>by rw[if_neg (λe=>n1 (by rw[<- e]; exact ht)),Nat.zero_mul]];simp
  ·have:t≠n:=λe=>n1 (by rw[e]; exact h)
   rw[FF f n r n2 h];simp[this]
theorem zP(f:Nat->Nat)(nd:ts.Nodup):∀ row:List Nat,(∀ n ∈ row,n ∈ ts)->sm row f=sm ts λt=>row.count t * f t
 | [],_=>by
  rw[r_,se λt _=>by rw[List.count_nil,Nat.zero_mul]]
 | n :: r,h=>by
  have ih:=zP f nd r λk hk=>h k (W7 _ hk)
  have e:sm ts (λt=>(n :: r).count t * f t)=sm ts (λt=>r.count t * f t + (if t=n then 1 else 0) * f t):=oA λt _=>by
   rw[Uo];by_cases q:n=t
   ·subst q;simp[Nat.add_mul]
   ·simp[q,Ne.symm q]
  rw[e,u6,FF f n ts nd (h n Wb),<- ih,iQ];omega
def M(bs:List (Nat×List Tx))(t s:Nat):Nat:=(bU bs t).flatten.count s
def zQ(bs:List (Nat×List Tx))(v:Nat->Nat):Nat->Nat:=λs=>sm (bs.map (·.1)) λt=>v t * M bs t s
def vec(bs:List (Nat×List Tx))(t0:Nat):Nat->Nat->Nat
 | 0=>λs=>if s=t0 then 1 else 0
 | k + 1=>zQ bs (vec bs t0 k)
theorem FG(bs:List (Nat×List Tx))(l s:Nat):∀ row:Tx,(fX bs l row).count s=sm row λn=>((bU bs n).getD l []).count s
 | []=>rfl
 | n :: r=>by
  have e:fX bs l (n :: r)=(bU bs n).getD l [] ++ fX bs l r:=rfl;rw[e,QE,FG bs l s r];rfl
theorem Tt(s:Nat):∀ (k:Nat) (b:List Tx),b.length=k->sm (Qb k) (λl=>(b.getD l []).count s)=b.flatten.count s:=by
 intro k;induction k with
 | zero =>
  intro b hb;have:b=[]:=JB.mp hb;subst this;rfl
 | succ k ih =>
  intro b hb;have hk:k < b.length:=by omega
  have e1:b=b.take k ++ [b[k]]:=by
   have:=List.take_append_drop k b;rw[Qa hk,List.drop_eq_nil_of_le (by omega)] at this;exact this.symm
  rw[List.range_succ,zO];have e2:sm (Qb k) (λl=>(b.getD l []).count s)=sm (Qb k) λl=>((b.take k).getD l []).count s:=oA λl hl=>by
   have hl:l < k:=List.mem_range.mp hl;simp[Jj,List.getElem?_take,hl]
  rw[e2,ih (b.take k) (by simp; omega)];have e3:b.flatten.count s=(b.take k).flatten.count s + (b[k]).count s:=by
   have:=congrArg (λz:List Tx=>z.flatten.count s) e1;simpa only[U0,QE,Q3,List.flatten_nil,Jg] using this
  rw[e3,iQ,r_];simp[Jj,hk]
theorem FH(f:Nat->Nat->Nat)(b:List Nat):∀ a:List Nat,sm a (λx=>sm b λy=>f x y)=sm b λy=>sm a λx=>f x y
 | []=>by
  rw[r_,se λt _=>r_ _]
 | x :: r=>by
  show sm b (λy=>f x y) + sm r (λx=>sm b λy=>f x y)=_;rw[FH f b r,<- u6];rfl
theorem Tu(R:bF h w bs)(s:Nat)(row:Tx)(hr:∀ n ∈ row,n ∈ bs.map (·.1)):(layR h bs row).flatten.count s=sm row λn=>M bs n s:=by
 have e:∀ ls:List Nat,((ls.map λl=>fX bs l row).flatten).count s=sm ls λl=>sm row λn=>((bU bs n).getD l []).count s:=by
  intro ls;induction ls with
  | nil=>rfl
  | cons l q ih =>
   rw[Wk,Q3,QE,ih,FG];rfl
 unfold layR;rw[e,FH];refine oA λn hn=>?_
 obtain⟨b,hb,_,_,e2⟩:=oz (hr n hn);unfold M;rw[e2];exact Tt s h b.2 (R.bU b hb).1
theorem zR(R:bF h w bs):(bs.map (·.1)).Nodup:=R.up.imp λh=>Wo h
theorem FI(R:bF h w bs)(s:Nat):∀ fl:List Tx,(∀ r ∈ fl,∀ n ∈ r,n ∈ bs.map (·.1))->(lay h bs fl).flatten.count s=sm (bs.map (·.1)) λt=>fl.flatten.count t * M bs t s
 | [],_=>by
  rw[se λt _=>by rw[List.flatten_nil,List.count_nil,Nat.zero_mul]];rfl
 | x :: q,hf=>by
  have e:lay h bs (x :: q)=layR h bs x ++ lay h bs q:=rfl;rw[e,U0,QE,Tu R s x (hf x Wb),FI R s q λr hr=>hf r (W7 _ hr),zP _ (zR R) x (hf x Wb),<- u6];refine oA λt _=>?_
  rw[Q3,QE,Nat.add_mul]
def bQ(h:Nat)(bs:List (Nat×List Tx))(fl:List Tx):Nat->List Tx
 | 0=>fl
 | k + 1=>lay h bs (bQ h bs fl k)
theorem mS(R:bF h w bs)(F:jV bs A C fl):∀ k,jV bs (A * h ^ k) (C * w ^ k) (bQ h bs fl k)
 | 0=>by simpa[bQ] using F
 | k + 1=>by
  have:=FE R (mS R F k);rw[Q9,Q9,<- JE,<- JE];exact this
theorem Tv(R:bF h w bs)(ht:t0 ∈ bs.map (·.1))(s:Nat):∀ k,(bQ h bs [[t0]] k).flatten.count s=vec bs t0 k s:=by
 have F0:jV bs 1 1 [[t0]]:=⟨rfl,by simp,by simpa using ht⟩
 intro k;induction k generalizing s with
 | zero =>
  show([[t0]]:List Tx).flatten.count s=if s=t0 then 1 else 0
  by_cases h:s=t0
  ·subst h; simp
  ·simp[h,Uo,Ne.symm h]
 | succ k ih =>
  show(lay h bs (bQ h bs [[t0]] k)).flatten.count s=_;rw[FI R s _ (mS R F0 k).tl];exact oA λt _=>by rw[ih]
abbrev HK:=Bool×Bool×Nat
abbrev HV:=List (HK×Nat)
def ck(k:HK):D:=.tup [.bl k.1,.bl k.2.1,.str [k.2.2]]
def hD(ae:HV):List (D×D):=ae.map λp=>(ck p.1,D.int (p.2:Nat))
def cO(ae:HV)(k:HK):Nat:=((ae.find? λp=>decide (p.1=k)).map (·.2)).getD 0
def lE(ae:HV)(k:HK)(m:Nat):HV:=if (ae.any λp=>decide (p.1=k))=true then ae.map λp=>if p.1=k then(p.1,cO ae k + m) else p else ae ++ [(k,m)]
theorem zS(a b:HK):aD (ck a) (ck b)=decide (a=b):=by
 obtain⟨a1,a2,a3⟩:=a;obtain⟨b1,b2,b3⟩:=b;unfold ck;simp only[aD,fz];by_cases h1:a1=b1
 ·by_cases h2:a2=b2
  ·by_cases h3:a3=b3 <;> simp[h1,h2,h3]
  ·simp[h2]
 ·simp[h1]
theorem FJ(ae:HV)(k:HK):ko (ll (ck k)) (hD ae) (ck k)=true:=by
 unfold ko ll hD ck;simp[jd,cQ,g8]
theorem Tw(ae:HV)(k:HK):jN (hD ae) (ck k)=(ae.find? λp=>decide (p.1=k)).map λp=>D.int (p.2:Nat):=by
 unfold jN hD;rw[List.find?_map];have:((λq:D×D=>aD q.1 (ck k)) ∘ λp:HK×Nat=>(ck p.1,D.int (p.2:Nat)))=λp=>decide (p.1=k):=by
  funext p
  exact zS p.1 k
 rw[this,Option.map_map];rfl
theorem Tz(ae:HV)(k:HK):(jN (hD ae) (ck k)).getD (.int 0) = .int (cO ae k:Nat):=by
 rw[Tw];unfold cO
 cases ae.find? λp=>decide (p.1=k) <;> rfl
theorem TB(ae:HV)(k:HK):((hD ae).any λq=>aD q.1 (ck k))=ae.any λp=>decide (p.1=k):=by
 unfold hD;rw[List.any_map];congr 1
 funext p
 exact zS p.1 k
theorem FK(h:(ae.any λp=>decide (p.1=k))=false):cO ae k=0:=by
 unfold cO;rw[List.find?_eq_none.mpr λp hp=>by
  have:=List.any_eq_false.mp h p hp;exact this]
 rfl
theorem TC(ae:HV)(k:HK)(m:Nat):rO (hD ae) (ck k) (.int ((cO ae k:Nat) + (m:Nat):Int))=hD (lE ae k m):=by
 unfold rO lE;rw[TB];split
 ·unfold hD;rw[WS,WS];refine WZ λp hp=>?_
  simp only[Function.comp,zS];by_cases h:p.1=k
  ·simp[h]
  ·simp[h]
 ·rename_i h;rw[FK (Jo.mpr h)];unfold hD;simp
structure eG(ts:List Nat)(ae:HV):Prop where
 nd:(ae.map (·.1)).Nodup
 ts:∀ p ∈ ae,p.1.2.2 ∈ ts
theorem FL(ae:HV)(k:HK)(m:Nat):(lE ae k m).map (·.1)=if (ae.any λp=>decide (p.1=k))=true then ae.map (·.1) else ae.map (·.1) ++ [k]:=by
 unfold lE;split
 ·rw[WS];refine WZ λp hp=>?_
  simp only[Function.comp];split <;> rfl
 ·simp
theorem TF(h:eG ts ae)(hk:k.2.2 ∈ ts):eG ts (lE ae k m):=by
 have hm:∀ q ∈ (lE ae k m).map (·.1),q.2.2 ∈ ts:=λq hq=>by
  rw[FL] at hq;split at hq
  ·obtain⟨p,hp,rfl⟩:=WX.mp hq;exact h.ts p hp
  ·rcases Je.mp hq with hq | hq
   ·obtain⟨p,hp,rfl⟩:=WX.mp hq;exact h.ts p hp
   ·have:q=k:=by simpa using hq
    rw[this]; exact hk
 refine⟨?_,λp hp=>hm p.1 (Qw hp)⟩;rw[FL];split
 ·exact h.nd
 ·rename_i q;refine List.nodup_append.mpr ⟨h.nd,by simp,λx hx y hy e=>q ?_⟩;have pD:y=k:=by simpa using hy
  obtain⟨p,hp,e2⟩:=WX.mp hx;exact List.any_eq_true.mpr ⟨p,hp,decide_eq_true (by rw[e2,e,pD])⟩
theorem FN[DecidableEq α]:∀ {l ts:List α},l.Nodup->(∀ x ∈ l,x ∈ ts)->l.length<=ts.length
 | [],_,_,_=>QB _
 | a :: r,ts,nd,h=>by
  obtain⟨n1,n2⟩:=WO.mp nd;have ha:=h a Wb;have:=FN (l:=r) (ts:=ts.erase a) n2 λx hx=>by
   have:x≠a:=λe=>n1 (by rw[<- e]; exact hx)
   exact(List.mem_erase_of_ne this).mpr (h x (W7 _ hx))
  rw[List.length_erase_of_mem ha] at this;have:=List.length_pos_of_mem ha;simp;omega
theorem eG.len{ts:List Nat}{ae:HV}(h:eG ts ae):ae.length<=4 * ts.length:=by
 have:=FN h.nd (ts:=ts.flatMap λn=>[(true,true,n),(true,false,n),(false,true,n),(false,false,n)]) λq hq=>by
  obtain⟨p,hp,rfl⟩:=WX.mp hq;have:=h.ts p hp;rw[List.mem_flatMap];refine⟨p.1.2.2,this,?_⟩;obtain⟨⟨a,b,c⟩,m⟩:=p
  cases a <;> cases b <;> simp
 rw[Wx] at this;have e:∀ l:List Nat,(l.flatMap λn=>[((true,true,n):HK),(true,false,n),(false,true,n),(false,false,n)]).length=4 * l.length:=λl=>by
  induction l with
  | nil=>rfl
  | cons a r ih=>rw[List.flatMap_cons,WU,ih]; simp; omega
 rw[e] at this;exact this
def lF(dn rt:Nat)(key:HK)(m i j n:Nat)(acc:HV):HV:=if ((key.1 || decide (i<=dn)) && (key.2.1 || decide (j<=rt)))=true then lE acc (key.1 || decide (i < dn),key.2.1 || decide (j < rt),n) m else acc
def mT(dn rt:Nat)(key:HK)(m i:Nat):Nat->Tx->HV->HV
 | _,[],acc=>acc
 | j,n :: r,acc=>mT dn rt key m i (j + 1) r (lF dn rt key m i j n acc)
def mU(dn rt:Nat)(key:HK)(m:Nat):Nat->List Tx->HV->HV
 | _,[],acc=>acc
 | i,row :: r,acc=>mU dn rt key m (i + 1) r (mT dn rt key m i 0 row acc)
def gW(bs:List (Nat×List Tx))(dn rt:Nat):HV->HV->HV
 | [],acc=>acc
 | p :: r,acc=>gW bs dn rt r (mU dn rt p.1 p.2 0 (bU bs p.1.2.2) acc)
theorem zT(h:eG ts acc)(hn:n ∈ ts):eG ts (lF dn rt key m i j n acc):=by
 unfold lF;split
 ·exact TF h hn
 ·exact h
theorem u7:∀ {j:Nat} {row:Tx} {acc:HV},eG ts acc->(∀ n ∈ row,n ∈ ts)->eG ts (mT dn rt key m i j row acc)
 | _,[],_,h,_=>h
 | j,n :: r,acc,h,q=>by
  unfold mT;exact u7 (zT h (q n Wb)) λx hx=>q x (W7 _ hx)
theorem u9:∀ {i:Nat} {B:List Tx} {acc:HV},eG ts acc->(∀ row ∈ B,∀ n ∈ row,n ∈ ts)->eG ts (mU dn rt key m i B acc)
 | _,[],_,h,_=>h
 | i,row :: r,acc,h,q=>by
  unfold mU;exact u9 (u7 h (q row Wb)) λx hx=>q x (W7 _ hx)
theorem mV(R:bF h w bs)(hn:n ∈ bs.map (·.1)):(bU bs n).length=h/\∀ row ∈ bU bs n,row.length=w/\∀ x ∈ row,x ∈ bs.map (·.1):=by
 obtain⟨b,hb,_,_,e⟩:=oz hn;rw[e];exact R.bU b hb
theorem FO(R:bF h w bs):∀ {l acc:HV},(∀ p ∈ l,p.1.2.2 ∈ bs.map (·.1))->eG (bs.map (·.1)) acc->eG (bs.map (·.1)) (gW bs dn rt l acc)
 | [],_,_,h=>h
 | p :: r,acc,q,h=>by
  unfold gW;exact FO R (λx hx=>q x (W7 _ hx)) (u9 h λrow hr n hn=>((mV R (q p Wb)).2 row hr).2 n hn)
def eA(bs:List (Nat×List Tx))(h w g R C:Nat)(t:Nat):Nat->HV
 | 0=>[((decide (R=h ^ g),decide (C=w ^ g),t),1)]
 | k + 1=>gW bs (R / h ^ (g - (k + 1)) % h) (C / w ^ (g - (k + 1)) % w) (eA bs h w g R C t k) []
theorem pP(Ru:bF h w bs)(ht:t ∈ bs.map (·.1)):∀ k,eG (bs.map (·.1)) (eA bs h w g R C t k)
 | 0=>⟨by simp[eA],λp hp=>by simp[eA] at hp; rw[hp]; exact ht⟩
 | k + 1=>FO Ru (pP Ru ht k).ts ⟨by simp,λp hp=>by simp at hp⟩
def rs(f:Nat->Nat->Nat):Nat->Tx->Nat
 | _,[]=>0
 | j,n :: r=>f j n + rs f (j + 1) r
def fM(f:Nat->Nat->Nat->Nat):Nat->List Tx->Nat
 | _,[]=>0
 | i,row :: r=>rs (f i) 0 row + fM f (i + 1) r
theorem sf:∀ {j:Nat} {row:Tx},(∀ k,j<=k->k < j + row.length->∀ n ∈ row,f k n=f' k n)->rs f j row=rs f' j row
 | _,[],_=>rfl
 | j,n :: r,h=>by
  unfold rs;rw[h j (Wh _) (by simp) n Wb,sf λk h1 h2 x hx=>h k (by omega) (by rw[WB]; omega) x (W7 _ hx)]
theorem FP(f:Nat->Nat->Nat):∀ (j:Nat) (row:Tx),rs f (j + 1) row=rs (λk=>f (k + 1)) j row
 | _,[]=>rfl
 | j,n :: r=>by
  unfold rs;rw[FP f (j + 1) r]
theorem FQ(f:Nat->Nat->Nat->Nat):∀ (j:Nat) (B:List Tx),fM f (j + 1) B=fM (λk=>f (k + 1)) j B
 | _,[]=>rfl
 | j,n :: r=>by
  unfold fM;rw[FQ f (j + 1) r]
theorem u_:∀ {i:Nat} {B:List Tx},(∀ k,i<=k->k < i + B.length->∀ row ∈ B,rs (f k) 0 row=rs (f' k) 0 row)->fM f i B=fM f' i B
 | _,[],_=>rfl
 | i,row :: r,h=>by
  unfold fM;rw[h i (Wh _) (by simp) row Wb,u_ λk h1 h2 x hx=>h k (by omega) (by rw[WB]; omega) x (W7 _ hx)]
theorem FR(h:∀ k n,f k n=0):∀ (j:Nat) (row:Tx),rs f j row=0
 | _,[]=>rfl
 | j,n :: r=>by unfold rs; rw[h,FR h]
def pc(ρ γ:Nat)(fl:List Tx)(y:Nat):Nat:=(((fl.take ρ).map λr=>r.take γ).flatten).count y
def cl(b ρ k:Nat):Nat:=min (ρ - k * b) b
theorem FT(b ρ k:Nat):cl b ρ (k + 1)=cl b (ρ - b) k:=by
 unfold cl;rw[J8,Nat.sub_sub,Nat.add_comm b]
theorem FU(b ρ:Nat):cl b ρ 0=min ρ b:=by unfold cl; simp
theorem TH(ρ γ A y:Nat)(a b:List Tx)(h:a.length=A):pc ρ γ (a ++ b) y=pc (min ρ A) γ a y + pc (ρ - A) γ b y:=by
 unfold pc;subst h;rw[List.take_append,JI,U0,QE,<- List.take_take,Qv (l:=a) (i:=a.length) (Wh _)]
theorem sh(ρ γ y:Nat):pc ρ γ [] y=0:=by unfold pc; simp
theorem va(ρ γ y:Nat)(r:Tx)(fl:List Tx):pc (ρ + 1) γ (r :: fl) y=(r.take γ).count y + pc ρ γ fl y:=by
 unfold pc;simp[QE]
theorem si(γ y:Nat)(fl:List Tx):pc 0 γ fl y=0:=by unfold pc; simp
theorem FV(y:Nat):∀ (ρ:Nat) (fl:List Tx),pc ρ 0 fl y=0
 | 0,fl=>si 0 y fl
 | ρ + 1,[]=>sh _ _ _
 | ρ + 1,r :: fl=>by rw[va,FV y ρ fl]; simp
theorem FW(γ C y:Nat):∀ (ρ:Nat) (a b:List Tx),a.length=b.length->(∀ r ∈ a,r.length=C)->pc ρ γ (Jc (· ++ ·) a b) y=pc ρ (min γ C) a y + pc ρ (γ - C) b y
 | 0,a,b,_,_=>by rw[si,si,si]
 | ρ + 1,[],[],_,_=>by rw[List.zipWith_nil_left,sh,sh,sh]
 | ρ + 1,[],_ :: _,h,_=>by simp at h
 | ρ + 1,_ :: _,[],h,_=>by simp at h
 | ρ + 1,p :: a,q :: b,h,hc=>by
  rw[List.zipWith_cons_cons,va,va,va,FW γ C y ρ a b (by simpa using h) λr hr=>hc r (W7 _ hr)];have e:=hc p Wb;rw[List.take_append,QE,<- e];have:List.take (min γ p.length) p=List.take γ p:=by rw[<- List.take_take,Qv (l:=p) (i:=p.length) (Wh _)]
  rw[this];omega
theorem TJ(y R C:Nat)(fl:List Tx)(h:fl.length<=R)(hc:∀ r ∈ fl,r.length<=C):pc R C fl y=fl.flatten.count y:=by
 unfold pc;rw[Qv h];congr 2
 have:(fl.map λr=>r.take C)=fl.map id:=WZ λr hr=>Qv (hc r hr)
 rw[this,List.map_id]
theorem TK(h:Nat)(bs:List (Nat×List Tx))(a b:List Tx):lay h bs (a ++ b)=lay h bs a ++ lay h bs b:=by
 unfold lay;rw[List.flatMap_append]
theorem FX(h:Nat)(bs:List (Nat×List Tx))(a b:List Tx):∀ k,bQ h bs (a ++ b) k=bQ h bs a k ++ bQ h bs b k
 | 0=>rfl
 | k + 1=>by
  show lay h bs (bQ h bs (a ++ b) k)=_;rw[FX h bs a b k,TK];rfl
theorem TL(h:Nat)(bs:List (Nat×List Tx))(x y:Tx):layR h bs (x ++ y)=Jc (· ++ ·) (layR h bs x) (layR h bs y):=by
 unfold layR;rw[Jy];have:∀ l:List Nat,l.map (λl=>fX bs l (x ++ y))=Jc (λa b=>fX bs a x ++ fX bs b y) l l:=λl=>by
  induction l with
  | nil=>rfl
  | cons a r ih =>
   rw[Wk,List.zipWith_cons_cons,ih];congr 1
   unfold fX;rw[JI,U0]
 exact this _
theorem FY(h:Nat)(bs:List (Nat×List Tx)):∀ a b:List Tx,a.length=b.length->lay h bs (Jc (· ++ ·) a b)=Jc (· ++ ·) (lay h bs a) (lay h bs b)
 | [],[],_=>rfl
 | [],_ :: _,h=>by simp at h
 | _ :: _,[],h=>by simp at h
 | p :: a,q :: b,e=>by
  have c:∀ (x:Tx) (l:List Tx),lay h bs (x :: l)=layR h bs x ++ lay h bs l:=λ_ _=>rfl
  rw[List.zipWith_cons_cons,c,c,c,FY h bs a b (by simpa using e),TL,List.zipWith_append (by unfold layR; simp)]
theorem FZ(h:Nat)(bs:List (Nat×List Tx)):∀ a:List Tx,(lay h bs a).length=a.length * h
 | []=>by simp[lay]
 | x :: l=>by
  have c:lay h bs (x :: l)=layR h bs x ++ lay h bs l:=rfl;rw[c,WU,FZ h bs l,WB,J8];unfold layR;simp;omega
theorem oB(h:Nat)(bs:List (Nat×List Tx))(a:List Tx):∀ k,(bQ h bs a k).length=a.length * h ^ k
 | 0=>by simp[bQ]
 | k + 1=>by
  show(lay h bs (bQ h bs a k)).length=_;rw[FZ,oB h bs a k,Q9,JE]
theorem F_(h:Nat)(bs:List (Nat×List Tx))(a b:List Tx)(e:a.length=b.length):∀ k,bQ h bs (Jc (· ++ ·) a b) k=Jc (· ++ ·) (bQ h bs a k) (bQ h bs b k)
 | 0=>rfl
 | k + 1=>by
  show lay h bs (bQ h bs _ k)=_;rw[F_ h bs a b e k,FY]
  ·rfl
  ·rw[oB,oB,e]
theorem Ga(h:Nat)(bs:List (Nat×List Tx))(a:List Tx):∀ k,bQ h bs a (k + 1)=bQ h bs (lay h bs a) k
 | 0=>rfl
 | k + 1=>by
  show lay h bs (bQ h bs a (k + 1))=lay h bs (bQ h bs (lay h bs a) k);rw[Ga h bs a k]
theorem TM(R:bF h w bs)(hn:n ∈ bs.map (·.1)):lay h bs [[n]]=bU bs n:=by
 have hl:=(mV R hn).1;unfold lay layR fX;rw[List.flatMap_cons,List.flatMap_nil,Jg];refine JL λi=>?_
 rw[Wv];by_cases hi:i < h
 ·rw[Wg (by simpa using hi)];simp[Jj,hl,hi]
 ·rw[WY (by simpa using hi),WY (by omega)];rfl
def cy(h:Nat)(bs:List (Nat×List Tx))(m n ρ γ y:Nat):Nat:=pc ρ γ (bQ h bs [[n]] m) y
theorem Gb(R:bF h w bs)(m ρ y:Nat):∀ (row:Tx) (γ:Nat),(∀ n ∈ row,n ∈ bs.map (·.1))->pc ρ γ (bQ h bs [row] m) y=rs (λj n=>cy h bs m n ρ (cl (w ^ m) γ j) y) 0 row
 | [],γ,_=>by
  have:∀ x ∈ bQ h bs [[]] m,x.length=0:=by
   have F:=mS R (A:=1) (C:=0) (fl:=[[]]) ⟨rfl,by simp,by simp⟩ m;intro x hx;rw[F.cols x hx,Nat.zero_mul]
  unfold rs pc;rw[List.count_eq_zero];intro hm;obtain⟨l,hl,hy⟩:=List.mem_flatten.mp hm;obtain⟨r,hr,rfl⟩:=WX.mp hl;have:=this r (Qq hr);have:r=[]:=JB.mp this;subst this;simp at hy
 | n :: r,γ,hr=>by
  have e:([n :: r]:List Tx)=Jc (· ++ ·) [[n]] [r]:=rfl;have hn:=hr n Wb;have F:=mS R (A:=1) (C:=1) (fl:=[[n]]) ⟨rfl,by simp,by simpa using hn⟩ m;rw[e,F_ h bs [[n]] [r] rfl m,FW γ (w ^ m) y ρ _ _ (by rw[oB,oB]; rfl) (λx hx=>by rw[F.cols x hx,QK]),Gb R m ρ y r (γ - w ^ m) λx hx=>hr x (W7 _ hx)];show _=cy h bs m n ρ (cl (w ^ m) γ 0) y + rs (λj n=>cy h bs m n ρ (cl (w ^ m) γ j) y) (0 + 1) r;rw[FP,FU];congr 1
  exact sf λk _ _ x _=>by rw[FT]
theorem Gd(R:bF h w bs)(m γ y:Nat):∀ (B:List Tx) (ρ:Nat),(∀ row ∈ B,∀ n ∈ row,n ∈ bs.map (·.1))->pc ρ γ (bQ h bs B m) y=fM (λi j n=>cy h bs m n (cl (h ^ m) ρ i) (cl (w ^ m) γ j) y) 0 B
 | [],ρ,_=>by
  have:bQ h bs [] m=[]:=JB.mp (by rw[oB]; simp);rw[this,sh];rfl
 | row :: r,ρ,hr=>by
  have e:row :: r=[row] ++ r:=rfl;rw[e,FX,TH ρ γ (h ^ m) y _ _ (by rw[oB]; simp),Gb R m _ y row γ (hr row Wb),Gd R m γ y r (ρ - h ^ m) λx hx=>hr x (W7 _ hx)];show _=rs (λj n=>cy h bs m n (cl (h ^ m) ρ 0) (cl (w ^ m) γ j) y) 0 row + fM (λi j n=>cy h bs m n (cl (h ^ m) ρ i) (cl (w ^ m) γ j) y) (0 + 1) r;rw[FQ,FU];congr 1
  exact u_ λk _ _ x _=>by
   exact sf λk' _ _ z _=>by rw[FT]
theorem Ge(R:bF h w bs)(hn:n ∈ bs.map (·.1))(m ρ γ y:Nat):cy h bs (m + 1) n ρ γ y=fM (λi j x=>cy h bs m x (cl (h ^ m) ρ i) (cl (w ^ m) γ j) y) 0 (bU bs n):=by
 unfold cy;rw[Ga,TM R hn];exact Gd R m γ y (bU bs n) ρ λrow hr x hx=>((mV R hn).2 row hr).2 x hx
theorem TN(h:Nat)(bs:List (Nat×List Tx))(n y:Nat)(a b:Bool):cy h bs 0 n (if a then 1 else 0) (if b then 1 else 0) y=if (a && b && decide (n=y))=true then 1 else 0:=by
 unfold cy pc bQ
 cases a <;> cases b <;> simp
 by_cases e:n=y <;> simp[e]
theorem Gf(m n γ y:Nat):cy h bs m n 0 γ y=0:=si γ y _
theorem Gg(m n ρ y:Nat):cy h bs m n ρ 0 y=0:=FV y ρ _
theorem Gi(R:bF h w bs)(hn:n ∈ bs.map (·.1))(m y:Nat):cy h bs m n (h ^ m) (w ^ m) y=vec bs n m y:=by
 have F:=mS R (A:=1) (C:=1) (fl:=[[n]]) ⟨rfl,by simp,by simpa using hn⟩ m;unfold cy;rw[TJ y _ _ _ (by rw[F.rows,QK]; exact Wh _) (λr hr=>by rw[F.cols r hr,QK]; exact Wh _),Tv R hn]
def ws(W:HK->Nat):HV->Nat
 | []=>0
 | p :: r=>p.2 * W p.1 + ws W r
theorem Gj(W:HK->Nat):∀ a b:HV,ws W (a ++ b)=ws W a + ws W b
 | [],b=>by simp[ws]
 | p :: r,b=>by
  show p.2 * W p.1 + ws W (r ++ b)=p.2 * W p.1 + ws W r + ws W b;rw[Gj W r b];omega
theorem Gk(W:HK->Nat)(k:HK)(c:Nat):∀ l:HV,(l.map (·.1)).Nodup->(l.any λp=>decide (p.1=k))=true->ws W (l.map λp=>if p.1=k then(p.1,cO l k + c) else p)=ws W l + c * W k
 | [],_,h=>by simp at h
 | (a,m) :: r,nd,h=>by
  rw[Wk] at nd;obtain⟨n1,n2⟩:=WO.mp nd;by_cases e:a=k
  ·subst e;have hr:(r.map λp:HK×Nat=>if p.1=a then(p.1,cO ((a,m) :: r) a + c) else p)=r:=by
    have:r.map (λp:HK×Nat=>if p.1=a then(p.1,cO ((a,m) :: r) a + c) else p)=r.map id:=WZ λp hp=>by
     rw[if_neg λe=>n1 (WX.mpr ⟨p,hp,e⟩)];rfl
    rw[this,List.map_id]
   have hg:cO ((a,m) :: r) a=m:=by unfold cO; simp
   rw[Wk,hr,hg];simp only[if_true];show(m + c) * W a + ws W r=m * W a + ws W r + c * W a;rw[Nat.add_mul];omega
  ·have hr:(r.any λp=>decide (p.1=k))=true:=by simpa[e] using h
   have hg:cO ((a,m) :: r) k=cO r k:=by unfold cO; simp[e]
   have ih:=Gk W k c r n2 hr;rw[Wk,hg];simp only[e,if_false];show m * W a + ws W _=m * W a + ws W r + c * W k;rw[ih];omega
theorem TQ(W:HK->Nat)(nd:(l.map (·.1)).Nodup)(k:HK)(c:Nat):ws W (lE l k c)=ws W l + c * W k:=by
 unfold lE;split
 ·rename_i h;exact Gk W k c l nd h
 ·rw[Gj];show ws W l + (c * W k + 0)=_;omega
theorem Gm(k:HK):∀ l:HV,(l.map (·.1)).Nodup->ws (λq=>if q=k then 1 else 0) l=cO l k
 | [],_=>rfl
 | (a,m) :: r,nd=>by
  rw[Wk] at nd;obtain⟨n1,n2⟩:=WO.mp nd;have ih:=Gm k r n2;show m * (if a=k then 1 else 0) + ws _ r=_;rw[ih];by_cases e:a=k
  ·subst e;have hz:cO r a=0:=FK (by
    rw[Jl];intro p hp e;exact n1 (WX.mpr ⟨p,hp,by simpa using e⟩))
   have hg:cO ((a,m) :: r) a=m:=by unfold cO; simp
   rw[hz,hg];simp
  ·have hg:cO ((a,m) :: r) k=cO r k:=by unfold cO; simp[e]
   rw[hg];simp[e]
theorem zU:∀ {l:HV},(∀ p ∈ l,W p.1=W' p.1)->ws W l=ws W' l
 | [],_=>rfl
 | p :: r,h=>by
  show p.2 * W p.1 + ws W r=p.2 * W' p.1 + ws W' r;rw[h p Wb,zU λq hq=>h q (W7 _ hq)]
section
variable {ts:List Nat} (W:HK->Nat) (dn rt:Nat) (key:HK) (m:Nat)
def cw(i j n:Nat):Nat:=if ((key.1 || decide (i<=dn)) && (key.2.1 || decide (j<=rt)))=true then W (key.1 || decide (i < dn),key.2.1 || decide (j < rt),n) else 0
theorem TR(ha:eG ts acc)(i j n:Nat):ws W (lF dn rt key m i j n acc)=ws W acc + m * cw W dn rt key i j n:=by
 unfold lF cw;split
 ·exact TQ W ha.nd _ _
 ·omega
theorem Gn(i:Nat):∀ (row:Tx) (j:Nat) {acc:HV},eG ts acc->(∀ n ∈ row,n ∈ ts)->ws W (mT dn rt key m i j row acc)=ws W acc + m * rs (cw W dn rt key i) j row
 | [],j,acc,_,_=>by unfold mT rs; omega
 | n :: r,j,acc,ha,hr=>by
  unfold mT rs;rw[Gn i r (j + 1) (zT ha (hr n Wb)) λx hx=>hr x (W7 _ hx),TR W dn rt key m ha,Nat.mul_add];omega
theorem Gp:∀ (B:List Tx) (i:Nat) {acc:HV},eG ts acc->(∀ row ∈ B,∀ n ∈ row,n ∈ ts)->ws W (mU dn rt key m i B acc)=ws W acc + m * fM (cw W dn rt key) i B
 | [],i,acc,_,_=>by unfold mU fM; omega
 | row :: r,i,acc,ha,hr=>by
  unfold mU fM;rw[Gp r (i + 1) (u7 ha (hr row Wb)) λx hx=>hr x (W7 _ hx),Gn W dn rt key m i row 0 ha (hr row Wb),Nat.mul_add];omega
end
theorem Gq(R:bF h w bs)(W:HK->Nat)(dn rt:Nat):∀ (l:HV) {acc:HV},(∀ p ∈ l,p.1.2.2 ∈ bs.map (·.1))->eG (bs.map (·.1)) acc->ws W (gW bs dn rt l acc)=ws W acc + ws (λk=>fM (cw W dn rt k) 0 (bU bs k.2.2)) l
 | [],acc,_,_=>by unfold gW ws; omega
 | p :: r,acc,q,ha=>by
  have sj:=λrow hr n hn=>((mV R (q p Wb)).2 row hr).2 n hn
  unfold gW;rw[Gq R W dn rt r (λx hx=>q x (W7 _ hx)) (u9 ha sj),Gp W dn rt p.1 p.2 (bU bs p.1.2.2) 0 ha sj];show _=ws W acc + (p.2 * fM (cw W dn rt p.1) 0 (bU bs p.1.2.2) + ws _ r);rw[Nat.add_assoc]
def tl(b X:Nat)(a:Bool):Nat:=if a=true then b else X % b
theorem Gr(X:Nat)(hP:0 < P)(hi:i < h)(a:Bool):(a || decide (i<=X / P % h))=true->cl P (tl (P * h) X a) i=tl P X (a || decide (i < X / P % h)):=by
 intro hc
 cases a with
 | true =>
  show min (P * h - i * P) P=P;have:(i + 1) * P<=h * P:=Js P hi;rw[J8] at this;rw[QJ P h];omega
 | false =>
  have e:X % (P * h)=X % P + P * (X / P % h):=Nat.mod_mul;have aS:=Nat.mod_lt X hP;have gv:i<=X / P % h:=by simpa using hc
  have e2:P * (X / P % h)=i * P + (X / P % h - i) * P:=by
   rw[<- Nat.add_mul,QJ];congr 1
   omega
  show min (X % (P * h) - i * P) P=tl P X (false || decide (i < X / P % h));rw[e,e2];by_cases h2:i < X / P % h
  ·rw[decide_eq_true h2];show _=P;have:1 * P<=(X / P % h - i) * P:=Js P (by omega);omega
  ·rw[decide_eq_false h2];show _=X % P;have:X / P % h - i=0:=by omega
   rw[this];omega
theorem Gs(X:Nat)(hP:0 < P)(a:Bool):(a || decide (i<=X / P % h))=false->cl P (tl (P * h) X a) i=0:=by
 intro hc
 cases a with
 | true=>simp at hc
 | false =>
  have e:X % (P * h)=X % P + P * (X / P % h):=Nat.mod_mul;have aS:=Nat.mod_lt X hP;have gv:X / P % h < i:=by simpa using hc
  show min (X % (P * h) - i * P) P=0;have:(X / P % h + 1) * P<=i * P:=Js P gv;rw[J8,QJ (X / P % h)] at this;omega
def Wt(h w:Nat)(bs:List (Nat×List Tx))(R C y m:Nat)(k:HK):Nat:=cy h bs m k.2.2 (tl (h ^ m) R k.1) (tl (w ^ m) C k.2.1) y
theorem TU(Ru:bF h w bs)(R C y m:Nat)(k:HK)(hk:k.2.2 ∈ bs.map (·.1)):fM (cw (Wt h w bs R C y m) (R / h ^ m % h) (C / w ^ m % w) k) 0 (bU bs k.2.2)=Wt h w bs R C y (m + 1) k:=by
 have ph:0 < h ^ m:=JX Ru.h0;have pw:0 < w ^ m:=JX Ru.w0;obtain⟨hl,hrw⟩:=mV Ru hk;unfold Wt;rw[Ge Ru hk,Q9,Q9];refine u_ λi _ hi row hr=>sf λj _ hj n hn=>?_
 rw[WW] at hi hj;rw[hl] at hi;rw[(hrw row hr).1] at hj;unfold cw;by_cases c1:(k.1 || decide (i<=R / h ^ m % h))=true
 ·by_cases c2:(k.2.1 || decide (j<=C / w ^ m % w))=true
  ·rw[c1,c2,Gr R ph hi k.1 c1,Gr C pw hj k.2.1 c2];rfl
  ·rw[Gs C pw k.2.1 (Jo.mpr c2),Gg,Jo.mpr c2,Bool.and_false];rfl
 ·rw[Gs R ph k.1 (Jo.mpr c1),Gf,Jo.mpr c1,Bool.false_and];rfl
theorem Gu(Ru:bF h w bs)(ht:t ∈ bs.map (·.1))(g R C y:Nat)(hR:R<=h ^ g)(hC:C<=w ^ g):∀ k m,k + m=g->ws (Wt h w bs R C y m) (eA bs h w g R C t k)=cy h bs g t R C y
 | 0,m,e=>by
  have e':m=g:=by omega
  subst e';show 1 * Wt h w bs R C y m (decide (R=h ^ m),decide (C=w ^ m),t) + 0=_;have q:∀ b X,X<=b->tl b X (decide (X=b))=X:=λb X hX=>by
   unfold tl;by_cases e:X=b
   ·simp[e]
   ·simp[e];exact Nat.mod_eq_of_lt (by omega)
  show 1 * cy h bs m t (tl (h ^ m) R (decide (R=h ^ m))) (tl (w ^ m) C (decide (C=w ^ m))) y + 0=_;rw[q _ _ hR,q _ _ hC,QK,Nat.add_zero]
 | k + 1,m,e=>by
  have ih:=Gu Ru ht g R C y hR hC k (m + 1) (by omega);show ws _ (gW bs (R / h ^ (g - (k + 1)) % h) (C / w ^ (g - (k + 1)) % w) (eA bs h w g R C t k) [])=_;rw[show g - (k + 1)=m by omega,Gq Ru _ _ _ _ (pP Ru ht k).ts ⟨by simp,λp hp=>by simp at hp⟩,<- ih];show 0 + _=_;rw[WW];exact zU λp hp=>TU Ru R C y m p.1 ((pP Ru ht k).ts p hp)
theorem TV(Ru:bF h w bs)(ht:t ∈ bs.map (·.1))(g R C y:Nat)(hR:R<=h ^ g)(hC:C<=w ^ g):cO (eA bs h w g R C t g) (true,true,y)=cy h bs g t R C y:=by
 rw[<- Gu Ru ht g R C y hR hC g 0 (by omega),<- Gm (true,true,y) _ (pP Ru ht g).nd];refine zU λp hp=>?_
 obtain⟨⟨a,b,n⟩,c⟩:=p;unfold Wt tl;simp only[Nat.pow_zero,Nat.mod_one];rw[TN]
 cases a <;> cases b <;> simp
theorem Gv:cl b (d * b) i=if i < d then b else 0:=by
 unfold cl;rw[<- Nat.sub_mul];split
 ·have:1 * b<=(d - i) * b:=Js b (by omega);omega
 ·rw[show d - i=0 by omega];omega
def eR(f:Nat->Nat):Tx->Nat
 | []=>0
 | n :: r=>f n + eR f r
def eB(f:Nat->Nat)(al:Nat):List Tx->Nat
 | []=>0
 | row :: r=>eR f (row.take al) + eB f al r
theorem Gw(f:Nat->Nat)(al:Nat):∀ (row:Tx) (j:Nat),rs (λk n=>if k < al then f n else 0) j row=eR f (row.take (al - j))
 | [],j=>by simp[rs,eR]
 | n :: r,j=>by
  unfold rs;rw[Gw f al r (j + 1)];by_cases h:j < al
  ·rw[if_pos h,show al - j=(al - (j + 1)) + 1 by omega];rfl
  ·rw[if_neg h,show al - j=0 by omega,show al - (j + 1)=0 by omega];simp[eR]
theorem Gx(f:Nat->Nat)(dn al:Nat):∀ (B:List Tx) (i:Nat),fM (λk j n=>if k < dn then(if j < al then f n else 0) else 0) i B=eB f al (B.take (dn - i))
 | [],i=>by simp[fM,eB]
 | row :: r,i=>by
  unfold fM;rw[Gx f dn al r (i + 1)];by_cases h:i < dn
  ·simp only[h,if_true];rw[Gw,show dn - i=(dn - (i + 1)) + 1 by omega];rfl
  ·simp only[h,if_false];rw[FR (λ_ _=>rfl),show dn - i=0 by omega,show dn - (i + 1)=0 by omega];simp[eB]
theorem TX(Ru:bF h w bs)(ht:t ∈ bs.map (·.1))(m dn al y:Nat):cy h bs (m + 1) t (dn * h ^ m) (al * w ^ m) y=eB (λn=>vec bs n m y) al ((bU bs t).take dn):=by
 rw[Ge Ru ht,<- Um dn,<- Gx,Um];refine u_ λi _ hi row hr=>sf λj _ hj n hn=>?_
 rw[Gv,Gv];have ng:=((mV Ru ht).2 row hr).2 n hn;by_cases h1:i < dn
 ·by_cases h2:j < al
  ·simp only[h1,h2,if_true];exact Gi Ru ng m y
  ·simp only[h1,h2,if_true,if_false];exact Gg m n _ y
 ·simp only[h1,if_false];exact Gf m n _ y
theorem Gy(C:Nat):∀ l:List Tx,(∀ r ∈ l,r.length=C)->l.flatten.length=l.length * C
 | [],_=>by simp
 | r :: l,h=>by
  rw[Q3,WU,Gy C l λx hx=>h x (W7 _ hx),h r Wb,WB,J8];omega
theorem Gz:∀ row:Tx,sm row (λ_=>1)=row.length
 | []=>rfl
 | n :: r=>by
  rw[iQ,Gz r,WB];omega
theorem TY(Ru:bF h w bs)(ht:t ∈ bs.map (·.1))(g R C:Nat)(hR:R<=h ^ g)(hC:C<=w ^ g):sm (bs.map (·.1)) (λy=>cy h bs g t R C y)=R * C:=by
 have F:=mS Ru (A:=1) (C:=1) (fl:=[[t]]) ⟨rfl,by simp,by simpa using ht⟩ g;rw[QK,QK] at F;have e:=zP (λ_=>1) (zR Ru) (((bQ h bs [[t]] g).take R).map λr=>r.take C).flatten λn hn=>by
  obtain⟨l,hl,hy⟩:=List.mem_flatten.mp hn;obtain⟨r,hr,rfl⟩:=WX.mp hl;exact F.tl r (Qq hr) n (Qq hy)
 rw[Gz,Gy C _ (λr hr=>by
  obtain⟨q,hq,rfl⟩:=WX.mp hr;have:=F.cols q (Qq hq);rw[Qz];omega),Wx,Qz,F.rows,Nat.min_eq_left hR] at e
 rw[e];exact oA λy _=>by rw[Nat.mul_one]; rfl
abbrev pS(d:D):Option S:=some (.pure d)
abbrev pO(d:D):Option S:=some (.own d)
theorem gX(f:DE)(δ:Dl):cA f δ=(f δ).bind λr δ1=>match r.d with
 | .lst ds=>.ok ds δ1
 | .tup ds=>.ok ds δ1
 | .str x=>.ok (x.map λn=>.str [n]) δ1
 | _=>.stuck:=id rfl
theorem XY(neg:Bool)(fa f g:DE)(δ:Dl):N9 neg fa f g δ=(fa δ).bind λv δ1=>(f δ1).bind λlo δ2=>(g δ2).bind λhi δ3=>match v.d,lo.d,hi.d with
 | .int i,.int l,.int h=>.ok (.pure (.bl (if neg then !(decide (l<=i) && decide (i < h)) else(decide (l<=i) && decide (i < h))))) δ3
 | _,_,_=>.stuck:=id rfl
theorem zV(f F:A->D)(p:A->Bool)(δ:Dl):∀ (as:List A) (acc:List D),acc.length + as.length<=Wd ->
  (∀ a ∈ as,∃ δ1 δ2 x δ3,g (.pure (f a)) δ=some δ1/\t δ1 = .ok (p a) δ2/\bC cs δ2=δ/\el δ2 = .ok x δ3/\bC cs δ3=δ/\x.d=F a)->cp cs g t el (as.map f) δ acc = .ok (acc ++ (as.filter p).map F) δ
 | [],acc,_,_=>by simp[cp]
 | a :: r,acc,hl,hs=>by
  obtain⟨δ1,δ2,x,δ3,e1,e2,e2',e3,e4,e5⟩:=hs a Wb;have gH:acc.length < Wd:=by simp at hl; omega
  rw[Wk];unfold cp;rw[e1]
  cases hp:p a with
  | true =>
   have ih:=zV (cs:=cs) (g:=g) (t:=t) (el:=el) f F p δ r (acc ++ [x.d]) (by simp at hl ⊢; omega) (λa ha=>hs a (W7 _ ha));rw[e5] at ih;rw[hp] at e2;simp only[e2,h9,if_true,e3,if_pos gH,e4,e5,ih,List.filter_cons,hp];simp
  | false =>
   have ih:=zV (cs:=cs) (g:=g) (t:=t) (el:=el) f F p δ r acc (by simp at hl ⊢; omega) (λa ha=>hs a (W7 _ ha));rw[hp] at e2;simp only[e2,h9,e2',ih,List.filter_cons,hp];simp
def nx(s:Int):Int:=(((s + 7919) % 2147483647) * ((s + 7919) % 2147483647) + 48271 * ((s + 7919) % 2147483647) + 12345) % 2147483629
theorem TZ(s:Int):mJ [.pure (.int s)]=some (.pure (.int (nx s)),[.pure (.int s)]):=by
 unfold mJ b9 yz hW;have h1:=Int.emod_nonneg (s + 7919) (b:=2147483647) (by decide);have h2:=Int.emod_lt_of_pos (s + 7919) (b:=2147483647) (by decide);have c1:j9 ((s + 7919) % 2147483647) ((s + 7919) % 2147483647)=true:=by unfold j9; simp; omega
 have c2:j9 48271 ((s + 7919) % 2147483647)=true:=by unfold j9; simp
 simp[cK,bX,au,ag,aX,ao,aN,fj,fB,c8,qC,c1,c2,dq,cC];rfl
def dw(d:D):Prop:=∃ l f s:Int,d = .lst [.int l,.int f,.int s]/\0<=l
theorem GB{d:D}(hp:dw d)(m:Nat)(h0:0 < m)(h1:(m:Int) < iI):∃ (r:Nat) (d':D),b_ [.own d,.pure (.int m)]=some (.pure (.int r),[.own d',.pure (.int m)])/\r < m/\dw d':=by
 obtain⟨l,f,s,rfl,hl⟩:=hp;have hm:(0:Int) < (m:Int):=by omega
 have hd:=D3 l m hm h1;unfold b_ b9 yA hW;by_cases hf:f=1
 ·subst hf;have e1:=Int.emod_nonneg l (b:=(m:Int)) (by omega);have e2:=Int.emod_lt_of_pos l hm;refine⟨(l % (m:Int)).toNat,.lst [.int (l / m),.int 1,.int s],?_,by omega,⟨_,_,_,rfl,Int.ediv_nonneg hl (by omega)⟩⟩;simp[cK,bX,au,ag,aX,ao,aa,aq,cn,aD,flat,pF,rJ,uI,aV,fj,gi,fB,h0,hd,nM,o_,kb,putL,dq,cC,dO];omega
 ·have e1:=Int.emod_nonneg (nx (nx s + 7) / 64) (b:=(m:Int)) (by omega);have e2:=Int.emod_lt_of_pos (nx (nx s + 7) / 64) hm;refine⟨(nx (nx s + 7) / 64 % (m:Int)).toNat,.lst [.int l,.int f,.int (nx (nx s + 7))],?_,by omega,⟨_,_,_,rfl,hl⟩⟩;simp[cK,bX,au,ag,aX,ao,aa,aq,cn,aD,flat,pF,rJ,uI,aV,fj,gi,fB,h0,hd,nM,o_,kb,putL,dq,cC,dO,hf,aw,ba,bt,bA,bw,bo,TZ,aN,aQ,nM];omega
theorem pQ(hp:dw d)(m:Nat)(h0:0 < m)(h1:m < 10000000000000):∃ (r:Nat) (d':D),b_ [.own d,.pure (.int m)]=some (.pure (.int r),[.own d',.pure (.int m)])/\r < m/\dw d' :=
 GB hp m h0 (by
  have hB:(10000000000000:Int)<=iI:=by decide +kernel
  omega)
theorem T1(c:Int):∃ d,kq [.pure (.int c)]=some (.own d,[.pure (.int c)])/\dw d:=by
 unfold kq b9 yy hW;refine⟨.lst [.int (if 0 - c > c then 0 - c else c),.int (if decide (1000000000000000000<=(if 0 - c > c then 0 - c else c)) then 1 else 0),.int ((if 0 - c > c then 0 - c else c) % 1000003)],?_,⟨_,_,_,rfl,by split <;> omega⟩⟩;simp[cK,bX,au,ag,aX,ao,aa,wI,nL,fB,gN,CF,iA,wt,wq,fj,dq,cC]
theorem T5(ns:List Int):∃ c:Int,mI [.pure (.lst (ns.map .int)),.pure (.int 0)]=some (.pure (.int c),[.pure (.lst (ns.map .int)),.pure (.int 0)]):=by
 unfold mI b9 yx hW
 cases ns with
 | nil=>exact⟨0,by simp[cK,bX,ag,aX,ao,ka,iA,aV,cb,dq,cC]⟩
 | cons n r=>exact⟨n,by
   have:(0:Int) < (r.length:Int) + 1:=by omega
   simp[cK,bX,ag,aX,ao,ka,iA,aV,cb,dq,cC,aq,pF,this]⟩
theorem ie(hp:dw d)(m:Nat)(i:Int)(hi:i=m)(h0:0 < m)(h1:m < 10000000000000):∃ (r:Nat) (d':D),b_ [.own d,.pure (.int i)]=some (.pure (.int r),[.own d',.pure (.int i)])/\r < m/\dw d':=by
 subst hi;exact pQ hp m h0 h1
def mW:Tx:=[97,98,99,100,101,102,103,104,105,106,107,108,109,110,111,112,113,114,115,116,117,118,119,120,121,122]
theorem T6(hp:dw d):∃ (h w:Nat) (d':D),oq [.own d]=some (.pure (.tup [.int h,.int w]),[.own d'])/\0 < h/\h<=4/\0 < w/\w<=4/\2 < h + w/\dw d':=by
 obtain⟨r1,d1,e1,l1,p1⟩:=ie hp 3 3 rfl (by decide) (by decide);obtain⟨r2,d2,e2,l2,p2⟩:=ie p1 3 3 rfl (by decide) (by decide);obtain⟨r3,d3,e3,l3,p3⟩:=ie p2 8 8 rfl (by decide) (by decide);obtain⟨r4,d4,e4,l4,p4⟩:=ie p3 6 6 rfl (by decide) (by decide);unfold oq b9 yB hW;by_cases h3:r3=0
 ·subst h3;have:r4=0\/r4=1\/r4=2\/r4=3\/r4=4\/r4=5:=by omega
  rcases this with rfl | rfl | rfl | rfl | rfl | rfl
  ·exact⟨4,1,d4,by simp[cK,bX,au,aw,ba,bA,bt,bw,bo,e1,e2,e3,e4,aQ,aN,cn,aD,flat,aV,aq,cD,dO,bI,aI,bL,ag,aX,ao,aa,dq,cC],by decide,by decide,by decide,by decide,by decide,p4⟩
  ·exact⟨1,4,d4,by simp[cK,bX,au,aw,ba,bA,bt,bw,bo,e1,e2,e3,e4,aQ,aN,cn,aD,flat,aV,aq,cD,dO,bI,aI,bL,ag,aX,ao,aa,dq,cC],by decide,by decide,by decide,by decide,by decide,p4⟩
  ·exact⟨4,4,d4,by simp[cK,bX,au,aw,ba,bA,bt,bw,bo,e1,e2,e3,e4,aQ,aN,cn,aD,flat,aV,aq,cD,dO,bI,aI,bL,ag,aX,ao,aa,dq,cC],by decide,by decide,by decide,by decide,by decide,p4⟩
  ·exact⟨4,3,d4,by simp[cK,bX,au,aw,ba,bA,bt,bw,bo,e1,e2,e3,e4,aQ,aN,cn,aD,flat,aV,aq,cD,dO,bI,aI,bL,ag,aX,ao,aa,dq,cC],by decide,by decide,by decide,by decide,by decide,p4⟩
  ·exact⟨1,2,d4,by simp[cK,bX,au,aw,ba,bA,bt,bw,bo,e1,e2,e3,e4,aQ,aN,cn,aD,flat,aV,aq,cD,dO,bI,aI,bL,ag,aX,ao,aa,dq,cC],by decide,by decide,by decide,by decide,by decide,p4⟩
  ·exact⟨2,1,d4,by simp[cK,bX,au,aw,ba,bA,bt,bw,bo,e1,e2,e3,e4,aQ,aN,cn,aD,flat,aV,aq,cD,dO,bI,aI,bL,ag,aX,ao,aa,dq,cC],by decide,by decide,by decide,by decide,by decide,p4⟩
 ·by_cases hs:r1=0/\r2=0
  ·obtain⟨rfl,rfl⟩:=hs;refine⟨1,2,d3,?_,by decide,by decide,by decide,by decide,by decide,p3⟩;simp[cK,bX,au,aw,ba,bA,bt,bw,bo,e1,e2,e3,aQ,aN,cn,aD,flat,aV,h3,ag,aX,ao,aa,dq,cC]
  ·have hn:¬ (1 + (r1:Int) + (1 + (r2:Int))=2):=by omega
   refine⟨1 + r1,1 + r2,d3,?_,by omega,by omega,by omega,by omega,by omega,p3⟩;simp[cK,bX,au,aw,ba,bA,bt,bw,bo,e1,e2,e3,aQ,aN,cn,aD,flat,aV,h3,hn,ag,aX,ao,aa,dq,cC]
theorem GH(ts:List Nat)(r:Nat)(h:r < ts.length):aq (.lst (ts.map λn=>.str [n])) (.int r)=pS (.str [ts.getD r 0]):=by
 simp[aq,i_,h]
theorem T7(hp:dw d)(ts:List Nat)(place way:Nat)(h1:place < ts.length)(h2:ts.length<=64):∃ (n:Nat) (d':D),
  iO [.own d,.pure (.lst (ts.map λn=>.str [n])),.pure (.int place),.pure (.int way)]=some (.pure (.str [n]),[.own d',.pure (.lst (ts.map λn=>.str [n])),.pure (.int place),.pure (.int way)])/\n ∈ ts/\dw d':=by
 have mem:∀ r,r < ts.length->ts.getD r 0 ∈ ts:=λr h=>by simp[h]
 unfold iO b9 yC hW;by_cases w1:way=1
 ·subst w1;obtain⟨r,d1,e1,l1,p1⟩:=ie hp (place + 1) ((place:Int) + 1) (by omega) (by omega) (by omega);refine⟨ts.getD r 0,d1,?_,mem r (by omega),p1⟩;simp[cK,bX,ag,aX,ao,cn,aD,flat,aV,aw,ba,bA,bt,bw,aN,bo,e1,aQ,aq,i_,dq,cC,show r < ts.length by omega]
 ·by_cases w2:way=2
  ·subst w2;have hr:(place + 1) % ts.length < ts.length:=Nat.mod_lt _ (by omega);refine⟨ts.getD ((place + 1) % ts.length) 0,d,?_,mem _ hr,hp⟩;have hm:fj (.int ((place:Int) + 1)) (.int ts.length)=pS (.int (((place + 1) % ts.length:Nat):Int)):=by
    simp only[fj,fB];rw[if_pos (by simp; omega)];simp
   simp[cK,bX,ag,aX,ao,cn,aD,flat,aV,aN,cb,hm,dq,cC];have hx:=GH ts ((place + 1) % ts.length) hr;simp at hx;simp[hx]
  ·by_cases w3:way=3
   ·subst w3;obtain⟨r,d1,e1,l1,p1⟩:=ie hp 4 4 rfl (by decide) (by decide);by_cases hr:0 < r
    ·refine⟨ts.getD place 0,d1,?_,mem place h1,p1⟩;simp[cK,bX,ag,aX,ao,cn,aD,flat,aV,aw,ba,bA,bt,bw,bo,e1,aQ,wA,iA,hr,aq,i_,h1,dq,cC]
    ·obtain⟨r',d2,e2,l2,p2⟩:=pQ p1 ts.length (by omega) (by omega);refine⟨ts.getD r' 0,d2,?_,mem r' l2,p2⟩;simp[cK,bX,ag,aX,ao,cn,aD,flat,aV,aw,ba,bA,bt,bw,bo,e1,aQ,wA,iA,hr,cb,e2,aq,i_,l2,dq,cC]
   ·obtain⟨r',d2,e2,l2,p2⟩:=pQ hp ts.length (by omega) (by omega);refine⟨ts.getD r' 0,d2,?_,mem r' l2,p2⟩;have c1:¬ (way:Int)=1:=by omega
    have c2:¬ (way:Int)=2:=by omega
    have c3:¬ (way:Int)=3:=by omega
    simp[cK,bX,ag,aX,ao,cn,aD,flat,aV,aw,ba,bA,bt,bw,bo,aQ,c1,c2,c3,cb,e2,aq,i_,l2,dq,cC]
theorem T8:∀ k,k < 26->mW.getD k 0=97 + k:=by decide
theorem T9(xs:List Nat)(h:xs.length < 64):oY (.lst (xs.map λn=>.str [n]))=pO (.lst ((iK xs).map λn=>.str [n])):=by
 have e:(xs.map λn=>D.str [n])=(xs.map λn=>[n]).map D.str:=by simp
 unfold oY;simp only[e,rK];rw[if_pos (by simpa using h),Eu];simp
def jW(f n:Nat):List Nat:=(Qb n).map λk=>97 + (f + 5 * k) % 26
theorem T_(f n:Nat)(hn:n<=26):(jW f n).Nodup:=by
 unfold jW;rw[Jk,JM];refine(List.pairwise_lt_range (n:=n)).imp_of_mem ?_;intro a b ha hb oP e;simp at ha hb;omega
def rb(pd:D)(m h w n f:Nat)(s7:S)(wy:Nat)(blocks:List D)(a b c:Option S):Dl :=
 [pO pd,pS (.int m),pS (.int h),pS (.int w),pS (.int (1 + (n:Int))),pS (.int f),pS (.str mW),some s7,pS (.int wy),pO (.lst blocks),a,b,c,none,none]
def tD(ts:List Nat):D:=.lst (ts.map λn=>.str [n])
def sT(ts:List Nat)(s:S):Prop:=s = .own (tD ts)\/s = .pure (tD ts)
theorem Up(dM:ts.length<=64)(hw:w<=4)(fN:dw pd)(h7:sT ts s7)(blocks:List D)(place:Nat)(c9:place < ts.length)(block:List D)(row:Nat) :
  ∃ (x:Tx) (cY:D) (gY:S),cp [14] (af [0] 14) bj (aw iO [.io 0,.val (aa 7),.val (aa 10),.val (aa 8)]) (bT 0 w) (rb pd m h w n f s7 wy blocks (pS (.int place)) (pO (.lst block)) (pS (.int row))) []
   = .ok (x.map λn=>.str [n]) (rb cY m h w n f gY wy blocks (pS (.int place)) (pO (.lst block)) (pS (.int row)))/\x.length=w/\(∀ n ∈ x,n ∈ ts)/\dw cY/\sT ts gY:=by
 obtain⟨xs,δ',e,⟨cY,gY,hpd',h7',rfl⟩,hn,hf⟩:=xA (cs:=[14]) (g:=af [0] 14) (t:=bj) (el:=aw iO [.io 0,.val (aa 7),.val (aa 10),.val (aa 8)]) (λδ=>∃ pd s7,dw pd/\sT ts s7/\δ=rb pd m h w n f s7 wy blocks (pS (.int place)) (pO (.lst block)) (pS (.int row)))
  (λ_ x=>∃ n,n ∈ ts/\x = .str [n]) (bT 0 w) _ [] ⟨pd,s7,fN,h7,rfl⟩ (by rw[eF]; simp; omega) (λd hd δ ⟨pd,s7,fN,h7,e⟩=>by
   subst e;obtain⟨i,hi,rfl⟩:=Ep hd;obtain⟨k,d',e,hk,p⟩:=T7 fN ts place wy c9 dM;have e':iO [.own pd,.pure (tD ts),.pure (.int place),.pure (.int wy)]=some (.pure (.str [k]),[.own d',.pure (tD ts),.pure (.int place),.pure (.int wy)]):=e;refine⟨_,_,.pure (.str [k]),(rb d' m h w n f (.pure (tD ts)) wy blocks (pS (.int place)) (pO (.lst block)) (pS (.int row))).set 14 (pS (.int i)),rfl,rfl,?_,⟨d',_,p,.inr rfl,rfl⟩,⟨_,hk,rfl⟩⟩;rcases h7 with rfl | rfl
   ·simp[rb,aw,ba,bA,bt,bw,aa,bo,e',aQ]
   ·simp[rb,aw,ba,bA,bt,bw,aa,bo,e',aQ])
 obtain⟨x,rfl,hx⟩:=EA (P:=λn=>n ∈ ts) (Po hn hf λd x _ h=>h);exact⟨x,cY,gY,by simpa using e,by simpa using hn,hx,hpd',h7'⟩
theorem Uq(dM:ts.length<=64)(hw:w<=4)(hh:h<=4)(fN:dw pd)(h7:sT ts s7)(blocks:List D)(place:Nat)(c9:place < ts.length)(rs:Option S) :
  ∃ (fl:List Tx) (cY:D) (gY:S) (sk:Option S),forL (af [0] 12) (fT 11 (bh (dC []) (aj (cq [14] (dE (aa 3)) (af [0] 14) bj (aw iO [.io 0,.val (aa 7),.val (aa 10),.val (aa 8)]))))) (bT 0 h) (rb pd m h w n f s7 wy blocks (pS (.int place)) (pO (.lst [])) rs)
   = .ok .next (rb cY m h w n f gY wy blocks (pS (.int place)) (pO (.lst (fl.map .str))) sk)/\fl.length=h/\(∀ r ∈ fl,r.length=w/\∀ n ∈ r,n ∈ ts)/\dw cY/\sT ts gY:=by
 obtain⟨δ',e3,cY,gY,fl,sk,hpd',h7',nA,hall,rfl⟩:=kj (g:=af [0] 12) (b:=fT 11 (bh (dC []) (aj (cq [14] (dE (aa 3)) (af [0] 14) bj (aw iO [.io 0,.val (aa 7),.val (aa 10),.val (aa 8)]))))) (λk δ=>∃ (pd:D) (s7:S) (fl:List Tx) (rs:Option S),dw pd/\sT ts s7/\fl.length=k/\(∀ r ∈ fl,r.length=w/\∀ n ∈ r,n ∈ ts)/\δ=rb pd m h w n f s7 wy blocks (pS (.int place)) (pO (.lst (fl.map .str))) rs)
  (bT 0 h) 0 _ ⟨pd,s7,[],rs,fN,h7,rfl,by simp,rfl⟩ (λi d δ hd ⟨pd,s7,fl,rs,fN,h7,nA,hall,e⟩=>by
   subst e;obtain⟨hi,rfl⟩:=uK hd;obtain⟨x,cY,gY,e,hx,hxt,hpd',h7'⟩:=Up (m:=m) (h:=h) (n:=n) (f:=f) (wy:=wy) dM hw fN h7 blocks place c9 (fl.map .str) i;have hz:fl.length < Wd:=by rw[eF]; omega
   have ej:=Pj x (by omega);refine⟨_,rb cY m h w n f gY wy blocks (pS (.int place)) (pO (.lst ((fl ++ [x]).map .str))) (pS (.int i)),rfl,?_,⟨cY,gY,fl ++ [x],_,hpd',h7',by simp[nA],?_,rfl⟩⟩
   ·unfold rb at e ⊢;simp[fT,kb,aa,km w (by omega),bt,bC];rw[e];simp[ej,cW,putL,hz]
   ·intro r hr;rcases Je.mp hr with hr | hr
    ·exact hall r hr
    ·simp at hr; subst hr; exact⟨hx,hxt⟩)
 exact⟨fl,cY,gY,sk,e3,by simpa using nA,hall,hpd',h7'⟩
theorem Ur(hp:dw d)(m:Nat)(Us:0 < m)(Eg:m<=26):∃ (h w:Nat) (bs:List (Nat×List Tx)) (d':D),
  kr [.own d,.pure (.int m)]=some (.pure (az h w bs),[.own d',.pure (.int m)])/\bF h w bs/\bs.length<=m/\dw d':=by
 obtain⟨h,w,d1,e1,h0,h1,w0,w1,hw,p1⟩:=T6 hp;obtain⟨r,d2,e2,l2,p2⟩:=pQ p1 m Us (by omega);obtain⟨f,d3,e3,l3,p3⟩:=ie p2 26 26 rfl (by decide) (by decide);obtain⟨wy,d4,e4,l4,p4⟩:=ie p3 5 5 rfl (by decide) (by decide);-- the tiles
 have ec:=Pf (cs:=[13]) (g:=af [0] 13) (t:=bj) (el:=ag aq 6 (aj (aM fj (ag aN 5 (aj (aM c8 (eD (.int 5)) (ao 13)))) (aj (eD (.int 26)))))) (λd=>match d with | .int k=>.str [97 + (f + 5 * k.toNat) % 26] | _=>.bf)
  [pO d3,pS (.int m),pS (.int h),pS (.int w),pS (.int (1 + (r:Int))),pS (.int f),pS (.str mW),none,none,none,none,none,none,none,none] (bT 0 (1 + r)) [] (by rw[eF]; simp; omega) (λd hd=>by
   obtain⟨i,hi,rfl⟩:=Ep hd;refine⟨_,_,.pure (.str [97 + (f + 5 * i) % 26]),[pO d3,pS (.int m),pS (.int h),pS (.int w),pS (.int (1 + (r:Int))),pS (.int f),pS (.str mW),none,none,none,none,none,none,pS (.int i),none],rfl,rfl,?_,rfl,rfl⟩;have hk:(f + 5 * i) % 26 < 26:=Nat.mod_lt _ (by decide);have hx:=Pk mW ((f + 5 * i) % 26) hk (by decide);rw[T8 _ hk] at hx;have hc:((f:Int) + 5 * (i:Int)) % 26=(((f + 5 * i) % 26:Nat):Int):=by omega
   have hmul:c8 (.int 5) (.int i)=pS (.int (5 * (i:Int))):=by
    unfold c8 qC fB;have:j9 5 i=true:=by unfold j9; simp
    simp only[this,if_true]
   have Ut:fj (.int ((f:Int) + 5 * (i:Int))) (.int 26)=pS (.int (((f + 5 * i) % 26:Nat):Int)):=by
    rw[<- hc]; rfl
   generalize mW=lt at hx ⊢;simp only[ag,aX,ao,Em,Pd,El,h9,Eo,List.set_cons_succ,List.set_cons_zero,List.getElem?_cons_succ,JA,Ek,hmul,aN,Ut,hx])
 have Uu:List.map (λ(d:D)=>match d with | .int k=>D.str [97 + (f + 5 * k.toNat) % 26] | _=>.bf) (bT 0 (1 + r))=(jW f (1 + r)).map λn=>.str [n]:=by
  simp[bT,jW]
 rw[Uu] at ec;simp only[Qx] at ec;have GI:(jW f (1 + r)).length=1 + r:=by simp[jW]
 have es:=T9 (jW f (1 + r)) (by rw[GI]; omega);have dM:(iK (jW f (1 + r))).length=1 + r:=by rw[Ex,GI]
 have aS:=Ez (T_ f (1 + r) (by omega));have hle:∀ t ∈ iK (jW f (1 + r)),97<=t/\t<=122:=λt ht=>by
  rw[xC] at ht;simp[jW] at ht;obtain⟨k,_,rfl⟩:=ht;omega
 generalize iK (jW f (1 + r))=ts at es dM aS hle;-- the blocks
 obtain⟨δ',e5,pd,s7,bs,a,b,c,fN,h7,hbl,hbt,hall,rfl⟩:=kj (g:=af [0] 10) (b:=(ay (au (jA cU) (af [0] 11)) (ay (cF (dE (aa 2)) (af [0] 12) (fT 11 (bh (dC []) (aj (cq [14] (dE (aa 3)) (af [0] 14) bj (aw iO [.io 0,.val (aa 7),.val (aa 10),.val (aa 8)])))))) (fT 9 (d_ (bH (ag aq 7 (ao 10)) (bH (bh iB (ao 11)) cU)))))))
  (λk δ=>∃ (pd:D) (s7:S) (bs:List (Nat×List Tx)) (a b c:Option S),dw pd/\sT ts s7/\bs.length=k/\bs.map (·.1)=ts.take k/\(∀ b ∈ bs,b.2.length=h/\∀ r ∈ b.2,r.length=w/\∀ n ∈ r,n ∈ ts)/\δ=rb pd m h w r f s7 wy (bs.map bY) a b c)
  (bT 0 (1 + r)) 0 (rb d4 m h w r f (.own (tD ts)) wy [] none none none) ⟨d4,_,[],none,none,none,p4,.inl rfl,rfl,rfl,by simp,rfl⟩ (λi d δ hd ⟨pd,s7,bs,a,b,c,fN,h7,hbl,hbt,hall,e⟩=>by
   subst e;obtain⟨hi,rfl⟩:=uK hd;rw[WW] at hbl hbt;obtain⟨fl,cY,gY,sk,e,nA,hflt,hpd',h7'⟩:=Uq (m:=m) (n:=r) (f:=f) (wy:=wy) (ts:=ts) (by omega) w1 h1 fN h7 (bs.map bY) i (by omega) c;have hz:bs.length < Wd:=by rw[eF]; omega
   have hx:=GH ts i (by omega);refine⟨_,rb cY m h w r f gY wy ((bs ++ [(ts.getD i 0,fl)]).map bY) (pS (.int i)) (pO (.lst (fl.map .str))) sk,rfl,?_,⟨cY,gY,bs ++ [(ts.getD i 0,fl)],_,_,_,hpd',h7',by simp[hbl],?_,?_,rfl⟩⟩
   ·unfold rb at e ⊢;simp[au,aa,km h (by omega)];rw[e];rcases h7' with rfl | rfl
    ·simp[fT,kb,ag,aX,ao,tD,hx,iB,putL,hz,bY]
    ·simp[fT,kb,ag,aX,ao,tD,hx,iB,putL,hz,bY]
   ·rw[WW,JI,hbt,Jm];simp[show i < ts.length by omega]
   ·intro b hb;rcases Je.mp hb with hb | hb
    ·exact hall b hb
    ·simp at hb; subst hb; exact⟨nA,hflt⟩)
 have XZ:bs.length=1 + r:=by simpa using hbl
 have zW:bs.map (·.1)=ts:=by
  rw[hbt,Qv];simp[dM]
 refine⟨h,w,bs,pd,?_,⟨h0,h1,w0,w1,hw,by omega,by omega,by rw[zW]; exact aS,λb hb=>hle _ (by rw[<- zW]; exact Qw hb),λb hb=>by rw[zW]; exact hall b hb⟩,by omega,fN⟩;unfold kr b9 yD hW;unfold mW at ec;simp[cK,bX,au,aw,ba,bA,bt,bw,bo,e1,aQ,bI,aI,bL,aa,e2,aN,e3,EB r (by omega),bC];rw[ec];simp[cW,es,e4,aQ,aa,EB r (by omega)];unfold rb mW tD at e5;rw[e5];simp[ao,iB,dq,cC,aa]
theorem le_int(i j:Int):i3 (.int i) (.int j)=pS (.bl (decide (i<=j))):=rfl
theorem Uv(i j:Int):cn (.int i) (.int j)=pS (.bl (i == j)):=rfl
theorem Uw(i j:Int):hU (.int i) (.int j)=pS (.bl (!(i == j))):=rfl
theorem add_int(i j:Int):aN (.int i) (.int j)=pS (.int (i + j)):=rfl
theorem fY(h w:Nat)(bs:List (Nat×List Tx)):aq (az h w bs) (.int 0)=pS (.int h)/\aq (az h w bs) (.int 1)=pS (.int w)/\aq (az h w bs) (.int 2)=pS (.tup (bs.map bY)):=by
 refine⟨?_,?_,?_⟩
 ·simp[aq,pF]
 ·simp[aq,rJ]
 ·simp[aq,uI]
theorem jX(np:List Nat)(n:Nat)(b:DS)(ss:List S):b9 np n b ss=if cK np 0 ss then(match b (bX n ss) with
 | .ok fl δ=>(dq fl).bind λr=>(cC 0 ss δ).map λbc=>(r,bc)
 | _=>none) else none:=rfl
def bR(bs:List (Nat×List Tx)):D:=.aJ (bs.map λb=>(Sum.inr [b.1],aT b.2))
theorem zX:∀ (kps acc:List (bB×D)),((acc ++ kps).map (·.1)).Nodup->nY kps acc=acc ++ kps
 | [],acc,_=>by simp[nY]
 | p :: r,acc,h=>by
  have hn:(acc.any λkv=>decide (kv.1=p.1))=false:=by
   rw[Jl];intro kv hkv;simp only[decide_eq_true_eq];intro e;rw[JI,List.nodup_append] at h;exact h.2.2 kv.1 (Qw hkv) p.1 (Qw Wb) e
  have hp:putD acc p.1 p.2=acc ++ [p]:=by
   unfold putD;rw[hn];simp
  show nY r (putD acc p.1 p.2)=_;rw[hp,zX r (acc ++ [p]) (by simpa using h)];simp
theorem GJ:∀ bs:List (Nat×List Tx),i8 (bs.map bY)=some (bs.map λb=>(Sum.inr [b.1],aT b.2))
 | []=>rfl
 | b :: r=>by
  have:=GJ r;simp only[Wk];simp[i8,fo,this]
theorem zY(R:bF h w bs):gQ (.tup (bs.map bY))=pO (bR bs):=by
 unfold gQ;simp only[GJ,Qp,Wx];have hz:Wd=16777216:=rfl;rw[if_pos (by have:=R.n1; omega),zX]
 ·rfl
 ·simp only[Qx,WS];rw[Jk,JM];have:=R.up;rw[JM] at this;exact this.imp λ{a b} oP=>by simp; omega
theorem GK(bs:List (Nat×List Tx))(n:Nat):e9 (bs.map λb=>((Sum.inr [b.1]:bB),aT b.2)) (.inr [n])=(bs.find? λb=>decide (b.1=n)).map λb=>aT b.2:=by
 unfold e9;rw[List.find?_map];simp[Function.comp_def]
theorem zZ(h:n ∈ bs.map (·.1)):e_ (bR bs) (.str [n])=pS (aT (bU bs n)):=by
 obtain⟨b,hb,_,e,e2⟩:=oz h;show((fo (.str [n])).bind λk=>(e9 (bs.map λb=>((Sum.inr [b.1]:bB),aT b.2)) k).map S.pure)=_;simp only[fo,Qp,GK,e,WC,e2]
theorem Ux(h:n ∈ bs.map (·.1)):mv true (.str [n]) (bR bs)=pS (.bl false):=by
 obtain⟨b,hb,_,e,e2⟩:=oz h;show((fo (.str [n])).map λk=>S.pure (.bl (if true then !(e9 (bs.map λb=>((Sum.inr [b.1]:bB),aT b.2)) k).isSome else(e9 (bs.map λb=>((Sum.inr [b.1]:bB),aT b.2)) k).isSome)))=_;simp only[fo,WC,GK,e,WC];rfl
theorem z7(xs:List Tx)(m:Nat)(h:∀ x ∈ xs,x.length<=m):iF xs<=xs.length * m:=by
 induction xs with
 | nil=>simp[iF]
 | cons x r ih =>
  have h1:=h x Wb;have h2:=ih λy hy=>h y (W7 _ hy)
  have e:iF (x :: r)=x.length + iF r:=by simp[iF]
  rw[e,WB,J8];omega
theorem GO(xs:List Tx)(h:iF xs<=16777216):dC [] (.lst (xs.map .str))=pS (.str xs.flatten):=by
 unfold dC;simp only[rK,uJ];rw[if_pos (by simpa using h)]
theorem mul_int(i j:Int)(h0:0<=j)(h1:j<=1000):c8 (.int i) (.int j)=pS (.int (i * j)):=by
 unfold c8 qC fB;have:j9 i j=true:=by unfold j9; simp; omega
 simp only[this,if_true]
theorem vb(e:b (bX n [.pure x,.pure y]) = .ok (.ret v) δ1):b9 [] n b [.pure x,.pure y]=some (v,[.pure x,.pure y]):=by
 rw[jX,e]; rfl
theorem Uy(e:b (bX n [.pure x,.pure y]) = .ok .next δ1):b9 [] n b [.pure x,.pure y]=some (.pure .bf,[.pure x,.pure y]):=by
 rw[jX,e]; rfl
theorem z8(e:b (bX n [.pure x,.pure y,.pure z]) = .ok (.ret v) δ1):b9 [] n b [.pure x,.pure y,.pure z]=some (v,[.pure x,.pure y,.pure z]):=by
 rw[jX,e]; rfl
theorem GQ(e:b (bX n [.pure x]) = .ok (.ret v) δ1):b9 [] n b [.pure x]=some (v,[.pure x]):=by
 rw[jX,e]; rfl
theorem bV(h:a δ = .ok .next δ1):ay a b δ=b δ1:=by unfold ay; rw[h]; rfl
theorem kD(h:it δ = .ok ds δ1):cF it g b δ=forL g b ds δ1:=by unfold cF; rw[h]; rfl
theorem Uz(x:Tx)(h:x.length<=1000):cb (.str x)=pS (.int x.length):=by
 unfold cb;have:Wd=16777216:=rfl;simp only;rw[if_pos (by omega)]
theorem z9(ds:List D):cb (.tup ds)=pS (.int ds.length):=rfl
theorem UA(ts:List Nat):fR (ts.map λn=>D.str [n])=some (ts.map λn=>[n]):=by
 have:=rK (ts.map λn=>[n]);simpa[WS,Function.comp_def] using this
theorem UB(R:bF h w bs)(hb:bs[i]? = some b):putD ((bs.take i).map λb=>((Sum.inr [b.1]:bB),aT b.2)) (.inr [b.1]) (aT b.2)=(bs.take (i + 1)).map λb=>((Sum.inr [b.1]:bB),aT b.2):=by
 have hi:=(W6.mp hb).1;have hn:(((bs.take i).map λb=>((Sum.inr [b.1]:bB),aT b.2)).any λkv=>decide (kv.1 = .inr [b.1]))=false:=by
  rw[Jl];intro kv hkv;obtain⟨c,hc,rfl⟩:=WX.mp hkv;simp only[decide_eq_true_eq];intro e;simp at e;obtain⟨j,hj⟩:=QC hc;have so:j < i:=by have:=(W6.mp hj).1; simp at this; omega
  rw[Jw so] at hj;have:=List.pairwise_iff_getElem.mp R.up j i (by simp; omega) (by simpa using hi) so;have e1:=(W6.mp hj).2;have e2:=(W6.mp hb).2;simp only[List.getElem_map,e1,e2] at this;omega
 unfold putD;rw[hn,Jm,hb];simp
theorem fill(R:bF h w bs)(df:D):∃ o3 o4:Option D,forL (bI 2 (aI (af [] 3) (aI (af [] 4) bL))) (px 2 (aa 3) (aa 4)) (bs.map bY) [pS (az h w bs),pS df,pO (.aJ []),none,none,none,none,none]
  = .ok .next [pS (az h w bs),pS df,pO (bR bs),o3.map .pure,o4.map .pure,none,none,none]:=by
 obtain⟨δ',e,o3,o4,rfl⟩:=kj (g:=(bI 2 (aI (af [] 3) (aI (af [] 4) bL)))) (b:=(px 2 (aa 3) (aa 4))) (λk δ=>∃ o3 o4:Option D,δ=[pS (az h w bs),pS df,pO (.aJ ((bs.take k).map λb=>((Sum.inr [b.1]:bB),aT b.2))),o3.map .pure,o4.map .pure,none,none,none]) (bs.map bY) 0 [pS (az h w bs),pS df,pO (.aJ []),none,none,none,none,none] ⟨none,none,by simp⟩ (λi d δ hd ⟨o3,o4,e⟩=>by
  subst e;rw[Wv,WH] at hd;obtain⟨b,hb,rfl⟩:=hd;rw[WW];have hp:=UB R hb;have hz:((bs.take i).map λb=>((Sum.inr [b.1]:bB),aT b.2)).length < Wd:=by
   have:=R.n1;rw[eF]; simp; omega
  refine⟨_,_,rfl,?_,some (.str [b.1]),some (aT b.2),rfl⟩;generalize ((bs.take (i + 1)).map λb=>((Sum.inr [b.1]:bB),aT b.2))=L1 at *;generalize ((bs.take i).map λb=>((Sum.inr [b.1]:bB),aT b.2))=L0 at *;generalize az h w bs=ru at *;generalize aT b.2=fb at *;simp[px,n4,aa,fo,hz,hp])
 refine⟨o3,o4,?_⟩;rw[e];simp[bR]
theorem UC(R:bF h w bs)(F:jV bs A C fl)(hA:A<=3000)(hC:C<=3000) :
  b9 [] 8 (yI) [.pure (az h w bs),.pure (aT fl)]=some (.pure (aT (lay h bs fl)),[.pure (az h w bs),.pure (aT fl)]):=by
 unfold yI;have h1:=R.h1;have w1:=R.w1;have x0:=(fY h w bs).1;have x2:=(fY h w bs).2.2;-- one new row
 have comp:∀ (o4:Option S) (acc:List Tx) (row:Tx) (l:Nat),row ∈ fl->l < h->cp [3] (af [] 3) bj (aM aq (ag e_ 2 (ao 3)) (ao 7)) (row.map λn=>.str [n]) [pS (az h w bs),pS (aT fl),pO (bR bs),none,o4,pO (.lst (acc.map .str)),pS (.str row),pS (.int l)] [] = .ok ((row.map λn=>(bU bs n).getD l []).map .str) [pS (az h w bs),pS (aT fl),pO (bR bs),none,o4,pO (.lst (acc.map .str)),pS (.str row),pS (.int l)]:=λo4 acc row l kE hl=>by
  have e:=iL (cs:=[3]) (g:=af [] 3) (t:=bj) (el:=(aM aq (ag e_ 2 (ao 3)) (ao 7))) (λn:Nat=>D.str [n]) (λn=>.str ((bU bs n).getD l [])) [pS (az h w bs),pS (aT fl),pO (bR bs),none,o4,pO (.lst (acc.map .str)),pS (.str row),pS (.int l)] row [] (by rw[eF,F.cols row kE]; simp; omega) (λn hn=>by
   have hm:=F.tl row kE n hn;have y1:=zZ hm;have y2:=(zM R hm hl).2.2;refine⟨_,_,.pure (.str ((bU bs n).getD l [])),[pS (az h w bs),pS (aT fl),pO (bR bs),pS (.str [n]),o4,pO (.lst (acc.map .str)),pS (.str row),pS (.int l)],rfl,rfl,?_,rfl,rfl⟩;generalize D.str ((bU bs n).getD l [])=dr at *;generalize aT (bU bs n)=db at *;generalize aT fl=df at *;generalize bR bs=dd at *;generalize az h w bs=ru at *;generalize acc.map D.str=ad at *;simp[ag,aX,ao,y1,y2])
  rw[e];simp[Function.comp_def]
 -- the rows of one row
 have inner:∀ (o3:Option D) (o4:Option S) (acc:List Tx) (row:Tx) (o:Option S),row ∈ fl->acc.length<=20000->∃ o',forL (af [] 7) (fT 5 (bh (dC []) (aj (cq [3] (cA (aa 6)) (af [] 3) bj (aM aq (ag e_ 2 (ao 3)) (ao 7)))))) (bT 0 h) [pS (az h w bs),pS (aT fl),pO (bR bs),o3.map .pure,o4,pO (.lst (acc.map .str)),pS (.str row),o]
   = .ok .next [pS (az h w bs),pS (aT fl),pO (bR bs),o3.map .pure,o4,pO (.lst ((acc ++ layR h bs row).map .str)),pS (.str row),o']:=λo3 o4 acc row o kE xJ=>by
  obtain⟨δ',e,o',rfl⟩:=kj (g:=af [] 7) (b:=(fT 5 (bh (dC []) (aj (cq [3] (cA (aa 6)) (af [] 3) bj (aM aq (ag e_ 2 (ao 3)) (ao 7))))))) (λk δ=>∃ o,δ=[pS (az h w bs),pS (aT fl),pO (bR bs),o3.map .pure,o4,pO (.lst ((acc ++ layR k bs row).map .str)),pS (.str row),o]) (bT 0 h) 0 [pS (az h w bs),pS (aT fl),pO (bR bs),o3.map .pure,o4,pO (.lst (acc.map .str)),pS (.str row),o] ⟨o,by simp[layR]⟩ (λi d δ hd ⟨o,e⟩=>by
   subst e;obtain⟨hi,rfl⟩:=uK hd;rw[WW];have hc:=comp o4 (acc ++ layR i bs row) row i kE hi;have hj:dC [] (.lst ((row.map λn=>(bU bs n).getD i []).map .str))=pS (.str (fX bs i row)):=GO _ (by
    have hs:=z7 (row.map λn=>(bU bs n).getD i []) w (λx hx=>by
     obtain⟨n,hn,rfl⟩:=WX.mp hx;rw[(zM R (F.tl row kE n hn) hi).1];exact Wh _)
    rw[Wx,F.cols row kE] at hs;have:C * w<=3000 * 4:=U9 hC w1;omega)
   have hz:((acc ++ layR i bs row).map D.str).length < Wd:=by
    rw[eF];simp[layR];omega
   have hE:(acc ++ layR (i + 1) bs row).map D.str=(acc ++ layR i bs row).map D.str ++ [.str (fX bs i row)]:=by
    simp[layR,List.range_succ]
   refine⟨_,[pS (az h w bs),pS (aT fl),pO (bR bs),o3.map .pure,o4,pO (.lst ((acc ++ layR (i + 1) bs row).map .str)),pS (.str row),pS (.int i)],rfl,?_,_,rfl⟩;rw[hE];generalize fX bs i row=nr at *;generalize (row.map λn=>(bU bs n).getD i []).map D.str=XS at *;generalize (acc ++ layR i bs row).map D.str=AD at *;generalize aT fl=df at *;generalize bR bs=dd at *;generalize az h w bs=ru at *
   cases o3 <;> (simp[fT,kb,gX,aa,bt,bC]; rw[hc]; simp[cW,hj,putL,hz]))
  rw[WW,Er] at e;exact⟨o',e⟩
 obtain⟨o3,o4',ef⟩:=fill R (aT fl);generalize o4'.map S.pure=o4 at ef;have outer:∃ o6 o7,forL (af [] 6) (cF (dE (ag aq 0 (aj (eD (.int 0))))) (af [] 7) (fT 5 (bh (dC []) (aj (cq [3] (cA (aa 6)) (af [] 3) bj (aM aq (ag e_ 2 (ao 3)) (ao 7))))))) (fl.map .str) [pS (az h w bs),pS (aT fl),pO (bR bs),o3.map .pure,o4,pO (.lst []),none,none]
   = .ok .next [pS (az h w bs),pS (aT fl),pO (bR bs),o3.map .pure,o4,pO (.lst ((lay h bs fl).map .str)),o6,o7]:=by
  obtain⟨δ',e,o6,o7,rfl⟩:=kj (g:=af [] 6) (b:=(cF (dE (ag aq 0 (aj (eD (.int 0))))) (af [] 7) (fT 5 (bh (dC []) (aj (cq [3] (cA (aa 6)) (af [] 3) bj (aM aq (ag e_ 2 (ao 3)) (ao 7)))))))) (λk δ=>∃ o6 o7,δ=[pS (az h w bs),pS (aT fl),pO (bR bs),o3.map .pure,o4,pO (.lst ((lay h bs (fl.take k)).map .str)),o6,o7]) (fl.map D.str) 0 [pS (az h w bs),pS (aT fl),pO (bR bs),o3.map .pure,o4,pO (.lst []),none,none] ⟨none,none,by simp[lay]⟩ (λi d δ hd ⟨o6,o7,e⟩=>by
   subst e;rw[Wv,WH] at hd;obtain⟨row,kE,rfl⟩:=hd;rw[WW];have hi:i < fl.length:=(W6.mp kE).1;have hlen:(lay h bs (fl.take i)).length<=20000:=by
    have F':jV bs (fl.take i).length C (fl.take i):=⟨rfl,λr hr=>F.cols r (Qq hr),λr hr=>F.tl r (Qq hr)⟩
    have:=(FE R F').rows;rw[this];have h2:(fl.take i).length<=3000:=by have:=F.rows; rw[Qz]; omega
    have:(fl.take i).length * h<=3000 * 4:=U9 h2 h1;omega
   obtain⟨o',e⟩:=inner o3 o4 (lay h bs (fl.take i)) row o7 (Wz kE) hlen;have hE:lay h bs (fl.take (i + 1))=lay h bs (fl.take i) ++ layR h bs row:=by
    rw[Jm,kE];simp[lay]
   refine⟨_,[pS (az h w bs),pS (aT fl),pO (bR bs),o3.map .pure,o4,pO (.lst ((lay h bs (fl.take (i + 1))).map .str)),pS (.str row),o'],rfl,?_,_,_,rfl⟩;rw[hE];generalize (lay h bs (fl.take i) ++ layR h bs row).map D.str=AD at *;generalize (lay h bs (fl.take i)).map D.str=AE at *;generalize aT fl=df at *;generalize bR bs=dd at *;generalize az h w bs=ru at *;simp only[Pe,Pl,ag,aX,ao,Em,El,List.set_cons_succ,List.set_cons_zero,List.getElem?_cons_succ,JA,h9,Ek,Eo,x0,km h (by omega:h<=1000000)];exact e)
  refine⟨o6,o7,?_⟩;rw[e];simp
 obtain⟨o6,o7,e⟩:=outer;rw[jX];generalize hAD:(lay h bs fl).map D.str=AD at *;generalize bR bs=dd at *;generalize hru:az h w bs=ru at *;simp[cK,bX,au,gX,aa,qW,ag,aX,ao,x2];rw[ef];simp only[h9];simp[gX,aa];rw[e];simp[ao,iB,dq,cC];exact hAD.symm
theorem UD(R:bF h w bs)(F:jV bs A C fl)(hA:A<=3000)(hC:C<=3000):jQ [.pure (az h w bs),.pure (aT fl)]=some (.pure (aT (lay h bs fl)),[.pure (az h w bs),.pure (aT fl)]):=by
 rw[jQ,yJ];exact UC R F hA hC
theorem UE(xs:List Tx)(h:iF xs<=16777216):dC [] (aT xs)=pS (.str xs.flatten):=by
 unfold dC;simp only[rK,uJ];rw[if_pos (by simpa using h)]
theorem sr(k t:Nat):bT (k:Int) (t + 1) = .int (k:Int) :: bT ((k + 1:Nat):Int) t:=by
 unfold bT;rw[List.range_succ_eq_map,Wk,WS];simp only[Function.comp_def,List.cons.injEq,D.int.injEq];refine⟨by simp,WZ λi _=>?_⟩;simp only[D.int.injEq];push_cast;omega
theorem GR(R:bF h w bs)(F:jV bs A C fl)(T2:D):∀ (t k:Nat) (s8:Option S),(∀ i,i < k + t->A * h ^ i<=3000/\C * w ^ i<=3000) ->
  ∃ s,forL (af [] 3) (au (aw jQ [.val (aa 0),.val (aa 1)]) (af [] 1)) (bT (k:Int) t) [pS (az h w bs),pS (aT (bQ h bs fl k)),pS T2,s8] =
   .ok .next [pS (az h w bs),pS (aT (bQ h bs fl (k + t))),pS T2,s]
 | 0,k,s8,_=>⟨s8,rfl⟩
 | t + 1,k,s8,hb=>by
  obtain⟨b1,b2⟩:=hb k (by omega);have e:=UD R (mS R F k) b1 b2;obtain⟨s,e2⟩:=GR R F T2 t (k + 1) (pS (.int k)) (λi hi=>hb i (by omega));refine⟨s,?_⟩;rw[sr,show k + (t + 1)=k + 1 + t by omega];refine Eq.trans ?_ e2;show(au (aw jQ [.val (aa 0),.val (aa 1)]) (af [] 1) [pS (az h w bs),pS (aT (bQ h bs fl k)),pS T2,pS (.int k)]).bind _=_;have st:au (aw jQ [.val (aa 0),.val (aa 1)]) (af [] 1) [pS (az h w bs),pS (aT (bQ h bs fl k)),pS T2,pS (.int k)] =
    .ok .next [pS (az h w bs),pS (aT (bQ h bs fl (k + 1))),pS T2,pS (.int k)]:=by
   show _=Rs.ok Fl.next [pS (az h w bs),pS (aT (lay h bs (bQ h bs fl k))),pS T2,pS (.int k)];generalize aT (lay h bs (bQ h bs fl k))=Y at *;generalize aT (bQ h bs fl k)=X at *;generalize az h w bs=V at *;simp[au,aw,ba,bA,bw,aa,bo,e,aQ]
  rw[st];rfl
theorem UG(R:bF h w bs)(F:jV bs A C fl)(k:Nat)(hk:k<=1000)(hb:∀ i,i < k->A * h ^ i<=3000/\C * w ^ i<=3000) :
  mL [.pure (az h w bs),.pure (aT fl),.pure (.int k)]=some (.pure (aT (bQ h bs fl k)),[.pure (az h w bs),.pure (aT fl),.pure (.int k)]):=by
 obtain⟨s,e⟩:=GR R F (.int k) k 0 none (λi hi=>hb i (by omega));rw[WW] at e;have e':forL (af [] 3) (au (aw jQ [.val (aa 0),.val (aa 1)]) (af [] 1)) (bT 0 k) [pS (az h w bs),pS (aT fl),pS (.int k),none]=_:=e;rw[mL,jX,yK];generalize aT (bQ h bs fl k)=Y at *;generalize aT fl=U at *;generalize az h w bs=V at *;simp[cK,bX,aa,km k (by omega)];rw[e'];simp[aa,dq,cC]
def res(bs:List (Nat×List Tx))(v:Nat->Nat):List D:=bs.map λb=>D.tup [.str [b.1],.int ((v b.1:Nat):Int)]
theorem UH(h0:0 < h)(w0:0 < w)(hi:i<=k)(hp:(h * w) ^ k<=3000):h ^ i<=3000/\w ^ i<=3000:=by
 have h1:h ^ i<=(h * w) ^ k:=WA (QZ (JD h w0) i) (Qr (Nat.mul_pos h0 w0) hi);have h2:w ^ i<=(h * w) ^ k:=WA (QZ (Nat.le_mul_of_pos_left w h0) i) (Qr (Nat.mul_pos h0 w0) hi);omega
theorem UI{ts:List Nat}{ch:Nat}(h:ch ∈ ts):∃ n,(ts.map λn=>[n]).idxOf [ch]=n/\ts[n]? = some ch:=by
 have hm:([ch]:Tx) ∈ ts.map λn=>[n]:=WX.mpr ⟨ch,h,rfl⟩
 have hl:=List.idxOf_lt_length_of_mem hm;refine⟨_,rfl,?_⟩;have e:=List.getElem_idxOf hl;have gH:(ts.map λn=>[n]).idxOf [ch] < ts.length:=by simpa using hl
 rw[List.getElem_map] at e;have e':ts[(ts.map λn=>[n]).idxOf [ch]]=ch:=by simpa using e
 rw[Wg gH,e']
theorem UJ{ts:List Nat}(nd:ts.Nodup){n ch:Nat}(h:ts[n]? = some ch)(F G:Nat->D):(ts.map F).set n (G ch)=ts.map λs=>if s=ch then G s else F s:=by
 apply JL;intro i;by_cases hi:n=i
 ·subst hi;have hl:=(W6.mp h).1;rw[Wn (by simpa using hl),Wv,h];simp
 ·rw[W9 hi,Wv,Wv]
  cases e:ts[i]? with
  | none=>rfl
  | some x =>
   have:x≠ch:=λz=>by
    subst z;obtain⟨h1,e1⟩:=W6.mp h;obtain⟨h2,e2⟩:=W6.mp e;exact hi ((List.getElem_inj nd).mp (e1.trans e2.symm))
   simp[this]
def bZ(ts:List Nat)(f:Nat->Nat):List D:=ts.map λs=>.int ((f s:Nat):Int)
theorem GU{ts:List Nat}(nd:ts.Nodup)(hl:ts.length<=26)(U V:D)(b1:Nat):∀ (tx:Tx) (f:Nat->Nat) (s5 s6:Option D),(∀ n ∈ tx,n ∈ ts) ->
  ∃ pR pT:Option D,k_ 3 6 [b1] (af [2] 5) (au (ki 1 (aa 5)) (af [2] 6)) tx (bZ ts f) [pS U,pO (tD ts),none,pS (.str [b1]),pS V,s5.map .pure,s6.map .pure,none]
   = .ok (bZ ts λs=>f s + tx.count s) [pS U,pO (tD ts),none,pS (.str [b1]),pS V,pR.map .pure,pT.map .pure,none]
 | [],f,s5,s6,_=>⟨s5,s6,by simp[k_]⟩
 | ch :: r,f,s5,s6,h=>by
  obtain⟨n,e1,e2⟩:=UI (h ch Wb);obtain⟨a,b,ih⟩:=GU nd hl U V b1 r (λs=>f s + if s=ch then 1 else 0) (some (.str [ch])) (some (.int (n:Int))) λk hk=>h k (W7 _ hk)
  refine⟨a,b,?_⟩;have hi:og (tD ts) (.str [ch])=pS (.int (n:Int)):=by
   unfold og tD;simp only[UA];have hm:([ch]:Tx) ∈ ts.map λn=>[n]:=WX.mpr ⟨ch,h ch Wb,rfl⟩
   rw[if_pos ⟨hm,by simp; omega⟩,e1]
  have iS:au (ki 1 (aa 5)) (af [2] 6) [pS U,pO (tD ts),none,pS (.str [b1]),pS V,pS (.str [ch]),s6.map .pure,none] = .ok .next [pS U,pO (tD ts),none,pS (.str [b1]),pS V,pS (.str [ch]),pS (.int (n:Int)),none]:=by
   have hL:Eh (tD ts)=true:=rfl;generalize tD ts=T at *;simp[au,ki,aa,hL,hi]
  have hx:(bZ ts f)[n]? = some (.int ((f ch:Nat):Int)):=by
   unfold bZ;rw[Wv,e2];rfl
  have hs:(bZ ts f).set n (.int ((f ch:Nat) + 1:Int))=bZ ts λs=>f s + if s=ch then 1 else 0:=by
   unfold bZ;have:=UJ nd e2 (λs=>D.int ((f s:Nat):Int)) (λs=>D.int ((f s:Nat) + 1:Int));rw[this];refine WZ λs _=>?_
   by_cases q:s=ch
   ·simp[q]
   ·simp[q]
  have hf:(bZ ts λs=>f s + (ch :: r).count s)=bZ ts λs=>(f s + if s=ch then 1 else 0) + r.count s:=by
   refine WZ λs _=>?_
   show D.int (((f s + List.count s (ch :: r)):Nat):Int)=D.int ((((f s + if s=ch then 1 else 0) + List.count s r):Nat):Int);rw[Uo];by_cases q:ch=s
   ·subst q;simp;omega
   ·simp[q,Ne.symm q]
  rw[hf,<- ih];conv=>lhs; unfold k_
  have hg:af [2] 5 (.pure (.str [ch])) [pS U,pO (tD ts),none,pS (.str [b1]),pS V,s5.map .pure,s6.map .pure,none]=some [pS U,pO (tD ts),none,pS (.str [b1]),pS V,pS (.str [ch]),s6.map .pure,none]:=rfl;rw[hg];dsimp only;rw[iS];simp only[h9];simp only[List.getElem?_cons_succ,JA];rw[if_pos (by simp)];simp only[Qe,hx];rw[hs];rfl
theorem UK(R:bF h w bs)(F:Nat×List Tx->D)(hb:bs[i]? = some b):putD ((bs.take i).map λb=>((Sum.inr [b.1]:bB),F b)) (.inr [b.1]) (F b)=(bs.take (i + 1)).map λb=>((Sum.inr [b.1]:bB),F b):=by
 have hi:=(W6.mp hb).1;have hn:(((bs.take i).map λb=>((Sum.inr [b.1]:bB),F b)).any λkv=>decide (kv.1 = .inr [b.1]))=false:=by
  rw[Jl];intro kv hkv;obtain⟨c,hc,rfl⟩:=WX.mp hkv;simp only[decide_eq_true_eq];intro e;simp at e;obtain⟨j,hj⟩:=QC hc;have so:j < i:=by have:=(W6.mp hj).1; simp at this; omega
  rw[Jw so] at hj;have:=List.pairwise_iff_getElem.mp R.up j i (by simp; omega) (by simpa using hi) so;have e1:=(W6.mp hj).2;have e2:=(W6.mp hb).2;simp only[List.getElem_map,e1,e2] at this;omega
 unfold putD;rw[hn,Jm,hb];simp
theorem GV(R:bF h w bs)(hb:b ∈ bs):dC [] (aT b.2)=pS (.str b.2.flatten)/\b.2.flatten.length<=16/\∀ n ∈ b.2.flatten,n ∈ bs.map (·.1):=by
 obtain⟨h1,h2⟩:=R.bU b hb;have hh:=R.h1;have hw:=R.w1;have hs:=z7 b.2 w (λx hx=>Nat.le_of_eq (h2 x hx).1);have hm:b.2.length * w<=4 * 4:=U9 (by omega) hw;refine⟨UE _ (by omega),?_,λn hn=>?_⟩
 ·have:b.2.flatten.length=iF b.2:=by rw[List.length_flatten]; rfl
  omega
 ·obtain⟨r,hr,hn⟩:=List.mem_flatten.mp hn;exact(h2 r hr).2 n hn
def jY(bs:List (Nat×List Tx))(b2:List Tx):D:=.lst (bZ (bs.map (·.1)) λs=>b2.flatten.count s)
def fO(bs:List (Nat×List Tx)):D:=.aJ (bs.map λb=>((Sum.inr [b.1]:bB),jY bs b.2))
theorem GX(n:Nat)(ts:List Nat)(h:n=ts.length):(We n ([.int 0]:List D)).flatten=bZ ts λ_=>0:=by
 subst h;induction ts with
 | nil=>rfl
 | cons t r ih =>
  rw[WB,WQ,Q3,ih];rfl
theorem UL(U V T:D)(b1 n:Nat)(dd:List (bB×D))(tx:Tx)(zs jM:List D)(s5 s6 pR pT:Option S)(hl:cb T=pS (.int (n:Int)))(hn:n<=1000)(hz:(We n ([.int 0]:List D)).flatten=zs)(hd:dd.length < Wd)(hj:dC [] V=pS (.str tx))
  (ht:k_ 3 6 [b1] (af [2] 5) (au (ki 1 (aa 5)) (af [2] 6)) tx zs [pS U,pO T,none,pS (.str [b1]),pS V,s5,s6,none] = .ok jM [pS U,pO T,none,pS (.str [b1]),pS V,pR,pT,none]) :
  oi 2 3 6 (aM gr (fV [.int 0]) (aj (bh cb (ao 1)))) (bh (dC []) (ao 4)) (af [2] 5) (au (ki 1 (aa 5)) (af [2] 6)) [pS U,pO T,pO (.aJ dd),pS (.str [b1]),pS V,s5,s6,none]
   = .ok .next [pS U,pO T,pO (.aJ (putD dd (.inr [b1]) (.lst jM))),pS (.str [b1]),pS V,pR,pT,none]:=by
 have hm:gr (.lst [.int 0]) (.int (n:Int))=pO (.lst zs):=by
  unfold gr;dsimp only;rw[if_pos ⟨by omega,by omega,by simp,by simp⟩];simp only[Qe,hz]
 unfold oi;simp[n4,aM,fV,ao,hl,hm,hd,hj];rw[ht];rfl
theorem GY{bs:List (Nat×List Tx)}(hn:bs.length<=26)(k:Nat)(δ:Dl)(hk:δ[k]? = some none):cp [k] (af [] k) bj (ag aq k (aj (eD (.int 0)))) (bs.map bY) δ [] = .ok ((bs.map (·.1)).map λn=>.str [n]) δ:=by
 have hl:k < δ.length:=(W6.mp hk).1;have:=iL (cs:=[k]) (g:=af [] k) (t:=bj) (el:=ag aq k (aj (eD (.int 0)))) bY (λb=>D.str [b.1]) δ bs [] (by rw[eF]; simp; omega) (λb hb=>by
  have q:aq (bY b) (.int 0)=pS (.str [b.1]):=by simp[aq,cD,dO]
  have hg:(δ.set k (pS (bY b)))[k]? = some (pS (bY b)):=Wn hl;refine⟨δ.set k (pS (bY b)),_,.pure (.str [b.1]),δ.set k (pS (bY b)),by simp[af],rfl,?_,?_,rfl⟩
  ·generalize bY b=B at *;simp[ag,aX,ao,hg,q]
  ·show(δ.set k (pS (bY b))).set k none=δ;rw[List.set_set];apply JL;intro i;by_cases hi:k=i
   ·subst hi;rw[Wn hl,hk]
   ·rw[W9 hi])
 rw[this];simp
theorem UM{h w:Nat}{bs:List (Nat×List Tx)}(R:bF h w bs):mP [.pure (az h w bs)]=some (.own (fO bs),[.pure (az h w bs)]):=by
 have x2:=(fY h w bs).2.2;have n1:=R.n1;have dM:(bs.map (·.1)).length<=26:=by simpa using n1
 have hlen:cb (tD (bs.map (·.1)))=pS (.int ((bs.length:Nat):Int)):=by simp[tD,cb]
 have hc:=GY n1 7 [pS (az h w bs),none,none,none,none,none,none,none] rfl;have loop:∃ o3 o4 o5 o6:Option D,forL (bI 2 (aI (af [] 3) (aI (af [] 4) bL))) (ay (oi 2 3 6 (aM gr (fV [.int 0]) (aj (bh cb (ao 1)))) (bh (dC []) (ao 4)) (af [2] 5) (au (ki 1 (aa 5)) (af [2] 6))) cV) (bs.map bY) [pS (az h w bs),pO (tD (bs.map (·.1))),pO (.aJ []),none,none,none,none,none]
   = .ok .next [pS (az h w bs),pO (tD (bs.map (·.1))),pO (fO bs),o3.map .pure,o4.map .pure,o5.map .pure,o6.map .pure,none]:=by
  obtain⟨δ',e,o3,o4,o5,o6,rfl⟩:=kj (g:=bI 2 (aI (af [] 3) (aI (af [] 4) bL))) (b:=ay (oi 2 3 6 (aM gr (fV [.int 0]) (aj (bh cb (ao 1)))) (bh (dC []) (ao 4)) (af [2] 5) (au (ki 1 (aa 5)) (af [2] 6))) cV)
   (λk δ=>∃ o3 o4 o5 o6:Option D,δ=[pS (az h w bs),pO (tD (bs.map (·.1))),pO (.aJ ((bs.take k).map λb=>((Sum.inr [b.1]:bB),jY bs b.2))),o3.map .pure,o4.map .pure,o5.map .pure,o6.map .pure,none]) (bs.map bY) 0 [pS (az h w bs),pO (tD (bs.map (·.1))),pO (.aJ []),none,none,none,none,none] ⟨none,none,none,none,by simp⟩ (λi d δ hd ⟨o3,o4,o5,o6,e⟩=>by
   subst e;rw[Wv,WH] at hd;obtain⟨b,hb,rfl⟩:=hd;rw[WW];have hm:=Wz hb;obtain⟨t1,t2,t3⟩:=GV R hm;have hz:((bs.take i).map λb=>((Sum.inr [b.1]:bB),jY bs b.2)).length < Wd:=by
    rw[eF]; simp; omega
   obtain⟨pR,pT,et⟩:=GU (zR R) dM (az h w bs) (aT b.2) b.1 b.2.flatten (λ_=>0) o5 o6 t3;have hq:=UL (az h w bs) (aT b.2) (tD (bs.map (·.1))) b.1 bs.length _ b.2.flatten _ _ _ _ _ _ hlen (by omega) (GX bs.length (bs.map (·.1)) (by simp)) hz t1 et;have hr:D.lst (bZ (bs.map (·.1)) λs=>0 + b.2.flatten.count s)=jY bs b.2:=by
    unfold jY;congr 1
    exact WZ λs _=>by simp
   rw[hr,UK R (λb=>jY bs b.2) hb] at hq;refine⟨[pS (az h w bs),pO (tD (bs.map (·.1))),pO (.aJ ((bs.take i).map λb=>((Sum.inr [b.1]:bB),jY bs b.2))),pS (.str [b.1]),pS (aT b.2),o5.map .pure,o6.map .pure,none],_,rfl,?_,some (.str [b.1]),some (aT b.2),pR,pT,rfl⟩;rw[bV hq];rfl)
  refine⟨o3,o4,o5,o6,?_⟩;rw[e];simp[fO]
 obtain⟨o3,o4,o5,o6,e⟩:=loop;rw[mP,jX,ze];have hT:D.lst ((bs.map (·.1)).map λn=>.str [n])=tD (bs.map (·.1)):=rfl;generalize ((bs.map (·.1)).map λn=>D.str [n])=TS at *;generalize tD (bs.map (·.1))=T at *;generalize fO bs=DT at *;generalize hru:az h w bs=ru at *;generalize o3.map S.pure=p3 at *;generalize o4.map S.pure=p4 at *;generalize o5.map S.pure=p5 at *;generalize o6.map S.pure=p6 at *;simp[cK,bX,au,gX,aa,qW,ag,aX,ao,x2,bt,bC,hc,cW];rw[hT,e];simp[pk,dq,cC]
theorem UN(R:bF h w bs)(ht:t ∈ bs.map (·.1))(s:Nat):M bs t s<=16:=by
 obtain⟨b,hb,_,_,e2⟩:=oz ht;unfold M;rw[e2];exact WA List.count_le_length (GV R hb).2.1
theorem UO(R:bF h w bs)(ht:t ∈ bs.map (·.1)):e_ (fO bs) (.str [t])=pS (.lst (bZ (bs.map (·.1)) (M bs t))):=by
 obtain⟨b,hb,e0,e1,e2⟩:=oz ht;have hv:e9 (bs.map λb=>((Sum.inr [b.1]:bB),jY bs b.2)) (.inr [t])=some (jY bs b.2):=by
  unfold e9;rw[List.find?_map];have:((λkv:bB×D=>decide (kv.1 = .inr [t])) ∘ λb:Nat×List Tx=>((Sum.inr [b.1]:bB),jY bs b.2))=λb=>decide (b.1=t):=by
   funext b
   simp
  rw[this,e1];rfl
 unfold fO e_;simp only[fo,Qp,hv,WC];unfold jY M;rw[e2]
theorem UP(ts:List Nat)(a m:Nat->Nat)(many:Nat)(hl:ts.length<=26)(hm:∀ s ∈ ts,m s<=1000)(δ0:Dl)(L:Dl)(hL:δ0=L ++ [none,none])(hlen:L.length=12)(h8:L[8]? = some (pS (.int (many:Int)))) :
  cp [13,12] (bI 2 (aI (af [] 13) (aI (af [] 12) bL))) bj (ag aN 13 (aj (ag c8 8 (ao 12)))) (eE (bZ ts a) (bZ ts m)) δ0 [] = .ok (bZ ts λs=>a s + many * m s) δ0:=by
 have hz:eE (bZ ts a) (bZ ts m)=ts.map λs=>D.tup [.int ((a s:Nat):Int),.int ((m s:Nat):Int)]:=by
  unfold eE bZ;rw[Jy,JN]
 rw[hz];match L,hlen with
 | [d0,d1,d2,d3,d4,d5,d6,d7,d8,d9,jT,jU],_ =>
  simp at h8;subst hL h8;have:=iL (cs:=[13,12]) (g:=bI 2 (aI (af [] 13) (aI (af [] 12) bL))) (t:=bj) (el:=ag aN 13 (aj (ag c8 8 (ao 12)))) (λs=>D.tup [.int ((a s:Nat):Int),.int ((m s:Nat):Int)]) (λs=>D.int ((a s + many * m s:Nat):Int)) [d0,d1,d2,d3,d4,d5,d6,d7,pS (.int (many:Int)),d9,jT,jU,none,none] ts [] (by rw[eF]; simp; omega) (λs hs=>by
   have q:=mul_int (many:Int) ((m s:Nat):Int) (by omega) (by have:=hm s hs; omega);refine⟨[d0,d1,d2,d3,d4,d5,d6,d7,pS (.int (many:Int)),d9,jT,jU,pS (.int ((m s:Nat):Int)),pS (.int ((a s:Nat):Int))],_,.pure (.int ((a s:Nat) + (many:Int) * (m s:Nat))),[d0,d1,d2,d3,d4,d5,d6,d7,pS (.int (many:Int)),d9,jT,jU,pS (.int ((m s:Nat):Int)),pS (.int ((a s:Nat):Int))],rfl,rfl,?_,rfl,by show D.int _=D.int _; push_cast; rfl⟩;simp[ag,aX,ao,q,add_int])
  simp only[JT,Qx];rw[this];rfl
theorem UQ(ru t0 gg T3 T4 V5 tn:D)(s6 bS:Option S)(a m A':List D)(many:Int)(hx:e_ T4 tn=pS (.lst m))
  (hc:cp [13,12] (bI 2 (aI (af [] 13) (aI (af [] 12) bL))) bj (ag aN 13 (aj (ag c8 8 (ao 12)))) (eE a m) [pS ru,pS t0,pS gg,pS T3,pO T4,pS V5,s6,pS (.lst a),pS (.int many),pS tn,pS (.lst m),none,none,none] [] = .ok A' [pS ru,pS t0,pS gg,pS T3,pO T4,pS V5,s6,pS (.lst a),pS (.int many),pS tn,pS (.lst m),none,none,none]) :
  (ay (au (ag e_ 4 (ao 9)) (af [] 10)) (au (cq [13,12] (fW (aa 7) (aa 10)) (bI 2 (aI (af [] 13) (aI (af [] 12) bL))) bj (ag aN 13 (aj (ag c8 8 (ao 12))))) (af [] 7)))
   [pS ru,pS t0,pS gg,pS T3,pO T4,pS V5,s6,pO (.lst a),pS (.int many),pS tn,bS,none,none,none]
   = .ok .next [pS ru,pS t0,pS gg,pS T3,pO T4,pS V5,s6,pO (.lst A'),pS (.int many),pS tn,pS (.lst m),none,none,none]:=by
 simp[au,ag,aX,ao,hx,fW,aa,jb,gR,bt,bC];rw[hc];simp[cW]
theorem UR(R:bF h w bs)(ru t0 gg:D)(v:Nat->Nat)(s6 s8 s9 l0:Option S) :
  ∃ o8 o9 bS:Option S,forL (bI 2 (aI (af [] 8) (aI (af [] 9) bL))) (ay (au (ag e_ 4 (ao 9)) (af [] 10)) (au (cq [13,12] (fW (aa 7) (aa 10)) (bI 2 (aI (af [] 13) (aI (af [] 12) bL))) bj (ag aN 13 (aj (ag c8 8 (ao 12))))) (af [] 7)))
   ((bs.map (·.1)).map λt=>D.tup [.int ((v t:Nat):Int),.str [t]]) [pS ru,pS t0,pS gg,pS (tD (bs.map (·.1))),pO (fO bs),pS (.lst (bZ (bs.map (·.1)) v)),s6,pO (.lst (bZ (bs.map (·.1)) λ_=>0)),s8,s9,l0,none,none,none]
   = .ok .next [pS ru,pS t0,pS gg,pS (tD (bs.map (·.1))),pO (fO bs),pS (.lst (bZ (bs.map (·.1)) v)),s6,pO (.lst (bZ (bs.map (·.1)) (zQ bs v))),o8,o9,bS,none,none,none]:=by
 have n1:=R.n1;generalize dM:bs.map (·.1)=ts at *;have hlen:ts.length<=26:=by rw[<- dM]; simpa using n1
 obtain⟨δ',e,o8,o9,bS,rfl⟩:=kj (g:=bI 2 (aI (af [] 8) (aI (af [] 9) bL))) (b:=ay (au (ag e_ 4 (ao 9)) (af [] 10)) (au (cq [13,12] (fW (aa 7) (aa 10)) (bI 2 (aI (af [] 13) (aI (af [] 12) bL))) bj (ag aN 13 (aj (ag c8 8 (ao 12))))) (af [] 7)))
  (λk δ=>∃ o8 o9 bS:Option S,δ=[pS ru,pS t0,pS gg,pS (tD ts),pO (fO bs),pS (.lst (bZ ts v)),s6,pO (.lst (bZ ts λs=>sm (ts.take k) λt=>v t * M bs t s)),o8,o9,bS,none,none,none]) (ts.map λt=>D.tup [.int ((v t:Nat):Int),.str [t]]) 0 [pS ru,pS t0,pS gg,pS (tD ts),pO (fO bs),pS (.lst (bZ ts v)),s6,pO (.lst (bZ ts λ_=>0)),s8,s9,l0,none,none,none]
  ⟨s8,s9,l0,by simp[sm]⟩ (λi d δ hd ⟨o8,o9,bS,e⟩=>by
   subst e;rw[Wv,WH] at hd;obtain⟨t,ht,rfl⟩:=hd;rw[WW];have hm:t ∈ bs.map (·.1):=by rw[dM]; exact Wz ht
   have hx:=UO R hm;rw[dM] at hx;have ha:=UP ts (λs=>sm (ts.take i) λt=>v t * M bs t s) (M bs t) (v t) hlen (λs _=>WA (UN R hm s) (by decide)) [pS ru,pS t0,pS gg,pS (tD ts),pO (fO bs),pS (.lst (bZ ts v)),s6,pS (.lst (bZ ts λs=>sm (ts.take i) λt=>v t * M bs t s)),pS (.int ((v t:Nat):Int)),pS (.str [t]),pS (.lst (bZ ts (M bs t))),none,none,none]
    [pS ru,pS t0,pS gg,pS (tD ts),pO (fO bs),pS (.lst (bZ ts v)),s6,pS (.lst (bZ ts λs=>sm (ts.take i) λt=>v t * M bs t s)),pS (.int ((v t:Nat):Int)),pS (.str [t]),pS (.lst (bZ ts (M bs t))),none] rfl rfl rfl
   have hE:(bZ ts λs=>sm (ts.take (i + 1)) λt=>v t * M bs t s)=bZ ts λs=>sm (ts.take i) (λt=>v t * M bs t s) + v t * M bs t s:=by
    refine WZ λs _=>?_
    show D.int (((sm (ts.take (i + 1)) λt=>v t * M bs t s):Nat):Int)=D.int (((sm (ts.take i) (λt=>v t * M bs t s) + v t * M bs t s):Nat):Int);rw[Jm,ht,zO];simp[sm]
   refine⟨[pS ru,pS t0,pS gg,pS (tD ts),pO (fO bs),pS (.lst (bZ ts v)),s6,pO (.lst (bZ ts λs=>sm (ts.take i) λt=>v t * M bs t s)),pS (.int ((v t:Nat):Int)),pS (.str [t]),bS,none,none,none],_,rfl,UQ _ _ _ _ _ _ _ _ _ _ _ _ _ hx ha,_,_,_,by rw[hE]⟩)
 refine⟨o8,o9,bS,?_⟩;rw[e];simp only[Wx,WW,List.take_length];unfold zQ;rw[dM]
theorem US(ru t0 gg T3 T4:D)(n:Nat)(vs zs us ts zp:List D)(s5:S)(h5:s5 = .own (.lst vs)\/s5 = .pure (.lst vs))(s6 s7 s8 s9 l0 o8 o9 bS:Option S)(h3:T3 = .lst ts)(hl:cb T3=pS (.int (n:Int)))(hn:n<=1000)(hz:(We n ([.int 0]:List D)).flatten=zs)(GZ:eE vs ts=zp)
  (B:DS) (hB:forL (bI 2 (aI (af [] 8) (aI (af [] 9) bL))) B zp [pS ru,pS t0,pS gg,pS T3,pO T4,pS (.lst vs),s6,pO (.lst zs),s8,s9,l0,none,none,none] = .ok .next [pS ru,pS t0,pS gg,pS T3,pO T4,pS (.lst vs),s6,pO (.lst us),o8,o9,bS,none,none,none]) :
  (ay (au (aM gr (fV [.int 0]) (aj (bh cb (ao 3)))) (af [] 7)) (ay (cF (fW (aa 5) (aa 3)) (bI 2 (aI (af [] 8) (aI (af [] 9) bL))) B) (au (aa 7) (af [] 5)))) [pS ru,pS t0,pS gg,pS T3,pO T4,some s5,s6,s7,s8,s9,l0,none,none,none]
   = .ok .next [pS ru,pS t0,pS gg,pS T3,pO T4,pS (.lst us),s6,pS (.lst us),o8,o9,bS,none,none,none]:=by
 have hm:gr (.lst [.int 0]) (.int (n:Int))=pO (.lst zs):=by
  unfold gr;dsimp only;rw[if_pos ⟨by omega,by omega,by simp,by simp⟩];simp only[Qe,hz]
 subst h3;rcases h5 with rfl | rfl
 ·simp[au,aM,fV,ao,hl,hm,fW,aa,jb,gR,GZ];rw[hB];simp[aa]
 ·simp[au,aM,fV,ao,hl,hm,fW,aa,jb,gR,GZ];rw[hB];simp[aa]
abbrev G5:DS:=ay (au (ag e_ 4 (ao 9)) (af [] 10)) (au (cq [13,12] (fW (aa 7) (aa 10)) (bI 2 (aI (af [] 13) (aI (af [] 12) bL))) bj (ag aN 13 (aj (ag c8 8 (ao 12))))) (af [] 7))
abbrev su:DS:=ay (au (aM gr (fV [.int 0]) (aj (bh cb (ao 3)))) (af [] 7)) (ay (cF (fW (aa 5) (aa 3)) (bI 2 (aI (af [] 8) (aI (af [] 9) bL))) G5) (au (aa 7) (af [] 5)))
theorem UT(R:bF h w bs)(ru tt gg:D)(t0 g:Nat) :
  ∃ (s5:S) (o6 o7 o8 o9 bS:Option S),(s5 = .own (.lst (bZ (bs.map (·.1)) (vec bs t0 g)))\/s5 = .pure (.lst (bZ (bs.map (·.1)) (vec bs t0 g))))/\forL (af [] 6) su (bT 0 g) [pS ru,pS tt,pS gg,pS (tD (bs.map (·.1))),pO (fO bs),pO (.lst (bZ (bs.map (·.1)) (vec bs t0 0))),none,none,none,none,none,none,none,none]
   = .ok .next [pS ru,pS tt,pS gg,pS (tD (bs.map (·.1))),pO (fO bs),some s5,o6,o7,o8,o9,bS,none,none,none]:=by
 have n1:=R.n1;have hlen:cb (tD (bs.map (·.1)))=pS (.int ((bs.length:Nat):Int)):=by simp[tD,cb]
 obtain⟨δ',e,s5,o6,o7,o8,o9,bS,h5,rfl⟩:=kj (g:=af [] 6) (b:=su)
  (λk δ=>∃ (s5:S) (o6 o7 o8 o9 bS:Option S),(s5 = .own (.lst (bZ (bs.map (·.1)) (vec bs t0 k)))\/s5 = .pure (.lst (bZ (bs.map (·.1)) (vec bs t0 k))))/\δ=[pS ru,pS tt,pS gg,pS (tD (bs.map (·.1))),pO (fO bs),some s5,o6,o7,o8,o9,bS,none,none,none]) (bT 0 g) 0 _
  ⟨_,none,none,none,none,none,.inl rfl,rfl⟩ (λi d δ hd ⟨s5,o6,o7,o8,o9,bS,h5,e⟩=>by
   subst e;rw[WW] at *;obtain⟨p8,p9,la,et⟩:=UR R ru tt gg (vec bs t0 i) (pS d) o8 o9 bS;have hz:eE (bZ (bs.map (·.1)) (vec bs t0 i)) ((bs.map (·.1)).map λn=>D.str [n])=(bs.map (·.1)).map λt=>D.tup [.int ((vec bs t0 i t:Nat):Int),.str [t]]:=by
    unfold eE bZ;rw[Jy,JN]
   have q:=US ru tt gg (tD (bs.map (·.1))) (fO bs) bs.length _ _ _ _ _ s5 h5 (pS d) o7 o8 o9 bS p8 p9 la rfl hlen (by omega) (GX bs.length (bs.map (·.1)) (by simp)) hz G5 et;exact⟨_,_,rfl,q,_,_,_,_,_,_,.inr rfl,rfl⟩)
 refine⟨s5,o6,o7,o8,o9,bS,?_,e⟩;rw[Er,WW] at h5;exact h5
theorem UU(hl:ts.length<=26)(t0:Nat)(L:Dl)(hL:L.length=12)(h1:L[1]? = some (pS (.str [t0]))):cp [12] (af [] 12) bj (bh gN (aj (ag cn 12 (ao 1)))) (ts.map λn=>D.str [n]) (L ++ [none,none]) [] = .ok (bZ ts λs=>if s=t0 then 1 else 0) (L ++ [none,none]):=by
 match L,hL with
 | [d0,d1,d2,d3,d4,d5,d6,d7,d8,d9,jT,jU],_ =>
  simp at h1;subst h1;have:=iL (cs:=[12]) (g:=af [] 12) (t:=bj) (el:=bh gN (aj (ag cn 12 (ao 1)))) (λn=>D.str [n]) (λs=>D.int (((if s=t0 then 1 else 0):Nat):Int)) [d0,pS (.str [t0]),d2,d3,d4,d5,d6,d7,d8,d9,jT,jU,none,none] ts [] (by rw[eF]; simp; omega) (λs hs=>by
   have q:cn (.str [s]) (.str [t0])=pS (.bl (s == t0)):=by simp[cn,flat,aD]
   have q2:gN (.bl (s == t0))=pS (.int (((if s=t0 then 1 else 0):Nat):Int)):=by
    by_cases h:s=t0
    ·simp[gN,h]
    ·have:(s == t0)=false:=by simpa using h
     simp[gN,h,this]
   refine⟨[d0,pS (.str [t0]),d2,d3,d4,d5,d6,d7,d8,d9,jT,jU,pS (.str [s]),none],_,.pure (.int (((if s=t0 then 1 else 0):Nat):Int)),[d0,pS (.str [t0]),d2,d3,d4,d5,d6,d7,d8,d9,jT,jU,pS (.str [s]),none],rfl,rfl,?_,rfl,rfl⟩;generalize (s == t0)=bb at *;generalize (((if s=t0 then 1 else 0):Nat):Int)=vv at *;simp[ag,aX,ao,q,q2])
  simp only[JT,Qx];rw[this];rfl
theorem UW(GT:DF)(ru T DT:D)(t0 g:Nat)(bd TS NW VV RR:List D)(s5:S)(h5:s5 = .own (.lst VV)\/s5 = .pure (.lst VV))(o6 o7 o8 o9 bS:Option S)(x2:aq ru (.int 2)=pS (.tup bd))(hT:T = .lst TS)(hg:g<=1000)
  (hc:cp [11] (af [] 11) bj (ag aq 11 (aj (eD (.int 0)))) bd [pS ru,pS (.str [t0]),pS (.int g),none,none,none,none,none,none,none,none,none,none,none] [] = .ok TS [pS ru,pS (.str [t0]),pS (.int g),none,none,none,none,none,none,none,none,none,none,none])
  (gt:GT [.pure ru]=some (.own DT,[.pure ru]))
  (gL:cp [12] (af [] 12) bj (bh gN (aj (ag cn 12 (ao 1)))) TS [pS ru,pS (.str [t0]),pS (.int g),pS T,pO DT,none,none,none,none,none,none,none,none,none] [] = .ok NW [pS ru,pS (.str [t0]),pS (.int g),pS T,pO DT,none,none,none,none,none,none,none,none,none])
  (hl:forL (af [] 6) su (bT 0 g) [pS ru,pS (.str [t0]),pS (.int g),pS T,pO DT,pO (.lst NW),none,none,none,none,none,none,none,none] = .ok .next [pS ru,pS (.str [t0]),pS (.int g),pS T,pO DT,some s5,o6,o7,o8,o9,bS,none,none,none])
  (hz:eE TS VV=RR) (gq:TS.length=VV.length) (n9:TS.length<=1000) :
  ∃ δ',(ay (au (cq [11] (cA (ag aq 0 (aj (eD (.int 2))))) (af [] 11) bj (ag aq 11 (aj (eD (.int 0))))) (af [] 3)) (ay (au (aw GT [.val (aa 0)]) (af [] 4)) (ay (au (cq [12] (cA (aa 3)) (af [] 12) bj (bh gN (aj (ag cn 12 (ao 1))))) (af [] 5)) (ay (cF (dE (aa 2)) (af [] 6) su) (bM (pG (aa 3) (aa 5))))))) [pS ru,pS (.str [t0]),pS (.int g),none,none,none,none,none,none,none,none,none,none,none] = .ok (.ret (.own (.lst RR))) δ':=by
 subst hT;have e1:au (cq [11] (cA (ag aq 0 (aj (eD (.int 2))))) (af [] 11) bj (ag aq 11 (aj (eD (.int 0))))) (af [] 3) [pS ru,pS (.str [t0]),pS (.int g),none,none,none,none,none,none,none,none,none,none,none] = .ok .next [pS ru,pS (.str [t0]),pS (.int g),pO (.lst TS),none,none,none,none,none,none,none,none,none,none]:=by
  simp[au,gX,ag,aX,ao,x2,bt,bC];rw[hc];simp[cW]
 have e2:au (aw GT [.val (aa 0)]) (af [] 4) [pS ru,pS (.str [t0]),pS (.int g),pO (.lst TS),none,none,none,none,none,none,none,none,none,none] = .ok .next [pS ru,pS (.str [t0]),pS (.int g),pO (.lst TS),pO DT,none,none,none,none,none,none,none,none,none]:=by
  simp[au,aw,ba,bA,bw,aa,bo,gt,aQ]
 have e3:au (cq [12] (cA (aa 3)) (af [] 12) bj (bh gN (aj (ag cn 12 (ao 1))))) (af [] 5) [pS ru,pS (.str [t0]),pS (.int g),pO (.lst TS),pO DT,none,none,none,none,none,none,none,none,none] = .ok .next [pS ru,pS (.str [t0]),pS (.int g),pS (.lst TS),pO DT,pO (.lst NW),none,none,none,none,none,none,none,none]:=by
  simp[au,gX,aa,bt,bC];rw[gL];simp[cW]
 rw[bV e1,bV e2,bV e3];have e4:cF (dE (aa 2)) (af [] 6) su [pS ru,pS (.str [t0]),pS (.int g),pS (.lst TS),pO DT,pO (.lst NW),none,none,none,none,none,none,none,none] = .ok .next [pS ru,pS (.str [t0]),pS (.int g),pS (.lst TS),pO DT,some s5,o6,o7,o8,o9,bS,none,none,none]:=by
  rw[<- hl];simp[aa,km g (by omega)]
 rw[bV e4];rcases h5 with rfl | rfl
 ·refine⟨[pS ru,pS (.str [t0]),pS (.int g),pS (.lst TS),pO DT,pS (.lst VV),o6,o7,o8,o9,bS,none,none,none],?_⟩;have z_:VV.length<=1000:=by omega
  simp[pG,aa,jb,gR,hz,gq,z_]
 ·refine⟨[pS ru,pS (.str [t0]),pS (.int g),pS (.lst TS),pO DT,pS (.lst VV),o6,o7,o8,o9,bS,none,none,none],?_⟩;have z_:VV.length<=1000:=by omega
  simp[pG,aa,jb,gR,hz,gq,z_]
theorem G6{h w t0 g:Nat}{bs:List (Nat×List Tx)}(R:bF h w bs)(hg:g<=1000):iP [.pure (az h w bs),.pure (.str [t0]),.pure (.int g)]=some (.own (.lst (res bs (vec bs t0 g))),[.pure (az h w bs),.pure (.str [t0]),.pure (.int g)]):=by
 have n1:=R.n1;have dM:(bs.map (·.1)).length<=26:=by simpa using n1
 obtain⟨s5,o6,o7,o8,o9,bS,h5,hl⟩:=UT R (az h w bs) (.str [t0]) (.int g) t0 g;have hz:eE ((bs.map (·.1)).map λn=>D.str [n]) (bZ (bs.map (·.1)) (vec bs t0 g))=res bs (vec bs t0 g):=by
  unfold eE bZ res;rw[Jy,JN,WS];rfl
 obtain⟨δ',e⟩:=UW mP (az h w bs) (tD (bs.map (·.1))) (fO bs) t0 g _ _ _ _ _ s5 h5 o6 o7 o8 o9 bS (fY h w bs).2.2 rfl hg (GY n1 11 _ rfl) (UM R)
  (UU dM t0 [pS (az h w bs),pS (.str [t0]),pS (.int g),pS (tD (bs.map (·.1))),pO (fO bs),none,none,none,none,none,none,none] rfl rfl) hl hz (by simp[bZ]) (by simp; omega)
 rw[iP,zf];exact z8 e
theorem lG(h1:g (.pure d) δ=some δ1)(h2:b δ1 = .ok .next δ2):forL g b (d :: r) δ=forL g b r δ2:=by
 conv=>lhs; unfold forL
 rw[h1];simp only[h2,h9]
theorem UX(R:bF h w bs)(ht:t0 ∈ bs.map (·.1)):mM [.pure (az h w bs),.pure (.str [t0])]=some (.pure .bf,[.pure (az h w bs),.pure (.str [t0])]):=by
 have x2:=(fY h w bs).2.2;have hd:=zY R;have hi:=Ux ht;rw[mM,yR];generalize az h w bs=ru at *;generalize D.tup (bs.map bY)=bd at *;generalize bR bs=dd at *;refine Uy (δ1:=[pS ru,pS (.str [t0])]) ?_;simp[bX,aV,fJ,iC,ao,aa,ag,aX,x2,hd,hi]
theorem UY(R:bF h w bs):mO [.pure (az h w bs)]=some (.own (tD (bs.map (·.1))),[.pure (az h w bs)]):=by
 have n1:=R.n1;have x2:=(fY h w bs).2.2;have c:=iL (cs:=[1,2]) (g:=bI 2 (aI (af [] 1) (aI (af [] 2) bL))) (t:=bj) (el:=aa 1) bY (λb=>D.str [b.1]) [pS (az h w bs),none,none] bs [] (by rw[eF]; simp; omega) (λb hb=>⟨[pS (az h w bs),pS (.str [b.1]),pS (aT b.2)],_,.pure (.str [b.1]),[pS (az h w bs),pS (.str [b.1]),pS (aT b.2)],rfl,rfl,by simp[aa],rfl,rfl⟩);have et:tD (bs.map (·.1)) = .lst (bs.map λb=>D.str [b.1]):=by unfold tD; rw[WS]; rfl
 rw[mO,yY,et];generalize az h w bs=ru at *;generalize hB:bs.map bY=B at *;generalize (bs.map λb=>D.str [b.1])=Y at *;refine GQ (δ1:=[pS ru,none,none]) ?_;have i:cA (ag aq 0 (aj (eD (.int 2)))) [pS ru,none,none] = .ok B [pS ru,none,none]:=by
  simp[gX,ag,aX,ao,x2]
 simp only[bX];simp[i,bt,bC];rw[c];simp[cW]
abbrev dU(bd hd:D)(dn rt:Nat)(acc:HV)(o5 o6 o7 o8 o9 bS fc fq ft di:Option D):Dl :=
 [pS bd,pS hd,pS (.int (dn:Nat)),pS (.int (rt:Nat)),pO (.dic (hD acc)),o5.map .pure,o6.map .pure,o7.map .pure,o8.map .pure,o9.map .pure,bS.map .pure,fc.map .pure,fq.map .pure,ft.map .pure,di.map .pure]
abbrev cI:DT:=(kT (iy (aV (aa 7)) (aV (ag i3 10 (ao 2)))) (iy (aV (aa 8)) (aV (ag i3 12 (ao 3)))))
abbrev cP:DE:=(d_ (bH (nK (aa 7) (ag ka 10 (ao 2))) (bH (nK (aa 8) (ag ka 12 (ao 3))) (bH (aa 13) cU))))
abbrev cS:DS:=(rP 4 (aa 14) (aM aN (rR 4 (aa 14) (eD (.int 0))) (ao 6)))
abbrev cB:DS:=(da cI (ay (au cP (af [] 14)) cS) cV)
theorem Aa(i j:Nat):i3 (.int (i:Nat)) (.int (j:Nat))=pS (.bl (decide (i<=j))):=by
 rw[le_int];congr 2
 rw[Uk];simp
theorem G7(i j:Nat):ka (.int (i:Nat)) (.int (j:Nat))=pS (.bl (decide (i < j))):=by
 have:ka (.int (i:Nat)) (.int (j:Nat))=pS (.bl (decide ((i:Int) < (j:Int)))):=rfl;rw[this];congr 2
 rw[Uk];simp
theorem UZ(bd hd:D)(dn rt:Nat)(acc:HV)(ts:List Nat)(dM:ts.length<=26)(ha:eG ts acc)(kd:D)(ar ac:Bool)(td:D)(m i j n:Nat)(sd:D)(di:Option D) :
  ∃ o14',cB (dU bd hd dn rt acc (some kd) (some (.int (m:Nat))) (some (.bl ar)) (some (.bl ac)) (some td) (some (.int (i:Nat))) (some sd) (some (.int (j:Nat))) (some (.str [n])) di) =
   .ok .next (dU bd hd dn rt (lF dn rt (ar,ac,0) m i j n acc) (some kd) (some (.int (m:Nat))) (some (.bl ar)) (some (.bl ac)) (some td) (some (.int (i:Nat))) (some sd) (some (.int (j:Nat))) (some (.str [n])) o14'):=by
 have l1:=Aa i dn;have l2:=Aa j rt;have l3:=G7 i dn;have l4:=G7 j rt;have hl:=ha.len;have hz:(hD acc).length < Wd:=by unfold hD; rw[Wx,eF]; omega
 generalize hN1:D.int (m:Nat)=mD at *;generalize hN2:D.int (i:Nat)=iD at *;generalize hN3:D.int (j:Nat)=jD at *;generalize hN4:D.int (dn:Nat)=dD at *;generalize hN5:D.int (rt:Nat)=rD at *;have tI:cI (dU bd hd dn rt acc (some kd) (some mD) (some (.bl ar)) (some (.bl ac)) (some td) (some iD) (some sd) (some jD) (some (.str [n])) di) = .ok ((ar || decide (i<=dn)) && (ac || decide (j<=rt))) (dU bd hd dn rt acc (some kd) (some mD) (some (.bl ar)) (some (.bl ac)) (some td) (some iD) (some sd) (some jD) (some (.str [n])) di):=by
  unfold dU cI;rw[hN4,hN5];generalize decide (i<=dn)=b1 at *;generalize decide (j<=rt)=b2 at *
  cases ar <;> cases ac <;> cases b1 <;> simp[aV,aa,ao,ag,aX,l1,l2]
 have tP:cP (dU bd hd dn rt acc (some kd) (some mD) (some (.bl ar)) (some (.bl ac)) (some td) (some iD) (some sd) (some jD) (some (.str [n])) di) = .ok (.pure (ck (ar || decide (i < dn),ac || decide (j < rt),n))) (dU bd hd dn rt acc (some kd) (some mD) (some (.bl ar)) (some (.bl ac)) (some td) (some iD) (some sd) (some jD) (some (.str [n])) di):=by
  unfold dU cP ck;rw[hN4,hN5];generalize decide (i < dn)=b1 at *;generalize decide (j < rt)=b2 at *
  cases ar <;> cases ac <;> simp[nK,aa,ao,ag,aX,l3,l4]
 unfold lF;by_cases hc:((ar || decide (i<=dn)) && (ac || decide (j<=rt)))=true
 ·rw[if_pos hc];rw[hc] at tI;refine⟨some (ck (ar || decide (i < dn),ac || decide (j < rt),n)),?_⟩;generalize (ar || decide (i < dn),ac || decide (j < rt),n)=K at *;have g:=FJ acc K;have v:=Tz acc K;have p:=TC acc K m;have ad:aN (.int (cO acc K:Nat)) mD=pS (.int ((cO acc K:Nat) + (m:Nat):Int)):=by rw[<- hN1]; rfl
  rw[cB];show((cI _).bind _)=_;rw[tI];simp only[h9,if_true];rw[bV (δ1:=dU bd hd dn rt acc (some kd) (some mD) (some (.bl ar)) (some (.bl ac)) (some td) (some iD) (some sd) (some jD) (some (.str [n])) (some (ck K))) (by
   unfold au;rw[tP];simp)]
  unfold dU;rw[<- p];clear tI tP p;generalize ((cO acc K:Nat) + (m:Nat):Int)=sm at *;generalize hD acc=ds at *;generalize ck K=kk at *;generalize D.int (cO acc K:Nat)=gg at *;simp[cS,rP,rR,uY,uW,aa,ao,S.d,g,v,ad,hz]
 ·rw[if_neg hc];rw[Jo.mpr hc] at tI;refine⟨di,?_⟩;rw[cB];show((cI _).bind _)=_;rw[tI];simp
def mX(k:Nat)(ds:List D):List D:=ds.mapIdx λi d=>D.tup [.int ((i + k:Nat):Int),d]
theorem G8(ds:List D):kf ds=mX 0 ds:=rfl
theorem G9(k:Nat)(d:D)(r:List D):mX k (d :: r) = .tup [.int (k:Nat),d] :: mX (k + 1) r:=by
 unfold mX;rw[List.mapIdx_cons];congr 1
 ·rw[WW]
 ·congr 1
  funext i d
  rw[show i + 1 + k=i + (k + 1) by omega]
abbrev gB:DG:=(bI 2 (aI (af [] 12) (aI (af [] 13) bL)))
theorem G_(bd hd:D)(dn rt:Nat)(ts:List Nat)(dM:ts.length<=26)(kd:D)(ar ac:Bool)(td:D)(m i t:Nat)(sd:D):∀ (row:Tx) (j:Nat) (acc:HV) (fq ft di:Option D),eG ts acc->(∀ n ∈ row,n ∈ ts) ->
  ∃ o12' o13' o14',forL gB cB (mX j (row.map λn=>D.str [n])) (dU bd hd dn rt acc (some kd) (some (.int (m:Nat))) (some (.bl ar)) (some (.bl ac)) (some td) (some (.int (i:Nat))) (some sd) fq ft di) =
   .ok .next (dU bd hd dn rt (mT dn rt (ar,ac,t) m i j row acc) (some kd) (some (.int (m:Nat))) (some (.bl ar)) (some (.bl ac)) (some td) (some (.int (i:Nat))) (some sd) o12' o13' o14')
 | [],j,acc,fq,ft,di,_,_=>⟨fq,ft,di,rfl⟩
 | n :: r,j,acc,fq,ft,di,ha,hr=>by
  obtain⟨q14,e1⟩:=UZ bd hd dn rt acc ts dM ha kd ar ac td m i j n sd di;have ec:lF dn rt (ar,ac,0) m i j n acc=lF dn rt (ar,ac,t) m i j n acc:=rfl;rw[ec] at e1;obtain⟨p12,p13,p14,e2⟩:=G_ bd hd dn rt ts dM kd ar ac td m i t sd r (j + 1) _ (some (.int (j:Nat))) (some (.str [n])) q14 (zT (dn:=dn) (rt:=rt) (key:=(ar,ac,t)) (m:=m) (i:=i) (j:=j) ha (hr n Wb)) λx hx=>hr x (W7 _ hx)
  refine⟨p12,p13,p14,?_⟩;rw[Wk,G9,lG (δ1:=dU bd hd dn rt acc (some kd) (some (.int (m:Nat))) (some (.bl ar)) (some (.bl ac)) (some td) (some (.int (i:Nat))) (some sd) (some (.int (j:Nat))) (some (.str [n])) di) rfl e1];exact e2
abbrev gA:DG:=(bI 2 (aI (af [] 10) (aI (af [] 11) bL)))
abbrev rB:DS:=(cF (rG (aa 11)) gB cB)
theorem Ha(bd hd:D)(dn rt:Nat)(ts:List Nat)(dM:ts.length<=26)(kd:D)(ar ac:Bool)(td:D)(m t:Nat):∀ (B:List Tx) (i:Nat) (acc:HV) (bS fc fq ft di:Option D),eG ts acc->(∀ row ∈ B,∀ n ∈ row,n ∈ ts) ->
  ∃ o10' o11' o12' o13' o14',forL gA rB (mX i (B.map .str)) (dU bd hd dn rt acc (some kd) (some (.int (m:Nat))) (some (.bl ar)) (some (.bl ac)) (some td) bS fc fq ft di) =
   .ok .next (dU bd hd dn rt (mU dn rt (ar,ac,t) m i B acc) (some kd) (some (.int (m:Nat))) (some (.bl ar)) (some (.bl ac)) (some td) o10' o11' o12' o13' o14')
 | [],i,acc,bS,fc,fq,ft,di,_,_=>⟨bS,fc,fq,ft,di,rfl⟩
 | row :: r,i,acc,bS,fc,fq,ft,di,ha,hr=>by
  obtain⟨gG,q13,q14,e1⟩:=G_ bd hd dn rt ts dM kd ar ac td m i t (.str row) row 0 acc fq ft di ha (hr row Wb);obtain⟨la,p11,p12,p13,p14,e2⟩:=Ha bd hd dn rt ts dM kd ar ac td m t r (i + 1) _ (some (.int (i:Nat))) (some (.str row)) gG q13 q14 (u7 (dn:=dn) (rt:=rt) (key:=(ar,ac,t)) (m:=m) (i:=i) (j:=0) ha (hr row Wb)) λx hx=>hr x (W7 _ hx)
  refine⟨la,p11,p12,p13,p14,?_⟩;rw[Wk,G9,lG (δ1:=dU bd hd dn rt acc (some kd) (some (.int (m:Nat))) (some (.bl ar)) (some (.bl ac)) (some td) (some (.int (i:Nat))) (some (.str row)) fq ft di) rfl]
  ·exact e2
  ·refine(kD (ds:=mX 0 (row.map λn=>D.str [n])) ?_).trans e1;rw[<- G8];simp[rG,aa,S.d]
abbrev kB:DS:=(ay (au (aa 5) (bI 3 (aI (af [] 7) (aI (af [] 8) (aI (af [] 9) bL))))) (cF (rm (ag e_ 0 (ao 9))) gA rB))
abbrev gK:DG:=(bI 2 (aI (af [] 5) (aI (af [] 6) bL)))
theorem Hb(R:bF h w bs)(hd:D)(dn rt:Nat):∀ (ae acc:HV) (o5 o6 o7 o8 o9 bS fc fq ft di:Option D),(∀ p ∈ ae,p.1.2.2 ∈ bs.map (·.1))->eG (bs.map (·.1)) acc ->
  ∃ o5' o6' o7' o8' o9' o10' o11' o12' o13' o14',forL gK kB (jO (hD ae)) (dU (bR bs) hd dn rt acc o5 o6 o7 o8 o9 bS fc fq ft di) =
   .ok .next (dU (bR bs) hd dn rt (gW bs dn rt ae acc) o5' o6' o7' o8' o9' o10' o11' o12' o13' o14')
 | [],acc,o5,o6,o7,o8,o9,bS,fc,fq,ft,di,_,_=>⟨o5,o6,o7,o8,o9,bS,fc,fq,ft,di,rfl⟩
 | ((ar,ac,t),m) :: r,acc,o5,o6,o7,o8,o9,bS,fc,fq,ft,di,hk,ha=>by
  have n1:=R.n1;have ht:t ∈ bs.map (·.1):=hk _ Wb;have sj:=λrow hr n hn=>((mV R ht).2 row hr).2 n hn
  obtain⟨q10,q11,gG,q13,q14,e1⟩:=Ha (bR bs) hd dn rt (bs.map (·.1)) (by simpa using n1) (ck (ar,ac,t)) ar ac (.str [t]) m t (bU bs t) 0 acc bS fc fq ft di ha sj;obtain⟨p5,p6,p7,p8,p9,la,p11,p12,p13,p14,e2⟩:=Hb R hd dn rt r _ (some (ck (ar,ac,t))) (some (.int (m:Nat))) (some (.bl ar)) (some (.bl ac)) (some (.str [t])) q10 q11 gG q13 q14 (λp hp=>hk p (W7 _ hp)) (u9 (dn:=dn) (rt:=rt) (key:=(ar,ac,t)) (m:=m) (i:=0) ha sj);refine⟨p5,p6,p7,p8,p9,la,p11,p12,p13,p14,?_⟩;have ei:jO (hD (((ar,ac,t),m) :: r)) = .tup [ck (ar,ac,t),.int (m:Nat)] :: jO (hD r):=rfl;rw[ei,lG (δ1:=dU (bR bs) hd dn rt acc (some (ck (ar,ac,t))) (some (.int (m:Nat))) o7 o8 o9 bS fc fq ft di) rfl]
  ·exact e2
  ·have x:=zZ ht;rw[kB,bV (δ1:=dU (bR bs) hd dn rt acc (some (ck (ar,ac,t))) (some (.int (m:Nat))) (some (.bl ar)) (some (.bl ac)) (some (.str [t])) bS fc fq ft di) (by
    unfold ck;simp[au,aa,bI,aI,bL,S.d])]
   refine(kD (ds:=mX 0 ((bU bs t).map .str)) ?_).trans e1;rw[<- G8];have ef:aT (bU bs t) = .tup ((bU bs t).map .str):=rfl;rw[ef] at x;generalize (bU bs t).map D.str=BS at *;generalize bR bs=DD at *;simp[rm,aa,ao,ag,aX,x,S.d]
theorem Hc(e:b (bX n [.pure x,.pure y,.pure z,.pure u]) = .ok (.ret v) δ1):b9 [] n b [.pure x,.pure y,.pure z,.pure u]=some (v,[.pure x,.pure y,.pure z,.pure u]):=by
 rw[jX,e]; rfl
theorem U_(R:bF h w bs)(ae:HV)(hk:∀ p ∈ ae,p.1.2.2 ∈ bs.map (·.1))(dn rt:Nat) :
  mN [.pure (bR bs),.pure (.dic (hD ae)),.pure (.int (dn:Nat)),.pure (.int (rt:Nat))]=some (.own (.dic (hD (gW bs dn rt ae []))),[.pure (bR bs),.pure (.dic (hD ae)),.pure (.int (dn:Nat)),.pure (.int (rt:Nat))]):=by
 obtain⟨p5,p6,p7,p8,p9,la,p11,p12,p13,p14,e⟩:=Hb R (.dic (hD ae)) dn rt ae [] none none none none none none none none none none hk ⟨by simp,λp hp=>by simp at hp⟩;rw[mN,yX];generalize gW bs dn rt ae []=RS at *;generalize bR bs=DD at *;have i:lq (aa 1) (dU DD (.dic (hD ae)) dn rt [] none none none none none none none none none none) = .ok (jO (hD ae)) (dU DD (.dic (hD ae)) dn rt [] none none none none none none none none none none):=by
  generalize hD ae=HH at *;simp[lq,aa,S.d]
 generalize jO (hD ae)=IT at *;generalize D.dic (hD ae)=HH at *;refine Hc (δ1:=(dU DD HH dn rt RS p5 p6 p7 p8 p9 la p11 p12 p13 p14).set 4 none) ?_;rw[bV (δ1:=dU DD HH dn rt [] none none none none none none none none none none) (by
  simp[bX,au,x4,dU,hD])]
 rw[bV ((kD i).trans e)];unfold dU;generalize hD RS=RD at *;simp[pk]
theorem Ab(a b:Nat)(h:b<=1000):c8 (.int (a:Nat)) (.int (b:Nat))=pS (.int ((a * b:Nat):Int)):=by
 rw[mul_int _ _ (by omega) (by omega)];rw[Ul]
theorem Hd(h:Nat)(hh:h<=1000)(o2:Option S):∀ (n k a:Nat) (o3:Option S),∃ o3',forL (af [] 3) (au (ag c8 0 (ao 1)) (af [] 0)) (bT (k:Nat) n) [pS (.int (a:Nat)),pS (.int (h:Nat)),o2,o3] = .ok .next [pS (.int ((a * h ^ n:Nat):Int)),pS (.int (h:Nat)),o2,o3']
 | 0,k,a,o3=>⟨o3,by simp[bT]⟩
 | n + 1,k,a,o3=>by
  have m:=Ab a h hh;obtain⟨o3',ih⟩:=Hd h hh o2 n (k + 1) (a * h) (pS (.int (k:Nat)));refine⟨o3',?_⟩;rw[sr,lG (δ1:=[pS (.int (a:Nat)),pS (.int (h:Nat)),o2,pS (.int (k:Nat))]) (δ2:=[pS (.int ((a * h:Nat):Int)),pS (.int (h:Nat)),o2,pS (.int (k:Nat))]) rfl (by
   generalize D.int (a:Nat)=A at *;generalize D.int (h:Nat)=B at *;generalize ((a * h:Nat):Int)=C at *;simp[au,ag,aX,ao,m]),ih]
  rw[Q9,QJ (h ^ n) h,JE]
theorem He(h g:Nat)(hh:h<=1000)(hg:g<=1000):je [.pure (.int 1),.pure (.int (h:Nat)),.pure (.int (g:Nat))]=some (.pure (.int ((h ^ g:Nat):Int)),[.pure (.int 1),.pure (.int (h:Nat)),.pure (.int (g:Nat))]):=by
 obtain⟨o3,e⟩:=Hd h hh (pS (.int (g:Nat))) g 0 1 none;rw[QK] at e;have e':forL (af [] 3) (au (ag c8 0 (ao 1)) (af [] 0)) (bT 0 g) [pS (.int 1),pS (.int (h:Nat)),pS (.int (g:Nat)),none] = .ok .next [pS (.int ((h ^ g:Nat):Int)),pS (.int (h:Nat)),pS (.int (g:Nat)),o3]:=e;rw[je,yS];have i:dE (aa 2) [pS (.int 1),pS (.int (h:Nat)),pS (.int (g:Nat)),none] = .ok (bT 0 g) [pS (.int 1),pS (.int (h:Nat)),pS (.int (g:Nat)),none]:=by
  have:=km g (by omega);simp[aa,this]
 generalize ((h ^ g:Nat):Int)=P at *;refine z8 (δ1:=[pS (.int P),pS (.int (h:Nat)),pS (.int (g:Nat)),o3]) ?_;refine(bV ((kD i).trans e')).trans ?_;simp[aa]
theorem Hf(h:Nat)(hh:h<=1000)(o1:Option S):∀ (n k a:Nat) (o3:Option S),∃ o3',forL (af [] 3) (au (ag c8 2 (ao 0)) (af [] 2)) (bT (k:Nat) n) [pS (.int (h:Nat)),o1,pS (.int (a:Nat)),o3] = .ok .next [pS (.int (h:Nat)),o1,pS (.int ((a * h ^ n:Nat):Int)),o3']
 | 0,k,a,o3=>⟨o3,by simp[bT]⟩
 | n + 1,k,a,o3=>by
  have m:=Ab a h hh;obtain⟨o3',ih⟩:=Hf h hh o1 n (k + 1) (a * h) (pS (.int (k:Nat)));refine⟨o3',?_⟩;rw[sr,lG (δ1:=[pS (.int (h:Nat)),o1,pS (.int (a:Nat)),pS (.int (k:Nat))]) (δ2:=[pS (.int (h:Nat)),o1,pS (.int ((a * h:Nat):Int)),pS (.int (k:Nat))]) rfl (by
   generalize D.int (a:Nat)=A at *;generalize D.int (h:Nat)=B at *;generalize ((a * h:Nat):Int)=C at *;simp[au,ag,aX,ao,m]),ih]
  rw[Q9,QJ (h ^ n) h,JE]
theorem Ac(h g:Nat)(hh:h<=1000)(hg:g<=1000):gT [.pure (.int (h:Nat)),.pure (.int (g:Nat))]=some (.pure (.int ((h ^ g:Nat):Int)),[.pure (.int (h:Nat)),.pure (.int (g:Nat))]):=by
 obtain⟨o3,e⟩:=Hf h hh (pS (.int (g:Nat))) g 0 1 none;rw[QK] at e;have e':forL (af [] 3) (au (ag c8 2 (ao 0)) (af [] 2)) (bT 0 g) [pS (.int (h:Nat)),pS (.int (g:Nat)),pS (.int 1),none] = .ok .next [pS (.int (h:Nat)),pS (.int (g:Nat)),pS (.int ((h ^ g:Nat):Int)),o3]:=e;rw[gT,yG];have i:dE (aa 1) [pS (.int (h:Nat)),pS (.int (g:Nat)),pS (.int 1),none] = .ok (bT 0 g) [pS (.int (h:Nat)),pS (.int (g:Nat)),pS (.int 1),none]:=by
  have:=km g (by omega);simp[aa,this]
 generalize ((h ^ g:Nat):Int)=P at *;refine vb (δ1:=[pS (.int (h:Nat)),pS (.int (g:Nat)),pS (.int P),o3]) ?_;rw[bV (δ1:=[pS (.int (h:Nat)),pS (.int (g:Nat)),pS (.int 1),none]) (by simp[bX,au])];rw[bV ((kD i).trans e')];simp[aa]
def pU(d:D)(M:Nat):Bool:=match d with
 | .int i=>decide (0<=i) && decide (i<=(M:Int))
 | _=>false
theorem Hg (d:D) (M:Nat) (hd:iC "int" d≠none):kz [.pure d,.pure (.int 0),.pure (.int (M:Nat))]=some (.pure (.bl (pU d M)),[.pure d,.pure (.int 0),.pure (.int (M:Nat))]):=by
 have f:ot [.pure d,.pure (.int 0)]=some (.pure (.bl (match d with | .int i=>decide (0<=i) | _=>false)),[.pure d,.pure (.int 0)]):=by
  rw[ot,yU];refine vb (δ1:=[pS d,pS (.int 0)]) ?_
  cases d <;> first | (exact absurd rfl hd) | simp[bX,gy,qA,fJ,iC,ao,ag,aX,le_int,S.d]
 rw[kz,yV];refine z8 (δ1:=[pS d,pS (.int 0),pS (.int (M:Nat))]) ?_
 cases d with
 | int i =>
  have l:=le_int i (M:Nat);simp only at f;generalize D.int (M:Nat)=MM at *;have ew:pU (.int i) M=(decide (0<=i) && decide (i<=(M:Int))):=rfl;rw[ew];by_cases h0:0<=i
  ·rw[decide_eq_true h0] at f ⊢;simp[bX,gy,aw,ba,bA,bw,aa,bo,f,aQ,ag,aX,ao,l,S.d]
  ·rw[decide_eq_false h0] at f ⊢;simp[bX,gy,aw,ba,bA,bw,aa,bo,f,aQ,S.d]
 | _ =>
  first
   | exact absurd rfl hd
   | (simp only at f; unfold pU; simp[bX,gy,aw,ba,bA,bw,aa,bo,f,aQ,S.d])
abbrev fZ(ru tt:D)(g R C tl br:Nat)(b7:S)(hv:HV)(o9:Option S):Dl :=
 [pS ru,pS tt,pS (.int (g:Nat)),pS (.int (R:Nat)),pS (.int (C:Nat)),pS (.int (tl:Nat)),pS (.int (br:Nat)),some b7,pO (.dic (hD hv)),o9,none,none]
abbrev vB:DS:=(ay (au (ag gi 5 (aj (ag aq 0 (aj (eD (.int 0)))))) (af [] 5)) (ay (au (ag gi 6 (aj (ag aq 0 (aj (eD (.int 1)))))) (af [] 6)) (au (aw mN [.val (aa 7),.val (aa 8),.val (aM fj (ag mw 3 (ao 5)) (aj (ag aq 0 (aj (eD (.int 0)))))),.val (aM fj (ag mw 4 (ao 6)) (aj (ag aq 0 (aj (eD (.int 1))))))]) (af [] 8))))
theorem vc(a b:Nat)(h0:0 < b)(h1:b<=1000):gi (.int (a:Nat)) (.int (b:Nat))=pS (.int ((a / b:Nat):Int)):=by
 show(if nM (a:Int) (b:Int) then some (S.pure (.int ((a:Int) / (b:Int)))) else none)=_;rw[if_pos (by unfold nM; simp; omega)];rfl
theorem Hh(a b:Nat)(h0:0 < b):fj (.int (a:Nat)) (.int (b:Nat))=pS (.int ((a % b:Nat):Int)):=by
 show(if decide (0 < (b:Int)) then some (S.pure (.int ((a:Int) % (b:Int)))) else none)=_;rw[if_pos (by simp; omega)];rfl
theorem Hi(a b:Nat)(h0:0 < b)(h1:(b:Int) < iI):mw (.int (a:Nat)) (.int (b:Nat))=pS (.int ((a / b:Nat):Int)):=by
 rw[D3 _ _ (by omega) h1];rfl
theorem Hj(hh:h<=4)(hn:n<=60):((h ^ n:Nat):Int) < iI:=by
 have h1:h ^ n<=4 ^ 60:=WA (QZ hh n) (Qr (by decide) hn);have h2:((4 ^ 60:Nat):Int) < iI:=by decide +kernel
 omega
theorem Va(Ru:bF h w bs)(h0:0 < h)(h4:h<=4)(w0:0 < w)(w4:w<=4)(tt:D)(g R C m:Nat)(hm:m < 60)(b7:S)(hb:b7 = .own (bR bs)\/b7 = .pure (bR bs))(hv:HV)(hk:∀ p ∈ hv,p.1.2.2 ∈ bs.map (·.1))(o9:Option S) :
  vB (fZ (az h w bs) tt g R C (h ^ (m + 1)) (w ^ (m + 1)) b7 hv o9) = .ok .next (fZ (az h w bs) tt g R C (h ^ m) (w ^ m) (.pure (bR bs)) (gW bs (R / h ^ m % h) (C / w ^ m % w) hv []) o9):=by
 have x0:=(fY h w bs).1;have x1:=(fY h w bs).2.1;have ph:0 < h ^ m:=JX h0;have pw:0 < w ^ m:=JX w0;have d1:=vc (h ^ (m + 1)) h h0 (by omega);rw[Q9,U6 _ h0] at d1;have d2:=vc (w ^ (m + 1)) w w0 (by omega);rw[Q9,U6 _ w0] at d2;have d3:=Hi R (h ^ m) ph (Hj h4 (by omega));have d4:=Hi C (w ^ m) pw (Hj w4 (by omega));have d5:=Hh (R / h ^ m) h h0;have d6:=Hh (C / w ^ m) w w0;have gh:=U_ Ru hv hk (R / h ^ m % h) (C / w ^ m % w);rw[Q9 h,Q9 w];generalize D.int ((R / h ^ m % h:Nat):Int)=e1 at *;generalize D.int ((C / w ^ m % w:Nat):Int)=e2 at *;generalize D.int ((R / h ^ m:Nat):Int)=e3 at *;generalize D.int ((C / w ^ m:Nat):Int)=e4 at *;unfold fZ;generalize hD (gW bs (R / h ^ m % h) (C / w ^ m % w) hv [])=HN at *;generalize hD hv=HO at *;generalize D.int ((h ^ m:Nat):Int)=e5 at *;generalize D.int ((w ^ m:Nat):Int)=e6 at *;generalize D.int ((h ^ m * h:Nat):Int)=e7 at *;generalize D.int ((w ^ m * w:Nat):Int)=e8 at *;generalize D.int (R:Nat)=RD at *;generalize D.int (C:Nat)=CD at *;generalize D.int (h:Nat)=hd at *;generalize D.int (w:Nat)=wd at *;generalize az h w bs=ru at *;generalize bR bs=DD at *;rw[vB,bV (δ1:=[pS ru,pS tt,pS (.int (g:Nat)),pS RD,pS CD,pS e5,pS e8,some b7,pO (.dic HO),o9,none,none]) (by simp[au,ag,aX,ao,x0,d1])];rw[bV (δ1:=[pS ru,pS tt,pS (.int (g:Nat)),pS RD,pS CD,pS e5,pS e6,some b7,pO (.dic HO),o9,none,none]) (by simp[au,ag,aX,ao,x1,d2])];rcases hb with rfl | rfl <;> simp[au,aw,ba,bA,bw,aa,ao,bo,ag,aX,x0,x1,d3,d4,d5,d6,gh,aQ,S.d]
theorem Hk(Ru:bF h w bs)(h0:0 < h)(h4:h<=4)(w0:0 < w)(w4:w<=4)(ht:t ∈ bs.map (·.1))(tt:D)(g R C:Nat)(hg:g<=60):∀ (n k:Nat),k + n=g->∀ (b7:S) (o9:Option S),(b7 = .own (bR bs)\/b7 = .pure (bR bs)) ->
  ∃ b7' o9',(b7' = .own (bR bs)\/b7' = .pure (bR bs))/\forL (af [] 9) vB (bT (k:Nat) n) (fZ (az h w bs) tt g R C (h ^ n) (w ^ n) b7 (eA bs h w g R C t k) o9) = .ok .next (fZ (az h w bs) tt g R C 1 1 b7' (eA bs h w g R C t g) o9')
 | 0,k,e,b7,o9,hb=>⟨b7,o9,hb,by
   have:k=g:=by omega
   subst this;simp[bT]⟩
 | n + 1,k,e,b7,o9,hb=>by
  have s1:=Va Ru h0 h4 w0 w4 tt g R C n (by omega) b7 hb (eA bs h w g R C t k) (pP Ru ht k).ts (pS (.int (k:Nat)));have en:gW bs (R / h ^ n % h) (C / w ^ n % w) (eA bs h w g R C t k) []=eA bs h w g R C t (k + 1):=by
   show _=gW bs (R / h ^ (g - (k + 1)) % h) (C / w ^ (g - (k + 1)) % w) (eA bs h w g R C t k) [];rw[show g - (k + 1)=n by omega]
  rw[en] at s1;obtain⟨b7',o9',EY,ih⟩:=Hk Ru h0 h4 w0 w4 ht tt g R C hg n (k + 1) (by omega) (.pure (bR bs)) (pS (.int (k:Nat))) (.inr rfl);refine⟨b7',o9',EY,?_⟩;rw[sr,lG (δ1:=fZ (az h w bs) tt g R C (h ^ (n + 1)) (w ^ (n + 1)) b7 (eA bs h w g R C t k) (pS (.int (k:Nat)))) rfl s1];exact ih
def jg(p:HK×Nat):Bool:=p.1.1 && p.1.2.1
def ig(ae:HV):List (bB×D):=(ae.filter jg).map λp=>(.inr [p.1.2.2],D.int (p.2:Nat))
theorem Hl:∀ l:HV,i8 (l.map λp=>D.tup [.str [p.1.2.2],.int (p.2:Nat)])=some (l.map λp=>((.inr [p.1.2.2]:bB),D.int (p.2:Nat)))
 | []=>rfl
 | p :: r=>by
  have:=Hl r;simp only[Wk];simp[i8,fo,this]
theorem Vb(h:eG ts ae):((ig ae).map (·.1)).Nodup:=by
 unfold ig;rw[WS,Jk,JM];have h1:=h.nd;rw[Jk,JM] at h1;have h2:=h1.filter jg;refine(List.pairwise_of_forall_mem_list (l:=ae.filter jg) (r:=λa b=>a.1≠b.1->(Sum.inr [a.1.2.2]:bB)≠Sum.inr [b.1.2.2]) ?_).imp₂ ?_ h2
 ·intro a ha b hb cx e;have a2:=(List.mem_filter.mp ha).2;have b2:=(List.mem_filter.mp hb).2;unfold jg at a2 b2;simp only[Ws] at a2 b2;apply cx;obtain⟨⟨x1,x2,x3⟩,_⟩:=a;obtain⟨⟨y1,y2,y3⟩,_⟩:=b;simp at a2 b2 e;simp[a2,b2,e]
 ·intro a b q1 q2;exact q1 q2
theorem Vc(h:eG ts ae)(dM:ts.length<=26):gQ (.lst ((ae.filter jg).map λp=>D.tup [.str [p.1.2.2],.int (p.2:Nat)]))=pO (.aJ (ig ae)):=by
 have hl:=h.len;have hf:=List.length_filter_le jg ae;unfold gQ;simp only[Hl,Qp,Wx];rw[if_pos (by rw[eF]; omega),zX]
 ·rfl
 ·exact Vb h
theorem Vd(ae:HV)(n:Nat):(e9 (ig ae) (.inr [n])).getD (.int 0) = .int (cO ae (true,true,n):Nat):=by
 have:e9 (ig ae) (.inr [n])=(ae.find? λp=>decide (p.1=(true,true,n))).map λp=>D.int (p.2:Nat):=by
  unfold e9 ig;rw[List.find?_map,List.find?_filter,Option.map_map];have e:(λa:HK×Nat=>decide (jg a=true/\((λkv:bB×D=>decide (kv.1=Sum.inr [n])) ∘ λp:HK×Nat=>((Sum.inr [p.1.2.2]:bB),D.int (p.2:Nat))) a=true))=λp=>decide (p.1=(true,true,n)):=by
   funext p
   obtain⟨⟨a,b,c⟩,m⟩:=p;unfold jg
   cases a <;> cases b <;> simp
  rw[e];rfl
 rw[this];unfold cO
 cases ae.find? λp=>decide (p.1=(true,true,n)) <;> rfl
def sv(bs:List (Nat×List Tx))(ae:HV):List D:=bs.map λb=>D.tup [.str [b.1],.int (cO ae (true,true,b.1):Nat)]
theorem Ve(R:bF h w bs)(ae:HV):ou [.pure (az h w bs),.pure (.aJ (ig ae))]=some (.own (.lst (sv bs ae)),[.pure (az h w bs),.pure (.aJ (ig ae))]):=by
 have n1:=R.n1;have gt:=UY R;have c:=iL (cs:=[2]) (g:=af [] 2) (t:=bj) (el:=d_ (bH (aa 2) (bH (rq 1 (aa 2) (eD (.int 0))) cU))) (λb:Nat×List Tx=>D.str [b.1]) (λb=>D.tup [.str [b.1],.int (cO ae (true,true,b.1):Nat)]) [pS (az h w bs),pS (.aJ (ig ae)),none] bs [] (by rw[eF]; simp; omega) (λb hb=>by
  have q:=Vd ae b.1;refine⟨[pS (az h w bs),pS (.aJ (ig ae)),pS (.str [b.1])],_,.pure (.tup [.str [b.1],.int (cO ae (true,true,b.1):Nat)]),[pS (az h w bs),pS (.aJ (ig ae)),pS (.str [b.1])],rfl,rfl,?_,rfl,rfl⟩;rw[<- q];generalize ig ae=CC at *;generalize az h w bs=ru at *;simp[aa,rq,rn,S.d,fo])
 have et:tD (bs.map (·.1)) = .lst (bs.map λb=>D.str [b.1]):=by unfold tD; rw[WS]; rfl
 have eY:sv bs ae=bs.map λb=>D.tup [.str [b.1],.int (cO ae (true,true,b.1):Nat)]:=rfl
 rw[ou,y4,eY];generalize (bs.map λb=>D.tup [.str [b.1],.int (cO ae (true,true,b.1):Nat)])=Y at *;generalize hT:tD (bs.map (·.1))=T at *;generalize (bs.map λb:Nat×List Tx=>D.str [b.1])=TS at *;generalize D.aJ (ig ae)=CD at *;generalize az h w bs=ru at *;refine vb (δ1:=[pS ru,pS CD,none]) ?_;have i:cA (aw mO [.val (aa 0)]) [pS ru,pS CD,none] = .ok TS [pS ru,pS CD,none]:=by
  simp[gX,aw,ba,bA,bw,aa,bo,gt,aQ,S.d,et]
 simp only[bX];show((cq _ _ _ _ _ _).bind _)=_;have iS:(([S.pure ru,S.pure CD].map some) ++ We (3 - [S.pure ru,S.pure CD].length) none:Dl)=[pS ru,pS CD,none]:=rfl;rw[iS,En,i];simp only[h9];have gM:([2]:List Nat).any (bt [pS ru,pS CD,none])=false:=rfl;have Ad:bC [2] [pS ru,pS CD,none]=[pS ru,pS CD,none]:=rfl;rw[gM,Ad,c];rfl
theorem Vf(e:b (bX n [.pure x,.pure y,.pure z,.pure u,.pure v]) = .ok (.ret r) δ1):b9 [] n b [.pure x,.pure y,.pure z,.pure u,.pure v]=some (r,[.pure x,.pure y,.pure z,.pure u,.pure v]):=by
 rw[jX,e]; rfl
abbrev wC:DE:=(cq [10,11] (lq (aa 8)) (bI 2 (aI (af [] 10) (aI (af [] 11) bL))) (kT (aV (ag aq 10 (aj (eD (.int 0))))) (aV (ag aq 10 (aj (eD (.int 1)))))) (d_ (bH (ag aq 10 (aj (eD (.int 2)))) (bH (aa 11) cU))))
abbrev jh(ru tt:D)(g R C tl br:Nat)(b7:S)(hd:D)(o9:Option S):Dl :=
 [pS ru,pS tt,pS (.int (g:Nat)),pS (.int (R:Nat)),pS (.int (C:Nat)),pS (.int (tl:Nat)),pS (.int (br:Nat)),some b7,pS hd,o9,none,none]
theorem Vg(h:eG ts ae)(dM:ts.length<=26)(ru tt:D)(g R C tl br:Nat)(b7:S)(o9:Option S):wC (fZ ru tt g R C tl br b7 ae o9) = .ok (.own (.lst ((ae.filter jg).map λp=>D.tup [.str [p.1.2.2],.int (p.2:Nat)]))) (jh ru tt g R C tl br b7 (.dic (hD ae)) o9):=by
 have hl:=h.len;have c:=zV (cs:=[10,11]) (g:=bI 2 (aI (af [] 10) (aI (af [] 11) bL))) (t:=kT (aV (ag aq 10 (aj (eD (.int 0))))) (aV (ag aq 10 (aj (eD (.int 1)))))) (el:=d_ (bH (ag aq 10 (aj (eD (.int 2)))) (bH (aa 11) cU)))
  (λp:HK×Nat=>D.tup [ck p.1,.int (p.2:Nat)]) (λp=>D.tup [.str [p.1.2.2],.int (p.2:Nat)]) jg (jh ru tt g R C tl br b7 (.dic (hD ae)) o9) ae [] (by rw[eF]; simp; omega) (λp hp=>by
   obtain⟨⟨a,b,n⟩,m⟩:=p;have y0:aq (ck (a,b,n)) (.int 0)=pS (.bl a):=by unfold ck; simp[aq,pF]
   have y1:aq (ck (a,b,n)) (.int 1)=pS (.bl b):=by unfold ck; simp[aq,rJ]
   have y2:aq (ck (a,b,n)) (.int 2)=pS (.str [n]):=by unfold ck; simp[aq,uI]
   unfold jh;generalize D.dic (hD ae)=HH at *;refine⟨[pS ru,pS tt,pS (.int (g:Nat)),pS (.int (R:Nat)),pS (.int (C:Nat)),pS (.int (tl:Nat)),pS (.int (br:Nat)),some b7,pS HH,o9,pS (ck (a,b,n)),pS (.int (m:Nat))],
    [pS ru,pS tt,pS (.int (g:Nat)),pS (.int (R:Nat)),pS (.int (C:Nat)),pS (.int (tl:Nat)),pS (.int (br:Nat)),some b7,pS HH,o9,pS (ck (a,b,n)),pS (.int (m:Nat))],.pure (.tup [.str [n],.int (m:Nat)]),
    [pS ru,pS tt,pS (.int (g:Nat)),pS (.int (R:Nat)),pS (.int (C:Nat)),pS (.int (tl:Nat)),pS (.int (br:Nat)),some b7,pS HH,o9,pS (ck (a,b,n)),pS (.int (m:Nat))],rfl,?_,rfl,?_,rfl,rfl⟩
   ·generalize ck (a,b,n)=KK at *
    cases a <;> cases b <;> simp[jg,aV,ag,aX,ao,y0,y1]
   ·generalize ck (a,b,n)=KK at *;simp[ag,aX,ao,y2,aa])
 have eI:jO (hD ae)=ae.map λp=>D.tup [ck p.1,.int (p.2:Nat)]:=by unfold jO hD; rw[WS]; rfl
 have i:lq (aa 8) (fZ ru tt g R C tl br b7 ae o9) = .ok (ae.map λp=>D.tup [ck p.1,.int (p.2:Nat)]) (jh ru tt g R C tl br b7 (.dic (hD ae)) o9):=by
  rw[<- eI];unfold fZ jh;generalize hD ae=HH at *;simp[lq,aa,S.d]
 unfold wC;rw[En,i];simp only[h9];have gM:([10,11]:List Nat).any (bt (jh ru tt g R C tl br b7 (.dic (hD ae)) o9))=false:=rfl;have Ad:bC [10,11] (jh ru tt g R C tl br b7 (.dic (hD ae)) o9)=jh ru tt g R C tl br b7 (.dic (hD ae)) o9:=rfl;rw[gM,Ad,c];rfl
abbrev gG(ru tt:D)(gd:D)(rd cd:D)(o5 o6:Option S):Dl:=[pS ru,pS tt,pS gd,pS rd,pS cd,o5,o6,none,none,none,none,none]
abbrev k1:DS:=(nP (aw mM [.val (aa 0),.val (aa 1)]))
abbrev k2:DS:=(au (aw je [.val (eD (.int 1)),.val (ag aq 0 (aj (eD (.int 0)))),.val (aa 2)]) (af [] 5))
abbrev k3:DS:=(au (aw je [.val (eD (.int 1)),.val (ag aq 0 (aj (eD (.int 1)))),.val (aa 2)]) (af [] 6))
abbrev k4:DS:=(da (iy (fg (aV (aw kz [.val (aa 3),.val (eD (.int 0)),.val (aa 5)]))) (fg (aV (aw kz [.val (aa 4),.val (eD (.int 0)),.val (aa 6)])))) t7 cV)
theorem Vh(R:bF h w bs)(ht:t ∈ bs.map (·.1))(rd cd:D):k1 (gG (az h w bs) (.str [t]) (.int (g:Nat)) rd cd none none) = .ok .next (gG (az h w bs) (.str [t]) (.int (g:Nat)) rd cd none none):=by
 have g0:=UX R ht;generalize az h w bs=ru at *;simp[k1,nP,aw,ba,bA,bw,aa,bo,g0,aQ]
theorem Vi(GS:DF)(x0:aq ru (.int 0)=pS hh)(s:GS [.pure (.int 1),.pure hh,.pure gg]=some (.pure PP,[.pure (.int 1),.pure hh,.pure gg]))(tt rd cd:D):(au (aw GS [.val (eD (.int 1)),.val (ag aq 0 (aj (eD (.int 0)))),.val (aa 2)]) (af [] 5)) (gG ru tt gg rd cd none none) = .ok .next (gG ru tt gg rd cd (pS PP) none):=by
 simp[au,aw,ba,bA,bw,aa,bo,ag,aX,ao,x0,s,aQ]
theorem Vj(GS:DF)(x0:aq ru (.int 1)=pS hh)(s:GS [.pure (.int 1),.pure hh,.pure gg]=some (.pure PP,[.pure (.int 1),.pure hh,.pure gg]))(tt rd cd:D)(o5:Option S):(au (aw GS [.val (eD (.int 1)),.val (ag aq 0 (aj (eD (.int 1)))),.val (aa 2)]) (af [] 6)) (gG ru tt gg rd cd o5 none) = .ok .next (gG ru tt gg rd cd o5 (pS PP)):=by
 simp[au,aw,ba,bA,bw,aa,bo,ag,aX,ao,x0,s,aQ]
theorem Vk(h4:h<=4)(hg:g<=60)(tt rd cd:D):k2 (gG (az h w bs) tt (.int (g:Nat)) rd cd none none) = .ok .next (gG (az h w bs) tt (.int (g:Nat)) rd cd (pS (.int ((h ^ g:Nat):Int))) none) :=
 Vi je (fY h w bs).1 (He h g (by omega) (by omega)) tt rd cd
theorem Vl(w4:w<=4)(hg:g<=60)(tt rd cd:D)(o5:Option S):k3 (gG (az h w bs) tt (.int (g:Nat)) rd cd o5 none) = .ok .next (gG (az h w bs) tt (.int (g:Nat)) rd cd o5 (pS (.int ((w ^ g:Nat):Int)))) :=
 Vj je (fY h w bs).2.1 (He w g (by omega) (by omega)) tt rd cd o5
theorem Hm(a b:Nat):cn (.int (a:Nat)) (.int (b:Nat))=pS (.bl (decide (a=b))):=by
 rw[Uv];have:((a:Int) == (b:Int))=decide (a=b):=by
  rw[Uk];simp only[beq_iff_eq,decide_eq_true_eq];omega
 rw[this]
theorem Vm (ru tt rd cd:D) (g A B:Nat) (hr:iC "int" rd≠none) (hc:iC "int" cd≠none) (h1:pU rd A=true) (h2:pU cd B=true):k4 (gG ru tt (.int (g:Nat)) rd cd (pS (.int (A:Nat))) (pS (.int (B:Nat)))) = .ok .next (gG ru tt (.int (g:Nat)) rd cd (pS (.int (A:Nat))) (pS (.int (B:Nat)))):=by
 have e1:=Hg rd A hr;have e2:=Hg cd B hc;rw[h1] at e1;rw[h2] at e2;generalize D.int (A:Nat)=AA at *;generalize D.int (B:Nat)=BB at *;simp[k4,aV,aw,ba,bA,bw,aa,bo,e1,e2,aQ]
theorem Hn(h:a<=b):pU (.int (a:Nat)) b=true:=by
 show(decide (0<=(a:Int)) && decide ((a:Int)<=(b:Int)))=true;simp only[Ws,decide_eq_true_eq];omega
theorem Vn(Ru:bF h w bs)(h0:0 < h)(h4:h<=4)(w0:0 < w)(w4:w<=4)(ht:t ∈ bs.map (·.1))(g R C:Nat)(hg:g<=60)(hR:R<=h ^ g)(hC:C<=w ^ g) :
  gu [.pure (az h w bs),.pure (.str [t]),.pure (.int (g:Nat)),.pure (.int (R:Nat)),.pure (.int (C:Nat))]=some (.own (.lst (sv bs (eA bs h w g R C t g))),[.pure (az h w bs),.pure (.str [t]),.pure (.int (g:Nat)),.pure (.int (R:Nat)),.pure (.int (C:Nat))]):=by
 have n1:=Ru.n1;have dM:(bs.map (·.1)).length<=26:=by simpa using n1
 have x2:=(fY h w bs).2.2;have hd:=zY Ru;have aB:=pP (g:=g) (R:=R) (C:=C) Ru ht g;have s1:=Vh (g:=g) Ru ht (.int (R:Nat)) (.int (C:Nat));have s2:=Vk (bs:=bs) (w:=w) h4 hg (.str [t]) (.int (R:Nat)) (.int (C:Nat));have s3:=Vl (bs:=bs) (h:=h) w4 hg (.str [t]) (.int (R:Nat)) (.int (C:Nat)) (pS (.int ((h ^ g:Nat):Int)));have s4:=Vm (az h w bs) (.str [t]) (.int (R:Nat)) (.int (C:Nat)) g (h ^ g) (w ^ g) (by simp[iC]) (by simp[iC]) (Hn hR) (Hn hC);obtain⟨b7,o9,hb7,lp⟩:=Hk Ru h0 h4 w0 w4 ht (.str [t]) g R C hg g 0 (by omega) (.own (bR bs)) none (.inl rfl);have c:=Vg aB dM (az h w bs) (.str [t]) g R C 1 1 b7 o9;have dc:=Vc aB dM;have gl:=Ve Ru (eA bs h w g R C t g);have e1:=Hm R (h ^ g);have e2:=Hm C (w ^ g);have Ho:=FJ [] (decide (R=h ^ g),decide (C=w ^ g),t);have z0:[(ck (decide (R=h ^ g),decide (C=w ^ g),t),D.int 1)]=hD (eA bs h w g R C t 0):=rfl;have Hq:forL (af [] 9) vB (bT 0 g) (fZ (az h w bs) (.str [t]) g R C (h ^ g) (w ^ g) (.own (bR bs)) (eA bs h w g R C t 0) none) = .ok .next (fZ (az h w bs) (.str [t]) g R C 1 1 b7 (eA bs h w g R C t g) o9):=lp;rw[gu,y8];refine Vf (δ1:=jh (az h w bs) (.str [t]) g R C 1 1 b7 (.dic (hD (eA bs h w g R C t g))) o9) ?_;refine(bV s1).trans ?_;refine(bV s2).trans ?_;refine(bV s3).trans ?_;refine(bV s4).trans ?_;clear s1 s2 s3 s4 lp hR hC aB;rw[bV (δ1:=[pS (az h w bs),pS (.str [t]),pS (.int (g:Nat)),pS (.int (R:Nat)),pS (.int (C:Nat)),pS (.int ((h ^ g:Nat):Int)),pS (.int ((w ^ g:Nat):Int)),pO (bR bs),none,none,none,none]) (by
  generalize az h w bs=ru at *;generalize D.tup (bs.map bY)=bd at *;generalize bR bs=DD at *;simp[au,ag,aX,ao,x2,hd])]
 rw[bV (δ1:=fZ (az h w bs) (.str [t]) g R C (h ^ g) (w ^ g) (.own (bR bs)) (eA bs h w g R C t 0) none) (by
  unfold fZ;rw[<- z0];have Hr:ko (ll (ck (decide (R=h ^ g),decide (C=w ^ g),t))) [] (ck (decide (R=h ^ g),decide (C=w ^ g),t))=true:=Ho;have eK:ck (decide (R=h ^ g),decide (C=w ^ g),t) = .tup [.bl (decide (R=h ^ g)),.bl (decide (C=w ^ g)),.str [t]]:=rfl;rw[eK] at Hr ⊢;generalize decide (R=h ^ g)=B1 at *;generalize decide (C=w ^ g)=B2 at *;generalize D.int ((h ^ g:Nat):Int)=I1 at *;generalize D.int ((w ^ g:Nat):Int)=I2 at *;generalize az h w bs=ru at *;generalize bR bs=DD at *;simp[au,uX,ag,aX,ao,e1,e2,aa,Hr])]
 have i:dE (aa 2) (fZ (az h w bs) (.str [t]) g R C (h ^ g) (w ^ g) (.own (bR bs)) (eA bs h w g R C t 0) none) = .ok (bT 0 g) (fZ (az h w bs) (.str [t]) g R C (h ^ g) (w ^ g) (.own (bR bs)) (eA bs h w g R C t 0) none):=by
  have:=km g (by omega);simp[aa,this]
 rw[bV ((kD i).trans Hq)];clear Hq i e1 e2 Ho z0;generalize eA bs h w g R C t g=HN at *;generalize ((HN.filter jg).map λp=>D.tup [.str [p.1.2.2],.int (p.2:Nat)])=PL at *;generalize hCT:D.aJ (ig HN)=CT at *;have c':bh gQ (aj wC) (fZ (az h w bs) (.str [t]) g R C 1 1 b7 HN o9) = .ok (.own CT) (jh (az h w bs) (.str [t]) g R C 1 1 b7 (.dic (hD HN)) o9):=by
  unfold bh aj;rw[c];simp[S.d,dc]
 generalize bh gQ (aj wC)=EC at *;unfold fZ at c';unfold fZ jh;unfold jh at c';generalize D.int ((1:Nat):Int)=ONE at *;generalize az h w bs=ru at *;generalize sv bs HN=Y at *;simp[aw,ba,bA,bw,aa,bo,c',gl,aQ,S.d]
theorem Vo(n:Int):lA [.pure (.int n)]=some (.pure (.bl true),[.pure (.int n)]):=rfl
theorem vd(Ru:bF h w bs)(ht:t ∈ bs.map (·.1))(g R C:Nat)(hg:g<=60)(hR:R<=h ^ g)(hC:C<=w ^ g) :
  gu [.pure (az h w bs),.pure (.str [t]),.pure (.int (g:Nat)),.pure (.int (R:Nat)),.pure (.int (C:Nat))]=some (.own (.lst (res bs (cy h bs g t R C))),[.pure (az h w bs),.pure (.str [t]),.pure (.int (g:Nat)),.pure (.int (R:Nat)),.pure (.int (C:Nat))]):=by
 have e:sv bs (eA bs h w g R C t g)=res bs (cy h bs g t R C):=WZ λb _=>by rw[TV Ru ht g R C b.1 hR hC]
 rw[Vn Ru Ru.h0 Ru.h1 Ru.w0 Ru.w1 ht g R C hg hR hC,e]
theorem Ht(v:Nat->Nat):∀ bs:List (Nat×List Tx),iY 49 (res bs v)=true
 | []=>rfl
 | b :: r=>by
  show(flat 49 (.tup [.str [b.1],.int ((v b.1:Nat):Int)]) && iY 49 (res r v))=true;rw[Ht v r];rfl
theorem Hu(bs:List (Nat×List Tx))(v:Nat->Nat):hU (.lst (res bs v)) (.lst (res bs v))=pS (.bl false)/\cn (.lst (res bs v)) (.lst (res bs v))=pS (.bl true):=by
 have hf:flat 50 (.lst (res bs v))=true:=by
  show iY 49 (res bs v)=true;exact Ht v bs
 have he:aD (.lst (res bs v)) (.lst (res bs v))=true:=tM hf;unfold hU cn;rw[hf,he];exact⟨rfl,rfl⟩
theorem Hv:∀ n:Nat,jC (We n (.bl true))=some (We n true)
 | 0=>rfl
 | n + 1=>by
  rw[WQ,WQ];simp[jC,Hv n]
theorem Vp(RR:List D)(n:Nat)(cx:hU (.lst RR) (.lst RR)=pS (.bl false))(GW:DF)
  (hc:cp [2] (af [] 2) bj (gy (fJ "tuple" (ao 2)) (aw GW [.val (ag aq 2 (aj (eD (.int 1))))])) RR [pS (.lst RR),pS (.lst RR),none] [] = .ok (We n (.bl true)) [pS (.lst RR),pS (.lst RR),none]) :
  (ay (da (iy (fg (aV (fJ "list" (ao 0)))) (aV (ag hU 0 (ao 1)))) (bM (eD (.bl false))) cV) (bM (bh oX (aj (cq [2] (cA (aa 0)) (af [] 2) bj (gy (fJ "tuple" (ao 2)) (aw GW [.val (ag aq 2 (aj (eD (.int 1))))]))))))) [pS (.lst RR),pS (.lst RR),none] = .ok (.ret (.pure (.bl true))) [pS (.lst RR),pS (.lst RR),none]:=by
 have ha:oX (.lst (We n (.bl true)))=pS (.bl true):=by
  show(jC (We n (.bl true))).map _=_;rw[Hv];simp
 have e1:da (iy (fg (aV (fJ "list" (ao 0)))) (aV (ag hU 0 (ao 1)))) (bM (eD (.bl false))) cV [pS (.lst RR),pS (.lst RR),none] = .ok .next [pS (.lst RR),pS (.lst RR),none]:=by
  simp[aV,fJ,iC,ao,ag,aX,cx]
 rw[bV e1];simp[gX,aa,bt,bC];rw[hc];simp[cW,ha]
theorem Ae(hn:bs.length<=26)(v:Nat->Nat):ic [.pure (.lst (res bs v)),.pure (.lst (res bs v))]=some (.pure (.bl true),[.pure (.lst (res bs v)),.pure (.lst (res bs v))]):=by
 have hc:cp [2] (af [] 2) bj (gy (fJ "tuple" (ao 2)) (aw lA [.val (ag aq 2 (aj (eD (.int 1))))])) (res bs v) [pS (.lst (res bs v)),pS (.lst (res bs v)),none] [] = .ok (We bs.length (.bl true)) [pS (.lst (res bs v)),pS (.lst (res bs v)),none]:=by
  generalize hR:D.lst (res bs v)=R0;have:=iL (cs:=[2]) (g:=af [] 2) (t:=bj) (el:=gy (fJ "tuple" (ao 2)) (aw lA [.val (ag aq 2 (aj (eD (.int 1))))])) (λb:Nat×List Tx=>D.tup [.str [b.1],.int ((v b.1:Nat):Int)]) (λ_=>D.bl true) [pS R0,pS R0,none] bs [] (by rw[eF]; simp; omega) (λb hb=>by
   have q:aq (.tup [.str [b.1],.int ((v b.1:Nat):Int)]) (.int 1)=pS (.int ((v b.1:Nat):Int)):=by simp[aq,cD,dO]
   have gw:=Vo ((v b.1:Nat):Int);refine⟨[pS R0,pS R0,pS (.tup [.str [b.1],.int ((v b.1:Nat):Int)])],_,.pure (.bl true),[pS R0,pS R0,pS (.tup [.str [b.1],.int ((v b.1:Nat):Int)])],rfl,rfl,?_,rfl,rfl⟩;simp[gy,fJ,iC,ao,aw,ba,bA,bw,bo,aQ,ag,aX,q,gw])
  unfold res;rw[this,Qx];congr 1
  clear this hR hn;induction bs with
  | nil=>rfl
  | cons b r ih=>rw[Wk,ih,WB,WQ]
 have e:=Vp (res bs v) bs.length (Hu bs v).1 lA hc;rw[ic,yO];exact vb e
theorem ve(xs:List α)(k:Nat):c_ xs none (some (k:Int))=xs.take k:=by
 have:¬ (k:Int) < 0:=by omega
 unfold c_ HT.aY;simp[this]
theorem tR(x:Tx)(h:x.length<=1000)(lo hi:Option Int):gO lo hi (.str x)=pS (.str (c_ x lo hi)):=by
 unfold gO;simp only;rw[if_pos (by rw[eF]; omega)]
theorem Vq(ru fd:D)(R C:Nat)(fl:List Tx)(hl:fl.length<=1000)(hc:∀ r ∈ fl,r.length<=1000):cp [6] (af [] 6) bj (gj 6 gC (eU (aa 3))) (fl.map .str) [pS ru,pS fd,pS (.int (R:Nat)),pS (.int (C:Nat)),none,none,none] [] = .ok (fl.map λr=>D.str (r.take C)) [pS ru,pS fd,pS (.int (R:Nat)),pS (.int (C:Nat)),none,none,none]:=by
 have:=iL (cs:=[6]) (g:=af [] 6) (t:=bj) (el:=gj 6 gC (eU (aa 3))) D.str (λr=>D.str (r.take C)) [pS ru,pS fd,pS (.int (R:Nat)),pS (.int (C:Nat)),none,none,none] fl [] (by rw[eF]; simp; omega) (λr hr=>by
  have q:=tR r (hc r hr) none (some (C:Int));rw[ve] at q;refine⟨_,_,.pure (.str (r.take C)),[pS ru,pS fd,pS (.int (R:Nat)),pS (.int (C:Nat)),none,none,pS (.str r)],rfl,rfl,?_,rfl,rfl⟩;simp[gj,gC,eU,aa,ao,q])
 rw[this];rfl
theorem Vr(hn:bs.length<=26)(ru fd:D)(R C:Nat)(z:Tx):cp [5] (af [] 5) bj (d_ (bH (ag aq 5 (aj (eD (.int 0)))) (bH (pE (aa 4) (ag aq 5 (aj (eD (.int 0))))) cU))) (bs.map bY) [pS ru,pS fd,pS (.int (R:Nat)),pS (.int (C:Nat)),pS (.str z),none,none] [] = .ok (res bs λy=>z.count y) [pS ru,pS fd,pS (.int (R:Nat)),pS (.int (C:Nat)),pS (.str z),none,none]:=by
 have:=iL (cs:=[5]) (g:=af [] 5) (t:=bj) (el:=d_ (bH (ag aq 5 (aj (eD (.int 0)))) (bH (pE (aa 4) (ag aq 5 (aj (eD (.int 0))))) cU))) bY (λb=>D.tup [.str [b.1],.int ((z.count b.1:Nat):Int)]) [pS ru,pS fd,pS (.int (R:Nat)),pS (.int (C:Nat)),pS (.str z),none,none] bs [] (by rw[eF]; simp; omega) (λb hb=>by
  have q:aq (bY b) (.int 0)=pS (.str [b.1]):=by simp[aq,cD,dO]
  refine⟨_,_,.pure (.tup [.str [b.1],.int ((z.count b.1:Nat):Int)]),[pS ru,pS fd,pS (.int (R:Nat)),pS (.int (C:Nat)),pS (.str z),pS (bY b),none],rfl,rfl,?_,rfl,rfl⟩;generalize bY b=B at *;simp[d_,bH,cU,ag,aX,ao,q,pE,aa,Ej,Ei])
 rw[this];rfl
theorem Vs(Ru:bF h w bs)(fl:List Tx)(R C:Nat)(hl:fl.length<=1000)(hc:∀ r ∈ fl,r.length<=1000) :
  ku [.pure (az h w bs),.pure (aT fl),.pure (.int (R:Nat)),.pure (.int (C:Nat))]=some (.own (.lst (res bs (pc R C fl))),[.pure (az h w bs),.pure (aT fl),.pure (.int (R:Nat)),.pure (.int (C:Nat))]):=by
 have fA:(fl.take R).length<=1000:=by rw[Qz]; omega
 have gL:∀ r ∈ fl.take R,r.length<=1000:=λr hr=>hc r (Qq hr)
 have c1:=Vq (az h w bs) (aT fl) R C (fl.take R) fA gL;have j:dC [] (.lst ((fl.take R).map λr=>D.str (r.take C)))=pS (.str (((fl.take R).map λr=>r.take C).flatten)):=by
  have e:((fl.take R).map λr=>D.str (r.take C))=((fl.take R).map λr=>r.take C).map .str:=by rw[WS]; rfl
  rw[e];refine GO _ ?_;have:=z7 ((fl.take R).map λr=>r.take C) 1000 (λx hx=>by
   obtain⟨r,hr,rfl⟩:=WX.mp hx;have:=gL r hr;rw[Qz];omega)
  rw[Wx] at this;have h2:(fl.take R).length * 1000<=1000 * 1000:=Js 1000 fA;omega
 have c2:=Vr Ru.n1 (az h w bs) (aT fl) R C (((fl.take R).map λr=>r.take C).flatten);have x2:=(fY h w bs).2.2;have sl:gO none (some (R:Int)) (aT fl)=pS (.tup ((fl.take R).map .str)):=by
  show some (S.pure (.tup (c_ (fl.map .str) none (some (R:Int)))))=_;rw[ve,List.map_take]
 have er:(res bs λy=>(((fl.take R).map λr=>r.take C).flatten).count y)=res bs (pc R C fl):=rfl;rw[er] at c2;rw[ku,yN];generalize res bs (pc R C fl)=Y at *;generalize ((fl.take R).map λr=>D.str (r.take C))=RS at *;generalize (((fl.take R).map λr=>r.take C).flatten)=z at *;generalize ((fl.take R).map D.str)=TS at *;generalize aT fl=FD at *;generalize az h w bs=ru at *;generalize bs.map bY=B at *;refine Hc (δ1:=[pS ru,pS FD,pS (.int (R:Nat)),pS (.int (C:Nat)),pS (.str z),none,none]) ?_;have i1:cA (gj 1 gC (eU (aa 2))) [pS ru,pS FD,pS (.int (R:Nat)),pS (.int (C:Nat)),none,none,none] = .ok TS [pS ru,pS FD,pS (.int (R:Nat)),pS (.int (C:Nat)),none,none,none]:=by
  simp[gX,gj,gC,eU,aa,ao,sl]
 have i2:cA (ag aq 0 (aj (eD (.int 2)))) [pS ru,pS FD,pS (.int (R:Nat)),pS (.int (C:Nat)),pS (.str z),none,none] = .ok B [pS ru,pS FD,pS (.int (R:Nat)),pS (.int (C:Nat)),pS (.str z),none,none]:=by
  simp[gX,ag,aX,ao,x2]
 rw[bV (δ1:=[pS ru,pS FD,pS (.int (R:Nat)),pS (.int (C:Nat)),pS (.str z),none,none]) (by
  simp only[bX];simp[au,i1,bt,bC];rw[c1];simp[cW,j])]
 simp[i2,bt,bC];rw[c2];simp[cW]
def eW(bs:List (Nat×List Tx))(a:Nat->Nat):List D:=bs.map λb=>D.int ((a b.1:Nat):Int)
theorem Vt(bs:List (Nat×List Tx)):(We bs.length ([.int 0]:List D)).flatten=eW bs λ_=>0:=by
 induction bs with
 | nil=>rfl
 | cons t r ih =>
  rw[WB,WQ,Q3,ih];rfl
abbrev eM(ru tt gg dn al:D)(s5:S)(o6 o7:Option S):Dl:=[pS ru,pS tt,pS gg,pS dn,pS al,some s5,o6,o7,none,none]
abbrev eS(GC:DF):DS:=(au (cq [9,8] (fW (aa 5) (aw GC [.val (aa 0),.val (aa 7),.val (ag nL 2 (aj (eD (.int 1))))])) (bI 2 (aI (af [] 9) (aI (af [] 8) bL))) bj (ag aN 9 (aj (ag aq 8 (aj (eD (.int 1))))))) (af [] 5))
theorem Vu(hn:bs.length<=26)(a v:Nat->Nat)(ru tt gg dn al:D)(s5:S)(o6 o7:Option S):cp [9,8] (bI 2 (aI (af [] 9) (aI (af [] 8) bL))) bj (ag aN 9 (aj (ag aq 8 (aj (eD (.int 1)))))) (eE (eW bs a) (res bs v)) (eM ru tt gg dn al s5 o6 o7) [] = .ok (eW bs λs=>a s + v s) (eM ru tt gg dn al s5 o6 o7):=by
 have hz:eE (eW bs a) (res bs v)=bs.map λb=>D.tup [.int ((a b.1:Nat):Int),.tup [.str [b.1],.int ((v b.1:Nat):Int)]]:=by
  unfold eE eW res;rw[Jy,JN]
 rw[hz];have:=iL (cs:=[9,8]) (g:=bI 2 (aI (af [] 9) (aI (af [] 8) bL))) (t:=bj) (el:=ag aN 9 (aj (ag aq 8 (aj (eD (.int 1)))))) (λb:Nat×List Tx=>D.tup [.int ((a b.1:Nat):Int),.tup [.str [b.1],.int ((v b.1:Nat):Int)]]) (λb=>D.int ((a b.1 + v b.1:Nat):Int)) (eM ru tt gg dn al s5 o6 o7) bs [] (by rw[eF]; simp; omega) (λb hb=>by
  have q:aq (.tup [.str [b.1],.int ((v b.1:Nat):Int)]) (.int 1)=pS (.int ((v b.1:Nat):Int)):=by simp[aq,cD,dO]
  refine⟨[pS ru,pS tt,pS gg,pS dn,pS al,some s5,o6,o7,pS (.tup [.str [b.1],.int ((v b.1:Nat):Int)]),pS (.int ((a b.1:Nat):Int))],_,.pure (.int ((a b.1:Nat) + (v b.1:Nat):Int)),[pS ru,pS tt,pS gg,pS dn,pS al,some s5,o6,o7,pS (.tup [.str [b.1],.int ((v b.1:Nat):Int)]),pS (.int ((a b.1:Nat):Int))],rfl,rfl,?_,rfl,by show D.int _=D.int _; push_cast; rfl⟩;simp[ag,aX,ao,q,add_int])
 rw[this];rfl
theorem Vv(GC:DF)(ru tt gg g1 dn al sg:D)(A RV N:List D)(o6:Option S)(hs:nL gg (.int 1)=pS g1)(hc:GC [.pure ru,.pure sg,.pure g1]=some (.own (.lst RV),[.pure ru,.pure sg,.pure g1]))
  (hk:cp [9,8] (bI 2 (aI (af [] 9) (aI (af [] 8) bL))) bj (ag aN 9 (aj (ag aq 8 (aj (eD (.int 1)))))) (eE A RV) (eM ru tt gg dn al (.pure (.lst A)) o6 (pS sg)) [] = .ok N (eM ru tt gg dn al (.pure (.lst A)) o6 (pS sg))) :
  eS GC (eM ru tt gg dn al (.own (.lst A)) o6 (pS sg)) = .ok .next (eM ru tt gg dn al (.own (.lst N)) o6 (pS sg)):=by
 unfold eS eM at *;simp[au,fW,aa,aw,ba,bA,bw,bo,aQ,ag,aX,ao,hs,hc,gR,bt,bC];rw[hk];simp[cW]
theorem Hw(Ru:bF h w bs)(m:Nat)(hm:m<=60)(tt dn al:D)(o6:Option S):∀ (row:Tx) (a:Nat->Nat) (o7:Option S),∃ o7',forL (af [] 7) (eS iP) (row.map λn=>D.str [n]) (eM (az h w bs) tt (.int ((m + 1:Nat):Int)) dn al (.own (.lst (eW bs a))) o6 o7) = .ok .next (eM (az h w bs) tt (.int ((m + 1:Nat):Int)) dn al (.own (.lst (eW bs λs=>a s + eR (λn=>vec bs n m s) row))) o6 o7')
 | [],a,o7=>⟨o7,rfl⟩
 | n :: r,a,o7=>by
  have hs:nL (.int ((m + 1:Nat):Int)) (.int 1)=pS (.int (m:Nat)):=by
   show some (S.pure (.int (((m + 1:Nat):Int) - 1)))=_;rw[show((m + 1:Nat):Int) - 1=(m:Int) by omega]
  have st:=Vv iP (az h w bs) tt _ _ dn al (.str [n]) (eW bs a) _ _ o6 hs (G6 (t0:=n) Ru (by omega)) (Vu Ru.n1 a (vec bs n m) (az h w bs) tt (.int ((m + 1:Nat):Int)) dn al (.pure (.lst (eW bs a))) o6 (pS (.str [n])));obtain⟨o7',ih⟩:=Hw Ru m hm tt dn al o6 r (λs=>a s + vec bs n m s) (pS (.str [n]));refine⟨o7',?_⟩;rw[Wk,lG (δ1:=eM (az h w bs) tt (.int ((m + 1:Nat):Int)) dn al (.own (.lst (eW bs a))) o6 (pS (.str [n]))) rfl st,ih];have e:(λs=>a s + vec bs n m s + eR (λn=>vec bs n m s) r)=λs=>a s + eR (λn=>vec bs n m s) (n :: r):=by
   funext s
   show _=a s + (vec bs n m s + eR (λn=>vec bs n m s) r);omega
  rw[e]
abbrev eL(GC:DF):DS:=(cF (cA (gj 6 gC (eU (aa 4)))) (af [] 7) (eS GC))
theorem Hx(Ru:bF h w bs)(m:Nat)(hm:m<=60)(tt dn:D)(al:Nat):∀ (B:List Tx) (a:Nat->Nat) (o6 o7:Option S),(∀ r ∈ B,r.length<=1000)->∃ o6' o7',forL (af [] 6) (eL iP) (B.map .str) (eM (az h w bs) tt (.int ((m + 1:Nat):Int)) dn (.int (al:Nat)) (.own (.lst (eW bs a))) o6 o7) = .ok .next (eM (az h w bs) tt (.int ((m + 1:Nat):Int)) dn (.int (al:Nat)) (.own (.lst (eW bs λs=>a s + eB (λn=>vec bs n m s) al B))) o6' o7')
 | [],a,o6,o7,_=>⟨o6,o7,rfl⟩
 | row :: r,a,o6,o7,hr=>by
  obtain⟨q7,e1⟩:=Hw Ru m hm tt dn (.int (al:Nat)) (pS (.str row)) (row.take al) a o7;obtain⟨o6',o7',ih⟩:=Hx Ru m hm tt dn al r (λs=>a s + eR (λn=>vec bs n m s) (row.take al)) (pS (.str row)) q7 λx hx=>hr x (W7 _ hx)
  refine⟨o6',o7',?_⟩;have q:=tR row (hr row Wb) none (some (al:Int));rw[ve] at q;have i:cA (gj 6 gC (eU (aa 4))) (eM (az h w bs) tt (.int ((m + 1:Nat):Int)) dn (.int (al:Nat)) (.own (.lst (eW bs a))) (pS (.str row)) o7) = .ok ((row.take al).map λn=>D.str [n]) (eM (az h w bs) tt (.int ((m + 1:Nat):Int)) dn (.int (al:Nat)) (.own (.lst (eW bs a))) (pS (.str row)) o7):=by
   generalize az h w bs=ru;generalize eW bs a=A;simp[gX,gj,gC,eU,aa,ao,q]
  rw[Wk,lG (δ1:=eM (az h w bs) tt (.int ((m + 1:Nat):Int)) dn (.int (al:Nat)) (.own (.lst (eW bs a))) (pS (.str row)) o7) rfl ((kD i).trans e1),ih];have e:(λs=>a s + eR (λn=>vec bs n m s) (row.take al) + eB (λn=>vec bs n m s) al r)=λs=>a s + eB (λn=>vec bs n m s) al (row :: r):=by
   funext s
   show _=a s + (eR (λn=>vec bs n m s) (row.take al) + eB (λn=>vec bs n m s) al r);omega
  rw[e]
theorem Vw(hn:bs.length<=26)(a:Nat->Nat)(ru tt gg dn al:D)(s5:S)(o6 o7:Option S):cp [8,9] (bI 2 (aI (af [] 8) (aI (af [] 9) bL))) bj (d_ (bH (ag aq 8 (aj (eD (.int 0)))) (bH (aa 9) cU))) (eE (bs.map bY) (eW bs a)) (eM ru tt gg dn al s5 o6 o7) [] = .ok (res bs a) (eM ru tt gg dn al s5 o6 o7):=by
 have hz:eE (bs.map bY) (eW bs a)=bs.map λb=>D.tup [bY b,.int ((a b.1:Nat):Int)]:=by
  unfold eE eW;rw[Jy,JN]
 rw[hz];have:=iL (cs:=[8,9]) (g:=bI 2 (aI (af [] 8) (aI (af [] 9) bL))) (t:=bj) (el:=d_ (bH (ag aq 8 (aj (eD (.int 0)))) (bH (aa 9) cU))) (λb:Nat×List Tx=>D.tup [bY b,.int ((a b.1:Nat):Int)]) (λb=>D.tup [.str [b.1],.int ((a b.1:Nat):Int)]) (eM ru tt gg dn al s5 o6 o7) bs [] (by rw[eF]; simp; omega) (λb hb=>by
  have q:aq (bY b) (.int 0)=pS (.str [b.1]):=by simp[aq,cD,dO]
  refine⟨[pS ru,pS tt,pS gg,pS dn,pS al,some s5,o6,o7,pS (bY b),pS (.int ((a b.1:Nat):Int))],_,.pure (.tup [.str [b.1],.int ((a b.1:Nat):Int)]),[pS ru,pS tt,pS gg,pS dn,pS al,some s5,o6,o7,pS (bY b),pS (.int ((a b.1:Nat):Int))],rfl,rfl,?_,rfl,rfl⟩;generalize bY b=B at *;simp[d_,bH,cU,ag,aX,ao,q,aa])
 rw[this];rfl
theorem Vx(e:b (bX n [.pure x,.pure y,.pure z,.pure u,.pure v]) = .ok (.ret r) δ1):b9 [] n b [.pure x,.pure y,.pure z,.pure u,.pure v]=some (r,[.pure x,.pure y,.pure z,.pure u,.pure v]):=by
 rw[jX,e]; rfl
theorem Vy(Ru:bF h w bs)(ht:t ∈ bs.map (·.1))(m dn al:Nat)(hm:m<=60) :
  mR [.pure (az h w bs),.pure (.str [t]),.pure (.int ((m + 1:Nat):Int)),.pure (.int (dn:Nat)),.pure (.int (al:Nat))]=some (.own (.lst (res bs (cy h bs (m + 1) t (dn * h ^ m) (al * w ^ m)))),[.pure (az h w bs),.pure (.str [t]),.pure (.int ((m + 1:Nat):Int)),.pure (.int (dn:Nat)),.pure (.int (al:Nat))]):=by
 have n1:=Ru.n1;obtain⟨o6,o7,e⟩:=Hx Ru m hm (.str [t]) (.int (dn:Nat)) al ((bU bs t).take dn) (λ_=>0) none none λr hr=>by
  have:=((mV Ru ht).2 r (Qq hr)).1;have:=Ru.w1;omega
 have ea:(λs=>0 + eB (λn=>vec bs n m s) al ((bU bs t).take dn))=cy h bs (m + 1) t (dn * h ^ m) (al * w ^ m):=by
  funext s
  rw[WW,TX Ru ht]
 rw[ea] at e;have ce:=Vw n1 (cy h bs (m + 1) t (dn * h ^ m) (al * w ^ m)) (az h w bs) (.str [t]) (.int ((m + 1:Nat):Int)) (.int (dn:Nat)) (.int (al:Nat)) (.pure (.lst (eW bs (cy h bs (m + 1) t (dn * h ^ m) (al * w ^ m))))) o6 o7;have x2:=(fY h w bs).2.2;have hd:=zY Ru;have hx:=zZ ht;have hl:cb (.tup (bs.map bY))=pS (.int (bs.length:Nat)):=by rw[z9,Wx]
 have Vz:gr (.lst [.int 0]) (.int (bs.length:Nat))=pO (.lst (eW bs λ_=>0)):=by
  unfold gr;dsimp only;rw[if_pos ⟨by omega,by omega,by simp,by simp⟩];simp only[Qe,Vt]
 have sl:gO none (some (dn:Int)) (aT (bU bs t))=pS (.tup (((bU bs t).take dn).map .str)):=by
  show some (S.pure (.tup (c_ ((bU bs t).map .str) none (some (dn:Int)))))=_;rw[ve,List.map_take]
 rw[mR,zh];generalize res bs (cy h bs (m + 1) t (dn * h ^ m) (al * w ^ m))=Y at *;generalize eW bs (cy h bs (m + 1) t (dn * h ^ m) (al * w ^ m))=Z at *;generalize (eW bs λ_=>0)=Z0 at *;generalize (((bU bs t).take dn).map D.str)=TS at *;generalize aT (bU bs t)=FB at *;generalize bR bs=DD at *;generalize az h w bs=ru at *;generalize ((m + 1:Nat):Int)=gI at *;generalize (bs.length:Nat)=LL at *;generalize bs.map bY=B at *;refine Vx (δ1:=eM ru (.str [t]) (.int gI) (.int (dn:Nat)) (.int (al:Nat)) (.pure (.lst Z)) o6 o7) ?_;rw[bV (δ1:=eM ru (.str [t]) (.int gI) (.int (dn:Nat)) (.int (al:Nat)) (.own (.lst Z0)) none none) (by
  simp[bX,au,aM,fV,ao,ag,aX,x2,hl,Vz])]
 have i:cA (qF (aM e_ (bh gQ (aj (ag aq 0 (aj (eD (.int 2)))))) (ao 1)) gC (eU (aa 3))) (eM ru (.str [t]) (.int gI) (.int (dn:Nat)) (.int (al:Nat)) (.own (.lst Z0)) none none) = .ok TS (eM ru (.str [t]) (.int gI) (.int (dn:Nat)) (.int (al:Nat)) (.own (.lst Z0)) none none):=by
  simp[gX,ag,aX,ao,x2,hd,hx,gC,eU,aa,sl,S.d]
 rw[bV ((kD i).trans e)];unfold eM at ce ⊢;simp[fW,aa,ag,aX,ao,x2,gR,bt,bC];rw[ce];simp[cW]
abbrev l9(ru tt gg pd fd:D)(o5 o6 o7 o8:Option S):Dl:=[pS ru,pS tt,pS gg,pO pd,pS fd,o5,o6,o7,o8]
abbrev lB(GD GP GC GA:DF):DS:=(ay (au (aw GD [.io 3,.val (aM aN (bh cb (ao 4)) (aj (eD (.int 1))))]) (af [3] 6)) (ay (au (aw GD [.io 3,.val (aM aN (bh cb (aj (ag aq 4 (aj (eD (.int 0)))))) (aj (eD (.int 1))))]) (af [3] 7)) (ay (au (aw GP [.val (aa 0),.val (aa 4),.val (aa 6),.val (aa 7)]) (af [3] 8)) (da (fg (aV (aw GA [.val (aw GC [.val (aa 0),.val (aa 1),.val (aa 2),.val (aa 6),.val (aa 7)]),.val (aa 8)]))) (bM (eD (.bl false))) cV))))
theorem VA(GD GP GC GA:DF)(ru tt gg pd dA cm fd r0 A A1 C C1 rd cd RR:D)(hl:cb fd=pS A)(ha:aN A (.int 1)=pS A1)(hx:aq fd (.int 0)=pS r0)(fA:cb r0=pS C)(hc:aN C (.int 1)=pS C1)
  (d1:GD [.own pd,.pure A1]=some (.pure rd,[.own dA,.pure A1])) (d2:GD [.own dA,.pure C1]=some (.pure cd,[.own cm,.pure C1])) (hp:GP [.pure ru,.pure fd,.pure rd,.pure cd]=some (.own RR,[.pure ru,.pure fd,.pure rd,.pure cd]))
  (hw:GC [.pure ru,.pure tt,.pure gg,.pure rd,.pure cd]=some (.own RR,[.pure ru,.pure tt,.pure gg,.pure rd,.pure cd])) (hr:GA [.pure RR,.pure RR]=some (.pure (.bl true),[.pure RR,.pure RR])) (o5 o6 o7 o8:Option S) :
  lB GD GP GC GA (l9 ru tt gg pd fd o5 o6 o7 o8) = .ok .next (l9 ru tt gg cm fd o5 (pS rd) (pS cd) (pS RR)):=by
 unfold lB l9;rw[bV (δ1:=l9 ru tt gg dA fd o5 (pS rd) o7 o8) (by simp[au,aw,ba,bA,bt,bw,bo,aQ,ao,hl,ha,d1])];unfold l9;rw[bV (δ1:=l9 ru tt gg cm fd o5 (pS rd) (pS cd) o8) (by simp[au,aw,ba,bA,bt,bw,bo,aQ,ag,aX,ao,hx,fA,hc,d2])];unfold l9;rw[bV (δ1:=[pS ru,pS tt,pS gg,pO cm,pS fd,o5,pS rd,pS cd,pO RR]) (by simp[au,aw,ba,bA,bt,bw,bo,aQ,aa,hp])];simp[aV,aw,ba,bA,bt,bw,bo,aQ,aa,hw,hr,S.d]
theorem Hy(Ru:bF h w bs)(ht:t ∈ bs.map (·.1))(g:Nat)(hg:g<=9)(hp:(h * w) ^ g<=300):∀ (n k:Nat) (pd:D) (o5 o6 o7 o8:Option S),dw pd ->
  ∃ cY o5' o6' o7' o8',dw cY/\forL (af [3] 5) (lB b_ ku gu ic) (bT (k:Nat) n) (l9 (az h w bs) (.str [t]) (.int (g:Nat)) pd (aT (bQ h bs [[t]] g)) o5 o6 o7 o8) = .ok .next (l9 (az h w bs) (.str [t]) (.int (g:Nat)) cY (aT (bQ h bs [[t]] g)) o5' o6' o7' o8')
 | 0,k,pd,o5,o6,o7,o8,fN=>⟨pd,o5,o6,o7,o8,fN,by simp[bT]⟩
 | n + 1,k,pd,o5,o6,o7,o8,fN=>by
  have F:=mS Ru (A:=1) (C:=1) (fl:=[[t]]) ⟨rfl,by simp,by simpa using ht⟩ g;rw[QK,QK] at F;have hb:h ^ g<=300/\w ^ g<=300:=by
   rw[Nat.mul_pow] at hp;have:=JX (n:=g) Ru.h0;have:=JX (n:=g) Ru.w0;exact⟨WA (JD _ (by assumption)) hp,WA (Nat.le_mul_of_pos_left _ (by assumption)) hp⟩
  obtain⟨R,dA,d1,hR,p1⟩:=ie fN (h ^ g + 1) (((h ^ g:Nat):Int) + 1) (by omega) (by omega) (by omega);obtain⟨C,cm,d2,hC,p2⟩:=ie p1 (w ^ g + 1) (((w ^ g:Nat):Int) + 1) (by omega) (by omega) (by omega);have pt:=Vs Ru (bQ h bs [[t]] g) R C (by rw[F.rows]; omega) (λr hr=>by rw[F.cols r hr]; omega);have cw:=vd Ru ht g R C (by omega) (by omega) (by omega);have ar:=Ae Ru.n1 (cy h bs g t R C);have eV:pc R C (bQ h bs [[t]] g)=cy h bs g t R C:=rfl;rw[eV] at pt;have hl:cb (aT (bQ h bs [[t]] g))=pS (.int ((h ^ g:Nat):Int)):=by
   rw[z9,Wx,F.rows]
  have h0:0 < (bQ h bs [[t]] g).length:=by rw[F.rows]; exact JX Ru.h0
  have hx:aq (aT (bQ h bs [[t]] g)) (.int 0)=pS (.str (bQ h bs [[t]] g)[0]):=by
   have:=i_ ((bQ h bs [[t]] g).map D.str) 0;show((cD ((bQ h bs [[t]] g).map D.str) 0).map S.pure)=_;rw[show(0:Int)=((0:Nat):Int) by rfl,this];simp[h0]
  have c0:=F.cols _ (J4 h0);have fA:cb (.str (bQ h bs [[t]] g)[0])=pS (.int ((w ^ g:Nat):Int)):=by
   rw[Uz _ (by omega),c0]
  have st:=VA b_ ku gu ic (az h w bs) (.str [t]) (.int (g:Nat)) pd dA cm (aT (bQ h bs [[t]] g)) _ _ _ _ _ _ _ (.lst (res bs (cy h bs g t R C))) hl (add_int _ _) hx fA (add_int _ _) d1 d2 pt cw ar (pS (.int (k:Nat))) o6 o7 o8;obtain⟨cY,o5',o6',o7',o8',hpd',ih⟩:=Hy Ru ht g hg hp n (k + 1) cm (pS (.int (k:Nat))) (pS (.int (R:Nat))) (pS (.int (C:Nat))) (pS (.lst (res bs (cy h bs g t R C)))) p2;refine⟨cY,o5',o6',o7',o8',hpd',?_⟩;rw[sr,lG (δ1:=l9 (az h w bs) (.str [t]) (.int (g:Nat)) pd (aT (bQ h bs [[t]] g)) (pS (.int (k:Nat))) o6 o7 o8) rfl st];exact ih
theorem Hz(e:b (bX n [.pure x,.pure y,.pure z,.own p]) = .ok (.ret v) (o0 :: o1 :: o2 :: pO p' :: r)):b9 [3] n b [.pure x,.pure y,.pure z,.own p]=some (v,[.pure x,.pure y,.pure z,.own p']):=by
 rw[jX,e]; rfl
theorem VB(GG GD GP GC GA:DF)(ru tt gg pd cY FD:D)(o5 o6 o7 o8:Option S)(go:GG [.pure ru,.pure (.tup [tt]),.pure gg]=some (.pure FD,[.pure ru,.pure (.tup [tt]),.pure gg]))
  (e:forL (af [3] 5) (lB GD GP GC GA) (bT 0 12) (l9 ru tt gg pd FD none none none none) = .ok .next (l9 ru tt gg cY FD o5 o6 o7 o8)) :
  (ay (au (aw GG [.val (aa 0),.val (d_ (bH (aa 1) cU)),.val (aa 2)]) (af [3] 4)) (ay (cF (dE (eD (.int 12))) (af [3] 5) (lB GD GP GC GA)) (bM (eD (.bl true))))) [pS ru,pS tt,pS gg,pO pd,none,none,none,none,none] = .ok (.ret (.pure (.bl true))) (l9 ru tt gg cY FD o5 o6 o7 o8):=by
 rw[bV (δ1:=l9 ru tt gg pd FD none none none none) (by
  simp[au,aw,ba,bA,bt,bw,bo,aQ,aa,go])]
 have i:dE (eD (.int 12)) (l9 ru tt gg pd FD none none none none) = .ok (bT 0 12) (l9 ru tt gg pd FD none none none none):=by
  have:=km 12 (by omega);simpa using this _
 rw[bV ((kD i).trans e)];rfl
theorem VC(Ru:bF h w bs)(ht:t ∈ bs.map (·.1))(g:Nat)(hg:g<=9)(hp:(h * w) ^ g<=300)(fN:dw pd) :
  ∃ cY,dw cY/\kA [.pure (az h w bs),.pure (.str [t]),.pure (.int (g:Nat)),.own pd]=some (.pure (.bl true),[.pure (az h w bs),.pure (.str [t]),.pure (.int (g:Nat)),.own cY]):=by
 obtain⟨cY,o5,o6,o7,o8,hpd',e⟩:=Hy Ru ht g hg hp 12 0 pd none none none none fN;refine⟨cY,hpd',?_⟩;have F0:jV bs 1 1 [[t]]:=⟨rfl,by simp,by simpa using ht⟩
 have go:=UG Ru F0 g (by omega) (λi hi=>by
  have:=UH Ru.h0 Ru.w0 (Ju hi) (WA hp (by decide));rw[QK,QK];exact this)
 have ef:aT [[t]] = .tup [.str [t]]:=rfl;rw[ef] at go;rw[kA,zb];exact Hz (VB mL b_ ku gu ic (az h w bs) (.str [t]) (.int (g:Nat)) pd cY (aT (bQ h bs [[t]] g)) o5 o6 o7 o8 go e)
abbrev dm(ru tt gg pd:D)(o4 o5 o6 o7 o8 o9 bS fc:Option S):Dl:=[pS ru,pS tt,pS gg,pO pd,o4,o5,o6,o7,o8,o9,bS,fc,none]
abbrev F1(GP:DF):DS:=(au (aw GP [.val (ag aq 0 (aj (eD (.int 0)))),.val (aa 2)]) (af [3] 4))
abbrev F2(GP:DF):DS:=(au (aw GP [.val (ag aq 0 (aj (eD (.int 1)))),.val (aa 2)]) (af [3] 5))
abbrev F3(GA GC GN:DF):DS:=(da (fg (aV (aw GA [.val (aw GC [.val (aa 0),.val (aa 1),.val (aa 2),.val (aa 4),.val (aa 5)]),.val (aw GN [.val (aa 0),.val (aa 1),.val (aa 2)])]))) (bM (eD (.bl false))) cV)
theorem VD(GP GA GC GN:DF)(ru tt gg pd hd wd HI WI RR:D)(x0:aq ru (.int 0)=pS hd)(x1:aq ru (.int 1)=pS wd)(p0:GP [.pure hd,.pure gg]=some (.pure HI,[.pure hd,.pure gg]))(p1:GP [.pure wd,.pure gg]=some (.pure WI,[.pure wd,.pure gg]))
  (hc:GC [.pure ru,.pure tt,.pure gg,.pure HI,.pure WI]=some (.own RR,[.pure ru,.pure tt,.pure gg,.pure HI,.pure WI])) (hn:GN [.pure ru,.pure tt,.pure gg]=some (.own RR,[.pure ru,.pure tt,.pure gg])) (ha:GA [.pure RR,.pure RR]=some (.pure (.bl true),[.pure RR,.pure RR])) (K:DS) :
  ay (F1 GP) (ay (F2 GP) (ay (F3 GA GC GN) K)) (dm ru tt gg pd none none none none none none none none)=K (dm ru tt gg pd (pS HI) (pS WI) none none none none none none):=by
 rw[bV (δ1:=dm ru tt gg pd (pS HI) none none none none none none none) (by simp[au,aw,ba,bA,bt,bw,bo,aQ,ag,aX,ao,aa,x0,p0])];rw[bV (δ1:=dm ru tt gg pd (pS HI) (pS WI) none none none none none none) (by simp[au,aw,ba,bA,bt,bw,bo,aQ,ag,aX,ao,aa,x1,p1])];rw[bV (δ1:=dm ru tt gg pd (pS HI) (pS WI) none none none none none none) (by simp[aV,aw,ba,bA,bt,bw,bo,aQ,aa,hc,hn,ha,S.d])]
abbrev F4(GD:DF):DS:=(au (aw GD [.io 3,.val (aM aN (ag aq 0 (aj (eD (.int 0)))) (aj (eD (.int 1))))]) (af [3] 6))
abbrev F5(GD:DF):DS:=(au (aw GD [.io 3,.val (aM aN (ag aq 0 (aj (eD (.int 1)))) (aj (eD (.int 1))))]) (af [3] 7))
abbrev F6(GE:DF):DS:=(au (aw GE [.val (aa 0),.val (aa 1),.val (aa 2),.val (aa 6),.val (aa 7)]) (af [3] 8))
abbrev F7(GC:DF):DS:=(au (aw GC [.val (aa 0),.val (aa 1),.val (aa 2),.val (aM gi (ag h_ 6 (ao 4)) (aj (ag aq 0 (aj (eD (.int 0)))))),.val (aM gi (ag h_ 7 (ao 5)) (aj (ag aq 0 (aj (eD (.int 1))))))]) (af [3] 9))
abbrev F8(GA:DF):DS:=(da (fg (aV (aw GA [.val (aa 9),.val (aa 8)]))) (bM (eD (.bl false))) cV)
theorem VE(GD GE GC GA:DF)(ru tt gg pd dA cm hd wd H1 W1 HI WI dn al DH AW DR AR RR:D)(x0:aq ru (.int 0)=pS hd)(x1:aq ru (.int 1)=pS wd)(a0:aN hd (.int 1)=pS H1)(a1:aN wd (.int 1)=pS W1)
  (d1:GD [.own pd,.pure H1]=some (.pure dn,[.own dA,.pure H1])) (d2:GD [.own dA,.pure W1]=some (.pure al,[.own cm,.pure W1])) (he:GE [.pure ru,.pure tt,.pure gg,.pure dn,.pure al]=some (.own RR,[.pure ru,.pure tt,.pure gg,.pure dn,.pure al]))
  (m0:h_ dn HI=pS DH) (m1:h_ al WI=pS AW) (v0:gi DH hd=pS DR) (v1:gi AW wd=pS AR) (hc:GC [.pure ru,.pure tt,.pure gg,.pure DR,.pure AR]=some (.own RR,[.pure ru,.pure tt,.pure gg,.pure DR,.pure AR])) (ha:GA [.pure RR,.pure RR]=some (.pure (.bl true),[.pure RR,.pure RR])) (K:DS) :
  ay (F4 GD) (ay (F5 GD) (ay (F6 GE) (ay (F7 GC) (ay (F8 GA) K)))) (dm ru tt gg pd (pS HI) (pS WI) none none none none none none)=K (dm ru tt gg cm (pS HI) (pS WI) (pS dn) (pS al) (pS RR) (pS RR) none none):=by
 rw[bV (δ1:=dm ru tt gg dA (pS HI) (pS WI) (pS dn) none none none none none) (by simp[au,aw,ba,bA,bt,bw,bo,aQ,ag,aX,ao,aa,x0,a0,d1])];rw[bV (δ1:=dm ru tt gg cm (pS HI) (pS WI) (pS dn) (pS al) none none none none) (by simp[au,aw,ba,bA,bt,bw,bo,aQ,ag,aX,ao,aa,x1,a1,d2])];rw[bV (δ1:=dm ru tt gg cm (pS HI) (pS WI) (pS dn) (pS al) (pO RR) none none none) (by simp[au,aw,ba,bA,bt,bw,bo,aQ,aa,he])];rw[bV (δ1:=dm ru tt gg cm (pS HI) (pS WI) (pS dn) (pS al) (pO RR) (pO RR) none none) (by simp[au,aw,ba,bA,bt,bw,bo,aQ,ag,aX,ao,aa,x0,x1,m0,m1,v0,v1,hc])];rw[bV (δ1:=dm ru tt gg cm (pS HI) (pS WI) (pS dn) (pS al) (pS RR) (pS RR) none none) (by simp[aV,aw,ba,bA,bt,bw,bo,aQ,aa,ha,S.d])]
abbrev F9(GD:DF):DS:=(au (aw GD [.io 3,.val (ag aN 4 (aj (eD (.int 1))))]) (af [3] 10))
abbrev rY(GD:DF):DS:=(au (aw GD [.io 3,.val (ag aN 5 (aj (eD (.int 1))))]) (af [3] 11))
abbrev rZ(GC:DF):DS:=(au (aw GC [.val (aa 0),.val (aa 1),.val (aa 2),.val (aa 10),.val (aa 11)]) (af [3] 9))
abbrev r8:DS:=(da (aV (aM hU (bh lb (aj (cq [12] (cA (aa 9)) (af [3] 12) bj (ag aq 12 (aj (eD (.int 1))))))) (aj (ag h_ 10 (ao 11))))) (bM (eD (.bl false))) cV)
abbrev r9(GC:DF):DS:=(bM (aM cn (aw GC [.val (aa 0),.val (aa 1),.val (aa 2),.val (aa 10),.val (aa 11)]) (ao 9)))
theorem VF(GD GC:DF)(ru tt gg pd dA cm HI WI H1 W1 rd cd dn al QQ PP:D)(RR CC:List D)(a0:aN HI (.int 1)=pS H1)(a1:aN WI (.int 1)=pS W1)(d1:GD [.own pd,.pure H1]=some (.pure rd,[.own dA,.pure H1]))(d2:GD [.own dA,.pure W1]=some (.pure cd,[.own cm,.pure W1]))
  (hc:GC [.pure ru,.pure tt,.pure gg,.pure rd,.pure cd]=some (.own (.lst RR),[.pure ru,.pure tt,.pure gg,.pure rd,.pure cd])) (hk:cp [12] (af [3] 12) bj (ag aq 12 (aj (eD (.int 1)))) RR (dm ru tt gg cm (pS HI) (pS WI) (pS dn) (pS al) (pS QQ) (pS (.lst RR)) (pS rd) (pS cd)) [] = .ok CC (dm ru tt gg cm (pS HI) (pS WI) (pS dn) (pS al) (pS QQ) (pS (.lst RR)) (pS rd) (pS cd)))
  (hs:lb (.lst CC)=pS PP) (hm:h_ rd cd=pS PP) (cx:hU PP PP=pS (.bl false)) (heq:cn (.lst RR) (.lst RR)=pS (.bl true)) :
  ay (F9 GD) (ay (rY GD) (ay (rZ GC) (ay r8 (r9 GC)))) (dm ru tt gg pd (pS HI) (pS WI) (pS dn) (pS al) (pS QQ) (pS QQ) none none) = .ok (.ret (.pure (.bl true))) (dm ru tt gg cm (pS HI) (pS WI) (pS dn) (pS al) (pS QQ) (pS (.lst RR)) (pS rd) (pS cd)):=by
 rw[bV (δ1:=dm ru tt gg dA (pS HI) (pS WI) (pS dn) (pS al) (pS QQ) (pS QQ) (pS rd) none) (by simp[au,aw,ba,bA,bt,bw,bo,aQ,ag,aX,ao,aa,a0,d1])];rw[bV (δ1:=dm ru tt gg cm (pS HI) (pS WI) (pS dn) (pS al) (pS QQ) (pS QQ) (pS rd) (pS cd)) (by simp[au,aw,ba,bA,bt,bw,bo,aQ,ag,aX,ao,aa,a1,d2])];rw[bV (δ1:=dm ru tt gg cm (pS HI) (pS WI) (pS dn) (pS al) (pS QQ) (pO (.lst RR)) (pS rd) (pS cd)) (by simp[au,aw,ba,bA,bt,bw,bo,aQ,aa,hc])];rw[bV (δ1:=dm ru tt gg cm (pS HI) (pS WI) (pS dn) (pS al) (pS QQ) (pS (.lst RR)) (pS rd) (pS cd)) (by
  unfold dm at hk ⊢;simp[aV,gX,aa,bt,bC];rw[hk];simp[cW,hs,ag,aX,ao,hm,cx])]
 simp[aw,ba,bA,bt,bw,bo,aQ,aa,ao,hc,heq,S.d]
theorem VG(bs:List (Nat×List Tx))(v:Nat->Nat):lb (.lst (bs.map λb=>D.int ((v b.1:Nat):Int)))=pS (.int ((sm (bs.map (·.1)) v:Nat):Int)):=by
 have e:(bs.map λb=>D.int ((v b.1:Nat):Int))=(bs.map λb=>((v b.1:Nat):Int)).map D.int:=by rw[WS]; rfl
 have s:(bs.map λb=>((v b.1:Nat):Int)).sum=((sm (bs.map (·.1)) v:Nat):Int):=by
  clear e;induction bs with
  | nil=>rfl
  | cons t r ih=>rw[Wk,List.sum_cons,ih,Wk,iQ]; omega
 unfold lb;simp only[e,DV.ints_map,s]
theorem VH(hn:bs.length<=26)(v:Nat->Nat)(ru tt gg pd:D)(o4 o5 o6 o7 o8 o9 bS fc:Option S):cp [12] (af [3] 12) bj (ag aq 12 (aj (eD (.int 1)))) (res bs v) (dm ru tt gg pd o4 o5 o6 o7 o8 o9 bS fc) [] = .ok (bs.map λb=>D.int ((v b.1:Nat):Int)) (dm ru tt gg pd o4 o5 o6 o7 o8 o9 bS fc):=by
 have:=iL (cs:=[12]) (g:=af [3] 12) (t:=bj) (el:=ag aq 12 (aj (eD (.int 1)))) (λb:Nat×List Tx=>D.tup [.str [b.1],.int ((v b.1:Nat):Int)]) (λb=>D.int ((v b.1:Nat):Int)) (dm ru tt gg pd o4 o5 o6 o7 o8 o9 bS fc) bs [] (by rw[eF]; simp; omega) (λb hb=>by
  have q:aq (.tup [.str [b.1],.int ((v b.1:Nat):Int)]) (.int 1)=pS (.int ((v b.1:Nat):Int)):=by simp[aq,cD,dO]
  refine⟨[pS ru,pS tt,pS gg,pO pd,o4,o5,o6,o7,o8,o9,bS,fc,pS (.tup [.str [b.1],.int ((v b.1:Nat):Int)])],_,.pure (.int ((v b.1:Nat):Int)),[pS ru,pS tt,pS gg,pO pd,o4,o5,o6,o7,o8,o9,bS,fc,pS (.tup [.str [b.1],.int ((v b.1:Nat):Int)])],rfl,rfl,?_,rfl,rfl⟩;simp[ag,aX,ao,q])
 unfold res;rw[this];rfl
theorem VI(GP GA GC GN GD GE:DF)(ru tt gg pd dA cm kF iR hd wd HI WI oC H1 W1 dn al DH AW DR AR QQ H2 W2 rd cd PP:D)(RR CC:List D)(x0:aq ru (.int 0)=pS hd)(x1:aq ru (.int 1)=pS wd)(p0:GP [.pure hd,.pure gg]=some (.pure HI,[.pure hd,.pure gg]))(p1:GP [.pure wd,.pure gg]=some (.pure WI,[.pure wd,.pure gg]))
  (vf:GC [.pure ru,.pure tt,.pure gg,.pure HI,.pure WI]=some (.own oC,[.pure ru,.pure tt,.pure gg,.pure HI,.pure WI])) (hn:GN [.pure ru,.pure tt,.pure gg]=some (.own oC,[.pure ru,.pure tt,.pure gg])) (Af:GA [.pure oC,.pure oC]=some (.pure (.bl true),[.pure oC,.pure oC]))
  (a0:aN hd (.int 1)=pS H1) (a1:aN wd (.int 1)=pS W1)
  (d1:GD [.own pd,.pure H1]=some (.pure dn,[.own dA,.pure H1])) (d2:GD [.own dA,.pure W1]=some (.pure al,[.own cm,.pure W1])) (he:GE [.pure ru,.pure tt,.pure gg,.pure dn,.pure al]=some (.own QQ,[.pure ru,.pure tt,.pure gg,.pure dn,.pure al]))
  (m0:h_ dn HI=pS DH) (m1:h_ al WI=pS AW) (v0:gi DH hd=pS DR) (v1:gi AW wd=pS AR) (pq:GC [.pure ru,.pure tt,.pure gg,.pure DR,.pure AR]=some (.own QQ,[.pure ru,.pure tt,.pure gg,.pure DR,.pure AR])) (n5:GA [.pure QQ,.pure QQ]=some (.pure (.bl true),[.pure QQ,.pure QQ]))
  (b0:aN HI (.int 1)=pS H2) (b1:aN WI (.int 1)=pS W2) (d3:GD [.own cm,.pure H2]=some (.pure rd,[.own kF,.pure H2])) (d4:GD [.own kF,.pure W2]=some (.pure cd,[.own iR,.pure W2]))
  (hc:GC [.pure ru,.pure tt,.pure gg,.pure rd,.pure cd]=some (.own (.lst RR),[.pure ru,.pure tt,.pure gg,.pure rd,.pure cd])) (hk:cp [12] (af [3] 12) bj (ag aq 12 (aj (eD (.int 1)))) RR (dm ru tt gg iR (pS HI) (pS WI) (pS dn) (pS al) (pS QQ) (pS (.lst RR)) (pS rd) (pS cd)) [] = .ok CC (dm ru tt gg iR (pS HI) (pS WI) (pS dn) (pS al) (pS QQ) (pS (.lst RR)) (pS rd) (pS cd)))
  (hs:lb (.lst CC)=pS PP) (hm:h_ rd cd=pS PP) (cx:hU PP PP=pS (.bl false)) (heq:cn (.lst RR) (.lst RR)=pS (.bl true)) :
  (ay (F1 GP) (ay (F2 GP) (ay (F3 GA GC GN) (ay (F4 GD) (ay (F5 GD) (ay (F6 GE) (ay (F7 GC) (ay (F8 GA) (ay (F9 GD) (ay (rY GD) (ay (rZ GC) (ay r8 (r9 GC))))))))))))) (dm ru tt gg pd none none none none none none none none) = .ok (.ret (.pure (.bl true))) (dm ru tt gg iR (pS HI) (pS WI) (pS dn) (pS al) (pS QQ) (pS (.lst RR)) (pS rd) (pS cd)):=by
 rw[VD GP GA GC GN ru tt gg pd hd wd HI WI oC x0 x1 p0 p1 vf hn Af,VE GD GE GC GA ru tt gg pd dA cm hd wd H1 W1 HI WI dn al DH AW DR AR QQ x0 x1 a0 a1 d1 d2 he m0 m1 v0 v1 pq n5];exact VF GD GC ru tt gg cm kF iR HI WI H2 W2 rd cd dn al QQ PP RR CC b0 b1 d3 d4 hc hk hs hm cx heq
theorem vg(hh:h<=4)(hn:n<=60):h ^ n < 2 ^ 200:=by
 have h1:h ^ n<=4 ^ 60:=WA (QZ hh n) (Qr (by decide) hn);have h2:(4 ^ 60:Nat) < 2 ^ 200:=by decide
 omega
theorem HA(hh:h<=4)(hn:n<=60):((h ^ n + 1:Nat):Int) < iI:=by
 have h1:h ^ n<=4 ^ 60:=WA (QZ hh n) (Qr (by decide) hn);have h2:((4 ^ 60 + 1:Nat):Int) < iI:=by decide +kernel
 omega
theorem HB(hp:dw d)(m:Nat)(i:Int)(hi:i=m)(h0:0 < m)(h1:(m:Int) < iI):∃ (r:Nat) (d':D),b_ [.own d,.pure (.int i)]=some (.pure (.int r),[.own d',.pure (.int i)])/\r < m/\dw d':=by
 subst hi;exact GB hp m h0 h1
theorem VJ(Ru:bF h w bs)(ht:t ∈ bs.map (·.1))(m:Nat)(hm:m < 60)(fN:dw pd) :
  ∃ cY,dw cY/\kC [.pure (az h w bs),.pure (.str [t]),.pure (.int ((m + 1:Nat):Int)),.own pd]=some (.pure (.bl true),[.pure (az h w bs),.pure (.str [t]),.pure (.int ((m + 1:Nat):Int)),.own cY]):=by
 have h0:=Ru.h0;have w0:=Ru.w0;have h1:=Ru.h1;have w1:=Ru.w1;have x0:=(fY h w bs).1;have x1:=(fY h w bs).2.1;have p0:=Ac h (m + 1) (by omega) (by omega);have p1:=Ac w (m + 1) (by omega) (by omega);have vf:=vd Ru ht (m + 1) (h ^ (m + 1)) (w ^ (m + 1)) (by omega) (Wh _) (Wh _);have VL:cy h bs (m + 1) t (h ^ (m + 1)) (w ^ (m + 1))=vec bs t (m + 1):=funext λy=>Gi Ru ht (m + 1) y
 rw[VL] at vf;have hn:=G6 (t0:=t) (g:=m + 1) Ru (by omega);have Af:=Ae Ru.n1 (vec bs t (m + 1));obtain⟨dn,dA,d1,hdn,q1⟩:=ie fN (h + 1) ((h:Nat) + 1:Int) (by omega) (by omega) (by omega);obtain⟨al,cm,d2,qN,q2⟩:=ie q1 (w + 1) ((w:Nat) + 1:Int) (by omega) (by omega) (by omega);have he:=Vy Ru ht m dn al (by omega);have m0:=xQ (a:=dn) (b:=h ^ (m + 1)) (k:=200) (Ww (by omega:dn < 2 ^ 10) (Qr (by decide) (by decide))) (vg h1 (by omega)) (by decide);have m1:=xQ (a:=al) (b:=w ^ (m + 1)) (k:=200) (Ww (by omega:al < 2 ^ 10) (Qr (by decide) (by decide))) (vg w1 (by omega)) (by decide);have v0:=vc (dn * h ^ (m + 1)) h h0 (by omega);have v1:=vc (al * w ^ (m + 1)) w w0 (by omega);have e0:dn * h ^ (m + 1) / h=dn * h ^ m:=by rw[Q9,<- JE,U6 _ h0]
 have e1:al * w ^ (m + 1) / w=al * w ^ m:=by rw[Q9,<- JE,U6 _ w0]
 rw[e0] at v0;rw[e1] at v1;have pq:=vd Ru ht (m + 1) (dn * h ^ m) (al * w ^ m) (by omega) (by rw[Q9,QJ]; exact Nat.mul_le_mul_left _ (by omega)) (by rw[Q9,QJ]; exact Nat.mul_le_mul_left _ (by omega));have n5:=Ae Ru.n1 (cy h bs (m + 1) t (dn * h ^ m) (al * w ^ m));obtain⟨R,kF,d3,hR,q3⟩:=HB q2 (h ^ (m + 1) + 1) (((h ^ (m + 1):Nat):Int) + 1) (by omega) (by omega) (HA h1 (by omega));obtain⟨C,iR,d4,hC,q4⟩:=HB q3 (w ^ (m + 1) + 1) (((w ^ (m + 1):Nat):Int) + 1) (by omega) (by omega) (HA w1 (by omega));have Ag:R<=h ^ (m + 1):=by omega
 have Ah:C<=w ^ (m + 1):=by omega
 have hc:=vd Ru ht (m + 1) R C (by omega) Ag Ah;have hs:=VG bs (cy h bs (m + 1) t R C);have eS:sm (bs.map (·.1)) (cy h bs (m + 1) t R C)=R * C:=TY Ru ht (m + 1) R C Ag Ah;rw[eS] at hs;have VM:=xQ (a:=R) (b:=C) (k:=200) (Ja Ag (vg h1 (by omega))) (Ja Ah (vg w1 (by omega))) (by decide);have cx:hU (.int ((R * C:Nat):Int)) (.int ((R * C:Nat):Int))=pS (.bl false):=by rw[Uw]; simp
 have heq:=(Hu bs (cy h bs (m + 1) t R C)).2;refine⟨iR,q4,?_⟩;rw[kC,zi];exact Hz (VI gT ic gu iP b_ mR (az h w bs) (.str [t]) (.int ((m + 1:Nat):Int)) pd dA cm kF iR _ _ _ _ _ _ _ _ _ _ _ _ _ _ _ _ _ _ _ _ _ x0 x1 p0 p1 vf hn Af (add_int _ _) (add_int _ _) d1 d2 he m0 m1 v0 v1 pq n5 (add_int _ _) (add_int _ _) d3 d4 hc
  (VH Ru.n1 (cy h bs (m + 1) t R C) _ _ _ _ _ _ _ _ _ _ _ _) hs VM cx heq)
theorem VN(h1:t δ = .ok true δ1)(h2:b δ1 = .ok .next δ2):gm t b (n + 1) δ=gm t b n δ2:=by
 simp only[gm,h1,h9,if_true,h2]
theorem VO(h1:t δ = .ok false δ1):gm t b (n + 1) δ = .ok .next δ1:=by
 simp[gm,h1]
abbrev s6(cg:D)(a1 a2 a3 a4 a5:Option S):Dl:=[pS cg,a1,a2,a3,a4,a5]
abbrev wT(GP:DF):DT:=(aV (aM i3 (aw GP [.val (aM c8 (ag aq 3 (aj (eD (.int 0)))) (aj (ag aq 3 (aj (eD (.int 1)))))),.val (ag aN 5 (aj (eD (.int 1))))]) (aj (eD (.int 300)))))
abbrev wB:DS:=(au (ag aN 5 (aj (eD (.int 1)))) (af [] 5))
theorem VP(GP:DF)(cg ru hd wd hw gg g1 P:D)(b:Bool)(a1 a2 a4:Option S)(x0:aq ru (.int 0)=pS hd)(x1:aq ru (.int 1)=pS wd)(hm:c8 hd wd=pS hw)(ha:aN gg (.int 1)=pS g1)(hp:GP [.pure hw,.pure g1]=some (.pure P,[.pure hw,.pure g1]))(hl:i3 P (.int 300)=pS (.bl b)) :
  wT GP (s6 cg a1 a2 (pS ru) a4 (pS gg)) = .ok b (s6 cg a1 a2 (pS ru) a4 (pS gg)):=by
 simp[wT,aV,aw,ba,bA,bw,bo,aQ,ag,aX,ao,x0,x1,hm,ha,hp,hl]
theorem HC(a b:Nat):aN (.int (a:Nat)) (.int (b:Nat))=pS (.int ((a + b:Nat):Int)):=by
 rw[add_int];congr 1
theorem HD(Ru:bF h w bs)(cg:D)(a1 a2 a4:Option S):∀ (f k:Nat),k + f=10->(h * w) ^ k<=300->∃ k',k'<=9/\(h * w) ^ k'<=300/\gm (wT gT) wB (f + 999990) (s6 cg a1 a2 (pS (az h w bs)) a4 (pS (.int (k:Nat)))) = .ok .next (s6 cg a1 a2 (pS (az h w bs)) a4 (pS (.int (k':Nat))))
 | 0,k,e,hk=>by
  exfalso
  have h2:2<=h * w:=by
   have:=Ru.hw;have:=Ru.h0;have:=Ru.w0;by_cases h1:h=1
   ·rw[h1]; omega
   ·exact WA (by omega:2<=h) (JD h (by omega))
  have:=QZ h2 k;rw[show k=10 by omega] at this hk;omega
 | f + 1,k,e,hk=>by
  have h2:2<=h * w:=by
   have:=Ru.hw;have:=Ru.h0;have:=Ru.w0;by_cases h1:h=1
   ·rw[h1]; omega
   ·exact WA (by omega:2<=h) (JD h (by omega))
  have hb:h * w<=4 * 4:=U9 Ru.h1 Ru.w1;have x0:=(fY h w bs).1;have x1:=(fY h w bs).2.1;have hm:=Ab h w (by have:=Ru.w1; omega);have ha:aN (.int (k:Nat)) (.int 1)=pS (.int ((k + 1:Nat):Int)):=HC k 1;have hp:=Ac (h * w) (k + 1) (by omega) (by omega);have hl:i3 (.int (((h * w) ^ (k + 1):Nat):Int)) (.int 300)=pS (.bl (decide ((h * w) ^ (k + 1)<=300))):=by
   generalize (h * w) ^ (k + 1)=P;exact Aa P 300
  have ht:=VP gT cg (az h w bs) _ _ _ _ _ _ _ a1 a2 a4 x0 x1 hm ha hp hl;by_cases hc:(h * w) ^ (k + 1)<=300
  ·rw[decide_eq_true hc] at ht;have VQ:wB (s6 cg a1 a2 (pS (az h w bs)) a4 (pS (.int (k:Nat)))) = .ok .next (s6 cg a1 a2 (pS (az h w bs)) a4 (pS (.int ((k + 1:Nat):Int)))):=by
    generalize az h w bs=ru at *;generalize ((k + 1:Nat):Int)=k1 at *;simp[wB,au,ag,aX,ao,ha]
   obtain⟨k',h1,h2,ih⟩:=HD Ru cg a1 a2 a4 f (k + 1) (by omega) hc;refine⟨k',h1,h2,?_⟩;rw[show f + 1 + 999990=f + 999990 + 1 by omega,VN ht VQ];exact ih
  ·rw[decide_eq_false hc] at ht;refine⟨k,by omega,hk,?_⟩;rw[show f + 1 + 999990=f + 999990 + 1 by omega,VO ht]
abbrev z0(G:DF):DS:=(au (aw G [.val (aa 1)]) (af [] 2))
abbrev z1(G:DF):DS:=(au (aw G [.io 2,.val (eD (.int 5))]) (af [] 3))
abbrev z2(GD:DF):DS:=(au (aM aq (aM aq (ag aq 3 (aj (eD (.int 2)))) (aj (aw GD [.io 2,.val (bh cb (aj (ag aq 3 (aj (eD (.int 2))))))]))) (aj (eD (.int 0)))) (af [] 4))
abbrev z3:DS:=(au (eD (.int 0)) (af [] 5))
abbrev z5(GL GD:DF):DS:=(da (fg (aV (aw GL [.val (aa 3),.val (aa 4),.val (aw GD [.io 2,.val (ag aN 5 (aj (eD (.int 1))))]),.io 2]))) (bM (eD (.bl false))) cV)
abbrev z6(GF GD:DF):DS:=(da (fg (aV (aw GF [.val (aa 3),.val (aa 4),.val (aM aN (eD (.int 1)) (aj (aw GD [.io 2,.val (aM aq (fV [.int 8,.int 60]) (aj (aw GD [.io 2,.val (eD (.int 2))])))]))),.io 2]))) (bM (eD (.bl false))) cV)
theorem VR(G0 G1 GD:DF)(cg c pd dA cm ru bd L r bl tt:D)(o2 o3 o4 o5:Option S)(g0:G0 [.pure c]=some (.own pd,[.pure c]))(g1:G1 [.own pd,.pure (.int 5)]=some (.pure ru,[.own dA,.pure (.int 5)]))(x2:aq ru (.int 2)=pS bd)(hl:cb bd=pS L)(gd:GD [.own dA,.pure L]=some (.pure r,[.own cm,.pure L]))(hx:aq bd r=pS bl)(Ai:aq bl (.int 0)=pS tt)(K:DS) :
  ay (z0 G0) (ay (z1 G1) (ay (z2 GD) (ay z3 K))) (s6 cg (pS c) o2 o3 o4 o5)=K (s6 cg (pS c) (pO cm) (pS ru) (pS tt) (pS (.int 0))):=by
 rw[bV (δ1:=s6 cg (pS c) (pO pd) o3 o4 o5) (by simp[au,aw,ba,bA,bt,bw,bo,aQ,aa,g0])];rw[bV (δ1:=s6 cg (pS c) (pO dA) (pS ru) o4 o5) (by simp[au,aw,ba,bA,bt,bw,bo,aQ,aa,g1])];rw[bV (δ1:=s6 cg (pS c) (pO cm) (pS ru) (pS tt) o5) (by simp[au,aw,ba,bA,bt,bw,bo,aQ,ag,aX,ao,x2,hl,gd,hx,Ai])];rw[bV (δ1:=s6 cg (pS c) (pO cm) (pS ru) (pS tt) (pS (.int 0))) (by simp[au])]
theorem VS(GL GF GD:DF)(cg ru tt gg G1 n pd dA cm kF iR vh e b m m1:D)(a1:Option S)(ha:aN gg (.int 1)=pS G1)(d1:GD [.own pd,.pure G1]=some (.pure n,[.own dA,.pure G1]))(hl:GL [.pure ru,.pure tt,.pure n,.own dA]=some (.pure (.bl true),[.pure ru,.pure tt,.pure n,.own cm]))
  (d2:GD [.own cm,.pure (.int 2)]=some (.pure e,[.own kF,.pure (.int 2)])) (hx:aq (.lst [.int 8,.int 60]) e=pS b) (d3:GD [.own kF,.pure b]=some (.pure m,[.own iR,.pure b])) (hb:aN (.int 1) m=pS m1) (hf:GF [.pure ru,.pure tt,.pure m1,.own iR]=some (.pure (.bl true),[.pure ru,.pure tt,.pure m1,.own vh])) :
  ay (z5 GL GD) (z6 GF GD) (s6 cg a1 (pO pd) (pS ru) (pS tt) (pS gg)) = .ok .next (s6 cg a1 (pO vh) (pS ru) (pS tt) (pS gg)):=by
 rw[bV (δ1:=s6 cg a1 (pO cm) (pS ru) (pS tt) (pS gg)) (by simp[aV,aw,ba,bA,bt,bw,bo,aQ,ag,aX,ao,aa,ha,d1,hl])];simp[aV,aw,ba,bA,bt,bw,bo,aQ,ag,aX,ao,aa,fV,d2,hx,d3,hb,hf,S.d]
theorem VT(cg:D)(c:Int)(o2 o3 o4 o5:Option S):∃ q2 q3 q4 q5,(ay (z0 kq) (ay (z1 kr) (ay (z2 b_) (ay z3 (ay (gm (wT gT) wB 1000000) (ay (z5 kA b_) (z6 kC b_))))))) (s6 cg (pS (.int c)) o2 o3 o4 o5) = .ok .next (s6 cg (pS (.int c)) q2 q3 q4 q5):=by
 obtain⟨pd,e0,hp⟩:=T1 c;obtain⟨h,w,bs,dA,e1,Ru,hbl,p1⟩:=Ur hp 5 (by decide) (by decide);have x2:=(fY h w bs).2.2;have hlen:cb (.tup (bs.map bY))=pS (.int (bs.length:Nat)):=by rw[z9,Wx]
 obtain⟨r,cm,e2,hr,p2⟩:=pQ p1 bs.length Ru.n0 (by have:=Ru.n1; omega);have hx:aq (.tup (bs.map bY)) (.int (r:Nat))=pS (bY (bs[r]'hr)):=by
  show(cD (bs.map bY) (r:Nat)).map S.pure=_;rw[i_];simp[hr]
 have Ai:aq (bY (bs[r]'hr)) (.int 0)=pS (.str [(bs[r]'hr).1]):=by simp[aq,cD,dO]
 have ht:(bs[r]'hr).1 ∈ bs.map (·.1):=Qw (J4 hr);generalize (bs[r]'hr).1=t at *;generalize bY (bs[r]'hr)=bl at *;obtain⟨k,hk9,hk,wh⟩:=HD Ru cg (pS (.int c)) (pO cm) (pS (.str [t])) 10 0 rfl (by simp);obtain⟨n,kF,e3,hn,p3⟩:=ie p2 (k + 1) ((k + 1:Nat):Int) rfl (by omega) (by omega);have VU:(h * w) ^ n<=300:=WA (Qr (Nat.mul_pos Ru.h0 Ru.w0) (by omega)) hk;obtain⟨iR,p4,e4⟩:=VC Ru ht n (by omega) VU p3;obtain⟨e,vh,e5,he,p5⟩:=ie p4 2 2 rfl (by decide) (by decide);have hb:∃ b:Nat,0 < b/\b<=60/\aq (.lst [.int 8,.int 60]) (.int (e:Nat))=pS (.int (b:Nat)):=by
  match e,he with
  | 0,_=>exact⟨8,by decide,by decide,by simp[aq,pF]⟩
  | 1,_=>exact⟨60,by decide,by decide,by simp[aq,rJ]⟩
 obtain⟨b,hb0,hb1,hbx⟩:=hb;obtain⟨m,pd6,e6,hm,p6⟩:=pQ p5 b hb0 (by omega);obtain⟨pd7,p7,e7⟩:=VJ Ru ht m (by omega) p6;have a1:aN (.int 1) (.int (m:Nat))=pS (.int ((m + 1:Nat):Int)):=by
  rw[add_int,show(1:Int) + (m:Nat)=((m + 1:Nat):Int) by omega]
 refine⟨pO pd7,pS (az h w bs),pS (.str [t]),pS (.int (k:Nat)),?_⟩;rw[VR kq kr b_ cg (.int c) pd dA cm (az h w bs) _ _ _ bl (.str [t]) o2 o3 o4 o5 e0 e1 x2 hlen e2 hx Ai];refine(bV wh).trans ?_;exact VS kA kC b_ cg (az h w bs) (.str [t]) (.int (k:Nat)) _ _ cm kF iR vh pd6 pd7 _ _ _ _ _ (HC k 1) e3 e4 e5 hbx e6 a1 e7
theorem VW(GC:DF)(B:DS)(cg:D)(cs:List D)(cl c0:D)(e0:GC [.pure cg,.pure (.int 0)]=some (.pure c0,[.pure cg,.pure (.int 0)]))(hs:gO (some 1) (some 3) cg=pO cl)(ha:aN (.lst [c0]) cl=pO (.lst cs))(o1 o2 o3 o4 o5:Option S)(e:forL (af [] 1) B cs (s6 cg none none none none none) = .ok .next (s6 cg o1 o2 o3 o4 o5)) :
  (ay (cF (cA (aM aN (jA (bH (aw GC [.val (aa 0),.val (eD (.int 0))]) cU)) (aj (gj 0 (eU (eD (.int 1))) (eU (eD (.int 3))))))) (af [] 1) B) (bM (eD (.bl true)))) (s6 cg none none none none none) = .ok (.ret (.pure (.bl true))) (s6 cg o1 o2 o3 o4 o5):=by
 have qi:cA (aM aN (jA (bH (aw GC [.val (aa 0),.val (eD (.int 0))]) cU)) (aj (gj 0 (eU (eD (.int 1))) (eU (eD (.int 3)))))) (s6 cg none none none none none) = .ok cs (s6 cg none none none none none):=by
  simp[gX,aw,ba,bA,bw,aa,bo,e0,aQ,gj,eU,ao,hs,ha]
 refine(bV ((kD qi).trans e)).trans ?_;rfl
theorem VX(ns:List Int)(hn:ns.length<=63):∃ bc,pN [.pure (.lst (ns.map .int))]=some (.pure (.bl true),bc):=by
 obtain⟨c0,e0⟩:=T5 ns;have VY:∀ (ns:List Int) (lo hi:Option Int),c_ (ns.map D.int) lo hi=(c_ ns lo hi).map D.int:=λns lo hi=>by
  unfold c_;simp[List.map_take,List.map_drop]
 have ha:aN (.lst [.int c0]) (.lst (c_ (ns.map .int) (some 1) (some 3)))=pO (.lst ((c0 :: c_ ns (some 1) (some 3)).map .int)):=by
  rw[VY];have hl:(c_ ns (some 1) (some 3)).length<=63:=by
   unfold c_;simp;omega
  simp only[aN];rw[if_pos (by rw[eF]; simp; omega)];simp
 have hs:gO (some 1) (some 3) (.lst (ns.map .int))=pO (.lst (c_ (ns.map .int) (some 1) (some 3))):=rfl;generalize D.lst (ns.map .int)=cg at *;obtain⟨δ',e,o1,o2,o3,o4,o5,rfl⟩:=kj (g:=af [] 1) (b:=(ay (z0 kq) (ay (z1 kr) (ay (z2 b_) (ay z3 (ay (gm (wT gT) wB 1000000) (ay (z5 kA b_) (z6 kC b_))))))))
  (λ_ δ=>∃ o1 o2 o3 o4 o5,δ=s6 cg o1 o2 o3 o4 o5) ((c0 :: c_ ns (some 1) (some 3)).map .int) 0 (s6 cg none none none none none) ⟨_,_,_,_,_,rfl⟩ (λi d δ hd ⟨o1,o2,o3,o4,o5,e⟩=>by
   subst e;simp only[Wv,WH] at hd;obtain⟨k,_,rfl⟩:=hd;obtain⟨q2,q3,q4,q5,e⟩:=VT cg k o2 o3 o4 o5;exact⟨_,_,rfl,e,_,_,_,_,_,rfl⟩)
 refine⟨[.pure cg],?_⟩;rw[pN,zk];exact GQ (VW mI _ cg _ _ _ e0 hs ha o1 o2 o3 o4 o5 e)
end K18
open PySem PySem.W PyProof.Rows
namespace PySem.W.Fast
def tw7555457401916547445:=0
def tw10135216955927746051:=0
def tw5921436140895102114:=0
def tw14456687618256327509:=0
def tw10262005116113717561:=0
def tw12043533433541987840:=0
def tw11572308515585543998:=0
def tw17074985844541099631:=0
def tw1542149681479228964:=0
def tw17015705083407908586:=0
def tw1826369586970992946:=0
def tw9931866436758370949:=0
def tw6483329168802724103:=0
def tw9744377872185391800:=0
def tw18195321903371977146:=0
def tw12974378898639813910:=0
def tw18089653998841569475:=0
def tw8742902089739804027:=0
def tw1888086656038605167:=0
def tw8052743273582802006:=0
def tw1639431812260257904:=0
def tw12260646753230899246:=0
def tw16116153334759404702:=0
def tw13465774430162085238:=0
def tw9827814290864789914:=0
def tw13560036085952074528:=0
end PySem.W.Fast
set_option maxRecDepth 100000 in
set_option maxHeartbeats 0 in
theorem PySem.Challenge.cw_tilegrow_k18_first_rows_and_columns_holds : PySem.Challenge.rw_tilegrow_k18_first_rows_and_columns.Holds := by
 w_on; o_law; k_head; (case hw=>w_witness2)
 k_fill
 refine DV.NZ (l:=PySem.Challenge.rw_tilegrow_k18_first_rows_and_columns) (k:=5) (G:=K18.pN) rfl rfl ⟨rfl,by decide,by decide⟩ (λw h Y=>PySem.W.kIn_of Y) ?L K18.VX ?F
 case L=>intro p; exact Eq.refl true
 case F =>
  intro w mg fa h KX G qr;refine' K18.all_mk KX G qr ?d0 ?d1 ?d2 ?d3 ?d4 ?d5 ?d6 ?d7 ?d8 ?d9 ?jT ?jU ?zu ?zv ?zw ?zy ?zz ?zA ?zB ?zC ?zD ?zE ?zF ?zG ?zH ?zI ?qM ?zJ ?zK ?zL ?rS ?pH ?mF ?pI ?mG ?jP ?iN ?pJ ?rT ?gS ?rU ?rV ?rW ?mH ?lu
  (case d0|d1|d2|d3|d4|d5|d6|d7|d8|d9|jT|jU|zu|zv|zw|zy|zz|zA|zB|zC|zD|zE|zF|zG|zH|zI=>exact⟨_,_,_,_,_,_,_,_,_,_,by k_is,by k_is,by k_is,by k_is⟩)
  (case qM|zJ|zK|zL|rS|pH|mF|pI|mG|jP|iN|pJ|rT|gS|rU|rV|rW|mH|lu=>k_is)
